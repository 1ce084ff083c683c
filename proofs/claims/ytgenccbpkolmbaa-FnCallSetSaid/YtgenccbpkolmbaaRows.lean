/-
  No cell of these rows narrows 'for every input' (looked for: loops, veiled, ifaces, maps, wideKeys, modest, calm, conditions, laid).
  DERIVED. THE GIVEN ROWS OF THIS SEAT. 9 by the template 'for every input the law returns true; each argument reads behind the call as it read before'; 0 by the template 'total and deterministic' (their statements: YtgenccbpkolmbaaTotals.lean).
  GIVEN WITH THE SEED: the statements are not yours to turn. If you find one false, say at which input.
  Laid BY PROGRAM, IN A SANDBOX (cutbox-rows.mjs): the forced cells as the released guide's own fill.sh prints them over the translation f2516df47b22be80… (all of the seat's roots in one cut). By AI agents, Wed Nov 11 2026. No macro, syntax, notation, axiom, sorry.
-/
import Derived.Test.YtgenccbpkolmbaaChecked
import GoSem.Claim
import GoSem.ClaimJoined
import GoSem.ClaimMapViews
import Derived.JoinedTies
import Derived.KernelRfl
namespace Go.Proofs.Ytgenccbpkolmbaa
/- THE CELL 'sum', in the pinned program and in every row, IS THE sha256 OF THE DUMP (.gsa) THAT YtgenccbpkolmbaaProg.lean LOADS. Nothing in Lean hashes anything: it is a label: what it is worth is what the hold of that sum in a sandbox is worth. -/
noncomputable def Try.pinned : Pinned := { name := "ytgenccbpkolmbaa", sum := "f2516df47b22be80132dc2fd3776b1e249e5a20b324064579260e0b22a577516", checked := Try.checked }
namespace Rows
def none {H : Type} : Left H := { results := [], args := [] }

/-- 'laws.FnCallsValid': WHATEVER THE INPUT: true; the input reads as it did. -/
def fnCallsValidSpec : ChangeSpec := { name := "fnCallsValid", fn := fun _ => fun
  | [d] => { results := [.lit (.bool true)], args := [d] }
  | _ => none }
def fnCallsValidRow : OpenClaim := { program := "ytgenccbpkolmbaa", sum := "f2516df47b22be80132dc2fd3776b1e249e5a20b324064579260e0b22a577516", func := "loop.example/elevators/laws.FnCallsValid", spec := "fnCallsValid", apart := false }
def FnCallsValidSaid : Prop := fnCallsValidRow.holds Try.pinned (OpenSpec.ofChange fnCallsValidSpec)

/-- ITS FALSE NEIGHBOUR: 'it returns false'. Refute it at one input. -/
def fnCallsValidWrong : ChangeSpec := { name := "fnCallsValid", fn := fun _ => fun
  | [d] => { results := [.lit (.bool false)], args := [d] }
  | _ => none }
def FnCallsValidWrongFalsely : Prop := fnCallsValidRow.holds Try.pinned (OpenSpec.ofChange fnCallsValidWrong)

/-- 'laws.FnCallsNone': WHATEVER THE INPUT: true; the input reads as it did. -/
def fnCallsNoneSpec : ChangeSpec := { name := "fnCallsNone", fn := fun _ => fun
  | [d] => { results := [.lit (.bool true)], args := [d] }
  | _ => none }
def fnCallsNoneRow : OpenClaim := { program := "ytgenccbpkolmbaa", sum := "f2516df47b22be80132dc2fd3776b1e249e5a20b324064579260e0b22a577516", func := "loop.example/elevators/laws.FnCallsNone", spec := "fnCallsNone", apart := false }
def FnCallsNoneSaid : Prop := fnCallsNoneRow.holds Try.pinned (OpenSpec.ofChange fnCallsNoneSpec)

/-- ITS FALSE NEIGHBOUR: 'it returns false'. Refute it at one input. -/
def fnCallsNoneWrong : ChangeSpec := { name := "fnCallsNone", fn := fun _ => fun
  | [d] => { results := [.lit (.bool false)], args := [d] }
  | _ => none }
def FnCallsNoneWrongFalsely : Prop := fnCallsNoneRow.holds Try.pinned (OpenSpec.ofChange fnCallsNoneWrong)

/-- 'laws.FnCallSet': WHATEVER THE INPUT: true; the input reads as it did. -/
def fnCallSetSpec : ChangeSpec := { name := "fnCallSet", fn := fun _ => fun
  | [d] => { results := [.lit (.bool true)], args := [d] }
  | _ => none }
def fnCallSetRow : OpenClaim := { program := "ytgenccbpkolmbaa", sum := "f2516df47b22be80132dc2fd3776b1e249e5a20b324064579260e0b22a577516", func := "loop.example/elevators/laws.FnCallSet", spec := "fnCallSet", apart := false }
def FnCallSetSaid : Prop := fnCallSetRow.holds Try.pinned (OpenSpec.ofChange fnCallSetSpec)

/-- ITS FALSE NEIGHBOUR: 'it returns false'. Refute it at one input. -/
def fnCallSetWrong : ChangeSpec := { name := "fnCallSet", fn := fun _ => fun
  | [d] => { results := [.lit (.bool false)], args := [d] }
  | _ => none }
def FnCallSetWrongFalsely : Prop := fnCallSetRow.holds Try.pinned (OpenSpec.ofChange fnCallSetWrong)

/-- 'laws.FnCallsMany': WHATEVER THE INPUT: true; the input reads as it did. -/
def fnCallsManySpec : ChangeSpec := { name := "fnCallsMany", fn := fun _ => fun
  | [d] => { results := [.lit (.bool true)], args := [d] }
  | _ => none }
def fnCallsManyRow : OpenClaim := { program := "ytgenccbpkolmbaa", sum := "f2516df47b22be80132dc2fd3776b1e249e5a20b324064579260e0b22a577516", func := "loop.example/elevators/laws.FnCallsMany", spec := "fnCallsMany", apart := false }
def FnCallsManySaid : Prop := fnCallsManyRow.holds Try.pinned (OpenSpec.ofChange fnCallsManySpec)

/-- ITS FALSE NEIGHBOUR: 'it returns false'. Refute it at one input. -/
def fnCallsManyWrong : ChangeSpec := { name := "fnCallsMany", fn := fun _ => fun
  | [d] => { results := [.lit (.bool false)], args := [d] }
  | _ => none }
def FnCallsManyWrongFalsely : Prop := fnCallsManyRow.holds Try.pinned (OpenSpec.ofChange fnCallsManyWrong)

/-- 'laws.FnExactCallsValid': WHATEVER THE INPUT: true; the input reads as it did. -/
def fnExactCallsValidSpec : ChangeSpec := { name := "fnExactCallsValid", fn := fun _ => fun
  | [d] => { results := [.lit (.bool true)], args := [d] }
  | _ => none }
def fnExactCallsValidRow : OpenClaim := { program := "ytgenccbpkolmbaa", sum := "f2516df47b22be80132dc2fd3776b1e249e5a20b324064579260e0b22a577516", func := "loop.example/elevators/laws.FnExactCallsValid", spec := "fnExactCallsValid", apart := false }
def FnExactCallsValidSaid : Prop := fnExactCallsValidRow.holds Try.pinned (OpenSpec.ofChange fnExactCallsValidSpec)

/-- ITS FALSE NEIGHBOUR: 'it returns false'. Refute it at one input. -/
def fnExactCallsValidWrong : ChangeSpec := { name := "fnExactCallsValid", fn := fun _ => fun
  | [d] => { results := [.lit (.bool false)], args := [d] }
  | _ => none }
def FnExactCallsValidWrongFalsely : Prop := fnExactCallsValidRow.holds Try.pinned (OpenSpec.ofChange fnExactCallsValidWrong)

/-- 'laws.FnExactCallsNone': WHATEVER THE INPUT: true; the input reads as it did. -/
def fnExactCallsNoneSpec : ChangeSpec := { name := "fnExactCallsNone", fn := fun _ => fun
  | [d] => { results := [.lit (.bool true)], args := [d] }
  | _ => none }
def fnExactCallsNoneRow : OpenClaim := { program := "ytgenccbpkolmbaa", sum := "f2516df47b22be80132dc2fd3776b1e249e5a20b324064579260e0b22a577516", func := "loop.example/elevators/laws.FnExactCallsNone", spec := "fnExactCallsNone", apart := false }
def FnExactCallsNoneSaid : Prop := fnExactCallsNoneRow.holds Try.pinned (OpenSpec.ofChange fnExactCallsNoneSpec)

/-- ITS FALSE NEIGHBOUR: 'it returns false'. Refute it at one input. -/
def fnExactCallsNoneWrong : ChangeSpec := { name := "fnExactCallsNone", fn := fun _ => fun
  | [d] => { results := [.lit (.bool false)], args := [d] }
  | _ => none }
def FnExactCallsNoneWrongFalsely : Prop := fnExactCallsNoneRow.holds Try.pinned (OpenSpec.ofChange fnExactCallsNoneWrong)

/-- 'laws.FnExactCallSet': WHATEVER THE INPUT: true; the input reads as it did. -/
def fnExactCallSetSpec : ChangeSpec := { name := "fnExactCallSet", fn := fun _ => fun
  | [d1, d2, d3, d4] => { results := [.lit (.bool true)], args := [d1, d2, d3, d4] }
  | _ => none }
def fnExactCallSetRow : OpenClaim := { program := "ytgenccbpkolmbaa", sum := "f2516df47b22be80132dc2fd3776b1e249e5a20b324064579260e0b22a577516", func := "loop.example/elevators/laws.FnExactCallSet", spec := "fnExactCallSet", apart := false }
def FnExactCallSetSaid : Prop := fnExactCallSetRow.holds Try.pinned (OpenSpec.ofChange fnExactCallSetSpec)

/-- ITS FALSE NEIGHBOUR: 'it returns false'. Refute it at one input. -/
def fnExactCallSetWrong : ChangeSpec := { name := "fnExactCallSet", fn := fun _ => fun
  | [d1, d2, d3, d4] => { results := [.lit (.bool false)], args := [d1, d2, d3, d4] }
  | _ => none }
def FnExactCallSetWrongFalsely : Prop := fnExactCallSetRow.holds Try.pinned (OpenSpec.ofChange fnExactCallSetWrong)

/-- 'laws.FnExactCallsMany': WHATEVER THE INPUT: true; the input reads as it did. -/
def fnExactCallsManySpec : ChangeSpec := { name := "fnExactCallsMany", fn := fun _ => fun
  | [d] => { results := [.lit (.bool true)], args := [d] }
  | _ => none }
def fnExactCallsManyRow : OpenClaim := { program := "ytgenccbpkolmbaa", sum := "f2516df47b22be80132dc2fd3776b1e249e5a20b324064579260e0b22a577516", func := "loop.example/elevators/laws.FnExactCallsMany", spec := "fnExactCallsMany", apart := false }
def FnExactCallsManySaid : Prop := fnExactCallsManyRow.holds Try.pinned (OpenSpec.ofChange fnExactCallsManySpec)

/-- ITS FALSE NEIGHBOUR: 'it returns false'. Refute it at one input. -/
def fnExactCallsManyWrong : ChangeSpec := { name := "fnExactCallsMany", fn := fun _ => fun
  | [d] => { results := [.lit (.bool false)], args := [d] }
  | _ => none }
def FnExactCallsManyWrongFalsely : Prop := fnExactCallsManyRow.holds Try.pinned (OpenSpec.ofChange fnExactCallsManyWrong)

/-- 'laws.FnExactCallsText': WHATEVER THE INPUT: true; the input reads as it did. -/
def fnExactCallsTextSpec : ChangeSpec := { name := "fnExactCallsText", fn := fun _ => fun
  | [d] => { results := [.lit (.bool true)], args := [d] }
  | _ => none }
def fnExactCallsTextRow : OpenClaim := { program := "ytgenccbpkolmbaa", sum := "f2516df47b22be80132dc2fd3776b1e249e5a20b324064579260e0b22a577516", func := "loop.example/elevators/laws.FnExactCallsText", spec := "fnExactCallsText", inPlace := ["internal/abi.NoEscape", "internal/bytealg.MakeNoZero"], apart := false }
def FnExactCallsTextSaid : Prop := fnExactCallsTextRow.holds Try.pinned (OpenSpec.ofChange fnExactCallsTextSpec)

/-- ITS FALSE NEIGHBOUR: 'it returns false'. Refute it at one input. -/
def fnExactCallsTextWrong : ChangeSpec := { name := "fnExactCallsText", fn := fun _ => fun
  | [d] => { results := [.lit (.bool false)], args := [d] }
  | _ => none }
def FnExactCallsTextWrongFalsely : Prop := fnExactCallsTextRow.holds Try.pinned (OpenSpec.ofChange fnExactCallsTextWrong)

/- THE SECOND FORM. 'bulk': how many values and letters a reading holds, each counted each time it is reached (what is shared counts as often as it is met; a slice's spare places count too). A statement '..UptoSaid' is the law's where the arguments, and the package variables that the reading takes, are together of bulk at most 1048576: NARROWER than '..Said'. Prove '..Said' where nothing that the law and all that it calls make is longer than what came in: it says more and counts as full. Else prove '..UptoSaid'. A law counts once. -/
mutual
def uptoBulk {H : Type} : DataW H → Nat
  | .lit (.string bytes) => bytes.length + 1
  | .lit _ => 1
  | .nil => 1
  | .ptr d => uptoBulk d + 1
  | .slice elems spare => uptoBulkAll elems + uptoBulkAll spare + 1
  | .agg parts => uptoBulkAll parts + 1
  | .iface _ d => uptoBulk d + 1
  | .map entries => uptoBulkEntries entries + 1
  | .held _ => 1
def uptoBulkAll {H : Type} : List (DataW H) → Nat
  | [] => 0
  | d :: r => uptoBulk d + uptoBulkAll r
def uptoBulkEntries {H : Type} : List (Lit × DataW H) → Nat
  | [] => 0
  | x :: r => uptoBulkEntry x + uptoBulkEntries r
def uptoBulkEntry {H : Type} : Lit × DataW H → Nat
  | (.string bytes, d) => bytes.length + uptoBulk d + 1
  | (_, d) => uptoBulk d + 1
 end
def uptoSmall : (H : Type) → List (DataW H) → Bool := fun _ ds => decide (uptoBulkAll ds ≤ 1048576)
def OpenSpec.upto (s : _root_.Go.ChangeSpec) : _root_.Go.OpenSpec := { _root_.Go.OpenSpec.ofChange s with cond := some uptoSmall }

/-- 'laws.FnCallsValid', WHERE WHAT IT READS IS OF BULK AT MOST 1048576: true; the input reads as it did. -/
def fnCallsValidUptoRow : OpenClaim := { program := "ytgenccbpkolmbaa", sum := "f2516df47b22be80132dc2fd3776b1e249e5a20b324064579260e0b22a577516", func := "loop.example/elevators/laws.FnCallsValid", spec := "fnCallsValid", apart := false, narrowed := true }
def FnCallsValidUptoSaid : Prop := fnCallsValidUptoRow.holds Try.pinned (OpenSpec.upto fnCallsValidSpec)

/-- 'laws.FnCallsNone', WHERE WHAT IT READS IS OF BULK AT MOST 1048576: true; the input reads as it did. -/
def fnCallsNoneUptoRow : OpenClaim := { program := "ytgenccbpkolmbaa", sum := "f2516df47b22be80132dc2fd3776b1e249e5a20b324064579260e0b22a577516", func := "loop.example/elevators/laws.FnCallsNone", spec := "fnCallsNone", apart := false, narrowed := true }
def FnCallsNoneUptoSaid : Prop := fnCallsNoneUptoRow.holds Try.pinned (OpenSpec.upto fnCallsNoneSpec)

/-- 'laws.FnCallSet', WHERE WHAT IT READS IS OF BULK AT MOST 1048576: true; the input reads as it did. -/
def fnCallSetUptoRow : OpenClaim := { program := "ytgenccbpkolmbaa", sum := "f2516df47b22be80132dc2fd3776b1e249e5a20b324064579260e0b22a577516", func := "loop.example/elevators/laws.FnCallSet", spec := "fnCallSet", apart := false, narrowed := true }
def FnCallSetUptoSaid : Prop := fnCallSetUptoRow.holds Try.pinned (OpenSpec.upto fnCallSetSpec)

/-- 'laws.FnCallsMany', WHERE WHAT IT READS IS OF BULK AT MOST 1048576: true; the input reads as it did. -/
def fnCallsManyUptoRow : OpenClaim := { program := "ytgenccbpkolmbaa", sum := "f2516df47b22be80132dc2fd3776b1e249e5a20b324064579260e0b22a577516", func := "loop.example/elevators/laws.FnCallsMany", spec := "fnCallsMany", apart := false, narrowed := true }
def FnCallsManyUptoSaid : Prop := fnCallsManyUptoRow.holds Try.pinned (OpenSpec.upto fnCallsManySpec)

/-- 'laws.FnExactCallsValid', WHERE WHAT IT READS IS OF BULK AT MOST 1048576: true; the input reads as it did. -/
def fnExactCallsValidUptoRow : OpenClaim := { program := "ytgenccbpkolmbaa", sum := "f2516df47b22be80132dc2fd3776b1e249e5a20b324064579260e0b22a577516", func := "loop.example/elevators/laws.FnExactCallsValid", spec := "fnExactCallsValid", apart := false, narrowed := true }
def FnExactCallsValidUptoSaid : Prop := fnExactCallsValidUptoRow.holds Try.pinned (OpenSpec.upto fnExactCallsValidSpec)

/-- 'laws.FnExactCallsNone', WHERE WHAT IT READS IS OF BULK AT MOST 1048576: true; the input reads as it did. -/
def fnExactCallsNoneUptoRow : OpenClaim := { program := "ytgenccbpkolmbaa", sum := "f2516df47b22be80132dc2fd3776b1e249e5a20b324064579260e0b22a577516", func := "loop.example/elevators/laws.FnExactCallsNone", spec := "fnExactCallsNone", apart := false, narrowed := true }
def FnExactCallsNoneUptoSaid : Prop := fnExactCallsNoneUptoRow.holds Try.pinned (OpenSpec.upto fnExactCallsNoneSpec)

/-- 'laws.FnExactCallSet', WHERE WHAT IT READS IS OF BULK AT MOST 1048576: true; the input reads as it did. -/
def fnExactCallSetUptoRow : OpenClaim := { program := "ytgenccbpkolmbaa", sum := "f2516df47b22be80132dc2fd3776b1e249e5a20b324064579260e0b22a577516", func := "loop.example/elevators/laws.FnExactCallSet", spec := "fnExactCallSet", apart := false, narrowed := true }
def FnExactCallSetUptoSaid : Prop := fnExactCallSetUptoRow.holds Try.pinned (OpenSpec.upto fnExactCallSetSpec)

/-- 'laws.FnExactCallsMany', WHERE WHAT IT READS IS OF BULK AT MOST 1048576: true; the input reads as it did. -/
def fnExactCallsManyUptoRow : OpenClaim := { program := "ytgenccbpkolmbaa", sum := "f2516df47b22be80132dc2fd3776b1e249e5a20b324064579260e0b22a577516", func := "loop.example/elevators/laws.FnExactCallsMany", spec := "fnExactCallsMany", apart := false, narrowed := true }
def FnExactCallsManyUptoSaid : Prop := fnExactCallsManyUptoRow.holds Try.pinned (OpenSpec.upto fnExactCallsManySpec)

/-- 'laws.FnExactCallsText', WHERE WHAT IT READS IS OF BULK AT MOST 1048576: true; the input reads as it did. -/
def fnExactCallsTextUptoRow : OpenClaim := { program := "ytgenccbpkolmbaa", sum := "f2516df47b22be80132dc2fd3776b1e249e5a20b324064579260e0b22a577516", func := "loop.example/elevators/laws.FnExactCallsText", spec := "fnExactCallsText", inPlace := ["internal/abi.NoEscape", "internal/bytealg.MakeNoZero"], apart := false, narrowed := true }
def FnExactCallsTextUptoSaid : Prop := fnExactCallsTextUptoRow.holds Try.pinned (OpenSpec.upto fnExactCallsTextSpec)

end Rows
end Go.Proofs.Ytgenccbpkolmbaa

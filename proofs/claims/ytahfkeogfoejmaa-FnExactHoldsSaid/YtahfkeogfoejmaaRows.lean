/-
  No cell of these rows narrows 'for every input' (looked for: loops, veiled, ifaces, maps, wideKeys, modest, calm, conditions, laid).
  DERIVED. THE GIVEN ROWS OF THIS SEAT. 10 by the template 'for every input the law returns true; each argument reads behind the call as it read before'; 0 by the template 'total and deterministic' (their statements: YtahfkeogfoejmaaTotals.lean).
  GIVEN WITH THE SEED: the statements are not yours to turn. If you find one false, say at which input.
  Laid BY PROGRAM, IN A SANDBOX (cutbox-rows.mjs): the forced cells as the released guide's own fill.sh prints them over the translation 8e66d173f903267d… (all of the seat's roots in one cut). By AI agents, Wed Nov 11 2026. No macro, syntax, notation, axiom, sorry.
-/
import Derived.Test.YtahfkeogfoejmaaChecked
import GoSem.Claim
import GoSem.ClaimJoined
import GoSem.ClaimMapViews
import Derived.JoinedTies
import Derived.KernelRfl
namespace Go.Proofs.Ytahfkeogfoejmaa
/- THE CELL 'sum', in the pinned program and in every row, IS THE sha256 OF THE DUMP (.gsa) THAT YtahfkeogfoejmaaProg.lean LOADS. Nothing in Lean hashes anything: it is a label: what it is worth is what the hold of that sum in a sandbox is worth. -/
noncomputable def Try.pinned : Pinned := { name := "ytahfkeogfoejmaa", sum := "8e66d173f903267d8e225b4fd5ecdae9e33408f3b42d5be07091416f3a6c88ca", checked := Try.checked }
namespace Rows
def none {H : Type} : Left H := { results := [], args := [] }

/-- 'laws.FnRopeValid': WHATEVER THE INPUT: true; the input reads as it did. -/
def fnRopeValidSpec : ChangeSpec := { name := "fnRopeValid", fn := fun _ => fun
  | [d] => { results := [.lit (.bool true)], args := [d] }
  | _ => none }
def fnRopeValidRow : OpenClaim := { program := "ytahfkeogfoejmaa", sum := "8e66d173f903267d8e225b4fd5ecdae9e33408f3b42d5be07091416f3a6c88ca", func := "loop.example/elevators/laws.FnRopeValid", spec := "fnRopeValid", apart := false }
def FnRopeValidSaid : Prop := fnRopeValidRow.holds Try.pinned (OpenSpec.ofChange fnRopeValidSpec)

/-- ITS FALSE NEIGHBOUR: 'it returns false'. Refute it at one input. -/
def fnRopeValidWrong : ChangeSpec := { name := "fnRopeValid", fn := fun _ => fun
  | [d] => { results := [.lit (.bool false)], args := [d] }
  | _ => none }
def FnRopeValidWrongFalsely : Prop := fnRopeValidRow.holds Try.pinned (OpenSpec.ofChange fnRopeValidWrong)

/-- 'laws.FnWorstLay': WHATEVER THE INPUT: true; the input reads as it did. -/
def fnWorstLaySpec : ChangeSpec := { name := "fnWorstLay", fn := fun _ => fun
  | [d] => { results := [.lit (.bool true)], args := [d] }
  | _ => none }
def fnWorstLayRow : OpenClaim := { program := "ytahfkeogfoejmaa", sum := "8e66d173f903267d8e225b4fd5ecdae9e33408f3b42d5be07091416f3a6c88ca", func := "loop.example/elevators/laws.FnWorstLay", spec := "fnWorstLay", apart := false }
def FnWorstLaySaid : Prop := fnWorstLayRow.holds Try.pinned (OpenSpec.ofChange fnWorstLaySpec)

/-- ITS FALSE NEIGHBOUR: 'it returns false'. Refute it at one input. -/
def fnWorstLayWrong : ChangeSpec := { name := "fnWorstLay", fn := fun _ => fun
  | [d] => { results := [.lit (.bool false)], args := [d] }
  | _ => none }
def FnWorstLayWrongFalsely : Prop := fnWorstLayRow.holds Try.pinned (OpenSpec.ofChange fnWorstLayWrong)

/-- 'laws.FnDiscard': WHATEVER THE INPUT: true; the input reads as it did. -/
def fnDiscardSpec : ChangeSpec := { name := "fnDiscard", fn := fun _ => fun
  | [d] => { results := [.lit (.bool true)], args := [d] }
  | _ => none }
def fnDiscardRow : OpenClaim := { program := "ytahfkeogfoejmaa", sum := "8e66d173f903267d8e225b4fd5ecdae9e33408f3b42d5be07091416f3a6c88ca", func := "loop.example/elevators/laws.FnDiscard", spec := "fnDiscard", apart := false }
def FnDiscardSaid : Prop := fnDiscardRow.holds Try.pinned (OpenSpec.ofChange fnDiscardSpec)

/-- ITS FALSE NEIGHBOUR: 'it returns false'. Refute it at one input. -/
def fnDiscardWrong : ChangeSpec := { name := "fnDiscard", fn := fun _ => fun
  | [d] => { results := [.lit (.bool false)], args := [d] }
  | _ => none }
def FnDiscardWrongFalsely : Prop := fnDiscardRow.holds Try.pinned (OpenSpec.ofChange fnDiscardWrong)

/-- 'laws.FnHolds': WHATEVER THE INPUT: true; the input reads as it did. -/
def fnHoldsSpec : ChangeSpec := { name := "fnHolds", fn := fun _ => fun
  | [d] => { results := [.lit (.bool true)], args := [d] }
  | _ => none }
def fnHoldsRow : OpenClaim := { program := "ytahfkeogfoejmaa", sum := "8e66d173f903267d8e225b4fd5ecdae9e33408f3b42d5be07091416f3a6c88ca", func := "loop.example/elevators/laws.FnHolds", spec := "fnHolds", apart := false }
def FnHoldsSaid : Prop := fnHoldsRow.holds Try.pinned (OpenSpec.ofChange fnHoldsSpec)

/-- ITS FALSE NEIGHBOUR: 'it returns false'. Refute it at one input. -/
def fnHoldsWrong : ChangeSpec := { name := "fnHolds", fn := fun _ => fun
  | [d] => { results := [.lit (.bool false)], args := [d] }
  | _ => none }
def FnHoldsWrongFalsely : Prop := fnHoldsRow.holds Try.pinned (OpenSpec.ofChange fnHoldsWrong)

/-- 'laws.FnMostLoad': WHATEVER THE INPUT: true; the input reads as it did. -/
def fnMostLoadSpec : ChangeSpec := { name := "fnMostLoad", fn := fun _ => fun
  | [d] => { results := [.lit (.bool true)], args := [d] }
  | _ => none }
def fnMostLoadRow : OpenClaim := { program := "ytahfkeogfoejmaa", sum := "8e66d173f903267d8e225b4fd5ecdae9e33408f3b42d5be07091416f3a6c88ca", func := "loop.example/elevators/laws.FnMostLoad", spec := "fnMostLoad", apart := false }
def FnMostLoadSaid : Prop := fnMostLoadRow.holds Try.pinned (OpenSpec.ofChange fnMostLoadSpec)

/-- ITS FALSE NEIGHBOUR: 'it returns false'. Refute it at one input. -/
def fnMostLoadWrong : ChangeSpec := { name := "fnMostLoad", fn := fun _ => fun
  | [d] => { results := [.lit (.bool false)], args := [d] }
  | _ => none }
def FnMostLoadWrongFalsely : Prop := fnMostLoadRow.holds Try.pinned (OpenSpec.ofChange fnMostLoadWrong)

/-- 'laws.FnExactRopeValid': WHATEVER THE INPUT: true; the input reads as it did. -/
def fnExactRopeValidSpec : ChangeSpec := { name := "fnExactRopeValid", fn := fun _ => fun
  | [d] => { results := [.lit (.bool true)], args := [d] }
  | _ => none }
def fnExactRopeValidRow : OpenClaim := { program := "ytahfkeogfoejmaa", sum := "8e66d173f903267d8e225b4fd5ecdae9e33408f3b42d5be07091416f3a6c88ca", func := "loop.example/elevators/laws.FnExactRopeValid", spec := "fnExactRopeValid", apart := false }
def FnExactRopeValidSaid : Prop := fnExactRopeValidRow.holds Try.pinned (OpenSpec.ofChange fnExactRopeValidSpec)

/-- ITS FALSE NEIGHBOUR: 'it returns false'. Refute it at one input. -/
def fnExactRopeValidWrong : ChangeSpec := { name := "fnExactRopeValid", fn := fun _ => fun
  | [d] => { results := [.lit (.bool false)], args := [d] }
  | _ => none }
def FnExactRopeValidWrongFalsely : Prop := fnExactRopeValidRow.holds Try.pinned (OpenSpec.ofChange fnExactRopeValidWrong)

/-- 'laws.FnExactWorstLay': WHATEVER THE INPUT: true; the input reads as it did. -/
def fnExactWorstLaySpec : ChangeSpec := { name := "fnExactWorstLay", fn := fun _ => fun
  | [d] => { results := [.lit (.bool true)], args := [d] }
  | _ => none }
def fnExactWorstLayRow : OpenClaim := { program := "ytahfkeogfoejmaa", sum := "8e66d173f903267d8e225b4fd5ecdae9e33408f3b42d5be07091416f3a6c88ca", func := "loop.example/elevators/laws.FnExactWorstLay", spec := "fnExactWorstLay", apart := false }
def FnExactWorstLaySaid : Prop := fnExactWorstLayRow.holds Try.pinned (OpenSpec.ofChange fnExactWorstLaySpec)

/-- ITS FALSE NEIGHBOUR: 'it returns false'. Refute it at one input. -/
def fnExactWorstLayWrong : ChangeSpec := { name := "fnExactWorstLay", fn := fun _ => fun
  | [d] => { results := [.lit (.bool false)], args := [d] }
  | _ => none }
def FnExactWorstLayWrongFalsely : Prop := fnExactWorstLayRow.holds Try.pinned (OpenSpec.ofChange fnExactWorstLayWrong)

/-- 'laws.FnExactDiscard': WHATEVER THE INPUT: true; the input reads as it did. -/
def fnExactDiscardSpec : ChangeSpec := { name := "fnExactDiscard", fn := fun _ => fun
  | [d1, d2] => { results := [.lit (.bool true)], args := [d1, d2] }
  | _ => none }
def fnExactDiscardRow : OpenClaim := { program := "ytahfkeogfoejmaa", sum := "8e66d173f903267d8e225b4fd5ecdae9e33408f3b42d5be07091416f3a6c88ca", func := "loop.example/elevators/laws.FnExactDiscard", spec := "fnExactDiscard", apart := false }
def FnExactDiscardSaid : Prop := fnExactDiscardRow.holds Try.pinned (OpenSpec.ofChange fnExactDiscardSpec)

/-- ITS FALSE NEIGHBOUR: 'it returns false'. Refute it at one input. -/
def fnExactDiscardWrong : ChangeSpec := { name := "fnExactDiscard", fn := fun _ => fun
  | [d1, d2] => { results := [.lit (.bool false)], args := [d1, d2] }
  | _ => none }
def FnExactDiscardWrongFalsely : Prop := fnExactDiscardRow.holds Try.pinned (OpenSpec.ofChange fnExactDiscardWrong)

/-- 'laws.FnExactHolds': WHATEVER THE INPUT: true; the input reads as it did. -/
def fnExactHoldsSpec : ChangeSpec := { name := "fnExactHolds", fn := fun _ => fun
  | [d1, d2, d3, d4] => { results := [.lit (.bool true)], args := [d1, d2, d3, d4] }
  | _ => none }
def fnExactHoldsRow : OpenClaim := { program := "ytahfkeogfoejmaa", sum := "8e66d173f903267d8e225b4fd5ecdae9e33408f3b42d5be07091416f3a6c88ca", func := "loop.example/elevators/laws.FnExactHolds", spec := "fnExactHolds", apart := false }
def FnExactHoldsSaid : Prop := fnExactHoldsRow.holds Try.pinned (OpenSpec.ofChange fnExactHoldsSpec)

/-- ITS FALSE NEIGHBOUR: 'it returns false'. Refute it at one input. -/
def fnExactHoldsWrong : ChangeSpec := { name := "fnExactHolds", fn := fun _ => fun
  | [d1, d2, d3, d4] => { results := [.lit (.bool false)], args := [d1, d2, d3, d4] }
  | _ => none }
def FnExactHoldsWrongFalsely : Prop := fnExactHoldsRow.holds Try.pinned (OpenSpec.ofChange fnExactHoldsWrong)

/-- 'laws.FnExactMostLoad': WHATEVER THE INPUT: true; the input reads as it did. -/
def fnExactMostLoadSpec : ChangeSpec := { name := "fnExactMostLoad", fn := fun _ => fun
  | [d1, d2, d3] => { results := [.lit (.bool true)], args := [d1, d2, d3] }
  | _ => none }
def fnExactMostLoadRow : OpenClaim := { program := "ytahfkeogfoejmaa", sum := "8e66d173f903267d8e225b4fd5ecdae9e33408f3b42d5be07091416f3a6c88ca", func := "loop.example/elevators/laws.FnExactMostLoad", spec := "fnExactMostLoad", apart := false }
def FnExactMostLoadSaid : Prop := fnExactMostLoadRow.holds Try.pinned (OpenSpec.ofChange fnExactMostLoadSpec)

/-- ITS FALSE NEIGHBOUR: 'it returns false'. Refute it at one input. -/
def fnExactMostLoadWrong : ChangeSpec := { name := "fnExactMostLoad", fn := fun _ => fun
  | [d1, d2, d3] => { results := [.lit (.bool false)], args := [d1, d2, d3] }
  | _ => none }
def FnExactMostLoadWrongFalsely : Prop := fnExactMostLoadRow.holds Try.pinned (OpenSpec.ofChange fnExactMostLoadWrong)

/- THE SECOND FORM. 'bulk': how many values and letters a reading holds, each counted each time it is reached (what is shared counts as often as it is met; a slice's spare places count too). A statement '..UptoSaid' is the law's where the arguments, and the package variables that the reading takes, are together of bulk at most 1048576: NARROWER than '..Said'. Prove '..Said' where nothing that the law and all that it calls make is longer than what came in: it says more and counts as full. Else prove '..UptoSaid'. A law counts once. -/
mutual
def uptoBulk {H : Type} : DataW H → Nat
  | .lit (.string bytes) => bytes.length + 1
  | .lit _ => 1
  | .nil => 1
  | .ptr d => uptoBulk d + 1
  | .slice elems spare => uptoBulkAll elems + uptoBulkAll spare + 1
  | .agg parts => uptoBulkAll parts + 1
  | .iface _ d => uptoBulk d + 1
  | .map entries => uptoBulkEntries entries + 1
  | .held _ => 1
def uptoBulkAll {H : Type} : List (DataW H) → Nat
  | [] => 0
  | d :: r => uptoBulk d + uptoBulkAll r
def uptoBulkEntries {H : Type} : List (Lit × DataW H) → Nat
  | [] => 0
  | x :: r => uptoBulkEntry x + uptoBulkEntries r
def uptoBulkEntry {H : Type} : Lit × DataW H → Nat
  | (.string bytes, d) => bytes.length + uptoBulk d + 1
  | (_, d) => uptoBulk d + 1
 end
def uptoSmall : (H : Type) → List (DataW H) → Bool := fun _ ds => decide (uptoBulkAll ds ≤ 1048576)
def OpenSpec.upto (s : _root_.Go.ChangeSpec) : _root_.Go.OpenSpec := { _root_.Go.OpenSpec.ofChange s with cond := some uptoSmall }

/-- 'laws.FnRopeValid', WHERE WHAT IT READS IS OF BULK AT MOST 1048576: true; the input reads as it did. -/
def fnRopeValidUptoRow : OpenClaim := { program := "ytahfkeogfoejmaa", sum := "8e66d173f903267d8e225b4fd5ecdae9e33408f3b42d5be07091416f3a6c88ca", func := "loop.example/elevators/laws.FnRopeValid", spec := "fnRopeValid", apart := false, narrowed := true }
def FnRopeValidUptoSaid : Prop := fnRopeValidUptoRow.holds Try.pinned (OpenSpec.upto fnRopeValidSpec)

/-- 'laws.FnWorstLay', WHERE WHAT IT READS IS OF BULK AT MOST 1048576: true; the input reads as it did. -/
def fnWorstLayUptoRow : OpenClaim := { program := "ytahfkeogfoejmaa", sum := "8e66d173f903267d8e225b4fd5ecdae9e33408f3b42d5be07091416f3a6c88ca", func := "loop.example/elevators/laws.FnWorstLay", spec := "fnWorstLay", apart := false, narrowed := true }
def FnWorstLayUptoSaid : Prop := fnWorstLayUptoRow.holds Try.pinned (OpenSpec.upto fnWorstLaySpec)

/-- 'laws.FnDiscard', WHERE WHAT IT READS IS OF BULK AT MOST 1048576: true; the input reads as it did. -/
def fnDiscardUptoRow : OpenClaim := { program := "ytahfkeogfoejmaa", sum := "8e66d173f903267d8e225b4fd5ecdae9e33408f3b42d5be07091416f3a6c88ca", func := "loop.example/elevators/laws.FnDiscard", spec := "fnDiscard", apart := false, narrowed := true }
def FnDiscardUptoSaid : Prop := fnDiscardUptoRow.holds Try.pinned (OpenSpec.upto fnDiscardSpec)

/-- 'laws.FnHolds', WHERE WHAT IT READS IS OF BULK AT MOST 1048576: true; the input reads as it did. -/
def fnHoldsUptoRow : OpenClaim := { program := "ytahfkeogfoejmaa", sum := "8e66d173f903267d8e225b4fd5ecdae9e33408f3b42d5be07091416f3a6c88ca", func := "loop.example/elevators/laws.FnHolds", spec := "fnHolds", apart := false, narrowed := true }
def FnHoldsUptoSaid : Prop := fnHoldsUptoRow.holds Try.pinned (OpenSpec.upto fnHoldsSpec)

/-- 'laws.FnMostLoad', WHERE WHAT IT READS IS OF BULK AT MOST 1048576: true; the input reads as it did. -/
def fnMostLoadUptoRow : OpenClaim := { program := "ytahfkeogfoejmaa", sum := "8e66d173f903267d8e225b4fd5ecdae9e33408f3b42d5be07091416f3a6c88ca", func := "loop.example/elevators/laws.FnMostLoad", spec := "fnMostLoad", apart := false, narrowed := true }
def FnMostLoadUptoSaid : Prop := fnMostLoadUptoRow.holds Try.pinned (OpenSpec.upto fnMostLoadSpec)

/-- 'laws.FnExactRopeValid', WHERE WHAT IT READS IS OF BULK AT MOST 1048576: true; the input reads as it did. -/
def fnExactRopeValidUptoRow : OpenClaim := { program := "ytahfkeogfoejmaa", sum := "8e66d173f903267d8e225b4fd5ecdae9e33408f3b42d5be07091416f3a6c88ca", func := "loop.example/elevators/laws.FnExactRopeValid", spec := "fnExactRopeValid", apart := false, narrowed := true }
def FnExactRopeValidUptoSaid : Prop := fnExactRopeValidUptoRow.holds Try.pinned (OpenSpec.upto fnExactRopeValidSpec)

/-- 'laws.FnExactWorstLay', WHERE WHAT IT READS IS OF BULK AT MOST 1048576: true; the input reads as it did. -/
def fnExactWorstLayUptoRow : OpenClaim := { program := "ytahfkeogfoejmaa", sum := "8e66d173f903267d8e225b4fd5ecdae9e33408f3b42d5be07091416f3a6c88ca", func := "loop.example/elevators/laws.FnExactWorstLay", spec := "fnExactWorstLay", apart := false, narrowed := true }
def FnExactWorstLayUptoSaid : Prop := fnExactWorstLayUptoRow.holds Try.pinned (OpenSpec.upto fnExactWorstLaySpec)

/-- 'laws.FnExactDiscard', WHERE WHAT IT READS IS OF BULK AT MOST 1048576: true; the input reads as it did. -/
def fnExactDiscardUptoRow : OpenClaim := { program := "ytahfkeogfoejmaa", sum := "8e66d173f903267d8e225b4fd5ecdae9e33408f3b42d5be07091416f3a6c88ca", func := "loop.example/elevators/laws.FnExactDiscard", spec := "fnExactDiscard", apart := false, narrowed := true }
def FnExactDiscardUptoSaid : Prop := fnExactDiscardUptoRow.holds Try.pinned (OpenSpec.upto fnExactDiscardSpec)

/-- 'laws.FnExactHolds', WHERE WHAT IT READS IS OF BULK AT MOST 1048576: true; the input reads as it did. -/
def fnExactHoldsUptoRow : OpenClaim := { program := "ytahfkeogfoejmaa", sum := "8e66d173f903267d8e225b4fd5ecdae9e33408f3b42d5be07091416f3a6c88ca", func := "loop.example/elevators/laws.FnExactHolds", spec := "fnExactHolds", apart := false, narrowed := true }
def FnExactHoldsUptoSaid : Prop := fnExactHoldsUptoRow.holds Try.pinned (OpenSpec.upto fnExactHoldsSpec)

/-- 'laws.FnExactMostLoad', WHERE WHAT IT READS IS OF BULK AT MOST 1048576: true; the input reads as it did. -/
def fnExactMostLoadUptoRow : OpenClaim := { program := "ytahfkeogfoejmaa", sum := "8e66d173f903267d8e225b4fd5ecdae9e33408f3b42d5be07091416f3a6c88ca", func := "loop.example/elevators/laws.FnExactMostLoad", spec := "fnExactMostLoad", apart := false, narrowed := true }
def FnExactMostLoadUptoSaid : Prop := fnExactMostLoadUptoRow.holds Try.pinned (OpenSpec.upto fnExactMostLoadSpec)

end Rows
end Go.Proofs.Ytahfkeogfoejmaa

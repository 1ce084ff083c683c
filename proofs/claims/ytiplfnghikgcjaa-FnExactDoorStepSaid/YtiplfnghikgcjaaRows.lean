/-
  No cell of these rows narrows 'for every input' (looked for: loops, veiled, ifaces, maps, wideKeys, modest, calm, conditions, laid).
  DERIVED. THE GIVEN ROWS OF THIS SEAT. 8 by the template 'for every input the law returns true; each argument reads behind the call as it read before'; 0 by the template 'total and deterministic' (their statements: YtiplfnghikgcjaaTotals.lean).
  GIVEN WITH THE SEED: the statements are not yours to turn. If you find one false, say at which input.
  Laid BY PROGRAM, IN A SANDBOX (cutbox-rows.mjs): the forced cells as the released guide's own fill.sh prints them over the translation 8f192fd3420a7038… (all of the seat's roots in one cut). By AI agents, Wed Nov 11 2026. No macro, syntax, notation, axiom, sorry.
-/
import Derived.Test.YtiplfnghikgcjaaChecked
import GoSem.Claim
import GoSem.ClaimJoined
import GoSem.ClaimMapViews
import Derived.JoinedTies
import Derived.KernelRfl
namespace Go.Proofs.Ytiplfnghikgcjaa
/- THE CELL 'sum', in the pinned program and in every row, IS THE sha256 OF THE DUMP (.gsa) THAT YtiplfnghikgcjaaProg.lean LOADS. Nothing in Lean hashes anything: it is a label: what it is worth is what the hold of that sum in a sandbox is worth. -/
noncomputable def Try.pinned : Pinned := { name := "ytiplfnghikgcjaa", sum := "8f192fd3420a7038c0e23b8b5951a75dfa94a6c0eb89a32167ba5e1de0d79eb3", checked := Try.checked }
namespace Rows
def none {H : Type} : Left H := { results := [], args := [] }

/-- 'laws.FnDoorValid': WHATEVER THE INPUT: true; the input reads as it did. -/
def fnDoorValidSpec : ChangeSpec := { name := "fnDoorValid", fn := fun _ => fun
  | [d] => { results := [.lit (.bool true)], args := [d] }
  | _ => none }
def fnDoorValidRow : OpenClaim := { program := "ytiplfnghikgcjaa", sum := "8f192fd3420a7038c0e23b8b5951a75dfa94a6c0eb89a32167ba5e1de0d79eb3", func := "loop.example/elevators/laws.FnDoorValid", spec := "fnDoorValid", apart := false }
def FnDoorValidSaid : Prop := fnDoorValidRow.holds Try.pinned (OpenSpec.ofChange fnDoorValidSpec)

/-- ITS FALSE NEIGHBOUR: 'it returns false'. Refute it at one input. -/
def fnDoorValidWrong : ChangeSpec := { name := "fnDoorValid", fn := fun _ => fun
  | [d] => { results := [.lit (.bool false)], args := [d] }
  | _ => none }
def FnDoorValidWrongFalsely : Prop := fnDoorValidRow.holds Try.pinned (OpenSpec.ofChange fnDoorValidWrong)

/-- 'laws.FnDoorStep': WHATEVER THE INPUT: true; the input reads as it did. -/
def fnDoorStepSpec : ChangeSpec := { name := "fnDoorStep", fn := fun _ => fun
  | [d] => { results := [.lit (.bool true)], args := [d] }
  | _ => none }
def fnDoorStepRow : OpenClaim := { program := "ytiplfnghikgcjaa", sum := "8f192fd3420a7038c0e23b8b5951a75dfa94a6c0eb89a32167ba5e1de0d79eb3", func := "loop.example/elevators/laws.FnDoorStep", spec := "fnDoorStep", apart := false }
def FnDoorStepSaid : Prop := fnDoorStepRow.holds Try.pinned (OpenSpec.ofChange fnDoorStepSpec)

/-- ITS FALSE NEIGHBOUR: 'it returns false'. Refute it at one input. -/
def fnDoorStepWrong : ChangeSpec := { name := "fnDoorStep", fn := fun _ => fun
  | [d] => { results := [.lit (.bool false)], args := [d] }
  | _ => none }
def FnDoorStepWrongFalsely : Prop := fnDoorStepRow.holds Try.pinned (OpenSpec.ofChange fnDoorStepWrong)

/-- 'laws.FnDoorRun': WHATEVER THE INPUT: true; the input reads as it did. -/
def fnDoorRunSpec : ChangeSpec := { name := "fnDoorRun", fn := fun _ => fun
  | [d] => { results := [.lit (.bool true)], args := [d] }
  | _ => none }
def fnDoorRunRow : OpenClaim := { program := "ytiplfnghikgcjaa", sum := "8f192fd3420a7038c0e23b8b5951a75dfa94a6c0eb89a32167ba5e1de0d79eb3", func := "loop.example/elevators/laws.FnDoorRun", spec := "fnDoorRun", apart := false }
def FnDoorRunSaid : Prop := fnDoorRunRow.holds Try.pinned (OpenSpec.ofChange fnDoorRunSpec)

/-- ITS FALSE NEIGHBOUR: 'it returns false'. Refute it at one input. -/
def fnDoorRunWrong : ChangeSpec := { name := "fnDoorRun", fn := fun _ => fun
  | [d] => { results := [.lit (.bool false)], args := [d] }
  | _ => none }
def FnDoorRunWrongFalsely : Prop := fnDoorRunRow.holds Try.pinned (OpenSpec.ofChange fnDoorRunWrong)

/-- 'laws.FnDoorTicks': WHATEVER THE INPUT: true; the input reads as it did. -/
def fnDoorTicksSpec : ChangeSpec := { name := "fnDoorTicks", fn := fun _ => fun
  | [d] => { results := [.lit (.bool true)], args := [d] }
  | _ => none }
def fnDoorTicksRow : OpenClaim := { program := "ytiplfnghikgcjaa", sum := "8f192fd3420a7038c0e23b8b5951a75dfa94a6c0eb89a32167ba5e1de0d79eb3", func := "loop.example/elevators/laws.FnDoorTicks", spec := "fnDoorTicks", apart := false }
def FnDoorTicksSaid : Prop := fnDoorTicksRow.holds Try.pinned (OpenSpec.ofChange fnDoorTicksSpec)

/-- ITS FALSE NEIGHBOUR: 'it returns false'. Refute it at one input. -/
def fnDoorTicksWrong : ChangeSpec := { name := "fnDoorTicks", fn := fun _ => fun
  | [d] => { results := [.lit (.bool false)], args := [d] }
  | _ => none }
def FnDoorTicksWrongFalsely : Prop := fnDoorTicksRow.holds Try.pinned (OpenSpec.ofChange fnDoorTicksWrong)

/-- 'laws.FnExactDoorValid': WHATEVER THE INPUT: true; the input reads as it did. -/
def fnExactDoorValidSpec : ChangeSpec := { name := "fnExactDoorValid", fn := fun _ => fun
  | [d] => { results := [.lit (.bool true)], args := [d] }
  | _ => none }
def fnExactDoorValidRow : OpenClaim := { program := "ytiplfnghikgcjaa", sum := "8f192fd3420a7038c0e23b8b5951a75dfa94a6c0eb89a32167ba5e1de0d79eb3", func := "loop.example/elevators/laws.FnExactDoorValid", spec := "fnExactDoorValid", apart := false }
def FnExactDoorValidSaid : Prop := fnExactDoorValidRow.holds Try.pinned (OpenSpec.ofChange fnExactDoorValidSpec)

/-- ITS FALSE NEIGHBOUR: 'it returns false'. Refute it at one input. -/
def fnExactDoorValidWrong : ChangeSpec := { name := "fnExactDoorValid", fn := fun _ => fun
  | [d] => { results := [.lit (.bool false)], args := [d] }
  | _ => none }
def FnExactDoorValidWrongFalsely : Prop := fnExactDoorValidRow.holds Try.pinned (OpenSpec.ofChange fnExactDoorValidWrong)

/-- 'laws.FnExactDoorStep': WHATEVER THE INPUT: true; the input reads as it did. -/
def fnExactDoorStepSpec : ChangeSpec := { name := "fnExactDoorStep", fn := fun _ => fun
  | [d1, d2, d3] => { results := [.lit (.bool true)], args := [d1, d2, d3] }
  | _ => none }
def fnExactDoorStepRow : OpenClaim := { program := "ytiplfnghikgcjaa", sum := "8f192fd3420a7038c0e23b8b5951a75dfa94a6c0eb89a32167ba5e1de0d79eb3", func := "loop.example/elevators/laws.FnExactDoorStep", spec := "fnExactDoorStep", apart := false }
def FnExactDoorStepSaid : Prop := fnExactDoorStepRow.holds Try.pinned (OpenSpec.ofChange fnExactDoorStepSpec)

/-- ITS FALSE NEIGHBOUR: 'it returns false'. Refute it at one input. -/
def fnExactDoorStepWrong : ChangeSpec := { name := "fnExactDoorStep", fn := fun _ => fun
  | [d1, d2, d3] => { results := [.lit (.bool false)], args := [d1, d2, d3] }
  | _ => none }
def FnExactDoorStepWrongFalsely : Prop := fnExactDoorStepRow.holds Try.pinned (OpenSpec.ofChange fnExactDoorStepWrong)

/-- 'laws.FnExactDoorRun': WHATEVER THE INPUT: true; the input reads as it did. -/
def fnExactDoorRunSpec : ChangeSpec := { name := "fnExactDoorRun", fn := fun _ => fun
  | [d1, d2, d3, d4] => { results := [.lit (.bool true)], args := [d1, d2, d3, d4] }
  | _ => none }
def fnExactDoorRunRow : OpenClaim := { program := "ytiplfnghikgcjaa", sum := "8f192fd3420a7038c0e23b8b5951a75dfa94a6c0eb89a32167ba5e1de0d79eb3", func := "loop.example/elevators/laws.FnExactDoorRun", spec := "fnExactDoorRun", apart := false }
def FnExactDoorRunSaid : Prop := fnExactDoorRunRow.holds Try.pinned (OpenSpec.ofChange fnExactDoorRunSpec)

/-- ITS FALSE NEIGHBOUR: 'it returns false'. Refute it at one input. -/
def fnExactDoorRunWrong : ChangeSpec := { name := "fnExactDoorRun", fn := fun _ => fun
  | [d1, d2, d3, d4] => { results := [.lit (.bool false)], args := [d1, d2, d3, d4] }
  | _ => none }
def FnExactDoorRunWrongFalsely : Prop := fnExactDoorRunRow.holds Try.pinned (OpenSpec.ofChange fnExactDoorRunWrong)

/-- 'laws.FnExactDoorTicks': WHATEVER THE INPUT: true; the input reads as it did. -/
def fnExactDoorTicksSpec : ChangeSpec := { name := "fnExactDoorTicks", fn := fun _ => fun
  | [d] => { results := [.lit (.bool true)], args := [d] }
  | _ => none }
def fnExactDoorTicksRow : OpenClaim := { program := "ytiplfnghikgcjaa", sum := "8f192fd3420a7038c0e23b8b5951a75dfa94a6c0eb89a32167ba5e1de0d79eb3", func := "loop.example/elevators/laws.FnExactDoorTicks", spec := "fnExactDoorTicks", apart := false }
def FnExactDoorTicksSaid : Prop := fnExactDoorTicksRow.holds Try.pinned (OpenSpec.ofChange fnExactDoorTicksSpec)

/-- ITS FALSE NEIGHBOUR: 'it returns false'. Refute it at one input. -/
def fnExactDoorTicksWrong : ChangeSpec := { name := "fnExactDoorTicks", fn := fun _ => fun
  | [d] => { results := [.lit (.bool false)], args := [d] }
  | _ => none }
def FnExactDoorTicksWrongFalsely : Prop := fnExactDoorTicksRow.holds Try.pinned (OpenSpec.ofChange fnExactDoorTicksWrong)

/- THE SECOND FORM. 'bulk': how many values and letters a reading holds, each counted each time it is reached (what is shared counts as often as it is met; a slice's spare places count too). A statement '..UptoSaid' is the law's where the arguments, and the package variables that the reading takes, are together of bulk at most 1048576: NARROWER than '..Said'. Prove '..Said' where nothing that the law and all that it calls make is longer than what came in: it says more and counts as full. Else prove '..UptoSaid'. A law counts once. -/
mutual
def uptoBulk {H : Type} : DataW H → Nat
  | .lit (.string bytes) => bytes.length + 1
  | .lit _ => 1
  | .nil => 1
  | .ptr d => uptoBulk d + 1
  | .slice elems spare => uptoBulkAll elems + uptoBulkAll spare + 1
  | .agg parts => uptoBulkAll parts + 1
  | .iface _ d => uptoBulk d + 1
  | .map entries => uptoBulkEntries entries + 1
  | .held _ => 1
def uptoBulkAll {H : Type} : List (DataW H) → Nat
  | [] => 0
  | d :: r => uptoBulk d + uptoBulkAll r
def uptoBulkEntries {H : Type} : List (Lit × DataW H) → Nat
  | [] => 0
  | x :: r => uptoBulkEntry x + uptoBulkEntries r
def uptoBulkEntry {H : Type} : Lit × DataW H → Nat
  | (.string bytes, d) => bytes.length + uptoBulk d + 1
  | (_, d) => uptoBulk d + 1
 end
def uptoSmall : (H : Type) → List (DataW H) → Bool := fun _ ds => decide (uptoBulkAll ds ≤ 1048576)
def OpenSpec.upto (s : _root_.Go.ChangeSpec) : _root_.Go.OpenSpec := { _root_.Go.OpenSpec.ofChange s with cond := some uptoSmall }

/-- 'laws.FnDoorValid', WHERE WHAT IT READS IS OF BULK AT MOST 1048576: true; the input reads as it did. -/
def fnDoorValidUptoRow : OpenClaim := { program := "ytiplfnghikgcjaa", sum := "8f192fd3420a7038c0e23b8b5951a75dfa94a6c0eb89a32167ba5e1de0d79eb3", func := "loop.example/elevators/laws.FnDoorValid", spec := "fnDoorValid", apart := false, narrowed := true }
def FnDoorValidUptoSaid : Prop := fnDoorValidUptoRow.holds Try.pinned (OpenSpec.upto fnDoorValidSpec)

/-- 'laws.FnDoorStep', WHERE WHAT IT READS IS OF BULK AT MOST 1048576: true; the input reads as it did. -/
def fnDoorStepUptoRow : OpenClaim := { program := "ytiplfnghikgcjaa", sum := "8f192fd3420a7038c0e23b8b5951a75dfa94a6c0eb89a32167ba5e1de0d79eb3", func := "loop.example/elevators/laws.FnDoorStep", spec := "fnDoorStep", apart := false, narrowed := true }
def FnDoorStepUptoSaid : Prop := fnDoorStepUptoRow.holds Try.pinned (OpenSpec.upto fnDoorStepSpec)

/-- 'laws.FnDoorRun', WHERE WHAT IT READS IS OF BULK AT MOST 1048576: true; the input reads as it did. -/
def fnDoorRunUptoRow : OpenClaim := { program := "ytiplfnghikgcjaa", sum := "8f192fd3420a7038c0e23b8b5951a75dfa94a6c0eb89a32167ba5e1de0d79eb3", func := "loop.example/elevators/laws.FnDoorRun", spec := "fnDoorRun", apart := false, narrowed := true }
def FnDoorRunUptoSaid : Prop := fnDoorRunUptoRow.holds Try.pinned (OpenSpec.upto fnDoorRunSpec)

/-- 'laws.FnDoorTicks', WHERE WHAT IT READS IS OF BULK AT MOST 1048576: true; the input reads as it did. -/
def fnDoorTicksUptoRow : OpenClaim := { program := "ytiplfnghikgcjaa", sum := "8f192fd3420a7038c0e23b8b5951a75dfa94a6c0eb89a32167ba5e1de0d79eb3", func := "loop.example/elevators/laws.FnDoorTicks", spec := "fnDoorTicks", apart := false, narrowed := true }
def FnDoorTicksUptoSaid : Prop := fnDoorTicksUptoRow.holds Try.pinned (OpenSpec.upto fnDoorTicksSpec)

/-- 'laws.FnExactDoorValid', WHERE WHAT IT READS IS OF BULK AT MOST 1048576: true; the input reads as it did. -/
def fnExactDoorValidUptoRow : OpenClaim := { program := "ytiplfnghikgcjaa", sum := "8f192fd3420a7038c0e23b8b5951a75dfa94a6c0eb89a32167ba5e1de0d79eb3", func := "loop.example/elevators/laws.FnExactDoorValid", spec := "fnExactDoorValid", apart := false, narrowed := true }
def FnExactDoorValidUptoSaid : Prop := fnExactDoorValidUptoRow.holds Try.pinned (OpenSpec.upto fnExactDoorValidSpec)

/-- 'laws.FnExactDoorStep', WHERE WHAT IT READS IS OF BULK AT MOST 1048576: true; the input reads as it did. -/
def fnExactDoorStepUptoRow : OpenClaim := { program := "ytiplfnghikgcjaa", sum := "8f192fd3420a7038c0e23b8b5951a75dfa94a6c0eb89a32167ba5e1de0d79eb3", func := "loop.example/elevators/laws.FnExactDoorStep", spec := "fnExactDoorStep", apart := false, narrowed := true }
def FnExactDoorStepUptoSaid : Prop := fnExactDoorStepUptoRow.holds Try.pinned (OpenSpec.upto fnExactDoorStepSpec)

/-- 'laws.FnExactDoorRun', WHERE WHAT IT READS IS OF BULK AT MOST 1048576: true; the input reads as it did. -/
def fnExactDoorRunUptoRow : OpenClaim := { program := "ytiplfnghikgcjaa", sum := "8f192fd3420a7038c0e23b8b5951a75dfa94a6c0eb89a32167ba5e1de0d79eb3", func := "loop.example/elevators/laws.FnExactDoorRun", spec := "fnExactDoorRun", apart := false, narrowed := true }
def FnExactDoorRunUptoSaid : Prop := fnExactDoorRunUptoRow.holds Try.pinned (OpenSpec.upto fnExactDoorRunSpec)

/-- 'laws.FnExactDoorTicks', WHERE WHAT IT READS IS OF BULK AT MOST 1048576: true; the input reads as it did. -/
def fnExactDoorTicksUptoRow : OpenClaim := { program := "ytiplfnghikgcjaa", sum := "8f192fd3420a7038c0e23b8b5951a75dfa94a6c0eb89a32167ba5e1de0d79eb3", func := "loop.example/elevators/laws.FnExactDoorTicks", spec := "fnExactDoorTicks", apart := false, narrowed := true }
def FnExactDoorTicksUptoSaid : Prop := fnExactDoorTicksUptoRow.holds Try.pinned (OpenSpec.upto fnExactDoorTicksSpec)

end Rows
end Go.Proofs.Ytiplfnghikgcjaa

/-
  No cell of these rows narrows 'for every input' (looked for: loops, veiled, ifaces, maps, wideKeys, modest, calm, conditions, laid).
  DERIVED. THE GIVEN ROWS OF THIS SEAT. 10 by the template 'for every input the law returns true; each argument reads behind the call as it read before'; 0 by the template 'total and deterministic' (their statements: YtaipbfagiiclnaaTotals.lean).
  GIVEN WITH THE SEED: the statements are not yours to turn. If you find one false, say at which input.
  Laid BY PROGRAM, IN A SANDBOX (cutbox-rows.mjs): the forced cells as the released guide's own fill.sh prints them over the translation 3f3f8ce1f806d7b2… (all of the seat's roots in one cut). By AI agents, Wed Nov 11 2026. No macro, syntax, notation, axiom, sorry.
-/
import Derived.Test.YtaipbfagiiclnaaChecked
import GoSem.Claim
import GoSem.ClaimJoined
import GoSem.ClaimMapViews
import Derived.JoinedTies
import Derived.KernelRfl
namespace Go.Proofs.Ytaipbfagiiclnaa
/- THE CELL 'sum', in the pinned program and in every row, IS THE sha256 OF THE DUMP (.gsa) THAT YtaipbfagiiclnaaProg.lean LOADS. Nothing in Lean hashes anything: it is a label: what it is worth is what the hold of that sum in a sandbox is worth. -/
noncomputable def Try.pinned : Pinned := { name := "ytaipbfagiiclnaa", sum := "3f3f8ce1f806d7b2d236a39267807d9a37f52c6710f3837b3ed5328c94ad9a73", checked := Try.checked }
namespace Rows
def none {H : Type} : Left H := { results := [], args := [] }

/-- 'laws.FnLoadSum': WHATEVER THE INPUT: true; the input reads as it did. -/
def fnLoadSumSpec : ChangeSpec := { name := "fnLoadSum", fn := fun _ => fun
  | [d] => { results := [.lit (.bool true)], args := [d] }
  | _ => none }
def fnLoadSumRow : OpenClaim := { program := "ytaipbfagiiclnaa", sum := "3f3f8ce1f806d7b2d236a39267807d9a37f52c6710f3837b3ed5328c94ad9a73", func := "loop.example/elevators/laws.FnLoadSum", spec := "fnLoadSum", apart := false }
def FnLoadSumSaid : Prop := fnLoadSumRow.holds Try.pinned (OpenSpec.ofChange fnLoadSumSpec)

/-- ITS FALSE NEIGHBOUR: 'it returns false'. Refute it at one input. -/
def fnLoadSumWrong : ChangeSpec := { name := "fnLoadSum", fn := fun _ => fun
  | [d] => { results := [.lit (.bool false)], args := [d] }
  | _ => none }
def FnLoadSumWrongFalsely : Prop := fnLoadSumRow.holds Try.pinned (OpenSpec.ofChange fnLoadSumWrong)

/-- 'laws.FnOverloaded': WHATEVER THE INPUT: true; the input reads as it did. -/
def fnOverloadedSpec : ChangeSpec := { name := "fnOverloaded", fn := fun _ => fun
  | [d] => { results := [.lit (.bool true)], args := [d] }
  | _ => none }
def fnOverloadedRow : OpenClaim := { program := "ytaipbfagiiclnaa", sum := "3f3f8ce1f806d7b2d236a39267807d9a37f52c6710f3837b3ed5328c94ad9a73", func := "loop.example/elevators/laws.FnOverloaded", spec := "fnOverloaded", apart := false }
def FnOverloadedSaid : Prop := fnOverloadedRow.holds Try.pinned (OpenSpec.ofChange fnOverloadedSpec)

/-- ITS FALSE NEIGHBOUR: 'it returns false'. Refute it at one input. -/
def fnOverloadedWrong : ChangeSpec := { name := "fnOverloaded", fn := fun _ => fun
  | [d] => { results := [.lit (.bool false)], args := [d] }
  | _ => none }
def FnOverloadedWrongFalsely : Prop := fnOverloadedRow.holds Try.pinned (OpenSpec.ofChange fnOverloadedWrong)

/-- 'laws.FnLoadFirst': WHATEVER THE INPUT: true; the input reads as it did. -/
def fnLoadFirstSpec : ChangeSpec := { name := "fnLoadFirst", fn := fun _ => fun
  | [d] => { results := [.lit (.bool true)], args := [d] }
  | _ => none }
def fnLoadFirstRow : OpenClaim := { program := "ytaipbfagiiclnaa", sum := "3f3f8ce1f806d7b2d236a39267807d9a37f52c6710f3837b3ed5328c94ad9a73", func := "loop.example/elevators/laws.FnLoadFirst", spec := "fnLoadFirst", apart := false }
def FnLoadFirstSaid : Prop := fnLoadFirstRow.holds Try.pinned (OpenSpec.ofChange fnLoadFirstSpec)

/-- ITS FALSE NEIGHBOUR: 'it returns false'. Refute it at one input. -/
def fnLoadFirstWrong : ChangeSpec := { name := "fnLoadFirst", fn := fun _ => fun
  | [d] => { results := [.lit (.bool false)], args := [d] }
  | _ => none }
def FnLoadFirstWrongFalsely : Prop := fnLoadFirstRow.holds Try.pinned (OpenSpec.ofChange fnLoadFirstWrong)

/-- 'laws.FnTripWork': WHATEVER THE INPUT: true; the input reads as it did. -/
def fnTripWorkSpec : ChangeSpec := { name := "fnTripWork", fn := fun _ => fun
  | [d] => { results := [.lit (.bool true)], args := [d] }
  | _ => none }
def fnTripWorkRow : OpenClaim := { program := "ytaipbfagiiclnaa", sum := "3f3f8ce1f806d7b2d236a39267807d9a37f52c6710f3837b3ed5328c94ad9a73", func := "loop.example/elevators/laws.FnTripWork", spec := "fnTripWork", apart := false }
def FnTripWorkSaid : Prop := fnTripWorkRow.holds Try.pinned (OpenSpec.ofChange fnTripWorkSpec)

/-- ITS FALSE NEIGHBOUR: 'it returns false'. Refute it at one input. -/
def fnTripWorkWrong : ChangeSpec := { name := "fnTripWork", fn := fun _ => fun
  | [d] => { results := [.lit (.bool false)], args := [d] }
  | _ => none }
def FnTripWorkWrongFalsely : Prop := fnTripWorkRow.holds Try.pinned (OpenSpec.ofChange fnTripWorkWrong)

/-- 'laws.FnTourWork': WHATEVER THE INPUT: true; the input reads as it did. -/
def fnTourWorkSpec : ChangeSpec := { name := "fnTourWork", fn := fun _ => fun
  | [d] => { results := [.lit (.bool true)], args := [d] }
  | _ => none }
def fnTourWorkRow : OpenClaim := { program := "ytaipbfagiiclnaa", sum := "3f3f8ce1f806d7b2d236a39267807d9a37f52c6710f3837b3ed5328c94ad9a73", func := "loop.example/elevators/laws.FnTourWork", spec := "fnTourWork", apart := false }
def FnTourWorkSaid : Prop := fnTourWorkRow.holds Try.pinned (OpenSpec.ofChange fnTourWorkSpec)

/-- ITS FALSE NEIGHBOUR: 'it returns false'. Refute it at one input. -/
def fnTourWorkWrong : ChangeSpec := { name := "fnTourWork", fn := fun _ => fun
  | [d] => { results := [.lit (.bool false)], args := [d] }
  | _ => none }
def FnTourWorkWrongFalsely : Prop := fnTourWorkRow.holds Try.pinned (OpenSpec.ofChange fnTourWorkWrong)

/-- 'laws.FnExactLoadSum': WHATEVER THE INPUT: true; the input reads as it did. -/
def fnExactLoadSumSpec : ChangeSpec := { name := "fnExactLoadSum", fn := fun _ => fun
  | [d] => { results := [.lit (.bool true)], args := [d] }
  | _ => none }
def fnExactLoadSumRow : OpenClaim := { program := "ytaipbfagiiclnaa", sum := "3f3f8ce1f806d7b2d236a39267807d9a37f52c6710f3837b3ed5328c94ad9a73", func := "loop.example/elevators/laws.FnExactLoadSum", spec := "fnExactLoadSum", apart := false }
def FnExactLoadSumSaid : Prop := fnExactLoadSumRow.holds Try.pinned (OpenSpec.ofChange fnExactLoadSumSpec)

/-- ITS FALSE NEIGHBOUR: 'it returns false'. Refute it at one input. -/
def fnExactLoadSumWrong : ChangeSpec := { name := "fnExactLoadSum", fn := fun _ => fun
  | [d] => { results := [.lit (.bool false)], args := [d] }
  | _ => none }
def FnExactLoadSumWrongFalsely : Prop := fnExactLoadSumRow.holds Try.pinned (OpenSpec.ofChange fnExactLoadSumWrong)

/-- 'laws.FnExactOverloaded': WHATEVER THE INPUT: true; the input reads as it did. -/
def fnExactOverloadedSpec : ChangeSpec := { name := "fnExactOverloaded", fn := fun _ => fun
  | [d] => { results := [.lit (.bool true)], args := [d] }
  | _ => none }
def fnExactOverloadedRow : OpenClaim := { program := "ytaipbfagiiclnaa", sum := "3f3f8ce1f806d7b2d236a39267807d9a37f52c6710f3837b3ed5328c94ad9a73", func := "loop.example/elevators/laws.FnExactOverloaded", spec := "fnExactOverloaded", apart := false }
def FnExactOverloadedSaid : Prop := fnExactOverloadedRow.holds Try.pinned (OpenSpec.ofChange fnExactOverloadedSpec)

/-- ITS FALSE NEIGHBOUR: 'it returns false'. Refute it at one input. -/
def fnExactOverloadedWrong : ChangeSpec := { name := "fnExactOverloaded", fn := fun _ => fun
  | [d] => { results := [.lit (.bool false)], args := [d] }
  | _ => none }
def FnExactOverloadedWrongFalsely : Prop := fnExactOverloadedRow.holds Try.pinned (OpenSpec.ofChange fnExactOverloadedWrong)

/-- 'laws.FnExactLoadFirst': WHATEVER THE INPUT: true; the input reads as it did. -/
def fnExactLoadFirstSpec : ChangeSpec := { name := "fnExactLoadFirst", fn := fun _ => fun
  | [d] => { results := [.lit (.bool true)], args := [d] }
  | _ => none }
def fnExactLoadFirstRow : OpenClaim := { program := "ytaipbfagiiclnaa", sum := "3f3f8ce1f806d7b2d236a39267807d9a37f52c6710f3837b3ed5328c94ad9a73", func := "loop.example/elevators/laws.FnExactLoadFirst", spec := "fnExactLoadFirst", apart := false }
def FnExactLoadFirstSaid : Prop := fnExactLoadFirstRow.holds Try.pinned (OpenSpec.ofChange fnExactLoadFirstSpec)

/-- ITS FALSE NEIGHBOUR: 'it returns false'. Refute it at one input. -/
def fnExactLoadFirstWrong : ChangeSpec := { name := "fnExactLoadFirst", fn := fun _ => fun
  | [d] => { results := [.lit (.bool false)], args := [d] }
  | _ => none }
def FnExactLoadFirstWrongFalsely : Prop := fnExactLoadFirstRow.holds Try.pinned (OpenSpec.ofChange fnExactLoadFirstWrong)

/-- 'laws.FnExactTripWork': WHATEVER THE INPUT: true; the input reads as it did. -/
def fnExactTripWorkSpec : ChangeSpec := { name := "fnExactTripWork", fn := fun _ => fun
  | [d1, d2, d3, d4] => { results := [.lit (.bool true)], args := [d1, d2, d3, d4] }
  | _ => none }
def fnExactTripWorkRow : OpenClaim := { program := "ytaipbfagiiclnaa", sum := "3f3f8ce1f806d7b2d236a39267807d9a37f52c6710f3837b3ed5328c94ad9a73", func := "loop.example/elevators/laws.FnExactTripWork", spec := "fnExactTripWork", apart := false }
def FnExactTripWorkSaid : Prop := fnExactTripWorkRow.holds Try.pinned (OpenSpec.ofChange fnExactTripWorkSpec)

/-- ITS FALSE NEIGHBOUR: 'it returns false'. Refute it at one input. -/
def fnExactTripWorkWrong : ChangeSpec := { name := "fnExactTripWork", fn := fun _ => fun
  | [d1, d2, d3, d4] => { results := [.lit (.bool false)], args := [d1, d2, d3, d4] }
  | _ => none }
def FnExactTripWorkWrongFalsely : Prop := fnExactTripWorkRow.holds Try.pinned (OpenSpec.ofChange fnExactTripWorkWrong)

/-- 'laws.FnExactTourWork': WHATEVER THE INPUT: true; the input reads as it did. -/
def fnExactTourWorkSpec : ChangeSpec := { name := "fnExactTourWork", fn := fun _ => fun
  | [d1, d2, d3] => { results := [.lit (.bool true)], args := [d1, d2, d3] }
  | _ => none }
def fnExactTourWorkRow : OpenClaim := { program := "ytaipbfagiiclnaa", sum := "3f3f8ce1f806d7b2d236a39267807d9a37f52c6710f3837b3ed5328c94ad9a73", func := "loop.example/elevators/laws.FnExactTourWork", spec := "fnExactTourWork", apart := false }
def FnExactTourWorkSaid : Prop := fnExactTourWorkRow.holds Try.pinned (OpenSpec.ofChange fnExactTourWorkSpec)

/-- ITS FALSE NEIGHBOUR: 'it returns false'. Refute it at one input. -/
def fnExactTourWorkWrong : ChangeSpec := { name := "fnExactTourWork", fn := fun _ => fun
  | [d1, d2, d3] => { results := [.lit (.bool false)], args := [d1, d2, d3] }
  | _ => none }
def FnExactTourWorkWrongFalsely : Prop := fnExactTourWorkRow.holds Try.pinned (OpenSpec.ofChange fnExactTourWorkWrong)

/- THE SECOND FORM. 'bulk': how many values and letters a reading holds, each counted each time it is reached (what is shared counts as often as it is met; a slice's spare places count too). A statement '..UptoSaid' is the law's where the arguments, and the package variables that the reading takes, are together of bulk at most 1048576: NARROWER than '..Said'. Prove '..Said' where nothing that the law and all that it calls make is longer than what came in: it says more and counts as full. Else prove '..UptoSaid'. A law counts once. -/
mutual
def uptoBulk {H : Type} : DataW H → Nat
  | .lit (.string bytes) => bytes.length + 1
  | .lit _ => 1
  | .nil => 1
  | .ptr d => uptoBulk d + 1
  | .slice elems spare => uptoBulkAll elems + uptoBulkAll spare + 1
  | .agg parts => uptoBulkAll parts + 1
  | .iface _ d => uptoBulk d + 1
  | .map entries => uptoBulkEntries entries + 1
  | .held _ => 1
def uptoBulkAll {H : Type} : List (DataW H) → Nat
  | [] => 0
  | d :: r => uptoBulk d + uptoBulkAll r
def uptoBulkEntries {H : Type} : List (Lit × DataW H) → Nat
  | [] => 0
  | x :: r => uptoBulkEntry x + uptoBulkEntries r
def uptoBulkEntry {H : Type} : Lit × DataW H → Nat
  | (.string bytes, d) => bytes.length + uptoBulk d + 1
  | (_, d) => uptoBulk d + 1
 end
def uptoSmall : (H : Type) → List (DataW H) → Bool := fun _ ds => decide (uptoBulkAll ds ≤ 1048576)
def OpenSpec.upto (s : _root_.Go.ChangeSpec) : _root_.Go.OpenSpec := { _root_.Go.OpenSpec.ofChange s with cond := some uptoSmall }

/-- 'laws.FnLoadSum', WHERE WHAT IT READS IS OF BULK AT MOST 1048576: true; the input reads as it did. -/
def fnLoadSumUptoRow : OpenClaim := { program := "ytaipbfagiiclnaa", sum := "3f3f8ce1f806d7b2d236a39267807d9a37f52c6710f3837b3ed5328c94ad9a73", func := "loop.example/elevators/laws.FnLoadSum", spec := "fnLoadSum", apart := false, narrowed := true }
def FnLoadSumUptoSaid : Prop := fnLoadSumUptoRow.holds Try.pinned (OpenSpec.upto fnLoadSumSpec)

/-- 'laws.FnOverloaded', WHERE WHAT IT READS IS OF BULK AT MOST 1048576: true; the input reads as it did. -/
def fnOverloadedUptoRow : OpenClaim := { program := "ytaipbfagiiclnaa", sum := "3f3f8ce1f806d7b2d236a39267807d9a37f52c6710f3837b3ed5328c94ad9a73", func := "loop.example/elevators/laws.FnOverloaded", spec := "fnOverloaded", apart := false, narrowed := true }
def FnOverloadedUptoSaid : Prop := fnOverloadedUptoRow.holds Try.pinned (OpenSpec.upto fnOverloadedSpec)

/-- 'laws.FnLoadFirst', WHERE WHAT IT READS IS OF BULK AT MOST 1048576: true; the input reads as it did. -/
def fnLoadFirstUptoRow : OpenClaim := { program := "ytaipbfagiiclnaa", sum := "3f3f8ce1f806d7b2d236a39267807d9a37f52c6710f3837b3ed5328c94ad9a73", func := "loop.example/elevators/laws.FnLoadFirst", spec := "fnLoadFirst", apart := false, narrowed := true }
def FnLoadFirstUptoSaid : Prop := fnLoadFirstUptoRow.holds Try.pinned (OpenSpec.upto fnLoadFirstSpec)

/-- 'laws.FnTripWork', WHERE WHAT IT READS IS OF BULK AT MOST 1048576: true; the input reads as it did. -/
def fnTripWorkUptoRow : OpenClaim := { program := "ytaipbfagiiclnaa", sum := "3f3f8ce1f806d7b2d236a39267807d9a37f52c6710f3837b3ed5328c94ad9a73", func := "loop.example/elevators/laws.FnTripWork", spec := "fnTripWork", apart := false, narrowed := true }
def FnTripWorkUptoSaid : Prop := fnTripWorkUptoRow.holds Try.pinned (OpenSpec.upto fnTripWorkSpec)

/-- 'laws.FnTourWork', WHERE WHAT IT READS IS OF BULK AT MOST 1048576: true; the input reads as it did. -/
def fnTourWorkUptoRow : OpenClaim := { program := "ytaipbfagiiclnaa", sum := "3f3f8ce1f806d7b2d236a39267807d9a37f52c6710f3837b3ed5328c94ad9a73", func := "loop.example/elevators/laws.FnTourWork", spec := "fnTourWork", apart := false, narrowed := true }
def FnTourWorkUptoSaid : Prop := fnTourWorkUptoRow.holds Try.pinned (OpenSpec.upto fnTourWorkSpec)

/-- 'laws.FnExactLoadSum', WHERE WHAT IT READS IS OF BULK AT MOST 1048576: true; the input reads as it did. -/
def fnExactLoadSumUptoRow : OpenClaim := { program := "ytaipbfagiiclnaa", sum := "3f3f8ce1f806d7b2d236a39267807d9a37f52c6710f3837b3ed5328c94ad9a73", func := "loop.example/elevators/laws.FnExactLoadSum", spec := "fnExactLoadSum", apart := false, narrowed := true }
def FnExactLoadSumUptoSaid : Prop := fnExactLoadSumUptoRow.holds Try.pinned (OpenSpec.upto fnExactLoadSumSpec)

/-- 'laws.FnExactOverloaded', WHERE WHAT IT READS IS OF BULK AT MOST 1048576: true; the input reads as it did. -/
def fnExactOverloadedUptoRow : OpenClaim := { program := "ytaipbfagiiclnaa", sum := "3f3f8ce1f806d7b2d236a39267807d9a37f52c6710f3837b3ed5328c94ad9a73", func := "loop.example/elevators/laws.FnExactOverloaded", spec := "fnExactOverloaded", apart := false, narrowed := true }
def FnExactOverloadedUptoSaid : Prop := fnExactOverloadedUptoRow.holds Try.pinned (OpenSpec.upto fnExactOverloadedSpec)

/-- 'laws.FnExactLoadFirst', WHERE WHAT IT READS IS OF BULK AT MOST 1048576: true; the input reads as it did. -/
def fnExactLoadFirstUptoRow : OpenClaim := { program := "ytaipbfagiiclnaa", sum := "3f3f8ce1f806d7b2d236a39267807d9a37f52c6710f3837b3ed5328c94ad9a73", func := "loop.example/elevators/laws.FnExactLoadFirst", spec := "fnExactLoadFirst", apart := false, narrowed := true }
def FnExactLoadFirstUptoSaid : Prop := fnExactLoadFirstUptoRow.holds Try.pinned (OpenSpec.upto fnExactLoadFirstSpec)

/-- 'laws.FnExactTripWork', WHERE WHAT IT READS IS OF BULK AT MOST 1048576: true; the input reads as it did. -/
def fnExactTripWorkUptoRow : OpenClaim := { program := "ytaipbfagiiclnaa", sum := "3f3f8ce1f806d7b2d236a39267807d9a37f52c6710f3837b3ed5328c94ad9a73", func := "loop.example/elevators/laws.FnExactTripWork", spec := "fnExactTripWork", apart := false, narrowed := true }
def FnExactTripWorkUptoSaid : Prop := fnExactTripWorkUptoRow.holds Try.pinned (OpenSpec.upto fnExactTripWorkSpec)

/-- 'laws.FnExactTourWork', WHERE WHAT IT READS IS OF BULK AT MOST 1048576: true; the input reads as it did. -/
def fnExactTourWorkUptoRow : OpenClaim := { program := "ytaipbfagiiclnaa", sum := "3f3f8ce1f806d7b2d236a39267807d9a37f52c6710f3837b3ed5328c94ad9a73", func := "loop.example/elevators/laws.FnExactTourWork", spec := "fnExactTourWork", apart := false, narrowed := true }
def FnExactTourWorkUptoSaid : Prop := fnExactTourWorkUptoRow.holds Try.pinned (OpenSpec.upto fnExactTourWorkSpec)

end Rows
end Go.Proofs.Ytaipbfagiiclnaa

/-
  No cell of these rows narrows 'for every input' (looked for: loops, veiled, ifaces, maps, wideKeys, modest, calm, conditions, laid).
  DERIVED. THE GIVEN ROWS OF THIS SEAT. 10 by the template 'for every input the law returns true; each argument reads behind the call as it read before'; 0 by the template 'total and deterministic' (their statements: YtfdfnpggnaaffaaTotals.lean).
  GIVEN WITH THE SEED: the statements are not yours to turn. If you find one false, say at which input.
  Laid BY PROGRAM, IN A SANDBOX (cutbox-rows.mjs): the forced cells as the released guide's own fill.sh prints them over the translation a5c3dec5d6217ed7… (all of the seat's roots in one cut). By AI agents, Wed Nov 11 2026. No macro, syntax, notation, axiom, sorry.
-/
import Derived.Test.YtfdfnpggnaaffaaChecked
import GoSem.Claim
import GoSem.ClaimJoined
import GoSem.ClaimMapViews
import Derived.JoinedTies
import Derived.KernelRfl
namespace Go.Proofs.Ytfdfnpggnaaffaa
/- THE CELL 'sum', in the pinned program and in every row, IS THE sha256 OF THE DUMP (.gsa) THAT YtfdfnpggnaaffaaProg.lean LOADS. Nothing in Lean hashes anything: it is a label: what it is worth is what the hold of that sum in a sandbox is worth. -/
noncomputable def Try.pinned : Pinned := { name := "ytfdfnpggnaaffaa", sum := "a5c3dec5d6217ed7d7d8a3c22a045dd7f820f0044274f331c24ea407b7b0eee7", checked := Try.checked }
namespace Rows
def none {H : Type} : Left H := { results := [], args := [] }

/-- 'laws.FnFloorsValid': WHATEVER THE INPUT: true; the input reads as it did. -/
def fnFloorsValidSpec : ChangeSpec := { name := "fnFloorsValid", fn := fun _ => fun
  | [d] => { results := [.lit (.bool true)], args := [d] }
  | _ => none }
def fnFloorsValidRow : OpenClaim := { program := "ytfdfnpggnaaffaa", sum := "a5c3dec5d6217ed7d7d8a3c22a045dd7f820f0044274f331c24ea407b7b0eee7", func := "loop.example/elevators/laws.FnFloorsValid", spec := "fnFloorsValid", apart := false }
def FnFloorsValidSaid : Prop := fnFloorsValidRow.holds Try.pinned (OpenSpec.ofChange fnFloorsValidSpec)

/-- ITS FALSE NEIGHBOUR: 'it returns false'. Refute it at one input. -/
def fnFloorsValidWrong : ChangeSpec := { name := "fnFloorsValid", fn := fun _ => fun
  | [d] => { results := [.lit (.bool false)], args := [d] }
  | _ => none }
def FnFloorsValidWrongFalsely : Prop := fnFloorsValidRow.holds Try.pinned (OpenSpec.ofChange fnFloorsValidWrong)

/-- 'laws.FnFloorAt': WHATEVER THE INPUT: true; the input reads as it did. -/
def fnFloorAtSpec : ChangeSpec := { name := "fnFloorAt", fn := fun _ => fun
  | [d] => { results := [.lit (.bool true)], args := [d] }
  | _ => none }
def fnFloorAtRow : OpenClaim := { program := "ytfdfnpggnaaffaa", sum := "a5c3dec5d6217ed7d7d8a3c22a045dd7f820f0044274f331c24ea407b7b0eee7", func := "loop.example/elevators/laws.FnFloorAt", spec := "fnFloorAt", apart := false }
def FnFloorAtSaid : Prop := fnFloorAtRow.holds Try.pinned (OpenSpec.ofChange fnFloorAtSpec)

/-- ITS FALSE NEIGHBOUR: 'it returns false'. Refute it at one input. -/
def fnFloorAtWrong : ChangeSpec := { name := "fnFloorAt", fn := fun _ => fun
  | [d] => { results := [.lit (.bool false)], args := [d] }
  | _ => none }
def FnFloorAtWrongFalsely : Prop := fnFloorAtRow.holds Try.pinned (OpenSpec.ofChange fnFloorAtWrong)

/-- 'laws.FnFloorBelow': WHATEVER THE INPUT: true; the input reads as it did. -/
def fnFloorBelowSpec : ChangeSpec := { name := "fnFloorBelow", fn := fun _ => fun
  | [d] => { results := [.lit (.bool true)], args := [d] }
  | _ => none }
def fnFloorBelowRow : OpenClaim := { program := "ytfdfnpggnaaffaa", sum := "a5c3dec5d6217ed7d7d8a3c22a045dd7f820f0044274f331c24ea407b7b0eee7", func := "loop.example/elevators/laws.FnFloorBelow", spec := "fnFloorBelow", apart := false }
def FnFloorBelowSaid : Prop := fnFloorBelowRow.holds Try.pinned (OpenSpec.ofChange fnFloorBelowSpec)

/-- ITS FALSE NEIGHBOUR: 'it returns false'. Refute it at one input. -/
def fnFloorBelowWrong : ChangeSpec := { name := "fnFloorBelow", fn := fun _ => fun
  | [d] => { results := [.lit (.bool false)], args := [d] }
  | _ => none }
def FnFloorBelowWrongFalsely : Prop := fnFloorBelowRow.holds Try.pinned (OpenSpec.ofChange fnFloorBelowWrong)

/-- 'laws.FnFloorNear': WHATEVER THE INPUT: true; the input reads as it did. -/
def fnFloorNearSpec : ChangeSpec := { name := "fnFloorNear", fn := fun _ => fun
  | [d] => { results := [.lit (.bool true)], args := [d] }
  | _ => none }
def fnFloorNearRow : OpenClaim := { program := "ytfdfnpggnaaffaa", sum := "a5c3dec5d6217ed7d7d8a3c22a045dd7f820f0044274f331c24ea407b7b0eee7", func := "loop.example/elevators/laws.FnFloorNear", spec := "fnFloorNear", apart := false }
def FnFloorNearSaid : Prop := fnFloorNearRow.holds Try.pinned (OpenSpec.ofChange fnFloorNearSpec)

/-- ITS FALSE NEIGHBOUR: 'it returns false'. Refute it at one input. -/
def fnFloorNearWrong : ChangeSpec := { name := "fnFloorNear", fn := fun _ => fun
  | [d] => { results := [.lit (.bool false)], args := [d] }
  | _ => none }
def FnFloorNearWrongFalsely : Prop := fnFloorNearRow.holds Try.pinned (OpenSpec.ofChange fnFloorNearWrong)

/-- 'laws.FnFloorWay': WHATEVER THE INPUT: true; the input reads as it did. -/
def fnFloorWaySpec : ChangeSpec := { name := "fnFloorWay", fn := fun _ => fun
  | [d] => { results := [.lit (.bool true)], args := [d] }
  | _ => none }
def fnFloorWayRow : OpenClaim := { program := "ytfdfnpggnaaffaa", sum := "a5c3dec5d6217ed7d7d8a3c22a045dd7f820f0044274f331c24ea407b7b0eee7", func := "loop.example/elevators/laws.FnFloorWay", spec := "fnFloorWay", apart := false }
def FnFloorWaySaid : Prop := fnFloorWayRow.holds Try.pinned (OpenSpec.ofChange fnFloorWaySpec)

/-- ITS FALSE NEIGHBOUR: 'it returns false'. Refute it at one input. -/
def fnFloorWayWrong : ChangeSpec := { name := "fnFloorWay", fn := fun _ => fun
  | [d] => { results := [.lit (.bool false)], args := [d] }
  | _ => none }
def FnFloorWayWrongFalsely : Prop := fnFloorWayRow.holds Try.pinned (OpenSpec.ofChange fnFloorWayWrong)

/-- 'laws.FnExactFloorsValid': WHATEVER THE INPUT: true; the input reads as it did. -/
def fnExactFloorsValidSpec : ChangeSpec := { name := "fnExactFloorsValid", fn := fun _ => fun
  | [d] => { results := [.lit (.bool true)], args := [d] }
  | _ => none }
def fnExactFloorsValidRow : OpenClaim := { program := "ytfdfnpggnaaffaa", sum := "a5c3dec5d6217ed7d7d8a3c22a045dd7f820f0044274f331c24ea407b7b0eee7", func := "loop.example/elevators/laws.FnExactFloorsValid", spec := "fnExactFloorsValid", apart := false }
def FnExactFloorsValidSaid : Prop := fnExactFloorsValidRow.holds Try.pinned (OpenSpec.ofChange fnExactFloorsValidSpec)

/-- ITS FALSE NEIGHBOUR: 'it returns false'. Refute it at one input. -/
def fnExactFloorsValidWrong : ChangeSpec := { name := "fnExactFloorsValid", fn := fun _ => fun
  | [d] => { results := [.lit (.bool false)], args := [d] }
  | _ => none }
def FnExactFloorsValidWrongFalsely : Prop := fnExactFloorsValidRow.holds Try.pinned (OpenSpec.ofChange fnExactFloorsValidWrong)

/-- 'laws.FnExactFloorAt': WHATEVER THE INPUT: true; the input reads as it did. -/
def fnExactFloorAtSpec : ChangeSpec := { name := "fnExactFloorAt", fn := fun _ => fun
  | [d1, d2] => { results := [.lit (.bool true)], args := [d1, d2] }
  | _ => none }
def fnExactFloorAtRow : OpenClaim := { program := "ytfdfnpggnaaffaa", sum := "a5c3dec5d6217ed7d7d8a3c22a045dd7f820f0044274f331c24ea407b7b0eee7", func := "loop.example/elevators/laws.FnExactFloorAt", spec := "fnExactFloorAt", apart := false }
def FnExactFloorAtSaid : Prop := fnExactFloorAtRow.holds Try.pinned (OpenSpec.ofChange fnExactFloorAtSpec)

/-- ITS FALSE NEIGHBOUR: 'it returns false'. Refute it at one input. -/
def fnExactFloorAtWrong : ChangeSpec := { name := "fnExactFloorAt", fn := fun _ => fun
  | [d1, d2] => { results := [.lit (.bool false)], args := [d1, d2] }
  | _ => none }
def FnExactFloorAtWrongFalsely : Prop := fnExactFloorAtRow.holds Try.pinned (OpenSpec.ofChange fnExactFloorAtWrong)

/-- 'laws.FnExactFloorBelow': WHATEVER THE INPUT: true; the input reads as it did. -/
def fnExactFloorBelowSpec : ChangeSpec := { name := "fnExactFloorBelow", fn := fun _ => fun
  | [d1, d2] => { results := [.lit (.bool true)], args := [d1, d2] }
  | _ => none }
def fnExactFloorBelowRow : OpenClaim := { program := "ytfdfnpggnaaffaa", sum := "a5c3dec5d6217ed7d7d8a3c22a045dd7f820f0044274f331c24ea407b7b0eee7", func := "loop.example/elevators/laws.FnExactFloorBelow", spec := "fnExactFloorBelow", apart := false }
def FnExactFloorBelowSaid : Prop := fnExactFloorBelowRow.holds Try.pinned (OpenSpec.ofChange fnExactFloorBelowSpec)

/-- ITS FALSE NEIGHBOUR: 'it returns false'. Refute it at one input. -/
def fnExactFloorBelowWrong : ChangeSpec := { name := "fnExactFloorBelow", fn := fun _ => fun
  | [d1, d2] => { results := [.lit (.bool false)], args := [d1, d2] }
  | _ => none }
def FnExactFloorBelowWrongFalsely : Prop := fnExactFloorBelowRow.holds Try.pinned (OpenSpec.ofChange fnExactFloorBelowWrong)

/-- 'laws.FnExactFloorNear': WHATEVER THE INPUT: true; the input reads as it did. -/
def fnExactFloorNearSpec : ChangeSpec := { name := "fnExactFloorNear", fn := fun _ => fun
  | [d1, d2] => { results := [.lit (.bool true)], args := [d1, d2] }
  | _ => none }
def fnExactFloorNearRow : OpenClaim := { program := "ytfdfnpggnaaffaa", sum := "a5c3dec5d6217ed7d7d8a3c22a045dd7f820f0044274f331c24ea407b7b0eee7", func := "loop.example/elevators/laws.FnExactFloorNear", spec := "fnExactFloorNear", apart := false }
def FnExactFloorNearSaid : Prop := fnExactFloorNearRow.holds Try.pinned (OpenSpec.ofChange fnExactFloorNearSpec)

/-- ITS FALSE NEIGHBOUR: 'it returns false'. Refute it at one input. -/
def fnExactFloorNearWrong : ChangeSpec := { name := "fnExactFloorNear", fn := fun _ => fun
  | [d1, d2] => { results := [.lit (.bool false)], args := [d1, d2] }
  | _ => none }
def FnExactFloorNearWrongFalsely : Prop := fnExactFloorNearRow.holds Try.pinned (OpenSpec.ofChange fnExactFloorNearWrong)

/-- 'laws.FnExactFloorWay': WHATEVER THE INPUT: true; the input reads as it did. -/
def fnExactFloorWaySpec : ChangeSpec := { name := "fnExactFloorWay", fn := fun _ => fun
  | [d1, d2, d3] => { results := [.lit (.bool true)], args := [d1, d2, d3] }
  | _ => none }
def fnExactFloorWayRow : OpenClaim := { program := "ytfdfnpggnaaffaa", sum := "a5c3dec5d6217ed7d7d8a3c22a045dd7f820f0044274f331c24ea407b7b0eee7", func := "loop.example/elevators/laws.FnExactFloorWay", spec := "fnExactFloorWay", apart := false }
def FnExactFloorWaySaid : Prop := fnExactFloorWayRow.holds Try.pinned (OpenSpec.ofChange fnExactFloorWaySpec)

/-- ITS FALSE NEIGHBOUR: 'it returns false'. Refute it at one input. -/
def fnExactFloorWayWrong : ChangeSpec := { name := "fnExactFloorWay", fn := fun _ => fun
  | [d1, d2, d3] => { results := [.lit (.bool false)], args := [d1, d2, d3] }
  | _ => none }
def FnExactFloorWayWrongFalsely : Prop := fnExactFloorWayRow.holds Try.pinned (OpenSpec.ofChange fnExactFloorWayWrong)

/- THE SECOND FORM. 'bulk': how many values and letters a reading holds, each counted each time it is reached (what is shared counts as often as it is met; a slice's spare places count too). A statement '..UptoSaid' is the law's where the arguments, and the package variables that the reading takes, are together of bulk at most 1048576: NARROWER than '..Said'. Prove '..Said' where nothing that the law and all that it calls make is longer than what came in: it says more and counts as full. Else prove '..UptoSaid'. A law counts once. -/
mutual
def uptoBulk {H : Type} : DataW H → Nat
  | .lit (.string bytes) => bytes.length + 1
  | .lit _ => 1
  | .nil => 1
  | .ptr d => uptoBulk d + 1
  | .slice elems spare => uptoBulkAll elems + uptoBulkAll spare + 1
  | .agg parts => uptoBulkAll parts + 1
  | .iface _ d => uptoBulk d + 1
  | .map entries => uptoBulkEntries entries + 1
  | .held _ => 1
def uptoBulkAll {H : Type} : List (DataW H) → Nat
  | [] => 0
  | d :: r => uptoBulk d + uptoBulkAll r
def uptoBulkEntries {H : Type} : List (Lit × DataW H) → Nat
  | [] => 0
  | x :: r => uptoBulkEntry x + uptoBulkEntries r
def uptoBulkEntry {H : Type} : Lit × DataW H → Nat
  | (.string bytes, d) => bytes.length + uptoBulk d + 1
  | (_, d) => uptoBulk d + 1
 end
def uptoSmall : (H : Type) → List (DataW H) → Bool := fun _ ds => decide (uptoBulkAll ds ≤ 1048576)
def OpenSpec.upto (s : _root_.Go.ChangeSpec) : _root_.Go.OpenSpec := { _root_.Go.OpenSpec.ofChange s with cond := some uptoSmall }

/-- 'laws.FnFloorsValid', WHERE WHAT IT READS IS OF BULK AT MOST 1048576: true; the input reads as it did. -/
def fnFloorsValidUptoRow : OpenClaim := { program := "ytfdfnpggnaaffaa", sum := "a5c3dec5d6217ed7d7d8a3c22a045dd7f820f0044274f331c24ea407b7b0eee7", func := "loop.example/elevators/laws.FnFloorsValid", spec := "fnFloorsValid", apart := false, narrowed := true }
def FnFloorsValidUptoSaid : Prop := fnFloorsValidUptoRow.holds Try.pinned (OpenSpec.upto fnFloorsValidSpec)

/-- 'laws.FnFloorAt', WHERE WHAT IT READS IS OF BULK AT MOST 1048576: true; the input reads as it did. -/
def fnFloorAtUptoRow : OpenClaim := { program := "ytfdfnpggnaaffaa", sum := "a5c3dec5d6217ed7d7d8a3c22a045dd7f820f0044274f331c24ea407b7b0eee7", func := "loop.example/elevators/laws.FnFloorAt", spec := "fnFloorAt", apart := false, narrowed := true }
def FnFloorAtUptoSaid : Prop := fnFloorAtUptoRow.holds Try.pinned (OpenSpec.upto fnFloorAtSpec)

/-- 'laws.FnFloorBelow', WHERE WHAT IT READS IS OF BULK AT MOST 1048576: true; the input reads as it did. -/
def fnFloorBelowUptoRow : OpenClaim := { program := "ytfdfnpggnaaffaa", sum := "a5c3dec5d6217ed7d7d8a3c22a045dd7f820f0044274f331c24ea407b7b0eee7", func := "loop.example/elevators/laws.FnFloorBelow", spec := "fnFloorBelow", apart := false, narrowed := true }
def FnFloorBelowUptoSaid : Prop := fnFloorBelowUptoRow.holds Try.pinned (OpenSpec.upto fnFloorBelowSpec)

/-- 'laws.FnFloorNear', WHERE WHAT IT READS IS OF BULK AT MOST 1048576: true; the input reads as it did. -/
def fnFloorNearUptoRow : OpenClaim := { program := "ytfdfnpggnaaffaa", sum := "a5c3dec5d6217ed7d7d8a3c22a045dd7f820f0044274f331c24ea407b7b0eee7", func := "loop.example/elevators/laws.FnFloorNear", spec := "fnFloorNear", apart := false, narrowed := true }
def FnFloorNearUptoSaid : Prop := fnFloorNearUptoRow.holds Try.pinned (OpenSpec.upto fnFloorNearSpec)

/-- 'laws.FnFloorWay', WHERE WHAT IT READS IS OF BULK AT MOST 1048576: true; the input reads as it did. -/
def fnFloorWayUptoRow : OpenClaim := { program := "ytfdfnpggnaaffaa", sum := "a5c3dec5d6217ed7d7d8a3c22a045dd7f820f0044274f331c24ea407b7b0eee7", func := "loop.example/elevators/laws.FnFloorWay", spec := "fnFloorWay", apart := false, narrowed := true }
def FnFloorWayUptoSaid : Prop := fnFloorWayUptoRow.holds Try.pinned (OpenSpec.upto fnFloorWaySpec)

/-- 'laws.FnExactFloorsValid', WHERE WHAT IT READS IS OF BULK AT MOST 1048576: true; the input reads as it did. -/
def fnExactFloorsValidUptoRow : OpenClaim := { program := "ytfdfnpggnaaffaa", sum := "a5c3dec5d6217ed7d7d8a3c22a045dd7f820f0044274f331c24ea407b7b0eee7", func := "loop.example/elevators/laws.FnExactFloorsValid", spec := "fnExactFloorsValid", apart := false, narrowed := true }
def FnExactFloorsValidUptoSaid : Prop := fnExactFloorsValidUptoRow.holds Try.pinned (OpenSpec.upto fnExactFloorsValidSpec)

/-- 'laws.FnExactFloorAt', WHERE WHAT IT READS IS OF BULK AT MOST 1048576: true; the input reads as it did. -/
def fnExactFloorAtUptoRow : OpenClaim := { program := "ytfdfnpggnaaffaa", sum := "a5c3dec5d6217ed7d7d8a3c22a045dd7f820f0044274f331c24ea407b7b0eee7", func := "loop.example/elevators/laws.FnExactFloorAt", spec := "fnExactFloorAt", apart := false, narrowed := true }
def FnExactFloorAtUptoSaid : Prop := fnExactFloorAtUptoRow.holds Try.pinned (OpenSpec.upto fnExactFloorAtSpec)

/-- 'laws.FnExactFloorBelow', WHERE WHAT IT READS IS OF BULK AT MOST 1048576: true; the input reads as it did. -/
def fnExactFloorBelowUptoRow : OpenClaim := { program := "ytfdfnpggnaaffaa", sum := "a5c3dec5d6217ed7d7d8a3c22a045dd7f820f0044274f331c24ea407b7b0eee7", func := "loop.example/elevators/laws.FnExactFloorBelow", spec := "fnExactFloorBelow", apart := false, narrowed := true }
def FnExactFloorBelowUptoSaid : Prop := fnExactFloorBelowUptoRow.holds Try.pinned (OpenSpec.upto fnExactFloorBelowSpec)

/-- 'laws.FnExactFloorNear', WHERE WHAT IT READS IS OF BULK AT MOST 1048576: true; the input reads as it did. -/
def fnExactFloorNearUptoRow : OpenClaim := { program := "ytfdfnpggnaaffaa", sum := "a5c3dec5d6217ed7d7d8a3c22a045dd7f820f0044274f331c24ea407b7b0eee7", func := "loop.example/elevators/laws.FnExactFloorNear", spec := "fnExactFloorNear", apart := false, narrowed := true }
def FnExactFloorNearUptoSaid : Prop := fnExactFloorNearUptoRow.holds Try.pinned (OpenSpec.upto fnExactFloorNearSpec)

/-- 'laws.FnExactFloorWay', WHERE WHAT IT READS IS OF BULK AT MOST 1048576: true; the input reads as it did. -/
def fnExactFloorWayUptoRow : OpenClaim := { program := "ytfdfnpggnaaffaa", sum := "a5c3dec5d6217ed7d7d8a3c22a045dd7f820f0044274f331c24ea407b7b0eee7", func := "loop.example/elevators/laws.FnExactFloorWay", spec := "fnExactFloorWay", apart := false, narrowed := true }
def FnExactFloorWayUptoSaid : Prop := fnExactFloorWayUptoRow.holds Try.pinned (OpenSpec.upto fnExactFloorWaySpec)

end Rows
end Go.Proofs.Ytfdfnpggnaaffaa

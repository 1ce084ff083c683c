/-
  No cell of these rows narrows 'for every input' (looked for: loops, veiled, ifaces, maps, wideKeys, modest, calm, conditions, laid).
  DERIVED. THE GIVEN ROWS OF THIS SEAT. 10 by the template 'for every input the law returns true; each argument reads behind the call as it read before'; 0 by the template 'total and deterministic' (their statements: YtfhhgddajmihjaaTotals.lean).
  GIVEN WITH THE SEED: the statements are not yours to turn. If you find one false, say at which input.
  Laid BY PROGRAM, IN A SANDBOX (cutbox-rows.mjs): the forced cells as the released guide's own fill.sh prints them over the translation d3f435d7da28ae4c… (all of the seat's roots in one cut). By AI agents, Wed Nov 11 2026. No macro, syntax, notation, axiom, sorry.
-/
import Derived.Test.YtfhhgddajmihjaaChecked
import GoSem.Claim
import GoSem.ClaimJoined
import GoSem.ClaimMapViews
import Derived.JoinedTies
import Derived.KernelRfl
namespace Go.Proofs.Ytfhhgddajmihjaa
/- THE CELL 'sum', in the pinned program and in every row, IS THE sha256 OF THE DUMP (.gsa) THAT YtfhhgddajmihjaaProg.lean LOADS. Nothing in Lean hashes anything: it is a label: what it is worth is what the hold of that sum in a sandbox is worth. -/
noncomputable def Try.pinned : Pinned := { name := "ytfhhgddajmihjaa", sum := "d3f435d7da28ae4c58d19247b97f735a85b61b2d15c70eec90a06ea1d78fc804", checked := Try.checked }
namespace Rows
def none {H : Type} : Left H := { results := [], args := [] }

/-- 'laws.FnTripValid': WHATEVER THE INPUT: true; the input reads as it did. -/
def fnTripValidSpec : ChangeSpec := { name := "fnTripValid", fn := fun _ => fun
  | [d] => { results := [.lit (.bool true)], args := [d] }
  | _ => none }
def fnTripValidRow : OpenClaim := { program := "ytfhhgddajmihjaa", sum := "d3f435d7da28ae4c58d19247b97f735a85b61b2d15c70eec90a06ea1d78fc804", func := "loop.example/elevators/laws.FnTripValid", spec := "fnTripValid", apart := false }
def FnTripValidSaid : Prop := fnTripValidRow.holds Try.pinned (OpenSpec.ofChange fnTripValidSpec)

/-- ITS FALSE NEIGHBOUR: 'it returns false'. Refute it at one input. -/
def fnTripValidWrong : ChangeSpec := { name := "fnTripValid", fn := fun _ => fun
  | [d] => { results := [.lit (.bool false)], args := [d] }
  | _ => none }
def FnTripValidWrongFalsely : Prop := fnTripValidRow.holds Try.pinned (OpenSpec.ofChange fnTripValidWrong)

/-- 'laws.FnTripCalls': WHATEVER THE INPUT: true; the input reads as it did. -/
def fnTripCallsSpec : ChangeSpec := { name := "fnTripCalls", fn := fun _ => fun
  | [d] => { results := [.lit (.bool true)], args := [d] }
  | _ => none }
def fnTripCallsRow : OpenClaim := { program := "ytfhhgddajmihjaa", sum := "d3f435d7da28ae4c58d19247b97f735a85b61b2d15c70eec90a06ea1d78fc804", func := "loop.example/elevators/laws.FnTripCalls", spec := "fnTripCalls", apart := false }
def FnTripCallsSaid : Prop := fnTripCallsRow.holds Try.pinned (OpenSpec.ofChange fnTripCallsSpec)

/-- ITS FALSE NEIGHBOUR: 'it returns false'. Refute it at one input. -/
def fnTripCallsWrong : ChangeSpec := { name := "fnTripCalls", fn := fun _ => fun
  | [d] => { results := [.lit (.bool false)], args := [d] }
  | _ => none }
def FnTripCallsWrongFalsely : Prop := fnTripCallsRow.holds Try.pinned (OpenSpec.ofChange fnTripCallsWrong)

/-- 'laws.FnTripStep': WHATEVER THE INPUT: true; the input reads as it did. -/
def fnTripStepSpec : ChangeSpec := { name := "fnTripStep", fn := fun _ => fun
  | [d] => { results := [.lit (.bool true)], args := [d] }
  | _ => none }
def fnTripStepRow : OpenClaim := { program := "ytfhhgddajmihjaa", sum := "d3f435d7da28ae4c58d19247b97f735a85b61b2d15c70eec90a06ea1d78fc804", func := "loop.example/elevators/laws.FnTripStep", spec := "fnTripStep", apart := false }
def FnTripStepSaid : Prop := fnTripStepRow.holds Try.pinned (OpenSpec.ofChange fnTripStepSpec)

/-- ITS FALSE NEIGHBOUR: 'it returns false'. Refute it at one input. -/
def fnTripStepWrong : ChangeSpec := { name := "fnTripStep", fn := fun _ => fun
  | [d] => { results := [.lit (.bool false)], args := [d] }
  | _ => none }
def FnTripStepWrongFalsely : Prop := fnTripStepRow.holds Try.pinned (OpenSpec.ofChange fnTripStepWrong)

/-- 'laws.FnTripStops': WHATEVER THE INPUT: true; the input reads as it did. -/
def fnTripStopsSpec : ChangeSpec := { name := "fnTripStops", fn := fun _ => fun
  | [d] => { results := [.lit (.bool true)], args := [d] }
  | _ => none }
def fnTripStopsRow : OpenClaim := { program := "ytfhhgddajmihjaa", sum := "d3f435d7da28ae4c58d19247b97f735a85b61b2d15c70eec90a06ea1d78fc804", func := "loop.example/elevators/laws.FnTripStops", spec := "fnTripStops", apart := false }
def FnTripStopsSaid : Prop := fnTripStopsRow.holds Try.pinned (OpenSpec.ofChange fnTripStopsSpec)

/-- ITS FALSE NEIGHBOUR: 'it returns false'. Refute it at one input. -/
def fnTripStopsWrong : ChangeSpec := { name := "fnTripStops", fn := fun _ => fun
  | [d] => { results := [.lit (.bool false)], args := [d] }
  | _ => none }
def FnTripStopsWrongFalsely : Prop := fnTripStopsRow.holds Try.pinned (OpenSpec.ofChange fnTripStopsWrong)

/-- 'laws.FnTripEnd': WHATEVER THE INPUT: true; the input reads as it did. -/
def fnTripEndSpec : ChangeSpec := { name := "fnTripEnd", fn := fun _ => fun
  | [d] => { results := [.lit (.bool true)], args := [d] }
  | _ => none }
def fnTripEndRow : OpenClaim := { program := "ytfhhgddajmihjaa", sum := "d3f435d7da28ae4c58d19247b97f735a85b61b2d15c70eec90a06ea1d78fc804", func := "loop.example/elevators/laws.FnTripEnd", spec := "fnTripEnd", apart := false }
def FnTripEndSaid : Prop := fnTripEndRow.holds Try.pinned (OpenSpec.ofChange fnTripEndSpec)

/-- ITS FALSE NEIGHBOUR: 'it returns false'. Refute it at one input. -/
def fnTripEndWrong : ChangeSpec := { name := "fnTripEnd", fn := fun _ => fun
  | [d] => { results := [.lit (.bool false)], args := [d] }
  | _ => none }
def FnTripEndWrongFalsely : Prop := fnTripEndRow.holds Try.pinned (OpenSpec.ofChange fnTripEndWrong)

/-- 'laws.FnExactTripValid': WHATEVER THE INPUT: true; the input reads as it did. -/
def fnExactTripValidSpec : ChangeSpec := { name := "fnExactTripValid", fn := fun _ => fun
  | [d] => { results := [.lit (.bool true)], args := [d] }
  | _ => none }
def fnExactTripValidRow : OpenClaim := { program := "ytfhhgddajmihjaa", sum := "d3f435d7da28ae4c58d19247b97f735a85b61b2d15c70eec90a06ea1d78fc804", func := "loop.example/elevators/laws.FnExactTripValid", spec := "fnExactTripValid", apart := false }
def FnExactTripValidSaid : Prop := fnExactTripValidRow.holds Try.pinned (OpenSpec.ofChange fnExactTripValidSpec)

/-- ITS FALSE NEIGHBOUR: 'it returns false'. Refute it at one input. -/
def fnExactTripValidWrong : ChangeSpec := { name := "fnExactTripValid", fn := fun _ => fun
  | [d] => { results := [.lit (.bool false)], args := [d] }
  | _ => none }
def FnExactTripValidWrongFalsely : Prop := fnExactTripValidRow.holds Try.pinned (OpenSpec.ofChange fnExactTripValidWrong)

/-- 'laws.FnExactTripCalls': WHATEVER THE INPUT: true; the input reads as it did. -/
def fnExactTripCallsSpec : ChangeSpec := { name := "fnExactTripCalls", fn := fun _ => fun
  | [d] => { results := [.lit (.bool true)], args := [d] }
  | _ => none }
def fnExactTripCallsRow : OpenClaim := { program := "ytfhhgddajmihjaa", sum := "d3f435d7da28ae4c58d19247b97f735a85b61b2d15c70eec90a06ea1d78fc804", func := "loop.example/elevators/laws.FnExactTripCalls", spec := "fnExactTripCalls", apart := false }
def FnExactTripCallsSaid : Prop := fnExactTripCallsRow.holds Try.pinned (OpenSpec.ofChange fnExactTripCallsSpec)

/-- ITS FALSE NEIGHBOUR: 'it returns false'. Refute it at one input. -/
def fnExactTripCallsWrong : ChangeSpec := { name := "fnExactTripCalls", fn := fun _ => fun
  | [d] => { results := [.lit (.bool false)], args := [d] }
  | _ => none }
def FnExactTripCallsWrongFalsely : Prop := fnExactTripCallsRow.holds Try.pinned (OpenSpec.ofChange fnExactTripCallsWrong)

/-- 'laws.FnExactTripStep': WHATEVER THE INPUT: true; the input reads as it did. -/
def fnExactTripStepSpec : ChangeSpec := { name := "fnExactTripStep", fn := fun _ => fun
  | [d] => { results := [.lit (.bool true)], args := [d] }
  | _ => none }
def fnExactTripStepRow : OpenClaim := { program := "ytfhhgddajmihjaa", sum := "d3f435d7da28ae4c58d19247b97f735a85b61b2d15c70eec90a06ea1d78fc804", func := "loop.example/elevators/laws.FnExactTripStep", spec := "fnExactTripStep", apart := false }
def FnExactTripStepSaid : Prop := fnExactTripStepRow.holds Try.pinned (OpenSpec.ofChange fnExactTripStepSpec)

/-- ITS FALSE NEIGHBOUR: 'it returns false'. Refute it at one input. -/
def fnExactTripStepWrong : ChangeSpec := { name := "fnExactTripStep", fn := fun _ => fun
  | [d] => { results := [.lit (.bool false)], args := [d] }
  | _ => none }
def FnExactTripStepWrongFalsely : Prop := fnExactTripStepRow.holds Try.pinned (OpenSpec.ofChange fnExactTripStepWrong)

/-- 'laws.FnExactTripStops': WHATEVER THE INPUT: true; the input reads as it did. -/
def fnExactTripStopsSpec : ChangeSpec := { name := "fnExactTripStops", fn := fun _ => fun
  | [d] => { results := [.lit (.bool true)], args := [d] }
  | _ => none }
def fnExactTripStopsRow : OpenClaim := { program := "ytfhhgddajmihjaa", sum := "d3f435d7da28ae4c58d19247b97f735a85b61b2d15c70eec90a06ea1d78fc804", func := "loop.example/elevators/laws.FnExactTripStops", spec := "fnExactTripStops", apart := false }
def FnExactTripStopsSaid : Prop := fnExactTripStopsRow.holds Try.pinned (OpenSpec.ofChange fnExactTripStopsSpec)

/-- ITS FALSE NEIGHBOUR: 'it returns false'. Refute it at one input. -/
def fnExactTripStopsWrong : ChangeSpec := { name := "fnExactTripStops", fn := fun _ => fun
  | [d] => { results := [.lit (.bool false)], args := [d] }
  | _ => none }
def FnExactTripStopsWrongFalsely : Prop := fnExactTripStopsRow.holds Try.pinned (OpenSpec.ofChange fnExactTripStopsWrong)

/-- 'laws.FnExactTripEnd': WHATEVER THE INPUT: true; the input reads as it did. -/
def fnExactTripEndSpec : ChangeSpec := { name := "fnExactTripEnd", fn := fun _ => fun
  | [d] => { results := [.lit (.bool true)], args := [d] }
  | _ => none }
def fnExactTripEndRow : OpenClaim := { program := "ytfhhgddajmihjaa", sum := "d3f435d7da28ae4c58d19247b97f735a85b61b2d15c70eec90a06ea1d78fc804", func := "loop.example/elevators/laws.FnExactTripEnd", spec := "fnExactTripEnd", apart := false }
def FnExactTripEndSaid : Prop := fnExactTripEndRow.holds Try.pinned (OpenSpec.ofChange fnExactTripEndSpec)

/-- ITS FALSE NEIGHBOUR: 'it returns false'. Refute it at one input. -/
def fnExactTripEndWrong : ChangeSpec := { name := "fnExactTripEnd", fn := fun _ => fun
  | [d] => { results := [.lit (.bool false)], args := [d] }
  | _ => none }
def FnExactTripEndWrongFalsely : Prop := fnExactTripEndRow.holds Try.pinned (OpenSpec.ofChange fnExactTripEndWrong)

/- THE SECOND FORM. 'bulk': how many values and letters a reading holds, each counted each time it is reached (what is shared counts as often as it is met; a slice's spare places count too). A statement '..UptoSaid' is the law's where the arguments, and the package variables that the reading takes, are together of bulk at most 1048576: NARROWER than '..Said'. Prove '..Said' where nothing that the law and all that it calls make is longer than what came in: it says more and counts as full. Else prove '..UptoSaid'. A law counts once. -/
mutual
def uptoBulk {H : Type} : DataW H → Nat
  | .lit (.string bytes) => bytes.length + 1
  | .lit _ => 1
  | .nil => 1
  | .ptr d => uptoBulk d + 1
  | .slice elems spare => uptoBulkAll elems + uptoBulkAll spare + 1
  | .agg parts => uptoBulkAll parts + 1
  | .iface _ d => uptoBulk d + 1
  | .map entries => uptoBulkEntries entries + 1
  | .held _ => 1
def uptoBulkAll {H : Type} : List (DataW H) → Nat
  | [] => 0
  | d :: r => uptoBulk d + uptoBulkAll r
def uptoBulkEntries {H : Type} : List (Lit × DataW H) → Nat
  | [] => 0
  | x :: r => uptoBulkEntry x + uptoBulkEntries r
def uptoBulkEntry {H : Type} : Lit × DataW H → Nat
  | (.string bytes, d) => bytes.length + uptoBulk d + 1
  | (_, d) => uptoBulk d + 1
 end
def uptoSmall : (H : Type) → List (DataW H) → Bool := fun _ ds => decide (uptoBulkAll ds ≤ 1048576)
def OpenSpec.upto (s : _root_.Go.ChangeSpec) : _root_.Go.OpenSpec := { _root_.Go.OpenSpec.ofChange s with cond := some uptoSmall }

/-- 'laws.FnTripValid', WHERE WHAT IT READS IS OF BULK AT MOST 1048576: true; the input reads as it did. -/
def fnTripValidUptoRow : OpenClaim := { program := "ytfhhgddajmihjaa", sum := "d3f435d7da28ae4c58d19247b97f735a85b61b2d15c70eec90a06ea1d78fc804", func := "loop.example/elevators/laws.FnTripValid", spec := "fnTripValid", apart := false, narrowed := true }
def FnTripValidUptoSaid : Prop := fnTripValidUptoRow.holds Try.pinned (OpenSpec.upto fnTripValidSpec)

/-- 'laws.FnTripCalls', WHERE WHAT IT READS IS OF BULK AT MOST 1048576: true; the input reads as it did. -/
def fnTripCallsUptoRow : OpenClaim := { program := "ytfhhgddajmihjaa", sum := "d3f435d7da28ae4c58d19247b97f735a85b61b2d15c70eec90a06ea1d78fc804", func := "loop.example/elevators/laws.FnTripCalls", spec := "fnTripCalls", apart := false, narrowed := true }
def FnTripCallsUptoSaid : Prop := fnTripCallsUptoRow.holds Try.pinned (OpenSpec.upto fnTripCallsSpec)

/-- 'laws.FnTripStep', WHERE WHAT IT READS IS OF BULK AT MOST 1048576: true; the input reads as it did. -/
def fnTripStepUptoRow : OpenClaim := { program := "ytfhhgddajmihjaa", sum := "d3f435d7da28ae4c58d19247b97f735a85b61b2d15c70eec90a06ea1d78fc804", func := "loop.example/elevators/laws.FnTripStep", spec := "fnTripStep", apart := false, narrowed := true }
def FnTripStepUptoSaid : Prop := fnTripStepUptoRow.holds Try.pinned (OpenSpec.upto fnTripStepSpec)

/-- 'laws.FnTripStops', WHERE WHAT IT READS IS OF BULK AT MOST 1048576: true; the input reads as it did. -/
def fnTripStopsUptoRow : OpenClaim := { program := "ytfhhgddajmihjaa", sum := "d3f435d7da28ae4c58d19247b97f735a85b61b2d15c70eec90a06ea1d78fc804", func := "loop.example/elevators/laws.FnTripStops", spec := "fnTripStops", apart := false, narrowed := true }
def FnTripStopsUptoSaid : Prop := fnTripStopsUptoRow.holds Try.pinned (OpenSpec.upto fnTripStopsSpec)

/-- 'laws.FnTripEnd', WHERE WHAT IT READS IS OF BULK AT MOST 1048576: true; the input reads as it did. -/
def fnTripEndUptoRow : OpenClaim := { program := "ytfhhgddajmihjaa", sum := "d3f435d7da28ae4c58d19247b97f735a85b61b2d15c70eec90a06ea1d78fc804", func := "loop.example/elevators/laws.FnTripEnd", spec := "fnTripEnd", apart := false, narrowed := true }
def FnTripEndUptoSaid : Prop := fnTripEndUptoRow.holds Try.pinned (OpenSpec.upto fnTripEndSpec)

/-- 'laws.FnExactTripValid', WHERE WHAT IT READS IS OF BULK AT MOST 1048576: true; the input reads as it did. -/
def fnExactTripValidUptoRow : OpenClaim := { program := "ytfhhgddajmihjaa", sum := "d3f435d7da28ae4c58d19247b97f735a85b61b2d15c70eec90a06ea1d78fc804", func := "loop.example/elevators/laws.FnExactTripValid", spec := "fnExactTripValid", apart := false, narrowed := true }
def FnExactTripValidUptoSaid : Prop := fnExactTripValidUptoRow.holds Try.pinned (OpenSpec.upto fnExactTripValidSpec)

/-- 'laws.FnExactTripCalls', WHERE WHAT IT READS IS OF BULK AT MOST 1048576: true; the input reads as it did. -/
def fnExactTripCallsUptoRow : OpenClaim := { program := "ytfhhgddajmihjaa", sum := "d3f435d7da28ae4c58d19247b97f735a85b61b2d15c70eec90a06ea1d78fc804", func := "loop.example/elevators/laws.FnExactTripCalls", spec := "fnExactTripCalls", apart := false, narrowed := true }
def FnExactTripCallsUptoSaid : Prop := fnExactTripCallsUptoRow.holds Try.pinned (OpenSpec.upto fnExactTripCallsSpec)

/-- 'laws.FnExactTripStep', WHERE WHAT IT READS IS OF BULK AT MOST 1048576: true; the input reads as it did. -/
def fnExactTripStepUptoRow : OpenClaim := { program := "ytfhhgddajmihjaa", sum := "d3f435d7da28ae4c58d19247b97f735a85b61b2d15c70eec90a06ea1d78fc804", func := "loop.example/elevators/laws.FnExactTripStep", spec := "fnExactTripStep", apart := false, narrowed := true }
def FnExactTripStepUptoSaid : Prop := fnExactTripStepUptoRow.holds Try.pinned (OpenSpec.upto fnExactTripStepSpec)

/-- 'laws.FnExactTripStops', WHERE WHAT IT READS IS OF BULK AT MOST 1048576: true; the input reads as it did. -/
def fnExactTripStopsUptoRow : OpenClaim := { program := "ytfhhgddajmihjaa", sum := "d3f435d7da28ae4c58d19247b97f735a85b61b2d15c70eec90a06ea1d78fc804", func := "loop.example/elevators/laws.FnExactTripStops", spec := "fnExactTripStops", apart := false, narrowed := true }
def FnExactTripStopsUptoSaid : Prop := fnExactTripStopsUptoRow.holds Try.pinned (OpenSpec.upto fnExactTripStopsSpec)

/-- 'laws.FnExactTripEnd', WHERE WHAT IT READS IS OF BULK AT MOST 1048576: true; the input reads as it did. -/
def fnExactTripEndUptoRow : OpenClaim := { program := "ytfhhgddajmihjaa", sum := "d3f435d7da28ae4c58d19247b97f735a85b61b2d15c70eec90a06ea1d78fc804", func := "loop.example/elevators/laws.FnExactTripEnd", spec := "fnExactTripEnd", apart := false, narrowed := true }
def FnExactTripEndUptoSaid : Prop := fnExactTripEndUptoRow.holds Try.pinned (OpenSpec.upto fnExactTripEndSpec)

end Rows
end Go.Proofs.Ytfhhgddajmihjaa

/-
  No cell of these rows narrows 'for every input' (looked for: loops, veiled, ifaces, maps, wideKeys, modest, calm, conditions, laid).
  DERIVED. THE GIVEN ROWS OF THIS SEAT. 6 by the template 'for every input the law returns true; each argument reads behind the call as it read before'; 0 by the template 'total and deterministic' (their statements: YtkpginkkfobblaaTotals.lean).
  GIVEN WITH THE SEED: the statements are not yours to turn. If you find one false, say at which input.
  Laid BY PROGRAM, IN A SANDBOX (cutbox-rows.mjs): the forced cells as the released guide's own fill.sh prints them over the translation 8f6a4319ddc32c85… (all of the seat's roots in one cut). By AI agents, Wed Nov 11 2026. No macro, syntax, notation, axiom, sorry.
-/
import Derived.Test.YtkpginkkfobblaaChecked
import GoSem.Claim
import GoSem.ClaimJoined
import GoSem.ClaimMapViews
import Derived.JoinedTies
import Derived.KernelRfl
namespace Go.Proofs.Ytkpginkkfobblaa
/- THE CELL 'sum', in the pinned program and in every row, IS THE sha256 OF THE DUMP (.gsa) THAT YtkpginkkfobblaaProg.lean LOADS. Nothing in Lean hashes anything: it is a label: what it is worth is what the hold of that sum in a sandbox is worth. -/
noncomputable def Try.pinned : Pinned := { name := "ytkpginkkfobblaa", sum := "8f6a4319ddc32c8544b2f041459f263e97f2b4e72397f6e03d7eda96a2975ff8", checked := Try.checked }
namespace Rows
def none {H : Type} : Left H := { results := [], args := [] }

/-- 'laws.FnNextStop': WHATEVER THE INPUT: true; the input reads as it did. -/
def fnNextStopSpec : ChangeSpec := { name := "fnNextStop", fn := fun _ => fun
  | [d] => { results := [.lit (.bool true)], args := [d] }
  | _ => none }
def fnNextStopRow : OpenClaim := { program := "ytkpginkkfobblaa", sum := "8f6a4319ddc32c8544b2f041459f263e97f2b4e72397f6e03d7eda96a2975ff8", func := "loop.example/elevators/laws.FnNextStop", spec := "fnNextStop", apart := false }
def FnNextStopSaid : Prop := fnNextStopRow.holds Try.pinned (OpenSpec.ofChange fnNextStopSpec)

/-- ITS FALSE NEIGHBOUR: 'it returns false'. Refute it at one input. -/
def fnNextStopWrong : ChangeSpec := { name := "fnNextStop", fn := fun _ => fun
  | [d] => { results := [.lit (.bool false)], args := [d] }
  | _ => none }
def FnNextStopWrongFalsely : Prop := fnNextStopRow.holds Try.pinned (OpenSpec.ofChange fnNextStopWrong)

/-- 'laws.FnServeStop': WHATEVER THE INPUT: true; the input reads as it did. -/
def fnServeStopSpec : ChangeSpec := { name := "fnServeStop", fn := fun _ => fun
  | [d] => { results := [.lit (.bool true)], args := [d] }
  | _ => none }
def fnServeStopRow : OpenClaim := { program := "ytkpginkkfobblaa", sum := "8f6a4319ddc32c8544b2f041459f263e97f2b4e72397f6e03d7eda96a2975ff8", func := "loop.example/elevators/laws.FnServeStop", spec := "fnServeStop", apart := false }
def FnServeStopSaid : Prop := fnServeStopRow.holds Try.pinned (OpenSpec.ofChange fnServeStopSpec)

/-- ITS FALSE NEIGHBOUR: 'it returns false'. Refute it at one input. -/
def fnServeStopWrong : ChangeSpec := { name := "fnServeStop", fn := fun _ => fun
  | [d] => { results := [.lit (.bool false)], args := [d] }
  | _ => none }
def FnServeStopWrongFalsely : Prop := fnServeStopRow.holds Try.pinned (OpenSpec.ofChange fnServeStopWrong)

/-- 'laws.FnSweepStops': WHATEVER THE INPUT: true; the input reads as it did. -/
def fnSweepStopsSpec : ChangeSpec := { name := "fnSweepStops", fn := fun _ => fun
  | [d] => { results := [.lit (.bool true)], args := [d] }
  | _ => none }
def fnSweepStopsRow : OpenClaim := { program := "ytkpginkkfobblaa", sum := "8f6a4319ddc32c8544b2f041459f263e97f2b4e72397f6e03d7eda96a2975ff8", func := "loop.example/elevators/laws.FnSweepStops", spec := "fnSweepStops", apart := false }
def FnSweepStopsSaid : Prop := fnSweepStopsRow.holds Try.pinned (OpenSpec.ofChange fnSweepStopsSpec)

/-- ITS FALSE NEIGHBOUR: 'it returns false'. Refute it at one input. -/
def fnSweepStopsWrong : ChangeSpec := { name := "fnSweepStops", fn := fun _ => fun
  | [d] => { results := [.lit (.bool false)], args := [d] }
  | _ => none }
def FnSweepStopsWrongFalsely : Prop := fnSweepStopsRow.holds Try.pinned (OpenSpec.ofChange fnSweepStopsWrong)

/-- 'laws.FnExactNextStop': WHATEVER THE INPUT: true; the input reads as it did. -/
def fnExactNextStopSpec : ChangeSpec := { name := "fnExactNextStop", fn := fun _ => fun
  | [d1, d2] => { results := [.lit (.bool true)], args := [d1, d2] }
  | _ => none }
def fnExactNextStopRow : OpenClaim := { program := "ytkpginkkfobblaa", sum := "8f6a4319ddc32c8544b2f041459f263e97f2b4e72397f6e03d7eda96a2975ff8", func := "loop.example/elevators/laws.FnExactNextStop", spec := "fnExactNextStop", apart := false }
def FnExactNextStopSaid : Prop := fnExactNextStopRow.holds Try.pinned (OpenSpec.ofChange fnExactNextStopSpec)

/-- ITS FALSE NEIGHBOUR: 'it returns false'. Refute it at one input. -/
def fnExactNextStopWrong : ChangeSpec := { name := "fnExactNextStop", fn := fun _ => fun
  | [d1, d2] => { results := [.lit (.bool false)], args := [d1, d2] }
  | _ => none }
def FnExactNextStopWrongFalsely : Prop := fnExactNextStopRow.holds Try.pinned (OpenSpec.ofChange fnExactNextStopWrong)

/-- 'laws.FnExactServeStop': WHATEVER THE INPUT: true; the input reads as it did. -/
def fnExactServeStopSpec : ChangeSpec := { name := "fnExactServeStop", fn := fun _ => fun
  | [d1, d2] => { results := [.lit (.bool true)], args := [d1, d2] }
  | _ => none }
def fnExactServeStopRow : OpenClaim := { program := "ytkpginkkfobblaa", sum := "8f6a4319ddc32c8544b2f041459f263e97f2b4e72397f6e03d7eda96a2975ff8", func := "loop.example/elevators/laws.FnExactServeStop", spec := "fnExactServeStop", apart := false }
def FnExactServeStopSaid : Prop := fnExactServeStopRow.holds Try.pinned (OpenSpec.ofChange fnExactServeStopSpec)

/-- ITS FALSE NEIGHBOUR: 'it returns false'. Refute it at one input. -/
def fnExactServeStopWrong : ChangeSpec := { name := "fnExactServeStop", fn := fun _ => fun
  | [d1, d2] => { results := [.lit (.bool false)], args := [d1, d2] }
  | _ => none }
def FnExactServeStopWrongFalsely : Prop := fnExactServeStopRow.holds Try.pinned (OpenSpec.ofChange fnExactServeStopWrong)

/-- 'laws.FnExactSweepStops': WHATEVER THE INPUT: true; the input reads as it did. -/
def fnExactSweepStopsSpec : ChangeSpec := { name := "fnExactSweepStops", fn := fun _ => fun
  | [d1, d2] => { results := [.lit (.bool true)], args := [d1, d2] }
  | _ => none }
def fnExactSweepStopsRow : OpenClaim := { program := "ytkpginkkfobblaa", sum := "8f6a4319ddc32c8544b2f041459f263e97f2b4e72397f6e03d7eda96a2975ff8", func := "loop.example/elevators/laws.FnExactSweepStops", spec := "fnExactSweepStops", apart := false }
def FnExactSweepStopsSaid : Prop := fnExactSweepStopsRow.holds Try.pinned (OpenSpec.ofChange fnExactSweepStopsSpec)

/-- ITS FALSE NEIGHBOUR: 'it returns false'. Refute it at one input. -/
def fnExactSweepStopsWrong : ChangeSpec := { name := "fnExactSweepStops", fn := fun _ => fun
  | [d1, d2] => { results := [.lit (.bool false)], args := [d1, d2] }
  | _ => none }
def FnExactSweepStopsWrongFalsely : Prop := fnExactSweepStopsRow.holds Try.pinned (OpenSpec.ofChange fnExactSweepStopsWrong)

/- THE SECOND FORM. 'bulk': how many values and letters a reading holds, each counted each time it is reached (what is shared counts as often as it is met; a slice's spare places count too). A statement '..UptoSaid' is the law's where the arguments, and the package variables that the reading takes, are together of bulk at most 1048576: NARROWER than '..Said'. Prove '..Said' where nothing that the law and all that it calls make is longer than what came in: it says more and counts as full. Else prove '..UptoSaid'. A law counts once. -/
mutual
def uptoBulk {H : Type} : DataW H → Nat
  | .lit (.string bytes) => bytes.length + 1
  | .lit _ => 1
  | .nil => 1
  | .ptr d => uptoBulk d + 1
  | .slice elems spare => uptoBulkAll elems + uptoBulkAll spare + 1
  | .agg parts => uptoBulkAll parts + 1
  | .iface _ d => uptoBulk d + 1
  | .map entries => uptoBulkEntries entries + 1
  | .held _ => 1
def uptoBulkAll {H : Type} : List (DataW H) → Nat
  | [] => 0
  | d :: r => uptoBulk d + uptoBulkAll r
def uptoBulkEntries {H : Type} : List (Lit × DataW H) → Nat
  | [] => 0
  | x :: r => uptoBulkEntry x + uptoBulkEntries r
def uptoBulkEntry {H : Type} : Lit × DataW H → Nat
  | (.string bytes, d) => bytes.length + uptoBulk d + 1
  | (_, d) => uptoBulk d + 1
 end
def uptoSmall : (H : Type) → List (DataW H) → Bool := fun _ ds => decide (uptoBulkAll ds ≤ 1048576)
def OpenSpec.upto (s : _root_.Go.ChangeSpec) : _root_.Go.OpenSpec := { _root_.Go.OpenSpec.ofChange s with cond := some uptoSmall }

/-- 'laws.FnNextStop', WHERE WHAT IT READS IS OF BULK AT MOST 1048576: true; the input reads as it did. -/
def fnNextStopUptoRow : OpenClaim := { program := "ytkpginkkfobblaa", sum := "8f6a4319ddc32c8544b2f041459f263e97f2b4e72397f6e03d7eda96a2975ff8", func := "loop.example/elevators/laws.FnNextStop", spec := "fnNextStop", apart := false, narrowed := true }
def FnNextStopUptoSaid : Prop := fnNextStopUptoRow.holds Try.pinned (OpenSpec.upto fnNextStopSpec)

/-- 'laws.FnServeStop', WHERE WHAT IT READS IS OF BULK AT MOST 1048576: true; the input reads as it did. -/
def fnServeStopUptoRow : OpenClaim := { program := "ytkpginkkfobblaa", sum := "8f6a4319ddc32c8544b2f041459f263e97f2b4e72397f6e03d7eda96a2975ff8", func := "loop.example/elevators/laws.FnServeStop", spec := "fnServeStop", apart := false, narrowed := true }
def FnServeStopUptoSaid : Prop := fnServeStopUptoRow.holds Try.pinned (OpenSpec.upto fnServeStopSpec)

/-- 'laws.FnSweepStops', WHERE WHAT IT READS IS OF BULK AT MOST 1048576: true; the input reads as it did. -/
def fnSweepStopsUptoRow : OpenClaim := { program := "ytkpginkkfobblaa", sum := "8f6a4319ddc32c8544b2f041459f263e97f2b4e72397f6e03d7eda96a2975ff8", func := "loop.example/elevators/laws.FnSweepStops", spec := "fnSweepStops", apart := false, narrowed := true }
def FnSweepStopsUptoSaid : Prop := fnSweepStopsUptoRow.holds Try.pinned (OpenSpec.upto fnSweepStopsSpec)

/-- 'laws.FnExactNextStop', WHERE WHAT IT READS IS OF BULK AT MOST 1048576: true; the input reads as it did. -/
def fnExactNextStopUptoRow : OpenClaim := { program := "ytkpginkkfobblaa", sum := "8f6a4319ddc32c8544b2f041459f263e97f2b4e72397f6e03d7eda96a2975ff8", func := "loop.example/elevators/laws.FnExactNextStop", spec := "fnExactNextStop", apart := false, narrowed := true }
def FnExactNextStopUptoSaid : Prop := fnExactNextStopUptoRow.holds Try.pinned (OpenSpec.upto fnExactNextStopSpec)

/-- 'laws.FnExactServeStop', WHERE WHAT IT READS IS OF BULK AT MOST 1048576: true; the input reads as it did. -/
def fnExactServeStopUptoRow : OpenClaim := { program := "ytkpginkkfobblaa", sum := "8f6a4319ddc32c8544b2f041459f263e97f2b4e72397f6e03d7eda96a2975ff8", func := "loop.example/elevators/laws.FnExactServeStop", spec := "fnExactServeStop", apart := false, narrowed := true }
def FnExactServeStopUptoSaid : Prop := fnExactServeStopUptoRow.holds Try.pinned (OpenSpec.upto fnExactServeStopSpec)

/-- 'laws.FnExactSweepStops', WHERE WHAT IT READS IS OF BULK AT MOST 1048576: true; the input reads as it did. -/
def fnExactSweepStopsUptoRow : OpenClaim := { program := "ytkpginkkfobblaa", sum := "8f6a4319ddc32c8544b2f041459f263e97f2b4e72397f6e03d7eda96a2975ff8", func := "loop.example/elevators/laws.FnExactSweepStops", spec := "fnExactSweepStops", apart := false, narrowed := true }
def FnExactSweepStopsUptoSaid : Prop := fnExactSweepStopsUptoRow.holds Try.pinned (OpenSpec.upto fnExactSweepStopsSpec)

end Rows
end Go.Proofs.Ytkpginkkfobblaa

/-
  No cell of these rows narrows 'for every input' (looked for: loops, veiled, ifaces, maps, wideKeys, modest, calm, conditions, laid).
  DERIVED. THE GIVEN ROWS OF THIS SEAT. 10 by the template 'for every input the law returns true; each argument reads behind the call as it read before'; 0 by the template 'total and deterministic' (their statements: YtolojhbnmfpjaaaTotals.lean).
  GIVEN WITH THE SEED: the statements are not yours to turn. If you find one false, say at which input.
  Laid BY PROGRAM, IN A SANDBOX (cutbox-rows.mjs): the forced cells as the released guide's own fill.sh prints them over the translation 7cef0172a8f1675a… (all of the seat's roots in one cut). By AI agents, Wed Nov 11 2026. No macro, syntax, notation, axiom, sorry.
-/
import Derived.Test.YtolojhbnmfpjaaaChecked
import GoSem.Claim
import GoSem.ClaimJoined
import GoSem.ClaimMapViews
import Derived.JoinedTies
import Derived.KernelRfl
namespace Go.Proofs.Ytolojhbnmfpjaaa
/- THE CELL 'sum', in the pinned program and in every row, IS THE sha256 OF THE DUMP (.gsa) THAT YtolojhbnmfpjaaaProg.lean LOADS. Nothing in Lean hashes anything: it is a label: what it is worth is what the hold of that sum in a sandbox is worth. -/
noncomputable def Try.pinned : Pinned := { name := "ytolojhbnmfpjaaa", sum := "7cef0172a8f1675a7e11536807517c043e207796633c541233ae245f3935b84e", checked := Try.checked }
namespace Rows
def none {H : Type} : Left H := { results := [], args := [] }

/-- 'laws.FnMotionValid': WHATEVER THE INPUT: true; the input reads as it did. -/
def fnMotionValidSpec : ChangeSpec := { name := "fnMotionValid", fn := fun _ => fun
  | [d] => { results := [.lit (.bool true)], args := [d] }
  | _ => none }
def fnMotionValidRow : OpenClaim := { program := "ytolojhbnmfpjaaa", sum := "7cef0172a8f1675a7e11536807517c043e207796633c541233ae245f3935b84e", func := "loop.example/elevators/laws.FnMotionValid", spec := "fnMotionValid", apart := false }
def FnMotionValidSaid : Prop := fnMotionValidRow.holds Try.pinned (OpenSpec.ofChange fnMotionValidSpec)

/-- ITS FALSE NEIGHBOUR: 'it returns false'. Refute it at one input. -/
def fnMotionValidWrong : ChangeSpec := { name := "fnMotionValid", fn := fun _ => fun
  | [d] => { results := [.lit (.bool false)], args := [d] }
  | _ => none }
def FnMotionValidWrongFalsely : Prop := fnMotionValidRow.holds Try.pinned (OpenSpec.ofChange fnMotionValidWrong)

/-- 'laws.FnBrakeWay': WHATEVER THE INPUT: true; the input reads as it did. -/
def fnBrakeWaySpec : ChangeSpec := { name := "fnBrakeWay", fn := fun _ => fun
  | [d] => { results := [.lit (.bool true)], args := [d] }
  | _ => none }
def fnBrakeWayRow : OpenClaim := { program := "ytolojhbnmfpjaaa", sum := "7cef0172a8f1675a7e11536807517c043e207796633c541233ae245f3935b84e", func := "loop.example/elevators/laws.FnBrakeWay", spec := "fnBrakeWay", recurses := true, apart := false }
def FnBrakeWaySaid : Prop := fnBrakeWayRow.holds Try.pinned (OpenSpec.ofChange fnBrakeWaySpec)

/-- ITS FALSE NEIGHBOUR: 'it returns false'. Refute it at one input. -/
def fnBrakeWayWrong : ChangeSpec := { name := "fnBrakeWay", fn := fun _ => fun
  | [d] => { results := [.lit (.bool false)], args := [d] }
  | _ => none }
def FnBrakeWayWrongFalsely : Prop := fnBrakeWayRow.holds Try.pinned (OpenSpec.ofChange fnBrakeWayWrong)

/-- 'laws.FnCanStop': WHATEVER THE INPUT: true; the input reads as it did. -/
def fnCanStopSpec : ChangeSpec := { name := "fnCanStop", fn := fun _ => fun
  | [d] => { results := [.lit (.bool true)], args := [d] }
  | _ => none }
def fnCanStopRow : OpenClaim := { program := "ytolojhbnmfpjaaa", sum := "7cef0172a8f1675a7e11536807517c043e207796633c541233ae245f3935b84e", func := "loop.example/elevators/laws.FnCanStop", spec := "fnCanStop", recurses := true, apart := false }
def FnCanStopSaid : Prop := fnCanStopRow.holds Try.pinned (OpenSpec.ofChange fnCanStopSpec)

/-- ITS FALSE NEIGHBOUR: 'it returns false'. Refute it at one input. -/
def fnCanStopWrong : ChangeSpec := { name := "fnCanStop", fn := fun _ => fun
  | [d] => { results := [.lit (.bool false)], args := [d] }
  | _ => none }
def FnCanStopWrongFalsely : Prop := fnCanStopRow.holds Try.pinned (OpenSpec.ofChange fnCanStopWrong)

/-- 'laws.FnMotionStep': WHATEVER THE INPUT: true; the input reads as it did. -/
def fnMotionStepSpec : ChangeSpec := { name := "fnMotionStep", fn := fun _ => fun
  | [d] => { results := [.lit (.bool true)], args := [d] }
  | _ => none }
def fnMotionStepRow : OpenClaim := { program := "ytolojhbnmfpjaaa", sum := "7cef0172a8f1675a7e11536807517c043e207796633c541233ae245f3935b84e", func := "loop.example/elevators/laws.FnMotionStep", spec := "fnMotionStep", recurses := true, apart := false }
def FnMotionStepSaid : Prop := fnMotionStepRow.holds Try.pinned (OpenSpec.ofChange fnMotionStepSpec)

/-- ITS FALSE NEIGHBOUR: 'it returns false'. Refute it at one input. -/
def fnMotionStepWrong : ChangeSpec := { name := "fnMotionStep", fn := fun _ => fun
  | [d] => { results := [.lit (.bool false)], args := [d] }
  | _ => none }
def FnMotionStepWrongFalsely : Prop := fnMotionStepRow.holds Try.pinned (OpenSpec.ofChange fnMotionStepWrong)

/-- 'laws.FnMotionTicks': WHATEVER THE INPUT: true; the input reads as it did. -/
def fnMotionTicksSpec : ChangeSpec := { name := "fnMotionTicks", fn := fun _ => fun
  | [d] => { results := [.lit (.bool true)], args := [d] }
  | _ => none }
def fnMotionTicksRow : OpenClaim := { program := "ytolojhbnmfpjaaa", sum := "7cef0172a8f1675a7e11536807517c043e207796633c541233ae245f3935b84e", func := "loop.example/elevators/laws.FnMotionTicks", spec := "fnMotionTicks", recurses := true, apart := false }
def FnMotionTicksSaid : Prop := fnMotionTicksRow.holds Try.pinned (OpenSpec.ofChange fnMotionTicksSpec)

/-- ITS FALSE NEIGHBOUR: 'it returns false'. Refute it at one input. -/
def fnMotionTicksWrong : ChangeSpec := { name := "fnMotionTicks", fn := fun _ => fun
  | [d] => { results := [.lit (.bool false)], args := [d] }
  | _ => none }
def FnMotionTicksWrongFalsely : Prop := fnMotionTicksRow.holds Try.pinned (OpenSpec.ofChange fnMotionTicksWrong)

/-- 'laws.FnExactMotionValid': WHATEVER THE INPUT: true; the input reads as it did. -/
def fnExactMotionValidSpec : ChangeSpec := { name := "fnExactMotionValid", fn := fun _ => fun
  | [d] => { results := [.lit (.bool true)], args := [d] }
  | _ => none }
def fnExactMotionValidRow : OpenClaim := { program := "ytolojhbnmfpjaaa", sum := "7cef0172a8f1675a7e11536807517c043e207796633c541233ae245f3935b84e", func := "loop.example/elevators/laws.FnExactMotionValid", spec := "fnExactMotionValid", apart := false }
def FnExactMotionValidSaid : Prop := fnExactMotionValidRow.holds Try.pinned (OpenSpec.ofChange fnExactMotionValidSpec)

/-- ITS FALSE NEIGHBOUR: 'it returns false'. Refute it at one input. -/
def fnExactMotionValidWrong : ChangeSpec := { name := "fnExactMotionValid", fn := fun _ => fun
  | [d] => { results := [.lit (.bool false)], args := [d] }
  | _ => none }
def FnExactMotionValidWrongFalsely : Prop := fnExactMotionValidRow.holds Try.pinned (OpenSpec.ofChange fnExactMotionValidWrong)

/-- 'laws.FnExactBrakeWay': WHATEVER THE INPUT: true; the input reads as it did. -/
def fnExactBrakeWaySpec : ChangeSpec := { name := "fnExactBrakeWay", fn := fun _ => fun
  | [d] => { results := [.lit (.bool true)], args := [d] }
  | _ => none }
def fnExactBrakeWayRow : OpenClaim := { program := "ytolojhbnmfpjaaa", sum := "7cef0172a8f1675a7e11536807517c043e207796633c541233ae245f3935b84e", func := "loop.example/elevators/laws.FnExactBrakeWay", spec := "fnExactBrakeWay", recurses := true, apart := false }
def FnExactBrakeWaySaid : Prop := fnExactBrakeWayRow.holds Try.pinned (OpenSpec.ofChange fnExactBrakeWaySpec)

/-- ITS FALSE NEIGHBOUR: 'it returns false'. Refute it at one input. -/
def fnExactBrakeWayWrong : ChangeSpec := { name := "fnExactBrakeWay", fn := fun _ => fun
  | [d] => { results := [.lit (.bool false)], args := [d] }
  | _ => none }
def FnExactBrakeWayWrongFalsely : Prop := fnExactBrakeWayRow.holds Try.pinned (OpenSpec.ofChange fnExactBrakeWayWrong)

/-- 'laws.FnExactCanStop': WHATEVER THE INPUT: true; the input reads as it did. -/
def fnExactCanStopSpec : ChangeSpec := { name := "fnExactCanStop", fn := fun _ => fun
  | [d1, d2] => { results := [.lit (.bool true)], args := [d1, d2] }
  | _ => none }
def fnExactCanStopRow : OpenClaim := { program := "ytolojhbnmfpjaaa", sum := "7cef0172a8f1675a7e11536807517c043e207796633c541233ae245f3935b84e", func := "loop.example/elevators/laws.FnExactCanStop", spec := "fnExactCanStop", recurses := true, apart := false }
def FnExactCanStopSaid : Prop := fnExactCanStopRow.holds Try.pinned (OpenSpec.ofChange fnExactCanStopSpec)

/-- ITS FALSE NEIGHBOUR: 'it returns false'. Refute it at one input. -/
def fnExactCanStopWrong : ChangeSpec := { name := "fnExactCanStop", fn := fun _ => fun
  | [d1, d2] => { results := [.lit (.bool false)], args := [d1, d2] }
  | _ => none }
def FnExactCanStopWrongFalsely : Prop := fnExactCanStopRow.holds Try.pinned (OpenSpec.ofChange fnExactCanStopWrong)

/-- 'laws.FnExactMotionStep': WHATEVER THE INPUT: true; the input reads as it did. -/
def fnExactMotionStepSpec : ChangeSpec := { name := "fnExactMotionStep", fn := fun _ => fun
  | [d1, d2] => { results := [.lit (.bool true)], args := [d1, d2] }
  | _ => none }
def fnExactMotionStepRow : OpenClaim := { program := "ytolojhbnmfpjaaa", sum := "7cef0172a8f1675a7e11536807517c043e207796633c541233ae245f3935b84e", func := "loop.example/elevators/laws.FnExactMotionStep", spec := "fnExactMotionStep", recurses := true, apart := false }
def FnExactMotionStepSaid : Prop := fnExactMotionStepRow.holds Try.pinned (OpenSpec.ofChange fnExactMotionStepSpec)

/-- ITS FALSE NEIGHBOUR: 'it returns false'. Refute it at one input. -/
def fnExactMotionStepWrong : ChangeSpec := { name := "fnExactMotionStep", fn := fun _ => fun
  | [d1, d2] => { results := [.lit (.bool false)], args := [d1, d2] }
  | _ => none }
def FnExactMotionStepWrongFalsely : Prop := fnExactMotionStepRow.holds Try.pinned (OpenSpec.ofChange fnExactMotionStepWrong)

/-- 'laws.FnExactMotionTicks': WHATEVER THE INPUT: true; the input reads as it did. -/
def fnExactMotionTicksSpec : ChangeSpec := { name := "fnExactMotionTicks", fn := fun _ => fun
  | [d1, d2] => { results := [.lit (.bool true)], args := [d1, d2] }
  | _ => none }
def fnExactMotionTicksRow : OpenClaim := { program := "ytolojhbnmfpjaaa", sum := "7cef0172a8f1675a7e11536807517c043e207796633c541233ae245f3935b84e", func := "loop.example/elevators/laws.FnExactMotionTicks", spec := "fnExactMotionTicks", recurses := true, apart := false }
def FnExactMotionTicksSaid : Prop := fnExactMotionTicksRow.holds Try.pinned (OpenSpec.ofChange fnExactMotionTicksSpec)

/-- ITS FALSE NEIGHBOUR: 'it returns false'. Refute it at one input. -/
def fnExactMotionTicksWrong : ChangeSpec := { name := "fnExactMotionTicks", fn := fun _ => fun
  | [d1, d2] => { results := [.lit (.bool false)], args := [d1, d2] }
  | _ => none }
def FnExactMotionTicksWrongFalsely : Prop := fnExactMotionTicksRow.holds Try.pinned (OpenSpec.ofChange fnExactMotionTicksWrong)

/- THE SECOND FORM. 'bulk': how many values and letters a reading holds, each counted each time it is reached (what is shared counts as often as it is met; a slice's spare places count too). A statement '..UptoSaid' is the law's where the arguments, and the package variables that the reading takes, are together of bulk at most 1048576: NARROWER than '..Said'. Prove '..Said' where nothing that the law and all that it calls make is longer than what came in: it says more and counts as full. Else prove '..UptoSaid'. A law counts once. -/
mutual
def uptoBulk {H : Type} : DataW H → Nat
  | .lit (.string bytes) => bytes.length + 1
  | .lit _ => 1
  | .nil => 1
  | .ptr d => uptoBulk d + 1
  | .slice elems spare => uptoBulkAll elems + uptoBulkAll spare + 1
  | .agg parts => uptoBulkAll parts + 1
  | .iface _ d => uptoBulk d + 1
  | .map entries => uptoBulkEntries entries + 1
  | .held _ => 1
def uptoBulkAll {H : Type} : List (DataW H) → Nat
  | [] => 0
  | d :: r => uptoBulk d + uptoBulkAll r
def uptoBulkEntries {H : Type} : List (Lit × DataW H) → Nat
  | [] => 0
  | x :: r => uptoBulkEntry x + uptoBulkEntries r
def uptoBulkEntry {H : Type} : Lit × DataW H → Nat
  | (.string bytes, d) => bytes.length + uptoBulk d + 1
  | (_, d) => uptoBulk d + 1
 end
def uptoSmall : (H : Type) → List (DataW H) → Bool := fun _ ds => decide (uptoBulkAll ds ≤ 1048576)
def OpenSpec.upto (s : _root_.Go.ChangeSpec) : _root_.Go.OpenSpec := { _root_.Go.OpenSpec.ofChange s with cond := some uptoSmall }

/-- 'laws.FnMotionValid', WHERE WHAT IT READS IS OF BULK AT MOST 1048576: true; the input reads as it did. -/
def fnMotionValidUptoRow : OpenClaim := { program := "ytolojhbnmfpjaaa", sum := "7cef0172a8f1675a7e11536807517c043e207796633c541233ae245f3935b84e", func := "loop.example/elevators/laws.FnMotionValid", spec := "fnMotionValid", apart := false, narrowed := true }
def FnMotionValidUptoSaid : Prop := fnMotionValidUptoRow.holds Try.pinned (OpenSpec.upto fnMotionValidSpec)

/-- 'laws.FnBrakeWay', WHERE WHAT IT READS IS OF BULK AT MOST 1048576: true; the input reads as it did. -/
def fnBrakeWayUptoRow : OpenClaim := { program := "ytolojhbnmfpjaaa", sum := "7cef0172a8f1675a7e11536807517c043e207796633c541233ae245f3935b84e", func := "loop.example/elevators/laws.FnBrakeWay", spec := "fnBrakeWay", recurses := true, apart := false, narrowed := true }
def FnBrakeWayUptoSaid : Prop := fnBrakeWayUptoRow.holds Try.pinned (OpenSpec.upto fnBrakeWaySpec)

/-- 'laws.FnCanStop', WHERE WHAT IT READS IS OF BULK AT MOST 1048576: true; the input reads as it did. -/
def fnCanStopUptoRow : OpenClaim := { program := "ytolojhbnmfpjaaa", sum := "7cef0172a8f1675a7e11536807517c043e207796633c541233ae245f3935b84e", func := "loop.example/elevators/laws.FnCanStop", spec := "fnCanStop", recurses := true, apart := false, narrowed := true }
def FnCanStopUptoSaid : Prop := fnCanStopUptoRow.holds Try.pinned (OpenSpec.upto fnCanStopSpec)

/-- 'laws.FnMotionStep', WHERE WHAT IT READS IS OF BULK AT MOST 1048576: true; the input reads as it did. -/
def fnMotionStepUptoRow : OpenClaim := { program := "ytolojhbnmfpjaaa", sum := "7cef0172a8f1675a7e11536807517c043e207796633c541233ae245f3935b84e", func := "loop.example/elevators/laws.FnMotionStep", spec := "fnMotionStep", recurses := true, apart := false, narrowed := true }
def FnMotionStepUptoSaid : Prop := fnMotionStepUptoRow.holds Try.pinned (OpenSpec.upto fnMotionStepSpec)

/-- 'laws.FnMotionTicks', WHERE WHAT IT READS IS OF BULK AT MOST 1048576: true; the input reads as it did. -/
def fnMotionTicksUptoRow : OpenClaim := { program := "ytolojhbnmfpjaaa", sum := "7cef0172a8f1675a7e11536807517c043e207796633c541233ae245f3935b84e", func := "loop.example/elevators/laws.FnMotionTicks", spec := "fnMotionTicks", recurses := true, apart := false, narrowed := true }
def FnMotionTicksUptoSaid : Prop := fnMotionTicksUptoRow.holds Try.pinned (OpenSpec.upto fnMotionTicksSpec)

/-- 'laws.FnExactMotionValid', WHERE WHAT IT READS IS OF BULK AT MOST 1048576: true; the input reads as it did. -/
def fnExactMotionValidUptoRow : OpenClaim := { program := "ytolojhbnmfpjaaa", sum := "7cef0172a8f1675a7e11536807517c043e207796633c541233ae245f3935b84e", func := "loop.example/elevators/laws.FnExactMotionValid", spec := "fnExactMotionValid", apart := false, narrowed := true }
def FnExactMotionValidUptoSaid : Prop := fnExactMotionValidUptoRow.holds Try.pinned (OpenSpec.upto fnExactMotionValidSpec)

/-- 'laws.FnExactBrakeWay', WHERE WHAT IT READS IS OF BULK AT MOST 1048576: true; the input reads as it did. -/
def fnExactBrakeWayUptoRow : OpenClaim := { program := "ytolojhbnmfpjaaa", sum := "7cef0172a8f1675a7e11536807517c043e207796633c541233ae245f3935b84e", func := "loop.example/elevators/laws.FnExactBrakeWay", spec := "fnExactBrakeWay", recurses := true, apart := false, narrowed := true }
def FnExactBrakeWayUptoSaid : Prop := fnExactBrakeWayUptoRow.holds Try.pinned (OpenSpec.upto fnExactBrakeWaySpec)

/-- 'laws.FnExactCanStop', WHERE WHAT IT READS IS OF BULK AT MOST 1048576: true; the input reads as it did. -/
def fnExactCanStopUptoRow : OpenClaim := { program := "ytolojhbnmfpjaaa", sum := "7cef0172a8f1675a7e11536807517c043e207796633c541233ae245f3935b84e", func := "loop.example/elevators/laws.FnExactCanStop", spec := "fnExactCanStop", recurses := true, apart := false, narrowed := true }
def FnExactCanStopUptoSaid : Prop := fnExactCanStopUptoRow.holds Try.pinned (OpenSpec.upto fnExactCanStopSpec)

/-- 'laws.FnExactMotionStep', WHERE WHAT IT READS IS OF BULK AT MOST 1048576: true; the input reads as it did. -/
def fnExactMotionStepUptoRow : OpenClaim := { program := "ytolojhbnmfpjaaa", sum := "7cef0172a8f1675a7e11536807517c043e207796633c541233ae245f3935b84e", func := "loop.example/elevators/laws.FnExactMotionStep", spec := "fnExactMotionStep", recurses := true, apart := false, narrowed := true }
def FnExactMotionStepUptoSaid : Prop := fnExactMotionStepUptoRow.holds Try.pinned (OpenSpec.upto fnExactMotionStepSpec)

/-- 'laws.FnExactMotionTicks', WHERE WHAT IT READS IS OF BULK AT MOST 1048576: true; the input reads as it did. -/
def fnExactMotionTicksUptoRow : OpenClaim := { program := "ytolojhbnmfpjaaa", sum := "7cef0172a8f1675a7e11536807517c043e207796633c541233ae245f3935b84e", func := "loop.example/elevators/laws.FnExactMotionTicks", spec := "fnExactMotionTicks", recurses := true, apart := false, narrowed := true }
def FnExactMotionTicksUptoSaid : Prop := fnExactMotionTicksUptoRow.holds Try.pinned (OpenSpec.upto fnExactMotionTicksSpec)

end Rows
end Go.Proofs.Ytolojhbnmfpjaaa

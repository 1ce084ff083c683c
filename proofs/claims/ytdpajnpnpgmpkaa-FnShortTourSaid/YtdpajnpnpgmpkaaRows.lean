/-
  No cell of these rows narrows 'for every input' (looked for: loops, veiled, ifaces, maps, wideKeys, modest, calm, conditions, laid).
  DERIVED. THE GIVEN ROWS OF THIS SEAT. 8 by the template 'for every input the law returns true; each argument reads behind the call as it read before'; 0 by the template 'total and deterministic' (their statements: YtdpajnpnpgmpkaaTotals.lean).
  GIVEN WITH THE SEED: the statements are not yours to turn. If you find one false, say at which input.
  Laid BY PROGRAM, IN A SANDBOX (cutbox-rows.mjs): the forced cells as the released guide's own fill.sh prints them over the translation d533b708164a6de5… (all of the seat's roots in one cut). By AI agents, Wed Nov 11 2026. No macro, syntax, notation, axiom, sorry.
-/
import Derived.Test.YtdpajnpnpgmpkaaChecked
import GoSem.Claim
import GoSem.ClaimJoined
import GoSem.ClaimMapViews
import Derived.JoinedTies
import Derived.KernelRfl
namespace Go.Proofs.Ytdpajnpnpgmpkaa
/- THE CELL 'sum', in the pinned program and in every row, IS THE sha256 OF THE DUMP (.gsa) THAT YtdpajnpnpgmpkaaProg.lean LOADS. Nothing in Lean hashes anything: it is a label: what it is worth is what the hold of that sum in a sandbox is worth. -/
noncomputable def Try.pinned : Pinned := { name := "ytdpajnpnpgmpkaa", sum := "d533b708164a6de5c2b663312536c65b07f66cd3956f0673dfaa8f971555e163", checked := Try.checked }
namespace Rows
def none {H : Type} : Left H := { results := [], args := [] }

/-- 'laws.FnVisitsOk': WHATEVER THE INPUT: true; the input reads as it did. -/
def fnVisitsOkSpec : ChangeSpec := { name := "fnVisitsOk", fn := fun _ => fun
  | [d] => { results := [.lit (.bool true)], args := [d] }
  | _ => none }
def fnVisitsOkRow : OpenClaim := { program := "ytdpajnpnpgmpkaa", sum := "d533b708164a6de5c2b663312536c65b07f66cd3956f0673dfaa8f971555e163", func := "loop.example/elevators/laws.FnVisitsOk", spec := "fnVisitsOk", apart := false }
def FnVisitsOkSaid : Prop := fnVisitsOkRow.holds Try.pinned (OpenSpec.ofChange fnVisitsOkSpec)

/-- ITS FALSE NEIGHBOUR: 'it returns false'. Refute it at one input. -/
def fnVisitsOkWrong : ChangeSpec := { name := "fnVisitsOk", fn := fun _ => fun
  | [d] => { results := [.lit (.bool false)], args := [d] }
  | _ => none }
def FnVisitsOkWrongFalsely : Prop := fnVisitsOkRow.holds Try.pinned (OpenSpec.ofChange fnVisitsOkWrong)

/-- 'laws.FnTourWay': WHATEVER THE INPUT: true; the input reads as it did. -/
def fnTourWaySpec : ChangeSpec := { name := "fnTourWay", fn := fun _ => fun
  | [d] => { results := [.lit (.bool true)], args := [d] }
  | _ => none }
def fnTourWayRow : OpenClaim := { program := "ytdpajnpnpgmpkaa", sum := "d533b708164a6de5c2b663312536c65b07f66cd3956f0673dfaa8f971555e163", func := "loop.example/elevators/laws.FnTourWay", spec := "fnTourWay", apart := false }
def FnTourWaySaid : Prop := fnTourWayRow.holds Try.pinned (OpenSpec.ofChange fnTourWaySpec)

/-- ITS FALSE NEIGHBOUR: 'it returns false'. Refute it at one input. -/
def fnTourWayWrong : ChangeSpec := { name := "fnTourWay", fn := fun _ => fun
  | [d] => { results := [.lit (.bool false)], args := [d] }
  | _ => none }
def FnTourWayWrongFalsely : Prop := fnTourWayRow.holds Try.pinned (OpenSpec.ofChange fnTourWayWrong)

/-- 'laws.FnShortTour': WHATEVER THE INPUT: true; the input reads as it did. -/
def fnShortTourSpec : ChangeSpec := { name := "fnShortTour", fn := fun _ => fun
  | [d] => { results := [.lit (.bool true)], args := [d] }
  | _ => none }
def fnShortTourRow : OpenClaim := { program := "ytdpajnpnpgmpkaa", sum := "d533b708164a6de5c2b663312536c65b07f66cd3956f0673dfaa8f971555e163", func := "loop.example/elevators/laws.FnShortTour", spec := "fnShortTour", apart := false }
def FnShortTourSaid : Prop := fnShortTourRow.holds Try.pinned (OpenSpec.ofChange fnShortTourSpec)

/-- ITS FALSE NEIGHBOUR: 'it returns false'. Refute it at one input. -/
def fnShortTourWrong : ChangeSpec := { name := "fnShortTour", fn := fun _ => fun
  | [d] => { results := [.lit (.bool false)], args := [d] }
  | _ => none }
def FnShortTourWrongFalsely : Prop := fnShortTourRow.holds Try.pinned (OpenSpec.ofChange fnShortTourWrong)

/-- 'laws.FnShortWay': WHATEVER THE INPUT: true; the input reads as it did. -/
def fnShortWaySpec : ChangeSpec := { name := "fnShortWay", fn := fun _ => fun
  | [d1, d2] => { results := [.lit (.bool true)], args := [d1, d2] }
  | _ => none }
def fnShortWayRow : OpenClaim := { program := "ytdpajnpnpgmpkaa", sum := "d533b708164a6de5c2b663312536c65b07f66cd3956f0673dfaa8f971555e163", func := "loop.example/elevators/laws.FnShortWay", spec := "fnShortWay", apart := false }
def FnShortWaySaid : Prop := fnShortWayRow.holds Try.pinned (OpenSpec.ofChange fnShortWaySpec)

/-- ITS FALSE NEIGHBOUR: 'it returns false'. Refute it at one input. -/
def fnShortWayWrong : ChangeSpec := { name := "fnShortWay", fn := fun _ => fun
  | [d1, d2] => { results := [.lit (.bool false)], args := [d1, d2] }
  | _ => none }
def FnShortWayWrongFalsely : Prop := fnShortWayRow.holds Try.pinned (OpenSpec.ofChange fnShortWayWrong)

/-- 'laws.FnExactVisitsOk': WHATEVER THE INPUT: true; the input reads as it did. -/
def fnExactVisitsOkSpec : ChangeSpec := { name := "fnExactVisitsOk", fn := fun _ => fun
  | [d1, d2] => { results := [.lit (.bool true)], args := [d1, d2] }
  | _ => none }
def fnExactVisitsOkRow : OpenClaim := { program := "ytdpajnpnpgmpkaa", sum := "d533b708164a6de5c2b663312536c65b07f66cd3956f0673dfaa8f971555e163", func := "loop.example/elevators/laws.FnExactVisitsOk", spec := "fnExactVisitsOk", apart := false }
def FnExactVisitsOkSaid : Prop := fnExactVisitsOkRow.holds Try.pinned (OpenSpec.ofChange fnExactVisitsOkSpec)

/-- ITS FALSE NEIGHBOUR: 'it returns false'. Refute it at one input. -/
def fnExactVisitsOkWrong : ChangeSpec := { name := "fnExactVisitsOk", fn := fun _ => fun
  | [d1, d2] => { results := [.lit (.bool false)], args := [d1, d2] }
  | _ => none }
def FnExactVisitsOkWrongFalsely : Prop := fnExactVisitsOkRow.holds Try.pinned (OpenSpec.ofChange fnExactVisitsOkWrong)

/-- 'laws.FnExactTourWay': WHATEVER THE INPUT: true; the input reads as it did. -/
def fnExactTourWaySpec : ChangeSpec := { name := "fnExactTourWay", fn := fun _ => fun
  | [d1, d2, d3] => { results := [.lit (.bool true)], args := [d1, d2, d3] }
  | _ => none }
def fnExactTourWayRow : OpenClaim := { program := "ytdpajnpnpgmpkaa", sum := "d533b708164a6de5c2b663312536c65b07f66cd3956f0673dfaa8f971555e163", func := "loop.example/elevators/laws.FnExactTourWay", spec := "fnExactTourWay", apart := false }
def FnExactTourWaySaid : Prop := fnExactTourWayRow.holds Try.pinned (OpenSpec.ofChange fnExactTourWaySpec)

/-- ITS FALSE NEIGHBOUR: 'it returns false'. Refute it at one input. -/
def fnExactTourWayWrong : ChangeSpec := { name := "fnExactTourWay", fn := fun _ => fun
  | [d1, d2, d3] => { results := [.lit (.bool false)], args := [d1, d2, d3] }
  | _ => none }
def FnExactTourWayWrongFalsely : Prop := fnExactTourWayRow.holds Try.pinned (OpenSpec.ofChange fnExactTourWayWrong)

/-- 'laws.FnExactShortTour': WHATEVER THE INPUT: true; the input reads as it did. -/
def fnExactShortTourSpec : ChangeSpec := { name := "fnExactShortTour", fn := fun _ => fun
  | [d1, d2, d3] => { results := [.lit (.bool true)], args := [d1, d2, d3] }
  | _ => none }
def fnExactShortTourRow : OpenClaim := { program := "ytdpajnpnpgmpkaa", sum := "d533b708164a6de5c2b663312536c65b07f66cd3956f0673dfaa8f971555e163", func := "loop.example/elevators/laws.FnExactShortTour", spec := "fnExactShortTour", apart := false }
def FnExactShortTourSaid : Prop := fnExactShortTourRow.holds Try.pinned (OpenSpec.ofChange fnExactShortTourSpec)

/-- ITS FALSE NEIGHBOUR: 'it returns false'. Refute it at one input. -/
def fnExactShortTourWrong : ChangeSpec := { name := "fnExactShortTour", fn := fun _ => fun
  | [d1, d2, d3] => { results := [.lit (.bool false)], args := [d1, d2, d3] }
  | _ => none }
def FnExactShortTourWrongFalsely : Prop := fnExactShortTourRow.holds Try.pinned (OpenSpec.ofChange fnExactShortTourWrong)

/-- 'laws.FnExactShortWay': WHATEVER THE INPUT: true; the input reads as it did. -/
def fnExactShortWaySpec : ChangeSpec := { name := "fnExactShortWay", fn := fun _ => fun
  | [d1, d2, d3] => { results := [.lit (.bool true)], args := [d1, d2, d3] }
  | _ => none }
def fnExactShortWayRow : OpenClaim := { program := "ytdpajnpnpgmpkaa", sum := "d533b708164a6de5c2b663312536c65b07f66cd3956f0673dfaa8f971555e163", func := "loop.example/elevators/laws.FnExactShortWay", spec := "fnExactShortWay", apart := false }
def FnExactShortWaySaid : Prop := fnExactShortWayRow.holds Try.pinned (OpenSpec.ofChange fnExactShortWaySpec)

/-- ITS FALSE NEIGHBOUR: 'it returns false'. Refute it at one input. -/
def fnExactShortWayWrong : ChangeSpec := { name := "fnExactShortWay", fn := fun _ => fun
  | [d1, d2, d3] => { results := [.lit (.bool false)], args := [d1, d2, d3] }
  | _ => none }
def FnExactShortWayWrongFalsely : Prop := fnExactShortWayRow.holds Try.pinned (OpenSpec.ofChange fnExactShortWayWrong)

/- THE SECOND FORM. 'bulk': how many values and letters a reading holds, each counted each time it is reached (what is shared counts as often as it is met; a slice's spare places count too). A statement '..UptoSaid' is the law's where the arguments, and the package variables that the reading takes, are together of bulk at most 1048576: NARROWER than '..Said'. Prove '..Said' where nothing that the law and all that it calls make is longer than what came in: it says more and counts as full. Else prove '..UptoSaid'. A law counts once. -/
mutual
def uptoBulk {H : Type} : DataW H → Nat
  | .lit (.string bytes) => bytes.length + 1
  | .lit _ => 1
  | .nil => 1
  | .ptr d => uptoBulk d + 1
  | .slice elems spare => uptoBulkAll elems + uptoBulkAll spare + 1
  | .agg parts => uptoBulkAll parts + 1
  | .iface _ d => uptoBulk d + 1
  | .map entries => uptoBulkEntries entries + 1
  | .held _ => 1
def uptoBulkAll {H : Type} : List (DataW H) → Nat
  | [] => 0
  | d :: r => uptoBulk d + uptoBulkAll r
def uptoBulkEntries {H : Type} : List (Lit × DataW H) → Nat
  | [] => 0
  | x :: r => uptoBulkEntry x + uptoBulkEntries r
def uptoBulkEntry {H : Type} : Lit × DataW H → Nat
  | (.string bytes, d) => bytes.length + uptoBulk d + 1
  | (_, d) => uptoBulk d + 1
 end
def uptoSmall : (H : Type) → List (DataW H) → Bool := fun _ ds => decide (uptoBulkAll ds ≤ 1048576)
def OpenSpec.upto (s : _root_.Go.ChangeSpec) : _root_.Go.OpenSpec := { _root_.Go.OpenSpec.ofChange s with cond := some uptoSmall }

/-- 'laws.FnVisitsOk', WHERE WHAT IT READS IS OF BULK AT MOST 1048576: true; the input reads as it did. -/
def fnVisitsOkUptoRow : OpenClaim := { program := "ytdpajnpnpgmpkaa", sum := "d533b708164a6de5c2b663312536c65b07f66cd3956f0673dfaa8f971555e163", func := "loop.example/elevators/laws.FnVisitsOk", spec := "fnVisitsOk", apart := false, narrowed := true }
def FnVisitsOkUptoSaid : Prop := fnVisitsOkUptoRow.holds Try.pinned (OpenSpec.upto fnVisitsOkSpec)

/-- 'laws.FnTourWay', WHERE WHAT IT READS IS OF BULK AT MOST 1048576: true; the input reads as it did. -/
def fnTourWayUptoRow : OpenClaim := { program := "ytdpajnpnpgmpkaa", sum := "d533b708164a6de5c2b663312536c65b07f66cd3956f0673dfaa8f971555e163", func := "loop.example/elevators/laws.FnTourWay", spec := "fnTourWay", apart := false, narrowed := true }
def FnTourWayUptoSaid : Prop := fnTourWayUptoRow.holds Try.pinned (OpenSpec.upto fnTourWaySpec)

/-- 'laws.FnShortTour', WHERE WHAT IT READS IS OF BULK AT MOST 1048576: true; the input reads as it did. -/
def fnShortTourUptoRow : OpenClaim := { program := "ytdpajnpnpgmpkaa", sum := "d533b708164a6de5c2b663312536c65b07f66cd3956f0673dfaa8f971555e163", func := "loop.example/elevators/laws.FnShortTour", spec := "fnShortTour", apart := false, narrowed := true }
def FnShortTourUptoSaid : Prop := fnShortTourUptoRow.holds Try.pinned (OpenSpec.upto fnShortTourSpec)

/-- 'laws.FnShortWay', WHERE WHAT IT READS IS OF BULK AT MOST 1048576: true; the input reads as it did. -/
def fnShortWayUptoRow : OpenClaim := { program := "ytdpajnpnpgmpkaa", sum := "d533b708164a6de5c2b663312536c65b07f66cd3956f0673dfaa8f971555e163", func := "loop.example/elevators/laws.FnShortWay", spec := "fnShortWay", apart := false, narrowed := true }
def FnShortWayUptoSaid : Prop := fnShortWayUptoRow.holds Try.pinned (OpenSpec.upto fnShortWaySpec)

/-- 'laws.FnExactVisitsOk', WHERE WHAT IT READS IS OF BULK AT MOST 1048576: true; the input reads as it did. -/
def fnExactVisitsOkUptoRow : OpenClaim := { program := "ytdpajnpnpgmpkaa", sum := "d533b708164a6de5c2b663312536c65b07f66cd3956f0673dfaa8f971555e163", func := "loop.example/elevators/laws.FnExactVisitsOk", spec := "fnExactVisitsOk", apart := false, narrowed := true }
def FnExactVisitsOkUptoSaid : Prop := fnExactVisitsOkUptoRow.holds Try.pinned (OpenSpec.upto fnExactVisitsOkSpec)

/-- 'laws.FnExactTourWay', WHERE WHAT IT READS IS OF BULK AT MOST 1048576: true; the input reads as it did. -/
def fnExactTourWayUptoRow : OpenClaim := { program := "ytdpajnpnpgmpkaa", sum := "d533b708164a6de5c2b663312536c65b07f66cd3956f0673dfaa8f971555e163", func := "loop.example/elevators/laws.FnExactTourWay", spec := "fnExactTourWay", apart := false, narrowed := true }
def FnExactTourWayUptoSaid : Prop := fnExactTourWayUptoRow.holds Try.pinned (OpenSpec.upto fnExactTourWaySpec)

/-- 'laws.FnExactShortTour', WHERE WHAT IT READS IS OF BULK AT MOST 1048576: true; the input reads as it did. -/
def fnExactShortTourUptoRow : OpenClaim := { program := "ytdpajnpnpgmpkaa", sum := "d533b708164a6de5c2b663312536c65b07f66cd3956f0673dfaa8f971555e163", func := "loop.example/elevators/laws.FnExactShortTour", spec := "fnExactShortTour", apart := false, narrowed := true }
def FnExactShortTourUptoSaid : Prop := fnExactShortTourUptoRow.holds Try.pinned (OpenSpec.upto fnExactShortTourSpec)

/-- 'laws.FnExactShortWay', WHERE WHAT IT READS IS OF BULK AT MOST 1048576: true; the input reads as it did. -/
def fnExactShortWayUptoRow : OpenClaim := { program := "ytdpajnpnpgmpkaa", sum := "d533b708164a6de5c2b663312536c65b07f66cd3956f0673dfaa8f971555e163", func := "loop.example/elevators/laws.FnExactShortWay", spec := "fnExactShortWay", apart := false, narrowed := true }
def FnExactShortWayUptoSaid : Prop := fnExactShortWayUptoRow.holds Try.pinned (OpenSpec.upto fnExactShortWaySpec)

end Rows
end Go.Proofs.Ytdpajnpnpgmpkaa

/-
  No cell of these rows narrows 'for every input' (looked for: loops, veiled, ifaces, maps, wideKeys, modest, calm, conditions, laid).
  DERIVED. THE GIVEN ROWS OF THIS SEAT. 8 by the template 'for every input the law returns true; each argument reads behind the call as it read before'; 0 by the template 'total and deterministic' (their statements: YtpfllhiibkdfaaaTotals.lean).
  GIVEN WITH THE SEED: the statements are not yours to turn. If you find one false, say at which input.
  Laid BY PROGRAM, IN A SANDBOX (cutbox-rows.mjs): the forced cells as the released guide's own fill.sh prints them over the translation 9890b88015b7b010… (all of the seat's roots in one cut). By AI agents, Wed Nov 11 2026. No macro, syntax, notation, axiom, sorry.
-/
import Derived.Test.YtpfllhiibkdfaaaChecked
import GoSem.Claim
import GoSem.ClaimJoined
import GoSem.ClaimMapViews
import Derived.JoinedTies
import Derived.KernelRfl
namespace Go.Proofs.Ytpfllhiibkdfaaa
/- THE CELL 'sum', in the pinned program and in every row, IS THE sha256 OF THE DUMP (.gsa) THAT YtpfllhiibkdfaaaProg.lean LOADS. Nothing in Lean hashes anything: it is a label: what it is worth is what the hold of that sum in a sandbox is worth. -/
noncomputable def Try.pinned : Pinned := { name := "ytpfllhiibkdfaaa", sum := "9890b88015b7b0109f707360ddb2f05fadc46e40050906a5c74403768be7beef", checked := Try.checked }
namespace Rows
def none {H : Type} : Left H := { results := [], args := [] }

/-- 'laws.FnSpeedLimit': WHATEVER THE INPUT: true; the input reads as it did. -/
def fnSpeedLimitSpec : ChangeSpec := { name := "fnSpeedLimit", fn := fun _ => fun
  | [d] => { results := [.lit (.bool true)], args := [d] }
  | _ => none }
def fnSpeedLimitRow : OpenClaim := { program := "ytpfllhiibkdfaaa", sum := "9890b88015b7b0109f707360ddb2f05fadc46e40050906a5c74403768be7beef", func := "loop.example/elevators/laws.FnSpeedLimit", spec := "fnSpeedLimit", unfollowed := true, recurses := true, apart := false }
def FnSpeedLimitSaid : Prop := fnSpeedLimitRow.holds Try.pinned (OpenSpec.ofChange fnSpeedLimitSpec)

/-- ITS FALSE NEIGHBOUR: 'it returns false'. Refute it at one input. -/
def fnSpeedLimitWrong : ChangeSpec := { name := "fnSpeedLimit", fn := fun _ => fun
  | [d] => { results := [.lit (.bool false)], args := [d] }
  | _ => none }
def FnSpeedLimitWrongFalsely : Prop := fnSpeedLimitRow.holds Try.pinned (OpenSpec.ofChange fnSpeedLimitWrong)

/-- 'laws.FnWithinLimit': WHATEVER THE INPUT: true; the input reads as it did. -/
def fnWithinLimitSpec : ChangeSpec := { name := "fnWithinLimit", fn := fun _ => fun
  | [d] => { results := [.lit (.bool true)], args := [d] }
  | _ => none }
def fnWithinLimitRow : OpenClaim := { program := "ytpfllhiibkdfaaa", sum := "9890b88015b7b0109f707360ddb2f05fadc46e40050906a5c74403768be7beef", func := "loop.example/elevators/laws.FnWithinLimit", spec := "fnWithinLimit", unfollowed := true, recurses := true, apart := false }
def FnWithinLimitSaid : Prop := fnWithinLimitRow.holds Try.pinned (OpenSpec.ofChange fnWithinLimitSpec)

/-- ITS FALSE NEIGHBOUR: 'it returns false'. Refute it at one input. -/
def fnWithinLimitWrong : ChangeSpec := { name := "fnWithinLimit", fn := fun _ => fun
  | [d] => { results := [.lit (.bool false)], args := [d] }
  | _ => none }
def FnWithinLimitWrongFalsely : Prop := fnWithinLimitRow.holds Try.pinned (OpenSpec.ofChange fnWithinLimitWrong)

/-- 'laws.FnGovernorStep': WHATEVER THE INPUT: true; the input reads as it did. -/
def fnGovernorStepSpec : ChangeSpec := { name := "fnGovernorStep", fn := fun _ => fun
  | [d] => { results := [.lit (.bool true)], args := [d] }
  | _ => none }
def fnGovernorStepRow : OpenClaim := { program := "ytpfllhiibkdfaaa", sum := "9890b88015b7b0109f707360ddb2f05fadc46e40050906a5c74403768be7beef", func := "loop.example/elevators/laws.FnGovernorStep", spec := "fnGovernorStep", apart := false }
def FnGovernorStepSaid : Prop := fnGovernorStepRow.holds Try.pinned (OpenSpec.ofChange fnGovernorStepSpec)

/-- ITS FALSE NEIGHBOUR: 'it returns false'. Refute it at one input. -/
def fnGovernorStepWrong : ChangeSpec := { name := "fnGovernorStep", fn := fun _ => fun
  | [d] => { results := [.lit (.bool false)], args := [d] }
  | _ => none }
def FnGovernorStepWrongFalsely : Prop := fnGovernorStepRow.holds Try.pinned (OpenSpec.ofChange fnGovernorStepWrong)

/-- 'laws.FnGovernorRun': WHATEVER THE INPUT: true; the input reads as it did. -/
def fnGovernorRunSpec : ChangeSpec := { name := "fnGovernorRun", fn := fun _ => fun
  | [d] => { results := [.lit (.bool true)], args := [d] }
  | _ => none }
def fnGovernorRunRow : OpenClaim := { program := "ytpfllhiibkdfaaa", sum := "9890b88015b7b0109f707360ddb2f05fadc46e40050906a5c74403768be7beef", func := "loop.example/elevators/laws.FnGovernorRun", spec := "fnGovernorRun", apart := false }
def FnGovernorRunSaid : Prop := fnGovernorRunRow.holds Try.pinned (OpenSpec.ofChange fnGovernorRunSpec)

/-- ITS FALSE NEIGHBOUR: 'it returns false'. Refute it at one input. -/
def fnGovernorRunWrong : ChangeSpec := { name := "fnGovernorRun", fn := fun _ => fun
  | [d] => { results := [.lit (.bool false)], args := [d] }
  | _ => none }
def FnGovernorRunWrongFalsely : Prop := fnGovernorRunRow.holds Try.pinned (OpenSpec.ofChange fnGovernorRunWrong)

/-- 'laws.FnExactSpeedLimit': WHATEVER THE INPUT: true; the input reads as it did. -/
def fnExactSpeedLimitSpec : ChangeSpec := { name := "fnExactSpeedLimit", fn := fun _ => fun
  | [d1, d2] => { results := [.lit (.bool true)], args := [d1, d2] }
  | _ => none }
def fnExactSpeedLimitRow : OpenClaim := { program := "ytpfllhiibkdfaaa", sum := "9890b88015b7b0109f707360ddb2f05fadc46e40050906a5c74403768be7beef", func := "loop.example/elevators/laws.FnExactSpeedLimit", spec := "fnExactSpeedLimit", unfollowed := true, recurses := true, apart := false }
def FnExactSpeedLimitSaid : Prop := fnExactSpeedLimitRow.holds Try.pinned (OpenSpec.ofChange fnExactSpeedLimitSpec)

/-- ITS FALSE NEIGHBOUR: 'it returns false'. Refute it at one input. -/
def fnExactSpeedLimitWrong : ChangeSpec := { name := "fnExactSpeedLimit", fn := fun _ => fun
  | [d1, d2] => { results := [.lit (.bool false)], args := [d1, d2] }
  | _ => none }
def FnExactSpeedLimitWrongFalsely : Prop := fnExactSpeedLimitRow.holds Try.pinned (OpenSpec.ofChange fnExactSpeedLimitWrong)

/-- 'laws.FnExactWithinLimit': WHATEVER THE INPUT: true; the input reads as it did. -/
def fnExactWithinLimitSpec : ChangeSpec := { name := "fnExactWithinLimit", fn := fun _ => fun
  | [d] => { results := [.lit (.bool true)], args := [d] }
  | _ => none }
def fnExactWithinLimitRow : OpenClaim := { program := "ytpfllhiibkdfaaa", sum := "9890b88015b7b0109f707360ddb2f05fadc46e40050906a5c74403768be7beef", func := "loop.example/elevators/laws.FnExactWithinLimit", spec := "fnExactWithinLimit", unfollowed := true, recurses := true, apart := false }
def FnExactWithinLimitSaid : Prop := fnExactWithinLimitRow.holds Try.pinned (OpenSpec.ofChange fnExactWithinLimitSpec)

/-- ITS FALSE NEIGHBOUR: 'it returns false'. Refute it at one input. -/
def fnExactWithinLimitWrong : ChangeSpec := { name := "fnExactWithinLimit", fn := fun _ => fun
  | [d] => { results := [.lit (.bool false)], args := [d] }
  | _ => none }
def FnExactWithinLimitWrongFalsely : Prop := fnExactWithinLimitRow.holds Try.pinned (OpenSpec.ofChange fnExactWithinLimitWrong)

/-- 'laws.FnExactGovernorStep': WHATEVER THE INPUT: true; the input reads as it did. -/
def fnExactGovernorStepSpec : ChangeSpec := { name := "fnExactGovernorStep", fn := fun _ => fun
  | [d1, d2, d3] => { results := [.lit (.bool true)], args := [d1, d2, d3] }
  | _ => none }
def fnExactGovernorStepRow : OpenClaim := { program := "ytpfllhiibkdfaaa", sum := "9890b88015b7b0109f707360ddb2f05fadc46e40050906a5c74403768be7beef", func := "loop.example/elevators/laws.FnExactGovernorStep", spec := "fnExactGovernorStep", apart := false }
def FnExactGovernorStepSaid : Prop := fnExactGovernorStepRow.holds Try.pinned (OpenSpec.ofChange fnExactGovernorStepSpec)

/-- ITS FALSE NEIGHBOUR: 'it returns false'. Refute it at one input. -/
def fnExactGovernorStepWrong : ChangeSpec := { name := "fnExactGovernorStep", fn := fun _ => fun
  | [d1, d2, d3] => { results := [.lit (.bool false)], args := [d1, d2, d3] }
  | _ => none }
def FnExactGovernorStepWrongFalsely : Prop := fnExactGovernorStepRow.holds Try.pinned (OpenSpec.ofChange fnExactGovernorStepWrong)

/-- 'laws.FnExactGovernorRun': WHATEVER THE INPUT: true; the input reads as it did. -/
def fnExactGovernorRunSpec : ChangeSpec := { name := "fnExactGovernorRun", fn := fun _ => fun
  | [d1, d2, d3] => { results := [.lit (.bool true)], args := [d1, d2, d3] }
  | _ => none }
def fnExactGovernorRunRow : OpenClaim := { program := "ytpfllhiibkdfaaa", sum := "9890b88015b7b0109f707360ddb2f05fadc46e40050906a5c74403768be7beef", func := "loop.example/elevators/laws.FnExactGovernorRun", spec := "fnExactGovernorRun", apart := false }
def FnExactGovernorRunSaid : Prop := fnExactGovernorRunRow.holds Try.pinned (OpenSpec.ofChange fnExactGovernorRunSpec)

/-- ITS FALSE NEIGHBOUR: 'it returns false'. Refute it at one input. -/
def fnExactGovernorRunWrong : ChangeSpec := { name := "fnExactGovernorRun", fn := fun _ => fun
  | [d1, d2, d3] => { results := [.lit (.bool false)], args := [d1, d2, d3] }
  | _ => none }
def FnExactGovernorRunWrongFalsely : Prop := fnExactGovernorRunRow.holds Try.pinned (OpenSpec.ofChange fnExactGovernorRunWrong)

/- THE SECOND FORM. 'bulk': how many values and letters a reading holds, each counted each time it is reached (what is shared counts as often as it is met; a slice's spare places count too). A statement '..UptoSaid' is the law's where the arguments, and the package variables that the reading takes, are together of bulk at most 1048576: NARROWER than '..Said'. Prove '..Said' where nothing that the law and all that it calls make is longer than what came in: it says more and counts as full. Else prove '..UptoSaid'. A law counts once. -/
mutual
def uptoBulk {H : Type} : DataW H → Nat
  | .lit (.string bytes) => bytes.length + 1
  | .lit _ => 1
  | .nil => 1
  | .ptr d => uptoBulk d + 1
  | .slice elems spare => uptoBulkAll elems + uptoBulkAll spare + 1
  | .agg parts => uptoBulkAll parts + 1
  | .iface _ d => uptoBulk d + 1
  | .map entries => uptoBulkEntries entries + 1
  | .held _ => 1
def uptoBulkAll {H : Type} : List (DataW H) → Nat
  | [] => 0
  | d :: r => uptoBulk d + uptoBulkAll r
def uptoBulkEntries {H : Type} : List (Lit × DataW H) → Nat
  | [] => 0
  | x :: r => uptoBulkEntry x + uptoBulkEntries r
def uptoBulkEntry {H : Type} : Lit × DataW H → Nat
  | (.string bytes, d) => bytes.length + uptoBulk d + 1
  | (_, d) => uptoBulk d + 1
 end
def uptoSmall : (H : Type) → List (DataW H) → Bool := fun _ ds => decide (uptoBulkAll ds ≤ 1048576)
def OpenSpec.upto (s : _root_.Go.ChangeSpec) : _root_.Go.OpenSpec := { _root_.Go.OpenSpec.ofChange s with cond := some uptoSmall }

/-- 'laws.FnSpeedLimit', WHERE WHAT IT READS IS OF BULK AT MOST 1048576: true; the input reads as it did. -/
def fnSpeedLimitUptoRow : OpenClaim := { program := "ytpfllhiibkdfaaa", sum := "9890b88015b7b0109f707360ddb2f05fadc46e40050906a5c74403768be7beef", func := "loop.example/elevators/laws.FnSpeedLimit", spec := "fnSpeedLimit", unfollowed := true, recurses := true, apart := false, narrowed := true }
def FnSpeedLimitUptoSaid : Prop := fnSpeedLimitUptoRow.holds Try.pinned (OpenSpec.upto fnSpeedLimitSpec)

/-- 'laws.FnWithinLimit', WHERE WHAT IT READS IS OF BULK AT MOST 1048576: true; the input reads as it did. -/
def fnWithinLimitUptoRow : OpenClaim := { program := "ytpfllhiibkdfaaa", sum := "9890b88015b7b0109f707360ddb2f05fadc46e40050906a5c74403768be7beef", func := "loop.example/elevators/laws.FnWithinLimit", spec := "fnWithinLimit", unfollowed := true, recurses := true, apart := false, narrowed := true }
def FnWithinLimitUptoSaid : Prop := fnWithinLimitUptoRow.holds Try.pinned (OpenSpec.upto fnWithinLimitSpec)

/-- 'laws.FnGovernorStep', WHERE WHAT IT READS IS OF BULK AT MOST 1048576: true; the input reads as it did. -/
def fnGovernorStepUptoRow : OpenClaim := { program := "ytpfllhiibkdfaaa", sum := "9890b88015b7b0109f707360ddb2f05fadc46e40050906a5c74403768be7beef", func := "loop.example/elevators/laws.FnGovernorStep", spec := "fnGovernorStep", apart := false, narrowed := true }
def FnGovernorStepUptoSaid : Prop := fnGovernorStepUptoRow.holds Try.pinned (OpenSpec.upto fnGovernorStepSpec)

/-- 'laws.FnGovernorRun', WHERE WHAT IT READS IS OF BULK AT MOST 1048576: true; the input reads as it did. -/
def fnGovernorRunUptoRow : OpenClaim := { program := "ytpfllhiibkdfaaa", sum := "9890b88015b7b0109f707360ddb2f05fadc46e40050906a5c74403768be7beef", func := "loop.example/elevators/laws.FnGovernorRun", spec := "fnGovernorRun", apart := false, narrowed := true }
def FnGovernorRunUptoSaid : Prop := fnGovernorRunUptoRow.holds Try.pinned (OpenSpec.upto fnGovernorRunSpec)

/-- 'laws.FnExactSpeedLimit', WHERE WHAT IT READS IS OF BULK AT MOST 1048576: true; the input reads as it did. -/
def fnExactSpeedLimitUptoRow : OpenClaim := { program := "ytpfllhiibkdfaaa", sum := "9890b88015b7b0109f707360ddb2f05fadc46e40050906a5c74403768be7beef", func := "loop.example/elevators/laws.FnExactSpeedLimit", spec := "fnExactSpeedLimit", unfollowed := true, recurses := true, apart := false, narrowed := true }
def FnExactSpeedLimitUptoSaid : Prop := fnExactSpeedLimitUptoRow.holds Try.pinned (OpenSpec.upto fnExactSpeedLimitSpec)

/-- 'laws.FnExactWithinLimit', WHERE WHAT IT READS IS OF BULK AT MOST 1048576: true; the input reads as it did. -/
def fnExactWithinLimitUptoRow : OpenClaim := { program := "ytpfllhiibkdfaaa", sum := "9890b88015b7b0109f707360ddb2f05fadc46e40050906a5c74403768be7beef", func := "loop.example/elevators/laws.FnExactWithinLimit", spec := "fnExactWithinLimit", unfollowed := true, recurses := true, apart := false, narrowed := true }
def FnExactWithinLimitUptoSaid : Prop := fnExactWithinLimitUptoRow.holds Try.pinned (OpenSpec.upto fnExactWithinLimitSpec)

/-- 'laws.FnExactGovernorStep', WHERE WHAT IT READS IS OF BULK AT MOST 1048576: true; the input reads as it did. -/
def fnExactGovernorStepUptoRow : OpenClaim := { program := "ytpfllhiibkdfaaa", sum := "9890b88015b7b0109f707360ddb2f05fadc46e40050906a5c74403768be7beef", func := "loop.example/elevators/laws.FnExactGovernorStep", spec := "fnExactGovernorStep", apart := false, narrowed := true }
def FnExactGovernorStepUptoSaid : Prop := fnExactGovernorStepUptoRow.holds Try.pinned (OpenSpec.upto fnExactGovernorStepSpec)

/-- 'laws.FnExactGovernorRun', WHERE WHAT IT READS IS OF BULK AT MOST 1048576: true; the input reads as it did. -/
def fnExactGovernorRunUptoRow : OpenClaim := { program := "ytpfllhiibkdfaaa", sum := "9890b88015b7b0109f707360ddb2f05fadc46e40050906a5c74403768be7beef", func := "loop.example/elevators/laws.FnExactGovernorRun", spec := "fnExactGovernorRun", apart := false, narrowed := true }
def FnExactGovernorRunUptoSaid : Prop := fnExactGovernorRunUptoRow.holds Try.pinned (OpenSpec.upto fnExactGovernorRunSpec)

end Rows
end Go.Proofs.Ytpfllhiibkdfaaa

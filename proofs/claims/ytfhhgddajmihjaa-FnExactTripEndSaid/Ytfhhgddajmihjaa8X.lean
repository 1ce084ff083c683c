/- The walks of the exact laws over calls. -/
import Derived.Test.Ytfhhgddajmihjaa8N
namespace Go.Proofs.Ytfhhgddajmihjaa
open Go.RowKit
set_option linter.unusedVariables false
set_option linter.unusedSimpArgs false
set_option maxRecDepth 100000

theorem sz_ok {a b c : Nat} (h : a + b + c ≤ 1048576) : sz a b c = ((1048576 - (a + b + c) : Nat) : Int) := by unfold sz; rw [if_pos h]; omega
theorem sz_big {a b c : Nat} (h : ¬ a + b + c ≤ 1048576) : sz a b c = -1 := by unfold sz; rw [if_neg h]
end Go.Proofs.Ytfhhgddajmihjaa

/- The model's l12Floors, GroupOk, l12Give, GroupLongest. -/
import Derived.Test.Yteeokegkbhpbcaa10B
import Derived.Test.Yteeokegkbhpbcaa12P
import Derived.Test.YteeokegkbhpbcaaG
import Derived.Test.YteeokegkbhpbcaaGG
import Derived.Test.Yteeokegkbhpbcaa8G
namespace Go.Proofs.Yteeokegkbhpbcaa
open Go.RowKit
set_option linter.unusedVariables false
set_option linter.unusedSimpArgs false
set_option maxRecDepth 100000

theorem take_all {ys : List Int} {n : Nat} (h : ys.length = n) : ys.take n = ys := List.take_of_length_le (by omega)
theorem gok_eq {xs cs ks : List Int} : gokB xs cs ks = (fvB xs && decide (0 < cs.length) && floB xs cs 4 && floB xs ks 5) := by
  refine tr_eq ?_
  simp only [Bool.and_eq_true, decide_eq_true_iff, fvB, floB, tr]
  exact ⟨fun h => ⟨⟨⟨h.1, h.2.1⟩, h.2.2.1⟩, h.2.2.2⟩, fun h => ⟨h.1.1.1, h.1.1.2, h.1.2, h.2⟩⟩
end Go.Proofs.Yteeokegkbhpbcaa

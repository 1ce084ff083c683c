/- The contract of MotionStep, impl. -/
import Derived.Test.Ytiplfnghikgcjaa2C
import Derived.StillTailTactics
namespace Go.Proofs.Ytiplfnghikgcjaa
open Go.RowKit
set_option linter.unusedVariables false

theorem ns_first {a s t : Int} (h : CS a s t) (k : CS (a + (s + sgn t a)) (s + sgn t a) t) : ns a s t = s + sgn t a ∧ 0 ≤ a + (s + sgn t a) ∧ a + (s + sgn t a) ≤ 60 := by
  refine ⟨?_, k.1.1, k.1.2.1⟩
  unfold ns; rw [if_pos (csB_t h), if_pos (csB_t k)]
theorem ns_second {a s t : Int} (h : CS a s t) (k : csB (a + (s + sgn t a)) (s + sgn t a) t = false) (l : CS (a + s) s t) : ns a s t = s ∧ 0 ≤ a + s ∧ a + s ≤ 60 := by
  refine ⟨?_, l.1.1, l.1.2.1⟩
  unfold ns; rw [if_pos (csB_t h), if_neg (by rw [k]; simp), if_pos (csB_t l)]
theorem ns_third {a s t : Int} (h : CS a s t) (k : csB (a + (s + sgn t a)) (s + sgn t a) t = false) (l : csB (a + s) s t = false) : ns a s t = slow s := by
  unfold ns; rw [if_pos (csB_t h), if_neg (by rw [k]; simp), if_neg (by rw [l]; simp)]

end Go.Proofs.Ytiplfnghikgcjaa

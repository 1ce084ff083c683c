/- The laws of chapter 1: the walks. -/
import Derived.Test.YteeokegkbhpbcaaT
import Derived.Test.YteeokegkbhpbcaaD
namespace Go.Proofs.Yteeokegkbhpbcaa
open Go.RowKit
set_option linter.unusedVariables false
set_option linter.unusedSimpArgs false

theorem iFloorsValid_nil (w : World) : Calls Try.prog 51 #[.slice none 0 0] w (Ro w (.bool false)) := by
  go_enter Try.func51, Try.ntmps51
  go_wp2
  go_ret
  exact Ro.b rfl (by first | exact ⟨0, rfl⟩ | (simp only [World.drewN_drewN]; exact ⟨_, rfl⟩) | exact ⟨_, rfl⟩)
theorem iFloorAt_nil (x : Int) (w : World) : Calls Try.prog 39 #[.slice none 0 0, .int .i64 x] w (Ro w (.int .i64 (-1))) := by
  go_enter Try.func39, Try.ntmps39
  go_wp2_with fail
  refine (iFloorsValid_nil _).mono ?_
  rintro e w1 ⟨rfl, n, rfl⟩
  go_wp2_with fail
  go_ret
  exact Ro.i rfl (by first | exact ⟨0, rfl⟩ | (simp only [World.drewN_drewN]; exact ⟨_, rfl⟩) | exact ⟨_, rfl⟩)

theorem fv049 : FV [0, 4, 9] := ⟨by simp, by simp, rfl, fun i hi => by
  simp at hi; have : i = 0 ∨ i = 1 := by omega
  rcases this with rfl | rfl
  · decide
  · decide, by decide⟩
theorem alive_c (w : World) : Calls Try.prog 16 #[] w (LawOk w) := by
  have hI : Ints (w.alloc (.cells #[.int .i64 0, .int .i64 4, .int .i64 9] 3)) w.heap.size 0 [0, 4, 9] := fun i hi => by
    simp at hi
    have : i = 0 ∨ i = 1 ∨ i = 2 := by omega
    rcases this with rfl | rfl | rfl <;> rw [World.cell?_alloc_at _ _ _ _ rfl] <;> rfl
  have e : fa [0, 4, 9] 4 = 1 := fa_at fv049 1 (by simp) rfl
  have hb : Below w.heap.size w (w.alloc (.cells #[.int .i64 0, .int .i64 4, .int .i64 9] 3)) := (Below.refl _ _).alloc (Nat.le_refl _) _
  have K := iFloorAt_c w.heap.size 0 3 [0, 4, 9] 4 _ hI (by unfold maxLen; simp)
  rw [e] at K
  clear e hI
  go_enter Try.func16, Try.ntmps16
  go_wp2_with fail
  refine K.mono ?_
  rintro e w1 ⟨rfl, n, rfl⟩
  go_wp2_with fail
  refine (iFloorAt_nil _ _).mono ?_
  rintro e w1 ⟨rfl, n2, rfl⟩
  go_wp2_with fail
  go_ret
  exact LawOk.mk (below_next hb (below_drewN' _))

theorem FV.init {xs : List Int} (h : FV xs) (h2 : 2 ≤ xs.length) : FV (xs.take (xs.length - 1)) := by
  have hn : ∀ i, i < xs.length - 1 → nth (xs.take (xs.length - 1)) i = nth xs i := fun i hi => nth_take _ hi
  have hl : (xs.take (xs.length - 1)).length = xs.length - 1 := by simp
  refine ⟨by omega, by have := h.2.1; omega, by rw [hn 0 (by omega)]; exact h.2.2.1, fun i hi => ?_, ?_⟩
  · rw [hn i (by omega), hn (i+1) (by omega)]; exact h.2.2.2.1 i (by omega)
  · rw [hl, hn _ (by omega)]; exact h.le _ (by omega)
theorem FV.tail {xs : List Int} (h : FV xs) (h2 : 2 ≤ xs.length) : ¬ FV (xs.drop 1) := fun g => by
  have := g.2.2.1
  have e : nth (xs.drop 1) 0 = nth xs (0 + 1) := nth_drop _ _ _
  rw [e] at this
  have h0 := h.2.2.1
  have := h.2.2.2.1 0 (by omega)
  omega

end Go.Proofs.Yteeokegkbhpbcaa

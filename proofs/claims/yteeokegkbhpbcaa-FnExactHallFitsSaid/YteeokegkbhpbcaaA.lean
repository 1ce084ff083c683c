/- The contracts of the functions of chapter 1, impl and spec. -/
import Derived.Test.YteeokegkbhpbcaaProg
import Derived.Test.YteeokegkbhpbcaaPre
namespace Go.Proofs.Yteeokegkbhpbcaa
open Go.RowKit
set_option linter.unusedVariables false
set_option linter.unusedSimpArgs false

theorem l1In_c (n lo hi : Int) (w : World) : Calls Try.prog 38 #[.int .i64 n, .int .i64 lo, .int .i64 hi] w (Ro w (.bool (inB lo n hi))) := by
  by_cases h1 : lo ≤ n
  · by_cases h2 : n ≤ hi
    · go_enter Try.func38, Try.ntmps38
      go_wp2
      go_ret
      exact Ro.b (inB_t ⟨h1, h2⟩) (by first | exact ⟨0, rfl⟩ | (simp only [World.drewN_drewN]; exact ⟨_, rfl⟩) | exact ⟨_, rfl⟩)
    · go_enter Try.func38, Try.ntmps38
      go_wp2
      go_ret
      exact Ro.b (inB_f (by first | omega | (unfold okF; omega))) (by first | exact ⟨0, rfl⟩ | (simp only [World.drewN_drewN]; exact ⟨_, rfl⟩) | exact ⟨_, rfl⟩)
  · go_enter Try.func38, Try.ntmps38
    go_wp2
    go_ret
    exact Ro.b (inB_f (by first | omega | (unfold okF; omega))) (by first | exact ⟨0, rfl⟩ | (simp only [World.drewN_drewN]; exact ⟨_, rfl⟩) | exact ⟨_, rfl⟩)

set_option maxHeartbeats 400000 in
theorem iFloorsValid_c (b off cap : Nat) (xs : List Int) (w : World) (hc : Ints w b off xs) (hm : xs.length ≤ maxLen) :
    Calls Try.prog 51 #[.slice (some ⟨b, off, none⟩) xs.length cap] w (Ro w (.bool (fvB xs))) := by
  unfold maxLen at hm
  have h0 : 0 < xs.length → w.cell? ⟨b, off, none⟩ = some (.int .i64 (nth xs 0)) := fun h => hc 0 h
  go_enter Try.func51, Try.ntmps51
  by_cases h1 : xs.length < 1
  · go_wp2
    go_ret
    exact Ro.b (fvB_f (by unfold FV; omega)) (by first | exact ⟨0, rfl⟩ | (simp only [World.drewN_drewN]; exact ⟨_, rfl⟩) | exact ⟨_, rfl⟩)
  by_cases h2 : 8 < xs.length
  · go_wp2
    go_ret
    exact Ro.b (fvB_f (by unfold FV; omega)) (by first | exact ⟨0, rfl⟩ | (simp only [World.drewN_drewN]; exact ⟨_, rfl⟩) | exact ⟨_, rfl⟩)
  by_cases h3 : nth xs 0 = 0
  case neg =>
    have h4 : (nth xs 0 != 0) = true := by simp [h3]
    go_wp2
    go_ret
    exact Ro.b (fvB_f (by unfold FV; omega)) (by first | exact ⟨0, rfl⟩ | (simp only [World.drewN_drewN]; exact ⟨_, rfl⟩) | exact ⟨_, rfl⟩)
  have h4 : (nth xs 0 != 0) = false := by simp [h3]
  have H3 : Hid _ := h3
  clear h3
  go_wp2
  obtain ⟨wo, hwo⟩ : ∃ wo : World, wo = w := ⟨_, rfl⟩
  go_loopw [3] (fun v wr => ∃ k n : Nat, 1 ≤ k ∧ k ≤ xs.length ∧ v = .int .i64 k ∧ wr = wo.drewN n ∧ ∀ i, i + 1 < k → nth xs i < nth xs (i + 1)) (fun v _ => xs.length - (intOf v).toNat)
  case atStart => exact ⟨1, 0, by omega, by omega, rfl, by rw [hwo]; rfl, by omega⟩
  case round =>
    obtain ⟨k, n, hk1, hk2, rfl, rfl, hall⟩ := hrel
    subst hwo
    have HA : Hid _ := hall
    clear hall
    by_cases hlt : k < xs.length
    · have c1 : wo.cell? ⟨b, off + k, none⟩ = some (.int .i64 (nth xs k)) := hc k hlt
      have c2 : wo.cell? ⟨b, off + (k - 1), none⟩ = some (.int .i64 (nth xs (k - 1))) := hc (k-1) (by omega)
      go_wp2
      go_quiet (fail)
      by_cases ht : nth xs k ≤ nth xs (k-1)
      · go_wp2
        go_ret
        have hno : ¬ FV xs := fun h => by have := h.2.2.2.1 (k-1) (by omega); rw [show k - 1 + 1 = k from by omega] at this; omega
        exact Ro.b (fvB_f hno) (by first | exact ⟨0, rfl⟩ | (simp only [World.drewN_drewN]; exact ⟨_, rfl⟩) | exact ⟨_, rfl⟩)
      · go_wp2
        go_roundw
        case rel => exact ⟨k + 1, n + nq, by omega, by omega, by go_num, rfl, fun i hi => by
          by_cases e : i + 1 = k
          · subst e; simp at ht; omega
          · exact HA.out i (by omega)⟩
        case measure => simp [intOf]; omega
    · have c1 : wo.cell? ⟨b, off + (xs.length - 1), none⟩ = some (.int .i64 (nth xs (xs.length - 1))) := hc _ (by omega)
      obtain rfl : k = xs.length := by omega
      go_wp2
      go_ret
      refine Ro.b ?_ (by first | exact ⟨0, rfl⟩ | (simp only [World.drewN_drewN]; exact ⟨_, rfl⟩) | exact ⟨_, rfl⟩)
      by_cases hl : nth xs (xs.length - 1) ≤ 60
      · rw [fvB_t ⟨by omega, by omega, H3.out, HA.out, hl⟩]; simp [hl]
      · rw [fvB_f (fun h => hl h.2.2.2.2)]; simp [hl]

end Go.Proofs.Yteeokegkbhpbcaa

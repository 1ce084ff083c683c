/- The contracts of the functions of chapter 1, impl and spec. -/
import Derived.Test.YtgiioponimiddaaProg
import Derived.Test.YtgiioponimiddaaPre
namespace Go.Proofs.Ytgiioponimiddaa
open Go.RowKit
set_option linter.unusedVariables false
set_option linter.unusedSimpArgs false

theorem l1In_c (n lo hi : Int) (w : World) : Calls Try.prog 57 #[.int .i64 n, .int .i64 lo, .int .i64 hi] w (Ro w (.bool (inB lo n hi))) := by
  by_cases h1 : lo ≤ n
  · by_cases h2 : n ≤ hi
    · go_enter Try.func57, Try.ntmps57
      go_wp2
      go_ret
      exact Ro.b (inB_t ⟨h1, h2⟩) (by first | exact ⟨0, rfl⟩ | (simp only [World.drewN_drewN]; exact ⟨_, rfl⟩) | exact ⟨_, rfl⟩)
    · go_enter Try.func57, Try.ntmps57
      go_wp2
      go_ret
      exact Ro.b (inB_f (by first | omega | (unfold okF; omega))) (by first | exact ⟨0, rfl⟩ | (simp only [World.drewN_drewN]; exact ⟨_, rfl⟩) | exact ⟨_, rfl⟩)
  · go_enter Try.func57, Try.ntmps57
    go_wp2
    go_ret
    exact Ro.b (inB_f (by first | omega | (unfold okF; omega))) (by first | exact ⟨0, rfl⟩ | (simp only [World.drewN_drewN]; exact ⟨_, rfl⟩) | exact ⟨_, rfl⟩)

theorem isFloor_c (a : Option Addr) (xs : List Int) (cap : Nat) (n : Int) (w : World) (hm : xs.length ≤ maxLen) : Calls Try.prog 46 #[.slice a xs.length cap, .int .i64 n] w (Ro w (.bool (okB xs n))) := by
  unfold maxLen at hm
  by_cases h1 : 0 ≤ n
  · by_cases h2 : n < xs.length
    · go_enter Try.func46, Try.ntmps46
      go_wp2
      go_ret
      exact Ro.b (okB_t ⟨h1, h2⟩) (by first | exact ⟨0, rfl⟩ | (simp only [World.drewN_drewN]; exact ⟨_, rfl⟩) | exact ⟨_, rfl⟩)
    · go_enter Try.func46, Try.ntmps46
      go_wp2
      go_ret
      exact Ro.b (okB_f (by first | omega | (unfold okF; omega))) (by first | exact ⟨0, rfl⟩ | (simp only [World.drewN_drewN]; exact ⟨_, rfl⟩) | exact ⟨_, rfl⟩)
  · go_enter Try.func46, Try.ntmps46
    go_wp2
    go_ret
    exact Ro.b (okB_f (by first | omega | (unfold okF; omega))) (by first | exact ⟨0, rfl⟩ | (simp only [World.drewN_drewN]; exact ⟨_, rfl⟩) | exact ⟨_, rfl⟩)

theorem l1Far_c (a b : Int) (w : World) (h1 : 0 ≤ a) (h2 : a ≤ 1000000) (h3 : 0 ≤ b) (h4 : b ≤ 1000000) : Calls Try.prog 59 #[.int .i64 a, .int .i64 b] w (Ro w (.int .i64 (far a b))) := by
  go_enter Try.func59, Try.ntmps59
  go_wp2
  all_goals (go_ret; exact Ro.i (by unfold far; omega) (by first | exact ⟨0, rfl⟩ | (simp only [World.drewN_drewN]; exact ⟨_, rfl⟩) | exact ⟨_, rfl⟩))

set_option maxHeartbeats 400000 in
theorem iFloorsValid_c (b off cap : Nat) (xs : List Int) (w : World) (hc : Ints w b off xs) (hm : xs.length ≤ maxLen) :
    Calls Try.prog 37 #[.slice (some ⟨b, off, none⟩) xs.length cap] w (Ro w (.bool (fvB xs))) := by
  unfold maxLen at hm
  have h0 : 0 < xs.length → w.cell? ⟨b, off, none⟩ = some (.int .i64 (nth xs 0)) := fun h => hc 0 h
  go_enter Try.func37, Try.ntmps37
  by_cases h1 : xs.length < 1
  · go_wp2
    go_ret
    exact Ro.b (fvB_f (by unfold FV; omega)) (by first | exact ⟨0, rfl⟩ | (simp only [World.drewN_drewN]; exact ⟨_, rfl⟩) | exact ⟨_, rfl⟩)
  by_cases h2 : 8 < xs.length
  · go_wp2
    go_ret
    exact Ro.b (fvB_f (by unfold FV; omega)) (by first | exact ⟨0, rfl⟩ | (simp only [World.drewN_drewN]; exact ⟨_, rfl⟩) | exact ⟨_, rfl⟩)
  by_cases h3 : nth xs 0 = 0
  case neg =>
    have h4 : (nth xs 0 != 0) = true := by simp [h3]
    go_wp2
    go_ret
    exact Ro.b (fvB_f (by unfold FV; omega)) (by first | exact ⟨0, rfl⟩ | (simp only [World.drewN_drewN]; exact ⟨_, rfl⟩) | exact ⟨_, rfl⟩)
  have h4 : (nth xs 0 != 0) = false := by simp [h3]
  have H3 : Hid _ := h3
  clear h3
  go_wp2
  obtain ⟨wo, hwo⟩ : ∃ wo : World, wo = w := ⟨_, rfl⟩
  go_loopw [3] (fun v wr => ∃ k n : Nat, 1 ≤ k ∧ k ≤ xs.length ∧ v = .int .i64 k ∧ wr = wo.drewN n ∧ ∀ i, i + 1 < k → nth xs i < nth xs (i + 1)) (fun v _ => xs.length - (intOf v).toNat)
  case atStart => exact ⟨1, 0, by omega, by omega, rfl, by rw [hwo]; rfl, by omega⟩
  case round =>
    obtain ⟨k, n, hk1, hk2, rfl, rfl, hall⟩ := hrel
    subst hwo
    have HA : Hid _ := hall
    clear hall
    by_cases hlt : k < xs.length
    · have c1 : wo.cell? ⟨b, off + k, none⟩ = some (.int .i64 (nth xs k)) := hc k hlt
      have c2 : wo.cell? ⟨b, off + (k - 1), none⟩ = some (.int .i64 (nth xs (k - 1))) := hc (k-1) (by omega)
      go_wp2
      go_quiet (fail)
      by_cases ht : nth xs k ≤ nth xs (k-1)
      · go_wp2
        go_ret
        have hno : ¬ FV xs := fun h => by have := h.2.2.2.1 (k-1) (by omega); rw [show k - 1 + 1 = k from by omega] at this; omega
        exact Ro.b (fvB_f hno) (by first | exact ⟨0, rfl⟩ | (simp only [World.drewN_drewN]; exact ⟨_, rfl⟩) | exact ⟨_, rfl⟩)
      · go_wp2
        go_roundw
        case rel => exact ⟨k + 1, n + nq, by omega, by omega, by go_num, rfl, fun i hi => by
          by_cases e : i + 1 = k
          · subst e; simp at ht; omega
          · exact HA.out i (by omega)⟩
        case measure => simp [intOf]; omega
    · have c1 : wo.cell? ⟨b, off + (xs.length - 1), none⟩ = some (.int .i64 (nth xs (xs.length - 1))) := hc _ (by omega)
      obtain rfl : k = xs.length := by omega
      go_wp2
      go_ret
      refine Ro.b ?_ (by first | exact ⟨0, rfl⟩ | (simp only [World.drewN_drewN]; exact ⟨_, rfl⟩) | exact ⟨_, rfl⟩)
      by_cases hl : nth xs (xs.length - 1) ≤ 60
      · rw [fvB_t ⟨by omega, by omega, H3.out, HA.out, hl⟩]; simp [hl]
      · rw [fvB_f (fun h => hl h.2.2.2.2)]; simp [hl]

set_option maxHeartbeats 400000 in
theorem sFloorsValid_c (b off cap : Nat) (xs : List Int) (w : World) (hc : Ints w b off xs) (hm : xs.length ≤ maxLen) :
    Calls Try.prog 39 #[.slice (some ⟨b, off, none⟩) xs.length cap] w (Ro w (.bool (fvB xs))) := by
  unfold maxLen at hm
  have h0 : 0 < xs.length → w.cell? ⟨b, off, none⟩ = some (.int .i64 (nth xs 0)) := fun h => hc 0 h
  go_enter Try.func39, Try.ntmps39
  go_wp2
  obtain ⟨wo, hwo⟩ : ∃ wo : World, wo = w := ⟨_, rfl⟩
  go_loopw [3] (fun v wr => ∃ k n : Nat, k ≤ xs.length ∧ v = .int .i64 k ∧ wr = wo.drewN n ∧ (∀ i, i + 1 < k → nth xs i < nth xs (i + 1)) ∧ ∀ i, i < k → nth xs i ≤ 60) (fun v _ => xs.length - (intOf v).toNat)
  case atStart => exact ⟨0, 0, by omega, rfl, by rw [hwo]; rfl, by omega, by omega⟩
  case round =>
    obtain ⟨k, n, hk2, rfl, hw, hall, hle⟩ := hrel
    subst hwo
    replace hc : Ints wr b off xs := by rw [hw]; exact hc
    have HW : Hid _ := hw
    clear hw
    have HA : Hid _ := hall
    have HL : Hid _ := hle
    clear hall hle
    by_cases hlt : k < xs.length
    · have c1 : wr.cell? ⟨b, off + k, none⟩ = some (.int .i64 (nth xs k)) := hc k hlt
      by_cases hr : 0 ≤ nth xs k ∧ nth xs k ≤ 60
      · have t1 := inB_t hr
        by_cases hk0 : 0 < k
        · have hk0' : (0 : Int) < (k : Int) := by omega
          have c2 : wr.cell? ⟨b, off + (k - 1), none⟩ = some (.int .i64 (nth xs (k - 1))) := hc (k-1) (by omega)
          have HR : Hid _ := hr
          clear hr
          go_wp2
          go_quiet ((go_at_call 57; (first | exact Calls.quiet_of (l1In_c _ _ _ _) | exact quiet_sum (l1In_c _ _ _ _))))
          by_cases ht : nth xs k ≤ nth xs (k-1)
          · go_wp2
            go_ret
            have hno : ¬ FV xs := fun h => by have := h.2.2.2.1 (k-1) (by omega); rw [show k - 1 + 1 = k from by omega] at this; omega
            exact Ro.b (fvB_f hno) (by rw [HW.out]; (try simp only [World.drewN_drewN]); exact ⟨_, rfl⟩)
          · go_wp2
            go_roundw
            case rel => exact ⟨k + 1, _, by omega, by go_num, (by rw [HW.out]; first | exact World.drewN_drewN .. | (simp only [World.drewN_drewN]; rfl) | (simp only [World.drewN_drewN])), fun i hi => by
              by_cases e : i + 1 = k
              · subst e; simp at ht; omega
              · exact HA.out i (by omega), fun i hi => by
              by_cases e : i = k
              · subst e; exact HR.out.2
              · exact HL.out i (by omega)⟩
            case measure => simp [intOf]; omega
        · have HR : Hid _ := hr
          clear hr
          obtain rfl : k = 0 := by omega
          replace c1 : wr.cell? ⟨b, off, none⟩ = some (.int .i64 (nth xs 0)) := c1
          go_wp2
          go_quiet ((go_at_call 57; (first | exact Calls.quiet_of (l1In_c _ _ _ _) | exact quiet_sum (l1In_c _ _ _ _))))
          go_wp2
          go_roundw
          case rel => exact ⟨1, _, by omega, by go_num, (by rw [HW.out]; first | exact World.drewN_drewN .. | (simp only [World.drewN_drewN]; rfl) | (simp only [World.drewN_drewN])), by omega, fun i hi => by
              obtain rfl : i = 0 := by omega
              exact HR.out.2⟩
          case measure => simp [intOf]; omega
      · have t1 := inB_f hr
        clear hr
        have hno : ¬ FV xs := fun h => by
          have := h.ge k hlt
          have := h.le k hlt
          rw [inB_t ⟨by omega, by omega⟩] at t1; cases t1
        go_wp2
        go_quiet ((go_at_call 57; (first | exact Calls.quiet_of (l1In_c _ _ _ _) | exact quiet_sum (l1In_c _ _ _ _))))
        go_wp2
        go_ret
        exact Ro.b (fvB_f hno) (by rw [HW.out]; (try simp only [World.drewN_drewN]); exact ⟨_, rfl⟩)
    · obtain rfl : k = xs.length := by omega
      by_cases hl : 1 ≤ xs.length ∧ xs.length ≤ 8
      · have t1 : inB 1 (xs.length : Int) 8 = true := inB_t ⟨by omega, by omega⟩
        have h0' : wr.cell? ⟨b, off, none⟩ = some (.int .i64 (nth xs 0)) := hc 0 (by omega)
        have hl0 : 0 < xs.length := by omega
        have HB : Hid _ := hl
        clear hl
        go_wp2_with (go_at_call 57; refine (l1In_c _ _ _ _).mono ?_; rintro e w' ⟨rfl, n1, rfl⟩)
        go_ret
        refine Ro.b ?_ (by rw [HW.out]; (try simp only [World.drewN_drewN]); exact ⟨_, rfl⟩)
        by_cases hl : nth xs 0 = 0
        · rw [fvB_t ⟨HB.out.1, HB.out.2, hl, HA.out, HL.out _ (by have := HB.out.1; omega)⟩]; simp [hl]
        · rw [fvB_f (fun h => hl h.2.2.1)]; simp [hl]
      · have t1 : inB 1 (xs.length : Int) 8 = false := inB_f (by omega)
        go_wp2_with (go_at_call 57; refine (l1In_c _ _ _ _).mono ?_; rintro e w' ⟨rfl, n1, rfl⟩)
        go_ret
        exact Ro.b (fvB_f (fun h => hl ⟨h.1, h.2.1⟩)) (by rw [HW.out]; (try simp only [World.drewN_drewN]); exact ⟨_, rfl⟩)
end Go.Proofs.Ytgiioponimiddaa

/- The contracts of Holds and MostLoad, impl and spec. -/
import Derived.Test.YtahfkeogfoejmaaD
import Derived.Test.YtahfkeogfoejmaaK
import Derived.Test.Ytahfkeogfoejmaa7P
namespace Go.Proofs.Ytahfkeogfoejmaa
open Go.RowKit
set_option linter.unusedVariables false

theorem isPull_c (n : Int) (w : World) : Calls Try.prog 37 #[.int .i64 n] w (Ro w (.bool (inB 1 n 200))) := by
  by_cases h1 : 1 ≤ n
  · by_cases h2 : n ≤ 200
    · go_enter Try.func37, Try.ntmps37
      go_wp2
      go_ret
      exact Ro.b (inB_t ⟨h1, h2⟩) (by first | exact ⟨0, rfl⟩ | (simp only [World.drewN_drewN]; exact ⟨_, rfl⟩) | exact ⟨_, rfl⟩)
    · go_enter Try.func37, Try.ntmps37
      go_wp2
      go_ret
      exact Ro.b (inB_f (by omega)) (by first | exact ⟨0, rfl⟩ | (simp only [World.drewN_drewN]; exact ⟨_, rfl⟩) | exact ⟨_, rfl⟩)
  · go_enter Try.func37, Try.ntmps37
    go_wp2
    go_ret
    exact Ro.b (inB_f (by omega)) (by first | exact ⟨0, rfl⟩ | (simp only [World.drewN_drewN]; exact ⟨_, rfl⟩) | exact ⟨_, rfl⟩)
/-- What is left to compare, by the pulls' order. -/
theorem hd_parts {a b t m : Int} (h : HV a b t m) : (0 ≤ a * m ∧ a * m ≤ 40000) ∧ (0 ≤ b * m ∧ b * m ≤ 40000) ∧ (0 ≤ a * t ∧ a * t ≤ 40000) ∧ (0 ≤ b * t ∧ b * t ≤ 40000) := by
  obtain ⟨h1, h2, h3, h4⟩ := h
  exact ⟨mul_200 (by omega) (by omega), mul_200 (by omega) (by omega), mul_200 (by omega) (by omega), mul_200 (by omega) (by omega)⟩
theorem hd_le {a b t m : Int} (h : HV a b t m) (o : a ≤ b) : hdB a b t m = decide (b * m ≤ a * t) := by
  by_cases g : b * m ≤ a * t
  · rw [decide_eq_true g]; exact hdB_t h (by rw [Int.max_eq_right o, Int.min_eq_left o]; exact g)
  · rw [decide_eq_false g]; exact hdB_f (by rw [Int.max_eq_right o, Int.min_eq_left o]; exact g)
theorem hd_ge {a b t m : Int} (h : HV a b t m) (o : b ≤ a) : hdB a b t m = decide (a * m ≤ b * t) := by
  by_cases g : a * m ≤ b * t
  · rw [decide_eq_true g]; exact hdB_t h (by rw [Int.max_eq_left o, Int.min_eq_right o]; exact g)
  · rw [decide_eq_false g]; exact hdB_f (by rw [Int.max_eq_left o, Int.min_eq_right o]; exact g)
set_option maxHeartbeats 1000000 in
theorem iHolds_c (a b t m : Int) (w : World) :
    Calls Try.prog 25 #[.int .i64 a, .int .i64 b, .int .i64 t, .int .i64 m] w (Ro w (.bool (hdB a b t m))) := by
  go_enter Try.func25, Try.ntmps25
  go_wp2_with fail
  refine (isPull_c _ _).mono ?_
  rintro e w1 ⟨rfl, n1, rfl⟩
  cases h1 : inB 1 a 200
  · have E : Hid _ := hdB_bad (a := a) (b := b) (t := t) (m := m) (fun h => by rw [inB_t h.1] at h1; cases h1)
    clear h1
    go_wp2_with fail
    go_ret
    exact Ro.b E.out (by first | exact ⟨0, rfl⟩ | (simp only [World.drewN_drewN]; exact ⟨_, rfl⟩) | exact ⟨_, rfl⟩)
  have P1 := inB_iff.1 h1
  clear h1
  go_wp2_with fail
  refine (isPull_c _ _).mono ?_
  rintro e w1 ⟨rfl, n2, rfl⟩
  cases h1 : inB 1 b 200
  · have E : Hid _ := hdB_bad (a := a) (b := b) (t := t) (m := m) (fun h => by rw [inB_t h.2.1] at h1; cases h1)
    clear h1
    go_wp2_with fail
    go_ret
    exact Ro.b E.out (by first | exact ⟨0, rfl⟩ | (simp only [World.drewN_drewN]; exact ⟨_, rfl⟩) | exact ⟨_, rfl⟩)
  have P2 := inB_iff.1 h1
  clear h1
  go_wp2_with fail
  refine (isPull_c _ _).mono ?_
  rintro e w1 ⟨rfl, n3, rfl⟩
  cases h1 : inB 1 t 200
  · have E : Hid _ := hdB_bad (a := a) (b := b) (t := t) (m := m) (fun h => by rw [inB_t (lo := 1) (n := t) (hi := 200) (by have := h.2.2.1; have := h.2.2.2; omega)] at h1; cases h1)
    clear h1
    go_wp2_with fail
    go_ret
    exact Ro.b E.out (by first | exact ⟨0, rfl⟩ | (simp only [World.drewN_drewN]; exact ⟨_, rfl⟩) | exact ⟨_, rfl⟩)
  have P3 := inB_iff.1 h1
  clear h1
  go_wp2_with fail
  refine (isPull_c _ _).mono ?_
  rintro e w1 ⟨rfl, n4, rfl⟩
  cases h1 : inB 1 m 200
  · have E : Hid _ := hdB_bad (a := a) (b := b) (t := t) (m := m) (fun h => by rw [inB_t h.2.2.1] at h1; cases h1)
    clear h1
    go_wp2_with fail
    go_ret
    exact Ro.b E.out (by first | exact ⟨0, rfl⟩ | (simp only [World.drewN_drewN]; exact ⟨_, rfl⟩) | exact ⟨_, rfl⟩)
  have P4 := inB_iff.1 h1
  clear h1
  by_cases o : t < m
  · have E : Hid _ := hdB_bad (a := a) (b := b) (t := t) (m := m) (fun h => by have := h.2.2.2; omega)
    go_wp2_with fail
    go_ret
    exact Ro.b E.out (by first | exact ⟨0, rfl⟩ | (simp only [World.drewN_drewN]; exact ⟨_, rfl⟩) | exact ⟨_, rfl⟩)
  have HVd : HV a b t m := ⟨P1, P2, P4, by omega, by omega⟩
  obtain ⟨⟨a0, a1⟩, ⟨b0, b1⟩, ⟨c0, c1⟩, ⟨d0, d1⟩⟩ := hd_parts HVd
  rcases (by omega : a < b ∨ a = b ∨ b < a) with q | q | q
  · have E : Hid _ := hd_le HVd (by omega)
    clear HVd P1 P2 P3 P4
    go_wp2_with fail
    all_goals
      go_ret
      exact Ro.b E.out (by first | exact ⟨0, rfl⟩ | (simp only [World.drewN_drewN]; exact ⟨_, rfl⟩) | exact ⟨_, rfl⟩)
  · subst q
    have E : Hid _ := hd_le HVd (by omega)
    clear HVd P1 P2 P3 P4
    go_wp2_with fail
    all_goals
      go_ret
      exact Ro.b E.out (by first | exact ⟨0, rfl⟩ | (simp only [World.drewN_drewN]; exact ⟨_, rfl⟩) | exact ⟨_, rfl⟩)
  · have E : Hid _ := hd_ge HVd (by omega)
    clear HVd P1 P2 P3 P4
    go_wp2_with fail
    all_goals
      go_ret
      exact Ro.b E.out (by first | exact ⟨0, rfl⟩ | (simp only [World.drewN_drewN]; exact ⟨_, rfl⟩) | exact ⟨_, rfl⟩)
set_option maxHeartbeats 1000000 in
theorem sHolds_c (a b t m : Int) (w : World) :
    Calls Try.prog 26 #[.int .i64 a, .int .i64 b, .int .i64 t, .int .i64 m] w (Ro w (.bool (hdB a b t m))) := by
  go_enter Try.func26, Try.ntmps26
  go_wp2_with fail
  refine (l1In_c _ _ _ _).mono ?_
  rintro e w1 ⟨rfl, n1, rfl⟩
  cases h1 : inB 1 a 200
  · have E : Hid _ := hdB_bad (a := a) (b := b) (t := t) (m := m) (fun h => by rw [inB_t h.1] at h1; cases h1)
    clear h1
    go_wp2_with fail
    go_ret
    exact Ro.b E.out (by first | exact ⟨0, rfl⟩ | (simp only [World.drewN_drewN]; exact ⟨_, rfl⟩) | exact ⟨_, rfl⟩)
  have P1 := inB_iff.1 h1
  clear h1
  go_wp2_with fail
  refine (l1In_c _ _ _ _).mono ?_
  rintro e w1 ⟨rfl, n2, rfl⟩
  cases h1 : inB 1 b 200
  · have E : Hid _ := hdB_bad (a := a) (b := b) (t := t) (m := m) (fun h => by rw [inB_t h.2.1] at h1; cases h1)
    clear h1
    go_wp2_with fail
    go_ret
    exact Ro.b E.out (by first | exact ⟨0, rfl⟩ | (simp only [World.drewN_drewN]; exact ⟨_, rfl⟩) | exact ⟨_, rfl⟩)
  have P2 := inB_iff.1 h1
  clear h1
  go_wp2_with fail
  refine (l1In_c _ _ _ _).mono ?_
  rintro e w1 ⟨rfl, n3, rfl⟩
  cases h1 : inB 1 m 200
  · have E : Hid _ := hdB_bad (a := a) (b := b) (t := t) (m := m) (fun h => by rw [inB_t h.2.2.1] at h1; cases h1)
    clear h1
    go_wp2_with fail
    go_ret
    exact Ro.b E.out (by first | exact ⟨0, rfl⟩ | (simp only [World.drewN_drewN]; exact ⟨_, rfl⟩) | exact ⟨_, rfl⟩)
  have P4 := inB_iff.1 h1
  clear h1
  go_wp2_with fail
  refine (l1In_c _ _ _ _).mono ?_
  rintro e w1 ⟨rfl, n4, rfl⟩
  cases h1 : inB m t 200
  · have E : Hid _ := hdB_bad (a := a) (b := b) (t := t) (m := m) (fun h => by rw [inB_t h.2.2.2] at h1; cases h1)
    clear h1
    go_wp2_with fail
    go_ret
    exact Ro.b E.out (by first | exact ⟨0, rfl⟩ | (simp only [World.drewN_drewN]; exact ⟨_, rfl⟩) | exact ⟨_, rfl⟩)
  have P3 := inB_iff.1 h1
  clear h1
  have HVd : HV a b t m := ⟨P1, P2, P4, P3⟩
  obtain ⟨⟨a0, a1⟩, ⟨b0, b1⟩, ⟨c0, c1⟩, ⟨d0, d1⟩⟩ := hd_parts HVd
  rcases (by omega : a < b ∨ a = b ∨ b < a) with q | q | q
  · have E : Hid _ := hd_le HVd (by omega)
    clear HVd P1 P2 P3 P4
    go_wp2_with fail
    all_goals
      go_ret
      exact Ro.b E.out (by first | exact ⟨0, rfl⟩ | (simp only [World.drewN_drewN]; exact ⟨_, rfl⟩) | exact ⟨_, rfl⟩)
  · subst q
    have E : Hid _ := hd_le HVd (by omega)
    clear HVd P1 P2 P3 P4
    go_wp2_with fail
    all_goals
      go_ret
      exact Ro.b E.out (by first | exact ⟨0, rfl⟩ | (simp only [World.drewN_drewN]; exact ⟨_, rfl⟩) | exact ⟨_, rfl⟩)
  · have E : Hid _ := hd_ge HVd (by omega)
    clear HVd P1 P2 P3 P4
    go_wp2_with fail
    all_goals
      go_ret
      exact Ro.b E.out (by first | exact ⟨0, rfl⟩ | (simp only [World.drewN_drewN]; exact ⟨_, rfl⟩) | exact ⟨_, rfl⟩)

set_option maxHeartbeats 400000 in
theorem iMostLoad_c (c t m : Int) (w : World) (hc : -9223372036854775808 ≤ c ∧ c ≤ 9223372036854775807) :
    Calls Try.prog 28 #[.int .i64 c, .int .i64 t, .int .i64 m] w (Ro w (.int .i64 (mo c t m))) := by
  go_enter Try.func28, Try.ntmps28
  by_cases h1 : c < 1
  · have E : Hid _ := mo_bad (c := c) (t := t) (m := m) (by omega)
    go_wp2
    go_ret
    exact Ro.i E.out (by first | exact ⟨0, rfl⟩ | (simp only [World.drewN_drewN]; exact ⟨_, rfl⟩) | exact ⟨_, rfl⟩)
  by_cases h2 : 160 < c
  · have E : Hid _ := mo_bad (c := c) (t := t) (m := m) (by omega)
    go_wp2
    go_ret
    exact Ro.i E.out (by first | exact ⟨0, rfl⟩ | (simp only [World.drewN_drewN]; exact ⟨_, rfl⟩) | exact ⟨_, rfl⟩)
  clear hc
  go_wp2
  obtain ⟨wo, hwo⟩ : ∃ wo : World, wo = w := ⟨_, rfl⟩
  go_loopw [7] (fun v wr => ∃ (l : Int) (n : Nat), -1 ≤ l ∧ l ≤ 40 ∧ v = .int .i64 l ∧ wr = wo.drewN n ∧ (∀ i, 0 ≤ i → i ≤ l → hdB (c + i) (c + 20) t m = true)) (fun v _ => (40 - intOf v).toNat)
  case atStart => exact ⟨-1, 0, by omega, by omega, rfl, by rw [hwo]; rfl, fun i h0 h1 => by omega⟩
  case round =>
    obtain ⟨l, n, l0, l1, rfl, hw, hall⟩ := hrel
    subst hwo
    have HW : Hid _ := hw
    have HA : Hid _ := hall
    clear hw hall
    by_cases hlt : l < 40
    · have K := iHolds_c (c + l + 1) (c + 20) t m wr
      cases g : hdB (c + l + 1) (c + 20) t m
      · rw [g] at K
        have E : Hid (mo c t m = l) := mo_eq (.inl ⟨by omega, by omega, HA.out, .inr g⟩)
        clear g
        go_wp2_with fail
        refine K.mono ?_
        rintro e w' ⟨rfl, n1, rfl⟩
        go_wp2_with fail
        go_ret
        exact Ro.i E.out (by rw [HW.out]; (try simp only [World.drewN_drewN]); exact ⟨_, rfl⟩)
      · rw [g] at K
        have E : Hid _ := g
        clear g
        go_wp2_with fail
        refine K.mono ?_
        rintro e w' ⟨rfl, n1, rfl⟩
        go_wp2_with fail
        go_roundw
        case rel => exact ⟨l + 1, _, by omega, by omega, by go_num, (by rw [HW.out]; first | exact World.drewN_drewN .. | (simp only [World.drewN_drewN]; rfl) | (simp only [World.drewN_drewN])), fun i h0 h1 => by
          by_cases e : i = l + 1
          · subst e; rw [← Int.add_assoc]; exact E.out
          · exact HA.out i h0 (by omega)⟩
        case measure => simp [intOf]; omega
    · obtain rfl : l = 40 := by omega
      have E : Hid (mo c t m = 40) := mo_eq (.inl ⟨by omega, by omega, HA.out, .inl rfl⟩)
      go_wp2_with fail
      go_ret
      exact Ro.i E.out (by rw [HW.out]; (try simp only [World.drewN_drewN]); exact ⟨_, rfl⟩)
set_option maxHeartbeats 400000 in
theorem sMostLoad_c (c t m : Int) (w : World) (hc : -9223372036854775808 ≤ c ∧ c ≤ 9223372036854775807) :
    Calls Try.prog 29 #[.int .i64 c, .int .i64 t, .int .i64 m] w (Ro w (.int .i64 (mo c t m))) := by
  go_enter Try.func29, Try.ntmps29
  go_wp2_with fail
  refine (l1In_c _ _ _ _).mono ?_
  rintro e w1 ⟨rfl, n1, rfl⟩
  cases h1 : inB 1 c 160
  · have E : Hid _ := mo_bad (c := c) (t := t) (m := m) (fun h => by rw [inB_t h] at h1; cases h1)
    clear h1
    go_wp2_with fail
    go_ret
    exact Ro.i E.out (by first | exact ⟨0, rfl⟩ | (simp only [World.drewN_drewN]; exact ⟨_, rfl⟩) | exact ⟨_, rfl⟩)
  have P1 := inB_iff.1 h1
  clear h1 hc
  obtain ⟨c0, c1⟩ := P1
  go_wp2_with fail
  obtain ⟨wo, hwo⟩ : ∃ wo : World, wo = w := ⟨_, rfl⟩
  go_loopw [7] (fun v wr => ∃ (l : Int) (n : Nat), -1 ≤ l ∧ l ≤ 40 ∧ v = .int .i64 l ∧ wr = wo.drewN n ∧ (∀ i, 0 ≤ i → i ≤ l → hdB (c + i) (c + 20) t m = true)) (fun v _ => (40 - intOf v).toNat)
  case atStart => exact ⟨-1, _, by omega, by omega, rfl, by rw [hwo], fun i h0 h1 => by omega⟩
  case round =>
    obtain ⟨l, n, l0, l1, rfl, hw, hall⟩ := hrel
    subst hwo
    have HW : Hid _ := hw
    have HA : Hid _ := hall
    clear hw hall
    by_cases hlt : l < 40
    · have K := sHolds_c (c + l + 1) (c + 20) t m wr
      cases g : hdB (c + l + 1) (c + 20) t m
      · rw [g] at K
        have E : Hid (mo c t m = l) := mo_eq (.inl ⟨by omega, by omega, HA.out, .inr g⟩)
        clear g
        go_wp2_with fail
        refine K.mono ?_
        rintro e w' ⟨rfl, n1, rfl⟩
        go_wp2_with fail
        go_ret
        exact Ro.i E.out (by rw [HW.out]; (try simp only [World.drewN_drewN]); exact ⟨_, rfl⟩)
      · rw [g] at K
        have E : Hid _ := g
        clear g
        go_wp2_with fail
        refine K.mono ?_
        rintro e w' ⟨rfl, n1, rfl⟩
        go_wp2_with fail
        go_roundw
        case rel => exact ⟨l + 1, _, by omega, by omega, by go_num, (by rw [HW.out]; first | exact World.drewN_drewN .. | (simp only [World.drewN_drewN]; rfl) | (simp only [World.drewN_drewN])), fun i h0 h1 => by
          by_cases e : i = l + 1
          · subst e; rw [← Int.add_assoc]; exact E.out
          · exact HA.out i h0 (by omega)⟩
        case measure => simp [intOf]; omega
    · obtain rfl : l = 40 := by omega
      have E : Hid (mo c t m = 40) := mo_eq (.inl ⟨by omega, by omega, HA.out, .inl rfl⟩)
      go_wp2_with fail
      go_ret
      exact Ro.i E.out (by rw [HW.out]; (try simp only [World.drewN_drewN]); exact ⟨_, rfl⟩)
end Go.Proofs.Ytahfkeogfoejmaa

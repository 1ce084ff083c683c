/- The contracts of LoadSum, Overloaded, LoadFirst, impl and spec. -/
import Derived.Test.YtaipbfagiiclnaaD
import Derived.Test.YtaipbfagiiclnaaK
import Derived.Test.Ytaipbfagiiclnaa6P
namespace Go.Proofs.Ytaipbfagiiclnaa
open Go.RowKit
set_option linter.unusedVariables false

set_option maxHeartbeats 400000 in
theorem sLoadSum_c (b off len cap : Nat) (xs : List Int) (w : World) (hc : Ints w b off xs) (hl : xs.length = len) (hm : xs.length ≤ 1048576) :
    Calls Try.prog 15 #[.slice (some ⟨b, off, none⟩) len cap] w (Ro w (.int .i64 (ls xs))) := by
  subst hl
  go_enter Try.func15, Try.ntmps15
  go_wp2
  obtain ⟨wo, hwo⟩ : ∃ wo : World, wo = w := ⟨_, rfl⟩
  go_loopw [3, 4] (fun u v wr => ∃ k n : Nat, k ≤ xs.length ∧ v = .int .i64 k ∧ u = .int .i64 (sm xs k) ∧ wr = wo.drewN n ∧ (∀ i, i < k → 1 ≤ nth xs i ∧ nth xs i ≤ 40)) (fun _ v _ => xs.length - (intOf v).toNat)
  case atStart => exact ⟨0, 0, by omega, rfl, rfl, by rw [hwo]; rfl, by omega⟩
  case round =>
    obtain ⟨k, n, hk2, rfl, rfl, hw, hall⟩ := hrel
    subst hwo
    replace hc : Ints wr b off xs := by rw [hw]; exact hc
    have bd := sm_bd k hall
    have HW : Hid _ := hw
    have HA : Hid _ := hall
    have HS : Hid (sm xs (k + 1) = sm xs k + nth xs k) := (rfl : sm xs (k + 1) = sm xs k + nth xs k)
    have HE : Hid (sm xs k = sm xs k) := rfl
    clear hw hall
    by_cases hlt : k < xs.length
    · have c1 : wr.cell? ⟨b, off + k, none⟩ = some (.int .i64 (nth xs k)) := hc k hlt
      obtain ⟨z, hz⟩ : ∃ z, sm xs k = z := ⟨_, rfl⟩
      rw [hz] at bd HS
      rw [hz]
      clear hz HE
      by_cases ht : 1 ≤ nth xs k ∧ nth xs k ≤ 40
      · have t1 := inB_t ht
        obtain ⟨h1, h2⟩ := ht
        go_wp2_with (go_at_call 34; refine (l1In_c _ _ _ _).mono ?_; rintro e w' ⟨rfl, n1, rfl⟩)
        go_roundw
        case rel => exact ⟨k + 1, _, by omega, by go_num, by rw [HS.out], (by rw [HW.out]; first | exact World.drewN_drewN .. | (simp only [World.drewN_drewN]; rfl) | (simp only [World.drewN_drewN])), fun i hi => by
          by_cases e : i = k
          · subst e; exact ⟨h1, h2⟩
          · exact HA.out i (by omega)⟩
        case measure => simp [intOf]; omega
      · have t1 := inB_f ht
        have hno : Hid (¬ WV xs) := fun h : WV xs => ht (h.2 k hlt)
        clear ht
        go_wp2_with (go_at_call 34; refine (l1In_c _ _ _ _).mono ?_; rintro e w' ⟨rfl, n1, rfl⟩)
        go_ret
        exact Ro.i (ls_bad hno.out) (by rw [HW.out]; (try simp only [World.drewN_drewN]); exact ⟨_, rfl⟩)
    · obtain rfl : k = xs.length := by omega
      by_cases h8 : 8 < xs.length
      · have hno : Hid (¬ WV xs) := fun h : WV xs => by have := h.1; omega
        go_wp2
        go_ret
        exact Ro.i (ls_bad hno.out) (by rw [HW.out]; (try simp only [World.drewN_drewN]); exact ⟨_, rfl⟩)
      · have hok : Hid (WV xs) := ⟨by omega, HA.out⟩
        go_wp2
        go_ret
        exact Ro.i (ls_ok hok.out) (by rw [HW.out]; (try simp only [World.drewN_drewN]); exact ⟨_, rfl⟩)

set_option maxHeartbeats 400000 in
theorem iLoadSum_c (b off len cap : Nat) (xs : List Int) (w : World) (hc : Ints w b off xs) (hl : xs.length = len) (hm : xs.length ≤ 1048576) :
    Calls Try.prog 14 #[.slice (some ⟨b, off, none⟩) len cap] w (Ro w (.int .i64 (ls xs))) := by
  subst hl
  go_enter Try.func14, Try.ntmps14
  by_cases h8 : 8 < xs.length
  · have hno : Hid (¬ WV xs) := fun h : WV xs => by have := h.1; omega
    go_wp2
    go_ret
    exact Ro.i (ls_bad hno.out) (by first | exact ⟨0, rfl⟩ | (simp only [World.drewN_drewN]; exact ⟨_, rfl⟩) | exact ⟨_, rfl⟩)
  go_wp2
  go_loop [3, 11] (fun u v => ∃ k : Nat, k ≤ xs.length ∧ v = .int .i64 k ∧ u = .int .i64 (sm xs k) ∧ (∀ i, i < k → 1 ≤ nth xs i ∧ nth xs i ≤ 40)) (fun _ v => xs.length - (intOf v).toNat)
  case atStart => exact ⟨0, by omega, rfl, rfl, by omega⟩
  case round =>
    obtain ⟨k, hk2, rfl, rfl, hall⟩ := hrel
    have bd := sm_bd k hall
    have HA : Hid _ := hall
    have HS : Hid (sm xs (k + 1) = sm xs k + nth xs k) := (rfl : sm xs (k + 1) = sm xs k + nth xs k)
    clear hall
    by_cases hlt : k < xs.length
    · have c1 : w.cell? ⟨b, off + k, none⟩ = some (.int .i64 (nth xs k)) := hc k hlt
      obtain ⟨z, hz⟩ : ∃ z, sm xs k = z := ⟨_, rfl⟩
      rw [hz] at bd HS
      rw [hz]
      clear hz
      by_cases h1 : 1 ≤ nth xs k
      · by_cases h2 : nth xs k ≤ 40
        · go_wp2
          go_round
          case rel => exact ⟨k + 1, by omega, by go_num, by rw [HS.out], fun i hi => by
            by_cases e : i = k
            · subst e; exact ⟨h1, h2⟩
            · exact HA.out i (by omega)⟩
          case measure => simp [intOf]; omega
        · have hno : Hid (¬ WV xs) := fun h : WV xs => h2 (h.2 k hlt).2
          go_wp2
          go_ret
          exact Ro.i (ls_bad hno.out) (by first | exact ⟨0, rfl⟩ | (simp only [World.drewN_drewN]; exact ⟨_, rfl⟩) | exact ⟨_, rfl⟩)
      · have hno : Hid (¬ WV xs) := fun h : WV xs => h1 (h.2 k hlt).1
        go_wp2
        go_ret
        exact Ro.i (ls_bad hno.out) (by first | exact ⟨0, rfl⟩ | (simp only [World.drewN_drewN]; exact ⟨_, rfl⟩) | exact ⟨_, rfl⟩)
    · obtain rfl : k = xs.length := by omega
      have hok : Hid (WV xs) := ⟨by omega, HA.out⟩
      go_wp2
      go_ret
      exact Ro.i (ls_ok hok.out) (by first | exact ⟨0, rfl⟩ | (simp only [World.drewN_drewN]; exact ⟨_, rfl⟩) | exact ⟨_, rfl⟩)

theorem sOverloaded_c (b off len cap : Nat) (xs : List Int) (w : World) (hc : Ints w b off xs) (hl : xs.length = len) (hm : xs.length ≤ 1048576) :
    Calls Try.prog 20 #[.slice (some ⟨b, off, none⟩) len cap] w (Ro w (.bool (ovB xs))) := by
  have K := sLoadSum_c b off len cap xs w hc hl hm
  have bd := ls_bd xs
  by_cases h : 40 < ls xs
  · have e := ovB_t h
    go_enter Try.func20, Try.ntmps20
    go_wp2_with fail
    refine K.mono ?_
    rintro e w' ⟨rfl, n1, rfl⟩
    go_wp2_with fail
    go_ret
    first | exact Ro.b rfl (by first | exact ⟨0, rfl⟩ | (simp only [World.drewN_drewN]; exact ⟨_, rfl⟩) | exact ⟨_, rfl⟩) | exact Ro.b (by assumption) (by first | exact ⟨0, rfl⟩ | (simp only [World.drewN_drewN]; exact ⟨_, rfl⟩) | exact ⟨_, rfl⟩)
  · have e := ovB_f h
    go_enter Try.func20, Try.ntmps20
    go_wp2_with fail
    refine K.mono ?_
    rintro e w' ⟨rfl, n1, rfl⟩
    go_wp2_with fail
    go_ret
    first | exact Ro.b rfl (by first | exact ⟨0, rfl⟩ | (simp only [World.drewN_drewN]; exact ⟨_, rfl⟩) | exact ⟨_, rfl⟩) | exact Ro.b (by assumption) (by first | exact ⟨0, rfl⟩ | (simp only [World.drewN_drewN]; exact ⟨_, rfl⟩) | exact ⟨_, rfl⟩)
theorem iOverloaded_c (b off len cap : Nat) (xs : List Int) (w : World) (hc : Ints w b off xs) (hl : xs.length = len) (hm : xs.length ≤ 1048576) :
    Calls Try.prog 19 #[.slice (some ⟨b, off, none⟩) len cap] w (Ro w (.bool (ovB xs))) := by
  have K := iLoadSum_c b off len cap xs w hc hl hm
  have bd := ls_bd xs
  by_cases h : 40 < ls xs
  · have e := ovB_t h
    go_enter Try.func19, Try.ntmps19
    go_wp2_with fail
    refine K.mono ?_
    rintro e w' ⟨rfl, n1, rfl⟩
    go_wp2_with fail
    go_ret
    first | exact Ro.b rfl (by first | exact ⟨0, rfl⟩ | (simp only [World.drewN_drewN]; exact ⟨_, rfl⟩) | exact ⟨_, rfl⟩) | exact Ro.b (by assumption) (by first | exact ⟨0, rfl⟩ | (simp only [World.drewN_drewN]; exact ⟨_, rfl⟩) | exact ⟨_, rfl⟩)
  · have e := ovB_f h
    go_enter Try.func19, Try.ntmps19
    go_wp2_with fail
    refine K.mono ?_
    rintro e w' ⟨rfl, n1, rfl⟩
    go_wp2_with fail
    go_ret
    first | exact Ro.b rfl (by first | exact ⟨0, rfl⟩ | (simp only [World.drewN_drewN]; exact ⟨_, rfl⟩) | exact ⟨_, rfl⟩) | exact Ro.b (by assumption) (by first | exact ⟨0, rfl⟩ | (simp only [World.drewN_drewN]; exact ⟨_, rfl⟩) | exact ⟨_, rfl⟩)

set_option maxHeartbeats 400000 in
theorem sLoadFirst_c (b off cap : Nat) (xs : List Int) (w : World) (hc : Ints w b off xs) (hcl : xs.length ≤ cap) (hcm : cap ≤ maxLen) (hm : xs.length ≤ 1048576) :
    Calls Try.prog 23 #[.slice (some ⟨b, off, none⟩) xs.length cap] w (Ro w (.int .i64 (lf xs))) := by
  have K := sLoadSum_c b off _ cap xs w hc rfl hm
  have bd := ls_bd xs
  unfold maxLen at hcm
  go_enter Try.func23, Try.ntmps23
  by_cases h0 : ls xs < 0
  · have hno := (ls_neg h0).2
    go_wp2_with fail
    refine K.mono ?_
    rintro e w' ⟨rfl, n1, rfl⟩
    go_wp2_with fail
    go_ret
    exact Ro.i (lf_bad hno) (by first | exact ⟨0, rfl⟩ | (simp only [World.drewN_drewN]; exact ⟨_, rfl⟩) | exact ⟨_, rfl⟩)
  have hv := ls_wv h0
  have l8 := hv.1
  go_wp2_with fail
  refine K.mono ?_
  rintro e w' ⟨rfl, n1, rfl⟩
  clear K
  go_wp2_with fail
  obtain ⟨wo, hwo⟩ : ∃ wo : World, wo = w := ⟨_, rfl⟩
  go_loopw [3] (fun v wr => ∃ k n : Nat, k ≤ xs.length ∧ v = .int .i64 k ∧ wr = wo.drewN n ∧ sm xs k ≤ 40) (fun v _ => xs.length - (intOf v).toNat)
  case atStart => exact ⟨0, _, by omega, rfl, by rw [hwo], by simp [sm]⟩
  case round =>
    obtain ⟨k, n, hk2, rfl, hw, hs⟩ := hrel
    subst hwo
    replace hc : Ints wr b off xs := by rw [hw]; exact hc
    have HW : Hid _ := hw
    have HS : Hid _ := hs
    clear hw hs
    by_cases hlt : k < xs.length
    · have K := sLoadSum_c b off (k + 1) cap (xs.take (k + 1)) wr (hc.take _) (by simp; omega) (by simp; omega)
      rw [ls_take hv (by omega)] at K
      have b2 := hv.sm (k + 1) (by omega)
      have HK : Hid _ := K
      clear K
      have hk1 : k + 1 ≤ cap := by omega
      by_cases h40 : sm xs (k + 1) ≤ 40
      · go_wp2_with fail
        refine Calls.mono HK.out ?_
        rintro e w' ⟨rfl, n1, rfl⟩
        go_wp2_with fail
        go_roundw
        case rel => exact ⟨k + 1, _, by omega, by go_num, (by rw [HW.out]; first | exact World.drewN_drewN .. | (simp only [World.drewN_drewN]; rfl) | (simp only [World.drewN_drewN])), h40⟩
        case measure => simp [intOf]; omega
      · go_wp2_with fail
        refine Calls.mono HK.out ?_
        rintro e w' ⟨rfl, n1, rfl⟩
        go_wp2_with fail
        go_ret
        exact Ro.i (lf_eq (.inl ⟨hv, k, hk2, rfl, HS.out, .inr (by omega)⟩)) (by rw [HW.out]; (try simp only [World.drewN_drewN]); exact ⟨_, rfl⟩)
    · obtain rfl : k = xs.length := by omega
      go_wp2_with fail
      go_ret
      exact Ro.i (lf_eq (.inl ⟨hv, _, hk2, rfl, HS.out, .inl rfl⟩)) (by rw [HW.out]; (try simp only [World.drewN_drewN]); exact ⟨_, rfl⟩)

set_option maxHeartbeats 400000 in
theorem iLoadFirst_c (b off cap : Nat) (xs : List Int) (w : World) (hc : Ints w b off xs) (hcl : xs.length ≤ cap) (hcm : cap ≤ maxLen) (hm : xs.length ≤ 1048576) :
    Calls Try.prog 22 #[.slice (some ⟨b, off, none⟩) xs.length cap] w (Ro w (.int .i64 (lf xs))) := by
  have K := iLoadSum_c b off _ cap xs w hc rfl hm
  have bd := ls_bd xs
  unfold maxLen at hcm
  go_enter Try.func22, Try.ntmps22
  by_cases h0 : ls xs < 0
  · have hno := (ls_neg h0).2
    go_wp2_with fail
    refine K.mono ?_
    rintro e w' ⟨rfl, n1, rfl⟩
    go_wp2_with fail
    go_ret
    exact Ro.i (lf_bad hno) (by first | exact ⟨0, rfl⟩ | (simp only [World.drewN_drewN]; exact ⟨_, rfl⟩) | exact ⟨_, rfl⟩)
  have hv := ls_wv h0
  have l8 := hv.1
  go_wp2_with fail
  refine K.mono ?_
  rintro e w' ⟨rfl, n1, rfl⟩
  clear K
  go_wp2_with fail
  obtain ⟨wo, hwo⟩ : ∃ wo : World, wo = w := ⟨_, rfl⟩
  go_loopw [3] (fun v wr => ∃ k n : Nat, k ≤ xs.length ∧ v = .int .i64 k ∧ wr = wo.drewN n ∧ (k = xs.length ∨ 40 < sm xs (k + 1))) (fun v _ => (intOf v).toNat)
  case atStart => exact ⟨xs.length, _, by omega, rfl, by rw [hwo], .inl rfl⟩
  case round =>
    obtain ⟨k, n, hk2, rfl, hw, hs⟩ := hrel
    subst hwo
    replace hc : Ints wr b off xs := by rw [hw]; exact hc
    have HW : Hid _ := hw
    have HS : Hid _ := hs
    clear hw hs
    have K := iOverloaded_c b off k cap (xs.take k) wr (hc.take _) (by simp; omega) (by simp; omega)
    rw [ovB_take hv hk2] at K
    have HK : Hid _ := K
    clear K
    have hk1 : k ≤ cap := by omega
    by_cases h40 : 40 < sm xs k
    · rw [decide_eq_true h40] at HK
      obtain ⟨j, rfl⟩ : ∃ j, k = j + 1 := ⟨k - 1, by
        rcases Nat.eq_zero_or_pos k with e | e
        · subst e; simp [sm] at h40
        · omega⟩
      have H40 : Hid _ := h40
      clear h40
      go_wp2_with fail
      refine Calls.mono HK.out ?_
      rintro e w' ⟨rfl, n1, rfl⟩
      go_wp2_with fail
      go_roundw
      case rel => exact ⟨j, _, by omega, by go_num, (by rw [HW.out]; first | exact World.drewN_drewN .. | (simp only [World.drewN_drewN]; rfl) | (simp only [World.drewN_drewN])), .inr H40.out⟩
      case measure => first | (simp [intOf]; done) | (simp [intOf]; omega)
    · rw [decide_eq_false h40] at HK
      have H40 : Hid _ := h40
      clear h40
      go_wp2_with fail
      refine Calls.mono HK.out ?_
      rintro e w' ⟨rfl, n1, rfl⟩
      go_wp2_with fail
      go_ret
      exact Ro.i (lf_eq (.inl ⟨hv, k, hk2, rfl, Int.not_lt.1 H40.out, HS.out⟩)) (by rw [HW.out]; (try simp only [World.drewN_drewN]); exact ⟨_, rfl⟩)
end Go.Proofs.Ytaipbfagiiclnaa

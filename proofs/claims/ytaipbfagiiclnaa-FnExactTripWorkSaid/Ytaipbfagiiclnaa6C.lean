/- The contracts of TourWork, impl and spec. -/
import Derived.Test.Ytaipbfagiiclnaa6B
namespace Go.Proofs.Ytaipbfagiiclnaa
open Go.RowKit
set_option linter.unusedVariables false

set_option maxHeartbeats 1000000 in
theorem sTourWork_c (b off cap : Nat) (xs : List Int) (b1 o1 n1 cap1 : Nat) (ss : List Int) (b2 o2 n2 cap2 : Nat) (ls : List Int) (w : World) (hc : Ints w b off xs) (hm : xs.length ≤ maxLen)
    (hc1 : Ints w b1 o1 ss) (hl1 : ss.length = n1) (hm1 : ss.length ≤ 1048577) (hc2 : Ints w b2 o2 ls) (hl2 : ls.length = n2) (hm2 : ls.length ≤ 1048577) :
    Calls Try.prog 29 #[.slice (some ⟨b, off, none⟩) xs.length cap, .slice (some ⟨b1, o1, none⟩) n1 cap1, .slice (some ⟨b2, o2, none⟩) n2 cap2] w (Ro w (.tuple #[.int .i64 (uw xs ss ls), .bool (uvB xs ss ls)])) := by
  subst hl1 hl2
  have hm' := hm
  unfold maxLen at hm'
  go_enter Try.func29, Try.ntmps29
  by_cases hl : ss.length = ls.length + 1
  case neg =>
    have t : ((ss.length : Int) != (ls.length : Int) + 1) = true := by simp; omega
    have hno : Hid (¬ UV xs ss ls) := fun h : UV xs ss ls => hl h.1
    clear hl
    go_wp2_with fail
    go_quiet (fail)
    go_wp2_with fail
    go_ret2
    exact Ro.p (uw_bad hno.out) (uvB_f hno.out) (by first | exact ⟨0, rfl⟩ | (simp only [World.drewN_drewN]; exact ⟨_, rfl⟩) | exact ⟨_, rfl⟩)
  have t : ((ss.length : Int) != (ls.length : Int) + 1) = false := by simp; omega
  have hs0 : 0 < ss.length := by omega
  have hs1 : 1 ≤ ss.length := by omega
  have c0 : w.cell? ⟨b1, o1, none⟩ = some (.int .i64 (nth ss 0)) := hc1 0 hs0
  have HL : Hid _ := hl
  clear hl
  by_cases h0 : FV xs ∧ okF xs (nth ss 0)
  case neg =>
    have e : fw xs (nth ss 0) (nth ss 0) = -1 := fw_bad (fun h => h0 ⟨h.1, h.2.1⟩)
    have hno : Hid (¬ UV xs ss ls) := fun h : UV xs ss ls => h0 h.2.1
    have K : Hid _ := fun w' (h : Ints w' b off xs) => sFloorWay_c b off cap xs (nth ss 0) (nth ss 0) w' h hm
    rw [e] at K
    have HC : Hid _ := hc
    clear h0 e hc hc1 hc2
    go_wp2_with fail
    go_quiet ((go_at_call 41; (first | exact Calls.quiet_of (K.out _ HC.out) | exact quiet_sum (K.out _ HC.out))))
    go_wp2_with fail
    go_ret2
    exact Ro.p (uw_bad hno.out) (uvB_f hno.out) (by first | exact ⟨0, rfl⟩ | (simp only [World.drewN_drewN]; exact ⟨_, rfl⟩) | exact ⟨_, rfl⟩)
  have e : fw xs (nth ss 0) (nth ss 0) = 0 := by rw [fw_ok h0.1 h0.2 h0.2]; unfold far; omega
  have K : Hid _ := fun w' (h : Ints w' b off xs) => sFloorWay_c b off cap xs (nth ss 0) (nth ss 0) w' h hm
  rw [e] at K
  have H0 : Hid _ := h0
  have HC : Hid _ := hc
  have HC1 : Hid _ := hc1
  have HC2 : Hid _ := hc2
  clear h0 e hc hc1 hc2
  go_wp2_with fail
  go_quiet ((go_at_call 41; (first | exact Calls.quiet_of (K.out _ HC.out) | exact quiet_sum (K.out _ HC.out))))
  clear K c0
  go_wp2_with fail
  obtain ⟨wo, hwo⟩ : ∃ wo : World, wo = w := ⟨_, rfl⟩
  go_loopw [8, 9] (fun u v wr => ∃ k n : Nat, k ≤ ls.length ∧ v = .int .i64 k ∧ u = .int .i64 (su xs ss ls k) ∧ wr = wo.drewN n ∧ (∀ i, i < k → TV xs (nth ss i) (nth ss (i + 1)) (nth ls i))) (fun _ v _ => ls.length - (intOf v).toNat)
  case atStart => exact ⟨0, _, by omega, rfl, rfl, by rw [hwo], by omega⟩
  case round =>
    obtain ⟨k, n, hk2, rfl, rfl, hw, hall⟩ := hrel
    subst hwo
    have I0 : Hid (Ints wr b off xs) := by rw [hw]; exact HC.out
    have I1 : Hid (Ints wr b1 o1 ss) := by rw [hw]; exact HC1.out
    have I2 : Hid (Ints wr b2 o2 ls) := by rw [hw]; exact HC2.out
    have bd := su_bd xs ss ls k
    have HW : Hid _ := hw
    have HA : Hid _ := hall
    have HS : Hid (su xs ss ls (k + 1) = su xs ss ls k + tw xs (nth ss k) (nth ss (k + 1)) (nth ls k)) := (rfl : su xs ss ls (k + 1) = su xs ss ls k + tw xs (nth ss k) (nth ss (k + 1)) (nth ls k))
    have hll := HL.out
    have hS1 : (k : Int) + 1 ≤ (ls.length : Int) ∨ k = ls.length := by omega
    clear hw hall HC HC1 HC2
    by_cases hlt : k < ls.length
    · have c1 : wr.cell? ⟨b1, o1 + k, none⟩ = some (.int .i64 (nth ss k)) := I1.out k (by omega)
      have c2 : wr.cell? ⟨b1, o1 + (k + 1), none⟩ = some (.int .i64 (nth ss (k + 1))) := I1.out (k + 1) (by omega)
      have c3 : wr.cell? ⟨b2, o2 + k, none⟩ = some (.int .i64 (nth ls k)) := I2.out k (by omega)
      have i1 : (k : Int) < (ss.length : Int) := by omega
      have i2 : (k : Int) + 1 < (ss.length : Int) := by omega
      have i3 : (k : Int) < (ls.length : Int) := by omega
      have n1 : k < ss.length := by omega
      have n2 : k + 1 < ss.length := by omega
      clear hll hS1
      obtain ⟨z, hz⟩ : ∃ z, su xs ss ls k = z := ⟨_, rfl⟩
      rw [hz] at bd HS
      rw [hz]
      clear hz
      have tb := tw_bd xs (nth ss k) (nth ss (k + 1)) (nth ls k)
      by_cases ht : TV xs (nth ss k) (nth ss (k + 1)) (nth ls k)
      · have t1 := twB_t ht
        have HT : Hid _ := ht
        clear ht
        have K : Hid _ := fun w' (h : Ints w' b off xs) => sTripWork_c b off cap xs (nth ss k) (nth ss (k + 1)) (nth ls k) w' h hm
        rw [t1] at K
        obtain ⟨y, hy⟩ : ∃ y, tw xs (nth ss k) (nth ss (k + 1)) (nth ls k) = y := ⟨_, rfl⟩
        rw [hy] at tb HS K
        clear hy t1
        obtain ⟨tb1, tb2⟩ := tb
        obtain ⟨bd1, bd2⟩ := bd
        go_wp2_with fail
        go_quiet ((go_at_call 26; (first | exact Calls.quiet_of (K.out _ I0.out) | exact quiet_sum (K.out _ I0.out))))
        go_wp2_with fail
        go_roundw
        case rel => exact ⟨k + 1, _, by omega, by go_num, by rw [HS.out], (by rw [HW.out]; first | exact World.drewN_drewN .. | (simp only [World.drewN_drewN]; rfl) | (simp only [World.drewN_drewN])), fun i hi => by
          by_cases e : i = k
          · subst e; exact HT.out
          · exact HA.out i (by omega)⟩
        case measure => simp [intOf]; omega
      · have t1 := twB_f ht
        have hno : Hid (¬ UV xs ss ls) := fun h : UV xs ss ls => ht (h.2.2 k hlt)
        have K : Hid _ := fun w' (h : Ints w' b off xs) => sTripWork_c b off cap xs (nth ss k) (nth ss (k + 1)) (nth ls k) w' h hm
        rw [t1] at K
        clear ht t1 tb
        go_wp2_with fail
        go_quiet ((go_at_call 26; (first | exact Calls.quiet_of (K.out _ I0.out) | exact quiet_sum (K.out _ I0.out))))
        go_wp2_with fail
        go_ret2
        exact Ro.p (uw_bad hno.out) (uvB_f hno.out) (by rw [HW.out]; (try simp only [World.drewN_drewN]); exact ⟨_, rfl⟩)
    · obtain rfl : k = ls.length := by omega
      have hok : Hid (UV xs ss ls) := ⟨HL.out, H0.out, HA.out⟩
      clear hS1 hll
      go_wp2_with fail
      go_ret2
      exact Ro.p (uw_ok hok.out) (uvB_t hok.out) (by rw [HW.out]; (try simp only [World.drewN_drewN]); exact ⟨_, rfl⟩)

set_option maxHeartbeats 1000000 in
theorem iTourWork_c (b off cap : Nat) (xs : List Int) (b1 o1 n1 cap1 : Nat) (ss : List Int) (b2 o2 n2 cap2 : Nat) (ls : List Int) (w : World) (hc : Ints w b off xs) (hm : xs.length ≤ maxLen)
    (hc1 : Ints w b1 o1 ss) (hl1 : ss.length = n1) (hm1 : ss.length ≤ 1048577) (hc2 : Ints w b2 o2 ls) (hl2 : ls.length = n2) (hm2 : ls.length ≤ 1048577) :
    Calls Try.prog 28 #[.slice (some ⟨b, off, none⟩) xs.length cap, .slice (some ⟨b1, o1, none⟩) n1 cap1, .slice (some ⟨b2, o2, none⟩) n2 cap2] w (Ro w (.tuple #[.int .i64 (uw xs ss ls), .bool (uvB xs ss ls)])) := by
  subst hl1 hl2
  have hm' := hm
  unfold maxLen at hm'
  go_enter Try.func28, Try.ntmps28
  by_cases hl : ss.length = ls.length + 1
  case neg =>
    have t : ((ss.length : Int) != (ls.length : Int) + 1) = true := by simp; omega
    have hno : Hid (¬ UV xs ss ls) := fun h : UV xs ss ls => hl h.1
    clear hl
    go_wp2_with fail
    go_ret2
    exact Ro.p (uw_bad hno.out) (uvB_f hno.out) (by first | exact ⟨0, rfl⟩ | (simp only [World.drewN_drewN]; exact ⟨_, rfl⟩) | exact ⟨_, rfl⟩)
  have t : ((ss.length : Int) != (ls.length : Int) + 1) = false := by simp; omega
  have hs0 : 0 < ss.length := by omega
  have hs1 : 1 ≤ ss.length := by omega
  have c0 : w.cell? ⟨b1, o1, none⟩ = some (.int .i64 (nth ss 0)) := hc1 0 hs0
  have HL : Hid _ := hl
  clear hl
  by_cases hv : FV xs
  case neg =>
    have t1 := fvB_f hv
    have hno : Hid (¬ UV xs ss ls) := fun h : UV xs ss ls => hv h.2.1.1
    go_wp2_with fail
    refine (iFloorsValid_c _ _ _ _ _ hc hm).mono ?_
    rintro e w' ⟨rfl, n1, rfl⟩
    go_wp2_with fail
    go_ret2
    exact Ro.p (uw_bad hno.out) (uvB_f hno.out) (by first | exact ⟨0, rfl⟩ | (simp only [World.drewN_drewN]; exact ⟨_, rfl⟩) | exact ⟨_, rfl⟩)
  have t1 := fvB_t hv
  by_cases h0 : okF xs (nth ss 0)
  case neg =>
    have t2 := okB_f h0
    have hno : Hid (¬ UV xs ss ls) := fun h : UV xs ss ls => h0 h.2.1.2
    go_wp2_with fail
    refine (iFloorsValid_c _ _ _ _ _ hc hm).mono ?_
    rintro e w' ⟨rfl, n1, rfl⟩
    go_wp2_with fail
    refine (isFloor_c _ _ _ _ _ hm).mono ?_
    rintro e w' ⟨rfl, n1, rfl⟩
    go_wp2_with fail
    go_ret2
    exact Ro.p (uw_bad hno.out) (uvB_f hno.out) (by first | exact ⟨0, rfl⟩ | (simp only [World.drewN_drewN]; exact ⟨_, rfl⟩) | exact ⟨_, rfl⟩)
  have t2 := okB_t h0
  have H0 : Hid (FV xs ∧ okF xs (nth ss 0)) := ⟨hv, h0⟩
  have HC : Hid _ := hc
  have HC1 : Hid _ := hc1
  have HC2 : Hid _ := hc2
  clear h0 hv hc hc1 hc2
  go_wp2_with fail
  refine (iFloorsValid_c _ _ _ _ _ HC.out hm).mono ?_
  rintro e w' ⟨rfl, n1, rfl⟩
  go_wp2_with fail
  refine (isFloor_c _ _ _ _ _ hm).mono ?_
  rintro e w' ⟨rfl, n2, rfl⟩
  go_wp2_with fail
  clear t1 t2 c0
  obtain ⟨wo, hwo⟩ : ∃ wo : World, wo = w := ⟨_, rfl⟩
  go_loopw [8, 34] (fun u v wr => ∃ k n : Nat, k ≤ ls.length ∧ v = .int .i64 k ∧ u = .int .i64 (su xs ss ls k) ∧ wr = wo.drewN n ∧ (∀ i, i < k → TV xs (nth ss i) (nth ss (i + 1)) (nth ls i))) (fun _ v _ => ls.length - (intOf v).toNat)
  case atStart => exact ⟨0, _, by omega, rfl, rfl, by rw [hwo], by omega⟩
  case round =>
    obtain ⟨k, n, hk2, rfl, rfl, hw, hall⟩ := hrel
    subst hwo
    have I0 : Hid (Ints wr b off xs) := by rw [hw]; exact HC.out
    have I1 : Hid (Ints wr b1 o1 ss) := by rw [hw]; exact HC1.out
    have I2 : Hid (Ints wr b2 o2 ls) := by rw [hw]; exact HC2.out
    have bd := su_bd xs ss ls k
    have HW : Hid _ := hw
    have HA : Hid _ := hall
    have HS : Hid (su xs ss ls (k + 1) = su xs ss ls k + tw xs (nth ss k) (nth ss (k + 1)) (nth ls k)) := (rfl : su xs ss ls (k + 1) = su xs ss ls k + tw xs (nth ss k) (nth ss (k + 1)) (nth ls k))
    have hll := HL.out
    clear hw hall HC HC1 HC2
    by_cases hlt : k < ls.length
    · have c1 : wr.cell? ⟨b1, o1 + k, none⟩ = some (.int .i64 (nth ss k)) := I1.out k (by omega)
      have c2 : wr.cell? ⟨b1, o1 + (k + 1), none⟩ = some (.int .i64 (nth ss (k + 1))) := I1.out (k + 1) (by omega)
      have c3 : wr.cell? ⟨b2, o2 + k, none⟩ = some (.int .i64 (nth ls k)) := I2.out k (by omega)
      have i1 : (k : Int) < (ss.length : Int) := by omega
      have i2 : (k : Int) + 1 < (ss.length : Int) := by omega
      have i3 : (k : Int) < (ls.length : Int) := by omega
      have n1 : k < ss.length := by omega
      have n2 : k + 1 < ss.length := by omega
      clear hll
      obtain ⟨z, hz⟩ : ∃ z, su xs ss ls k = z := ⟨_, rfl⟩
      rw [hz] at bd HS
      rw [hz]
      clear hz
      have tb := tw_bd xs (nth ss k) (nth ss (k + 1)) (nth ls k)
      by_cases ht : TV xs (nth ss k) (nth ss (k + 1)) (nth ls k)
      · have t1 := twB_t ht
        have HT : Hid _ := ht
        clear ht
        have K : Hid _ := fun w' (h : Ints w' b off xs) => iTripWork_c b off cap xs (nth ss k) (nth ss (k + 1)) (nth ls k) w' h hm
        rw [t1] at K
        obtain ⟨y, hy⟩ : ∃ y, tw xs (nth ss k) (nth ss (k + 1)) (nth ls k) = y := ⟨_, rfl⟩
        rw [hy] at tb HS K
        clear hy t1
        obtain ⟨tb1, tb2⟩ := tb
        obtain ⟨bd1, bd2⟩ := bd
        go_wp2_with fail
        go_quiet ((go_at_call 25; (first | exact Calls.quiet_of (K.out _ I0.out) | exact quiet_sum (K.out _ I0.out))))
        go_wp2_with fail
        go_roundw
        case rel => exact ⟨k + 1, _, by omega, by go_num, by rw [HS.out], (by rw [HW.out]; first | exact World.drewN_drewN .. | (simp only [World.drewN_drewN]; rfl) | (simp only [World.drewN_drewN])), fun i hi => by
          by_cases e : i = k
          · subst e; exact HT.out
          · exact HA.out i (by omega)⟩
        case measure => simp [intOf]; omega
      · have t1 := twB_f ht
        have hno : Hid (¬ UV xs ss ls) := fun h : UV xs ss ls => ht (h.2.2 k hlt)
        have K : Hid _ := fun w' (h : Ints w' b off xs) => iTripWork_c b off cap xs (nth ss k) (nth ss (k + 1)) (nth ls k) w' h hm
        rw [t1] at K
        clear ht t1 tb
        go_wp2_with fail
        go_quiet ((go_at_call 25; (first | exact Calls.quiet_of (K.out _ I0.out) | exact quiet_sum (K.out _ I0.out))))
        go_wp2_with fail
        go_ret2
        exact Ro.p (uw_bad hno.out) (uvB_f hno.out) (by rw [HW.out]; (try simp only [World.drewN_drewN]); exact ⟨_, rfl⟩)
    · obtain rfl : k = ls.length := by omega
      have hok : Hid (UV xs ss ls) := ⟨HL.out, H0.out, HA.out⟩
      clear hll
      go_wp2_with fail
      go_ret2
      exact Ro.p (uw_ok hok.out) (uvB_t hok.out) (by rw [HW.out]; (try simp only [World.drewN_drewN]); exact ⟨_, rfl⟩)
end Go.Proofs.Ytaipbfagiiclnaa

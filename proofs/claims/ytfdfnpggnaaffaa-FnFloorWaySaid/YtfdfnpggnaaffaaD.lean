/- The contracts of FloorNear and FloorWay of the model. -/
import Derived.Test.YtfdfnpggnaaffaaC
namespace Go.Proofs.Ytfdfnpggnaaffaa
open Go.RowKit
set_option linter.unusedVariables false

set_option maxHeartbeats 400000 in
theorem sFloorNear_c (b off cap : Nat) (xs : List Int) (a : Int) (w : World) (hc : Ints w b off xs) (hm : xs.length ≤ maxLen) :
    Calls Try.prog 25 #[.slice (some ⟨b, off, none⟩) xs.length cap, .int .i64 a] w (Ro w (.int .i64 (fn xs a))) := by
  have hm2 := hm
  unfold maxLen at hm
  by_cases hv : FV xs
  case neg =>
    have t1 := fvB_f hv
    go_enter Try.func25, Try.ntmps25
    go_wp2_with (go_at_call 15; refine (sFloorsValid_c _ _ _ _ _ hc hm2).mono ?_; rintro e w' ⟨rfl, n1, rfl⟩)
    go_ret
    exact Ro.i (fn_bad (fun h => hv h.1)) (by first | exact ⟨0, rfl⟩ | (simp only [World.drewN_drewN]; exact ⟨_, rfl⟩) | exact ⟨_, rfl⟩)
  have t1 := fvB_t hv
  by_cases ha : 0 ≤ a ∧ a ≤ 60
  case neg =>
    have t2 := inB_f ha
    have e : Hid _ := fn_bad (xs := xs) (a := a) (fun h => ha h.2)
    clear ha
    go_enter Try.func25, Try.ntmps25
    go_wp2_with (first | (go_at_call 15; refine (sFloorsValid_c _ _ _ _ _ hc hm2).mono ?_; rintro e w' ⟨rfl, n1, rfl⟩) | (go_at_call 33; refine (l1In_c _ _ _ _).mono ?_; rintro e w' ⟨rfl, n2, rfl⟩))
    go_ret
    exact Ro.i e.out (by first | exact ⟨0, rfl⟩ | (simp only [World.drewN_drewN]; exact ⟨_, rfl⟩) | exact ⟨_, rfl⟩)
  have t2 := inB_t ha
  have h0 := ha.1
  have h6 := ha.2
  clear ha
  go_enter Try.func25, Try.ntmps25
  go_wp2_with (first | (go_at_call 15; refine (sFloorsValid_c _ _ _ _ _ hc hm2).mono ?_; rintro e w' ⟨rfl, n1, rfl⟩) | (go_at_call 33; refine (l1In_c _ _ _ _).mono ?_; rintro e w' ⟨rfl, n2, rfl⟩))
  obtain ⟨wo, hwo⟩ : ∃ wo : World, wo = w := ⟨_, rfl⟩
  go_loopw [5, 6] (fun u v wr => ∃ k n j : Nat, k ≤ xs.length ∧ v = .int .i64 k ∧ wr = wo.drewN n ∧ u = .int .i64 j ∧ j < xs.length ∧ (∀ i, i < k → far (nth xs j) a ≤ far (nth xs i) a) ∧ (∀ i, i < j → far (nth xs j) a < far (nth xs i) a)) (fun _ v _ => xs.length - (intOf v).toNat)
  case atStart => exact ⟨0, _, 0, by omega, rfl, by rw [hwo], rfl, by have := hv.1; omega, by omega, by omega⟩
  case round =>
    obtain ⟨k, n, j, hk2, rfl, hw, rfl, hj, hall, hfirst⟩ := hrel
    subst hwo
    replace hc : Ints wr b off xs := by rw [hw]; exact hc
    have HW : Hid _ := hw
    have HA : Hid _ := hall
    have HF : Hid _ := hfirst
    clear hw hall hfirst
    by_cases hlt : k < xs.length
    · have c1 : wr.cell? ⟨b, off + k, none⟩ = some (.int .i64 (nth xs k)) := hc k hlt
      have c2 : wr.cell? ⟨b, off + j, none⟩ = some (.int .i64 (nth xs j)) := hc j hj
      have b1 := hv.ge k hlt
      have b2 := hv.le k hlt
      have b3 := hv.ge j hj
      have b4 := hv.le j hj
      have hjI : (j : Int) < (xs.length : Int) := by omega
      have hkI : (k : Int) < (xs.length : Int) := by omega
      go_wp2
      go_quiet ((go_at_call 37; (first | exact Calls.quiet_of (l1Far_c _ _ _ (by omega) (by omega) (by omega) (by omega)) | exact quiet_sum (l1Far_c _ _ _ (by omega) (by omega) (by omega) (by omega)))))
      by_cases ht : far (nth xs k) a < far (nth xs j) a
      · go_wp2
        go_roundw
        case rel => exact ⟨k + 1, _, k, by omega, by go_num, (by rw [HW.out]; first | exact World.drewN_drewN .. | (simp only [World.drewN_drewN]; rfl) | (simp only [World.drewN_drewN])), rfl, hlt, fun i hi => by
          by_cases e : i = k
          · subst e; omega
          · have := HA.out i (by omega); omega, fun i hi => by have := HA.out i hi; omega⟩
        case measure => simp [intOf]; omega
      · go_wp2
        go_roundw
        case rel => exact ⟨k + 1, _, j, by omega, by go_num, (by rw [HW.out]; first | exact World.drewN_drewN .. | (simp only [World.drewN_drewN]; rfl) | (simp only [World.drewN_drewN])), rfl, hj, fun i hi => by
          by_cases e : i = k
          · subst e; omega
          · exact HA.out i (by omega), HF.out⟩
        case measure => simp [intOf]; omega
    · obtain rfl : k = xs.length := by omega
      go_wp2
      go_ret
      exact Ro.i (fn_eq (.inl ⟨hv, h0, h6, j, hj, rfl, HA.out, HF.out⟩)) (by rw [HW.out]; (try simp only [World.drewN_drewN]); exact ⟨_, rfl⟩)

set_option maxHeartbeats 400000 in
theorem sFloorWay_c (b off cap : Nat) (xs : List Int) (x y : Int) (w : World) (hc : Ints w b off xs) (hm : xs.length ≤ maxLen) :
    Calls Try.prog 28 #[.slice (some ⟨b, off, none⟩) xs.length cap, .int .i64 x, .int .i64 y] w (Ro w (.int .i64 (fw xs x y))) := by
  have hm2 := hm
  unfold maxLen at hm
  by_cases hv : FV xs
  case neg =>
    have t1 := fvB_f hv
    have e : Hid _ := fw_bad (a := x) (b := y) (fun h => hv h.1)
    go_enter Try.func28, Try.ntmps28
    go_wp2_with (go_at_call 15; refine (sFloorsValid_c _ _ _ _ _ hc hm2).mono ?_; rintro e w' ⟨rfl, n1, rfl⟩)
    go_ret
    exact Ro.i e.out (by first | exact ⟨0, rfl⟩ | (simp only [World.drewN_drewN]; exact ⟨_, rfl⟩) | exact ⟨_, rfl⟩)
  have t1 := fvB_t hv
  have hpos := hv.1
  by_cases hx : okF xs x
  case neg =>
    have t2 : inB 0 x ((xs.length : Int) - 1) = false := inB_f (by unfold okF at hx; omega)
    have e : Hid _ := fw_bad (a := x) (b := y) (fun h => hx h.2.1)
    go_enter Try.func28, Try.ntmps28
    go_wp2_with fail
    refine (sFloorsValid_c _ _ _ _ _ hc hm2).mono ?_; rintro e w' ⟨rfl, n1, rfl⟩
    go_wp2_with fail
    refine (l1In_c _ _ _ _).mono ?_; rintro e w' ⟨rfl, n1, rfl⟩
    go_wp2_with fail
    go_ret
    exact Ro.i e.out (by first | exact ⟨0, rfl⟩ | (simp only [World.drewN_drewN]; exact ⟨_, rfl⟩) | exact ⟨_, rfl⟩)
  have t2 : inB 0 x ((xs.length : Int) - 1) = true := inB_t (by unfold okF at hx; omega)
  by_cases hy : okF xs y
  case neg =>
    have t3 : inB 0 y ((xs.length : Int) - 1) = false := inB_f (by unfold okF at hy; omega)
    have e : Hid _ := fw_bad (a := x) (b := y) (fun h => hy h.2.2)
    go_enter Try.func28, Try.ntmps28
    go_wp2_with fail
    refine (sFloorsValid_c _ _ _ _ _ hc hm2).mono ?_; rintro e w' ⟨rfl, n1, rfl⟩
    go_wp2_with fail
    refine (l1In_c _ _ _ _).mono ?_; rintro e w' ⟨rfl, n1, rfl⟩
    go_wp2_with fail
    refine (l1In_c _ _ _ _).mono ?_; rintro e w' ⟨rfl, n1, rfl⟩
    go_wp2_with fail
    go_ret
    exact Ro.i e.out (by first | exact ⟨0, rfl⟩ | (simp only [World.drewN_drewN]; exact ⟨_, rfl⟩) | exact ⟨_, rfl⟩)
  have t3 : inB 0 y ((xs.length : Int) - 1) = true := inB_t (by unfold okF at hy; omega)
  have e : Hid _ := fw_ok hv hx hy
  obtain ⟨p, rfl⟩ := Int.eq_ofNat_of_zero_le hx.1
  obtain ⟨q, rfl⟩ := Int.eq_ofNat_of_zero_le hy.1
  have hp : p < xs.length := by have := hx.2; omega
  have hq : q < xs.length := by have := hy.2; omega
  have hpI : (p : Int) < (xs.length : Int) := by omega
  have hqI : (q : Int) < (xs.length : Int) := by omega
  have c1 : w.cell? ⟨b, off + p, none⟩ = some (.int .i64 (nth xs p)) := hc p hp
  have c2 : w.cell? ⟨b, off + q, none⟩ = some (.int .i64 (nth xs q)) := hc q hq
  have b1 := hv.ge p hp
  have b2 := hv.le p hp
  have b3 := hv.ge q hq
  have b4 := hv.le q hq
  go_enter Try.func28, Try.ntmps28
  go_wp2_with fail
  refine (sFloorsValid_c _ _ _ _ _ hc hm2).mono ?_; rintro e w' ⟨rfl, n1, rfl⟩
  go_wp2_with fail
  refine (l1In_c _ _ _ _).mono ?_; rintro e w' ⟨rfl, n1, rfl⟩
  go_wp2_with fail
  refine (l1In_c _ _ _ _).mono ?_; rintro e w' ⟨rfl, n1, rfl⟩
  go_wp2_with fail
  go_quiet ((go_at_call 37; (first | exact Calls.quiet_of (l1Far_c _ _ _ (by omega) (by omega) (by omega) (by omega)) | exact quiet_sum (l1Far_c _ _ _ (by omega) (by omega) (by omega) (by omega)))))
  go_wp2
  go_ret
  exact Ro.i e.out (by first | exact ⟨0, rfl⟩ | (simp only [World.drewN_drewN]; exact ⟨_, rfl⟩) | exact ⟨_, rfl⟩)
end Go.Proofs.Ytfdfnpggnaaffaa

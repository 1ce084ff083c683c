/- The contracts of FloorNear and FloorWay, impl and spec. -/
import Derived.Test.YtfdfnpggnaaffaaB
namespace Go.Proofs.Ytfdfnpggnaaffaa
open Go.RowKit
set_option linter.unusedVariables false

theorem FV.cellA {xs : List Int} (h : FV xs) {k : Nat} (hk : k < xs.length) : -1 ≤ nth xs k ∧ nth xs k ≤ 60 := ⟨by have := h.ge k hk; omega, h.le k hk⟩

set_option maxHeartbeats 400000 in
theorem iFloorNear_c (b off cap : Nat) (xs : List Int) (a : Int) (w : World) (hc : Ints w b off xs) (hm : xs.length ≤ maxLen) :
    Calls Try.prog 24 #[.slice (some ⟨b, off, none⟩) xs.length cap, .int .i64 a] w (Ro w (.int .i64 (fn xs a))) := by
  have hm2 := hm
  unfold maxLen at hm
  by_cases hv : FV xs ∧ 0 ≤ a ∧ a ≤ 60
  case neg =>
    have e : Hid _ := fn_bad hv
    have e1 : fb xs a = -1 := fb_bad hv
    clear hv
    go_enter Try.func24, Try.ntmps24
    go_wp2_with (go_at_call 21; refine (iFloorBelow_c _ _ _ _ _ _ hc hm2).mono ?_; rintro e w' ⟨rfl, n1, rfl⟩)
    go_ret
    exact Ro.i e.out (by first | exact ⟨0, rfl⟩ | (simp only [World.drewN_drewN]; exact ⟨_, rfl⟩) | exact ⟨_, rfl⟩)
  obtain ⟨hv, h0, h6⟩ := hv
  obtain ⟨k, hk, hfb, hn, hu⟩ := fb_ok hv h0 h6
  have hE := fn_of_fb hv h0 h6 k hk hn hu
  have H : Hid _ := hE
  have c1 : w.cell? ⟨b, off + k, none⟩ = some (.int .i64 (nth xs k)) := hc k hk
  have b1 := (hv.cellA hk).1
  have b2 := (hv.cellA hk).2
  clear hE hn hu
  by_cases hlast : k + 1 = xs.length
  · have e : Hid (k + 1 = xs.length) := hlast
    have hl : ((k : Int) == (xs.length : Int) - 1) = true := by simp; omega
    clear hlast
    go_enter Try.func24, Try.ntmps24
    go_wp2_with (go_at_call 21; refine (iFloorBelow_c _ _ _ _ _ _ hc hm2).mono ?_; rintro e w' ⟨rfl, n1, rfl⟩)
    go_ret
    exact Ro.i (by rw [H.out, if_neg (by have := e.out; omega)]) (by first | exact ⟨0, rfl⟩ | (simp only [World.drewN_drewN]; exact ⟨_, rfl⟩) | exact ⟨_, rfl⟩)
  · have hk1 : k + 1 < xs.length := by omega
    have hl : ((k : Int) == (xs.length : Int) - 1) = false := by simp; omega
    have c2 : w.cell? ⟨b, off + (k + 1), none⟩ = some (.int .i64 (nth xs (k + 1))) := hc (k + 1) hk1
    have b3 := (hv.cellA hk1).1
    have b4 := (hv.cellA hk1).2
    have hkI : (k : Int) < (xs.length : Int) := by omega
    have hkI1 : (k : Int) + 1 < (xs.length : Int) := by omega
    go_enter Try.func24, Try.ntmps24
    go_wp2_with (go_at_call 21; refine (iFloorBelow_c _ _ _ _ _ _ hc hm2).mono ?_; rintro e w' ⟨rfl, n1, rfl⟩)
    go_quiet (fail)
    by_cases ht : a - nth xs k ≤ nth xs (k + 1) - a
    · go_wp2
      go_ret
      exact Ro.i (by rw [H.out, if_neg (by omega)]) (by first | exact ⟨0, rfl⟩ | (simp only [World.drewN_drewN]; exact ⟨_, rfl⟩) | exact ⟨_, rfl⟩)
    · go_wp2
      go_ret
      exact Ro.i (by rw [H.out, if_pos (by omega)]; omega) (by first | exact ⟨0, rfl⟩ | (simp only [World.drewN_drewN]; exact ⟨_, rfl⟩) | exact ⟨_, rfl⟩)

theorem iFloorWay_c (b off cap : Nat) (xs : List Int) (x y : Int) (w : World) (hc : Ints w b off xs) (hm : xs.length ≤ maxLen) :
    Calls Try.prog 27 #[.slice (some ⟨b, off, none⟩) xs.length cap, .int .i64 x, .int .i64 y] w (Ro w (.int .i64 (fw xs x y))) := by
  have hm2 := hm
  unfold maxLen at hm
  by_cases hv : FV xs
  case neg =>
    have t1 := fvB_f hv
    have e : Hid _ := fw_bad (a := x) (b := y) (fun h => hv h.1)
    go_enter Try.func27, Try.ntmps27
    go_wp2_with (go_at_call 14; refine (iFloorsValid_c _ _ _ _ _ hc hm2).mono ?_; rintro e w' ⟨rfl, n1, rfl⟩)
    go_ret
    exact Ro.i e.out (by first | exact ⟨0, rfl⟩ | (simp only [World.drewN_drewN]; exact ⟨_, rfl⟩) | exact ⟨_, rfl⟩)
  have t1 := fvB_t hv
  by_cases hx : okF xs x
  case neg =>
    have t2 := okB_f hx
    have e : Hid _ := fw_bad (a := x) (b := y) (fun h => hx h.2.1)
    go_enter Try.func27, Try.ntmps27
    go_wp2_with fail
    refine (iFloorsValid_c _ _ _ _ _ hc hm2).mono ?_; rintro e w' ⟨rfl, n1, rfl⟩
    go_wp2_with fail
    refine (isFloor_c _ _ _ _ _ hm2).mono ?_; rintro e w' ⟨rfl, n1, rfl⟩
    go_wp2_with fail
    go_ret
    exact Ro.i e.out (by first | exact ⟨0, rfl⟩ | (simp only [World.drewN_drewN]; exact ⟨_, rfl⟩) | exact ⟨_, rfl⟩)
  have t2 := okB_t hx
  by_cases hy : okF xs y
  case neg =>
    have t3 := okB_f hy
    have e : Hid _ := fw_bad (a := x) (b := y) (fun h => hy h.2.2)
    go_enter Try.func27, Try.ntmps27
    go_wp2_with fail
    refine (iFloorsValid_c _ _ _ _ _ hc hm2).mono ?_; rintro e w' ⟨rfl, n1, rfl⟩
    go_wp2_with fail
    refine (isFloor_c _ _ _ _ _ hm2).mono ?_; rintro e w' ⟨rfl, n1, rfl⟩
    go_wp2_with fail
    refine (isFloor_c _ _ _ _ _ hm2).mono ?_; rintro e w' ⟨rfl, n1, rfl⟩
    go_wp2_with fail
    go_ret
    exact Ro.i e.out (by first | exact ⟨0, rfl⟩ | (simp only [World.drewN_drewN]; exact ⟨_, rfl⟩) | exact ⟨_, rfl⟩)
  have t3 := okB_t hy
  have e : Hid _ := fw_ok hv hx hy
  obtain ⟨p, rfl⟩ := Int.eq_ofNat_of_zero_le hx.1
  obtain ⟨q, rfl⟩ := Int.eq_ofNat_of_zero_le hy.1
  have hp : p < xs.length := by have := hx.2; omega
  have hq : q < xs.length := by have := hy.2; omega
  have hpI : (p : Int) < (xs.length : Int) := by omega
  have hqI : (q : Int) < (xs.length : Int) := by omega
  have c1 : w.cell? ⟨b, off + p, none⟩ = some (.int .i64 (nth xs p)) := hc p hp
  have c2 : w.cell? ⟨b, off + q, none⟩ = some (.int .i64 (nth xs q)) := hc q hq
  have b1 := (hv.cellA hp).1
  have b2 := (hv.cellA hp).2
  have b3 := (hv.cellA hq).1
  have b4 := (hv.cellA hq).2
  go_enter Try.func27, Try.ntmps27
  go_wp2_with fail
  refine (iFloorsValid_c _ _ _ _ _ hc hm2).mono ?_; rintro e w' ⟨rfl, n1, rfl⟩
  go_wp2_with fail
  refine (isFloor_c _ _ _ _ _ hm2).mono ?_; rintro e w' ⟨rfl, n1, rfl⟩
  go_wp2_with fail
  refine (isFloor_c _ _ _ _ _ hm2).mono ?_; rintro e w' ⟨rfl, n1, rfl⟩
  go_wp2_with fail
  go_quiet (fail)
  go_wp2
  all_goals (go_ret; exact Ro.i (by rw [e.out]; unfold far; simp; omega) (by first | exact ⟨0, rfl⟩ | (simp only [World.drewN_drewN]; exact ⟨_, rfl⟩) | exact ⟨_, rfl⟩))
end Go.Proofs.Ytfdfnpggnaaffaa

/- The contracts of FloorNear and FloorWay, impl and spec. -/
import Derived.Test.YtgiioponimiddaaB
namespace Go.Proofs.Ytgiioponimiddaa
open Go.RowKit
set_option linter.unusedVariables false
set_option linter.unusedSimpArgs false

theorem FV.cellA {xs : List Int} (h : FV xs) {k : Nat} (hk : k < xs.length) : -1 ≤ nth xs k ∧ nth xs k ≤ 60 := ⟨by have := h.ge k hk; omega, h.le k hk⟩

theorem iFloorWay_c (b off cap : Nat) (xs : List Int) (x y : Int) (w : World) (hc : Ints w b off xs) (hm : xs.length ≤ maxLen) :
    Calls Try.prog 20 #[.slice (some ⟨b, off, none⟩) xs.length cap, .int .i64 x, .int .i64 y] w (Ro w (.int .i64 (fw xs x y))) := by
  have hm2 := hm
  unfold maxLen at hm
  by_cases hv : FV xs
  case neg =>
    have t1 := fvB_f hv
    have e : Hid _ := fw_bad (a := x) (b := y) (fun h => hv h.1)
    go_enter Try.func20, Try.ntmps20
    go_wp2_with (go_at_call 37; refine (iFloorsValid_c _ _ _ _ _ hc hm2).mono ?_; rintro e w' ⟨rfl, n1, rfl⟩)
    go_ret
    exact Ro.i e.out (by first | exact ⟨0, rfl⟩ | (simp only [World.drewN_drewN]; exact ⟨_, rfl⟩) | exact ⟨_, rfl⟩)
  have t1 := fvB_t hv
  by_cases hx : okF xs x
  case neg =>
    have t2 := okB_f hx
    have e : Hid _ := fw_bad (a := x) (b := y) (fun h => hx h.2.1)
    go_enter Try.func20, Try.ntmps20
    go_wp2_with fail
    refine (iFloorsValid_c _ _ _ _ _ hc hm2).mono ?_; rintro e w' ⟨rfl, n1, rfl⟩
    go_wp2_with fail
    refine (isFloor_c _ _ _ _ _ hm2).mono ?_; rintro e w' ⟨rfl, n1, rfl⟩
    go_wp2_with fail
    go_ret
    exact Ro.i e.out (by first | exact ⟨0, rfl⟩ | (simp only [World.drewN_drewN]; exact ⟨_, rfl⟩) | exact ⟨_, rfl⟩)
  have t2 := okB_t hx
  by_cases hy : okF xs y
  case neg =>
    have t3 := okB_f hy
    have e : Hid _ := fw_bad (a := x) (b := y) (fun h => hy h.2.2)
    go_enter Try.func20, Try.ntmps20
    go_wp2_with fail
    refine (iFloorsValid_c _ _ _ _ _ hc hm2).mono ?_; rintro e w' ⟨rfl, n1, rfl⟩
    go_wp2_with fail
    refine (isFloor_c _ _ _ _ _ hm2).mono ?_; rintro e w' ⟨rfl, n1, rfl⟩
    go_wp2_with fail
    refine (isFloor_c _ _ _ _ _ hm2).mono ?_; rintro e w' ⟨rfl, n1, rfl⟩
    go_wp2_with fail
    go_ret
    exact Ro.i e.out (by first | exact ⟨0, rfl⟩ | (simp only [World.drewN_drewN]; exact ⟨_, rfl⟩) | exact ⟨_, rfl⟩)
  have t3 := okB_t hy
  have e : Hid _ := fw_ok hv hx hy
  obtain ⟨p, rfl⟩ := Int.eq_ofNat_of_zero_le hx.1
  obtain ⟨q, rfl⟩ := Int.eq_ofNat_of_zero_le hy.1
  have hp : p < xs.length := by have := hx.2; omega
  have hq : q < xs.length := by have := hy.2; omega
  have hpI : (p : Int) < (xs.length : Int) := by omega
  have hqI : (q : Int) < (xs.length : Int) := by omega
  have c1 : w.cell? ⟨b, off + p, none⟩ = some (.int .i64 (nth xs p)) := hc p hp
  have c2 : w.cell? ⟨b, off + q, none⟩ = some (.int .i64 (nth xs q)) := hc q hq
  have b1 := (hv.cellA hp).1
  have b2 := (hv.cellA hp).2
  have b3 := (hv.cellA hq).1
  have b4 := (hv.cellA hq).2
  go_enter Try.func20, Try.ntmps20
  go_wp2_with fail
  refine (iFloorsValid_c _ _ _ _ _ hc hm2).mono ?_; rintro e w' ⟨rfl, n1, rfl⟩
  go_wp2_with fail
  refine (isFloor_c _ _ _ _ _ hm2).mono ?_; rintro e w' ⟨rfl, n1, rfl⟩
  go_wp2_with fail
  refine (isFloor_c _ _ _ _ _ hm2).mono ?_; rintro e w' ⟨rfl, n1, rfl⟩
  go_wp2_with fail
  go_quiet (fail)
  go_wp2
  all_goals (go_ret; exact Ro.i (by rw [e.out]; unfold far; simp; omega) (by first | exact ⟨0, rfl⟩ | (simp only [World.drewN_drewN]; exact ⟨_, rfl⟩) | exact ⟨_, rfl⟩))
end Go.Proofs.Ytgiioponimiddaa

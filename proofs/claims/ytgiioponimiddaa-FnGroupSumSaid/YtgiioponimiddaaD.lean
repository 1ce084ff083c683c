/- The contracts of FloorNear and FloorWay of the model. -/
import Derived.Test.YtgiioponimiddaaC
namespace Go.Proofs.Ytgiioponimiddaa
open Go.RowKit
set_option linter.unusedVariables false
set_option linter.unusedSimpArgs false

set_option maxHeartbeats 400000 in
theorem sFloorWay_c (b off cap : Nat) (xs : List Int) (x y : Int) (w : World) (hc : Ints w b off xs) (hm : xs.length ≤ maxLen) :
    Calls Try.prog 45 #[.slice (some ⟨b, off, none⟩) xs.length cap, .int .i64 x, .int .i64 y] w (Ro w (.int .i64 (fw xs x y))) := by
  have hm2 := hm
  unfold maxLen at hm
  by_cases hv : FV xs
  case neg =>
    have t1 := fvB_f hv
    have e : Hid _ := fw_bad (a := x) (b := y) (fun h => hv h.1)
    go_enter Try.func45, Try.ntmps45
    go_wp2_with (go_at_call 39; refine (sFloorsValid_c _ _ _ _ _ hc hm2).mono ?_; rintro e w' ⟨rfl, n1, rfl⟩)
    go_ret
    exact Ro.i e.out (by first | exact ⟨0, rfl⟩ | (simp only [World.drewN_drewN]; exact ⟨_, rfl⟩) | exact ⟨_, rfl⟩)
  have t1 := fvB_t hv
  have hpos := hv.1
  by_cases hx : okF xs x
  case neg =>
    have t2 : inB 0 x ((xs.length : Int) - 1) = false := inB_f (by unfold okF at hx; omega)
    have e : Hid _ := fw_bad (a := x) (b := y) (fun h => hx h.2.1)
    go_enter Try.func45, Try.ntmps45
    go_wp2_with fail
    refine (sFloorsValid_c _ _ _ _ _ hc hm2).mono ?_; rintro e w' ⟨rfl, n1, rfl⟩
    go_wp2_with fail
    refine (l1In_c _ _ _ _).mono ?_; rintro e w' ⟨rfl, n1, rfl⟩
    go_wp2_with fail
    go_ret
    exact Ro.i e.out (by first | exact ⟨0, rfl⟩ | (simp only [World.drewN_drewN]; exact ⟨_, rfl⟩) | exact ⟨_, rfl⟩)
  have t2 : inB 0 x ((xs.length : Int) - 1) = true := inB_t (by unfold okF at hx; omega)
  by_cases hy : okF xs y
  case neg =>
    have t3 : inB 0 y ((xs.length : Int) - 1) = false := inB_f (by unfold okF at hy; omega)
    have e : Hid _ := fw_bad (a := x) (b := y) (fun h => hy h.2.2)
    go_enter Try.func45, Try.ntmps45
    go_wp2_with fail
    refine (sFloorsValid_c _ _ _ _ _ hc hm2).mono ?_; rintro e w' ⟨rfl, n1, rfl⟩
    go_wp2_with fail
    refine (l1In_c _ _ _ _).mono ?_; rintro e w' ⟨rfl, n1, rfl⟩
    go_wp2_with fail
    refine (l1In_c _ _ _ _).mono ?_; rintro e w' ⟨rfl, n1, rfl⟩
    go_wp2_with fail
    go_ret
    exact Ro.i e.out (by first | exact ⟨0, rfl⟩ | (simp only [World.drewN_drewN]; exact ⟨_, rfl⟩) | exact ⟨_, rfl⟩)
  have t3 : inB 0 y ((xs.length : Int) - 1) = true := inB_t (by unfold okF at hy; omega)
  have e : Hid _ := fw_ok hv hx hy
  obtain ⟨p, rfl⟩ := Int.eq_ofNat_of_zero_le hx.1
  obtain ⟨q, rfl⟩ := Int.eq_ofNat_of_zero_le hy.1
  have hp : p < xs.length := by have := hx.2; omega
  have hq : q < xs.length := by have := hy.2; omega
  have hpI : (p : Int) < (xs.length : Int) := by omega
  have hqI : (q : Int) < (xs.length : Int) := by omega
  have c1 : w.cell? ⟨b, off + p, none⟩ = some (.int .i64 (nth xs p)) := hc p hp
  have c2 : w.cell? ⟨b, off + q, none⟩ = some (.int .i64 (nth xs q)) := hc q hq
  have b1 := hv.ge p hp
  have b2 := hv.le p hp
  have b3 := hv.ge q hq
  have b4 := hv.le q hq
  go_enter Try.func45, Try.ntmps45
  go_wp2_with fail
  refine (sFloorsValid_c _ _ _ _ _ hc hm2).mono ?_; rintro e w' ⟨rfl, n1, rfl⟩
  go_wp2_with fail
  refine (l1In_c _ _ _ _).mono ?_; rintro e w' ⟨rfl, n1, rfl⟩
  go_wp2_with fail
  refine (l1In_c _ _ _ _).mono ?_; rintro e w' ⟨rfl, n1, rfl⟩
  go_wp2_with fail
  go_quiet ((go_at_call 59; (first | exact Calls.quiet_of (l1Far_c _ _ _ (by omega) (by omega) (by omega) (by omega)) | exact quiet_sum (l1Far_c _ _ _ (by omega) (by omega) (by omega) (by omega)))))
  go_wp2
  go_ret
  exact Ro.i e.out (by first | exact ⟨0, rfl⟩ | (simp only [World.drewN_drewN]; exact ⟨_, rfl⟩) | exact ⟨_, rfl⟩)
end Go.Proofs.Ytgiioponimiddaa

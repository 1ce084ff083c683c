/- The contracts of TripWork and TourWork, impl and spec. -/
import Derived.Test.Ytaipbfagiiclnaa6A
namespace Go.Proofs.Ytaipbfagiiclnaa
open Go.RowKit
set_option linter.unusedVariables false

theorem Ro.p {w w' : World} {x y : Int} {b b' : Bool} (h : x = y) (k : b = b') (hw : ∃ n, w' = w.drewN n) : Ro w (.tuple #[.int .i64 x, .bool b]) (.returned (.tuple #[.int .i64 y, .bool b'])) w' := ⟨by rw [h, k], hw⟩
theorem isLoad_c (n : Int) (w : World) : Calls Try.prog 40 #[.int .i64 n] w (Ro w (.bool (inB 0 n 40))) := by
  by_cases h1 : 0 ≤ n
  · by_cases h2 : n ≤ 40
    · go_enter Try.func40, Try.ntmps40
      go_wp2
      go_ret
      exact Ro.b (inB_t ⟨h1, h2⟩) (by first | exact ⟨0, rfl⟩ | (simp only [World.drewN_drewN]; exact ⟨_, rfl⟩) | exact ⟨_, rfl⟩)
    · go_enter Try.func40, Try.ntmps40
      go_wp2
      go_ret
      exact Ro.b (inB_f (by omega)) (by first | exact ⟨0, rfl⟩ | (simp only [World.drewN_drewN]; exact ⟨_, rfl⟩) | exact ⟨_, rfl⟩)
  · go_enter Try.func40, Try.ntmps40
    go_wp2
    go_ret
    exact Ro.b (inB_f (by omega)) (by first | exact ⟨0, rfl⟩ | (simp only [World.drewN_drewN]; exact ⟨_, rfl⟩) | exact ⟨_, rfl⟩)

set_option maxHeartbeats 400000 in
theorem sTripWork_c (b off cap : Nat) (xs : List Int) (x y l : Int) (w : World) (hc : Ints w b off xs) (hm : xs.length ≤ maxLen) :
    Calls Try.prog 26 #[.slice (some ⟨b, off, none⟩) xs.length cap, .int .i64 x, .int .i64 y, .int .i64 l] w (Ro w (.tuple #[.int .i64 (tw xs x y l), .bool (twB xs x y l)])) := by
  have hm2 := hm
  unfold maxLen at hm
  by_cases hv : FV xs ∧ okF xs x ∧ okF xs y
  case neg =>
    have e : fw xs x y = -1 := fw_bad hv
    have hno : Hid (¬ TV xs x y l) := fun h : TV xs x y l => hv ⟨h.1, h.2.1, h.2.2.1⟩
    clear hv
    go_enter Try.func26, Try.ntmps26
    go_wp2_with fail
    refine (sFloorWay_c _ _ _ _ _ _ _ hc hm2).mono ?_
    rw [e]
    rintro e w' ⟨rfl, n1, rfl⟩
    go_wp2_with fail
    go_ret2
    exact Ro.p (tw_bad hno.out) (twB_f hno.out) (by first | exact ⟨0, rfl⟩ | (simp only [World.drewN_drewN]; exact ⟨_, rfl⟩) | exact ⟨_, rfl⟩)
  obtain ⟨hv, hx, hy⟩ := hv
  have e : fw xs x y = far (nth xs x.toNat) (nth xs y.toNat) := fw_ok hv hx hy
  have e0 : 0 ≤ far (nth xs x.toNat) (nth xs y.toNat) := by unfold far; omega
  obtain ⟨z, hz⟩ : ∃ z, far (nth xs x.toNat) (nth xs y.toNat) = z := ⟨_, rfl⟩
  rw [hz] at e e0
  clear hz
  have E : Hid _ := e
  clear e
  by_cases hl : 0 ≤ l ∧ l ≤ 40
  case neg =>
    have t2 := inB_f hl
    have hno : Hid (¬ TV xs x y l) := fun h : TV xs x y l => hl h.2.2.2
    clear hl
    go_enter Try.func26, Try.ntmps26
    go_wp2_with fail
    refine (sFloorWay_c _ _ _ _ _ _ _ hc hm2).mono ?_
    rw [E.out]
    rintro e w' ⟨rfl, n1, rfl⟩
    go_wp2_with fail
    refine (l1In_c _ _ _ _).mono ?_
    rintro e w' ⟨rfl, n1, rfl⟩
    go_wp2_with fail
    go_ret2
    exact Ro.p (tw_bad hno.out) (twB_f hno.out) (by first | exact ⟨0, rfl⟩ | (simp only [World.drewN_drewN]; exact ⟨_, rfl⟩) | exact ⟨_, rfl⟩)
  have t2 := inB_t hl
  have hT : TV xs x y l := ⟨hv, hx, hy, hl⟩
  have ht : Hid _ := tw_ok hT
  have hb := hT.hb
  have mb := mul_bd (l := l - 20) (d := nth xs y.toNat - nth xs x.toNat) (by omega) (by omega)
  obtain ⟨l0, l1⟩ := hl
  obtain ⟨p, rfl⟩ := Int.eq_ofNat_of_zero_le hx.1
  obtain ⟨q, rfl⟩ := Int.eq_ofNat_of_zero_le hy.1
  have hp : p < xs.length := by have := hx.2; omega
  have hq : q < xs.length := by have := hy.2; omega
  have hpI : (p : Int) < (xs.length : Int) := by omega
  have hqI : (q : Int) < (xs.length : Int) := by omega
  have c1 : w.cell? ⟨b, off + p, none⟩ = some (.int .i64 (nth xs p)) := hc p hp
  have c2 : w.cell? ⟨b, off + q, none⟩ = some (.int .i64 (nth xs q)) := hc q hq
  simp only [Int.toNat_natCast] at hb mb
  obtain ⟨⟨b1, b2⟩, b3, b4⟩ := hb
  obtain ⟨m1, m2⟩ := mb
  have HT : Hid _ := hT
  clear hT hx hy
  go_enter Try.func26, Try.ntmps26
  go_wp2_with fail
  refine (sFloorWay_c _ _ _ _ _ _ _ hc hm2).mono ?_
  rw [E.out]
  rintro e w' ⟨rfl, n1, rfl⟩
  go_wp2_with fail
  refine (l1In_c _ _ _ _).mono ?_
  rintro e w' ⟨rfl, n1, rfl⟩
  go_wp2_with fail
  go_quiet (fail)
  go_wp2_with fail
  go_ret2
  exact Ro.p (by rw [ht.out]; simp) (twB_t HT.out) (by first | exact ⟨0, rfl⟩ | (simp only [World.drewN_drewN]; exact ⟨_, rfl⟩) | exact ⟨_, rfl⟩)

set_option maxHeartbeats 400000 in
theorem iTripWork_c (b off cap : Nat) (xs : List Int) (x y l : Int) (w : World) (hc : Ints w b off xs) (hm : xs.length ≤ maxLen) :
    Calls Try.prog 25 #[.slice (some ⟨b, off, none⟩) xs.length cap, .int .i64 x, .int .i64 y, .int .i64 l] w (Ro w (.tuple #[.int .i64 (tw xs x y l), .bool (twB xs x y l)])) := by
  have hm2 := hm
  unfold maxLen at hm
  by_cases hv : FV xs
  case neg =>
    have t1 := fvB_f hv
    have hno : Hid (¬ TV xs x y l) := fun h : TV xs x y l => hv h.1
    go_enter Try.func25, Try.ntmps25
    go_wp2_with fail
    refine (iFloorsValid_c _ _ _ _ _ hc hm2).mono ?_
    rintro e w' ⟨rfl, n1, rfl⟩
    go_wp2_with fail
    go_ret2
    exact Ro.p (tw_bad hno.out) (twB_f hno.out) (by first | exact ⟨0, rfl⟩ | (simp only [World.drewN_drewN]; exact ⟨_, rfl⟩) | exact ⟨_, rfl⟩)
  have t1 := fvB_t hv
  by_cases hx : okF xs x
  case neg =>
    have t2 := okB_f hx
    have hno : Hid (¬ TV xs x y l) := fun h : TV xs x y l => hx h.2.1
    go_enter Try.func25, Try.ntmps25
    go_wp2_with fail
    refine (iFloorsValid_c _ _ _ _ _ hc hm2).mono ?_
    rintro e w' ⟨rfl, n1, rfl⟩
    go_wp2_with fail
    refine (isFloor_c _ _ _ _ _ hm2).mono ?_
    rintro e w' ⟨rfl, n1, rfl⟩
    go_wp2_with fail
    go_ret2
    exact Ro.p (tw_bad hno.out) (twB_f hno.out) (by first | exact ⟨0, rfl⟩ | (simp only [World.drewN_drewN]; exact ⟨_, rfl⟩) | exact ⟨_, rfl⟩)
  have t2 := okB_t hx
  by_cases hy : okF xs y
  case neg =>
    have t3 := okB_f hy
    have hno : Hid (¬ TV xs x y l) := fun h : TV xs x y l => hy h.2.2.1
    go_enter Try.func25, Try.ntmps25
    go_wp2_with fail
    refine (iFloorsValid_c _ _ _ _ _ hc hm2).mono ?_
    rintro e w' ⟨rfl, n1, rfl⟩
    go_wp2_with fail
    refine (isFloor_c _ _ _ _ _ hm2).mono ?_
    rintro e w' ⟨rfl, n1, rfl⟩
    go_wp2_with fail
    refine (isFloor_c _ _ _ _ _ hm2).mono ?_
    rintro e w' ⟨rfl, n1, rfl⟩
    go_wp2_with fail
    go_ret2
    exact Ro.p (tw_bad hno.out) (twB_f hno.out) (by first | exact ⟨0, rfl⟩ | (simp only [World.drewN_drewN]; exact ⟨_, rfl⟩) | exact ⟨_, rfl⟩)
  have t3 := okB_t hy
  by_cases hl : 0 ≤ l ∧ l ≤ 40
  case neg =>
    have t4 := inB_f hl
    have hno : Hid (¬ TV xs x y l) := fun h : TV xs x y l => hl h.2.2.2
    clear hl
    go_enter Try.func25, Try.ntmps25
    go_wp2_with fail
    refine (iFloorsValid_c _ _ _ _ _ hc hm2).mono ?_
    rintro e w' ⟨rfl, n1, rfl⟩
    go_wp2_with fail
    refine (isFloor_c _ _ _ _ _ hm2).mono ?_
    rintro e w' ⟨rfl, n1, rfl⟩
    go_wp2_with fail
    refine (isFloor_c _ _ _ _ _ hm2).mono ?_
    rintro e w' ⟨rfl, n1, rfl⟩
    go_wp2_with fail
    refine (isLoad_c _ _).mono ?_
    rintro e w' ⟨rfl, n1, rfl⟩
    go_wp2_with fail
    go_ret2
    exact Ro.p (tw_bad hno.out) (twB_f hno.out) (by first | exact ⟨0, rfl⟩ | (simp only [World.drewN_drewN]; exact ⟨_, rfl⟩) | exact ⟨_, rfl⟩)
  have t4 := inB_t hl
  have hT : TV xs x y l := ⟨hv, hx, hy, hl⟩
  have ht : Hid _ := tw_ok hT
  have hb := hT.hb
  have mb := mul_bd (l := l - 20) (d := nth xs y.toNat - nth xs x.toNat) (by omega) (by omega)
  obtain ⟨l0, l1⟩ := hl
  obtain ⟨p, rfl⟩ := Int.eq_ofNat_of_zero_le hx.1
  obtain ⟨q, rfl⟩ := Int.eq_ofNat_of_zero_le hy.1
  have hp : p < xs.length := by have := hx.2; omega
  have hq : q < xs.length := by have := hy.2; omega
  have hpI : (p : Int) < (xs.length : Int) := by omega
  have hqI : (q : Int) < (xs.length : Int) := by omega
  have c1 : w.cell? ⟨b, off + p, none⟩ = some (.int .i64 (nth xs p)) := hc p hp
  have c2 : w.cell? ⟨b, off + q, none⟩ = some (.int .i64 (nth xs q)) := hc q hq
  simp only [Int.toNat_natCast] at hb mb
  obtain ⟨⟨b1, b2⟩, b3, b4⟩ := hb
  obtain ⟨m1, m2⟩ := mb
  have HT : Hid _ := hT
  clear hT hx hy
  go_enter Try.func25, Try.ntmps25
  go_wp2_with fail
  refine (iFloorsValid_c _ _ _ _ _ hc hm2).mono ?_
  rintro e w' ⟨rfl, n1, rfl⟩
  go_wp2_with fail
  refine (isFloor_c _ _ _ _ _ hm2).mono ?_
  rintro e w' ⟨rfl, n1, rfl⟩
  go_wp2_with fail
  refine (isFloor_c _ _ _ _ _ hm2).mono ?_
  rintro e w' ⟨rfl, n1, rfl⟩
  go_wp2_with fail
  refine (isLoad_c _ _).mono ?_
  rintro e w' ⟨rfl, n1, rfl⟩
  go_wp2_with fail
  go_quiet (fail)
  go_wp2_with fail
  go_ret2
  exact Ro.p (by rw [ht.out]; simp) (twB_t HT.out) (by first | exact ⟨0, rfl⟩ | (simp only [World.drewN_drewN]; exact ⟨_, rfl⟩) | exact ⟨_, rfl⟩)
end Go.Proofs.Ytaipbfagiiclnaa

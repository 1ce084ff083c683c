/- The laws of chapter 1: the walks. -/
import Derived.Test.YtfdfnpggnaaffaaT
import Derived.Test.YtfdfnpggnaaffaaD
namespace Go.Proofs.Ytfdfnpggnaaffaa
open Go.RowKit
set_option linter.unusedVariables false

theorem iFloorsValid_nil (w : World) : Calls Try.prog 14 #[.slice none 0 0] w (Ro w (.bool false)) := by
  go_enter Try.func14, Try.ntmps14
  go_wp2
  go_ret
  exact Ro.b rfl (by first | exact ⟨0, rfl⟩ | (simp only [World.drewN_drewN]; exact ⟨_, rfl⟩) | exact ⟨_, rfl⟩)
theorem iFloorAt_nil (x : Int) (w : World) : Calls Try.prog 18 #[.slice none 0 0, .int .i64 x] w (Ro w (.int .i64 (-1))) := by
  go_enter Try.func18, Try.ntmps18
  go_wp2_with fail
  refine (iFloorsValid_nil _).mono ?_
  rintro e w1 ⟨rfl, n, rfl⟩
  go_wp2_with fail
  go_ret
  exact Ro.i rfl (by first | exact ⟨0, rfl⟩ | (simp only [World.drewN_drewN]; exact ⟨_, rfl⟩) | exact ⟨_, rfl⟩)

theorem fv049 : FV [0, 4, 9] := ⟨by simp, by simp, rfl, fun i hi => by
  simp at hi; have : i = 0 ∨ i = 1 := by omega
  rcases this with rfl | rfl
  · decide
  · decide, by decide⟩
theorem alive_c (w : World) : Calls Try.prog 16 #[] w (LawOk w) := by
  have hI : Ints (w.alloc (.cells #[.int .i64 0, .int .i64 4, .int .i64 9] 3)) w.heap.size 0 [0, 4, 9] := fun i hi => by
    simp at hi
    have : i = 0 ∨ i = 1 ∨ i = 2 := by omega
    rcases this with rfl | rfl | rfl <;> rw [World.cell?_alloc_at _ _ _ _ rfl] <;> rfl
  have e : fa [0, 4, 9] 4 = 1 := fa_at fv049 1 (by simp) rfl
  have hb : Below w.heap.size w (w.alloc (.cells #[.int .i64 0, .int .i64 4, .int .i64 9] 3)) := (Below.refl _ _).alloc (Nat.le_refl _) _
  have K := iFloorAt_c w.heap.size 0 3 [0, 4, 9] 4 _ hI (by unfold maxLen; simp)
  rw [e] at K
  clear e hI
  go_enter Try.func16, Try.ntmps16
  go_wp2_with fail
  refine K.mono ?_
  rintro e w1 ⟨rfl, n, rfl⟩
  go_wp2_with fail
  refine (iFloorAt_nil _ _).mono ?_
  rintro e w1 ⟨rfl, n2, rfl⟩
  go_wp2_with fail
  go_ret
  exact LawOk.mk (below_next hb (below_drewN' _))

theorem FV.init {xs : List Int} (h : FV xs) (h2 : 2 ≤ xs.length) : FV (xs.take (xs.length - 1)) := by
  have hn : ∀ i, i < xs.length - 1 → nth (xs.take (xs.length - 1)) i = nth xs i := fun i hi => nth_take _ hi
  have hl : (xs.take (xs.length - 1)).length = xs.length - 1 := by simp
  refine ⟨by omega, by have := h.2.1; omega, by rw [hn 0 (by omega)]; exact h.2.2.1, fun i hi => ?_, ?_⟩
  · rw [hn i (by omega), hn (i+1) (by omega)]; exact h.2.2.2.1 i (by omega)
  · rw [hl, hn _ (by omega)]; exact h.le _ (by omega)
theorem FV.tail {xs : List Int} (h : FV xs) (h2 : 2 ≤ xs.length) : ¬ FV (xs.drop 1) := fun g => by
  have := g.2.2.1
  have e : nth (xs.drop 1) 0 = nth xs (0 + 1) := nth_drop _ _ _
  rw [e] at this
  have h0 := h.2.2.1
  have := h.2.2.2.1 0 (by omega)
  omega

set_option maxHeartbeats 400000 in
theorem FloorsValid_w (a : Option Addr) (n cap : Nat) (w : World) (hb : Byt w a n) (hn : n ≤ cap) (hcap : cap ≤ maxLen) :
    Calls Try.prog 3 #[.slice a n cap] w (LawOk w) := by
  have hcap' := hcap
  unfold maxLen at hcap'
  by_cases hbig : 1048576 < n
  · go_enter Try.func3, Try.ntmps3
    go_wp2
    go_ret
    exact LawOk.mk (Below.refl _ _)
  go_enter Try.func3, Try.ntmps3
  go_wp2_with fail
  refine (DrawFloorsValid_c a n cap _ hb hn hcap).mono ?_
  rintro e w1 ⟨b, off, c1, xs, rfl, hl, hcl, hcm, hx, hI, hB⟩
  have hm : xs.length ≤ maxLen := by unfold maxLen; omega
  have hcm' := hcm
  unfold maxLen at hcm'
  go_wp2_with fail
  refine (iFloorsValid_c _ _ _ _ _ hI hm).mono ?_
  rintro e w2 ⟨rfl, n2, rfl⟩
  go_wp2_with fail
  refine (sFloorsValid_c _ _ _ _ _ (hI.drewN _) hm).mono ?_
  rintro e w2 ⟨rfl, n3, rfl⟩
  have HB := below_next hB (below_drewN' (n2 + n3))
  by_cases hv : FV xs ∧ 2 ≤ xs.length
  · obtain ⟨hv, h2⟩ := hv
    have t1 := fvB_t hv
    have hbb : (fvB xs != fvB xs) = false := by simp
    have hlI : ¬ ((xs.length : Int) < 2) := by omega
    have k1 : Ints w1 b off (xs.take (xs.length - 1)) := fun i hi => by
      have hi2 : i < xs.length - 1 := by simp at hi; omega
      have := hI i (by omega)
      have e : nth (xs.take (xs.length - 1)) i = nth xs i := nth_take _ hi2
      rw [e]; exact this
    have k2 : Ints w1 b (off + 1) (xs.drop 1) := fun i hi => by
      have hi2 : i < xs.length - 1 := by simp at hi; omega
      have := hI (1 + i) (by omega)
      have e : nth (xs.drop 1) i = nth xs (1 + i) := nth_drop _ _ _
      rw [e]
      rw [← Nat.add_assoc] at this
      exact this
    have q1 := fvB_t (hv.init h2)
    have q2 := fvB_f (hv.tail h2)
    have K1 := fun m => iFloorsValid_c b off c1 (xs.take (xs.length - 1)) (w1.drewN m) (k1.drewN m) (by rw [List.length_take]; omega)
    have K2 := fun m => iFloorsValid_c b (off + 1) (c1 - 1) (xs.drop 1) (w1.drewN m) (k2.drewN m) (by rw [List.length_drop]; omega)
    have L1 : (xs.take (xs.length - 1)).length = xs.length - 1 := by simp
    have L2 : (xs.drop 1).length = xs.length - 1 := by simp
    rw [L1] at K1
    rw [L2] at K2
    clear k1 k2 L1 L2
    rw [q1] at K1
    rw [q2] at K2
    have HK1 : Hid _ := K1
    have HK2 : Hid _ := K2
    clear K1 K2 q1 q2 hbb
    have h2I : (2 : Int) ≤ (xs.length : Int) := by omega
    go_wp2_with fail
    refine (HK1.out _).mono ?_
    rintro e w2 ⟨rfl, n4, rfl⟩
    go_wp2_with fail
    refine (HK2.out _).mono ?_
    rintro e w2 ⟨rfl, n5, rfl⟩
    go_wp2_with fail
    go_ret
    exact LawOk.mk (below_next hB (below_drewN' _))
  · have HV : Hid _ := hv
    clear hv
    by_cases hv : FV xs
    · have t1 := fvB_t hv
      have hlI : ((xs.length : Int) < 2) := by have : ¬ (2 ≤ xs.length) := fun h => HV.out ⟨hv, h⟩; omega
      go_wp2_with fail
      refine (iFloorsValid_nil _).mono ?_
      rintro e w2 ⟨rfl, n4, rfl⟩
      go_wp2_with fail
      refine (alive_c _).mono ?_
      rintro e w3 ⟨rfl, hB3⟩
      go_wp2_with fail
      go_ret
      exact LawOk.mk (below_next (below_next hB (below_drewN' _)) hB3)
    · have t1 := fvB_f hv
      go_wp2_with fail
      refine (iFloorsValid_nil _).mono ?_
      rintro e w2 ⟨rfl, n4, rfl⟩
      go_wp2_with fail
      refine (alive_c _).mono ?_
      rintro e w3 ⟨rfl, hB3⟩
      go_wp2_with fail
      go_ret
      exact LawOk.mk (below_next (below_next hB (below_drewN' _)) hB3)

set_option maxHeartbeats 400000 in
theorem FloorAt_w (a : Option Addr) (n cap : Nat) (w : World) (hb : Byt w a n) (hn : n ≤ cap) (hcap : cap ≤ maxLen) :
    Calls Try.prog 4 #[.slice a n cap] w (LawOk w) := by
  have hcap' := hcap
  unfold maxLen at hcap'
  by_cases hbig : 1048576 < n
  · go_enter Try.func4, Try.ntmps4
    go_wp2
    go_ret
    exact LawOk.mk (Below.refl _ _)
  go_enter Try.func4, Try.ntmps4
  go_wp2_with fail
  refine (DrawFloorAt_c a n cap _ hb hn hcap).mono ?_
  rintro e w1 ⟨b, off, c1, xs, x, rfl, hl, hcl, hcm, hx, x0, x1, hI, hB⟩
  have hm : xs.length ≤ maxLen := by unfold maxLen; omega
  go_wp2_with fail
  refine (iFloorAt_c _ _ _ _ _ _ hI hm).mono ?_
  rintro e w2 ⟨rfl, n2, rfl⟩
  go_wp2_with fail
  refine (sFloorAt_c _ _ _ _ _ _ (hI.drewN _) hm).mono ?_
  rintro e w2 ⟨rfl, n3, rfl⟩
  go_wp2_with fail
  refine (sFloorsValid_c _ _ _ _ _ (hI.drewN _) hm).mono ?_
  rintro e w2 ⟨rfl, n4, rfl⟩
  by_cases hv : FV xs
  case neg =>
    have t1 := fvB_f hv
    have e : (fa xs x == -1) = true := by rw [fa_bad hv]; rfl
    go_wp2_with fail
    refine (alive_c _).mono ?_
    rintro e w3 ⟨rfl, hB3⟩
    go_wp2_with fail
    go_ret
    exact LawOk.mk (below_next (below_next hB (below_drewN' _)) hB3)
  have t1 := fvB_t hv
  have hx63 : xs.length ≤ 9 := hl
  go_wp2_with fail
  obtain ⟨wo, hwo⟩ : ∃ wo : World, wo = w1 := ⟨_, rfl⟩
  go_loopw [6] (fun v wr => ∃ k n : Nat, k ≤ xs.length ∧ v = .int .i64 k ∧ wr = wo.drewN n) (fun v _ => xs.length - (intOf v).toNat)
  case atStart => exact ⟨0, _, by omega, rfl, by rw [hwo]⟩
  case round =>
    obtain ⟨k, n, hk, rfl, hw⟩ := hrel
    subst hwo
    have HBw : Hid (Below w.heap.size w wr) := by rw [hw]; exact below_next hB (below_drewN' _)
    replace hI : Ints wr b off xs := by rw [hw]; exact hI.drewN _
    have HW : Hid _ := hw
    clear hw
    by_cases hlt : k < xs.length
    · have c1 : wr.cell? ⟨b, off + k, none⟩ = some (.int .i64 (nth xs k)) := hI k hlt
      have e1 : Hid (fa xs (nth xs k) = k) := fa_at hv k hlt rfl
      have e2 : ((fa xs x == -1) && (nth xs k == x)) = false := by
        by_cases g : nth xs k = x
        · rw [fa_at hv k hlt g]; simp
        · simp [g]
      have hkI : (k : Int) < (xs.length : Int) := by omega
      go_wp2_with fail
      refine (iFloorAt_c _ _ _ _ _ _ hI hm).mono ?_
      rw [e1.out]
      rintro e w2 ⟨rfl, n5, rfl⟩
      by_cases g1 : fa xs x = -1
      · have g2 : (fa xs x == -1) = true := by simp [g1]
        have g3 : (nth xs k == x) = false := by rw [g2] at e2; simpa using e2
        clear g1 e2
        go_wp2_with fail
        go_roundw
        case rel => exact ⟨k + 1, _, by omega, by go_num, (by rw [HW.out]; first | exact World.drewN_drewN .. | (simp only [World.drewN_drewN]; rfl) | (simp only [World.drewN_drewN]))⟩
        case measure => simp [intOf]; omega
      · have g2 : (fa xs x == -1) = false := by simp [g1]
        clear g1 e2
        go_wp2_with fail
        go_roundw
        case rel => exact ⟨k + 1, _, by omega, by go_num, (by rw [HW.out]; first | exact World.drewN_drewN .. | (simp only [World.drewN_drewN]; rfl) | (simp only [World.drewN_drewN]))⟩
        case measure => simp [intOf]; omega
    · obtain rfl : k = xs.length := by omega
      by_cases g1 : fa xs x = -1
      · have g2 : (fa xs x == -1) = true := by simp [g1]
        clear g1
        go_wp2_with fail
        go_ret
        exact LawOk.mk HBw.out
      · have g2 : (fa xs x == -1) = false := by simp [g1]
        have : ∃ j : Nat, j < xs.length ∧ fa xs x = j ∧ nth xs j = x := by
          rcases ix_cases xs x with ⟨j, hj, e, hn, hu⟩ | ⟨e, hn⟩
          · exact ⟨j, hj, (fa_ix hv).trans e, hn⟩
          · exact absurd ((fa_ix hv).trans e) g1
        obtain ⟨j, hj, ej, hn⟩ := this
        have c1 : wr.cell? ⟨b, off + j, none⟩ = some (.int .i64 (nth xs j)) := hI j hj
        have hjI : (j : Int) < (xs.length : Int) := by omega
        have g3 : (nth xs j == x) = true := by simp [hn]
        clear g1 hn
        go_wp2_with fail
        go_ret
        exact LawOk.mk HBw.out
end Go.Proofs.Ytfdfnpggnaaffaa

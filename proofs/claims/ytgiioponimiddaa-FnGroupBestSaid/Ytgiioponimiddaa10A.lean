/- The model's VisitsOk, TourWay. -/
import Derived.Test.YtgiioponimiddaaD
import Derived.Test.YtgiioponimiddaaI
import Derived.Test.Ytgiioponimiddaa10P
namespace Go.Proofs.Ytgiioponimiddaa
open Go.RowKit
set_option linter.unusedVariables false
set_option linter.unusedSimpArgs false
set_option maxRecDepth 100000

theorem Sl.at {w : World} {a : Option Addr} {ys : List Int} (h : Sl w a ys) {k : Nat} (hk : k < ys.length) : ∃ b off, a = some ⟨b, off, none⟩ ∧ Ints w b off ys := by
  rcases h with rfl | h
  · simp at hk
  · exact h
theorem Sl.cell {w : World} {b o : Nat} {ys : List Int} (h : Sl w (some ⟨b, o, none⟩) ys) {k : Nat} (hk : k < ys.length) : w.cell? ⟨b, o + k, none⟩ = some (.int .i64 (nth ys k)) := by
  obtain ⟨b', o', e, hI⟩ := Sl.at h hk
  simp only [Option.some.injEq, Addr.mk.injEq, and_true] at e
  obtain ⟨rfl, rfl⟩ := e
  exact hI k hk
set_option maxHeartbeats 2000000 in
theorem sVisitsOk_c (b off cap : Nat) (xs : List Int) (a2 : Option Addr) (n2 c2 : Nat) (ys : List Int) (w : World) (hc : Ints w b off xs) (hs : Sl w a2 ys) (hl : ys.length = n2) (hm : xs.length ≤ 1048576) (hm2 : n2 ≤ 1048577) :
    Calls Try.prog 65 #[.slice (some ⟨b, off, none⟩) xs.length cap, .slice a2 n2 c2] w (Mk w (.bool (voB xs ys))) := by
  have HL := Lib.hid hl
  clear hl
  refine at_base fun wn hwn => ?_
  have T := Lib.hid (show Below w.heap.size w wn from by rw [hwn]; exact Below.refl _ _)
  rw [← hwn] at hc
  have X := Lib.hid (show Ints wn b off xs from hc)
  clear hc
  rw [← hwn] at hs
  have Y := Lib.hid (show Sl wn a2 ys from hs)
  clear hs
  clear hwn
  go_enter Try.func65, Try.ntmps65
  go_wp2_with fail
  go_loopw [5] (fun v wr => ∃ k : Nat, k ≤ n2 ∧ v = .int .i64 k ∧ (∀ i, i < k → VOk xs.length ys i) ∧ Below w.heap.size w wr ∧ Ints wr b off xs ∧ Sl wr a2 ys) (fun v _ => n2 - (intOf v).toNat)
  case atStart => exact ⟨0, by omega, rfl, (fun i hi => by omega), T.out, X.out, Y.out⟩
  case' round =>
    clear T X Y
    obtain ⟨k, hk, rfl, hall, h9T, h9X, h9Y⟩ := hrel
    obtain ⟨wn, hwq⟩ : ∃ w0 : World, w0 = wr := ⟨_, rfl⟩
    rw [← hwq] at h9T h9X h9Y ⊢
    clear hwq
    have T := Lib.hid h9T
    have X := Lib.hid h9X
    have Y := Lib.hid h9Y
    clear h9T h9X h9Y
    have HA := Lib.hid hall
    clear hall
    by_cases hlt : k < n2
    case neg =>
      obtain rfl : k = n2 := by omega
      have E := Lib.hid (show voB xs ys = fvB xs from by
        by_cases h : FV xs
        · rw [fvB_t h, voB_t ⟨h, fun i hi => HA.out i (by rw [← HL.out]; exact hi)⟩]
        · rw [fvB_f h, voB_f fun g => h g.1])
      go_wp2_with fail
      refine Calls.mono (sFloorsValid_c b off cap xs _ X.out (by unfold maxLen; omega)) ?_
      intro e wn hh
      obtain ⟨he, hb⟩ := (by first | exact hh | exact Ro.mk hh | exact St.mk hh | exact LawOk.mk' hh : Mk _ _ e wn)
      subst he
      have Tn : Hid (Below w.heap.size w wn) := below_next T.out hb
      have Xn : Hid _ := Ints.below X.out hb
      have Yn : Hid _ := Sl.below Y.out hb
      clear hb hh
      clear T X Y
      have T := Tn
      have X := Xn
      have Y := Yn
      clear Tn Xn Yn
      go_wp2_with fail
      go_ret
      exact Mk.b E.out T.out
    obtain ⟨b2, o2, rfl, hI⟩ := Sl.at Y.out (k := k) (by rw [HL.out]; exact hlt)
    have y1 := hI k (by rw [HL.out]; exact hlt)
    have hki : (k : Int) < n2 := by omega
    have YI := Lib.hid hI
    clear hI
    go_wp2_with fail
    by_cases hr : 0 ≤ nth ys k ∧ nth ys k ≤ (xs.length : Int) - 1
    case neg =>
      have t1 := inB_f hr
      have E := Lib.hid (voB_f (xs := xs) (ys := ys) fun g => hr (by have := g.2 k (by rw [HL.out]; exact hlt); exact ⟨this.1, by have := this.2.1; omega⟩))
      clear y1 hr
      refine wp_region_quiet (C := fun w' => Below (World.heap (wn)).size (wn) w') (by kernel_rfl) (by kernel_rfl) (by first | exact ⟨rfl, rfl, rfl, Nat.le_refl _, fun _ _ => rfl⟩ | exact Below.dw (by repeat (first | exact Below.refl _ _ | refine Below.al ?_ _ | refine Below.dr ?_ _ | refine Below.dw ?_ | refine Below.st ?_ (by first | exact Nat.le_refl _ | exact Nat.le_add_right _ _ | (simp; omega)) _ | (refine below_next ?_ (by assumption))))) ?_
      simp only []
      repeat (go_big_quiet_step (first | (intro _; with_reducible exact rfl) | (intro hC; go_at_call 57; have y1 := cell_below (YI.out k (by rw [HL.out]; exact hlt)) hC; (refine Calls.mono (l1In_c _ _ _ _) ?_); (first | (rintro e wx ⟨rfl, hb⟩; exact ⟨rfl, below_next hC hb⟩) | (rintro e wx ⟨rfl, n, rfl⟩; exact ⟨rfl, Below.dr hC n⟩) | (rintro e wx ⟨rfl, rfl⟩; exact ⟨rfl, hC⟩))) | (intro hC; have y1 := cell_below (YI.out k (by rw [HL.out]; exact hlt)) hC; go_simp; rfl)))
      refine wpQuiet_nil ?_
      intro wq hq
      have Tn := Lib.hid (below_next T.out hq)
      have Xn := Lib.hid (Ints.below X.out hq)
      have Yn := Lib.hid (Sl.below Y.out hq)
      clear hq
      clear T X Y
      have T := Tn
      have X := Xn
      have Y := Yn
      clear Tn Xn Yn
      obtain ⟨wn, hwq⟩ : ∃ w0, w0 = wq := ⟨_, rfl⟩
      subst hwq
      go_wp2_with fail
      go_ret
      exact Mk.b E.out T.out
    have t1 := inB_t hr
    by_cases hk0 : k = 0
    case pos =>
      subst hk0
      have HR := Lib.hid hr
      have hz0 : (0 : Int) < n2 := by omega
      have YZ := Lib.hid (show wn.cell? ⟨b2, o2, none⟩ = some (.int .i64 (nth ys 0)) from y1)
      clear y1 hr hki
      refine wp_region_quiet (C := fun w' => Below (World.heap (wn)).size (wn) w') (by kernel_rfl) (by kernel_rfl) (by first | exact ⟨rfl, rfl, rfl, Nat.le_refl _, fun _ _ => rfl⟩ | exact Below.dw (by repeat (first | exact Below.refl _ _ | refine Below.al ?_ _ | refine Below.dr ?_ _ | refine Below.dw ?_ | refine Below.st ?_ (by first | exact Nat.le_refl _ | exact Nat.le_add_right _ _ | (simp; omega)) _ | (refine below_next ?_ (by assumption))))) ?_
      simp only []
      repeat (go_big_quiet_step (first | (intro _; with_reducible exact rfl) | (intro hC; go_at_call 57; have y1 := cell_below YZ.out hC; (refine Calls.mono (l1In_c _ _ _ _) ?_); (first | (rintro e wx ⟨rfl, hb⟩; exact ⟨rfl, below_next hC hb⟩) | (rintro e wx ⟨rfl, n, rfl⟩; exact ⟨rfl, Below.dr hC n⟩) | (rintro e wx ⟨rfl, rfl⟩; exact ⟨rfl, hC⟩))) | (intro hC; have y1 := cell_below YZ.out hC; go_simp; rfl)))
      refine wpQuiet_nil ?_
      intro wq hq
      have Tn := Lib.hid (below_next T.out hq)
      have Xn := Lib.hid (Ints.below X.out hq)
      have Yn := Lib.hid (Sl.below Y.out hq)
      clear hq
      clear T X Y
      have T := Tn
      have X := Xn
      have Y := Yn
      clear Tn Xn Yn
      obtain ⟨wn, hwq⟩ : ∃ w0, w0 = wq := ⟨_, rfl⟩
      subst hwq
      have HN := Lib.hid (show ∀ i, i < 1 → VOk xs.length ys i from fun i hi => by
        obtain rfl : i = 0 := by omega
        exact ⟨HR.out.1, by have := HR.out.2; omega, fun h => by omega⟩)
      go_wp2_with fail
      go_roundw
      case rel => exact ⟨1, by omega, by go_num, HN.out, T.out, X.out, Y.out⟩
      case measure => first | (simp [intOf]; done) | (simp [intOf]; omega) | omega
    have hk1 : (0 : Int) < k := by omega
    have hkn : 0 < k := by omega
    have HR := Lib.hid hr
    clear hr
    by_cases ht : nth ys (k - 1) < nth ys k
    case neg =>
      have t2 : nth ys k ≤ nth ys (k - 1) := by omega
      have E := Lib.hid (voB_f (xs := xs) (ys := ys) fun g => ht ((g.2 k (by rw [HL.out]; exact hlt)).2.2 (by omega)))
      clear y1 ht
      refine wp_region_quiet (C := fun w' => Below (World.heap (wn)).size (wn) w') (by kernel_rfl) (by kernel_rfl) (by first | exact ⟨rfl, rfl, rfl, Nat.le_refl _, fun _ _ => rfl⟩ | exact Below.dw (by repeat (first | exact Below.refl _ _ | refine Below.al ?_ _ | refine Below.dr ?_ _ | refine Below.dw ?_ | refine Below.st ?_ (by first | exact Nat.le_refl _ | exact Nat.le_add_right _ _ | (simp; omega)) _ | (refine below_next ?_ (by assumption))))) ?_
      simp only []
      repeat (go_big_quiet_step (first | (intro _; with_reducible exact rfl) | (intro hC; go_at_call 57; have y1 := cell_below (YI.out k (by rw [HL.out]; exact hlt)) hC; have y2 := cell_below (YI.out (k - 1) (by rw [HL.out]; omega)) hC; (refine Calls.mono (l1In_c _ _ _ _) ?_); (first | (rintro e wx ⟨rfl, hb⟩; exact ⟨rfl, below_next hC hb⟩) | (rintro e wx ⟨rfl, n, rfl⟩; exact ⟨rfl, Below.dr hC n⟩) | (rintro e wx ⟨rfl, rfl⟩; exact ⟨rfl, hC⟩))) | (intro hC; have y1 := cell_below (YI.out k (by rw [HL.out]; exact hlt)) hC; have y2 := cell_below (YI.out (k - 1) (by rw [HL.out]; omega)) hC; go_simp; rfl)))
      refine wpQuiet_nil ?_
      intro wq hq
      have Tn := Lib.hid (below_next T.out hq)
      have Xn := Lib.hid (Ints.below X.out hq)
      have Yn := Lib.hid (Sl.below Y.out hq)
      clear hq
      clear T X Y
      have T := Tn
      have X := Xn
      have Y := Yn
      clear Tn Xn Yn
      obtain ⟨wn, hwq⟩ : ∃ w0, w0 = wq := ⟨_, rfl⟩
      subst hwq
      go_wp2_with fail
      go_ret
      exact Mk.b E.out T.out
    have t2 : ¬ nth ys k ≤ nth ys (k - 1) := by omega
    have HT := Lib.hid ht
    clear y1 ht
    refine wp_region_quiet (C := fun w' => Below (World.heap (wn)).size (wn) w') (by kernel_rfl) (by kernel_rfl) (by first | exact ⟨rfl, rfl, rfl, Nat.le_refl _, fun _ _ => rfl⟩ | exact Below.dw (by repeat (first | exact Below.refl _ _ | refine Below.al ?_ _ | refine Below.dr ?_ _ | refine Below.dw ?_ | refine Below.st ?_ (by first | exact Nat.le_refl _ | exact Nat.le_add_right _ _ | (simp; omega)) _ | (refine below_next ?_ (by assumption))))) ?_
    simp only []
    repeat (go_big_quiet_step (first | (intro _; with_reducible exact rfl) | (intro hC; go_at_call 57; have y1 := cell_below (YI.out k (by rw [HL.out]; exact hlt)) hC; have y2 := cell_below (YI.out (k - 1) (by rw [HL.out]; omega)) hC; (refine Calls.mono (l1In_c _ _ _ _) ?_); (first | (rintro e wx ⟨rfl, hb⟩; exact ⟨rfl, below_next hC hb⟩) | (rintro e wx ⟨rfl, n, rfl⟩; exact ⟨rfl, Below.dr hC n⟩) | (rintro e wx ⟨rfl, rfl⟩; exact ⟨rfl, hC⟩))) | (intro hC; have y1 := cell_below (YI.out k (by rw [HL.out]; exact hlt)) hC; have y2 := cell_below (YI.out (k - 1) (by rw [HL.out]; omega)) hC; go_simp; rfl)))
    refine wpQuiet_nil ?_
    intro wq hq
    have Tn := Lib.hid (below_next T.out hq)
    have Xn := Lib.hid (Ints.below X.out hq)
    have Yn := Lib.hid (Sl.below Y.out hq)
    clear hq
    clear T X Y
    have T := Tn
    have X := Xn
    have Y := Yn
    clear Tn Xn Yn
    obtain ⟨wn, hwq⟩ : ∃ w0, w0 = wq := ⟨_, rfl⟩
    subst hwq
    have HN := Lib.hid (show ∀ i, i < k + 1 → VOk xs.length ys i from fun i hi => by
      by_cases e : i = k
      · subst e; exact ⟨HR.out.1, by have := HR.out.2; omega, fun _ => HT.out⟩
      · exact HA.out i (by omega))
    go_wp2_with fail
    go_roundw
    case rel => exact ⟨k + 1, by omega, by go_num, HN.out, T.out, X.out, Y.out⟩
    case measure => first | (simp [intOf]; done) | (simp [intOf]; omega) | omega
set_option maxHeartbeats 2000000 in
theorem sTourWay_c (b off cap : Nat) (xs : List Int) (x : Int) (a2 : Option Addr) (n2 c2 : Nat) (ys : List Int) (w : World) (hc : Ints w b off xs) (hs : Sl w a2 ys) (hl : ys.length = n2) (hm : xs.length ≤ 1048576) (hm2 : n2 ≤ 1048577) :
    Calls Try.prog 66 #[.slice (some ⟨b, off, none⟩) xs.length cap, .int .i64 x, .slice a2 n2 c2] w (Mk w (.int .i64 (tw xs x ys))) := by
  have HL := Lib.hid hl
  have hmm : xs.length ≤ maxLen := by unfold maxLen; omega
  clear hl
  obtain ⟨F, hF⟩ : ∃ F, fw xs x x = F := ⟨_, rfl⟩
  have K0 := fun w' (h : Ints w' b off xs) => sFloorWay_c b off cap xs x x w' h hmm
  rw [hF] at K0
  have HK0 := Lib.hid K0
  have hFb := fw_bd xs x x
  rw [hF] at hFb
  have htw : tw xs x ys = if F < 0 then -1 else twk xs x ys 0 := by unfold tw; rw [hF]
  have HTW := Lib.hid htw
  clear K0 hF htw
  refine at_base fun wn hwn => ?_
  have T := Lib.hid (show Below w.heap.size w wn from by rw [hwn]; exact Below.refl _ _)
  rw [← hwn] at hc
  have X := Lib.hid (show Ints wn b off xs from hc)
  clear hc
  rw [← hwn] at hs
  have Y := Lib.hid (show Sl wn a2 ys from hs)
  clear hs
  clear hwn
  go_enter Try.func66, Try.ntmps66
  go_wp2_with fail
  refine Calls.mono (HK0.out _ X.out) ?_
  intro e wn hh
  obtain ⟨he, hb⟩ := (by first | exact hh | exact Ro.mk hh | exact St.mk hh | exact LawOk.mk' hh : Mk _ _ e wn)
  subst he
  have Tn : Hid (Below w.heap.size w wn) := below_next T.out hb
  have Xn : Hid _ := Ints.below X.out hb
  have Yn : Hid _ := Sl.below Y.out hb
  clear hb hh
  clear T X Y
  have T := Tn
  have X := Xn
  have Y := Yn
  clear Tn Xn Yn
  by_cases hn : F < 0
  case pos =>
    have E := Lib.hid (show tw xs x ys = -1 from by rw [HTW.out, if_pos hn])
    go_wp2_with fail
    go_ret
    exact Mk.i E.out T.out
  have hn2 : 0 ≤ F := by omega
  go_wp2_with fail
  go_loopw [1, 7, 8] (fun q s v wr => ∃ (k : Nat) (a S : Int), k ≤ n2 ∧ q = .int .i64 a ∧ s = .int .i64 S ∧ v = .int .i64 k ∧ (0 ≤ S ∧ S ≤ 60 * k) ∧ (twk xs a (ys.drop k) S = tw xs x ys) ∧ Below w.heap.size w wr ∧ Ints wr b off xs ∧ Sl wr a2 ys) (fun q s v _ => n2 - (intOf v).toNat)
  case atStart => exact ⟨0, x, 0, by omega, rfl, rfl, rfl, by omega, by rw [HTW.out, if_neg (by omega)]; rfl, T.out, X.out, Y.out⟩
  case' round =>
    clear T X Y
    obtain ⟨k, a, S, hk, rfl, rfl, rfl, hS, hR, h9T, h9X, h9Y⟩ := hrel
    obtain ⟨wn, hwq⟩ : ∃ w0 : World, w0 = wr := ⟨_, rfl⟩
    rw [← hwq] at h9T h9X h9Y ⊢
    clear hwq
    have T := Lib.hid h9T
    have X := Lib.hid h9X
    have Y := Lib.hid h9Y
    clear h9T h9X h9Y
    have HR := Lib.hid hR
    clear hR
    obtain ⟨hS0, hS1⟩ := hS
    by_cases hlt : k < n2
    case neg =>
      obtain rfl : k = n2 := by omega
      have E := Lib.hid (show tw xs x ys = S from by
        rw [← HR.out, List.drop_eq_nil_of_le (by rw [HL.out]; exact Nat.le_refl _)]; rfl)
      go_wp2_with fail
      go_ret
      exact Mk.i E.out T.out
    obtain ⟨b2, o2, rfl, hI⟩ := Sl.at Y.out (k := k) (by rw [HL.out]; exact hlt)
    have y1 := hI k (by rw [HL.out]; exact hlt)
    have hki : (k : Int) < n2 := by omega
    obtain ⟨v, hv⟩ : ∃ v, nth ys k = v := ⟨_, rfl⟩
    have hd : ys.drop k = v :: ys.drop (k + 1) := by
      have hk' : k < ys.length := by rw [HL.out]; exact hlt
      rw [List.drop_eq_getElem_cons hk', ← hv, nth_eq hk']
    rw [hv] at y1
    have HV := Lib.hid hv
    obtain ⟨D, hD⟩ : ∃ D, fw xs a v = D := ⟨_, rfl⟩
    have hDb := fw_bd xs a v
    have E0 := Lib.hid (show tw xs x ys = if D < 0 then -1 else twk xs v (ys.drop (k + 1)) (S + D) from by rw [← HR.out, hd, ← hD]; rfl)
    have K1 := fun w' (h : Ints w' b off xs) => sFloorWay_c b off cap xs a v w' h hmm
    rw [hD] at K1 hDb
    have HK1 := Lib.hid K1
    clear K1 hD hv hd hI HR
    go_wp2_with fail
    refine Calls.mono (HK1.out _ X.out) ?_
    intro e wn hh
    obtain ⟨he, hb⟩ := (by first | exact hh | exact Ro.mk hh | exact St.mk hh | exact LawOk.mk' hh : Mk _ _ e wn)
    subst he
    have Tn : Hid (Below w.heap.size w wn) := below_next T.out hb
    have Xn : Hid _ := Ints.below X.out hb
    have Yn : Hid _ := Sl.below Y.out hb
    clear hb hh
    clear T X Y
    have T := Tn
    have X := Xn
    have Y := Yn
    clear Tn Xn Yn
    by_cases hD0 : D < 0
    case pos =>
      have E := Lib.hid (show tw xs x ys = -1 from by rw [E0.out, if_pos hD0])
      go_wp2_with fail
      go_ret
      exact Mk.i E.out T.out
    have E := Lib.hid (show twk xs v (ys.drop (k + 1)) (S + D) = tw xs x ys from by rw [E0.out, if_neg hD0])
    have hD1 : 0 ≤ D := by omega
    have hSD : -9223372036854775808 ≤ S + D ∧ S + D ≤ 9223372036854775807 := by omega
    clear E0 y1
    have y1 := Sl.cell Y.out (k := k) (by rw [HL.out]; exact hlt)
    rw [HV.out] at y1
    go_wp2_with fail
    go_roundw
    case rel => exact ⟨k + 1, v, S + D, by omega, rfl, by go_num, by go_num, by omega, E.out, T.out, X.out, Y.out⟩
    case measure => first | (simp [intOf]; done) | (simp [intOf]; omega) | omega
end Go.Proofs.Ytgiioponimiddaa

/- The program's VisitsOk, TourWay, canVisit; the mathematics of its ShortTour. -/
import Derived.Test.Ytgiioponimiddaa10H
namespace Go.Proofs.Ytgiioponimiddaa
open Go.RowKit
set_option linter.unusedVariables false
set_option linter.unusedSimpArgs false
set_option maxRecDepth 100000

set_option maxHeartbeats 2000000 in
theorem iVisitsOk_c (b off cap : Nat) (xs : List Int) (a2 : Option Addr) (n2 c2 : Nat) (ys : List Int) (w : World) (hc : Ints w b off xs) (hs : Sl w a2 ys) (hl : ys.length = n2) (hm : xs.length ≤ 1048576) (hm2 : n2 ≤ 1048577) :
    Calls Try.prog 70 #[.slice (some ⟨b, off, none⟩) xs.length cap, .slice a2 n2 c2] w (Mk w (.bool (voB xs ys))) := by
  have HL := Lib.hid hl
  have hmm : xs.length ≤ maxLen := by unfold maxLen; omega
  clear hl
  by_cases hv : FV xs
  case neg =>
    have t1 := fvB_f hv
    have E := Lib.hid (voB_f (xs := xs) (ys := ys) fun g => hv g.1)
    clear hv
    refine at_base fun wn hwn => ?_
    have T := Lib.hid (show Below w.heap.size w wn from by rw [hwn]; exact Below.refl _ _)
    rw [← hwn] at hc
    have X := Lib.hid (show Ints wn b off xs from hc)
    clear hc
    rw [← hwn] at hs
    have Y := Lib.hid (show Sl wn a2 ys from hs)
    clear hs
    clear hwn
    go_enter Try.func70, Try.ntmps70
    go_wp2_with fail
    refine Calls.mono (iFloorsValid_c b off cap xs _ X.out hmm) ?_
    intro e wn hh
    obtain ⟨he, hb⟩ := (by first | exact hh | exact Ro.mk hh | exact St.mk hh | exact LawOk.mk' hh : Mk _ _ e wn)
    subst he
    have Tn : Hid (Below w.heap.size w wn) := below_next T.out hb
    have Xn : Hid _ := Ints.below X.out hb
    have Yn : Hid _ := Sl.below Y.out hb
    clear hb hh
    clear T X Y
    have T := Tn
    have X := Xn
    have Y := Yn
    clear Tn Xn Yn
    go_wp2_with fail
    go_ret
    exact Mk.b E.out T.out
  have t1 := fvB_t hv
  have HV := Lib.hid hv
  clear hv
  refine at_base fun wn hwn => ?_
  have T := Lib.hid (show Below w.heap.size w wn from by rw [hwn]; exact Below.refl _ _)
  rw [← hwn] at hc
  have X := Lib.hid (show Ints wn b off xs from hc)
  clear hc
  rw [← hwn] at hs
  have Y := Lib.hid (show Sl wn a2 ys from hs)
  clear hs
  clear hwn
  go_enter Try.func70, Try.ntmps70
  go_wp2_with fail
  refine Calls.mono (iFloorsValid_c b off cap xs _ X.out hmm) ?_
  intro e wn hh
  obtain ⟨he, hb⟩ := (by first | exact hh | exact Ro.mk hh | exact St.mk hh | exact LawOk.mk' hh : Mk _ _ e wn)
  subst he
  have Tn : Hid (Below w.heap.size w wn) := below_next T.out hb
  have Xn : Hid _ := Ints.below X.out hb
  have Yn : Hid _ := Sl.below Y.out hb
  clear hb hh
  clear T X Y
  have T := Tn
  have X := Xn
  have Y := Yn
  clear Tn Xn Yn
  go_wp2_with fail
  go_loopw [12] (fun v wr => ∃ k : Nat, k ≤ n2 ∧ v = .int .i64 k ∧ (∀ i, i < k → VOk xs.length ys i) ∧ Below w.heap.size w wr ∧ Ints wr b off xs ∧ Sl wr a2 ys) (fun v _ => n2 - (intOf v).toNat)
  case atStart => exact ⟨0, by omega, rfl, (fun i hi => by omega), T.out, X.out, Y.out⟩
  case' round =>
    clear T X Y
    obtain ⟨k, hk, rfl, hall, h9T, h9X, h9Y⟩ := hrel
    obtain ⟨wn, hwq⟩ : ∃ w0 : World, w0 = wr := ⟨_, rfl⟩
    rw [← hwq] at h9T h9X h9Y ⊢
    clear hwq
    have T := Lib.hid h9T
    have X := Lib.hid h9X
    have Y := Lib.hid h9Y
    clear h9T h9X h9Y
    have HA := Lib.hid hall
    clear hall
    by_cases hlt : k < n2
    case neg =>
      obtain rfl : k = n2 := by omega
      have E := Lib.hid (show voB xs ys = true from voB_t ⟨HV.out, fun i hi => HA.out i (by rw [← HL.out]; exact hi)⟩)
      go_wp2_with fail
      go_ret
      exact Mk.b E.out T.out
    obtain ⟨b2, o2, rfl, hI⟩ := Sl.at Y.out (k := k) (by rw [HL.out]; exact hlt)
    have y1 := hI k (by rw [HL.out]; exact hlt)
    have hki : (k : Int) < n2 := by omega
    have YI := Lib.hid hI
    clear hI
    by_cases hr : okF xs (nth ys k)
    case neg =>
      have t2 := okB_f hr
      have E := Lib.hid (voB_f (xs := xs) (ys := ys) fun g => hr (by have := g.2 k (by rw [HL.out]; exact hlt); exact ⟨this.1, by have := this.2.1; omega⟩))
      clear hr
      go_wp2_with fail
      refine Calls.mono (isFloor_c _ xs cap _ _ hmm) ?_
      intro e wn hh
      obtain ⟨he, hb⟩ := (by first | exact hh | exact Ro.mk hh | exact St.mk hh | exact LawOk.mk' hh : Mk _ _ e wn)
      subst he
      have Tn : Hid (Below w.heap.size w wn) := below_next T.out hb
      have Xn : Hid _ := Ints.below X.out hb
      have Yn : Hid _ := Sl.below Y.out hb
      clear hb hh
      clear T X Y
      have T := Tn
      have X := Xn
      have Y := Yn
      clear Tn Xn Yn
      go_wp2_with fail
      go_ret
      exact Mk.b E.out T.out
    have t2 := okB_t hr
    have HR := Lib.hid hr
    clear hr
    by_cases hk0 : k = 0
    case pos =>
      subst hk0
      have HN := Lib.hid (show ∀ i, i < 1 → VOk xs.length ys i from fun i hi => by
        obtain rfl : i = 0 := by omega
        exact ⟨HR.out.1, HR.out.2, fun h => by omega⟩)
      have hz0 : (0 : Int) < n2 := by omega
      rw [Nat.add_zero] at y1
      clear hki
      go_wp2_with fail
      refine Calls.mono (isFloor_c _ xs cap _ _ hmm) ?_
      intro e wn hh
      obtain ⟨he, hb⟩ := (by first | exact hh | exact Ro.mk hh | exact St.mk hh | exact LawOk.mk' hh : Mk _ _ e wn)
      subst he
      have Tn : Hid (Below w.heap.size w wn) := below_next T.out hb
      have Xn : Hid _ := Ints.below X.out hb
      have Yn : Hid _ := Sl.below Y.out hb
      clear hb hh
      clear T X Y
      have T := Tn
      have X := Xn
      have Y := Yn
      clear Tn Xn Yn
      clear y1
      go_wp2_with fail
      go_roundw
      case rel => exact ⟨1, by omega, by go_num, HN.out, T.out, X.out, Y.out⟩
      case measure => first | (simp [intOf]; done) | (simp [intOf]; omega) | omega
    have hk1 : (k : Int) > 0 := by omega
    have hkn : 0 < k := by omega
    go_wp2_with fail
    refine Calls.mono (isFloor_c _ xs cap _ _ hmm) ?_
    intro e wn hh
    obtain ⟨he, hb⟩ := (by first | exact hh | exact Ro.mk hh | exact St.mk hh | exact LawOk.mk' hh : Mk _ _ e wn)
    subst he
    have Tn : Hid (Below w.heap.size w wn) := below_next T.out hb
    have Xn : Hid _ := Ints.below X.out hb
    have Yn : Hid _ := Sl.below Y.out hb
    clear hb hh
    clear T X Y
    have T := Tn
    have X := Xn
    have Y := Yn
    clear Tn Xn Yn
    clear y1
    have y2 := Sl.cell Y.out (k := k - 1) (by rw [HL.out]; omega)
    by_cases ht : nth ys (k - 1) < nth ys k
    case neg =>
      have t3 : nth ys k ≤ nth ys (k - 1) := by omega
      have E := Lib.hid (voB_f (xs := xs) (ys := ys) fun g => ht ((g.2 k (by rw [HL.out]; exact hlt)).2.2 (by omega)))
      clear ht
      go_wp2_with fail
      go_ret
      exact Mk.b E.out T.out
    have t3 : ¬ nth ys k ≤ nth ys (k - 1) := by omega
    have HT := Lib.hid ht
    clear ht
    have HN := Lib.hid (show ∀ i, i < k + 1 → VOk xs.length ys i from fun i hi => by
      by_cases e : i = k
      · subst e; exact ⟨HR.out.1, HR.out.2, fun _ => HT.out⟩
      · exact HA.out i (by omega))
    go_wp2_with fail
    go_roundw
    case rel => exact ⟨k + 1, by omega, by go_num, HN.out, T.out, X.out, Y.out⟩
    case measure => first | (simp [intOf]; done) | (simp [intOf]; omega) | omega
set_option maxHeartbeats 2000000 in
theorem iTourWay_c (b off cap : Nat) (xs : List Int) (x : Int) (a2 : Option Addr) (n2 c2 : Nat) (ys : List Int) (w : World) (hc : Ints w b off xs) (hs : Sl w a2 ys) (hl : ys.length = n2) (hm : xs.length ≤ 1048576) (hm2 : n2 ≤ 1048577) :
    Calls Try.prog 61 #[.slice (some ⟨b, off, none⟩) xs.length cap, .int .i64 x, .slice a2 n2 c2] w (Mk w (.int .i64 (tw xs x ys))) := by
  have HL := Lib.hid hl
  have hmm : xs.length ≤ maxLen := by unfold maxLen; omega
  clear hl
  by_cases hv : FV xs
  case neg =>
    have t1 := fvB_f hv
    have E := Lib.hid (tw_bad (a := x) (ys := ys) fun g => hv g.1)
    clear hv
    refine at_base fun wn hwn => ?_
    have T := Lib.hid (show Below w.heap.size w wn from by rw [hwn]; exact Below.refl _ _)
    rw [← hwn] at hc
    have X := Lib.hid (show Ints wn b off xs from hc)
    clear hc
    rw [← hwn] at hs
    have Y := Lib.hid (show Sl wn a2 ys from hs)
    clear hs
    clear hwn
    go_enter Try.func61, Try.ntmps61
    go_wp2_with fail
    refine Calls.mono (iFloorsValid_c b off cap xs _ X.out hmm) ?_
    intro e wn hh
    obtain ⟨he, hb⟩ := (by first | exact hh | exact Ro.mk hh | exact St.mk hh | exact LawOk.mk' hh : Mk _ _ e wn)
    subst he
    have Tn : Hid (Below w.heap.size w wn) := below_next T.out hb
    have Xn : Hid _ := Ints.below X.out hb
    have Yn : Hid _ := Sl.below Y.out hb
    clear hb hh
    clear T X Y
    have T := Tn
    have X := Xn
    have Y := Yn
    clear Tn Xn Yn
    go_wp2_with fail
    go_ret
    exact Mk.i E.out T.out
  have t1 := fvB_t hv
  by_cases hr : okF xs x
  case neg =>
    have t2 := okB_f hr
    have E := Lib.hid (tw_bad (ys := ys) fun g => hr g.2.1)
    clear hv hr
    refine at_base fun wn hwn => ?_
    have T := Lib.hid (show Below w.heap.size w wn from by rw [hwn]; exact Below.refl _ _)
    rw [← hwn] at hc
    have X := Lib.hid (show Ints wn b off xs from hc)
    clear hc
    rw [← hwn] at hs
    have Y := Lib.hid (show Sl wn a2 ys from hs)
    clear hs
    clear hwn
    go_enter Try.func61, Try.ntmps61
    go_wp2_with fail
    refine Calls.mono (iFloorsValid_c b off cap xs _ X.out hmm) ?_
    intro e wn hh
    obtain ⟨he, hb⟩ := (by first | exact hh | exact Ro.mk hh | exact St.mk hh | exact LawOk.mk' hh : Mk _ _ e wn)
    subst he
    have Tn : Hid (Below w.heap.size w wn) := below_next T.out hb
    have Xn : Hid _ := Ints.below X.out hb
    have Yn : Hid _ := Sl.below Y.out hb
    clear hb hh
    clear T X Y
    have T := Tn
    have X := Xn
    have Y := Yn
    clear Tn Xn Yn
    go_wp2_with fail
    refine Calls.mono (isFloor_c _ xs cap _ _ hmm) ?_
    intro e wn hh
    obtain ⟨he, hb⟩ := (by first | exact hh | exact Ro.mk hh | exact St.mk hh | exact LawOk.mk' hh : Mk _ _ e wn)
    subst he
    have Tn : Hid (Below w.heap.size w wn) := below_next T.out hb
    have Xn : Hid _ := Ints.below X.out hb
    have Yn : Hid _ := Sl.below Y.out hb
    clear hb hh
    clear T X Y
    have T := Tn
    have X := Xn
    have Y := Yn
    clear Tn Xn Yn
    go_wp2_with fail
    go_ret
    exact Mk.i E.out T.out
  have t2 := okB_t hr
  have HTW := Lib.hid (show tw xs x ys = twk xs x ys 0 from by unfold tw; rw [if_neg (fun h => fw_self.1 h ⟨hv, hr⟩)])
  clear hv hr
  refine at_base fun wn hwn => ?_
  have T := Lib.hid (show Below w.heap.size w wn from by rw [hwn]; exact Below.refl _ _)
  rw [← hwn] at hc
  have X := Lib.hid (show Ints wn b off xs from hc)
  clear hc
  rw [← hwn] at hs
  have Y := Lib.hid (show Sl wn a2 ys from hs)
  clear hs
  clear hwn
  go_enter Try.func61, Try.ntmps61
  go_wp2_with fail
  refine Calls.mono (iFloorsValid_c b off cap xs _ X.out hmm) ?_
  intro e wn hh
  obtain ⟨he, hb⟩ := (by first | exact hh | exact Ro.mk hh | exact St.mk hh | exact LawOk.mk' hh : Mk _ _ e wn)
  subst he
  have Tn : Hid (Below w.heap.size w wn) := below_next T.out hb
  have Xn : Hid _ := Ints.below X.out hb
  have Yn : Hid _ := Sl.below Y.out hb
  clear hb hh
  clear T X Y
  have T := Tn
  have X := Xn
  have Y := Yn
  clear Tn Xn Yn
  go_wp2_with fail
  refine Calls.mono (isFloor_c _ xs cap _ _ hmm) ?_
  intro e wn hh
  obtain ⟨he, hb⟩ := (by first | exact hh | exact Ro.mk hh | exact St.mk hh | exact LawOk.mk' hh : Mk _ _ e wn)
  subst he
  have Tn : Hid (Below w.heap.size w wn) := below_next T.out hb
  have Xn : Hid _ := Ints.below X.out hb
  have Yn : Hid _ := Sl.below Y.out hb
  clear hb hh
  clear T X Y
  have T := Tn
  have X := Xn
  have Y := Yn
  clear Tn Xn Yn
  go_wp2_with fail
  go_loopw [1, 7, 22] (fun q s v wr => ∃ (k : Nat) (a S : Int), k ≤ n2 ∧ q = .int .i64 a ∧ s = .int .i64 S ∧ v = .int .i64 k ∧ (0 ≤ S ∧ S ≤ 60 * k) ∧ (twk xs a (ys.drop k) S = tw xs x ys) ∧ Below w.heap.size w wr ∧ Ints wr b off xs ∧ Sl wr a2 ys) (fun q s v _ => n2 - (intOf v).toNat)
  case atStart => exact ⟨0, x, 0, by omega, rfl, rfl, rfl, by omega, by rw [HTW.out]; rfl, T.out, X.out, Y.out⟩
  case' round =>
    clear T X Y
    obtain ⟨k, a, S, hk, rfl, rfl, rfl, hS, hR, h9T, h9X, h9Y⟩ := hrel
    obtain ⟨wn, hwq⟩ : ∃ w0 : World, w0 = wr := ⟨_, rfl⟩
    rw [← hwq] at h9T h9X h9Y ⊢
    clear hwq
    have T := Lib.hid h9T
    have X := Lib.hid h9X
    have Y := Lib.hid h9Y
    clear h9T h9X h9Y
    have HR := Lib.hid hR
    clear hR
    obtain ⟨hS0, hS1⟩ := hS
    by_cases hlt : k < n2
    case neg =>
      obtain rfl : k = n2 := by omega
      have E := Lib.hid (show tw xs x ys = S from by
        rw [← HR.out, List.drop_eq_nil_of_le (by rw [HL.out]; exact Nat.le_refl _)]; rfl)
      go_wp2_with fail
      go_ret
      exact Mk.i E.out T.out
    obtain ⟨b2, o2, rfl, hI⟩ := Sl.at Y.out (k := k) (by rw [HL.out]; exact hlt)
    have y1 := hI k (by rw [HL.out]; exact hlt)
    have hki : (k : Int) < n2 := by omega
    obtain ⟨v, hv⟩ : ∃ v, nth ys k = v := ⟨_, rfl⟩
    have hd : ys.drop k = v :: ys.drop (k + 1) := by
      have hk' : k < ys.length := by rw [HL.out]; exact hlt
      rw [List.drop_eq_getElem_cons hk', ← hv, nth_eq hk']
    rw [hv] at y1
    have HV := Lib.hid hv
    obtain ⟨D, hD⟩ : ∃ D, fw xs a v = D := ⟨_, rfl⟩
    have hDb := fw_bd xs a v
    have E0 := Lib.hid (show tw xs x ys = if D < 0 then -1 else twk xs v (ys.drop (k + 1)) (S + D) from by rw [← HR.out, hd, ← hD]; rfl)
    have K1 := fun w' (h : Ints w' b off xs) => iFloorWay_c b off cap xs a v w' h hmm
    rw [hD] at K1 hDb
    have HK1 := Lib.hid K1
    clear K1 hD hv hd hI HR
    go_wp2_with fail
    refine Calls.mono (HK1.out _ X.out) ?_
    intro e wn hh
    obtain ⟨he, hb⟩ := (by first | exact hh | exact Ro.mk hh | exact St.mk hh | exact LawOk.mk' hh : Mk _ _ e wn)
    subst he
    have Tn : Hid (Below w.heap.size w wn) := below_next T.out hb
    have Xn : Hid _ := Ints.below X.out hb
    have Yn : Hid _ := Sl.below Y.out hb
    clear hb hh
    clear T X Y
    have T := Tn
    have X := Xn
    have Y := Yn
    clear Tn Xn Yn
    clear y1
    by_cases hD0 : D < 0
    case pos =>
      have E := Lib.hid (show tw xs x ys = -1 from by rw [E0.out, if_pos hD0])
      go_wp2_with fail
      go_ret
      exact Mk.i E.out T.out
    have E := Lib.hid (show twk xs v (ys.drop (k + 1)) (S + D) = tw xs x ys from by rw [E0.out, if_neg hD0])
    have hD1 : 0 ≤ D := by omega
    have hSD : -9223372036854775808 ≤ S + D ∧ S + D ≤ 9223372036854775807 := by omega
    clear E0
    go_wp2_with fail
    go_roundw
    case rel => exact ⟨k + 1, v, S + D, by omega, rfl, by go_num, by go_num, by omega, E.out, T.out, X.out, Y.out⟩
    case measure => first | (simp [intOf]; done) | (simp [intOf]; omega) | omega
noncomputable def cavB (xs : List Int) (a : Int) (ys : List Int) : Bool := tr (VO xs ys ∧ okF xs a)
theorem iCanVisit_c (b off cap : Nat) (xs : List Int) (x : Int) (a2 : Option Addr) (n2 c2 : Nat) (ys : List Int) (w : World) (hc : Ints w b off xs) (hs : Sl w a2 ys) (hl : ys.length = n2) (hm : xs.length ≤ 1048576) (hm2 : n2 ≤ 1048577) :
    Calls Try.prog 60 #[.slice (some ⟨b, off, none⟩) xs.length cap, .int .i64 x, .slice a2 n2 c2] w (Mk w (.bool (cavB xs x ys))) := by
  have HL := Lib.hid hl
  have hmm : xs.length ≤ maxLen := by unfold maxLen; omega
  clear hl
  by_cases hv : VO xs ys
  case neg =>
    have t1 := voB_f hv
    have E := Lib.hid (show cavB xs x ys = false from tr_false fun g => hv g.1)
    clear hv
    refine at_base fun wn hwn => ?_
    have T := Lib.hid (show Below w.heap.size w wn from by rw [hwn]; exact Below.refl _ _)
    rw [← hwn] at hc
    have X := Lib.hid (show Ints wn b off xs from hc)
    clear hc
    rw [← hwn] at hs
    have Y := Lib.hid (show Sl wn a2 ys from hs)
    clear hs
    clear hwn
    go_enter Try.func60, Try.ntmps60
    go_wp2_with fail
    refine Calls.mono (iVisitsOk_c b off cap xs a2 n2 c2 ys _ X.out Y.out HL.out hm hm2) ?_
    intro e wn hh
    obtain ⟨he, hb⟩ := (by first | exact hh | exact Ro.mk hh | exact St.mk hh | exact LawOk.mk' hh : Mk _ _ e wn)
    subst he
    have Tn : Hid (Below w.heap.size w wn) := below_next T.out hb
    have Xn : Hid _ := Ints.below X.out hb
    have Yn : Hid _ := Sl.below Y.out hb
    clear hb hh
    clear T X Y
    have T := Tn
    have X := Xn
    have Y := Yn
    clear Tn Xn Yn
    go_wp2_with fail
    go_ret
    exact Mk.b E.out T.out
  have t1 := voB_t hv
  have E := Lib.hid (show cavB xs x ys = okB xs x from by
    by_cases g : okF xs x
    · rw [okB_t g]; exact tr_true ⟨hv, g⟩
    · rw [okB_f g]; exact tr_false fun h => g h.2)
  clear hv
  refine at_base fun wn hwn => ?_
  have T := Lib.hid (show Below w.heap.size w wn from by rw [hwn]; exact Below.refl _ _)
  rw [← hwn] at hc
  have X := Lib.hid (show Ints wn b off xs from hc)
  clear hc
  rw [← hwn] at hs
  have Y := Lib.hid (show Sl wn a2 ys from hs)
  clear hs
  clear hwn
  go_enter Try.func60, Try.ntmps60
  go_wp2_with fail
  refine Calls.mono (iVisitsOk_c b off cap xs a2 n2 c2 ys _ X.out Y.out HL.out hm hm2) ?_
  intro e wn hh
  obtain ⟨he, hb⟩ := (by first | exact hh | exact Ro.mk hh | exact St.mk hh | exact LawOk.mk' hh : Mk _ _ e wn)
  subst he
  have Tn : Hid (Below w.heap.size w wn) := below_next T.out hb
  have Xn : Hid _ := Ints.below X.out hb
  have Yn : Hid _ := Sl.below Y.out hb
  clear hb hh
  clear T X Y
  have T := Tn
  have X := Xn
  have Y := Yn
  clear Tn Xn Yn
  go_wp2_with fail
  refine Calls.mono (isFloor_c _ xs cap _ _ hmm) ?_
  intro e wn hh
  obtain ⟨he, hb⟩ := (by first | exact hh | exact Ro.mk hh | exact St.mk hh | exact LawOk.mk' hh : Mk _ _ e wn)
  subst he
  have Tn : Hid (Below w.heap.size w wn) := below_next T.out hb
  have Xn : Hid _ := Ints.below X.out hb
  have Yn : Hid _ := Sl.below Y.out hb
  clear hb hh
  clear T X Y
  have T := Tn
  have X := Xn
  have Y := Yn
  clear Tn Xn Yn
  go_wp2_with fail
  go_ret
  exact Mk.b E.out T.out
/-! The two halves of an ascending list. -/
def lt (c v : Int) : Bool := decide (v < c)
theorem halves {c : Int} : ∀ {ys : List Int}, ys.Pairwise (· < ·) → ys.take (ys.countP (lt c)) = ys.filter (lt c) ∧ ys.drop (ys.countP (lt c)) = ys.filter (fun v => !lt c v)
  | [], _ => by simp
  | x :: l, h => by
    obtain ⟨h1, h2⟩ := List.pairwise_cons.1 h
    have ih := halves (c := c) h2
    by_cases e : x < c
    · have e1 : lt c x = true := by simp [lt, e]
      rw [List.countP_cons_of_pos e1, List.filter_cons_of_pos e1, List.filter_cons_of_neg (by simp [e1])]
      simp [ih.1, ih.2]
    · have e1 : lt c x = false := by simp [lt]; omega
      have h0 : l.countP (lt c) = 0 := by
        rw [List.countP_eq_zero]
        intro y hy
        have := h1 y hy
        simp [lt]; omega
      rw [h0] at ih
      rw [List.countP_cons_of_neg (by simp [e1]), h0, List.filter_cons_of_neg (by simp [e1]), List.filter_cons_of_pos (by simp [e1]), ← ih.1, ← ih.2]
      simp
theorem one_rev {a : Int} {l : List Int} (h : l.Pairwise (· < ·)) (ha : ∀ v, v ∈ l → v = a) : l.reverse = l := by
  match l, h, ha with
  | [], _, _ => rfl
  | [x], _, _ => rfl
  | x :: y :: r, h, ha =>
    have h1 := (List.pairwise_cons.1 h).1 y (by simp)
    have := ha x (by simp)
    have := ha y (by simp)
    omega
theorem hall_ends {ys : List Int} (h : ys.Pairwise (· < ·)) : ∀ y, y ∈ ys → nth ys 0 ≤ y ∧ y ≤ nth ys (ys.length - 1) := fun y hy => by
  obtain ⟨k, hk, rfl⟩ := mem_nth hy
  have asc : ∀ i j, i < j → j < ys.length → nth ys i < nth ys j := fun i j hij hj => by
    have := List.pairwise_iff_getElem.1 h i j (by omega) hj hij
    rwa [nth_eq (by omega), nth_eq hj]
  constructor
  · by_cases e : k = 0
    · subst e; exact Int.le_refl _
    · have := asc 0 k (by omega) hk; omega
  · by_cases e : k = ys.length - 1
    · subst e; exact Int.le_refl _
    · have := asc k (ys.length - 1) (by omega) (by omega); omega
theorem pd_true (a : Int) : pd a true = lt (a + 1) := by
  funext v
  unfold pd lt
  rw [Bool.eq_iff_iff]
  simp only [decide_eq_true_eq, and_true]
  omega
theorem pd_false (a : Int) : pd a false = lt a := by
  funext v
  unfold pd lt
  rw [Bool.eq_iff_iff]
  simp
theorem tour_near {xs : List Int} {a : Int} {ys : List Int} (h : VO xs ys) (hne : ys ≠ []) (hw : fw xs a (nth ys 0) ≤ fw xs a (nth ys (ys.length - 1))) :
    tor a (fdB xs a ys) ys = (ys.take (ys.countP (lt (a + 1)))).reverse ++ ys.drop (ys.countP (lt (a + 1))) := by
  have hs := h.sorted
  obtain ⟨e1, e2⟩ := halves (c := a + 1) hs
  have he := hall_ends hs
  by_cases g : nth ys 0 < a
  · rw [show fdB xs a ys = true from tr_true ⟨g, .inr hw⟩, e1, e2]
    unfold tor tdn tup
    rw [if_pos rfl, pd_true]
  · rw [show fdB xs a ys = false from tr_false fun k => g k.1]
    have hr : (ys.take (ys.countP (lt (a + 1)))).reverse = ys.take (ys.countP (lt (a + 1))) := by
      rw [e1]
      refine one_rev (a := a) (hs.filter _) fun v hv => ?_
      obtain ⟨h1, h2⟩ := List.mem_filter.1 hv
      have := he v h1
      simp [lt] at h2
      omega
    rw [hr, List.take_append_drop]
    unfold tor tdn tup
    rw [if_neg (by simp), pd_false]
    have hn : ∀ v, v ∈ ys → lt a v = false := fun v hv => by have := he v hv; simp [lt]; omega
    rw [List.filter_eq_self.2 (fun v hv => by simp [hn v hv]), List.filter_eq_nil_iff.2 (fun v hv => by simp [hn v hv])]
    simp
theorem tour_far {xs : List Int} {a : Int} {ys : List Int} (h : VO xs ys) (hne : ys ≠ []) (hw : ¬ fw xs a (nth ys 0) ≤ fw xs a (nth ys (ys.length - 1))) :
    tor a (fdB xs a ys) ys = ys.drop (ys.countP (lt a)) ++ (ys.take (ys.countP (lt a))).reverse := by
  have hs := h.sorted
  obtain ⟨e1, e2⟩ := halves (c := a) hs
  have he := hall_ends hs
  by_cases g : nth ys 0 < a ∧ nth ys (ys.length - 1) ≤ a
  · rw [show fdB xs a ys = true from tr_true ⟨g.1, .inl g.2⟩]
    have hr : (ys.drop (ys.countP (lt a))) = (ys.drop (ys.countP (lt a))).reverse := by
      rw [e2]
      refine (one_rev (a := a) (hs.filter _) fun v hv => ?_).symm
      obtain ⟨h1, h2⟩ := List.mem_filter.1 hv
      have := he v h1
      simp [lt] at h2
      omega
    rw [hr, ← List.reverse_append, List.take_append_drop]
    unfold tor tdn tup
    rw [if_pos rfl, pd_true]
    have hn : ∀ v, v ∈ ys → lt (a + 1) v = true := fun v hv => by have := he v hv; simp [lt]; omega
    rw [List.filter_eq_self.2 (fun v hv => hn v hv), List.filter_eq_nil_iff.2 (fun v hv => by simp [hn v hv])]
    simp
  · rw [show fdB xs a ys = false from tr_false fun k => g ⟨k.1, k.2.resolve_right hw⟩, e1, e2]
    unfold tor tdn tup
    rw [if_neg (by simp), pd_false]
end Go.Proofs.Ytgiioponimiddaa

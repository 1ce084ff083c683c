/- The model's GroupBest and GroupNear. -/
import Derived.Test.Ytgiioponimiddaa12D
namespace Go.Proofs.Ytgiioponimiddaa
open Go.RowKit
set_option linter.unusedVariables false
set_option linter.unusedSimpArgs false
set_option maxRecDepth 100000

noncomputable def bev (xs cs ks : List Int) : List Int := @ite _ (GOk xs cs ks) (Classical.propDecidable _) (lb (gsv xs cs ks) cs.length ks.length []) []
theorem bev_t {xs cs ks : List Int} (h : GOk xs cs ks) : bev xs cs ks = lb (gsv xs cs ks) cs.length ks.length [] := by unfold bev; rw [if_pos h]
theorem bev_f {xs cs ks : List Int} (h : ¬ GOk xs cs ks) : bev xs cs ks = [] := by unfold bev; rw [if_neg h]
theorem be_best {xs cs ks : List Int} (h : GOk xs cs ks) : Best (gsv xs cs ks) cs.length ks.length [] (bev xs cs ks) := by rw [bev_t h]; exact lb_best _ _ h.2.1 _ _
theorem be_gv {xs cs ks : List Int} (h : GOk xs cs ks) : GvOk cs.length ks.length (bev xs cs ks) := by
  obtain ⟨t, e, ht⟩ := (be_best h).ext
  rw [e]; exact ht
theorem be_least {xs cs ks gs : List Int} (h : GOk xs cs ks) (hg : GvOk cs.length ks.length gs) : gsum xs cs ks (bev xs cs ks) ≤ gsum xs cs ks gs := by
  have := (be_best h).least gs hg
  rwa [List.nil_append, gsv_t ⟨h, be_gv h⟩, gsv_t ⟨h, hg⟩] at this
set_option maxHeartbeats 2000000 in
theorem sGroupBest_c (b off cap : Nat) (xs : List Int) (a2 : Option Addr) (n2 c2 : Nat) (cs : List Int) (a3 : Option Addr) (n3 c3 : Nat) (ks : List Int) (w : World) (hc : Ints w b off xs) (hs : Sl w a2 cs) (hl : cs.length = n2) (hs3 : Sl w a3 ks) (hl3 : ks.length = n3) (hm : xs.length ≤ 1048576) (hm2 : n2 ≤ 1048577) (hm3 : n3 ≤ 1048577) :
    Calls Try.prog 28 #[.slice (some ⟨b, off, none⟩) xs.length cap, .slice a2 n2 c2, .slice a3 n3 c3] w (NewI w (bev xs cs ks)) := by
  obtain ⟨P, hP⟩ : ∃ P, gokB xs cs ks = P := ⟨_, rfl⟩
  have K0 := fun w' (h : Ints w' b off xs) (h2 : Sl w' a2 cs) (h3 : Sl w' a3 ks) => sGroupOk_c b off cap xs a2 n2 c2 cs a3 n3 c3 ks w' h h2 hl h3 hl3 hm hm2 hm3
  rw [hP] at K0
  have H0 := Lib.hid K0
  have HP := Lib.hid hP
  have HL := Lib.hid hl
  have HL3 := Lib.hid hl3
  clear K0 hP hl hl3
  refine at_base fun wn hwn => ?_
  have T := Lib.hid (show Below w.heap.size w wn from by rw [hwn]; exact Below.refl _ _)
  rw [← hwn] at hc
  have X := Lib.hid (show Ints wn b off xs from hc)
  clear hc
  rw [← hwn] at hs
  have Y := Lib.hid (show Sl wn a2 cs from hs)
  clear hs
  rw [← hwn] at hs3
  have Z := Lib.hid (show Sl wn a3 ks from hs3)
  clear hs3
  clear hwn
  go_enter Try.func28, Try.ntmps28
  go_wp2_with fail
  refine Calls.mono (H0.out _ X.out Y.out Z.out) ?_
  intro e wn hh
  obtain ⟨he, hb⟩ := (by first | exact hh | exact Ro.mk hh | exact St.mk hh | exact LawOk.mk' hh : Mk _ _ e wn)
  subst he
  have Tn : Hid (Below w.heap.size w wn) := below_next T.out hb
  have Xn : Hid _ := Ints.below X.out hb
  have Yn : Hid _ := Sl.below Y.out hb
  have Zn : Hid _ := Sl.below Z.out hb
  clear hb hh
  clear T X Y Z
  have T := Tn
  have X := Xn
  have Y := Yn
  have Z := Zn
  clear Tn Xn Yn Zn
  cases P
  case false =>
    have E := Lib.hid (bev_f (xs := xs) (cs := cs) (ks := ks) fun h => by have := tr_true h; rw [show tr (GOk xs cs ks) = false from HP.out] at this; cases this)
    have hWH := T.out.size
    obtain ⟨H, hH⟩ : ∃ H, Array.size (World.heap wn) = H := ⟨_, rfl⟩
    have HH : Hid _ := hH
    rw [hH] at hWH
    have V : Hid (Own (wn.alloc (.cells #[] 3)) H (.slice (some ⟨H, 0, none⟩) 0 0) []) := by rw [← hH]; exact Own.none
    clear hH
    have Tn : Hid (Below w.heap.size w _) := Below.al T.out (.cells #[] 3)
    have Xn : Hid _ := Ints.below X.out ((Below.refl _ _).alloc (Nat.le_refl _) (.cells #[] 3))
    have Yn : Hid _ := Sl.below Y.out ((Below.refl _ _).alloc (Nat.le_refl _) (.cells #[] 3))
    have Zn : Hid _ := Sl.below Z.out ((Below.refl _ _).alloc (Nat.le_refl _) (.cells #[] 3))
    clear T X Y Z
    have T := Tn
    have X := Xn
    have Y := Yn
    have Z := Zn
    clear Tn Xn Yn Zn
    go_wp2_with fail
    rw [HH.out]
    go_ret
    exact ⟨_, rfl, by rw [E.out]; exact own_mono V.out hWH, T.out⟩
  have E := Lib.hid (bev_t (xs := xs) (cs := cs) (ks := ks) (tr_t.1 HP.out))
  have hWH := T.out.size
  obtain ⟨H, hH⟩ : ∃ H, Array.size (World.heap wn) = H := ⟨_, rfl⟩
  have HH : Hid _ := hH
  rw [hH] at hWH
  have V : Hid (Own (wn.alloc (.cells #[] 3)) H (.slice (some ⟨H, 0, none⟩) 0 0) []) := by rw [← hH]; exact Own.none
  clear hH
  have Tn : Hid (Below w.heap.size w _) := Below.al T.out (.cells #[] 3)
  have Xn : Hid _ := Ints.below X.out ((Below.refl _ _).alloc (Nat.le_refl _) (.cells #[] 3))
  have Yn : Hid _ := Sl.below Y.out ((Below.refl _ _).alloc (Nat.le_refl _) (.cells #[] 3))
  have Zn : Hid _ := Sl.below Z.out ((Below.refl _ _).alloc (Nat.le_refl _) (.cells #[] 3))
  clear T X Y Z
  have T := Tn
  have X := Xn
  have Y := Yn
  have Z := Zn
  clear Tn Xn Yn Zn
  go_wp2_with fail
  rw [HH.out]
  refine Calls.mono (sL12Best_c b off cap xs a2 n2 c2 cs a3 n3 c3 ks HL.out HL3.out hm hm2 hm3 n3 [] 0 H H 0 _ X.out Y.out Z.out V.out rfl (by omega)) ?_
  rintro e wq ⟨v, rfl, hO, hN, hb⟩
  have hT := below_next T.out hb
  clear hb T X Y Z V
  go_wp2_with fail
  go_ret
  exact ⟨_, rfl, by rw [E.out, HL.out, HL3.out]; exact own_mono hO hWH, hT⟩
set_option maxHeartbeats 4000000 in
theorem sGroupNear_c (b off cap : Nat) (xs : List Int) (a2 : Option Addr) (n2 c2 : Nat) (cs : List Int) (a3 : Option Addr) (n3 c3 : Nat) (ks : List Int) (w : World) (hc : Ints w b off xs) (hs : Sl w a2 cs) (hl : cs.length = n2) (hs3 : Sl w a3 ks) (hl3 : ks.length = n3) (hm : xs.length ≤ 1048576) (hm2 : n2 ≤ 1048577) (hm3 : n3 ≤ 1048577) :
    Calls Try.prog 30 #[.slice (some ⟨b, off, none⟩) xs.length cap, .slice a2 n2 c2, .slice a3 n3 c3] w (NewI w (nrv xs cs ks)) := by
  have hmm : xs.length ≤ maxLen := by unfold maxLen; omega
  obtain ⟨i0, hi, hz0, hz1, hz2⟩ := info_parts infoInt
  obtain ⟨P, hP⟩ : ∃ P, gokB xs cs ks = P := ⟨_, rfl⟩
  have K0 := fun w' (h : Ints w' b off xs) (h2 : Sl w' a2 cs) (h3 : Sl w' a3 ks) => sGroupOk_c b off cap xs a2 n2 c2 cs a3 n3 c3 ks w' h h2 hl h3 hl3 hm hm2 hm3
  rw [hP] at K0
  have H0 := Lib.hid K0
  have HP := Lib.hid hP
  have HL := Lib.hid hl
  have HL3 := Lib.hid hl3
  have hbw := Ints.lt hc
  have HBY := Lib.hid (Sl.lt hs)
  have HBZ := Lib.hid (Sl.lt hs3)
  clear K0 hP hl hl3
  refine at_base fun wn hwn => ?_
  have T := Lib.hid (show Below w.heap.size w wn from by rw [hwn]; exact Below.refl _ _)
  rw [← hwn] at hc
  have X := Lib.hid (show Ints wn b off xs from hc)
  clear hc
  rw [← hwn] at hs
  have Y := Lib.hid (show Sl wn a2 cs from hs)
  clear hs
  rw [← hwn] at hs3
  have Z := Lib.hid (show Sl wn a3 ks from hs3)
  clear hs3
  clear hwn
  go_enter Try.func30, Try.ntmps30
  have hWH := T.out.size
  obtain ⟨H, hH⟩ : ∃ H, Array.size (World.heap wn) = H := ⟨_, rfl⟩
  have HH : Hid _ := hH
  rw [hH] at hWH
  have V : Hid (Own (wn.alloc (.cells #[] 3)) H (.slice (some ⟨H, 0, none⟩) 0 0) []) := by rw [← hH]; exact Own.none
  clear hH
  have Tn : Hid (Below w.heap.size w _) := Below.al T.out (.cells #[] 3)
  have Xn : Hid _ := Ints.below X.out ((Below.refl _ _).alloc (Nat.le_refl _) (.cells #[] 3))
  have Yn : Hid _ := Sl.below Y.out ((Below.refl _ _).alloc (Nat.le_refl _) (.cells #[] 3))
  have Zn : Hid _ := Sl.below Z.out ((Below.refl _ _).alloc (Nat.le_refl _) (.cells #[] 3))
  clear T X Y Z
  have T := Tn
  have X := Xn
  have Y := Yn
  have Z := Zn
  clear Tn Xn Yn Zn
  go_wp2_with fail
  rw [HH.out]
  have NV := Lib.hid (show (Value.slice (some ⟨H, 0, none⟩) 0 0) ≠ .slice none 0 0 from by simp)
  go_loopw [7, 8] (fun p u wr => ∃ (k : Nat) (pv : Value) (VL : List Int), p = pv ∧ k ≤ n3 ∧ u = .int .i64 k ∧ VL = nrU xs cs ks k ∧ (P = false → k = 0) ∧ pv ≠ .slice none 0 0 ∧ Below w.heap.size w wr ∧ Ints wr b off xs ∧ Sl wr a2 cs ∧ Sl wr a3 ks ∧ Own wr H pv VL) (fun p u _ => n3 - (intOf u).toNat)
  case atStart => exact ⟨0, _, [], rfl, by omega, rfl, rfl, (fun _ => rfl), NV.out, T.out, X.out, Y.out, Z.out, V.out⟩
  case' round =>
    clear T X Y Z V
    obtain ⟨k, pv, VL, rfl, hk, rfl, hVL, hPk, hNV, h9T, h9X, h9Y, h9Z, h9V⟩ := hrel
    obtain ⟨wn, hwq⟩ : ∃ w0 : World, w0 = wr := ⟨_, rfl⟩
    rw [← hwq] at h9T h9X h9Y h9Z h9V ⊢
    clear hwq
    have T := Lib.hid h9T
    have X := Lib.hid h9X
    have Y := Lib.hid h9Y
    have Z := Lib.hid h9Z
    have V := Lib.hid h9V
    clear h9T h9X h9Y h9Z h9V
    have hvl : VL.length ≤ k := by rw [hVL]; exact Nat.le_of_eq (nrU_len _ _ _ _)
    have HVL := Lib.hid hVL
    have HPk := Lib.hid hPk
    clear NV hVL hPk
    have NV := Lib.hid hNV
    clear hNV
    by_cases hlt : k < n3
    case neg =>
      obtain rfl : k = n3 := by omega
      have E := Lib.hid (show nrv xs cs ks = VL from by
        rw [HVL.out]
        by_cases h : GOk xs cs ks
        · rw [nrv_t h, HL3.out]
        · have hf : P = false := by rw [← HP.out]; exact tr_false h
          rw [nrv_f h, HPk.out hf]; rfl)
      go_wp2_with fail
      go_ret
      exact ⟨_, rfl, by rw [E.out]; exact own_mono V.out hWH, T.out⟩
    have hki : (k : Int) < n3 := by omega
    go_wp2_with fail
    refine Calls.mono (H0.out _ X.out Y.out Z.out) ?_
    intro e wn hh
    obtain ⟨he, hb⟩ := (by first | exact hh | exact Ro.mk hh | exact St.mk hh | exact LawOk.mk' hh : Mk _ _ e wn)
    subst he
    have Tn : Hid (Below w.heap.size w wn) := below_next T.out hb
    have Xn : Hid _ := Ints.below X.out hb
    have Yn : Hid _ := Sl.below Y.out hb
    have Zn : Hid _ := Sl.below Z.out hb
    have Vn : Hid _ := Own.below V.out hb
    clear hb hh
    clear T X Y Z V
    have T := Tn
    have X := Xn
    have Y := Yn
    have Z := Zn
    have V := Vn
    clear Tn Xn Yn Zn Vn
    cases P
    case false =>
      have E := Lib.hid (show nrv xs cs ks = VL from by
        rw [HVL.out, HPk.out rfl]
        exact nrv_f fun h => by have := tr_true h; rw [show tr (GOk xs cs ks) = false from HP.out] at this; cases this)
      go_wp2_with fail
      go_ret
      exact ⟨_, rfl, by rw [E.out]; exact own_mono V.out hWH, T.out⟩
    have hgk := tr_t.1 (show tr (GOk xs cs ks) = true from HP.out)
    have hn0 : 0 < n2 := by rw [← HL.out]; exact hgk.2.1
    clear hgk
    go_wp2_with fail
    go_loopw [9, 10] (fun q r wr => ∃ (c m : Nat), c ≤ n2 ∧ q = .int .i64 m ∧ r = .int .i64 c ∧ m = nbU (fun c => fw xs (nth cs c) (nth ks k)) c ∧ Below w.heap.size w wr ∧ Ints wr b off xs ∧ Sl wr a2 cs ∧ Sl wr a3 ks ∧ Own wr H u7 VL) (fun q r _ => n2 - (intOf r).toNat)
    case atStart => exact ⟨0, 0, by omega, rfl, rfl, rfl, T.out, X.out, Y.out, Z.out, V.out⟩
    case' round =>
      clear T X Y Z V
      obtain ⟨c, m, hc9, rfl, rfl, hm9, h9T, h9X, h9Y, h9Z, h9V⟩ := hrel
      obtain ⟨wn, hwq⟩ : ∃ w0 : World, w0 = wr := ⟨_, rfl⟩
      rw [← hwq] at h9T h9X h9Y h9Z h9V ⊢
      clear hwq
      have T := Lib.hid h9T
      have X := Lib.hid h9X
      have Y := Lib.hid h9Y
      have Z := Lib.hid h9Z
      have V := Lib.hid h9V
      clear h9T h9X h9Y h9Z h9V
      have hmc : m ≤ c := by rw [hm9]; exact nbU_le _ _
      have HM := Lib.hid hm9
      clear hm9
      by_cases hcl : c < n2
      case neg =>
        obtain rfl : c = n2 := by omega
        have HN := Lib.hid (show VL ++ [(m : Int)] = nrU xs cs ks (k + 1) from by unfold nrU; rw [HL.out, ← HM.out, ← HVL.out])
        have hbV := Own.base V.out NV.out
        go_wp2_with ((at_builtin; refine wpList_append_wanted rfl _ _ 23 rfl H 3 i0 (.int .i64 0) 1 8 Try.underlying23 hi hz0 hz1 hz2 rfl (by decide) _ _ _ rfl (Own.alloc V.out _) _ 1 1 [.int .i64 ((m : Int))] rfl rfl (cell_one_new _ _ _) (by intro u hu; simp at hu; subst hu; rfl) (by unfold maxLen; omega) (by omega) (Own.base (Own.alloc V.out _) NV.out) ?_))
        intro pv2 wn hown hgrow hnil hat
        have lt5 := Own.lt V.out
        have Vn : Hid (Own wn H pv2 (VL ++ [(m : Int)])) := Own.snoc hown
        have NVn : Hid (pv2 ≠ .slice none 0 0) := (by first | exact hnil | exact fun e => absurd (hnil.1 e).2 (by simp) | exact fun e => absurd (hnil.1 e).1 (by simp))
        have Tn : Hid (Below w.heap.size w _) := Below.own (Below.al T.out _) hgrow (fun i e => by have := lt5 i e; omega)
        have Xn : Hid _ := Ints.gr (Ints.al X.out _) hgrow (fun i e h0 => by have := lt5 i e; omega)
        have Yn : Hid _ := Sl.gr (Sl.al Y.out _) hgrow HBY.out (fun i e => by have := lt5 i e; omega)
        have Zn : Hid _ := Sl.gr (Sl.al Z.out _) hgrow HBZ.out (fun i e => by have := lt5 i e; omega)
        clear hown hgrow lt5 hnil hat
        clear V NV T X Y Z
        have V := Vn
        have NV := NVn
        have T := Tn
        have X := Xn
        have Y := Yn
        have Z := Zn
        clear Vn NVn Tn Xn Yn Zn
        go_wp2_with fail
        go_roundw
        case rel => exact ⟨k + 1, pv2, VL ++ [(m : Int)], rfl, by omega, by go_num, HN.out, (fun h => by cases h), NV.out, T.out, X.out, Y.out, Z.out, V.out⟩
        case measure => first | (simp [intOf]; done) | (simp [intOf]; omega) | omega
      have hci : (c : Int) < n2 := by omega
      have hmi : (m : Int) < n2 := by omega
      obtain ⟨b2, o2, rfl, hI2⟩ := Sl.at Y.out (k := c) (by rw [HL.out]; exact hcl)
      obtain ⟨b3, o3, rfl, hI3⟩ := Sl.at Z.out (k := k) (by rw [HL3.out]; exact hlt)
      have Y1 := Lib.hid (hI2 c (by rw [HL.out]; exact hcl))
      have Y2 := Lib.hid (hI2 m (by rw [HL.out]; omega))
      have Y3 := Lib.hid (hI3 k (by rw [HL3.out]; exact hlt))
      obtain ⟨D1, hD1⟩ : ∃ D, fw xs (nth cs c) (nth ks k) = D := ⟨_, rfl⟩
      obtain ⟨D2, hD2⟩ : ∃ D, fw xs (nth cs m) (nth ks k) = D := ⟨_, rfl⟩
      have K1 := fun w' (h : Ints w' b off xs) => sFloorWay_c b off cap xs (nth cs c) (nth ks k) w' h hmm
      have K2 := fun w' (h : Ints w' b off xs) => sFloorWay_c b off cap xs (nth cs m) (nth ks k) w' h hmm
      rw [hD1] at K1
      rw [hD2] at K2
      have H1 := Lib.hid K1
      have H2 := Lib.hid K2
      have HD1 := Lib.hid hD1
      have HD2 := Lib.hid hD2
      clear K1 K2 hD1 hD2 hI2 hI3
      by_cases hD : D1 < D2
      · have HN := Lib.hid (show c = nbU (fun c => fw xs (nth cs c) (nth ks k)) (c + 1) from by unfold nbU; rw [← HM.out, HD1.out, HD2.out, if_pos hD])
        go_upto_region 9 with fail
        refine wp_region_quiet (C := fun w' => Below (World.heap (wn)).size (wn) w') (by kernel_rfl) (by kernel_rfl) (by first | exact ⟨rfl, rfl, rfl, Nat.le_refl _, fun _ _ => rfl⟩ | exact Below.dw (by repeat (first | exact Below.refl _ _ | refine Below.al ?_ _ | refine Below.dr ?_ _ | refine Below.dw ?_ | refine Below.st ?_ (by first | exact Nat.le_refl _ | exact Nat.le_add_right _ _ | (simp; omega)) _ | (refine below_next ?_ (by assumption))))) ?_
        simp only []
        repeat (go_big_quiet_step (first | (intro _; with_reducible exact rfl) | (intro hC; go_at_call 45; have y1 := cell_below Y1.out hC; have y2 := cell_below Y2.out hC; have y3 := cell_below Y3.out hC; have Z1 := Lib.hid (H1.out _ (Ints.below X.out hC)); have Z2 := Lib.hid (H2.out _ (Ints.below X.out hC)); (with_reducible refine Calls.mono (Z1.out) ?_); (first | (rintro e wx ⟨rfl, hb⟩; exact ⟨rfl, below_next hC hb⟩) | (rintro e wx ⟨rfl, n, rfl⟩; exact ⟨rfl, Below.dr hC n⟩) | (rintro e wx ⟨rfl, rfl⟩; exact ⟨rfl, hC⟩))) | (intro hC; go_at_call 45; have y1 := cell_below Y1.out hC; have y2 := cell_below Y2.out hC; have y3 := cell_below Y3.out hC; have Z1 := Lib.hid (H1.out _ (Ints.below X.out hC)); have Z2 := Lib.hid (H2.out _ (Ints.below X.out hC)); (with_reducible refine Calls.mono (Z2.out) ?_); (first | (rintro e wx ⟨rfl, hb⟩; exact ⟨rfl, below_next hC hb⟩) | (rintro e wx ⟨rfl, n, rfl⟩; exact ⟨rfl, Below.dr hC n⟩) | (rintro e wx ⟨rfl, rfl⟩; exact ⟨rfl, hC⟩))) | (intro hC; have y1 := cell_below Y1.out hC; have y2 := cell_below Y2.out hC; have y3 := cell_below Y3.out hC; have Z1 := Lib.hid (H1.out _ (Ints.below X.out hC)); have Z2 := Lib.hid (H2.out _ (Ints.below X.out hC)); go_simp; rfl)))
        refine wpQuiet_nil ?_
        intro wq hq
        have Tn := Lib.hid (below_next T.out hq)
        have Xn := Lib.hid (Ints.below X.out hq)
        have Yn := Lib.hid (Sl.below Y.out hq)
        have Zn := Lib.hid (Sl.below Z.out hq)
        have Vn := Lib.hid (Own.below V.out hq)
        clear hq
        clear T X Y Z V
        have T := Tn
        have X := Xn
        have Y := Yn
        have Z := Zn
        have V := Vn
        clear Tn Xn Yn Zn Vn
        obtain ⟨wn, hwq⟩ : ∃ w0, w0 = wq := ⟨_, rfl⟩
        subst hwq
        go_wp2_with fail
        go_roundw
        case rel => exact ⟨c + 1, c, by omega, rfl, by go_num, HN.out, T.out, X.out, Y.out, Z.out, V.out⟩
        case measure => first | (simp [intOf]; done) | (simp [intOf]; omega) | omega
      · have hD3 : D2 ≤ D1 := by omega
        have HN := Lib.hid (show m = nbU (fun c => fw xs (nth cs c) (nth ks k)) (c + 1) from by unfold nbU; rw [← HM.out, HD1.out, HD2.out, if_neg hD])
        go_upto_region 9 with fail
        refine wp_region_quiet (C := fun w' => Below (World.heap (wn)).size (wn) w') (by kernel_rfl) (by kernel_rfl) (by first | exact ⟨rfl, rfl, rfl, Nat.le_refl _, fun _ _ => rfl⟩ | exact Below.dw (by repeat (first | exact Below.refl _ _ | refine Below.al ?_ _ | refine Below.dr ?_ _ | refine Below.dw ?_ | refine Below.st ?_ (by first | exact Nat.le_refl _ | exact Nat.le_add_right _ _ | (simp; omega)) _ | (refine below_next ?_ (by assumption))))) ?_
        simp only []
        repeat (go_big_quiet_step (first | (intro _; with_reducible exact rfl) | (intro hC; go_at_call 45; have y1 := cell_below Y1.out hC; have y2 := cell_below Y2.out hC; have y3 := cell_below Y3.out hC; have Z1 := Lib.hid (H1.out _ (Ints.below X.out hC)); have Z2 := Lib.hid (H2.out _ (Ints.below X.out hC)); (with_reducible refine Calls.mono (Z1.out) ?_); (first | (rintro e wx ⟨rfl, hb⟩; exact ⟨rfl, below_next hC hb⟩) | (rintro e wx ⟨rfl, n, rfl⟩; exact ⟨rfl, Below.dr hC n⟩) | (rintro e wx ⟨rfl, rfl⟩; exact ⟨rfl, hC⟩))) | (intro hC; go_at_call 45; have y1 := cell_below Y1.out hC; have y2 := cell_below Y2.out hC; have y3 := cell_below Y3.out hC; have Z1 := Lib.hid (H1.out _ (Ints.below X.out hC)); have Z2 := Lib.hid (H2.out _ (Ints.below X.out hC)); (with_reducible refine Calls.mono (Z2.out) ?_); (first | (rintro e wx ⟨rfl, hb⟩; exact ⟨rfl, below_next hC hb⟩) | (rintro e wx ⟨rfl, n, rfl⟩; exact ⟨rfl, Below.dr hC n⟩) | (rintro e wx ⟨rfl, rfl⟩; exact ⟨rfl, hC⟩))) | (intro hC; have y1 := cell_below Y1.out hC; have y2 := cell_below Y2.out hC; have y3 := cell_below Y3.out hC; have Z1 := Lib.hid (H1.out _ (Ints.below X.out hC)); have Z2 := Lib.hid (H2.out _ (Ints.below X.out hC)); go_simp; rfl)))
        refine wpQuiet_nil ?_
        intro wq hq
        have Tn := Lib.hid (below_next T.out hq)
        have Xn := Lib.hid (Ints.below X.out hq)
        have Yn := Lib.hid (Sl.below Y.out hq)
        have Zn := Lib.hid (Sl.below Z.out hq)
        have Vn := Lib.hid (Own.below V.out hq)
        clear hq
        clear T X Y Z V
        have T := Tn
        have X := Xn
        have Y := Yn
        have Z := Zn
        have V := Vn
        clear Tn Xn Yn Zn Vn
        obtain ⟨wn, hwq⟩ : ∃ w0, w0 = wq := ⟨_, rfl⟩
        subst hwq
        go_wp2_with fail
        go_roundw
        case rel => exact ⟨c + 1, m, by omega, rfl, by go_num, HN.out, T.out, X.out, Y.out, Z.out, V.out⟩
        case measure => first | (simp [intOf]; done) | (simp [intOf]; omega) | omega
end Go.Proofs.Ytgiioponimiddaa

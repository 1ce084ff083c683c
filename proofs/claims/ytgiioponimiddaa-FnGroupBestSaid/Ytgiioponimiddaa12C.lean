/- The model's GroupSum. -/
import Derived.Test.Ytgiioponimiddaa12B
namespace Go.Proofs.Ytgiioponimiddaa
open Go.RowKit
set_option linter.unusedVariables false
set_option linter.unusedSimpArgs false
set_option maxRecDepth 100000

theorem Sl.lt {w : World} {a : Option Addr} {ys : List Int} (h : Sl w a ys) : ∀ b q, a = some ⟨b, q, none⟩ → 0 < ys.length → b < w.heap.size := by
  intro b q e h0
  obtain ⟨b', o', e', hI⟩ := Sl.at h h0
  rw [e'] at e
  simp only [Option.some.injEq, Addr.mk.injEq, and_true] at e
  obtain ⟨rfl, rfl⟩ := e
  exact Ints.lt hI h0
theorem Sl.al {w : World} {a : Option Addr} {ys : List Int} (h : Sl w a ys) (o : Obj) : Sl (w.alloc o) a ys := Sl.below h ((Below.refl _ _).alloc (Nat.le_refl _) o)
theorem Sl.gr {w w' : World} {row : Option Nat} {a : Option Addr} {ys : List Int} (h : Sl w a ys) (k : w.grownBy w' row) {B : Nat} (hB : ∀ b q, a = some ⟨b, q, none⟩ → 0 < ys.length → b < B) (hr : ∀ i, row = some i → B ≤ i) : Sl w' a ys := by
  rcases h with rfl | ⟨b, off, rfl, hI⟩
  · exact .inl rfl
  · exact .inr ⟨b, off, rfl, hI.gr k fun i e h0 => by have := hB b off rfl h0; have := hr i e; omega⟩
set_option maxHeartbeats 4000000 in
theorem sGroupSum_c (b off cap : Nat) (xs : List Int) (a2 : Option Addr) (n2 c2 : Nat) (cs : List Int) (a3 : Option Addr) (n3 c3 : Nat) (ks : List Int) (a4 : Option Addr) (n4 c4 : Nat) (gs : List Int) (w : World) (hc : Ints w b off xs) (hs : Sl w a2 cs) (hl : cs.length = n2) (hs3 : Sl w a3 ks) (hl3 : ks.length = n3) (hs4 : Sl w a4 gs) (hl4 : gs.length = n4) (hm : xs.length ≤ 1048576) (hm2 : n2 ≤ 1048577) (hm3 : n3 ≤ 1048577) (hm4 : n4 ≤ 1048577) :
    Calls Try.prog 24 #[.slice (some ⟨b, off, none⟩) xs.length cap, .slice a2 n2 c2, .slice a3 n3 c3, .slice a4 n4 c4] w (Mk w (.int .i64 (gsv xs cs ks gs))) := by
  have hmm : xs.length ≤ maxLen := by unfold maxLen; omega
  obtain ⟨i0, hi, hz0, hz1, hz2⟩ := info_parts infoInt
  have hbw := Ints.lt hc
  have HBY := Lib.hid (Sl.lt hs)
  have HBZ := Lib.hid (Sl.lt hs3)
  have HBG := Lib.hid (Sl.lt hs4)
  obtain ⟨P, hP⟩ : ∃ P, gokB xs cs ks = P := ⟨_, rfl⟩
  obtain ⟨Q, hQ⟩ : ∃ Q, gvB n2 n3 gs = Q := ⟨_, rfl⟩
  have K0 := fun w' (h : Ints w' b off xs) (h2 : Sl w' a2 cs) (h3 : Sl w' a3 ks) => sGroupOk_c b off cap xs a2 n2 c2 cs a3 n3 c3 ks w' h h2 hl h3 hl3 hm hm2 hm3
  have K1 := fun w' (h : Sl w' a4 gs) => sL12Give_c a2 n2 c2 a3 n3 c3 a4 n4 c4 gs w' h hl4 hm2 hm3 hm4
  rw [hP] at K0
  rw [hQ] at K1
  have H0 := Lib.hid K0
  have H1 := Lib.hid K1
  have HP := Lib.hid hP
  have HQ := Lib.hid hQ
  have HL := Lib.hid hl
  have HL3 := Lib.hid hl3
  have HL4 := Lib.hid hl4
  clear K0 K1 hP hQ hl hl3 hl4
  refine at_base fun wn hwn => ?_
  have T := Lib.hid (show Below w.heap.size w wn from by rw [hwn]; exact Below.refl _ _)
  rw [← hwn] at hc
  have X := Lib.hid (show Ints wn b off xs from hc)
  clear hc
  rw [← hwn] at hs
  have Y := Lib.hid (show Sl wn a2 cs from hs)
  clear hs
  rw [← hwn] at hs3
  have Z := Lib.hid (show Sl wn a3 ks from hs3)
  clear hs3
  rw [← hwn] at hs4
  have G := Lib.hid (show Sl wn a4 gs from hs4)
  clear hs4
  clear hwn
  go_enter Try.func24, Try.ntmps24
  go_wp2_with fail
  refine Calls.mono (H0.out _ X.out Y.out Z.out) ?_
  intro e wn hh
  obtain ⟨he, hb⟩ := (by first | exact hh | exact Ro.mk hh | exact St.mk hh | exact LawOk.mk' hh : Mk _ _ e wn)
  subst he
  have Tn : Hid (Below w.heap.size w wn) := below_next T.out hb
  have Xn : Hid _ := Ints.below X.out hb
  have Yn : Hid _ := Sl.below Y.out hb
  have Zn : Hid _ := Sl.below Z.out hb
  have Gn : Hid _ := Sl.below G.out hb
  clear hb hh
  clear T X Y Z G
  have T := Tn
  have X := Xn
  have Y := Yn
  have Z := Zn
  have G := Gn
  clear Tn Xn Yn Zn Gn
  cases P
  case false =>
    have E := Lib.hid (gsv_f (xs := xs) (cs := cs) (ks := ks) (gs := gs) fun h => by have := tr_true h.1; rw [show tr (GOk xs cs ks) = false from HP.out] at this; cases this)
    go_wp2_with fail
    go_ret
    exact Mk.i E.out T.out
  go_wp2_with fail
  refine Calls.mono (H1.out _ G.out) ?_
  intro e wn hh
  obtain ⟨he, hb⟩ := (by first | exact hh | exact Ro.mk hh | exact St.mk hh | exact LawOk.mk' hh : Mk _ _ e wn)
  subst he
  have Tn : Hid (Below w.heap.size w wn) := below_next T.out hb
  have Xn : Hid _ := Ints.below X.out hb
  have Yn : Hid _ := Sl.below Y.out hb
  have Zn : Hid _ := Sl.below Z.out hb
  have Gn : Hid _ := Sl.below G.out hb
  clear hb hh
  clear T X Y Z G
  have T := Tn
  have X := Xn
  have Y := Yn
  have Z := Zn
  have G := Gn
  clear Tn Xn Yn Zn Gn
  cases Q
  case false =>
    have E := Lib.hid (gsv_f (xs := xs) (cs := cs) (ks := ks) (gs := gs) fun h => by have h2 := h.2; rw [HL.out, HL3.out] at h2; have := tr_true h2; rw [show tr (GvOk n2 n3 gs) = false from HQ.out] at this; cases this)
    go_wp2_with fail
    go_ret
    exact Mk.i E.out T.out
  have hgk : GOk xs cs ks := tr_t.1 HP.out
  have hgv : GvOk n2 n3 gs := tr_t.1 HQ.out
  have hn34 : n4 = n3 := by rw [← HL4.out]; exact hgv.2
  subst hn34
  have HV := Lib.hid hgv.1
  have E := Lib.hid (gsv_t (xs := xs) (cs := cs) (ks := ks) (gs := gs) ⟨hgk, by rw [HL.out, HL3.out]; exact hgv⟩)
  have hbw := hbw (by have := hgk.1.1; omega)
  have HF := Lib.hid hgk.1
  have HO := Lib.hid hgk.2.2.1.1
  have hcn4 : n2 ≤ 4 := by have := hgk.2.2.1.2; rw [HL.out] at this; omega
  have hx8 := hgk.1.2.1
  have hBD := Lib.hid fun n h => gsU_bd (xs := xs) (cs := cs) (ks := ks) (gs := gs) hgk.1 hgk.2.2.1.1 n h
  clear hgk hgv
  go_wp2_with fail
  go_loopw [9, 10] (fun u v wr => ∃ (c : Nat) (S : Int), c ≤ n2 ∧ u = .int .i64 S ∧ v = .int .i64 c ∧ (S = gsU xs cs ks gs c) ∧ Below w.heap.size w wr ∧ Ints wr b off xs ∧ Sl wr a2 cs ∧ Sl wr a3 ks ∧ Sl wr a4 gs) (fun u v _ => n2 - (intOf v).toNat)
  case atStart => exact ⟨0, 0, by omega, rfl, rfl, rfl, T.out, X.out, Y.out, Z.out, G.out⟩
  case' round =>
    clear T X Y Z G
    obtain ⟨c, S, hk, rfl, rfl, hS, h9T, h9X, h9Y, h9Z, h9G⟩ := hrel
    obtain ⟨wn, hwq⟩ : ∃ w0 : World, w0 = wr := ⟨_, rfl⟩
    rw [← hwq] at h9T h9X h9Y h9Z h9G ⊢
    clear hwq
    have T := Lib.hid h9T
    have X := Lib.hid h9X
    have Y := Lib.hid h9Y
    have Z := Lib.hid h9Z
    have G := Lib.hid h9G
    clear h9T h9X h9Y h9Z h9G
    have hSb := hBD.out c (by rw [HL.out]; exact hk)
    rw [← hS] at hSb
    obtain ⟨hS0, hS1⟩ := hSb
    have HS := Lib.hid hS
    clear hS
    by_cases hlt : c < n2
    case neg =>
      obtain rfl : c = n2 := by omega
      have E2 := Lib.hid (show gsv xs cs ks gs = S from by rw [E.out, HS.out]; unfold gsum; rw [HL.out])
      go_wp2_with fail
      go_ret
      exact Mk.i E2.out T.out
    have hci : (c : Int) < n2 := by omega
    have hWH := T.out.size
    obtain ⟨H, hH⟩ : ∃ H, Array.size (World.heap wn) = H := ⟨_, rfl⟩
    have HH : Hid _ := hH
    rw [hH] at hWH
    have V : Hid (Own (wn.alloc (.cells #[] 3)) H (.slice (some ⟨H, 0, none⟩) 0 0) []) := by rw [← hH]; exact Own.none
    clear hH
    have Tn : Hid (Below w.heap.size w _) := Below.al T.out (.cells #[] 3)
    have Xn : Hid _ := Ints.below X.out ((Below.refl _ _).alloc (Nat.le_refl _) (.cells #[] 3))
    have Yn : Hid _ := Sl.below Y.out ((Below.refl _ _).alloc (Nat.le_refl _) (.cells #[] 3))
    have Zn : Hid _ := Sl.below Z.out ((Below.refl _ _).alloc (Nat.le_refl _) (.cells #[] 3))
    have Gn : Hid _ := Sl.below G.out ((Below.refl _ _).alloc (Nat.le_refl _) (.cells #[] 3))
    clear T X Y Z G
    have T := Tn
    have X := Xn
    have Y := Yn
    have Z := Zn
    have G := Gn
    clear Tn Xn Yn Zn Gn
    go_wp2_with fail
    rw [HH.out]
    have NV := Lib.hid (show (Value.slice (some ⟨H, 0, none⟩) 0 0) ≠ .slice none 0 0 from by simp)
    go_loopw [11, 12] (fun p u wr => ∃ (f : Nat) (pv : Value) (VL : List Int), p = pv ∧ f ≤ xs.length ∧ u = .int .i64 f ∧ VL = visU ks gs c f ∧ pv ≠ .slice none 0 0 ∧ Below w.heap.size w wr ∧ Ints wr b off xs ∧ Sl wr a2 cs ∧ Sl wr a3 ks ∧ Sl wr a4 gs ∧ Own wr H pv VL) (fun p u _ => xs.length - (intOf u).toNat)
    case atStart => exact ⟨0, _, [], rfl, by omega, rfl, rfl, NV.out, T.out, X.out, Y.out, Z.out, G.out, V.out⟩
    case' round =>
      clear T X Y Z G V
      obtain ⟨f, pv, VL, rfl, hf, rfl, hVL, hNV, h9T, h9X, h9Y, h9Z, h9G, h9V⟩ := hrel
      obtain ⟨wn, hwq⟩ : ∃ w0 : World, w0 = wr := ⟨_, rfl⟩
      rw [← hwq] at h9T h9X h9Y h9Z h9G h9V ⊢
      clear hwq
      have T := Lib.hid h9T
      have X := Lib.hid h9X
      have Y := Lib.hid h9Y
      have Z := Lib.hid h9Z
      have G := Lib.hid h9G
      have V := Lib.hid h9V
      clear h9T h9X h9Y h9Z h9G h9V
      have hvl : VL.length ≤ f := by rw [hVL]; exact vis_len f
      have HV2 := Lib.hid hVL
      clear NV hVL
      have NV := Lib.hid hNV
      clear hNV
      by_cases hfl : f < xs.length
      case neg =>
        obtain rfl : f = xs.length := by omega
        obtain ⟨bV, cV, rfl, -, -, hIV, -, -⟩ := Own.some V.out NV.out
        have hvo := vis_vo (xs := xs) (ks := ks) (gs := gs) (c := (c : Int)) HF.out
        have hoc := HO.out _ (nthm (show c < cs.length from by rw [HL.out]; exact hlt))
        obtain ⟨D, hD⟩ : ∃ D, swv xs (nth cs c) VL = D := ⟨_, rfl⟩
        have hve : VL = vis xs ks gs c := HV2.out
        have hD0 : 0 ≤ D ∧ D ≤ 480 := by
          rw [← hD, hve]
          exact ⟨swv_ge HF.out hvo hoc, swv_le HF.out hvo hoc (Nat.le_trans (vis_len _) hx8)⟩
        have HN := Lib.hid (show S + D = gsU xs cs ks gs (c + 1) from by
          show _ = gsU xs cs ks gs c + swv xs (nth cs c) (vis xs ks gs c)
          rw [← hve, hD, ← HS.out])
        have K2 := fun w' (h : Ints w' b off xs) (h2 : Sl w' (some ⟨bV, 0, none⟩) VL) => sShortWay_c b off cap xs (nth cs c) (some ⟨bV, 0, none⟩) VL.length cV VL w' h h2 rfl hm (by omega)
        rw [hD] at K2
        have H2 := Lib.hid K2
        obtain ⟨b2, o2, rfl, hI2⟩ := Sl.at Y.out (k := c) (by rw [HL.out]; exact hlt)
        have y2 := hI2 c (by rw [HL.out]; exact hlt)
        have SV := Lib.hid (show Sl wn (some ⟨bV, 0, none⟩) VL from .inr ⟨bV, 0, rfl, hIV⟩)
        have hSD : -9223372036854775808 ≤ S + D ∧ S + D ≤ 9223372036854775807 := by omega
        clear K2 hD hI2 hvo hoc hve hIV
        go_wp2_with fail
        refine Calls.mono (H2.out _ X.out SV.out) ?_
        intro e wn hh
        obtain ⟨he, hb⟩ := (by first | exact hh | exact Ro.mk hh | exact St.mk hh | exact LawOk.mk' hh : Mk _ _ e wn)
        subst he
        have Tn : Hid (Below w.heap.size w wn) := below_next T.out hb
        have Xn : Hid _ := Ints.below X.out hb
        have Yn : Hid _ := Sl.below Y.out hb
        have Zn : Hid _ := Sl.below Z.out hb
        have Gn : Hid _ := Sl.below G.out hb
        clear hb hh
        clear T X Y Z G
        have T := Tn
        have X := Xn
        have Y := Yn
        have Z := Zn
        have G := Gn
        clear Tn Xn Yn Zn Gn
        clear y2
        go_wp2_with fail
        go_roundw
        case rel => exact ⟨c + 1, S + D, by omega, by go_num, by go_num, HN.out, T.out, X.out, Y.out, Z.out, G.out⟩
        case measure => first | (simp [intOf]; done) | (simp [intOf]; omega) | omega
      have hfi : (f : Int) < xs.length := by omega
      go_wp2_with fail
      go_loopw [13, 14] (fun q r wr => ∃ (k : Nat) (B : Bool), k ≤ n4 ∧ q = .bool B ∧ r = .int .i64 k ∧ (B = hereU ks gs c f k) ∧ Below w.heap.size w wr ∧ Ints wr b off xs ∧ Sl wr a2 cs ∧ Sl wr a3 ks ∧ Sl wr a4 gs ∧ Own wr H u11 VL) (fun q r _ => n4 - (intOf r).toNat)
      case atStart => exact ⟨0, false, by omega, rfl, rfl, rfl, T.out, X.out, Y.out, Z.out, G.out, V.out⟩
      case' round =>
        clear T X Y Z G V
        obtain ⟨k, B, hk3, rfl, rfl, hB, h9T, h9X, h9Y, h9Z, h9G, h9V⟩ := hrel
        obtain ⟨wn, hwq⟩ : ∃ w0 : World, w0 = wr := ⟨_, rfl⟩
        rw [← hwq] at h9T h9X h9Y h9Z h9G h9V ⊢
        clear hwq
        have T := Lib.hid h9T
        have X := Lib.hid h9X
        have Y := Lib.hid h9Y
        have Z := Lib.hid h9Z
        have G := Lib.hid h9G
        have V := Lib.hid h9V
        clear h9T h9X h9Y h9Z h9G h9V
        have HB := Lib.hid hB
        clear hB
        by_cases hkn : k < n4
        case neg =>
          obtain rfl : k = n4 := by omega
          cases B
          case false =>
            have HN := Lib.hid (show VL = visU ks gs c (f + 1) from by unfold visU; rw [HL3.out, ← HB.out]; exact HV2.out)
            go_wp2_with fail
            go_roundw
            case rel => exact ⟨f + 1, u11, VL, rfl, by omega, by go_num, HN.out, NV.out, T.out, X.out, Y.out, Z.out, G.out, V.out⟩
            case measure => first | (simp [intOf]; done) | (simp [intOf]; omega) | omega
          have HN := Lib.hid (show VL ++ [(f : Int)] = visU ks gs c (f + 1) from by unfold visU; rw [HL3.out, ← HB.out, ← HV2.out]; rfl)
          have hbV := Own.base V.out NV.out
          go_wp2_with ((at_builtin; refine wpList_append_wanted rfl _ _ 23 rfl H 3 i0 (.int .i64 0) 1 8 Try.underlying23 hi hz0 hz1 hz2 rfl (by decide) _ _ _ rfl (Own.alloc V.out _) _ 1 1 [.int .i64 ((f : Int))] rfl rfl (cell_one_new _ _ _) (by intro u hu; simp at hu; subst hu; rfl) (by unfold maxLen; omega) (by omega) (Own.base (Own.alloc V.out _) NV.out) ?_))
          intro pv2 wn hown hgrow hnil hat
          have lt5 := Own.lt V.out
          have Vn : Hid (Own wn H pv2 (VL ++ [(f : Int)])) := Own.snoc hown
          have NVn : Hid (pv2 ≠ .slice none 0 0) := (by first | exact hnil | exact fun e => absurd (hnil.1 e).2 (by simp) | exact fun e => absurd (hnil.1 e).1 (by simp))
          have Tn : Hid (Below w.heap.size w _) := Below.own (Below.al T.out _) hgrow (fun i e => by have := lt5 i e; omega)
          have Xn : Hid _ := Ints.gr (Ints.al X.out _) hgrow (fun i e h0 => by have := lt5 i e; omega)
          have Yn : Hid _ := Sl.gr (Sl.al Y.out _) hgrow HBY.out (fun i e => by have := lt5 i e; omega)
          have Zn : Hid _ := Sl.gr (Sl.al Z.out _) hgrow HBZ.out (fun i e => by have := lt5 i e; omega)
          have Gn : Hid _ := Sl.gr (Sl.al G.out _) hgrow HBG.out (fun i e => by have := lt5 i e; omega)
          clear hown hgrow lt5 hnil hat
          clear V NV T X Y Z G
          have V := Vn
          have NV := NVn
          have T := Tn
          have X := Xn
          have Y := Yn
          have Z := Zn
          have G := Gn
          clear Vn NVn Tn Xn Yn Zn Gn
          go_wp2_with fail
          go_roundw
          case rel => exact ⟨f + 1, pv2, VL ++ [(f : Int)], rfl, by omega, by go_num, HN.out, NV.out, T.out, X.out, Y.out, Z.out, G.out, V.out⟩
          case measure => first | (simp [intOf]; done) | (simp [intOf]; omega) | omega
        have hki : (k : Int) < n4 := by omega
        obtain ⟨b3, o3, rfl, hI3⟩ := Sl.at Z.out (k := k) (by rw [HL3.out]; exact hkn)
        obtain ⟨b4, o4, rfl, hI4⟩ := Sl.at G.out (k := k) (by rw [HL4.out]; exact hkn)
        have y3 := hI3 k (by rw [HL3.out]; exact hkn)
        have y4 := hI4 k (by rw [HL4.out]; exact hkn)
        clear hI3 hI4
        cases B
        case true =>
          have HN := Lib.hid (show true = hereU ks gs c f (k + 1) from by unfold hereU; rw [← HB.out]; rfl)
          go_wp2_with fail
          go_roundw
          case rel => exact ⟨k + 1, true, by omega, rfl, by go_num, HN.out, T.out, X.out, Y.out, Z.out, G.out, V.out⟩
          case measure => first | (simp [intOf]; done) | (simp [intOf]; omega) | omega
        by_cases q1 : nth gs k = c
        case neg =>
          have q3 : (nth gs k == (c : Int)) = false := beq_false_of_ne q1
          have HN := Lib.hid (show false = hereU ks gs c f (k + 1) from by unfold hereU; rw [← HB.out, decide_eq_false q1]; rfl)
          clear q1
          go_wp2_with fail
          go_roundw
          case rel => exact ⟨k + 1, false, by omega, rfl, by go_num, HN.out, T.out, X.out, Y.out, Z.out, G.out, V.out⟩
          case measure => first | (simp [intOf]; done) | (simp [intOf]; omega) | omega
        have q3 : (nth gs k == (c : Int)) = true := by rw [q1]; exact beq_self_eq_true _
        by_cases q2 : nth ks k = f
        · have q4 : (nth ks k == (f : Int)) = true := by rw [q2]; exact beq_self_eq_true _
          have HN := Lib.hid (show true = hereU ks gs c f (k + 1) from by unfold hereU; rw [← HB.out, decide_eq_true q1, decide_eq_true q2]; rfl)
          clear q1 q2
          go_wp2_with fail
          go_roundw
          case rel => exact ⟨k + 1, true, by omega, rfl, by go_num, HN.out, T.out, X.out, Y.out, Z.out, G.out, V.out⟩
          case measure => first | (simp [intOf]; done) | (simp [intOf]; omega) | omega
        · have q4 : (nth ks k == (f : Int)) = false := beq_false_of_ne q2
          have HN := Lib.hid (show false = hereU ks gs c f (k + 1) from by unfold hereU; rw [← HB.out, decide_eq_true q1, decide_eq_false q2]; rfl)
          clear q1 q2
          go_wp2_with fail
          go_roundw
          case rel => exact ⟨k + 1, false, by omega, rfl, by go_num, HN.out, T.out, X.out, Y.out, Z.out, G.out, V.out⟩
          case measure => first | (simp [intOf]; done) | (simp [intOf]; omega) | omega
end Go.Proofs.Ytgiioponimiddaa

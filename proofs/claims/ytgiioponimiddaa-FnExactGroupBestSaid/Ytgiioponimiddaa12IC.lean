/- The program's visitsOf, GroupSum. -/
import Derived.Test.Ytgiioponimiddaa12IA
import Derived.Test.Ytgiioponimiddaa12W
import Derived.Test.Ytgiioponimiddaa10I
namespace Go.Proofs.Ytgiioponimiddaa
open Go.RowKit
set_option linter.unusedVariables false
set_option linter.unusedSimpArgs false
set_option maxRecDepth 100000

set_option maxHeartbeats 4000000 in
theorem visitsOf_c (a3 : Option Addr) (n3 c3 : Nat) (ks : List Int) (a4 : Option Addr) (c4 : Nat) (gs : List Int) (c : Nat) (w : World) (hs3 : Sl w a3 ks) (hl3 : ks.length = n3) (hs4 : Sl w a4 gs) (hl4 : gs.length = n3) (hm3 : n3 ≤ 1048577) :
    Calls Try.prog 49 #[.int .i64 c, .slice a3 n3 c3, .slice a4 n3 c4] w (NewI w (Lib.compact (srt (pkU ks gs c n3)))) := by
  obtain ⟨i0, hi, hz0, hz1, hz2⟩ := info_parts infoInt
  have HBZ := Lib.hid (Sl.lt hs3)
  have HBG := Lib.hid (Sl.lt hs4)
  have HL3 := Lib.hid hl3
  have HL4 := Lib.hid hl4
  clear hl3 hl4
  obtain ⟨S0, hS0⟩ : ∃ S0, w.heap.size = S0 := ⟨_, rfl⟩
  have HS0 := Lib.hid hS0
  clear hS0
  refine at_base fun wn hwn => ?_
  have T := Lib.hid (show Below w.heap.size w wn from by rw [hwn]; exact Below.refl _ _)
  rw [← hwn] at hs3
  have Z := Lib.hid (show Sl wn a3 ks from hs3)
  clear hs3
  rw [← hwn] at hs4
  have G := Lib.hid (show Sl wn a4 gs from hs4)
  clear hs4
  clear hwn
  have V := Lib.hid (show Own wn S0 (.slice none 0 0) [] from own_nil _ _)
  have hwS : w.heap.size ≤ S0 := by rw [HS0.out]; exact Nat.le_refl _
  have hSw : S0 ≤ w.heap.size := by rw [HS0.out]; exact Nat.le_refl _
  go_enter Try.func49, Try.ntmps49
  go_wp2_with fail
  go_loopw [7, 12] (fun p u wr => ∃ (k : Nat) (pv : Value) (VL : List Int), p = pv ∧ k ≤ n3 ∧ u = .int .i64 k ∧ VL = pkU ks gs c k ∧ Below w.heap.size w wr ∧ Sl wr a3 ks ∧ Sl wr a4 gs ∧ Own wr S0 pv VL) (fun p u _ => n3 - (intOf u).toNat)
  case atStart => exact ⟨0, _, [], rfl, by omega, rfl, rfl, T.out, Z.out, G.out, V.out⟩
  case' round =>
    clear T Z G V
    obtain ⟨k, pv, VL, rfl, hf, rfl, hVL, h9T, h9Z, h9G, h9V⟩ := hrel
    obtain ⟨wn, hwq⟩ : ∃ w0 : World, w0 = wr := ⟨_, rfl⟩
    rw [← hwq] at h9T h9Z h9G h9V ⊢
    clear hwq
    have T := Lib.hid h9T
    have Z := Lib.hid h9Z
    have G := Lib.hid h9G
    have V := Lib.hid h9V
    clear h9T h9Z h9G h9V
    have hvl : VL.length ≤ k := by rw [hVL]; exact pk_len k
    have HV2 := Lib.hid hVL
    clear hVL
    by_cases hkn : k < n3
    case neg =>
      obtain rfl : k = n3 := by omega
      have KS := Lib.hid (sort_own (w := wn) (B := S0) V.out (by have := T.out.size; omega) (by omega))
      go_wp2_with fail
      refine KS.out.mono ?_
      rintro e w2 ⟨rfl, hO2, hb2⟩
      have hsl : (srt VL).length ≤ 1048577 := by rw [srt_len]; omega
      have T2 := Lib.hid (show Below w.heap.size w w2 from Below.tr T.out (Below.mono hb2 hwS))
      have KC := Lib.hid (compact_own (w := w2) (B := S0) hO2 hsl)
      clear KS hO2 hb2 hsl T V Z G
      go_wp2_with fail
      refine KC.out.mono ?_
      rintro e w3 ⟨u, rfl, hO3, hb3⟩
      have T3 := Lib.hid (show Below w.heap.size w w3 from Below.tr T2.out (Below.mono hb3 hwS))
      have O3 := Lib.hid hO3
      clear KC hO3 hb3 T2
      go_wp2_with fail
      go_ret
      exact ⟨_, rfl, by have h9 := O3.out; rw [HV2.out, ← HS0.out] at h9; exact h9, T3.out⟩
    have hki : (k : Int) < n3 := by omega
    obtain ⟨b3, o3, rfl, hI3⟩ := Sl.at Z.out (k := k) (by rw [HL3.out]; exact hkn)
    obtain ⟨b4, o4, rfl, hI4⟩ := Sl.at G.out (k := k) (by rw [HL4.out]; exact hkn)
    have y3 := hI3 k (by rw [HL3.out]; exact hkn)
    have y4 := hI4 k (by rw [HL4.out]; exact hkn)
    clear hI3 hI4
    by_cases q1 : nth gs k = c
    case neg =>
      have q3 : (nth gs k == (c : Int)) = false := beq_false_of_ne q1
      have HN := Lib.hid (show VL = pkU ks gs c (k + 1) from by unfold pkU; rw [if_neg q1]; exact HV2.out)
      clear q1
      go_wp2_with fail
      go_roundw
      case rel => exact ⟨k + 1, u7, VL, rfl, by omega, by go_num, HN.out, T.out, Z.out, G.out, V.out⟩
      case measure => first | (simp [intOf]; done) | (simp [intOf]; omega) | omega
    have q3 : (nth gs k == (c : Int)) = true := by rw [q1]; exact beq_self_eq_true _
    have HN := Lib.hid (show VL ++ [nth ks k] = pkU ks gs c (k + 1) from by unfold pkU; rw [if_pos q1, ← HV2.out])
    clear q1
    go_wp2_with ((at_builtin; refine wpList_append_wanted rfl _ _ 23 rfl S0 3 i0 (.int .i64 0) 1 8 Try.underlying23 hi hz0 hz1 hz2 rfl (by decide) _ _ _ rfl (Own.alloc V.out _) _ 1 1 [.int .i64 ((nth ks k))] rfl rfl (cell_one_new _ _ _) (by intro u hu; simp at hu; subst hu; rfl) (by unfold maxLen; omega) (by omega) (by have h9 := T.out.size; simp; omega) ?_))
    intro pv2 wn hown hgrow hnil hat
    have lt5 := Own.lt V.out
    have Vn : Hid (Own wn S0 pv2 (VL ++ [(nth ks k)])) := Own.snoc hown
    have Tn : Hid (Below w.heap.size w _) := Below.own (Below.al T.out _) hgrow (fun i e => by have := lt5 i e; omega)
    have Zn : Hid _ := Sl.gr (Sl.al Z.out _) hgrow HBZ.out (fun i e => by have := lt5 i e; omega)
    have Gn : Hid _ := Sl.gr (Sl.al G.out _) hgrow HBG.out (fun i e => by have := lt5 i e; omega)
    clear hown hgrow lt5 hnil hat
    clear V T Z G
    have V := Vn
    have T := Tn
    have Z := Zn
    have G := Gn
    clear Vn Tn Zn Gn
    go_wp2_with fail
    go_roundw
    case rel => exact ⟨k + 1, pv2, VL ++ [nth ks k], rfl, by omega, by go_num, HN.out, T.out, Z.out, G.out, V.out⟩
    case measure => first | (simp [intOf]; done) | (simp [intOf]; omega) | omega
theorem own_cap {w : World} {B : Nat} {a : Option Addr} {n cap : Nat} {xs : List Int} (h : Own w B (.slice a n cap) xs) : n ≤ cap ∧ cap ≤ 9223372036854775807 := by
  obtain ⟨hl, h⟩ := h
  rcases h with ⟨e, h0⟩ | ⟨g, c', cur, e, hb, hh, hlen, hmx, hs, ht⟩
  · simp only [Value.slice.injEq] at e
    omega
  · simp only [Value.slice.injEq] at e
    obtain ⟨-, e1, e2⟩ := e
    unfold maxLen at hmx
    omega
set_option maxHeartbeats 4000000 in
theorem iGroupSum_c (b off cap : Nat) (xs : List Int) (a2 : Option Addr) (n2 c2 : Nat) (cs : List Int) (a3 : Option Addr) (n3 c3 : Nat) (ks : List Int) (a4 : Option Addr) (n4 c4 : Nat) (gs : List Int) (w : World) (hc : Ints w b off xs) (hs : Sl w a2 cs) (hl : cs.length = n2) (hs3 : Sl w a3 ks) (hl3 : ks.length = n3) (hs4 : Sl w a4 gs) (hl4 : gs.length = n4) (hm : xs.length ≤ 1048576) (hm2 : n2 ≤ 1048577) (hm3 : n3 ≤ 1048577) (hm4 : n4 ≤ 1048577) :
    Calls Try.prog 23 #[.slice (some ⟨b, off, none⟩) xs.length cap, .slice a2 n2 c2, .slice a3 n3 c3, .slice a4 n4 c4] w (Mk w (.int .i64 (gsv xs cs ks gs))) := by
  have hmm : xs.length ≤ maxLen := by unfold maxLen; omega
  obtain ⟨P, hP⟩ : ∃ P, gvAB xs cs ks gs = P := ⟨_, rfl⟩
  have K0 := fun w' (h : Ints w' b off xs) (h2 : Sl w' a2 cs) (h3 : Sl w' a3 ks) (h4 : Sl w' a4 gs) => canGive_c b off cap xs a2 n2 c2 cs a3 n3 c3 ks a4 n4 c4 gs w' h h2 hl h3 hl3 h4 hl4 hm hm2 hm3 hm4
  rw [hP] at K0
  have H0 := Lib.hid K0
  have HP := Lib.hid hP
  have HL := Lib.hid hl
  have HL3 := Lib.hid hl3
  have HL4 := Lib.hid hl4
  clear K0 hP hl hl3 hl4
  refine at_base fun wn hwn => ?_
  have T := Lib.hid (show Below w.heap.size w wn from by rw [hwn]; exact Below.refl _ _)
  rw [← hwn] at hc
  have X := Lib.hid (show Ints wn b off xs from hc)
  clear hc
  rw [← hwn] at hs
  have Y := Lib.hid (show Sl wn a2 cs from hs)
  clear hs
  rw [← hwn] at hs3
  have Z := Lib.hid (show Sl wn a3 ks from hs3)
  clear hs3
  rw [← hwn] at hs4
  have G := Lib.hid (show Sl wn a4 gs from hs4)
  clear hs4
  clear hwn
  go_enter Try.func23, Try.ntmps23
  go_wp2_with fail
  refine Calls.mono (H0.out _ X.out Y.out Z.out G.out) ?_
  intro e wn hh
  obtain ⟨he, hb⟩ := (by first | exact hh | exact Ro.mk hh | exact St.mk hh | exact LawOk.mk' hh : Mk _ _ e wn)
  subst he
  have Tn : Hid (Below w.heap.size w wn) := below_next T.out hb
  have Xn : Hid _ := Ints.below X.out hb
  have Yn : Hid _ := Sl.below Y.out hb
  have Zn : Hid _ := Sl.below Z.out hb
  have Gn : Hid _ := Sl.below G.out hb
  clear hb hh
  clear T X Y Z G
  have T := Tn
  have X := Xn
  have Y := Yn
  have Z := Zn
  have G := Gn
  clear Tn Xn Yn Zn Gn
  cases P
  case false =>
    have E := Lib.hid (gsv_f (xs := xs) (cs := cs) (ks := ks) (gs := gs) fun h => by have := tr_true h; rw [show tr (Gv xs cs ks gs) = false from HP.out] at this; cases this)
    go_wp2_with fail
    go_ret
    exact Mk.i E.out T.out
  have hg : Gv xs cs ks gs := tr_t.1 HP.out
  have hn34 : n4 = n3 := by rw [← HL4.out, ← HL3.out]; exact hg.2.2
  subst hn34
  have HV := Lib.hid (show ∀ k, k < gs.length → 0 ≤ nth gs k ∧ nth gs k < n2 from by have := hg.2.1; rw [HL.out] at this; exact this)
  have E := Lib.hid (gsv_t hg)
  have HF := Lib.hid hg.1.1
  have HO := Lib.hid hg.1.2.2.1.1
  have HOK := Lib.hid hg.1.2.2.2.1
  have hcn4 : n2 ≤ 4 := by have := hg.1.2.2.1.2; rw [HL.out] at this; omega
  have hx8 := hg.1.1.2.1
  have hBD := Lib.hid fun n h => gsU_bd (xs := xs) (cs := cs) (ks := ks) (gs := gs) hg.1.1 hg.1.2.2.1.1 n h
  clear hg
  go_wp2_with fail
  go_loopw [9, 20] (fun u v wr => ∃ (c : Nat) (S : Int), c ≤ n2 ∧ u = .int .i64 S ∧ v = .int .i64 c ∧ (S = gsU xs cs ks gs c) ∧ Below w.heap.size w wr ∧ Ints wr b off xs ∧ Sl wr a2 cs ∧ Sl wr a3 ks ∧ Sl wr a4 gs) (fun u v _ => n2 - (intOf v).toNat)
  case atStart => exact ⟨0, 0, by omega, rfl, rfl, rfl, T.out, X.out, Y.out, Z.out, G.out⟩
  case' round =>
    clear T X Y Z G
    obtain ⟨c, S, hk, rfl, rfl, hS, h9T, h9X, h9Y, h9Z, h9G⟩ := hrel
    obtain ⟨wn, hwq⟩ : ∃ w0 : World, w0 = wr := ⟨_, rfl⟩
    rw [← hwq] at h9T h9X h9Y h9Z h9G ⊢
    clear hwq
    have T := Lib.hid h9T
    have X := Lib.hid h9X
    have Y := Lib.hid h9Y
    have Z := Lib.hid h9Z
    have G := Lib.hid h9G
    clear h9T h9X h9Y h9Z h9G
    have hSb := hBD.out c (by rw [HL.out]; exact hk)
    rw [← hS] at hSb
    obtain ⟨hS0, hS1⟩ := hSb
    have HS := Lib.hid hS
    clear hS
    by_cases hlt : c < n2
    case neg =>
      obtain rfl : c = n2 := by omega
      have E2 := Lib.hid (show gsv xs cs ks gs = S from by rw [E.out, HS.out]; unfold gsum; rw [HL.out])
      go_wp2_with fail
      go_ret
      exact Mk.i E2.out T.out
    have hci : (c : Int) < n2 := by omega
    have hvo := vis_vo (xs := xs) (ks := ks) (gs := gs) (c := (c : Int)) HF.out
    have hoc := HO.out _ (nthm (show c < cs.length from by rw [HL.out]; exact hlt))
    have hv8 : (vis xs ks gs c).length ≤ 8 := Nat.le_trans (vis_len _) hx8
    have KV := fun w' (h3 : Sl w' a3 ks) (h4 : Sl w' a4 gs) => visitsOf_c a3 n4 c3 ks a4 c4 gs c w' h3 HL3.out h4 HL4.out hm3
    rw [show pkU ks gs c n4 = pkU ks gs c ks.length from by rw [HL3.out], vis_pk HOK.out] at KV
    obtain ⟨VL, hVL⟩ : ∃ VL, vis xs ks gs c = VL := ⟨_, rfl⟩
    have hD0 : 0 ≤ swv xs (nth cs c) VL ∧ swv xs (nth cs c) VL ≤ 480 := by
      rw [← hVL]
      exact ⟨swv_ge HF.out hvo hoc, swv_le HF.out hvo hoc hv8⟩
    rw [hVL] at KV hv8
    obtain ⟨D, hD⟩ : ∃ D, swv xs (nth cs c) VL = D := ⟨_, rfl⟩
    have HN := Lib.hid (show S + D = gsU xs cs ks gs (c + 1) from by
      show _ = gsU xs cs ks gs c + swv xs (nth cs c) (vis xs ks gs c)
      rw [hVL, hD, ← HS.out])
    have K2 := fun (w' : World) (a5 : Option Addr) (c5 : Nat) (h : Ints w' b off xs) (h2 : Sl w' a5 VL) (h9 : VL.length ≤ c5) (h8 : c5 ≤ 9223372036854775807) => iShortWay_c b off cap xs (nth cs c) a5 VL.length c5 VL w' h h2 rfl hm (by omega) h9 h8
    rw [hD] at K2 hD0
    obtain ⟨b2, o2, rfl, hI2⟩ := Sl.at Y.out (k := c) (by rw [HL.out]; exact hlt)
    have y2 := hI2 c (by rw [HL.out]; exact hlt)
    have hSD : -9223372036854775808 ≤ S + D ∧ S + D ≤ 9223372036854775807 := by omega
    have HKV := Lib.hid KV
    have HK2 := Lib.hid K2
    clear KV K2 hD hI2 hvo hoc hVL
    go_wp2_with fail
    refine Calls.mono (HKV.out _ Z.out G.out) ?_
    intro e wq hh
    obtain ⟨lo9, hi9, p9, c9, rfl, -, hO, hb9⟩ := NewI.get hh
    have hcp := own_cap hO.1
    have L9n := Lib.hid (OwnI.rd hO)
    clear hO hh HKV y2
    have Tn := Lib.hid (below_next T.out hb9)
    have Xn := Lib.hid (Ints.below X.out hb9)
    have Yn := Lib.hid (Sl.below Y.out hb9)
    have Zn := Lib.hid (Sl.below Z.out hb9)
    have Gn := Lib.hid (Sl.below G.out hb9)
    clear hb9
    clear T X Y Z G
    have T := Tn
    have X := Xn
    have Y := Yn
    have Z := Zn
    have G := Gn
    clear Tn Xn Yn Zn Gn
    obtain ⟨wn, hwq⟩ : ∃ w0, w0 = wq := ⟨_, rfl⟩
    subst hwq
    have L9 := L9n
    clear L9n
    go_wp2_with fail
    refine Calls.mono (HK2.out _ _ _ X.out L9.out hcp.1 hcp.2) ?_
    intro e wn hh
    obtain ⟨he, hb⟩ := (by first | exact hh | exact Ro.mk hh | exact St.mk hh | exact LawOk.mk' hh : Mk _ _ e wn)
    subst he
    have Tn : Hid (Below w.heap.size w wn) := below_next T.out hb
    have Xn : Hid _ := Ints.below X.out hb
    have Yn : Hid _ := Sl.below Y.out hb
    have Zn : Hid _ := Sl.below Z.out hb
    have Gn : Hid _ := Sl.below G.out hb
    clear hb hh
    clear T X Y Z G
    have T := Tn
    have X := Xn
    have Y := Yn
    have Z := Zn
    have G := Gn
    clear Tn Xn Yn Zn Gn
    clear L9 HK2 hcp
    go_wp2_with fail
    go_roundw
    case rel => exact ⟨c + 1, S + D, by omega, by go_num, by go_num, HN.out, T.out, X.out, Y.out, Z.out, G.out⟩
    case measure => first | (simp [intOf]; done) | (simp [intOf]; omega) | omega
end Go.Proofs.Ytgiioponimiddaa

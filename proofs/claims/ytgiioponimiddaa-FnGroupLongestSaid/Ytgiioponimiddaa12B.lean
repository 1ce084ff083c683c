/- The model's GroupLongest. -/
import Derived.Test.Ytgiioponimiddaa12A
import Derived.Test.YtgiioponimiddaaQ
namespace Go.Proofs.Ytgiioponimiddaa
open Go.RowKit
set_option linter.unusedVariables false
set_option linter.unusedSimpArgs false
set_option maxRecDepth 100000

/-- A group, and a list that tells a car for each call. -/
def Gv (xs cs ks gs : List Int) : Prop := GOk xs cs ks ∧ GvOk cs.length ks.length gs
noncomputable def glv (xs cs ks gs : List Int) : Int := @ite _ (Gv xs cs ks gs) (Classical.propDecidable _) (lng xs cs ks gs ks.length) (-1)
theorem glv_t {xs cs ks gs : List Int} (h : Gv xs cs ks gs) : glv xs cs ks gs = lng xs cs ks gs ks.length := by unfold glv; rw [if_pos h]
theorem glv_f {xs cs ks gs : List Int} (h : ¬ Gv xs cs ks gs) : glv xs cs ks gs = -1 := by unfold glv; rw [if_neg h]
noncomputable def gsv (xs cs ks gs : List Int) : Int := @ite _ (Gv xs cs ks gs) (Classical.propDecidable _) (gsum xs cs ks gs) (-1)
theorem gsv_t {xs cs ks gs : List Int} (h : Gv xs cs ks gs) : gsv xs cs ks gs = gsum xs cs ks gs := by unfold gsv; rw [if_pos h]
theorem gsv_f {xs cs ks gs : List Int} (h : ¬ Gv xs cs ks gs) : gsv xs cs ks gs = -1 := by unfold gsv; rw [if_neg h]
set_option maxHeartbeats 2000000 in
theorem sGroupLongest_c (b off cap : Nat) (xs : List Int) (a2 : Option Addr) (n2 c2 : Nat) (cs : List Int) (a3 : Option Addr) (n3 c3 : Nat) (ks : List Int) (a4 : Option Addr) (n4 c4 : Nat) (gs : List Int) (w : World) (hc : Ints w b off xs) (hs : Sl w a2 cs) (hl : cs.length = n2) (hs3 : Sl w a3 ks) (hl3 : ks.length = n3) (hs4 : Sl w a4 gs) (hl4 : gs.length = n4) (hm : xs.length ≤ 1048576) (hm2 : n2 ≤ 1048577) (hm3 : n3 ≤ 1048577) (hm4 : n4 ≤ 1048577) :
    Calls Try.prog 19 #[.slice (some ⟨b, off, none⟩) xs.length cap, .slice a2 n2 c2, .slice a3 n3 c3, .slice a4 n4 c4] w (Mk w (.int .i64 (glv xs cs ks gs))) := by
  have hmm : xs.length ≤ maxLen := by unfold maxLen; omega
  obtain ⟨P, hP⟩ : ∃ P, gokB xs cs ks = P := ⟨_, rfl⟩
  obtain ⟨Q, hQ⟩ : ∃ Q, gvB n2 n3 gs = Q := ⟨_, rfl⟩
  have K0 := fun w' (h : Ints w' b off xs) (h2 : Sl w' a2 cs) (h3 : Sl w' a3 ks) => sGroupOk_c b off cap xs a2 n2 c2 cs a3 n3 c3 ks w' h h2 hl h3 hl3 hm hm2 hm3
  have K1 := fun w' (h : Sl w' a4 gs) => sL12Give_c a2 n2 c2 a3 n3 c3 a4 n4 c4 gs w' h hl4 hm2 hm3 hm4
  rw [hP] at K0
  rw [hQ] at K1
  have H0 := Lib.hid K0
  have H1 := Lib.hid K1
  have HP := Lib.hid hP
  have HQ := Lib.hid hQ
  have HL := Lib.hid hl
  have HL3 := Lib.hid hl3
  have HL4 := Lib.hid hl4
  clear K0 K1 hP hQ hl hl3 hl4
  refine at_base fun wn hwn => ?_
  have T := Lib.hid (show Below w.heap.size w wn from by rw [hwn]; exact Below.refl _ _)
  rw [← hwn] at hc
  have X := Lib.hid (show Ints wn b off xs from hc)
  clear hc
  rw [← hwn] at hs
  have Y := Lib.hid (show Sl wn a2 cs from hs)
  clear hs
  rw [← hwn] at hs3
  have Z := Lib.hid (show Sl wn a3 ks from hs3)
  clear hs3
  rw [← hwn] at hs4
  have G := Lib.hid (show Sl wn a4 gs from hs4)
  clear hs4
  clear hwn
  go_enter Try.func19, Try.ntmps19
  go_wp2_with fail
  refine Calls.mono (H0.out _ X.out Y.out Z.out) ?_
  intro e wn hh
  obtain ⟨he, hb⟩ := (by first | exact hh | exact Ro.mk hh | exact St.mk hh | exact LawOk.mk' hh : Mk _ _ e wn)
  subst he
  have Tn : Hid (Below w.heap.size w wn) := below_next T.out hb
  have Xn : Hid _ := Ints.below X.out hb
  have Yn : Hid _ := Sl.below Y.out hb
  have Zn : Hid _ := Sl.below Z.out hb
  have Gn : Hid _ := Sl.below G.out hb
  clear hb hh
  clear T X Y Z G
  have T := Tn
  have X := Xn
  have Y := Yn
  have Z := Zn
  have G := Gn
  clear Tn Xn Yn Zn Gn
  cases P
  case false =>
    have E := Lib.hid (glv_f (xs := xs) (cs := cs) (ks := ks) (gs := gs) fun h => by have := tr_true h.1; rw [show tr (GOk xs cs ks) = false from HP.out] at this; cases this)
    go_wp2_with fail
    go_ret
    exact Mk.i E.out T.out
  go_wp2_with fail
  refine Calls.mono (H1.out _ G.out) ?_
  intro e wn hh
  obtain ⟨he, hb⟩ := (by first | exact hh | exact Ro.mk hh | exact St.mk hh | exact LawOk.mk' hh : Mk _ _ e wn)
  subst he
  have Tn : Hid (Below w.heap.size w wn) := below_next T.out hb
  have Xn : Hid _ := Ints.below X.out hb
  have Yn : Hid _ := Sl.below Y.out hb
  have Zn : Hid _ := Sl.below Z.out hb
  have Gn : Hid _ := Sl.below G.out hb
  clear hb hh
  clear T X Y Z G
  have T := Tn
  have X := Xn
  have Y := Yn
  have Z := Zn
  have G := Gn
  clear Tn Xn Yn Zn Gn
  cases Q
  case false =>
    have E := Lib.hid (glv_f (xs := xs) (cs := cs) (ks := ks) (gs := gs) fun h => by have h2 := h.2; rw [HL.out, HL3.out] at h2; have := tr_true h2; rw [show tr (GvOk n2 n3 gs) = false from HQ.out] at this; cases this)
    go_wp2_with fail
    go_ret
    exact Mk.i E.out T.out
  have hgk : GOk xs cs ks := tr_t.1 HP.out
  have hgv : GvOk n2 n3 gs := tr_t.1 HQ.out
  have hn34 : n4 = n3 := by rw [← HL4.out]; exact hgv.2
  subst hn34
  have HV := Lib.hid hgv.1
  have E := Lib.hid (glv_t (xs := xs) (cs := cs) (ks := ks) (gs := gs) ⟨hgk, by rw [HL.out, HL3.out]; exact hgv⟩)
  clear hgk hgv
  go_wp2_with fail
  go_loopw [9, 10] (fun u v wr => ∃ (k : Nat) (M : Int), k ≤ n4 ∧ u = .int .i64 M ∧ v = .int .i64 k ∧ (M = lng xs cs ks gs k) ∧ Below w.heap.size w wr ∧ Ints wr b off xs ∧ Sl wr a2 cs ∧ Sl wr a3 ks ∧ Sl wr a4 gs) (fun u v _ => n4 - (intOf v).toNat)
  case atStart => exact ⟨0, 0, by omega, rfl, rfl, rfl, T.out, X.out, Y.out, Z.out, G.out⟩
  case' round =>
    clear T X Y Z G
    obtain ⟨k, M, hk, rfl, rfl, hM, h9T, h9X, h9Y, h9Z, h9G⟩ := hrel
    obtain ⟨wn, hwq⟩ : ∃ w0 : World, w0 = wr := ⟨_, rfl⟩
    rw [← hwq] at h9T h9X h9Y h9Z h9G ⊢
    clear hwq
    have T := Lib.hid h9T
    have X := Lib.hid h9X
    have Y := Lib.hid h9Y
    have Z := Lib.hid h9Z
    have G := Lib.hid h9G
    clear h9T h9X h9Y h9Z h9G
    have HM := Lib.hid hM
    clear hM
    by_cases hlt : k < n4
    case neg =>
      obtain rfl : k = n4 := by omega
      have E2 := Lib.hid (show glv xs cs ks gs = M from by rw [E.out, HL3.out, HM.out])
      go_wp2_with fail
      go_ret
      exact Mk.i E2.out T.out
    have hki : (k : Int) < n4 := by omega
    obtain ⟨g0, g1⟩ := HV.out k (by rw [HL4.out]; exact hlt)
    obtain ⟨c, hce⟩ : ∃ c : Nat, nth gs k = c := ⟨(nth gs k).toNat, by omega⟩
    have hcn : c < n2 := by omega
    have hci : (c : Int) < n2 := by omega
    obtain ⟨b2, o2, rfl, hI2⟩ := Sl.at Y.out (k := c) (by rw [HL.out]; exact hcn)
    obtain ⟨b3, o3, rfl, hI3⟩ := Sl.at Z.out (k := k) (by rw [HL3.out]; exact hlt)
    obtain ⟨b4, o4, rfl, hI4⟩ := Sl.at G.out (k := k) (by rw [HL4.out]; exact hlt)
    have y2 := hI2 c (by rw [HL.out]; exact hcn)
    have y3 := hI3 k (by rw [HL3.out]; exact hlt)
    have y4 := hI4 k (by rw [HL4.out]; exact hlt)
    rw [hce] at y4
    obtain ⟨D, hD⟩ : ∃ D, fw xs (nth cs c) (nth ks k) = D := ⟨_, rfl⟩
    have K2 := fun w' (h : Ints w' b off xs) => sFloorWay_c b off cap xs (nth cs c) (nth ks k) w' h hmm
    rw [hD] at K2
    have H2 := Lib.hid K2
    obtain ⟨M2, hM2⟩ : ∃ M2, (if D > M then D else M) = M2 := ⟨_, rfl⟩
    have HM2 := Lib.hid hM2
    have HN := Lib.hid (show M2 = lng xs cs ks gs (k + 1) from by
      unfold lng
      rw [hce, Int.toNat_natCast, hD, ← HM.out, ← hM2]
      split <;> omega)
    have Y2 := Lib.hid y2
    have Y3 := Lib.hid y3
    have Y4 := Lib.hid y4
    clear K2 hD hM2 hI2 hI3 hI4 g0 g1 hce y2 y3 y4
    go_upto_region 7 with fail
    refine wp_region_quiet_late (C := fun w' => Below (World.heap (wn)).size (wn) w') 14 _ (by kernel_rfl) (by kernel_rfl) (by kernel_rfl) (by kernel_rfl) (by rfl) (by kernel_rfl) (by kernel_rfl) (by first | exact ⟨rfl, rfl, rfl, Nat.le_refl _, fun _ _ => rfl⟩ | exact Below.dw (by repeat (first | exact Below.refl _ _ | refine Below.al ?_ _ | refine Below.dr ?_ _ | refine Below.dw ?_ | refine Below.st ?_ (by first | exact Nat.le_refl _ | exact Nat.le_add_right _ _ | (simp; omega)) _ | (refine below_next ?_ (by assumption))))) ?_
    simp only [List.take_succ_cons, List.take_zero]
    repeat (go_big_quiet_step (first | (intro _; with_reducible exact rfl) | (intro hC; go_at_call 45; have y2 := cell_below Y2.out hC; have y3 := cell_below Y3.out hC; have y4 := cell_below Y4.out hC; (refine Calls.mono (H2.out _ (Ints.below X.out hC)) ?_); (first | (rintro e wx ⟨rfl, hb⟩; exact ⟨rfl, below_next hC hb⟩) | (rintro e wx ⟨rfl, n, rfl⟩; exact ⟨rfl, Below.dr hC n⟩) | (rintro e wx ⟨rfl, rfl⟩; exact ⟨rfl, hC⟩))) | (intro hC; have y2 := cell_below Y2.out hC; have y3 := cell_below Y3.out hC; have y4 := cell_below Y4.out hC; go_simp; rfl)))
    refine wpQuiet_nil ?_
    intro wq hq
    have Tn := Lib.hid (below_next T.out hq)
    have Xn := Lib.hid (Ints.below X.out hq)
    have Yn := Lib.hid (Sl.below Y.out hq)
    have Zn := Lib.hid (Sl.below Z.out hq)
    have Gn := Lib.hid (Sl.below G.out hq)
    clear hq
    clear T X Y Z G
    have T := Tn
    have X := Xn
    have Y := Yn
    have Z := Zn
    have G := Gn
    clear Tn Xn Yn Zn Gn
    obtain ⟨wn, hwq⟩ : ∃ w0, w0 = wq := ⟨_, rfl⟩
    subst hwq
    go_wp2_with (with_reducible refine wpList_max rfl rfl HM2.out ?_)
    go_wp2_with fail
    go_roundw
    case rel => exact ⟨k + 1, M2, by omega, rfl, by go_num, HN.out, T.out, X.out, Y.out, Z.out, G.out⟩
    case measure => first | (simp [intOf]; done) | (simp [intOf]; omega) | omega
end Go.Proofs.Ytgiioponimiddaa

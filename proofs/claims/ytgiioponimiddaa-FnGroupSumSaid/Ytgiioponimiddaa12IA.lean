/- The program's areFloors, GroupOk, canGive. -/
import Derived.Test.Ytgiioponimiddaa12E
namespace Go.Proofs.Ytgiioponimiddaa
open Go.RowKit
set_option linter.unusedVariables false
set_option linter.unusedSimpArgs false
set_option maxRecDepth 100000

noncomputable def oklB (xs ys : List Int) : Bool := tr (OkL xs ys)
set_option maxHeartbeats 2000000 in
theorem areFloors_c (b off cap : Nat) (xs : List Int) (a2 : Option Addr) (n2 c2 : Nat) (ys : List Int) (w : World) (hc : Ints w b off xs) (hs : Sl w a2 ys) (hl : ys.length = n2) (hm : xs.length ≤ 1048576) (hm2 : n2 ≤ 1048577) :
    Calls Try.prog 38 #[.slice (some ⟨b, off, none⟩) xs.length cap, .slice a2 n2 c2] w (Mk w (.bool (oklB xs ys))) := by
  have hmm : xs.length ≤ maxLen := by unfold maxLen; omega
  have HL := Lib.hid hl
  clear hl
  refine at_base fun wn hwn => ?_
  have T := Lib.hid (show Below w.heap.size w wn from by rw [hwn]; exact Below.refl _ _)
  rw [← hwn] at hc
  have X := Lib.hid (show Ints wn b off xs from hc)
  clear hc
  rw [← hwn] at hs
  have Y := Lib.hid (show Sl wn a2 ys from hs)
  clear hs
  clear hwn
  go_enter Try.func38, Try.ntmps38
  go_wp2_with fail
  go_loopw [9] (fun v wr => ∃ k : Nat, k ≤ n2 ∧ v = .int .i64 k ∧ (∀ i, i < k → okF xs (nth ys i)) ∧ Below w.heap.size w wr ∧ Ints wr b off xs ∧ Sl wr a2 ys) (fun v _ => n2 - (intOf v).toNat)
  case atStart => exact ⟨0, by omega, rfl, (fun i hi => by omega), T.out, X.out, Y.out⟩
  case' round =>
    clear T X Y
    obtain ⟨k, hk, rfl, hall, h9T, h9X, h9Y⟩ := hrel
    obtain ⟨wn, hwq⟩ : ∃ w0 : World, w0 = wr := ⟨_, rfl⟩
    rw [← hwq] at h9T h9X h9Y ⊢
    clear hwq
    have T := Lib.hid h9T
    have X := Lib.hid h9X
    have Y := Lib.hid h9Y
    clear h9T h9X h9Y
    have HA := Lib.hid hall
    clear hall
    by_cases hlt : k < n2
    case neg =>
      obtain rfl : k = n2 := by omega
      have E := Lib.hid (show oklB xs ys = true from tr_true (okl_nth.2 (fun i hi => HA.out i (by rw [← HL.out]; exact hi))))
      go_wp2_with fail
      go_ret
      exact Mk.b E.out T.out
    obtain ⟨b2, o2, rfl, hI⟩ := Sl.at Y.out (k := k) (by rw [HL.out]; exact hlt)
    have y1 := hI k (by rw [HL.out]; exact hlt)
    have hki : (k : Int) < n2 := by omega
    clear hI
    by_cases hr : okF xs (nth ys k)
    case neg =>
      have t1 := okB_f hr
      have E := Lib.hid (show oklB xs ys = false from tr_false fun g => hr (okl_nth.1 g k (by rw [HL.out]; exact hlt)))
      clear hr
      go_wp2_with fail
      refine Calls.mono (isFloor_c _ xs cap _ _ hmm) ?_
      intro e wn hh
      obtain ⟨he, hb⟩ := (by first | exact hh | exact Ro.mk hh | exact St.mk hh | exact LawOk.mk' hh : Mk _ _ e wn)
      subst he
      have Tn : Hid (Below w.heap.size w wn) := below_next T.out hb
      have Xn : Hid _ := Ints.below X.out hb
      have Yn : Hid _ := Sl.below Y.out hb
      clear hb hh
      clear T X Y
      have T := Tn
      have X := Xn
      have Y := Yn
      clear Tn Xn Yn
      go_wp2_with fail
      go_ret
      exact Mk.b E.out T.out
    have t1 := okB_t hr
    have HN := Lib.hid (show ∀ i, i < k + 1 → okF xs (nth ys i) from fun i hi => by
      by_cases e : i = k
      · subst e; exact hr
      · exact HA.out i (by omega))
    clear hr
    go_wp2_with fail
    refine Calls.mono (isFloor_c _ xs cap _ _ hmm) ?_
    intro e wn hh
    obtain ⟨he, hb⟩ := (by first | exact hh | exact Ro.mk hh | exact St.mk hh | exact LawOk.mk' hh : Mk _ _ e wn)
    subst he
    have Tn : Hid (Below w.heap.size w wn) := below_next T.out hb
    have Xn : Hid _ := Ints.below X.out hb
    have Yn : Hid _ := Sl.below Y.out hb
    clear hb hh
    clear T X Y
    have T := Tn
    have X := Xn
    have Y := Yn
    clear Tn Xn Yn
    clear y1
    go_wp2_with fail
    go_roundw
    case rel => exact ⟨k + 1, by omega, by go_num, HN.out, T.out, X.out, Y.out⟩
    case measure => first | (simp [intOf]; done) | (simp [intOf]; omega) | omega
set_option maxHeartbeats 2000000 in
theorem iGroupOk_c (b off cap : Nat) (xs : List Int) (a2 : Option Addr) (n2 c2 : Nat) (cs : List Int) (a3 : Option Addr) (n3 c3 : Nat) (ks : List Int) (w : World) (hc : Ints w b off xs) (hs : Sl w a2 cs) (hl : cs.length = n2) (hs3 : Sl w a3 ks) (hl3 : ks.length = n3) (hm : xs.length ≤ 1048576) (hm2 : n2 ≤ 1048577) (hm3 : n3 ≤ 1048577) :
    Calls Try.prog 14 #[.slice (some ⟨b, off, none⟩) xs.length cap, .slice a2 n2 c2, .slice a3 n3 c3] w (Mk w (.bool (gokB xs cs ks))) := by
  obtain ⟨V, hV⟩ : ∃ V, fvB xs = V := ⟨_, rfl⟩
  obtain ⟨P, hP⟩ : ∃ P, oklB xs cs = P := ⟨_, rfl⟩
  obtain ⟨Q, hQ⟩ : ∃ Q, oklB xs ks = Q := ⟨_, rfl⟩
  have e : gokB xs cs ks = (V && decide (0 < n2) && decide (n2 ≤ 4) && decide (n3 ≤ 5) && P && Q) := by
    rw [← hV, ← hP, ← hQ]
    refine tr_eq ?_
    simp only [Bool.and_eq_true, decide_eq_true_iff, fvB, oklB]
    rw [tr_t, tr_t, tr_t, ← hl, ← hl3]
    exact ⟨fun h => ⟨⟨⟨⟨⟨h.1, h.2.1⟩, by have := h.2.2.1.2; omega⟩, by have := h.2.2.2.2; omega⟩, h.2.2.1.1⟩, h.2.2.2.1⟩, fun h => ⟨h.1.1.1.1.1, h.1.1.1.1.2, ⟨h.1.2, by have := h.1.1.1.2; omega⟩, ⟨h.2, by have := h.1.1.2; omega⟩⟩⟩
  have K0 := fun w' (h : Ints w' b off xs) => iFloorsValid_c b off cap xs w' h (by unfold maxLen; omega)
  have K1 := fun w' (h : Ints w' b off xs) (h2 : Sl w' a2 cs) => areFloors_c b off cap xs a2 n2 c2 cs w' h h2 hl hm hm2
  have K2 := fun w' (h : Ints w' b off xs) (h2 : Sl w' a3 ks) => areFloors_c b off cap xs a3 n3 c3 ks w' h h2 hl3 hm hm3
  rw [hV] at K0
  rw [hP] at K1
  rw [hQ] at K2
  have H0 := Lib.hid K0
  have H1 := Lib.hid K1
  have H2 := Lib.hid K2
  have HE := Lib.hid e
  clear K0 K1 K2 hV hP hQ e hl hl3
  refine at_base fun wn hwn => ?_
  have T := Lib.hid (show Below w.heap.size w wn from by rw [hwn]; exact Below.refl _ _)
  rw [← hwn] at hc
  have X := Lib.hid (show Ints wn b off xs from hc)
  clear hc
  rw [← hwn] at hs
  have Y := Lib.hid (show Sl wn a2 cs from hs)
  clear hs
  rw [← hwn] at hs3
  have Z := Lib.hid (show Sl wn a3 ks from hs3)
  clear hs3
  clear hwn
  go_enter Try.func14, Try.ntmps14
  go_wp2_with fail
  refine Calls.mono (H0.out _ X.out) ?_
  intro e wn hh
  obtain ⟨he, hb⟩ := (by first | exact hh | exact Ro.mk hh | exact St.mk hh | exact LawOk.mk' hh : Mk _ _ e wn)
  subst he
  have Tn : Hid (Below w.heap.size w wn) := below_next T.out hb
  have Xn : Hid _ := Ints.below X.out hb
  have Yn : Hid _ := Sl.below Y.out hb
  have Zn : Hid _ := Sl.below Z.out hb
  clear hb hh
  clear T X Y Z
  have T := Tn
  have X := Xn
  have Y := Yn
  have Z := Zn
  clear Tn Xn Yn Zn
  cases V
  case false =>
    have E := Lib.hid (show gokB xs cs ks = false from by rw [HE.out]; rfl)
    go_wp2_with fail
    go_ret
    exact Mk.b E.out T.out
  by_cases h1 : 0 < n2
  case neg =>
    obtain rfl : n2 = 0 := by omega
    have E := Lib.hid (show gokB xs cs ks = false from by rw [HE.out]; rfl)
    go_wp2_with fail
    go_ret
    exact Mk.b E.out T.out
  have h1i : (1 : Int) ≤ n2 := by omega
  by_cases h2 : n2 ≤ 4
  case neg =>
    have h2i : ¬ (n2 : Int) ≤ 4 := by omega
    have E := Lib.hid (show gokB xs cs ks = false from by rw [HE.out, decide_eq_false h2]; simp)
    clear h2
    go_wp2_with fail
    go_ret
    exact Mk.b E.out T.out
  have h2i : (n2 : Int) ≤ 4 := by omega
  by_cases h3 : n3 ≤ 5
  case neg =>
    have h3i : ¬ (n3 : Int) ≤ 5 := by omega
    have E := Lib.hid (show gokB xs cs ks = false from by rw [HE.out, decide_eq_false h3]; simp)
    clear h3
    go_wp2_with fail
    go_ret
    exact Mk.b E.out T.out
  have h3i : (n3 : Int) ≤ 5 := by omega
  have HE2 := Lib.hid (show gokB xs cs ks = (P && Q) from by rw [HE.out, decide_eq_true h1, decide_eq_true h2, decide_eq_true h3]; simp)
  clear h1 h2 h3
  go_wp2_with fail
  refine Calls.mono (H1.out _ X.out Y.out) ?_
  intro e wn hh
  obtain ⟨he, hb⟩ := (by first | exact hh | exact Ro.mk hh | exact St.mk hh | exact LawOk.mk' hh : Mk _ _ e wn)
  subst he
  have Tn : Hid (Below w.heap.size w wn) := below_next T.out hb
  have Xn : Hid _ := Ints.below X.out hb
  have Yn : Hid _ := Sl.below Y.out hb
  have Zn : Hid _ := Sl.below Z.out hb
  clear hb hh
  clear T X Y Z
  have T := Tn
  have X := Xn
  have Y := Yn
  have Z := Zn
  clear Tn Xn Yn Zn
  cases P
  case false =>
    have E := Lib.hid (show gokB xs cs ks = false from by rw [HE2.out]; rfl)
    go_wp2_with fail
    go_ret
    exact Mk.b E.out T.out
  go_wp2_with fail
  refine Calls.mono (H2.out _ X.out Z.out) ?_
  intro e wn hh
  obtain ⟨he, hb⟩ := (by first | exact hh | exact Ro.mk hh | exact St.mk hh | exact LawOk.mk' hh : Mk _ _ e wn)
  subst he
  have Tn : Hid (Below w.heap.size w wn) := below_next T.out hb
  have Xn : Hid _ := Ints.below X.out hb
  have Yn : Hid _ := Sl.below Y.out hb
  have Zn : Hid _ := Sl.below Z.out hb
  clear hb hh
  clear T X Y Z
  have T := Tn
  have X := Xn
  have Y := Yn
  have Z := Zn
  clear Tn Xn Yn Zn
  have E := Lib.hid (show gokB xs cs ks = Q from by rw [HE2.out]; rfl)
  go_wp2_with fail
  go_ret
  exact Mk.b E.out T.out
noncomputable def gvAB (xs cs ks gs : List Int) : Bool := tr (Gv xs cs ks gs)
set_option maxHeartbeats 2000000 in
theorem canGive_c (b off cap : Nat) (xs : List Int) (a2 : Option Addr) (n2 c2 : Nat) (cs : List Int) (a3 : Option Addr) (n3 c3 : Nat) (ks : List Int) (a4 : Option Addr) (n4 c4 : Nat) (gs : List Int) (w : World) (hc : Ints w b off xs) (hs : Sl w a2 cs) (hl : cs.length = n2) (hs3 : Sl w a3 ks) (hl3 : ks.length = n3) (hs4 : Sl w a4 gs) (hl4 : gs.length = n4) (hm : xs.length ≤ 1048576) (hm2 : n2 ≤ 1048577) (hm3 : n3 ≤ 1048577) (hm4 : n4 ≤ 1048577) :
    Calls Try.prog 43 #[.slice (some ⟨b, off, none⟩) xs.length cap, .slice a2 n2 c2, .slice a3 n3 c3, .slice a4 n4 c4] w (Mk w (.bool (gvAB xs cs ks gs))) := by
  obtain ⟨P, hP⟩ : ∃ P, gokB xs cs ks = P := ⟨_, rfl⟩
  have K0 := fun w' (h : Ints w' b off xs) (h2 : Sl w' a2 cs) (h3 : Sl w' a3 ks) => iGroupOk_c b off cap xs a2 n2 c2 cs a3 n3 c3 ks w' h h2 hl h3 hl3 hm hm2 hm3
  rw [hP] at K0
  have H0 := Lib.hid K0
  have HP := Lib.hid hP
  have HL := Lib.hid hl
  have HL3 := Lib.hid hl3
  have HL4 := Lib.hid hl4
  clear K0 hP hl hl3 hl4
  refine at_base fun wn hwn => ?_
  have T := Lib.hid (show Below w.heap.size w wn from by rw [hwn]; exact Below.refl _ _)
  rw [← hwn] at hc
  have X := Lib.hid (show Ints wn b off xs from hc)
  clear hc
  rw [← hwn] at hs
  have Y := Lib.hid (show Sl wn a2 cs from hs)
  clear hs
  rw [← hwn] at hs3
  have Z := Lib.hid (show Sl wn a3 ks from hs3)
  clear hs3
  rw [← hwn] at hs4
  have G := Lib.hid (show Sl wn a4 gs from hs4)
  clear hs4
  clear hwn
  go_enter Try.func43, Try.ntmps43
  go_wp2_with fail
  refine Calls.mono (H0.out _ X.out Y.out Z.out) ?_
  intro e wn hh
  obtain ⟨he, hb⟩ := (by first | exact hh | exact Ro.mk hh | exact St.mk hh | exact LawOk.mk' hh : Mk _ _ e wn)
  subst he
  have Tn : Hid (Below w.heap.size w wn) := below_next T.out hb
  have Xn : Hid _ := Ints.below X.out hb
  have Yn : Hid _ := Sl.below Y.out hb
  have Zn : Hid _ := Sl.below Z.out hb
  have Gn : Hid _ := Sl.below G.out hb
  clear hb hh
  clear T X Y Z G
  have T := Tn
  have X := Xn
  have Y := Yn
  have Z := Zn
  have G := Gn
  clear Tn Xn Yn Zn Gn
  cases P
  case false =>
    have E := Lib.hid (show gvAB xs cs ks gs = false from tr_false fun h => by have := tr_true h.1; rw [show tr (GOk xs cs ks) = false from HP.out] at this; cases this)
    go_wp2_with fail
    go_ret
    exact Mk.b E.out T.out
  by_cases h43 : n4 = n3
  case neg =>
    have q1 : ((n4 : Int) == (n3 : Int)) = false := beq_false_of_ne (by omega)
    have q2 : ((n4 : Int) != (n3 : Int)) = true := by rw [bne, q1]; rfl
    have E := Lib.hid (show gvAB xs cs ks gs = false from tr_false fun h => h43 (by have := h.2.2; rw [HL3.out, HL4.out] at this; exact this))
    clear h43
    go_wp2_with fail
    go_ret
    exact Mk.b E.out T.out
  subst h43
  go_wp2_with fail
  go_loopw [25] (fun v wr => ∃ k : Nat, k ≤ n4 ∧ v = .int .i64 k ∧ (∀ i, i < k → 0 ≤ nth gs i ∧ nth gs i < n2) ∧ Below w.heap.size w wr ∧ Ints wr b off xs ∧ Sl wr a2 cs ∧ Sl wr a3 ks ∧ Sl wr a4 gs) (fun v _ => n4 - (intOf v).toNat)
  case atStart => exact ⟨0, by omega, rfl, (fun i hi => by omega), T.out, X.out, Y.out, Z.out, G.out⟩
  case' round =>
    clear T X Y Z G
    obtain ⟨k, hk, rfl, hall, h9T, h9X, h9Y, h9Z, h9G⟩ := hrel
    obtain ⟨wn, hwq⟩ : ∃ w0 : World, w0 = wr := ⟨_, rfl⟩
    rw [← hwq] at h9T h9X h9Y h9Z h9G ⊢
    clear hwq
    have T := Lib.hid h9T
    have X := Lib.hid h9X
    have Y := Lib.hid h9Y
    have Z := Lib.hid h9Z
    have G := Lib.hid h9G
    clear h9T h9X h9Y h9Z h9G
    have HA := Lib.hid hall
    clear hall
    by_cases hlt : k < n4
    case neg =>
      obtain rfl : k = n4 := by omega
      have E := Lib.hid (show gvAB xs cs ks gs = true from tr_true ⟨tr_t.1 HP.out, fun i hi => by rw [HL.out]; exact HA.out i (by rw [← HL4.out]; exact hi), by rw [HL3.out, HL4.out]⟩)
      go_wp2_with fail
      go_ret
      exact Mk.b E.out T.out
    obtain ⟨b4, o4, rfl, hI⟩ := Sl.at G.out (k := k) (by rw [HL4.out]; exact hlt)
    have y1 := hI k (by rw [HL4.out]; exact hlt)
    have hki : (k : Int) < n4 := by omega
    clear hI
    by_cases hr : 0 ≤ nth gs k ∧ nth gs k < n2
    case neg =>
      have E := Lib.hid (show gvAB xs cs ks gs = false from tr_false fun h => hr (by have := h.2.1 k (by rw [HL4.out]; exact hlt); rw [HL.out] at this; exact this))
      by_cases h0 : nth gs k < 0
      · clear hr
        go_wp2_with fail
        go_ret
        exact Mk.b E.out T.out
      · have h1 : (n2 : Int) ≤ nth gs k := by omega
        have h0' : 0 ≤ nth gs k := by omega
        clear hr h0
        go_wp2_with fail
        go_ret
        exact Mk.b E.out T.out
    have HN := Lib.hid (show ∀ i, i < k + 1 → 0 ≤ nth gs i ∧ nth gs i < n2 from fun i hi => by
      by_cases e : i = k
      · subst e; exact hr
      · exact HA.out i (by omega))
    have h0 : ¬ nth gs k < 0 := by omega
    have h1 : ¬ (n2 : Int) ≤ nth gs k := by omega
    clear hr
    go_wp2_with fail
    go_roundw
    case rel => exact ⟨k + 1, by omega, by go_num, HN.out, T.out, X.out, Y.out, Z.out, G.out⟩
    case measure => first | (simp [intOf]; done) | (simp [intOf]; omega) | omega
end Go.Proofs.Ytgiioponimiddaa

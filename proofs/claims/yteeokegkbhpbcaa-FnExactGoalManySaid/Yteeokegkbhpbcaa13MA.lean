/- The model's HallOk, HallFits. -/
import Derived.Test.YteeokegkbhpbcaaA
import Derived.Test.Yteeokegkbhpbcaa10A
import Derived.Test.Yteeokegkbhpbcaa13MP
import Derived.Test.YteeokegkbhpbcaaG
import Derived.Test.YteeokegkbhpbcaaGG
import Derived.Test.Yteeokegkbhpbcaa8G
import Derived.Test.Yteeokegkbhpbcaa3P
import Derived.Test.YteeokegkbhpbcaaK
import Derived.Deep.CutRange
namespace Go.Proofs.Yteeokegkbhpbcaa
open Go.RowKit
set_option linter.unusedVariables false
set_option linter.unusedSimpArgs false
set_option maxRecDepth 100000

set_option maxHeartbeats 2000000 in
theorem sHallOk_c (a1 : Option Addr) (n1 c1 : Nat) (gs : List Int) (a2 : Option Addr) (n2 c2 : Nat) (rs : List Int) (w : World) (hs : Sl w a1 gs) (hl : gs.length = n1) (hs2 : Sl w a2 rs) (hl2 : rs.length = n2) (hm : n1 ≤ 1048577) (hm2 : n2 ≤ 1048577) :
    Calls Try.prog 15 #[.slice a1 n1 c1, .slice a2 n2 c2] w (Mk w (.bool (hokB gs rs))) := by
  have HL := Lib.hid hl
  have HL2 := Lib.hid hl2
  clear hl hl2
  refine at_base fun wn hwn => ?_
  have T := Lib.hid (show Below w.heap.size w wn from by rw [hwn]; exact Below.refl _ _)
  rw [← hwn] at hs
  have X := Lib.hid (show Sl wn a1 gs from hs)
  clear hs
  rw [← hwn] at hs2
  have Y := Lib.hid (show Sl wn a2 rs from hs2)
  clear hs2
  clear hwn
  go_enter Try.func15, Try.ntmps15
  go_wp2_with fail
  go_loopw [5] (fun v wr => ∃ k : Nat, k ≤ n1 ∧ v = .int .i64 k ∧ (∀ i, i < k → 0 ≤ nth gs i ∧ nth gs i ≤ 7) ∧ Below w.heap.size w wr ∧ Sl wr a1 gs ∧ Sl wr a2 rs) (fun v _ => n1 - (intOf v).toNat)
  case atStart => exact ⟨0, by omega, rfl, (fun i hi => by omega), T.out, X.out, Y.out⟩
  case' round =>
    clear T X Y
    obtain ⟨k, hk, rfl, hall, h9T, h9X, h9Y⟩ := hrel
    obtain ⟨wn, hwq⟩ : ∃ w0 : World, w0 = wr := ⟨_, rfl⟩
    rw [← hwq] at h9T h9X h9Y ⊢
    clear hwq
    have T := Lib.hid h9T
    have X := Lib.hid h9X
    have Y := Lib.hid h9Y
    clear h9T h9X h9Y
    have HA := Lib.hid hall
    clear hall
    by_cases hlt : k < n1
    case pos =>
      obtain ⟨b1, o1, rfl, hI⟩ := Sl.at X.out (k := k) (by rw [HL.out]; exact hlt)
      have y1 := hI k (by rw [HL.out]; exact hlt)
      have hki : (k : Int) < n1 := by omega
      clear hI
      by_cases hr : 0 ≤ nth gs k ∧ nth gs k ≤ 7
      case neg =>
        have t1 := inB_f hr
        have E := Lib.hid (show hokB gs rs = false from tr_false fun g => hr (g.1 k (by rw [HL.out]; exact hlt)))
        clear hr
        go_wp2_with fail
        refine Calls.mono (l1In_c _ _ _ _) ?_
        intro e wn hh
        obtain ⟨he, hb⟩ := (by first | exact hh | exact Ro.mk hh | exact St.mk hh | exact LawOk.mk' hh : Mk _ _ e wn)
        subst he
        have Tn : Hid (Below w.heap.size w wn) := below_next T.out hb
        have Xn : Hid _ := Sl.below X.out hb
        have Yn : Hid _ := Sl.below Y.out hb
        clear hb hh
        clear T X Y
        have T := Tn
        have X := Xn
        have Y := Yn
        clear Tn Xn Yn
        go_wp2_with fail
        go_ret
        exact Mk.b E.out T.out
      have t1 := inB_t hr
      have HN := Lib.hid (show ∀ i, i < k + 1 → 0 ≤ nth gs i ∧ nth gs i ≤ 7 from fun i hi => by
        by_cases e : i = k
        · subst e; exact hr
        · exact HA.out i (by omega))
      clear hr
      go_wp2_with fail
      refine Calls.mono (l1In_c _ _ _ _) ?_
      intro e wn hh
      obtain ⟨he, hb⟩ := (by first | exact hh | exact Ro.mk hh | exact St.mk hh | exact LawOk.mk' hh : Mk _ _ e wn)
      subst he
      have Tn : Hid (Below w.heap.size w wn) := below_next T.out hb
      have Xn : Hid _ := Sl.below X.out hb
      have Yn : Hid _ := Sl.below Y.out hb
      clear hb hh
      clear T X Y
      have T := Tn
      have X := Xn
      have Y := Yn
      clear Tn Xn Yn
      clear y1
      go_wp2_with fail
      go_roundw
      case rel => exact ⟨k + 1, by omega, by go_num, HN.out, T.out, X.out, Y.out⟩
      case measure => first | (simp [intOf]; done) | (simp [intOf]; omega) | omega
    obtain rfl : k = n1 := by omega
    have HA1 := Lib.hid (show ∀ i, i < gs.length → 0 ≤ nth gs i ∧ nth gs i ≤ 7 from fun i hi => HA.out i (by rw [← HL.out]; exact hi))
    clear HA
    go_wp2_with fail
    go_loopw [6] (fun v wr => ∃ j : Nat, j ≤ n2 ∧ v = .int .i64 j ∧ (∀ i, i < j → 0 ≤ nth rs i ∧ nth rs i ≤ 8) ∧ Below w.heap.size w wr ∧ Sl wr a1 gs ∧ Sl wr a2 rs) (fun v _ => n2 - (intOf v).toNat)
    case atStart => exact ⟨0, by omega, rfl, (fun i hi => by omega), T.out, X.out, Y.out⟩
    case' round =>
      clear T X Y
      obtain ⟨j, hj, rfl, hall, h9T, h9X, h9Y⟩ := hrel
      obtain ⟨wn, hwq⟩ : ∃ w0 : World, w0 = wr := ⟨_, rfl⟩
      rw [← hwq] at h9T h9X h9Y ⊢
      clear hwq
      have T := Lib.hid h9T
      have X := Lib.hid h9X
      have Y := Lib.hid h9Y
      clear h9T h9X h9Y
      have HA := Lib.hid hall
      clear hall
      by_cases hlt : j < n2
      case pos =>
        obtain ⟨b2, o2, rfl, hI⟩ := Sl.at Y.out (k := j) (by rw [HL2.out]; exact hlt)
        have y1 := hI j (by rw [HL2.out]; exact hlt)
        have hji : (j : Int) < n2 := by omega
        clear hI
        by_cases hr : 0 ≤ nth rs j ∧ nth rs j ≤ 8
        case neg =>
          have t1 := inB_f hr
          have E := Lib.hid (show hokB gs rs = false from tr_false fun g => hr (g.2.1 j (by rw [HL2.out]; exact hlt)))
          clear hr
          go_wp2_with fail
          refine Calls.mono (l1In_c _ _ _ _) ?_
          intro e wn hh
          obtain ⟨he, hb⟩ := (by first | exact hh | exact Ro.mk hh | exact St.mk hh | exact LawOk.mk' hh : Mk _ _ e wn)
          subst he
          have Tn : Hid (Below w.heap.size w wn) := below_next T.out hb
          have Xn : Hid _ := Sl.below X.out hb
          have Yn : Hid _ := Sl.below Y.out hb
          clear hb hh
          clear T X Y
          have T := Tn
          have X := Xn
          have Y := Yn
          clear Tn Xn Yn
          go_wp2_with fail
          go_ret
          exact Mk.b E.out T.out
        have t1 := inB_t hr
        have HN := Lib.hid (show ∀ i, i < j + 1 → 0 ≤ nth rs i ∧ nth rs i ≤ 8 from fun i hi => by
          by_cases e : i = j
          · subst e; exact hr
          · exact HA.out i (by omega))
        clear hr
        go_wp2_with fail
        refine Calls.mono (l1In_c _ _ _ _) ?_
        intro e wn hh
        obtain ⟨he, hb⟩ := (by first | exact hh | exact Ro.mk hh | exact St.mk hh | exact LawOk.mk' hh : Mk _ _ e wn)
        subst he
        have Tn : Hid (Below w.heap.size w wn) := below_next T.out hb
        have Xn : Hid _ := Sl.below X.out hb
        have Yn : Hid _ := Sl.below Y.out hb
        clear hb hh
        clear T X Y
        have T := Tn
        have X := Xn
        have Y := Yn
        clear Tn Xn Yn
        clear y1
        go_wp2_with fail
        go_roundw
        case rel => exact ⟨j + 1, by omega, by go_num, HN.out, T.out, X.out, Y.out⟩
        case measure => first | (simp [intOf]; done) | (simp [intOf]; omega) | omega
      obtain rfl : j = n2 := by omega
      by_cases h6 : k ≤ 6
      case neg =>
        have h6i : ¬ (k : Int) ≤ 6 := by omega
        have E := Lib.hid (show hokB gs rs = false from tr_false fun g => h6 (by have := g.2.2.1; rw [HL.out] at this; exact this))
        clear h6
        go_wp2_with fail
        go_ret
        exact Mk.b E.out T.out
      have h6i : (k : Int) ≤ 6 := by omega
      by_cases hr : 1 ≤ (j : Int) ∧ (j : Int) ≤ 3
      · have t1 := inB_t hr
        have E := Lib.hid (show hokB gs rs = true from tr_true ⟨HA1.out, fun i hi => HA.out i (by rw [← HL2.out]; exact hi), by rw [HL.out]; exact h6, by rw [HL2.out]; omega, by rw [HL2.out]; omega⟩)
        clear hr h6
        go_wp2_with fail
        refine Calls.mono (l1In_c _ _ _ _) ?_
        intro e wn hh
        obtain ⟨he, hb⟩ := (by first | exact hh | exact Ro.mk hh | exact St.mk hh | exact LawOk.mk' hh : Mk _ _ e wn)
        subst he
        have Tn : Hid (Below w.heap.size w wn) := below_next T.out hb
        have Xn : Hid _ := Sl.below X.out hb
        have Yn : Hid _ := Sl.below Y.out hb
        clear hb hh
        clear T X Y
        have T := Tn
        have X := Xn
        have Y := Yn
        clear Tn Xn Yn
        go_wp2_with fail
        go_ret
        exact Mk.b E.out T.out
      · have t1 := inB_f hr
        have E := Lib.hid (show hokB gs rs = false from tr_false fun g => hr (by have h1 := g.2.2.2.1; have h2 := g.2.2.2.2; rw [HL2.out] at h1 h2; omega))
        clear hr h6
        go_wp2_with fail
        refine Calls.mono (l1In_c _ _ _ _) ?_
        intro e wn hh
        obtain ⟨he, hb⟩ := (by first | exact hh | exact Ro.mk hh | exact St.mk hh | exact LawOk.mk' hh : Mk _ _ e wn)
        subst he
        have Tn : Hid (Below w.heap.size w wn) := below_next T.out hb
        have Xn : Hid _ := Sl.below X.out hb
        have Yn : Hid _ := Sl.below Y.out hb
        clear hb hh
        clear T X Y
        have T := Tn
        have X := Xn
        have Y := Yn
        clear Tn Xn Yn
        go_wp2_with fail
        go_ret
        exact Mk.b E.out T.out
end Go.Proofs.Yteeokegkbhpbcaa

namespace Go.Proofs.Yteeokegkbhpbcaa
open Go.RowKit
set_option linter.unusedVariables false
set_option linter.unusedSimpArgs false
set_option maxRecDepth 100000

set_option maxHeartbeats 4000000 in
theorem sHallFits_c (a1 : Option Addr) (n1 c1 : Nat) (gs : List Int) (a2 : Option Addr) (n2 c2 : Nat) (rs : List Int) (a3 : Option Addr) (n3 c3 : Nat) (ps : List Int) (w : World) (hs : Sl w a1 gs) (hl : gs.length = n1) (hs2 : Sl w a2 rs) (hl2 : rs.length = n2) (hs3 : Sl w a3 ps) (hl3 : ps.length = n3) (hm : n1 ≤ 1048577) (hm2 : n2 ≤ 1048577) (hm3 : n3 ≤ 1048577) :
    Calls Try.prog 19 #[.slice a1 n1 c1, .slice a2 n2 c2, .slice a3 n3 c3] w (Mk w (.bool (hfB gs rs ps))) := by
  obtain ⟨P, hP⟩ : ∃ P, hokB gs rs = P := ⟨_, rfl⟩
  have K0 := fun w' (h : Sl w' a1 gs) (h2 : Sl w' a2 rs) => sHallOk_c a1 n1 c1 gs a2 n2 c2 rs w' h hl h2 hl2 hm hm2
  rw [hP] at K0
  have H0 := Lib.hid K0
  have HP := Lib.hid hP
  have HL := Lib.hid hl
  have HL2 := Lib.hid hl2
  have HL3 := Lib.hid hl3
  clear K0 hP hl hl2 hl3
  refine at_base fun wn hwn => ?_
  have T := Lib.hid (show Below w.heap.size w wn from by rw [hwn]; exact Below.refl _ _)
  rw [← hwn] at hs
  have X := Lib.hid (show Sl wn a1 gs from hs)
  clear hs
  rw [← hwn] at hs2
  have Y := Lib.hid (show Sl wn a2 rs from hs2)
  clear hs2
  rw [← hwn] at hs3
  have Z := Lib.hid (show Sl wn a3 ps from hs3)
  clear hs3
  clear hwn
  go_enter Try.func19, Try.ntmps19
  go_wp2_with fail
  refine Calls.mono (H0.out _ X.out Y.out) ?_
  intro e wn hh
  obtain ⟨he, hb⟩ := (by first | exact hh | exact Ro.mk hh | exact St.mk hh | exact LawOk.mk' hh : Mk _ _ e wn)
  subst he
  have Tn : Hid (Below w.heap.size w wn) := below_next T.out hb
  have Xn : Hid _ := Sl.below X.out hb
  have Yn : Hid _ := Sl.below Y.out hb
  have Zn : Hid _ := Sl.below Z.out hb
  clear hb hh
  clear T X Y Z
  have T := Tn
  have X := Xn
  have Y := Yn
  have Z := Zn
  clear Tn Xn Yn Zn
  cases P
  case false =>
    have E := Lib.hid (show hfB gs rs ps = false from tr_false fun h => by have := tr_true h.1; rw [show tr (HOk gs rs) = false from HP.out] at this; cases this)
    go_wp2_with fail
    go_ret
    exact Mk.b E.out T.out
  by_cases h31 : n3 = n1
  case neg =>
    have q1 : ((n3 : Int) == (n1 : Int)) = false := beq_false_of_ne (by omega)
    have q2 : ((n3 : Int) != (n1 : Int)) = true := by rw [bne, q1]; rfl
    have E := Lib.hid (show hfB gs rs ps = false from tr_false fun h => h31 (by have := h.2.1.2; rw [HL.out, HL3.out] at this; exact this))
    clear h31
    go_wp2_with fail
    go_ret
    exact Mk.b E.out T.out
  subst h31
  have hok : HOk gs rs := tr_t.1 HP.out
  have hn2 : 1 ≤ n2 ∧ n2 ≤ 3 := by rw [← HL2.out]; exact hok.2.2.2
  have hn3 : n3 ≤ 6 := by rw [← HL.out]; exact hok.2.2.1
  clear hok
  go_wp2_with fail
  go_loopw [7] (fun u wr => ∃ (c : Nat), c ≤ n2 ∧ u = .int .i64 c ∧ (∀ d, d < c → (∀ i, i < n3 → 0 ≤ nth ps i ∧ nth ps i < n2) ∧ cntU ps d n3 ≤ nth rs d) ∧ Below w.heap.size w wr ∧ Sl wr a1 gs ∧ Sl wr a2 rs ∧ Sl wr a3 ps) (fun u _ => n2 - (intOf u).toNat)
  case atStart => exact ⟨0, by omega, rfl, (fun d hd => by omega), T.out, X.out, Y.out, Z.out⟩
  case' round =>
    clear T X Y Z
    obtain ⟨c, hc, rfl, hall, h9T, h9X, h9Y, h9Z⟩ := hrel
    obtain ⟨wn, hwq⟩ : ∃ w0 : World, w0 = wr := ⟨_, rfl⟩
    rw [← hwq] at h9T h9X h9Y h9Z ⊢
    clear hwq
    have T := Lib.hid h9T
    have X := Lib.hid h9X
    have Y := Lib.hid h9Y
    have Z := Lib.hid h9Z
    clear h9T h9X h9Y h9Z
    have HA := Lib.hid hall
    clear hall
    by_cases hlt : c < n2
    case neg =>
      obtain rfl : c = n2 := by omega
      have E := Lib.hid (show hfB gs rs ps = true from tr_true ⟨tr_t.1 HP.out, ⟨fun k hk => by rw [HL2.out]; exact (HA.out 0 (by omega)).1 k (by rw [← HL3.out]; exact hk), by rw [HL.out, HL3.out]⟩, fun d hd => by rw [HL3.out]; exact (HA.out d (by rw [← HL2.out]; exact hd)).2⟩)
      go_wp2_with fail
      go_ret
      exact Mk.b E.out T.out
    have hci : (c : Int) < n2 := by omega
    go_wp2_with fail
    go_loopw [8, 9] (fun q r wr => ∃ (k : Nat) (n : Int), k ≤ n3 ∧ q = .int .i64 n ∧ r = .int .i64 k ∧ n = cntU ps c k ∧ (∀ i, i < k → 0 ≤ nth ps i ∧ nth ps i < n2) ∧ Below w.heap.size w wr ∧ Sl wr a1 gs ∧ Sl wr a2 rs ∧ Sl wr a3 ps) (fun q r _ => n3 - (intOf r).toNat)
    case atStart => exact ⟨0, 0, by omega, rfl, rfl, rfl, (fun i hi => by omega), T.out, X.out, Y.out, Z.out⟩
    case' round =>
      clear T X Y Z
      obtain ⟨k, n, hk, rfl, rfl, hn, hb, h9T, h9X, h9Y, h9Z⟩ := hrel
      obtain ⟨wn, hwq⟩ : ∃ w0 : World, w0 = wr := ⟨_, rfl⟩
      rw [← hwq] at h9T h9X h9Y h9Z ⊢
      clear hwq
      have T := Lib.hid h9T
      have X := Lib.hid h9X
      have Y := Lib.hid h9Y
      have Z := Lib.hid h9Z
      clear h9T h9X h9Y h9Z
      have hnb : 0 ≤ n ∧ n ≤ k := by rw [hn]; exact cntU_bd _ _ _
      have HN0 := Lib.hid hn
      have HB := Lib.hid hb
      clear hn hb
      by_cases hkl : k < n3
      case neg =>
        obtain rfl : k = n3 := by omega
        obtain ⟨b2, o2, rfl, hI⟩ := Sl.at Y.out (k := c) (by rw [HL2.out]; exact hlt)
        have y2 := hI c (by rw [HL2.out]; exact hlt)
        clear hI
        by_cases hr : n ≤ nth rs c
        case neg =>
          have hr2 : nth rs c < n := by omega
          have E := Lib.hid (show hfB gs rs ps = false from tr_false fun h => hr (by have := h.2.2 c (by rw [HL2.out]; exact hlt); rw [HL3.out, ← HN0.out] at this; exact this))
          clear hr
          go_wp2_with fail
          go_ret
          exact Mk.b E.out T.out
        have hr2 : ¬ nth rs c < n := by omega
        have HN := Lib.hid (show ∀ d, d < c + 1 → (∀ i, i < k → 0 ≤ nth ps i ∧ nth ps i < n2) ∧ cntU ps d k ≤ nth rs d from fun d hd => by
          by_cases e : d = c
          · subst e; exact ⟨HB.out, by rw [← HN0.out]; exact hr⟩
          · exact HA.out d (by omega))
        clear hr
        go_wp2_with fail
        go_roundw
        case rel => exact ⟨c + 1, by omega, by go_num, HN.out, T.out, X.out, Y.out, Z.out⟩
        case measure => first | (simp [intOf]; done) | (simp [intOf]; omega) | omega
      have hki : (k : Int) < n3 := by omega
      obtain ⟨b3, o3, rfl, hI⟩ := Sl.at Z.out (k := k) (by rw [HL3.out]; exact hkl)
      have Y1 := Lib.hid (hI k (by rw [HL3.out]; exact hkl))
      have y1 := Y1.out
      clear hI
      by_cases hr : 0 ≤ nth ps k ∧ nth ps k ≤ (n2 : Int) - 1
      case neg =>
        have t1 := inB_f hr
        have E := Lib.hid (show hfB gs rs ps = false from tr_false fun h => hr (by have := h.2.1.1 k (by rw [HL3.out]; exact hkl); rw [HL2.out] at this; exact ⟨this.1, by omega⟩))
        clear hr
        go_wp2_with fail
        refine Calls.mono (l1In_c _ _ _ _) ?_
        intro e wn hh
        obtain ⟨he, hb⟩ := (by first | exact hh | exact Ro.mk hh | exact St.mk hh | exact LawOk.mk' hh : Mk _ _ e wn)
        subst he
        have Tn : Hid (Below w.heap.size w wn) := below_next T.out hb
        have Xn : Hid _ := Sl.below X.out hb
        have Yn : Hid _ := Sl.below Y.out hb
        have Zn : Hid _ := Sl.below Z.out hb
        clear hb hh
        clear T X Y Z
        have T := Tn
        have X := Xn
        have Y := Yn
        have Z := Zn
        clear Tn Xn Yn Zn
        go_wp2_with fail
        go_ret
        exact Mk.b E.out T.out
      have t1 := inB_t hr
      have HN := Lib.hid (show ∀ i, i < k + 1 → 0 ≤ nth ps i ∧ nth ps i < n2 from fun i hi => by
        by_cases e : i = k
        · subst e; exact ⟨hr.1, by omega⟩
        · exact HB.out i (by omega))
      clear hr
      go_wp2_with fail
      refine Calls.mono (l1In_c _ _ _ _) ?_
      intro e wn hh
      obtain ⟨he, hb⟩ := (by first | exact hh | exact Ro.mk hh | exact St.mk hh | exact LawOk.mk' hh : Mk _ _ e wn)
      subst he
      have Tn : Hid (Below w.heap.size w wn) := below_next T.out hb
      have Xn : Hid _ := Sl.below X.out hb
      have Yn : Hid _ := Sl.below Y.out hb
      have Zn : Hid _ := Sl.below Z.out hb
      clear hb hh
      clear T X Y Z
      have T := Tn
      have X := Xn
      have Y := Yn
      have Z := Zn
      clear Tn Xn Yn Zn
      clear y1
      have y1 : wn.cell? ⟨b3, o3 + k, none⟩ = some (.int .i64 (nth ps k)) := Sl.cell Z.out (by rw [HL3.out]; exact hkl)
      by_cases he : nth ps k = c
      · have q4 : (nth ps k == (c : Int)) = true := by rw [he]; exact beq_self_eq_true _
        have HC := Lib.hid (show n + 1 = cntU ps c (k + 1) from by unfold cntU; rw [if_pos he, ← HN0.out])
        have hnw : -9223372036854775808 ≤ n + 1 ∧ n + 1 ≤ 9223372036854775807 := by omega
        clear he
        go_wp2_with fail
        go_roundw
        case rel => exact ⟨k + 1, n + 1, by omega, by go_num, by go_num, HC.out, HN.out, T.out, X.out, Y.out, Z.out⟩
        case measure => first | (simp [intOf]; done) | (simp [intOf]; omega) | omega
      · have q4 : (nth ps k == (c : Int)) = false := beq_false_of_ne he
        have HC := Lib.hid (show n = cntU ps c (k + 1) from by unfold cntU; rw [if_neg he, ← HN0.out])
        clear he
        go_wp2_with fail
        go_roundw
        case rel => exact ⟨k + 1, n, by omega, rfl, by go_num, HC.out, HN.out, T.out, X.out, Y.out, Z.out⟩
        case measure => first | (simp [intOf]; done) | (simp [intOf]; omega) | omega
end Go.Proofs.Yteeokegkbhpbcaa

namespace Go.Proofs.Yteeokegkbhpbcaa
open Go.RowKit
set_option linter.unusedVariables false
set_option linter.unusedSimpArgs false
set_option maxRecDepth 100000

theorem has_ix {xs : List Int} {v : Int} : (0 ≤ ix xs v ∧ hasB xs v = true) ∨ (¬ 0 ≤ ix xs v ∧ hasB xs v = false) := by
  rcases ix_cases xs v with ⟨k, hk, e, hn, hu⟩ | ⟨e, hn⟩
  · left; exact ⟨by omega, hasB_t k hk hn⟩
  · right; exact ⟨by omega, hasB_f hn⟩
theorem ix_nil (v : Int) : ix [] v = -1 := ix_eq (.inr ⟨rfl, by simp⟩)
theorem St.b {w : World} {b b' : Bool} (h : b = b') : St w (.bool b) (.returned (.bool b')) w := ⟨by rw [h], rfl⟩
theorem l1Has_s (a : Option Addr) (cap : Nat) (xs : List Int) (v : Int) (w : World) (hs : Sl w a xs) (hm : xs.length ≤ maxLen) :
    Calls Try.prog 48 #[.slice a xs.length cap, .int .i64 v] w (St w (.bool (hasB xs v))) := by
  unfold maxLen at hm
  rcases hs with rfl | ⟨b, off, rfl, hI⟩
  · have e : Hid _ := hasB_nil v
    clear hm
    go_enter Try.func48, Try.ntmps48
    go_wp2_with fail
    go_loop [5] (fun vk => vk = .int .i64 0) (fun _ => 0)
    case atStart => rfl
    case round =>
      obtain rfl := hrel
      go_wp2_with fail
      go_ret
      exact St.b e.out
  · have HI : Hid _ := hI
    clear hI
    go_enter Try.func48, Try.ntmps48
    go_wp2_with fail
    go_loop [5] (fun vk => ∃ k : Nat, k ≤ xs.length ∧ vk = .int .i64 k ∧ ∀ j, j < k → nth xs j ≠ v) (fun vk => xs.length - (intOf vk).toNat)
    case atStart => exact ⟨0, by omega, rfl, by omega⟩
    case round =>
      obtain ⟨k, hk, rfl, hu⟩ := hrel
      have U : Hid _ := hu
      clear hu
      by_cases hlt : k < xs.length
      · have c0 : w.cell? ⟨b, off + k, none⟩ = some (.int .i64 (nth xs k)) := HI.out k hlt
        by_cases e : nth xs k = v
        · have t : (nth xs k == v) = true := by simp [e]
          have E : Hid _ := e
          clear e
          go_wp2_with fail
          go_ret
          exact St.b (hasB_t k hlt E.out)
        · have t : (nth xs k == v) = false := by simp [e]
          have E : Hid _ := e
          clear e
          go_wp2_with fail
          go_round
          case rel => exact ⟨k + 1, by omega, by go_num, fun j hj => by
            by_cases e : j = k
            · subst e; exact E.out
            · exact U.out j (by omega)⟩
          case measure => simp [intOf]; omega
      · obtain rfl : k = xs.length := by omega
        go_wp2_with fail
        go_ret
        exact St.b (hasB_f U.out)
theorem l1Has_c (a : Option Addr) (cap : Nat) (xs : List Int) (v : Int) (w : World) (hs : Sl w a xs) (hm : xs.length ≤ maxLen) :
    Calls Try.prog 48 #[.slice a xs.length cap, .int .i64 v] w (Ro w (.bool (hasB xs v))) := St.ro (l1Has_s a cap xs v w hs hm)
end Go.Proofs.Yteeokegkbhpbcaa

namespace Go.Proofs.Yteeokegkbhpbcaa
open Go.RowKit
set_option linter.unusedVariables false
set_option linter.unusedSimpArgs false
set_option maxRecDepth 100000

theorem has_take {gs : List Int} {k : Nat} (hk : k ≤ gs.length) : hasB (gs.take k) (nth gs k) = ! frB gs [] k k := by
  by_cases h : frB gs [] k k = true
  · rw [h]
    have h2 := gm_fr.1 h
    rcases has_ix (xs := gs.take k) (v := nth gs k) with ⟨g, -⟩ | ⟨-, g⟩
    · exfalso
      rcases ix_cases (gs.take k) (nth gs k) with ⟨j, hj, e, e2, -⟩ | ⟨e, -⟩
      · rw [List.length_take] at hj
        rw [nth_take gs (by omega)] at e2
        exact h2 j (by omega) e2
      · omega
    · exact g
  · have h1 : frB gs [] k k = false := by simpa using h
    rw [h1]
    rcases has_ix (xs := gs.take k) (v := nth gs k) with ⟨-, g⟩ | ⟨g, -⟩
    · exact g
    · exfalso
      refine h (gm_fr.2 fun j hj e => ?_)
      rcases ix_cases (gs.take k) (nth gs k) with ⟨i, hi, e1, -, -⟩ | ⟨-, e1⟩
      · omega
      · exact e1 j (by rw [List.length_take]; omega) (by rw [nth_take gs hj]; exact e)
set_option maxHeartbeats 4000000 in
theorem sGoalMany_c (a1 : Option Addr) (n1 c1 : Nat) (gs : List Int) (a2 : Option Addr) (n2 c2 : Nat) (rs : List Int) (w : World) (hs : Sl w a1 gs) (hl : gs.length = n1) (hs2 : Sl w a2 rs) (hl2 : rs.length = n2) (hm : n1 ≤ 1048577) (hm2 : n2 ≤ 1048577) (hcap : n1 ≤ c1) (hcm : c1 ≤ 9223372036854775807) :
    Calls Try.prog 30 #[.slice a1 n1 c1, .slice a2 n2 c2] w (Mk w (.int .i64 (gmv gs rs))) := by
  obtain ⟨P, hP⟩ : ∃ P, hokB gs rs = P := ⟨_, rfl⟩
  have K0 := fun w' (h : Sl w' a1 gs) (h2 : Sl w' a2 rs) => sHallOk_c a1 n1 c1 gs a2 n2 c2 rs w' h hl h2 hl2 hm hm2
  rw [hP] at K0
  have H0 := Lib.hid K0
  have HP := Lib.hid hP
  have HL := Lib.hid hl
  clear K0 hP hl hl2
  refine at_base fun wn hwn => ?_
  have T := Lib.hid (show Below w.heap.size w wn from by rw [hwn]; exact Below.refl _ _)
  rw [← hwn] at hs
  have X := Lib.hid (show Sl wn a1 gs from hs)
  clear hs
  rw [← hwn] at hs2
  have Y := Lib.hid (show Sl wn a2 rs from hs2)
  clear hs2
  clear hwn
  go_enter Try.func30, Try.ntmps30
  go_wp2_with fail
  refine Calls.mono (H0.out _ X.out Y.out) ?_
  intro e wn hh
  obtain ⟨he, hb⟩ := (by first | exact hh | exact Ro.mk hh | exact St.mk hh | exact LawOk.mk' hh : Mk _ _ e wn)
  subst he
  have Tn : Hid (Below w.heap.size w wn) := below_next T.out hb
  have Xn : Hid _ := Sl.below X.out hb
  have Yn : Hid _ := Sl.below Y.out hb
  clear hb hh
  clear T X Y
  have T := Tn
  have X := Xn
  have Y := Yn
  clear Tn Xn Yn
  cases P
  case false =>
    have E := Lib.hid (show gmv gs rs = -1 from gmv_f fun h => by have := tr_true h; rw [show tr (HOk gs rs) = false from HP.out] at this; cases this)
    go_wp2_with fail
    go_ret
    exact Mk.i E.out T.out
  have hok : HOk gs rs := tr_t.1 HP.out
  have E := Lib.hid (gmv_t hok)
  have hn1 : n1 ≤ 6 := by rw [← HL.out]; exact hok.2.2.1
  clear hok
  go_wp2_with fail
  go_loopw [5, 6] (fun q r wr => ∃ (k : Nat) (n : Int), k ≤ n1 ∧ q = .int .i64 n ∧ r = .int .i64 k ∧ n = gmU gs k ∧ Below w.heap.size w wr ∧ Sl wr a1 gs ∧ Sl wr a2 rs) (fun q r _ => n1 - (intOf r).toNat)
  case atStart => exact ⟨0, 0, by omega, rfl, rfl, rfl, T.out, X.out, Y.out⟩
  case' round =>
    clear T X Y
    obtain ⟨k, n, hk, rfl, rfl, hn, h9T, h9X, h9Y⟩ := hrel
    obtain ⟨wn, hwq⟩ : ∃ w0 : World, w0 = wr := ⟨_, rfl⟩
    rw [← hwq] at h9T h9X h9Y ⊢
    clear hwq
    have T := Lib.hid h9T
    have X := Lib.hid h9X
    have Y := Lib.hid h9Y
    clear h9T h9X h9Y
    have hnb : 0 ≤ n ∧ n ≤ k := by rw [hn]; exact gmU_bd _ _
    have HN0 := Lib.hid hn
    clear hn
    by_cases hkl : k < n1
    case neg =>
      obtain rfl : k = n1 := by omega
      have E2 := Lib.hid (show gmv gs rs = n from by rw [E.out, HL.out, HN0.out])
      go_wp2_with fail
      go_ret
      exact Mk.i E2.out T.out
    have hki : (k : Int) < n1 := by omega
    obtain ⟨b1, o1, rfl, hI⟩ := Sl.at X.out (k := k) (by rw [HL.out]; exact hkl)
    have Y1 := Lib.hid (hI k (by rw [HL.out]; exact hkl))
    have hlt9 : (gs.take k).length = k := by rw [List.length_take, HL.out]; omega
    obtain ⟨B, hB⟩ : ∃ B, frB gs [] k k = B := ⟨_, rfl⟩
    have K := fun (w' : World) (cp : Nat) (h : Sl w' (some ⟨b1, o1, none⟩) (gs.take k)) => l1Has_c (some ⟨b1, o1, none⟩) cp (gs.take k) (nth gs k) w' h (by unfold maxLen; omega)
    rw [has_take (by rw [HL.out]; omega), hB, hlt9] at K
    have HK := Lib.hid K
    have I1 := Lib.hid (show Sl wn (some ⟨b1, o1, none⟩) (gs.take k) from .inr ⟨b1, o1, rfl, fun i hi => by
      rw [List.length_take] at hi
      rw [nth_take gs (by omega)]
      exact hI i (by omega)⟩)
    have HB := Lib.hid hB
    have hw : -9223372036854775808 ≤ n + 1 ∧ n + 1 ≤ 9223372036854775807 := by omega
    clear K hI hlt9 hB
    go_upto_region 7 with fail
    cases B
    case true =>
      have HN := Lib.hid (show n + 1 = gmU gs (k + 1) from by unfold gmU; rw [if_pos HB.out, ← HN0.out])
      refine wp_region_quiet (C := fun w' => Below (World.heap (wn)).size (wn) w') (by kernel_rfl) (by kernel_rfl) (by first | exact ⟨rfl, rfl, rfl, Nat.le_refl _, fun _ _ => rfl⟩ | exact Below.dw (by repeat (first | exact Below.refl _ _ | refine Below.al ?_ _ | refine Below.dr ?_ _ | refine Below.dw ?_ | refine Below.st ?_ (by first | exact Nat.le_refl _ | exact Nat.le_add_right _ _ | (simp; omega)) _ | (refine below_next ?_ (by assumption))))) ?_
      simp only []
      repeat (go_big_quiet_step (first | (intro _; with_reducible exact rfl) | (intro hC; go_at_call 48; have y1 := cell_below Y1.out hC; (refine Calls.mono (HK.out _ _ (Sl.below I1.out hC)) ?_); (first | (rintro e wx ⟨rfl, hb⟩; exact ⟨rfl, below_next hC hb⟩) | (rintro e wx ⟨rfl, n, rfl⟩; exact ⟨rfl, Below.dr hC n⟩) | (rintro e wx ⟨rfl, rfl⟩; exact ⟨rfl, hC⟩))) | (intro hC; have y1 := cell_below Y1.out hC; go_simp; rfl)))
      refine wpQuiet_nil ?_
      intro wq hq
      have Tn := Lib.hid (below_next T.out hq)
      have Xn := Lib.hid (Sl.below X.out hq)
      have Yn := Lib.hid (Sl.below Y.out hq)
      clear hq
      clear T X Y
      have T := Tn
      have X := Xn
      have Y := Yn
      clear Tn Xn Yn
      obtain ⟨wn, hwq⟩ : ∃ w0, w0 = wq := ⟨_, rfl⟩
      subst hwq
      go_wp2_with fail
      go_roundw
      case rel => exact ⟨k + 1, n + 1, by omega, by go_num, by go_num, HN.out, T.out, X.out, Y.out⟩
      case measure => first | (simp [intOf]; done) | (simp [intOf]; omega) | omega
    have HN := Lib.hid (show n = gmU gs (k + 1) from by unfold gmU; rw [if_neg (by rw [HB.out]; simp), ← HN0.out])
    refine wp_region_quiet (C := fun w' => Below (World.heap (wn)).size (wn) w') (by kernel_rfl) (by kernel_rfl) (by first | exact ⟨rfl, rfl, rfl, Nat.le_refl _, fun _ _ => rfl⟩ | exact Below.dw (by repeat (first | exact Below.refl _ _ | refine Below.al ?_ _ | refine Below.dr ?_ _ | refine Below.dw ?_ | refine Below.st ?_ (by first | exact Nat.le_refl _ | exact Nat.le_add_right _ _ | (simp; omega)) _ | (refine below_next ?_ (by assumption))))) ?_
    simp only []
    repeat (go_big_quiet_step (first | (intro _; with_reducible exact rfl) | (intro hC; go_at_call 48; have y1 := cell_below Y1.out hC; (refine Calls.mono (HK.out _ _ (Sl.below I1.out hC)) ?_); (first | (rintro e wx ⟨rfl, hb⟩; exact ⟨rfl, below_next hC hb⟩) | (rintro e wx ⟨rfl, n, rfl⟩; exact ⟨rfl, Below.dr hC n⟩) | (rintro e wx ⟨rfl, rfl⟩; exact ⟨rfl, hC⟩))) | (intro hC; have y1 := cell_below Y1.out hC; go_simp; rfl)))
    refine wpQuiet_nil ?_
    intro wq hq
    have Tn := Lib.hid (below_next T.out hq)
    have Xn := Lib.hid (Sl.below X.out hq)
    have Yn := Lib.hid (Sl.below Y.out hq)
    clear hq
    clear T X Y
    have T := Tn
    have X := Xn
    have Y := Yn
    clear Tn Xn Yn
    obtain ⟨wn, hwq⟩ : ∃ w0, w0 = wq := ⟨_, rfl⟩
    subst hwq
    go_wp2_with fail
    go_roundw
    case rel => exact ⟨k + 1, n, by omega, rfl, by go_num, HN.out, T.out, X.out, Y.out⟩
    case measure => first | (simp [intOf]; done) | (simp [intOf]; omega) | omega
end Go.Proofs.Yteeokegkbhpbcaa

namespace Go.Proofs.Yteeokegkbhpbcaa
open Go.RowKit
set_option linter.unusedVariables false
set_option linter.unusedSimpArgs false
set_option maxRecDepth 100000

set_option maxHeartbeats 4000000 in
theorem sHallStops_c (a1 : Option Addr) (n1 c1 : Nat) (gs : List Int) (a2 : Option Addr) (n2 c2 : Nat) (rs : List Int) (a3 : Option Addr) (n3 c3 : Nat) (ps : List Int) (w : World) (hs : Sl w a1 gs) (hl : gs.length = n1) (hs2 : Sl w a2 rs) (hl2 : rs.length = n2) (hs3 : Sl w a3 ps) (hl3 : ps.length = n3) (hm : n1 ≤ 1048577) (hm2 : n2 ≤ 1048577) (hm3 : n3 ≤ 1048577) :
    Calls Try.prog 23 #[.slice a1 n1 c1, .slice a2 n2 c2, .slice a3 n3 c3] w (Mk w (.int .i64 (hsv gs rs ps))) := by
  obtain ⟨P, hP⟩ : ∃ P, hfB gs rs ps = P := ⟨_, rfl⟩
  have K0 := fun w' (h : Sl w' a1 gs) (h2 : Sl w' a2 rs) (h3 : Sl w' a3 ps) => sHallFits_c a1 n1 c1 gs a2 n2 c2 rs a3 n3 c3 ps w' h hl h2 hl2 h3 hl3 hm hm2 hm3
  rw [hP] at K0
  have H0 := Lib.hid K0
  have HP := Lib.hid hP
  have HL := Lib.hid hl
  have HL3 := Lib.hid hl3
  clear K0 hP hl hl2 hl3
  refine at_base fun wn hwn => ?_
  have T := Lib.hid (show Below w.heap.size w wn from by rw [hwn]; exact Below.refl _ _)
  rw [← hwn] at hs
  have X := Lib.hid (show Sl wn a1 gs from hs)
  clear hs
  rw [← hwn] at hs2
  have Y := Lib.hid (show Sl wn a2 rs from hs2)
  clear hs2
  rw [← hwn] at hs3
  have Z := Lib.hid (show Sl wn a3 ps from hs3)
  clear hs3
  clear hwn
  go_enter Try.func23, Try.ntmps23
  go_wp2_with fail
  refine Calls.mono (H0.out _ X.out Y.out Z.out) ?_
  intro e wn hh
  obtain ⟨he, hb⟩ := (by first | exact hh | exact Ro.mk hh | exact St.mk hh | exact LawOk.mk' hh : Mk _ _ e wn)
  subst he
  have Tn : Hid (Below w.heap.size w wn) := below_next T.out hb
  have Xn : Hid _ := Sl.below X.out hb
  have Yn : Hid _ := Sl.below Y.out hb
  have Zn : Hid _ := Sl.below Z.out hb
  clear hb hh
  clear T X Y Z
  have T := Tn
  have X := Xn
  have Y := Yn
  have Z := Zn
  clear Tn Xn Yn Zn
  cases P
  case false =>
    have E := Lib.hid (show hsv gs rs ps = -1 from hsv_f fun h => by have := tr_true h; rw [show tr (HFit gs rs ps) = false from HP.out] at this; cases this)
    go_wp2_with fail
    go_ret
    exact Mk.i E.out T.out
  have hf : HFit gs rs ps := tr_t.1 HP.out
  have E := Lib.hid (hsv_t hf)
  have hn1 : n1 ≤ 6 := by rw [← HL.out]; exact hf.1.2.2.1
  have hn31 : n3 = n1 := by rw [← HL.out, ← HL3.out]; exact hf.2.1.2
  subst hn31
  clear hf
  go_wp2_with fail
  go_loopw [7, 8] (fun q r wr => ∃ (k : Nat) (n : Int), k ≤ n3 ∧ q = .int .i64 n ∧ r = .int .i64 k ∧ n = hsU gs ps k ∧ Below w.heap.size w wr ∧ Sl wr a1 gs ∧ Sl wr a2 rs ∧ Sl wr a3 ps) (fun q r _ => n3 - (intOf r).toNat)
  case atStart => exact ⟨0, 0, by omega, rfl, rfl, rfl, T.out, X.out, Y.out, Z.out⟩
  case' round =>
    clear T X Y Z
    obtain ⟨k, n, hk, rfl, rfl, hn, h9T, h9X, h9Y, h9Z⟩ := hrel
    obtain ⟨wn, hwq⟩ : ∃ w0 : World, w0 = wr := ⟨_, rfl⟩
    rw [← hwq] at h9T h9X h9Y h9Z ⊢
    clear hwq
    have T := Lib.hid h9T
    have X := Lib.hid h9X
    have Y := Lib.hid h9Y
    have Z := Lib.hid h9Z
    clear h9T h9X h9Y h9Z
    have hnb : 0 ≤ n ∧ n ≤ k := by rw [hn]; exact hsU_bd _ _ _
    have HN0 := Lib.hid hn
    clear hn
    by_cases hkl : k < n3
    case neg =>
      obtain rfl : k = n3 := by omega
      have E2 := Lib.hid (show hsv gs rs ps = n from by rw [E.out, HL.out, HN0.out])
      go_wp2_with fail
      go_ret
      exact Mk.i E2.out T.out
    have hki : (k : Int) < n3 := by omega
    have hw : -9223372036854775808 ≤ n + 1 ∧ n + 1 ≤ 9223372036854775807 := by omega
    go_wp2_with fail
    go_loopw [9, 10] (fun u v wr => ∃ (j : Nat) (B : Bool), j ≤ k ∧ u = .bool B ∧ v = .int .i64 j ∧ B = frB gs ps k j ∧ Below w.heap.size w wr ∧ Sl wr a1 gs ∧ Sl wr a2 rs ∧ Sl wr a3 ps) (fun u v _ => k - (intOf v).toNat)
    case atStart => exact ⟨0, true, by omega, rfl, rfl, rfl, T.out, X.out, Y.out, Z.out⟩
    case' round =>
      clear T X Y Z
      obtain ⟨j, B, hj, rfl, rfl, hB, h9T, h9X, h9Y, h9Z⟩ := hrel
      obtain ⟨wn, hwq⟩ : ∃ w0 : World, w0 = wr := ⟨_, rfl⟩
      rw [← hwq] at h9T h9X h9Y h9Z ⊢
      clear hwq
      have T := Lib.hid h9T
      have X := Lib.hid h9X
      have Y := Lib.hid h9Y
      have Z := Lib.hid h9Z
      clear h9T h9X h9Y h9Z
      have HB := Lib.hid hB
      clear hB
      by_cases hjl : j < k
      case neg =>
        obtain rfl : j = k := by omega
        cases B
        case true =>
          have HN := Lib.hid (show n + 1 = hsU gs ps (j + 1) from by unfold hsU; rw [if_pos HB.out.symm, ← HN0.out])
          go_wp2_with fail
          go_roundw
          case rel => exact ⟨j + 1, n + 1, by omega, by go_num, by go_num, HN.out, T.out, X.out, Y.out, Z.out⟩
          case measure => first | (simp [intOf]; done) | (simp [intOf]; omega) | omega
        have HN := Lib.hid (show n = hsU gs ps (j + 1) from by unfold hsU; rw [if_neg (by rw [← HB.out]; simp), ← HN0.out])
        go_wp2_with fail
        go_roundw
        case rel => exact ⟨j + 1, n, by omega, rfl, by go_num, HN.out, T.out, X.out, Y.out, Z.out⟩
        case measure => first | (simp [intOf]; done) | (simp [intOf]; omega) | omega
      have hji : (j : Int) < k := by omega
      have hjn : (j : Int) < n3 := by omega
      obtain ⟨b1, o1, rfl, hI⟩ := Sl.at X.out (k := k) (by rw [HL.out]; exact hkl)
      obtain ⟨b3, o3, rfl, hI3⟩ := Sl.at Z.out (k := k) (by rw [HL3.out]; exact hkl)
      have Y1 := Lib.hid (hI k (by rw [HL.out]; exact hkl))
      have Y2 := Lib.hid (hI j (by rw [HL.out]; omega))
      have Y3 := Lib.hid (hI3 k (by rw [HL3.out]; exact hkl))
      have Y4 := Lib.hid (hI3 j (by rw [HL3.out]; omega))
      obtain ⟨g1, hg1⟩ : ∃ g, nth gs j = g := ⟨_, rfl⟩
      obtain ⟨g2, hg2⟩ : ∃ g, nth gs k = g := ⟨_, rfl⟩
      obtain ⟨p1, hp1⟩ : ∃ g, nth ps j = g := ⟨_, rfl⟩
      obtain ⟨p2, hp2⟩ : ∃ g, nth ps k = g := ⟨_, rfl⟩
      have HS := Lib.hid (show frB gs ps k (j + 1) = (B && (decide (g1 ≠ g2) || decide (p1 ≠ p2))) from by
        show (frB gs ps k j && _) = _
        rw [← HB.out, hg1, hg2, hp1, hp2])
      rw [hg1] at Y2
      rw [hg2] at Y1
      rw [hp1] at Y4
      rw [hp2] at Y3
      clear hI hI3 hg1 hg2 hp1 hp2
      go_upto_region 11 with fail
      cases B
      case false =>
        have HN := Lib.hid (show false = frB gs ps k (j + 1) from by rw [HS.out]; rfl)
        refine wp_region_quiet (C := fun w' => Below (World.heap (wn)).size (wn) w') (by kernel_rfl) (by kernel_rfl) (by first | exact ⟨rfl, rfl, rfl, Nat.le_refl _, fun _ _ => rfl⟩ | exact Below.dw (by repeat (first | exact Below.refl _ _ | refine Below.al ?_ _ | refine Below.dr ?_ _ | refine Below.dw ?_ | refine Below.st ?_ (by first | exact Nat.le_refl _ | exact Nat.le_add_right _ _ | (simp; omega)) _ | (refine below_next ?_ (by assumption))))) ?_
        simp only []
        repeat (go_big_quiet_step (first | (intro _; with_reducible exact rfl) | (intro hC; skip; go_simp; rfl)))
        refine wpQuiet_nil ?_
        intro wq hq
        have Tn := Lib.hid (below_next T.out hq)
        have Xn := Lib.hid (Sl.below X.out hq)
        have Yn := Lib.hid (Sl.below Y.out hq)
        have Zn := Lib.hid (Sl.below Z.out hq)
        clear hq
        clear T X Y Z
        have T := Tn
        have X := Xn
        have Y := Yn
        have Z := Zn
        clear Tn Xn Yn Zn
        obtain ⟨wn, hwq⟩ : ∃ w0, w0 = wq := ⟨_, rfl⟩
        subst hwq
        go_wp2_with fail
        go_roundw
        case rel => exact ⟨j + 1, false, by omega, rfl, by go_num, HN.out, T.out, X.out, Y.out, Z.out⟩
        case measure => first | (simp [intOf]; done) | (simp [intOf]; omega) | omega
      by_cases e1 : g1 = g2
      case neg =>
        have q1 : (g1 == g2) = false := beq_false_of_ne e1
        have q2 : (g1 != g2) = true := by rw [bne, q1]; rfl
        have HN := Lib.hid (show true = frB gs ps k (j + 1) from by rw [HS.out, decide_eq_true e1]; rfl)
        clear e1
        refine wp_region_quiet (C := fun w' => Below (World.heap (wn)).size (wn) w') (by kernel_rfl) (by kernel_rfl) (by first | exact ⟨rfl, rfl, rfl, Nat.le_refl _, fun _ _ => rfl⟩ | exact Below.dw (by repeat (first | exact Below.refl _ _ | refine Below.al ?_ _ | refine Below.dr ?_ _ | refine Below.dw ?_ | refine Below.st ?_ (by first | exact Nat.le_refl _ | exact Nat.le_add_right _ _ | (simp; omega)) _ | (refine below_next ?_ (by assumption))))) ?_
        simp only []
        repeat (go_big_quiet_step (first | (intro _; with_reducible exact rfl) | (intro hC; have y1 := cell_below Y1.out hC; have y2 := cell_below Y2.out hC; go_simp; rfl)))
        refine wpQuiet_nil ?_
        intro wq hq
        have Tn := Lib.hid (below_next T.out hq)
        have Xn := Lib.hid (Sl.below X.out hq)
        have Yn := Lib.hid (Sl.below Y.out hq)
        have Zn := Lib.hid (Sl.below Z.out hq)
        clear hq
        clear T X Y Z
        have T := Tn
        have X := Xn
        have Y := Yn
        have Z := Zn
        clear Tn Xn Yn Zn
        obtain ⟨wn, hwq⟩ : ∃ w0, w0 = wq := ⟨_, rfl⟩
        subst hwq
        go_wp2_with fail
        go_roundw
        case rel => exact ⟨j + 1, true, by omega, rfl, by go_num, HN.out, T.out, X.out, Y.out, Z.out⟩
        case measure => first | (simp [intOf]; done) | (simp [intOf]; omega) | omega
      have q1 : (g1 == g2) = true := by rw [e1]; exact beq_self_eq_true _
      have q2 : (g1 != g2) = false := by rw [bne, q1]; rfl
      by_cases e2 : p1 = p2
      · have q3 : (p1 == p2) = true := by rw [e2]; exact beq_self_eq_true _
        have q4 : (p1 != p2) = false := by rw [bne, q3]; rfl
        have HN := Lib.hid (show false = frB gs ps k (j + 1) from by rw [HS.out, decide_eq_false (fun h => h e1), decide_eq_false (fun h => h e2)]; rfl)
        clear e1 e2
        refine wp_region_quiet (C := fun w' => Below (World.heap (wn)).size (wn) w') (by kernel_rfl) (by kernel_rfl) (by first | exact ⟨rfl, rfl, rfl, Nat.le_refl _, fun _ _ => rfl⟩ | exact Below.dw (by repeat (first | exact Below.refl _ _ | refine Below.al ?_ _ | refine Below.dr ?_ _ | refine Below.dw ?_ | refine Below.st ?_ (by first | exact Nat.le_refl _ | exact Nat.le_add_right _ _ | (simp; omega)) _ | (refine below_next ?_ (by assumption))))) ?_
        simp only []
        repeat (go_big_quiet_step (first | (intro _; with_reducible exact rfl) | (intro hC; have y1 := cell_below Y1.out hC; have y2 := cell_below Y2.out hC; have y3 := cell_below Y3.out hC; have y4 := cell_below Y4.out hC; go_simp; rfl)))
        refine wpQuiet_nil ?_
        intro wq hq
        have Tn := Lib.hid (below_next T.out hq)
        have Xn := Lib.hid (Sl.below X.out hq)
        have Yn := Lib.hid (Sl.below Y.out hq)
        have Zn := Lib.hid (Sl.below Z.out hq)
        clear hq
        clear T X Y Z
        have T := Tn
        have X := Xn
        have Y := Yn
        have Z := Zn
        clear Tn Xn Yn Zn
        obtain ⟨wn, hwq⟩ : ∃ w0, w0 = wq := ⟨_, rfl⟩
        subst hwq
        go_wp2_with fail
        go_roundw
        case rel => exact ⟨j + 1, false, by omega, rfl, by go_num, HN.out, T.out, X.out, Y.out, Z.out⟩
        case measure => first | (simp [intOf]; done) | (simp [intOf]; omega) | omega
      · have q3 : (p1 == p2) = false := beq_false_of_ne e2
        have q4 : (p1 != p2) = true := by rw [bne, q3]; rfl
        have HN := Lib.hid (show true = frB gs ps k (j + 1) from by rw [HS.out, decide_eq_false (fun h => h e1), decide_eq_true e2]; rfl)
        clear e1 e2
        refine wp_region_quiet (C := fun w' => Below (World.heap (wn)).size (wn) w') (by kernel_rfl) (by kernel_rfl) (by first | exact ⟨rfl, rfl, rfl, Nat.le_refl _, fun _ _ => rfl⟩ | exact Below.dw (by repeat (first | exact Below.refl _ _ | refine Below.al ?_ _ | refine Below.dr ?_ _ | refine Below.dw ?_ | refine Below.st ?_ (by first | exact Nat.le_refl _ | exact Nat.le_add_right _ _ | (simp; omega)) _ | (refine below_next ?_ (by assumption))))) ?_
        simp only []
        repeat (go_big_quiet_step (first | (intro _; with_reducible exact rfl) | (intro hC; have y1 := cell_below Y1.out hC; have y2 := cell_below Y2.out hC; have y3 := cell_below Y3.out hC; have y4 := cell_below Y4.out hC; go_simp; rfl)))
        refine wpQuiet_nil ?_
        intro wq hq
        have Tn := Lib.hid (below_next T.out hq)
        have Xn := Lib.hid (Sl.below X.out hq)
        have Yn := Lib.hid (Sl.below Y.out hq)
        have Zn := Lib.hid (Sl.below Z.out hq)
        clear hq
        clear T X Y Z
        have T := Tn
        have X := Xn
        have Y := Yn
        have Z := Zn
        clear Tn Xn Yn Zn
        obtain ⟨wn, hwq⟩ : ∃ w0, w0 = wq := ⟨_, rfl⟩
        subst hwq
        go_wp2_with fail
        go_roundw
        case rel => exact ⟨j + 1, true, by omega, rfl, by go_num, HN.out, T.out, X.out, Y.out, Z.out⟩
        case measure => first | (simp [intOf]; done) | (simp [intOf]; omega) | omega
end Go.Proofs.Yteeokegkbhpbcaa

namespace Go.Proofs.Yteeokegkbhpbcaa
open Go.RowKit
set_option linter.unusedVariables false
set_option linter.unusedSimpArgs false
set_option maxRecDepth 100000

theorem dg_front (n : Nat) : ∀ k i, dg n (k + 1) i = ((i / n ^ k % n : Nat) : Int) :: dg n k i
  | 0, i => by simp [dg]
  | k + 1, i => by
    show dg n (k + 1) (i / n) ++ [((i % n : Nat) : Int)] = _
    rw [dg_front n k (i / n), Nat.div_div_eq_div_mul, List.cons_append]
    rw [show n * n ^ k = n ^ (k + 1) from by rw [Nat.pow_succ, Nat.mul_comm]]
    rfl
theorem Own.app' {w : World} {B : Nat} {v : Value} {xs ys : List Int} (h : w.ownsRow B 3 1 v (xs.length + ys.length) (xs.map (Value.int .i64) ++ ys.map (Value.int .i64))) : Own w B v (xs ++ ys) := by
  unfold Own; simpa using h
set_option maxHeartbeats 2000000 in
theorem sL13Of_c (i m n : Nat) (w : World) (hi9 : i ≤ 1000000) (hm : m ≤ 6) (hn : 0 < n) (hn3 : n ≤ 3) :
    Calls Try.prog 47 #[.int .i64 i, .int .i64 m, .int .i64 n] w (NewI w (dg n m i)) := by
  obtain ⟨i0, hi, hz0, hz1, hz2⟩ := info_parts infoInt
  have hne : ((n : Int) == 0) = false := beq_false_of_ne (by omega)
  refine at_base fun wn hwn => ?_
  have T := Lib.hid (show Below w.heap.size w wn from by rw [hwn]; exact Below.refl _ _)
  clear hwn
  go_enter Try.func47, Try.ntmps47
  have hWH := T.out.size
  obtain ⟨H, hH⟩ : ∃ H, Array.size (World.heap wn) = H := ⟨_, rfl⟩
  have HH : Hid _ := hH
  rw [hH] at hWH
  have V : Hid (Own (wn.alloc (.cells #[] 3)) H (.slice (some ⟨H, 0, none⟩) 0 0) []) := by rw [← hH]; exact Own.none
  clear hH
  have Tn : Hid (Below w.heap.size w _) := Below.al T.out (.cells #[] 3)
  clear T
  have T := Tn
  clear Tn
  go_wp2_with fail
  rw [HH.out]
  have NV := Lib.hid (show (Value.slice (some ⟨H, 0, none⟩) 0 0) ≠ .slice none 0 0 from by simp)
  go_loopw [0, 7, 8] (fun a p u wr => ∃ (k q : Nat) (pv : Value) (VL : List Int), p = pv ∧ k ≤ m ∧ a = .int .i64 q ∧ u = .int .i64 k ∧ q = i / n ^ k ∧ VL = dg n k i ∧ pv ≠ .slice none 0 0 ∧ Below w.heap.size w wr ∧ Own wr H pv VL) (fun a p u _ => m - (intOf u).toNat)
  case atStart => exact ⟨0, i, _, [], rfl, by omega, rfl, rfl, by simp, rfl, NV.out, T.out, V.out⟩
  case' round =>
    clear T V
    obtain ⟨k, q, pv, VL, rfl, hk, rfl, rfl, hq, hVL, hNV, h9T, h9V⟩ := hrel
    obtain ⟨wn, hwq⟩ : ∃ w0 : World, w0 = wr := ⟨_, rfl⟩
    rw [← hwq] at h9T h9V ⊢
    clear hwq
    have T := Lib.hid h9T
    have V := Lib.hid h9V
    clear h9T h9V
    have hvl : VL.length ≤ k := by rw [hVL, dg_len]; exact Nat.le_refl _
    have hqi : q ≤ 1000000 := by rw [hq]; exact Nat.le_trans (Nat.div_le_self _ _) hi9
    have HQ := Lib.hid hq
    have HV2 := Lib.hid hVL
    clear NV hq hVL
    have NV := Lib.hid hNV
    clear hNV
    by_cases hlt : k < m
    case neg =>
      obtain rfl : k = m := by omega
      go_wp2_with fail
      go_ret
      exact ⟨_, rfl, by rw [← HV2.out]; exact Own.mono V.out hWH, T.out⟩
    have hki : (k : Int) < m := by omega
    obtain ⟨bD, cD, h7, -, hbD, hID, -, -⟩ := Own.some V.out NV.out
    have hbV := Own.base V.out NV.out
    subst h7
    go_upto_region 5 with fail
    obtain ⟨v, hv⟩ : ∃ v : Int, (q : Int) % (n : Int) = v := ⟨_, rfl⟩
    have hvd : v = ((q % n : Nat) : Int) := by rw [← hv]; first | exact (Int.natCast_emod _ _).symm | exact (Int.ofNat_emod _ _).symm | rfl
    have HVD := Lib.hid hvd
    have I0 := Lib.hid (show Ints (wn.alloc (.cells #[.int .i64 v] 3)) bD 0 VL from Ints.al hID _)
    obtain ⟨H2, hH2⟩ : ∃ H2, wn.heap.size = H2 := ⟨_, rfl⟩
    have HH2 := Lib.hid hH2
    have hTH : w.heap.size ≤ H2 := by rw [← hH2]; exact T.out.size
    have hgH : H ≤ H2 := by rw [← hH2]; exact hbV
    have ON := Lib.hid (Own.new (w := wn) v)
    have Tn := Lib.hid (Below.al T.out (.cells #[.int .i64 v] 3))
    have hqd : q / n = i / n ^ (k + 1) := by rw [HQ.out, Nat.div_div_eq_div_mul, Nat.pow_succ]
    have HQD := Lib.hid hqd
    have hqw : -9223372036854775808 ≤ (q : Int) / (n : Int) ∧ (q : Int) / (n : Int) ≤ 9223372036854775807 := by
      have e : (q : Int) / (n : Int) = ((q / n : Nat) : Int) := rfl
      have h9 := Nat.div_le_self q n
      rw [e]
      generalize q / n = z at *
      omega
    clear hID hH2 hvd T V hqd
    go_wp2_with ((at_builtin; refine wpList_append_wanted rfl _ _ 23 rfl (World.heap wn).size 3 i0 (.int .i64 0) 1 8 Try.underlying23 hi hz0 hz1 hz2 rfl (by decide) _ _ _ rfl ON.out ⟨bD, 0, none⟩ VL.length cD (VL.map (Value.int .i64)) rfl (by simp) (Ints.cells I0.out) (by intro u hu; simp at hu; obtain ⟨a, _, rfl⟩ := hu; rfl) (by first | (unfold maxLen; simp; omega) | (simp; omega)) (by simp; omega) (by simp) ?_))
    intro pd2 w2 hown hgrow hnil hat
    have O9 := Lib.hid (show Own w2 H2 pd2 (v :: VL) from by
      have : w2.ownsRow (World.heap wn).size 3 1 pd2 (([v] : List Int).length + VL.length) (([v] : List Int).map (Value.int .i64) ++ VL.map (Value.int .i64)) := hown
      rw [HH2.out] at this
      exact Own.app' this)
    have hg2 : (wn.alloc (.cells #[.int .i64 v] 3)).grownBy w2 (some H2) := by first | exact hgrow | (have h9 := hgrow; rw [HH2.out] at h9; exact h9)
    have T := Lib.hid (Below.own Tn.out hg2 (fun i e => by cases e; omega))
    have V := Lib.hid (Own.mono (A := H) O9.out hgH)
    have NV := Lib.hid (show pd2 ≠ .slice none 0 0 from hnil)
    have HN := Lib.hid (show v :: VL = dg n (k + 1) i from by rw [dg_front, HVD.out, HQ.out, ← HV2.out])
    clear hown hgrow hnil hat hg2 Tn O9
    clear hv
    go_wp2_with fail
    go_roundw
    case rel => exact ⟨k + 1, q / n, pd2, v :: VL, rfl, by omega, rfl, by go_num, HQD.out, HN.out, NV.out, T.out, V.out⟩
    case measure => first | (simp [intOf]; done) | (simp [intOf]; omega) | omega
end Go.Proofs.Yteeokegkbhpbcaa

namespace Go.Proofs.Yteeokegkbhpbcaa
open Go.RowKit
set_option linter.unusedVariables false
set_option linter.unusedSimpArgs false
set_option maxRecDepth 100000

/-- What a function gives that makes a row and says whether there is one. -/
def NewP (w : World) (L : List Int) (F : Bool) (e : Ending) (w' : World) : Prop := ∃ v, e = .returned (.tuple #[v, .bool F]) ∧ Own w' w.heap.size v L ∧ Below w.heap.size w w'
theorem hbU_len {gs rs : List Int} (hn : 0 < rs.length) : ∀ i, ((hbU gs rs i).getD []).length ≤ gs.length
  | 0 => by simp [hbU]
  | i + 1 => by
    have ih := hbU_len (gs := gs) hn i
    have hd := dg_len rs.length gs.length i
    unfold hbU
    cases e : hbU gs rs i with
    | none =>
      simp only
      split <;> simp [hd]
    | some b =>
      rw [e] at ih
      simp only
      split
      · simp [hd]
      · simpa using ih
theorem hbU_fit {gs rs : List Int} : ∀ {i : Nat} {b : List Int}, hbU gs rs i = some b → HFit gs rs b
  | 0, b, h => by cases h
  | i + 1, b, h => by
    unfold hbU at h
    cases e : hbU gs rs i with
    | none =>
      rw [e] at h
      simp only at h
      split at h
      · rename_i g; cases h; exact g
      · cases h
    | some c =>
      rw [e] at h
      simp only at h
      split at h
      · rename_i g; cases h; exact g.1
      · cases h; exact hbU_fit e
theorem hbU_no {gs rs : List Int} {i : Nat} (h : ¬ HFit gs rs (dg rs.length gs.length i)) : hbU gs rs (i + 1) = hbU gs rs i := by
  conv => lhs; unfold hbU
  cases e : hbU gs rs i with
  | none => simp only; rw [if_neg h]
  | some b => simp only; rw [if_neg fun g => h g.1]
theorem hbU_first {gs rs : List Int} {i : Nat} (h : HFit gs rs (dg rs.length gs.length i)) (e : hbU gs rs i = none) : hbU gs rs (i + 1) = some (dg rs.length gs.length i) := by
  unfold hbU; rw [e]; simp only; rw [if_pos h]
theorem hbU_lt {gs rs b : List Int} {i : Nat} (h : HFit gs rs (dg rs.length gs.length i)) (e : hbU gs rs i = some b) (g : hsU gs (dg rs.length gs.length i) gs.length < hsU gs b gs.length) : hbU gs rs (i + 1) = some (dg rs.length gs.length i) := by
  unfold hbU; rw [e]; simp only; rw [if_pos ⟨h, g⟩]
theorem hbU_ge {gs rs b : List Int} {i : Nat} (e : hbU gs rs i = some b) (g : ¬ hsU gs (dg rs.length gs.length i) gs.length < hsU gs b gs.length) : hbU gs rs (i + 1) = some b := by
  unfold hbU; rw [e]; simp only; rw [if_neg fun q => g q.2]
set_option maxHeartbeats 4000000 in
theorem sHallBest_c (a1 : Option Addr) (n1 c1 : Nat) (gs : List Int) (a2 : Option Addr) (n2 c2 : Nat) (rs : List Int) (w : World) (hs : Sl w a1 gs) (hl : gs.length = n1) (hs2 : Sl w a2 rs) (hl2 : rs.length = n2) (hm : n1 ≤ 1048577) (hm2 : n2 ≤ 1048577) :
    Calls Try.prog 27 #[.slice a1 n1 c1, .slice a2 n2 c2] w (NewP w ((hbest gs rs).getD []) (hbest gs rs).isSome) := by
  obtain ⟨P, hP⟩ : ∃ P, hokB gs rs = P := ⟨_, rfl⟩
  have K0 := fun w' (h : Sl w' a1 gs) (h2 : Sl w' a2 rs) => sHallOk_c a1 n1 c1 gs a2 n2 c2 rs w' h hl h2 hl2 hm hm2
  have K1 := fun (w' : World) (a3 : Option Addr) (n3 c3 : Nat) (ps : List Int) (h : Sl w' a1 gs) (h2 : Sl w' a2 rs) (h3 : Sl w' a3 ps) (e3 : ps.length = n3) (h9 : n3 ≤ 1048577) => sHallFits_c a1 n1 c1 gs a2 n2 c2 rs a3 n3 c3 ps w' h hl h2 hl2 h3 e3 hm hm2 h9
  have K2 := fun (w' : World) (a3 : Option Addr) (n3 c3 : Nat) (ps : List Int) (h : Sl w' a1 gs) (h2 : Sl w' a2 rs) (h3 : Sl w' a3 ps) (e3 : ps.length = n3) (h9 : n3 ≤ 1048577) => sHallStops_c a1 n1 c1 gs a2 n2 c2 rs a3 n3 c3 ps w' h hl h2 hl2 h3 e3 hm hm2 h9
  rw [hP] at K0
  have H0 := Lib.hid K0
  have H1 := Lib.hid K1
  have H2 := Lib.hid K2
  have HP := Lib.hid hP
  have HL := Lib.hid hl
  have HL2 := Lib.hid hl2
  obtain ⟨S0, hS0⟩ : ∃ S0, w.heap.size = S0 := ⟨_, rfl⟩
  have HS0 := Lib.hid hS0
  have hSw : S0 ≤ w.heap.size := by rw [hS0]; exact Nat.le_refl _
  have hwS : w.heap.size ≤ S0 := by rw [hS0]; exact Nat.le_refl _
  clear K0 K1 K2 hP hl hl2 hS0
  refine at_base fun wn hwn => ?_
  have T := Lib.hid (show Below w.heap.size w wn from by rw [hwn]; exact Below.refl _ _)
  rw [← hwn] at hs
  have X := Lib.hid (show Sl wn a1 gs from hs)
  clear hs
  rw [← hwn] at hs2
  have Y := Lib.hid (show Sl wn a2 rs from hs2)
  clear hs2
  clear hwn
  go_enter Try.func27, Try.ntmps27
  have hWH := T.out.size
  obtain ⟨H, hH⟩ : ∃ H, Array.size (World.heap wn) = H := ⟨_, rfl⟩
  have HH : Hid _ := hH
  rw [hH] at hWH
  have V : Hid (Own (wn.alloc (.cells #[] 3)) H (.slice (some ⟨H, 0, none⟩) 0 0) []) := by rw [← hH]; exact Own.none
  clear hH
  have Tn : Hid (Below w.heap.size w _) := Below.al T.out (.cells #[] 3)
  have Xn : Hid _ := Sl.below X.out ((Below.refl _ _).alloc (Nat.le_refl _) (.cells #[] 3))
  have Yn : Hid _ := Sl.below Y.out ((Below.refl _ _).alloc (Nat.le_refl _) (.cells #[] 3))
  clear T X Y
  have T := Tn
  have X := Xn
  have Y := Yn
  clear Tn Xn Yn
  go_wp2_with fail
  rw [HH.out]
  refine Calls.mono (H0.out _ X.out Y.out) ?_
  intro e wn hh
  obtain ⟨he, hb⟩ := (by first | exact hh | exact Ro.mk hh | exact St.mk hh | exact LawOk.mk' hh : Mk _ _ e wn)
  subst he
  have Tn : Hid (Below w.heap.size w wn) := below_next T.out hb
  have Xn : Hid _ := Sl.below X.out hb
  have Yn : Hid _ := Sl.below Y.out hb
  have Vn : Hid _ := Own.below V.out hb
  clear hb hh
  clear T X Y V
  have T := Tn
  have X := Xn
  have Y := Yn
  have V := Vn
  clear Tn Xn Yn Vn
  cases P
  case false =>
    have E := Lib.hid (show hbest gs rs = none from by unfold hbest; rw [if_neg fun h => by have := tr_true h; rw [show tr (HOk gs rs) = false from HP.out] at this; cases this])
    go_wp2_with fail
    exact bodyPost_ret (v := .tuple #[.slice (some ⟨H, 0, none⟩) 0 0, .bool false]) (by simp [results, Try.results27, go_sem]) rfl ⟨_, by rw [E.out]; rfl, by rw [E.out]; exact Own.mono V.out hWH, T.out⟩
  have hok : HOk gs rs := tr_t.1 HP.out
  have HB0 := Lib.hid (show hbest gs rs = hbU gs rs (n2 ^ n1) from by unfold hbest; rw [if_pos hok, HL.out, HL2.out])
  have hn1 : n1 ≤ 6 := by rw [← HL.out]; exact hok.2.2.1
  have hn2 : 1 ≤ n2 ∧ n2 ≤ 3 := by rw [← HL2.out]; exact hok.2.2.2
  clear hok
  have hpw : ∀ k, k ≤ n1 → n2 ^ k ≤ 729 := fun k hk => Nat.le_trans (Nat.pow_le_pow_left hn2.2 k) (Nat.le_trans (Nat.pow_le_pow_right (by omega) (show k ≤ 6 from by omega)) (by decide))
  have HPW := Lib.hid hpw
  clear hpw
  go_wp2_with fail
  have VS := Lib.hid (Own.mono (A := S0) V.out (by omega))
  clear V
  have V := VS
  clear VS
  go_loopw [8, 9] (fun q r wr => ∃ (k z : Nat), k ≤ n1 ∧ q = .int .i64 z ∧ r = .int .i64 k ∧ z = n2 ^ k ∧ Below w.heap.size w wr ∧ Sl wr a1 gs ∧ Sl wr a2 rs ∧ Own wr S0 (.slice (some ⟨H, 0, none⟩) 0 0) []) (fun q r _ => n1 - (intOf r).toNat)
  case atStart => exact ⟨0, 1, by omega, rfl, rfl, by simp, T.out, X.out, Y.out, V.out⟩
  case' round =>
    clear T X Y V
    obtain ⟨k, z, hk, rfl, rfl, hz, h9T, h9X, h9Y, h9V⟩ := hrel
    obtain ⟨wn, hwq⟩ : ∃ w0 : World, w0 = wr := ⟨_, rfl⟩
    rw [← hwq] at h9T h9X h9Y h9V ⊢
    clear hwq
    have T := Lib.hid h9T
    have X := Lib.hid h9X
    have Y := Lib.hid h9Y
    have V := Lib.hid h9V
    clear h9T h9X h9Y h9V
    have hz9 : z ≤ 729 := by rw [hz]; exact HPW.out k hk
    have HZ := Lib.hid hz
    clear hz
    by_cases hkl : k < n1
    case pos =>
      have hki : (k : Int) < n1 := by omega
      have hz8 : n2 ^ (k + 1) ≤ 729 := HPW.out (k + 1) (by omega)
      have HN := Lib.hid (show z * n2 = n2 ^ (k + 1) from by rw [HZ.out, Nat.pow_succ])
      have hw9 : -9223372036854775808 ≤ (z : Int) * (n2 : Int) ∧ (z : Int) * (n2 : Int) ≤ 9223372036854775807 := by
        have e : (z : Int) * (n2 : Int) = ((z * n2 : Nat) : Int) := by simp
        rw [e, HN.out]
        omega
      clear hz8
      go_wp2_with fail
      go_roundw
      case rel => exact ⟨k + 1, z * n2, by omega, (by simp), by go_num, HN.out, T.out, X.out, Y.out, V.out⟩
      case measure => first | (simp [intOf]; done) | (simp [intOf]; omega) | omega
    obtain rfl : k = n1 := by omega
    have hki : ¬ (k : Int) < (k : Int) := by omega
    go_wp2_with fail
    go_loopw [6, 7, 10] (fun p u v wr => ∃ (i : Nat) (F : Bool) (pv : Value) (VL : List Int), p = pv ∧ u = .bool F ∧ v = .int .i64 i ∧ i ≤ z ∧ F = (hbU gs rs i).isSome ∧ VL = (hbU gs rs i).getD [] ∧ Below w.heap.size w wr ∧ Sl wr a1 gs ∧ Sl wr a2 rs ∧ Own wr S0 pv VL) (fun p u v _ => z - (intOf v).toNat)
    case atStart => exact ⟨0, false, _, [], rfl, rfl, rfl, by omega, rfl, rfl, T.out, X.out, Y.out, V.out⟩
    case' round =>
      clear T X Y V
      obtain ⟨i, F, pv, VL, rfl, rfl, rfl, hi, hF, hVL, h9T, h9X, h9Y, h9V⟩ := hrel
      obtain ⟨wn, hwq⟩ : ∃ w0 : World, w0 = wr := ⟨_, rfl⟩
      rw [← hwq] at h9T h9X h9Y h9V ⊢
      clear hwq
      have T := Lib.hid h9T
      have X := Lib.hid h9X
      have Y := Lib.hid h9Y
      have V := Lib.hid h9V
      clear h9T h9X h9Y h9V
      have hvl : VL.length ≤ 6 := by rw [hVL]; exact Nat.le_trans (hbU_len (by rw [HL2.out]; omega) i) (by rw [HL.out]; exact hn1)
      have HF := Lib.hid hF
      have HV := Lib.hid hVL
      clear hF hVL
      by_cases hil : i < z
      case neg =>
        obtain rfl : i = z := by omega
        have E := Lib.hid (show hbest gs rs = hbU gs rs i from by rw [HB0.out, ← HZ.out])
        go_wp2_with fail
        exact bodyPost_ret (v := .tuple #[u6, .bool F]) (by simp [results, Try.results27, go_sem]) rfl ⟨_, by rw [E.out, ← HF.out], by rw [E.out, ← HV.out]; exact Own.mono V.out hwS, T.out⟩
      have hii : (i : Int) < z := by omega
      obtain ⟨L, hL⟩ : ∃ L, dg n2 k i = L := ⟨_, rfl⟩
      have hdl : dg rs.length gs.length i = L := by rw [HL.out, HL2.out]; exact hL
      have hLl : L.length = k := by rw [← hL, dg_len]
      have KL := fun w' => sL13Of_c i k n2 w' (by omega) hn1 (by omega) hn2.2
      rw [hL] at KL
      have hLm : L.length ≤ 1048577 := by omega
      obtain ⟨Q, hQ⟩ : ∃ Q, hfB gs rs L = Q := ⟨_, rfl⟩
      have KF := fun (w' : World) (a3 : Option Addr) (c3 : Nat) (h : Sl w' a1 gs) (h2 : Sl w' a2 rs) (h3 : Sl w' a3 L) => H1.out w' a3 L.length c3 L h h2 h3 rfl hLm
      rw [hQ] at KF
      have HKL := Lib.hid KL
      have HKF := Lib.hid KF
      have HQ := Lib.hid hQ
      have HDL := Lib.hid hdl
      clear KL KF hQ hL hdl hLl
      go_wp2_with fail
      refine Calls.mono (HKL.out _) ?_
      intro e wq hh
      obtain ⟨lo9, hi9, p9, u9', rfl, hlo, hO, hb9⟩ := NewI.get hh
      have hSl : S0 ≤ lo9 := by rw [← hlo]; exact Nat.le_trans hSw T.out.size
      have O9n := Lib.hid (show Own wq S0 (.slice p9 L.length u9') L from Own.mono hO.1 hSl)
      clear hO hh HKL hlo
      have Tn := Lib.hid (below_next T.out hb9)
      have Xn := Lib.hid (Sl.below X.out hb9)
      have Yn := Lib.hid (Sl.below Y.out hb9)
      have Vn := Lib.hid (Own.below V.out hb9)
      clear hb9
      clear T X Y V
      have T := Tn
      have X := Xn
      have Y := Yn
      have V := Vn
      clear Tn Xn Yn Vn
      obtain ⟨wn, hwq⟩ : ∃ w0, w0 = wq := ⟨_, rfl⟩
      subst hwq
      have O9 := O9n
      clear O9n
      go_wp2_with fail
      refine Calls.mono (HKF.out _ _ _ X.out Y.out (own_rd O9.out).1) ?_
      intro e wn hh
      obtain ⟨he, hb⟩ := (by first | exact hh | exact Ro.mk hh | exact St.mk hh | exact LawOk.mk' hh : Mk _ _ e wn)
      subst he
      have Tn : Hid (Below w.heap.size w wn) := below_next T.out hb
      have Xn : Hid _ := Sl.below X.out hb
      have Yn : Hid _ := Sl.below Y.out hb
      have Vn : Hid _ := Own.below V.out hb
      have O9n : Hid _ := Own.below O9.out hb
      clear hb hh
      clear T X Y V O9
      have T := Tn
      have X := Xn
      have Y := Yn
      have V := Vn
      have O9 := O9n
      clear Tn Xn Yn Vn O9n
      clear HKF
      cases Q
      case false =>
        have hno : ¬ HFit gs rs (dg rs.length gs.length i) := by rw [HDL.out]; intro h; have := tr_true h; rw [show tr (HFit gs rs L) = false from HQ.out] at this; cases this
        have HF2 := Lib.hid (show F = (hbU gs rs (i + 1)).isSome from by rw [hbU_no hno]; exact HF.out)
        have HV2 := Lib.hid (show VL = (hbU gs rs (i + 1)).getD [] from by rw [hbU_no hno]; exact HV.out)
        clear hno
        go_wp2_with fail
        go_roundw
        case rel => exact ⟨i + 1, F, _, VL, rfl, rfl, by go_num, by omega, HF2.out, HV2.out, T.out, X.out, Y.out, V.out⟩
        case measure => first | (simp [intOf]; done) | (simp [intOf]; omega) | omega
      have hfit : HFit gs rs (dg rs.length gs.length i) := by rw [HDL.out]; exact tr_t.1 HQ.out
      cases F
      case false =>
        have hn0 : hbU gs rs i = none := by
          have := HF.out
          cases e : hbU gs rs i with
          | none => rfl
          | some b => rw [e] at this; cases this
        have HF2 := Lib.hid (show true = (hbU gs rs (i + 1)).isSome from by rw [hbU_first hfit hn0]; rfl)
        have HV2 := Lib.hid (show L = (hbU gs rs (i + 1)).getD [] from by rw [hbU_first hfit hn0, HDL.out]; rfl)
        clear hn0 hfit V
        have V := O9
        clear O9
        go_wp2_with fail
        go_roundw
        case rel => exact ⟨i + 1, true, _, L, rfl, rfl, by go_num, by omega, HF2.out, HV2.out, T.out, X.out, Y.out, V.out⟩
        case measure => first | (simp [intOf]; done) | (simp [intOf]; omega) | omega
      have hsm : hbU gs rs i = some VL := by
        have h1 := HF.out
        have h2 := HV.out
        cases e : hbU gs rs i with
        | none => rw [e] at h1; cases h1
        | some b => rw [e] at h2; rw [h2]; rfl
      have hv1 : hsv gs rs L = hsU gs L gs.length := hsv_t (by rw [← HDL.out]; exact hfit)
      have hv2 : hsv gs rs VL = hsU gs VL gs.length := hsv_t (hbU_fit hsm)
      obtain ⟨D1, hD1⟩ : ∃ D, hsU gs L gs.length = D := ⟨_, rfl⟩
      obtain ⟨D2, hD2⟩ : ∃ D, hsU gs VL gs.length = D := ⟨_, rfl⟩
      rw [hD1] at hv1
      rw [hD2] at hv2
      obtain ⟨aV, cV, h7, -⟩ := Own.sl V.out
      rw [h7]
      rw [h7] at V
      have KA := fun (w' : World) (a3 : Option Addr) (c3 : Nat) (h : Sl w' a1 gs) (h2 : Sl w' a2 rs) (h3 : Sl w' a3 L) => H2.out w' a3 L.length c3 L h h2 h3 rfl hLm
      have KB := fun (w' : World) (a3 : Option Addr) (c3 : Nat) (h : Sl w' a1 gs) (h2 : Sl w' a2 rs) (h3 : Sl w' a3 VL) => H2.out w' a3 VL.length c3 VL h h2 h3 rfl (by omega)
      rw [hv1] at KA
      rw [hv2] at KB
      have HKA := Lib.hid KA
      have HKB := Lib.hid KB
      have HSM := Lib.hid hsm
      have HFT := Lib.hid hfit
      have HD1 := Lib.hid hD1
      have HD2 := Lib.hid hD2
      clear KA KB hsm hfit hD1 hD2 hv1 hv2 h7
      go_wp2_with fail
      refine Calls.mono (HKA.out _ _ _ X.out Y.out (own_rd O9.out).1) ?_
      intro e wn hh
      obtain ⟨he, hb⟩ := (by first | exact hh | exact Ro.mk hh | exact St.mk hh | exact LawOk.mk' hh : Mk _ _ e wn)
      subst he
      have Tn : Hid (Below w.heap.size w wn) := below_next T.out hb
      have Xn : Hid _ := Sl.below X.out hb
      have Yn : Hid _ := Sl.below Y.out hb
      have Vn : Hid _ := Own.below V.out hb
      have O9n : Hid _ := Own.below O9.out hb
      clear hb hh
      clear T X Y V O9
      have T := Tn
      have X := Xn
      have Y := Yn
      have V := Vn
      have O9 := O9n
      clear Tn Xn Yn Vn O9n
      go_wp2_with fail
      refine Calls.mono (HKB.out _ _ _ X.out Y.out (own_rd V.out).1) ?_
      intro e wn hh
      obtain ⟨he, hb⟩ := (by first | exact hh | exact Ro.mk hh | exact St.mk hh | exact LawOk.mk' hh : Mk _ _ e wn)
      subst he
      have Tn : Hid (Below w.heap.size w wn) := below_next T.out hb
      have Xn : Hid _ := Sl.below X.out hb
      have Yn : Hid _ := Sl.below Y.out hb
      have Vn : Hid _ := Own.below V.out hb
      have O9n : Hid _ := Own.below O9.out hb
      clear hb hh
      clear T X Y V O9
      have T := Tn
      have X := Xn
      have Y := Yn
      have V := Vn
      have O9 := O9n
      clear Tn Xn Yn Vn O9n
      by_cases hD : D1 < D2
      · have e9 := hbU_lt HFT.out HSM.out (by rw [HDL.out, HD1.out, HD2.out]; exact hD)
        have HF2 := Lib.hid (show true = (hbU gs rs (i + 1)).isSome from by rw [e9]; rfl)
        have HV2 := Lib.hid (show L = (hbU gs rs (i + 1)).getD [] from by rw [e9, HDL.out]; rfl)
        clear e9 V
        have V := O9
        clear O9
        go_wp2_with fail
        go_roundw
        case rel => exact ⟨i + 1, true, _, L, rfl, rfl, by go_num, by omega, HF2.out, HV2.out, T.out, X.out, Y.out, V.out⟩
        case measure => first | (simp [intOf]; done) | (simp [intOf]; omega) | omega
      · have hD3 : D2 ≤ D1 := by omega
        have e9 := hbU_ge HSM.out (by rw [HDL.out, HD1.out, HD2.out]; exact hD)
        have HF2 := Lib.hid (show true = (hbU gs rs (i + 1)).isSome from by rw [e9]; rfl)
        have HV2 := Lib.hid (show VL = (hbU gs rs (i + 1)).getD [] from by rw [e9]; rfl)
        clear e9
        go_wp2_with fail
        go_roundw
        case rel => exact ⟨i + 1, true, _, VL, rfl, rfl, by go_num, by omega, HF2.out, HV2.out, T.out, X.out, Y.out, V.out⟩
        case measure => first | (simp [intOf]; done) | (simp [intOf]; omega) | omega
end Go.Proofs.Yteeokegkbhpbcaa

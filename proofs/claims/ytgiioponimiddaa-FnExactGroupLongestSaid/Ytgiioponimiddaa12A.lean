/- The model's l12Floors, GroupOk, l12Give, GroupLongest. -/
import Derived.Test.Ytgiioponimiddaa10B
import Derived.Test.Ytgiioponimiddaa12P
import Derived.Test.YtgiioponimiddaaG
import Derived.Test.YtgiioponimiddaaGG
import Derived.Test.Ytgiioponimiddaa8G
namespace Go.Proofs.Ytgiioponimiddaa
open Go.RowKit
set_option linter.unusedVariables false
set_option linter.unusedSimpArgs false
set_option maxRecDepth 100000

theorem take_all {ys : List Int} {n : Nat} (h : ys.length = n) : ys.take n = ys := List.take_of_length_le (by omega)
set_option maxHeartbeats 2000000 in
theorem sL12Floors_c (b off cap : Nat) (xs : List Int) (a2 : Option Addr) (n2 c2 : Nat) (ys : List Int) (m : Int) (w : World) (hc : Ints w b off xs) (hs : Sl w a2 ys) (hl : ys.length = n2) (hm : xs.length ≤ 1048576) (hm2 : n2 ≤ 1048577) :
    Calls Try.prog 40 #[.slice (some ⟨b, off, none⟩) xs.length cap, .slice a2 n2 c2, .int .i64 m] w (Mk w (.bool (floB xs ys m))) := by
  have HL := Lib.hid hl
  clear hl
  refine at_base fun wn hwn => ?_
  have T := Lib.hid (show Below w.heap.size w wn from by rw [hwn]; exact Below.refl _ _)
  rw [← hwn] at hc
  have X := Lib.hid (show Ints wn b off xs from hc)
  clear hc
  rw [← hwn] at hs
  have Y := Lib.hid (show Sl wn a2 ys from hs)
  clear hs
  clear hwn
  go_enter Try.func40, Try.ntmps40
  go_wp2_with fail
  go_loopw [7] (fun v wr => ∃ k : Nat, k ≤ n2 ∧ v = .int .i64 k ∧ (∀ i, i < k → okF xs (nth ys i)) ∧ Below w.heap.size w wr ∧ Ints wr b off xs ∧ Sl wr a2 ys) (fun v _ => n2 - (intOf v).toNat)
  case atStart => exact ⟨0, by omega, rfl, (fun i hi => by omega), T.out, X.out, Y.out⟩
  case' round =>
    clear T X Y
    obtain ⟨k, hk, rfl, hall, h9T, h9X, h9Y⟩ := hrel
    obtain ⟨wn, hwq⟩ : ∃ w0 : World, w0 = wr := ⟨_, rfl⟩
    rw [← hwq] at h9T h9X h9Y ⊢
    clear hwq
    have T := Lib.hid h9T
    have X := Lib.hid h9X
    have Y := Lib.hid h9Y
    clear h9T h9X h9Y
    have HA := Lib.hid hall
    clear hall
    by_cases hlt : k < n2
    case neg =>
      obtain rfl : k = n2 := by omega
      by_cases h5 : (k : Int) ≤ m
      · have E := Lib.hid (show floB xs ys m = true from tr_true ⟨okl_nth.2 (fun i hi => HA.out i (by rw [← HL.out]; exact hi)), by rw [HL.out]; exact h5⟩)
        go_wp2_with fail
        go_ret
        exact Mk.b E.out T.out
      · have h6 : m < (k : Int) := by omega
        have E := Lib.hid (show floB xs ys m = false from tr_false fun g => h5 (by have := g.2; rw [HL.out] at this; exact this))
        go_wp2_with fail
        go_ret
        exact Mk.b E.out T.out
    obtain ⟨b2, o2, rfl, hI⟩ := Sl.at Y.out (k := k) (by rw [HL.out]; exact hlt)
    have y1 := hI k (by rw [HL.out]; exact hlt)
    have hki : (k : Int) < n2 := by omega
    clear hI
    by_cases hr : 0 ≤ nth ys k ∧ nth ys k ≤ (xs.length : Int) - 1
    case neg =>
      have t1 := inB_f hr
      have E := Lib.hid (show floB xs ys m = false from tr_false fun g => hr (by have := okl_nth.1 g.1 k (by rw [HL.out]; exact hlt); exact ⟨this.1, by have := this.2; omega⟩))
      clear hr
      go_wp2_with fail
      refine Calls.mono (l1In_c _ _ _ _) ?_
      intro e wn hh
      obtain ⟨he, hb⟩ := (by first | exact hh | exact Ro.mk hh | exact St.mk hh | exact LawOk.mk' hh : Mk _ _ e wn)
      subst he
      have Tn : Hid (Below w.heap.size w wn) := below_next T.out hb
      have Xn : Hid _ := Ints.below X.out hb
      have Yn : Hid _ := Sl.below Y.out hb
      clear hb hh
      clear T X Y
      have T := Tn
      have X := Xn
      have Y := Yn
      clear Tn Xn Yn
      go_wp2_with fail
      go_ret
      exact Mk.b E.out T.out
    have t1 := inB_t hr
    have HN := Lib.hid (show ∀ i, i < k + 1 → okF xs (nth ys i) from fun i hi => by
      by_cases e : i = k
      · subst e; exact ⟨hr.1, by have := hr.2; omega⟩
      · exact HA.out i (by omega))
    clear hr
    go_wp2_with fail
    refine Calls.mono (l1In_c _ _ _ _) ?_
    intro e wn hh
    obtain ⟨he, hb⟩ := (by first | exact hh | exact Ro.mk hh | exact St.mk hh | exact LawOk.mk' hh : Mk _ _ e wn)
    subst he
    have Tn : Hid (Below w.heap.size w wn) := below_next T.out hb
    have Xn : Hid _ := Ints.below X.out hb
    have Yn : Hid _ := Sl.below Y.out hb
    clear hb hh
    clear T X Y
    have T := Tn
    have X := Xn
    have Y := Yn
    clear Tn Xn Yn
    clear y1
    go_wp2_with fail
    go_roundw
    case rel => exact ⟨k + 1, by omega, by go_num, HN.out, T.out, X.out, Y.out⟩
    case measure => first | (simp [intOf]; done) | (simp [intOf]; omega) | omega
set_option maxHeartbeats 2000000 in
theorem sL12Give_c (a1 : Option Addr) (n1 c1 : Nat) (a2 : Option Addr) (n2 c2 : Nat) (a3 : Option Addr) (n3 c3 : Nat) (gs : List Int) (w : World) (hs : Sl w a3 gs) (hl : gs.length = n3) (hm1 : n1 ≤ 1048577) (hm2 : n2 ≤ 1048577) (hm3 : n3 ≤ 1048577) :
    Calls Try.prog 44 #[.slice a1 n1 c1, .slice a2 n2 c2, .slice a3 n3 c3] w (Mk w (.bool (gvB n1 n2 gs))) := by
  have HL := Lib.hid hl
  clear hl
  refine at_base fun wn hwn => ?_
  have T := Lib.hid (show Below w.heap.size w wn from by rw [hwn]; exact Below.refl _ _)
  rw [← hwn] at hs
  have Y := Lib.hid (show Sl wn a3 gs from hs)
  clear hs
  clear hwn
  go_enter Try.func44, Try.ntmps44
  go_wp2_with fail
  go_loopw [7] (fun v wr => ∃ k : Nat, k ≤ n3 ∧ v = .int .i64 k ∧ (∀ i, i < k → 0 ≤ nth gs i ∧ nth gs i < n1) ∧ Below w.heap.size w wr ∧ Sl wr a3 gs) (fun v _ => n3 - (intOf v).toNat)
  case atStart => exact ⟨0, by omega, rfl, (fun i hi => by omega), T.out, Y.out⟩
  case' round =>
    clear T Y
    obtain ⟨k, hk, rfl, hall, h9T, h9Y⟩ := hrel
    obtain ⟨wn, hwq⟩ : ∃ w0 : World, w0 = wr := ⟨_, rfl⟩
    rw [← hwq] at h9T h9Y ⊢
    clear hwq
    have T := Lib.hid h9T
    have Y := Lib.hid h9Y
    clear h9T h9Y
    have HA := Lib.hid hall
    clear hall
    by_cases hlt : k < n3
    case neg =>
      obtain rfl : k = n3 := by omega
      by_cases h5 : k = n2
      · have h6 : ((k : Int) == (n2 : Int)) = true := by rw [h5]; exact beq_self_eq_true _
        have E := Lib.hid (show gvB n1 n2 gs = true from tr_true ⟨fun i hi => HA.out i (by rw [← HL.out]; exact hi), by rw [HL.out]; exact h5⟩)
        clear h5
        go_wp2_with fail
        go_ret
        exact Mk.b E.out T.out
      · have h6 : ((k : Int) == (n2 : Int)) = false := beq_false_of_ne (by omega)
        have E := Lib.hid (show gvB n1 n2 gs = false from tr_false fun g => h5 (by have := g.2; rw [HL.out] at this; exact this))
        clear h5
        go_wp2_with fail
        go_ret
        exact Mk.b E.out T.out
    obtain ⟨b2, o2, rfl, hI⟩ := Sl.at Y.out (k := k) (by rw [HL.out]; exact hlt)
    have y1 := hI k (by rw [HL.out]; exact hlt)
    have hki : (k : Int) < n3 := by omega
    clear hI
    by_cases hr : 0 ≤ nth gs k ∧ nth gs k ≤ (n1 : Int) - 1
    case neg =>
      have t1 := inB_f hr
      have E := Lib.hid (show gvB n1 n2 gs = false from tr_false fun g => hr (by have := g.1 k (by rw [HL.out]; exact hlt); exact ⟨this.1, by have := this.2; omega⟩))
      clear hr
      go_wp2_with fail
      refine Calls.mono (l1In_c _ _ _ _) ?_
      intro e wn hh
      obtain ⟨he, hb⟩ := (by first | exact hh | exact Ro.mk hh | exact St.mk hh | exact LawOk.mk' hh : Mk _ _ e wn)
      subst he
      have Tn : Hid (Below w.heap.size w wn) := below_next T.out hb
      have Yn : Hid _ := Sl.below Y.out hb
      clear hb hh
      clear T Y
      have T := Tn
      have Y := Yn
      clear Tn Yn
      go_wp2_with fail
      go_ret
      exact Mk.b E.out T.out
    have t1 := inB_t hr
    have HN := Lib.hid (show ∀ i, i < k + 1 → 0 ≤ nth gs i ∧ nth gs i < n1 from fun i hi => by
      by_cases e : i = k
      · subst e; exact ⟨hr.1, by have := hr.2; omega⟩
      · exact HA.out i (by omega))
    clear hr
    go_wp2_with fail
    refine Calls.mono (l1In_c _ _ _ _) ?_
    intro e wn hh
    obtain ⟨he, hb⟩ := (by first | exact hh | exact Ro.mk hh | exact St.mk hh | exact LawOk.mk' hh : Mk _ _ e wn)
    subst he
    have Tn : Hid (Below w.heap.size w wn) := below_next T.out hb
    have Yn : Hid _ := Sl.below Y.out hb
    clear hb hh
    clear T Y
    have T := Tn
    have Y := Yn
    clear Tn Yn
    clear y1
    go_wp2_with fail
    go_roundw
    case rel => exact ⟨k + 1, by omega, by go_num, HN.out, T.out, Y.out⟩
    case measure => first | (simp [intOf]; done) | (simp [intOf]; omega) | omega
theorem gok_eq {xs cs ks : List Int} : gokB xs cs ks = (fvB xs && decide (0 < cs.length) && floB xs cs 4 && floB xs ks 5) := by
  refine tr_eq ?_
  simp only [Bool.and_eq_true, decide_eq_true_iff, fvB, floB, tr]
  exact ⟨fun h => ⟨⟨⟨h.1, h.2.1⟩, h.2.2.1⟩, h.2.2.2⟩, fun h => ⟨h.1.1.1, h.1.1.2, h.1.2, h.2⟩⟩
set_option maxHeartbeats 2000000 in
theorem sGroupOk_c (b off cap : Nat) (xs : List Int) (a2 : Option Addr) (n2 c2 : Nat) (cs : List Int) (a3 : Option Addr) (n3 c3 : Nat) (ks : List Int) (w : World) (hc : Ints w b off xs) (hs : Sl w a2 cs) (hl : cs.length = n2) (hs3 : Sl w a3 ks) (hl3 : ks.length = n3) (hm : xs.length ≤ 1048576) (hm2 : n2 ≤ 1048577) (hm3 : n3 ≤ 1048577) :
    Calls Try.prog 15 #[.slice (some ⟨b, off, none⟩) xs.length cap, .slice a2 n2 c2, .slice a3 n3 c3] w (Mk w (.bool (gokB xs cs ks))) := by
  obtain ⟨V, hV⟩ : ∃ V, fvB xs = V := ⟨_, rfl⟩
  obtain ⟨P, hP⟩ : ∃ P, floB xs cs 4 = P := ⟨_, rfl⟩
  obtain ⟨Q, hQ⟩ : ∃ Q, floB xs ks 5 = Q := ⟨_, rfl⟩
  have e : gokB xs cs ks = (V && decide (0 < n2) && P && Q) := by rw [gok_eq, hV, hP, hQ, hl]
  have K0 := fun w' (h : Ints w' b off xs) => sFloorsValid_c b off cap xs w' h (by unfold maxLen; omega)
  have K1 := fun w' (h : Ints w' b off xs) (h2 : Sl w' a2 cs) => sL12Floors_c b off cap xs a2 n2 c2 cs 4 w' h h2 hl hm hm2
  have K2 := fun w' (h : Ints w' b off xs) (h2 : Sl w' a3 ks) => sL12Floors_c b off cap xs a3 n3 c3 ks 5 w' h h2 hl3 hm hm3
  rw [hV] at K0
  rw [hP] at K1
  rw [hQ] at K2
  have H0 := Lib.hid K0
  have H1 := Lib.hid K1
  have H2 := Lib.hid K2
  have HE := Lib.hid e
  clear K0 K1 K2 hV hP hQ e hl hl3
  refine at_base fun wn hwn => ?_
  have T := Lib.hid (show Below w.heap.size w wn from by rw [hwn]; exact Below.refl _ _)
  rw [← hwn] at hc
  have X := Lib.hid (show Ints wn b off xs from hc)
  clear hc
  rw [← hwn] at hs
  have Y := Lib.hid (show Sl wn a2 cs from hs)
  clear hs
  rw [← hwn] at hs3
  have Z := Lib.hid (show Sl wn a3 ks from hs3)
  clear hs3
  clear hwn
  go_enter Try.func15, Try.ntmps15
  go_wp2_with fail
  refine Calls.mono (H0.out _ X.out) ?_
  intro e wn hh
  obtain ⟨he, hb⟩ := (by first | exact hh | exact Ro.mk hh | exact St.mk hh | exact LawOk.mk' hh : Mk _ _ e wn)
  subst he
  have Tn : Hid (Below w.heap.size w wn) := below_next T.out hb
  have Xn : Hid _ := Ints.below X.out hb
  have Yn : Hid _ := Sl.below Y.out hb
  have Zn : Hid _ := Sl.below Z.out hb
  clear hb hh
  clear T X Y Z
  have T := Tn
  have X := Xn
  have Y := Yn
  have Z := Zn
  clear Tn Xn Yn Zn
  cases V
  case false =>
    have E := Lib.hid (show gokB xs cs ks = false from by rw [HE.out]; rfl)
    go_wp2_with fail
    go_ret
    exact Mk.b E.out T.out
  by_cases hn : n2 = 0
  case pos =>
    subst hn
    have E := Lib.hid (show gokB xs cs ks = false from by rw [HE.out]; rfl)
    go_wp2_with fail
    go_ret
    exact Mk.b E.out T.out
  have hn2 : 0 < n2 := by omega
  have hn1 : (0 : Int) < n2 := by omega
  have HE2 := Lib.hid (show gokB xs cs ks = (P && Q) from by rw [HE.out, decide_eq_true hn2]; simp)
  clear hn
  go_wp2_with fail
  refine Calls.mono (H1.out _ X.out Y.out) ?_
  intro e wn hh
  obtain ⟨he, hb⟩ := (by first | exact hh | exact Ro.mk hh | exact St.mk hh | exact LawOk.mk' hh : Mk _ _ e wn)
  subst he
  have Tn : Hid (Below w.heap.size w wn) := below_next T.out hb
  have Xn : Hid _ := Ints.below X.out hb
  have Yn : Hid _ := Sl.below Y.out hb
  have Zn : Hid _ := Sl.below Z.out hb
  clear hb hh
  clear T X Y Z
  have T := Tn
  have X := Xn
  have Y := Yn
  have Z := Zn
  clear Tn Xn Yn Zn
  cases P
  case false =>
    have E := Lib.hid (show gokB xs cs ks = false from by rw [HE2.out]; rfl)
    go_wp2_with fail
    go_ret
    exact Mk.b E.out T.out
  go_wp2_with fail
  refine Calls.mono (H2.out _ X.out Z.out) ?_
  intro e wn hh
  obtain ⟨he, hb⟩ := (by first | exact hh | exact Ro.mk hh | exact St.mk hh | exact LawOk.mk' hh : Mk _ _ e wn)
  subst he
  have Tn : Hid (Below w.heap.size w wn) := below_next T.out hb
  have Xn : Hid _ := Ints.below X.out hb
  have Yn : Hid _ := Sl.below Y.out hb
  have Zn : Hid _ := Sl.below Z.out hb
  clear hb hh
  clear T X Y Z
  have T := Tn
  have X := Xn
  have Y := Yn
  have Z := Zn
  clear Tn Xn Yn Zn
  have E := Lib.hid (show gokB xs cs ks = Q from by rw [HE2.out]; rfl)
  go_wp2_with fail
  go_ret
  exact Mk.b E.out T.out
end Go.Proofs.Ytgiioponimiddaa

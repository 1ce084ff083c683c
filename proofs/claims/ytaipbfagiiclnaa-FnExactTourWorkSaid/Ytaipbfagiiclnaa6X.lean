/- The exact laws of chapter 6: the walks. -/
import Derived.Test.Ytaipbfagiiclnaa6C
import Derived.Test.YtaipbfagiiclnaaH
namespace Go.Proofs.Ytaipbfagiiclnaa
open Go.RowKit
set_option linter.unusedVariables false

set_option maxHeartbeats 400000 in
theorem xLoadSum_w (p : Option Addr) (cp : Nat) (xs : List Int) (w : World) (hx : Sl w p xs) (hm : xs.length ≤ maxLen) :
    Calls Try.prog 8 #[.slice p xs.length cp] w (LawOk w) := by
  have HX : Hid _ := hx
  have hm' := hm
  unfold maxLen at hm'
  clear hx
  by_cases bigxs : 1048576 < xs.length
  · go_enter Try.func8, Try.ntmps8
    go_wp2_with fail
    go_ret
    exact LawOk.mk (Below.refl _ _)
  have T : Hid (Below w.heap.size w w) := Below.refl _ _
  go_enter Try.func8, Try.ntmps8
  go_wp2_with fail
  refine (toIntS_c p cp xs _ HX.out (by omega)).mono ?_
  rintro e wn ⟨gI, hgg, rfl, hI, hb⟩
  have Tn : Hid (Below w.heap.size w wn) := below_next T.out hb
  have HXn : Hid _ := Sl.below HX.out hb
  have I : Hid _ := hI
  clear hb hI hgg
  clear T HX
  have T := Tn
  have HX := HXn
  clear Tn HXn
  go_wp2_with fail
  refine Calls.mono (sLoadSum_c _ 0 _ _ xs _ I.out rfl (by omega)) ?_
  intro e wn hh
  obtain ⟨he, hb⟩ := (by first | exact hh | exact Ro.mk hh | exact St.mk hh | exact LawOk.mk' hh : Mk _ _ e wn)
  subst he
  have Tn : Hid (Below w.heap.size w wn) := below_next T.out hb
  have HXn : Hid _ := Sl.below HX.out hb
  have In : Hid _ := Ints.below I.out hb
  clear hb hh
  clear T HX I
  have T := Tn
  have HX := HXn
  have I := In
  clear Tn HXn In
  clear I
  go_wp2_with fail
  refine (toIntS_c p cp xs _ HX.out (by omega)).mono ?_
  rintro e wn ⟨gI, hgg, rfl, hI, hb⟩
  have Tn : Hid (Below w.heap.size w wn) := below_next T.out hb
  have HXn : Hid _ := Sl.below HX.out hb
  have I : Hid _ := hI
  clear hb hI hgg
  clear T HX
  have T := Tn
  have HX := HXn
  clear Tn HXn
  go_wp2_with fail
  refine Calls.mono (iLoadSum_c _ 0 _ _ xs _ I.out rfl (by omega)) ?_
  intro e wn hh
  obtain ⟨he, hb⟩ := (by first | exact hh | exact Ro.mk hh | exact St.mk hh | exact LawOk.mk' hh : Mk _ _ e wn)
  subst he
  have Tn : Hid (Below w.heap.size w wn) := below_next T.out hb
  have HXn : Hid _ := Sl.below HX.out hb
  have In : Hid _ := Ints.below I.out hb
  clear hb hh
  clear T HX I
  have T := Tn
  have HX := HXn
  have I := In
  clear Tn HXn In
  go_wp2_with fail
  refine (toIntS_c p cp xs _ HX.out (by omega)).mono ?_
  rintro e wn ⟨gJ, hgg, rfl, hI, hb⟩
  have Tn : Hid (Below w.heap.size w wn) := below_next T.out hb
  have HXn : Hid _ := Sl.below HX.out hb
  have In : Hid _ := Ints.below I.out hb
  have J : Hid _ := hI
  clear hb hI hgg
  clear T HX I
  have T := Tn
  have HX := HXn
  have I := In
  clear Tn HXn In
  go_wp2_with fail
  refine Calls.mono (eqIntS_c _ 0 _ _ 0 _ xs _ I.out J.out (by omega)) ?_
  intro e wn hh
  obtain ⟨he, hb⟩ := (by first | exact hh | exact Ro.mk hh | exact St.mk hh | exact LawOk.mk' hh : Mk _ _ e wn)
  subst he
  have Tn : Hid (Below w.heap.size w wn) := below_next T.out hb
  have HXn : Hid _ := Sl.below HX.out hb
  have In : Hid _ := Ints.below I.out hb
  have Jn : Hid _ := Ints.below J.out hb
  clear hb hh
  clear T HX I J
  have T := Tn
  have HX := HXn
  have I := In
  have J := Jn
  clear Tn HXn In Jn
  go_wp2_with fail
  go_ret
  first | exact LawOk.mk T.out | exact LawOk.mk (Below.dr T.out _)
set_option maxHeartbeats 400000 in
theorem xOverloaded_w (p : Option Addr) (cp : Nat) (xs : List Int) (w : World) (hx : Sl w p xs) (hm : xs.length ≤ maxLen) :
    Calls Try.prog 9 #[.slice p xs.length cp] w (LawOk w) := by
  have HX : Hid _ := hx
  have hm' := hm
  unfold maxLen at hm'
  clear hx
  by_cases bigxs : 1048576 < xs.length
  · go_enter Try.func9, Try.ntmps9
    go_wp2_with fail
    go_ret
    exact LawOk.mk (Below.refl _ _)
  have T : Hid (Below w.heap.size w w) := Below.refl _ _
  go_enter Try.func9, Try.ntmps9
  go_wp2_with fail
  refine (toIntS_c p cp xs _ HX.out (by omega)).mono ?_
  rintro e wn ⟨gI, hgg, rfl, hI, hb⟩
  have Tn : Hid (Below w.heap.size w wn) := below_next T.out hb
  have HXn : Hid _ := Sl.below HX.out hb
  have I : Hid _ := hI
  clear hb hI hgg
  clear T HX
  have T := Tn
  have HX := HXn
  clear Tn HXn
  go_wp2_with fail
  refine Calls.mono (sOverloaded_c _ 0 _ _ xs _ I.out rfl (by omega)) ?_
  intro e wn hh
  obtain ⟨he, hb⟩ := (by first | exact hh | exact Ro.mk hh | exact St.mk hh | exact LawOk.mk' hh : Mk _ _ e wn)
  subst he
  have Tn : Hid (Below w.heap.size w wn) := below_next T.out hb
  have HXn : Hid _ := Sl.below HX.out hb
  have In : Hid _ := Ints.below I.out hb
  clear hb hh
  clear T HX I
  have T := Tn
  have HX := HXn
  have I := In
  clear Tn HXn In
  clear I
  go_wp2_with fail
  refine (toIntS_c p cp xs _ HX.out (by omega)).mono ?_
  rintro e wn ⟨gI, hgg, rfl, hI, hb⟩
  have Tn : Hid (Below w.heap.size w wn) := below_next T.out hb
  have HXn : Hid _ := Sl.below HX.out hb
  have I : Hid _ := hI
  clear hb hI hgg
  clear T HX
  have T := Tn
  have HX := HXn
  clear Tn HXn
  go_wp2_with fail
  refine Calls.mono (iOverloaded_c _ 0 _ _ xs _ I.out rfl (by omega)) ?_
  intro e wn hh
  obtain ⟨he, hb⟩ := (by first | exact hh | exact Ro.mk hh | exact St.mk hh | exact LawOk.mk' hh : Mk _ _ e wn)
  subst he
  have Tn : Hid (Below w.heap.size w wn) := below_next T.out hb
  have HXn : Hid _ := Sl.below HX.out hb
  have In : Hid _ := Ints.below I.out hb
  clear hb hh
  clear T HX I
  have T := Tn
  have HX := HXn
  have I := In
  clear Tn HXn In
  go_wp2_with fail
  refine (toIntS_c p cp xs _ HX.out (by omega)).mono ?_
  rintro e wn ⟨gJ, hgg, rfl, hI, hb⟩
  have Tn : Hid (Below w.heap.size w wn) := below_next T.out hb
  have HXn : Hid _ := Sl.below HX.out hb
  have In : Hid _ := Ints.below I.out hb
  have J : Hid _ := hI
  clear hb hI hgg
  clear T HX I
  have T := Tn
  have HX := HXn
  have I := In
  clear Tn HXn In
  go_wp2_with fail
  refine Calls.mono (eqIntS_c _ 0 _ _ 0 _ xs _ I.out J.out (by omega)) ?_
  intro e wn hh
  obtain ⟨he, hb⟩ := (by first | exact hh | exact Ro.mk hh | exact St.mk hh | exact LawOk.mk' hh : Mk _ _ e wn)
  subst he
  have Tn : Hid (Below w.heap.size w wn) := below_next T.out hb
  have HXn : Hid _ := Sl.below HX.out hb
  have In : Hid _ := Ints.below I.out hb
  have Jn : Hid _ := Ints.below J.out hb
  clear hb hh
  clear T HX I J
  have T := Tn
  have HX := HXn
  have I := In
  have J := Jn
  clear Tn HXn In Jn
  go_wp2_with fail
  go_ret
  first | exact LawOk.mk T.out | exact LawOk.mk (Below.dr T.out _)
set_option maxHeartbeats 400000 in
theorem xLoadFirst_w (p : Option Addr) (cp : Nat) (xs : List Int) (w : World) (hx : Sl w p xs) (hm : xs.length ≤ maxLen) :
    Calls Try.prog 10 #[.slice p xs.length cp] w (LawOk w) := by
  have HX : Hid _ := hx
  have hm' := hm
  unfold maxLen at hm'
  clear hx
  by_cases bigxs : 1048576 < xs.length
  · go_enter Try.func10, Try.ntmps10
    go_wp2_with fail
    go_ret
    exact LawOk.mk (Below.refl _ _)
  have T : Hid (Below w.heap.size w w) := Below.refl _ _
  go_enter Try.func10, Try.ntmps10
  go_wp2_with fail
  refine (toIntS_c p cp xs _ HX.out (by omega)).mono ?_
  rintro e wn ⟨gI, hgg, rfl, hI, hb⟩
  have Tn : Hid (Below w.heap.size w wn) := below_next T.out hb
  have HXn : Hid _ := Sl.below HX.out hb
  have I : Hid _ := hI
  clear hb hI hgg
  clear T HX
  have T := Tn
  have HX := HXn
  clear Tn HXn
  go_wp2_with fail
  refine Calls.mono (sLoadFirst_c _ 0 _ xs _ I.out (Nat.le_refl _) hm (by omega)) ?_
  intro e wn hh
  obtain ⟨he, hb⟩ := (by first | exact hh | exact Ro.mk hh | exact St.mk hh | exact LawOk.mk' hh : Mk _ _ e wn)
  subst he
  have Tn : Hid (Below w.heap.size w wn) := below_next T.out hb
  have HXn : Hid _ := Sl.below HX.out hb
  have In : Hid _ := Ints.below I.out hb
  clear hb hh
  clear T HX I
  have T := Tn
  have HX := HXn
  have I := In
  clear Tn HXn In
  clear I
  go_wp2_with fail
  refine (toIntS_c p cp xs _ HX.out (by omega)).mono ?_
  rintro e wn ⟨gI, hgg, rfl, hI, hb⟩
  have Tn : Hid (Below w.heap.size w wn) := below_next T.out hb
  have HXn : Hid _ := Sl.below HX.out hb
  have I : Hid _ := hI
  clear hb hI hgg
  clear T HX
  have T := Tn
  have HX := HXn
  clear Tn HXn
  go_wp2_with fail
  refine Calls.mono (iLoadFirst_c _ 0 _ xs _ I.out (Nat.le_refl _) hm (by omega)) ?_
  intro e wn hh
  obtain ⟨he, hb⟩ := (by first | exact hh | exact Ro.mk hh | exact St.mk hh | exact LawOk.mk' hh : Mk _ _ e wn)
  subst he
  have Tn : Hid (Below w.heap.size w wn) := below_next T.out hb
  have HXn : Hid _ := Sl.below HX.out hb
  have In : Hid _ := Ints.below I.out hb
  clear hb hh
  clear T HX I
  have T := Tn
  have HX := HXn
  have I := In
  clear Tn HXn In
  go_wp2_with fail
  refine (toIntS_c p cp xs _ HX.out (by omega)).mono ?_
  rintro e wn ⟨gJ, hgg, rfl, hI, hb⟩
  have Tn : Hid (Below w.heap.size w wn) := below_next T.out hb
  have HXn : Hid _ := Sl.below HX.out hb
  have In : Hid _ := Ints.below I.out hb
  have J : Hid _ := hI
  clear hb hI hgg
  clear T HX I
  have T := Tn
  have HX := HXn
  have I := In
  clear Tn HXn In
  go_wp2_with fail
  refine Calls.mono (eqIntS_c _ 0 _ _ 0 _ xs _ I.out J.out (by omega)) ?_
  intro e wn hh
  obtain ⟨he, hb⟩ := (by first | exact hh | exact Ro.mk hh | exact St.mk hh | exact LawOk.mk' hh : Mk _ _ e wn)
  subst he
  have Tn : Hid (Below w.heap.size w wn) := below_next T.out hb
  have HXn : Hid _ := Sl.below HX.out hb
  have In : Hid _ := Ints.below I.out hb
  have Jn : Hid _ := Ints.below J.out hb
  clear hb hh
  clear T HX I J
  have T := Tn
  have HX := HXn
  have I := In
  have J := Jn
  clear Tn HXn In Jn
  go_wp2_with fail
  go_ret
  first | exact LawOk.mk T.out | exact LawOk.mk (Below.dr T.out _)
set_option maxHeartbeats 400000 in
theorem xTripWork_w (p : Option Addr) (cp : Nat) (xs : List Int) (x y l : Int) (w : World) (hx : Sl w p xs) (hm : xs.length ≤ maxLen) (hi1 : -9223372036854775808 ≤ x ∧ x ≤ 9223372036854775807) (hi2 : -9223372036854775808 ≤ y ∧ y ≤ 9223372036854775807) (hi3 : -9223372036854775808 ≤ l ∧ l ≤ 9223372036854775807) :
    Calls Try.prog 11 #[.slice p xs.length cp, .int .i64 x, .int .i64 y, .int .i64 l] w (LawOk w) := by
  have HX : Hid _ := hx
  have hm' := hm
  unfold maxLen at hm'
  clear hx
  by_cases bigxs : 1048576 < xs.length
  · go_enter Try.func11, Try.ntmps11
    go_wp2_with fail
    go_ret
    exact LawOk.mk (Below.refl _ _)
  have T : Hid (Below w.heap.size w w) := Below.refl _ _
  go_enter Try.func11, Try.ntmps11
  go_wp2_with fail
  refine (toIntS_c p cp xs _ HX.out (by omega)).mono ?_
  rintro e wn ⟨gI, hgg, rfl, hI, hb⟩
  have Tn : Hid (Below w.heap.size w wn) := below_next T.out hb
  have HXn : Hid _ := Sl.below HX.out hb
  have I : Hid _ := hI
  clear hb hI hgg
  clear T HX
  have T := Tn
  have HX := HXn
  clear Tn HXn
  go_wp2_with fail
  refine Calls.mono (sTripWork_c _ 0 _ xs x y l _ I.out hm) ?_
  intro e wn hh
  obtain ⟨he, hb⟩ := (by first | exact hh | exact Ro.mk hh | exact St.mk hh | exact LawOk.mk' hh : Mk _ _ e wn)
  subst he
  have Tn : Hid (Below w.heap.size w wn) := below_next T.out hb
  have HXn : Hid _ := Sl.below HX.out hb
  have In : Hid _ := Ints.below I.out hb
  clear hb hh
  clear T HX I
  have T := Tn
  have HX := HXn
  have I := In
  clear Tn HXn In
  clear I
  go_wp2_with fail
  refine (toIntS_c p cp xs _ HX.out (by omega)).mono ?_
  rintro e wn ⟨gI, hgg, rfl, hI, hb⟩
  have Tn : Hid (Below w.heap.size w wn) := below_next T.out hb
  have HXn : Hid _ := Sl.below HX.out hb
  have I : Hid _ := hI
  clear hb hI hgg
  clear T HX
  have T := Tn
  have HX := HXn
  clear Tn HXn
  go_wp2_with fail
  refine Calls.mono (iTripWork_c _ 0 _ xs x y l _ I.out hm) ?_
  intro e wn hh
  obtain ⟨he, hb⟩ := (by first | exact hh | exact Ro.mk hh | exact St.mk hh | exact LawOk.mk' hh : Mk _ _ e wn)
  subst he
  have Tn : Hid (Below w.heap.size w wn) := below_next T.out hb
  have HXn : Hid _ := Sl.below HX.out hb
  have In : Hid _ := Ints.below I.out hb
  clear hb hh
  clear T HX I
  have T := Tn
  have HX := HXn
  have I := In
  clear Tn HXn In
  go_wp2_with fail
  refine (toIntS_c p cp xs _ HX.out (by omega)).mono ?_
  rintro e wn ⟨gJ, hgg, rfl, hI, hb⟩
  have Tn : Hid (Below w.heap.size w wn) := below_next T.out hb
  have HXn : Hid _ := Sl.below HX.out hb
  have In : Hid _ := Ints.below I.out hb
  have J : Hid _ := hI
  clear hb hI hgg
  clear T HX I
  have T := Tn
  have HX := HXn
  have I := In
  clear Tn HXn In
  go_wp2_with fail
  refine Calls.mono (eqIntS_c _ 0 _ _ 0 _ xs _ I.out J.out (by omega)) ?_
  intro e wn hh
  obtain ⟨he, hb⟩ := (by first | exact hh | exact Ro.mk hh | exact St.mk hh | exact LawOk.mk' hh : Mk _ _ e wn)
  subst he
  have Tn : Hid (Below w.heap.size w wn) := below_next T.out hb
  have HXn : Hid _ := Sl.below HX.out hb
  have In : Hid _ := Ints.below I.out hb
  have Jn : Hid _ := Ints.below J.out hb
  clear hb hh
  clear T HX I J
  have T := Tn
  have HX := HXn
  have I := In
  have J := Jn
  clear Tn HXn In Jn
  go_wp2_with fail
  go_ret
  first | exact LawOk.mk T.out | exact LawOk.mk (Below.dr T.out _)
set_option maxHeartbeats 1000000 in
theorem xTourWork_w (p : Option Addr) (cp : Nat) (xs : List Int) (p1 : Option Addr) (cp1 : Nat) (ss : List Int) (p2 : Option Addr) (cp2 : Nat) (ls : List Int) (w : World) (hx : Sl w p xs) (hm : xs.length ≤ maxLen) (hx1 : Sl w p1 ss) (hm1 : ss.length ≤ maxLen) (hx2 : Sl w p2 ls) (hm2 : ls.length ≤ maxLen) :
    Calls Try.prog 12 #[.slice p xs.length cp, .slice p1 ss.length cp1, .slice p2 ls.length cp2] w (LawOk w) := by
  have HX : Hid _ := hx
  have HY : Hid _ := hx1
  have HZ : Hid _ := hx2
  have hm' := hm
  have hm1' := hm1
  have hm2' := hm2
  unfold maxLen at hm' hm1' hm2'
  clear hx hx1 hx2
  by_cases bigxs : 1048576 < xs.length
  · go_enter Try.func12, Try.ntmps12
    go_wp2_with fail
    go_ret
    exact LawOk.mk (Below.refl _ _)
  by_cases bigss : 1048576 < ss.length
  · go_enter Try.func12, Try.ntmps12
    go_wp2_with fail
    go_ret
    exact LawOk.mk (Below.refl _ _)
  by_cases bigls : 1048576 < ls.length
  · go_enter Try.func12, Try.ntmps12
    go_wp2_with fail
    go_ret
    exact LawOk.mk (Below.refl _ _)
  have T : Hid (Below w.heap.size w w) := Below.refl _ _
  go_enter Try.func12, Try.ntmps12
  go_wp2_with fail
  refine (toIntS_c p cp xs _ HX.out (by omega)).mono ?_
  rintro e wn ⟨gI, hgg, rfl, hI, hb⟩
  have Tn : Hid (Below w.heap.size w wn) := below_next T.out hb
  have HXn : Hid _ := Sl.below HX.out hb
  have HYn : Hid _ := Sl.below HY.out hb
  have HZn : Hid _ := Sl.below HZ.out hb
  have I : Hid _ := hI
  clear hb hI hgg
  clear T HX HY HZ
  have T := Tn
  have HX := HXn
  have HY := HYn
  have HZ := HZn
  clear Tn HXn HYn HZn
  go_wp2_with fail
  refine (toIntS_c p1 cp1 ss _ HY.out (by omega)).mono ?_
  rintro e wn ⟨gJ, hgg, rfl, hI, hb⟩
  have Tn : Hid (Below w.heap.size w wn) := below_next T.out hb
  have HXn : Hid _ := Sl.below HX.out hb
  have HYn : Hid _ := Sl.below HY.out hb
  have HZn : Hid _ := Sl.below HZ.out hb
  have In : Hid _ := Ints.below I.out hb
  have J : Hid _ := hI
  clear hb hI hgg
  clear T HX HY HZ I
  have T := Tn
  have HX := HXn
  have HY := HYn
  have HZ := HZn
  have I := In
  clear Tn HXn HYn HZn In
  go_wp2_with fail
  refine (toIntS_c p2 cp2 ls _ HZ.out (by omega)).mono ?_
  rintro e wn ⟨gK, hgg, rfl, hI, hb⟩
  have Tn : Hid (Below w.heap.size w wn) := below_next T.out hb
  have HXn : Hid _ := Sl.below HX.out hb
  have HYn : Hid _ := Sl.below HY.out hb
  have HZn : Hid _ := Sl.below HZ.out hb
  have In : Hid _ := Ints.below I.out hb
  have Jn : Hid _ := Ints.below J.out hb
  have K : Hid _ := hI
  clear hb hI hgg
  clear T HX HY HZ I J
  have T := Tn
  have HX := HXn
  have HY := HYn
  have HZ := HZn
  have I := In
  have J := Jn
  clear Tn HXn HYn HZn In Jn
  go_wp2_with fail
  refine Calls.mono (sTourWork_c _ 0 _ xs _ 0 _ _ ss _ 0 _ _ ls _ I.out hm J.out rfl (by omega) K.out rfl (by omega)) ?_
  intro e wn hh
  obtain ⟨he, hb⟩ := (by first | exact hh | exact Ro.mk hh | exact St.mk hh | exact LawOk.mk' hh : Mk _ _ e wn)
  subst he
  have Tn : Hid (Below w.heap.size w wn) := below_next T.out hb
  have HXn : Hid _ := Sl.below HX.out hb
  have HYn : Hid _ := Sl.below HY.out hb
  have HZn : Hid _ := Sl.below HZ.out hb
  have In : Hid _ := Ints.below I.out hb
  have Jn : Hid _ := Ints.below J.out hb
  have Kn : Hid _ := Ints.below K.out hb
  clear hb hh
  clear T HX HY HZ I J K
  have T := Tn
  have HX := HXn
  have HY := HYn
  have HZ := HZn
  have I := In
  have J := Jn
  have K := Kn
  clear Tn HXn HYn HZn In Jn Kn
  clear I J K
  go_wp2_with fail
  refine (toIntS_c p cp xs _ HX.out (by omega)).mono ?_
  rintro e wn ⟨gI, hgg, rfl, hI, hb⟩
  have Tn : Hid (Below w.heap.size w wn) := below_next T.out hb
  have HXn : Hid _ := Sl.below HX.out hb
  have HYn : Hid _ := Sl.below HY.out hb
  have HZn : Hid _ := Sl.below HZ.out hb
  have I : Hid _ := hI
  clear hb hI hgg
  clear T HX HY HZ
  have T := Tn
  have HX := HXn
  have HY := HYn
  have HZ := HZn
  clear Tn HXn HYn HZn
  go_wp2_with fail
  refine (toIntS_c p1 cp1 ss _ HY.out (by omega)).mono ?_
  rintro e wn ⟨gJ, hgg, rfl, hI, hb⟩
  have Tn : Hid (Below w.heap.size w wn) := below_next T.out hb
  have HXn : Hid _ := Sl.below HX.out hb
  have HYn : Hid _ := Sl.below HY.out hb
  have HZn : Hid _ := Sl.below HZ.out hb
  have In : Hid _ := Ints.below I.out hb
  have J : Hid _ := hI
  clear hb hI hgg
  clear T HX HY HZ I
  have T := Tn
  have HX := HXn
  have HY := HYn
  have HZ := HZn
  have I := In
  clear Tn HXn HYn HZn In
  go_wp2_with fail
  refine (toIntS_c p2 cp2 ls _ HZ.out (by omega)).mono ?_
  rintro e wn ⟨gK, hgg, rfl, hI, hb⟩
  have Tn : Hid (Below w.heap.size w wn) := below_next T.out hb
  have HXn : Hid _ := Sl.below HX.out hb
  have HYn : Hid _ := Sl.below HY.out hb
  have HZn : Hid _ := Sl.below HZ.out hb
  have In : Hid _ := Ints.below I.out hb
  have Jn : Hid _ := Ints.below J.out hb
  have K : Hid _ := hI
  clear hb hI hgg
  clear T HX HY HZ I J
  have T := Tn
  have HX := HXn
  have HY := HYn
  have HZ := HZn
  have I := In
  have J := Jn
  clear Tn HXn HYn HZn In Jn
  go_wp2_with fail
  refine Calls.mono (iTourWork_c _ 0 _ xs _ 0 _ _ ss _ 0 _ _ ls _ I.out hm J.out rfl (by omega) K.out rfl (by omega)) ?_
  intro e wn hh
  obtain ⟨he, hb⟩ := (by first | exact hh | exact Ro.mk hh | exact St.mk hh | exact LawOk.mk' hh : Mk _ _ e wn)
  subst he
  have Tn : Hid (Below w.heap.size w wn) := below_next T.out hb
  have HXn : Hid _ := Sl.below HX.out hb
  have HYn : Hid _ := Sl.below HY.out hb
  have HZn : Hid _ := Sl.below HZ.out hb
  have In : Hid _ := Ints.below I.out hb
  have Jn : Hid _ := Ints.below J.out hb
  have Kn : Hid _ := Ints.below K.out hb
  clear hb hh
  clear T HX HY HZ I J K
  have T := Tn
  have HX := HXn
  have HY := HYn
  have HZ := HZn
  have I := In
  have J := Jn
  have K := Kn
  clear Tn HXn HYn HZn In Jn Kn
  go_wp2_with fail
  refine (toIntS_c p cp xs _ HX.out (by omega)).mono ?_
  rintro e wn ⟨gL, hgg, rfl, hI, hb⟩
  have Tn : Hid (Below w.heap.size w wn) := below_next T.out hb
  have HXn : Hid _ := Sl.below HX.out hb
  have HYn : Hid _ := Sl.below HY.out hb
  have HZn : Hid _ := Sl.below HZ.out hb
  have In : Hid _ := Ints.below I.out hb
  have Jn : Hid _ := Ints.below J.out hb
  have Kn : Hid _ := Ints.below K.out hb
  have L : Hid _ := hI
  clear hb hI hgg
  clear T HX HY HZ I J K
  have T := Tn
  have HX := HXn
  have HY := HYn
  have HZ := HZn
  have I := In
  have J := Jn
  have K := Kn
  clear Tn HXn HYn HZn In Jn Kn
  go_wp2_with fail
  refine Calls.mono (eqIntS_c _ 0 _ _ 0 _ xs _ I.out L.out (by omega)) ?_
  intro e wn hh
  obtain ⟨he, hb⟩ := (by first | exact hh | exact Ro.mk hh | exact St.mk hh | exact LawOk.mk' hh : Mk _ _ e wn)
  subst he
  have Tn : Hid (Below w.heap.size w wn) := below_next T.out hb
  have HXn : Hid _ := Sl.below HX.out hb
  have HYn : Hid _ := Sl.below HY.out hb
  have HZn : Hid _ := Sl.below HZ.out hb
  have In : Hid _ := Ints.below I.out hb
  have Jn : Hid _ := Ints.below J.out hb
  have Kn : Hid _ := Ints.below K.out hb
  have Ln : Hid _ := Ints.below L.out hb
  clear hb hh
  clear T HX HY HZ I J K L
  have T := Tn
  have HX := HXn
  have HY := HYn
  have HZ := HZn
  have I := In
  have J := Jn
  have K := Kn
  have L := Ln
  clear Tn HXn HYn HZn In Jn Kn Ln
  clear I L
  go_wp2_with fail
  refine (toIntS_c p1 cp1 ss _ HY.out (by omega)).mono ?_
  rintro e wn ⟨gL, hgg, rfl, hI, hb⟩
  have Tn : Hid (Below w.heap.size w wn) := below_next T.out hb
  have HXn : Hid _ := Sl.below HX.out hb
  have HYn : Hid _ := Sl.below HY.out hb
  have HZn : Hid _ := Sl.below HZ.out hb
  have Jn : Hid _ := Ints.below J.out hb
  have Kn : Hid _ := Ints.below K.out hb
  have L : Hid _ := hI
  clear hb hI hgg
  clear T HX HY HZ J K
  have T := Tn
  have HX := HXn
  have HY := HYn
  have HZ := HZn
  have J := Jn
  have K := Kn
  clear Tn HXn HYn HZn Jn Kn
  go_wp2_with fail
  refine Calls.mono (eqIntS_c _ 0 _ _ 0 _ ss _ J.out L.out (by omega)) ?_
  intro e wn hh
  obtain ⟨he, hb⟩ := (by first | exact hh | exact Ro.mk hh | exact St.mk hh | exact LawOk.mk' hh : Mk _ _ e wn)
  subst he
  have Tn : Hid (Below w.heap.size w wn) := below_next T.out hb
  have HXn : Hid _ := Sl.below HX.out hb
  have HYn : Hid _ := Sl.below HY.out hb
  have HZn : Hid _ := Sl.below HZ.out hb
  have Jn : Hid _ := Ints.below J.out hb
  have Kn : Hid _ := Ints.below K.out hb
  have Ln : Hid _ := Ints.below L.out hb
  clear hb hh
  clear T HX HY HZ J K L
  have T := Tn
  have HX := HXn
  have HY := HYn
  have HZ := HZn
  have J := Jn
  have K := Kn
  have L := Ln
  clear Tn HXn HYn HZn Jn Kn Ln
  clear J L
  go_wp2_with fail
  refine (toIntS_c p2 cp2 ls _ HZ.out (by omega)).mono ?_
  rintro e wn ⟨gL, hgg, rfl, hI, hb⟩
  have Tn : Hid (Below w.heap.size w wn) := below_next T.out hb
  have HXn : Hid _ := Sl.below HX.out hb
  have HYn : Hid _ := Sl.below HY.out hb
  have HZn : Hid _ := Sl.below HZ.out hb
  have Kn : Hid _ := Ints.below K.out hb
  have L : Hid _ := hI
  clear hb hI hgg
  clear T HX HY HZ K
  have T := Tn
  have HX := HXn
  have HY := HYn
  have HZ := HZn
  have K := Kn
  clear Tn HXn HYn HZn Kn
  go_wp2_with fail
  refine Calls.mono (eqIntS_c _ 0 _ _ 0 _ ls _ K.out L.out (by omega)) ?_
  intro e wn hh
  obtain ⟨he, hb⟩ := (by first | exact hh | exact Ro.mk hh | exact St.mk hh | exact LawOk.mk' hh : Mk _ _ e wn)
  subst he
  have Tn : Hid (Below w.heap.size w wn) := below_next T.out hb
  have HXn : Hid _ := Sl.below HX.out hb
  have HYn : Hid _ := Sl.below HY.out hb
  have HZn : Hid _ := Sl.below HZ.out hb
  have Kn : Hid _ := Ints.below K.out hb
  have Ln : Hid _ := Ints.below L.out hb
  clear hb hh
  clear T HX HY HZ K L
  have T := Tn
  have HX := HXn
  have HY := HYn
  have HZ := HZn
  have K := Kn
  have L := Ln
  clear Tn HXn HYn HZn Kn Ln
  go_wp2_with fail
  go_ret
  first | exact LawOk.mk T.out | exact LawOk.mk (Below.dr T.out _)
end Go.Proofs.Ytaipbfagiiclnaa

/- The exact laws of chapter 7: the walks. -/
import Derived.Test.Ytahfkeogfoejmaa7B
import Derived.Test.Ytahfkeogfoejmaa7C
import Derived.Test.YtahfkeogfoejmaaH
namespace Go.Proofs.Ytahfkeogfoejmaa
open Go.RowKit
set_option linter.unusedVariables false

set_option maxHeartbeats 400000 in
theorem xRopeValid_w (p : Option Addr) (cp : Nat) (xs : List Int) (w : World) (hx : Sl w p xs) (hm : xs.length ≤ maxLen) :
    Calls Try.prog 8 #[.slice p xs.length cp] w (LawOk w) := by
  have HX : Hid _ := hx
  have hm' := hm
  unfold maxLen at hm'
  clear hx
  by_cases bigxs : 1048576 < xs.length
  · go_enter Try.func8, Try.ntmps8
    go_wp2_with fail
    go_ret
    exact LawOk.mk (Below.refl _ _)
  have T : Hid (Below w.heap.size w w) := Below.refl _ _
  go_enter Try.func8, Try.ntmps8
  go_wp2_with fail
  refine (toIntS_c p cp xs _ HX.out (by omega)).mono ?_
  rintro e wn ⟨gI, hgg, rfl, hI, hb⟩
  have Tn : Hid (Below w.heap.size w wn) := below_next T.out hb
  have HXn : Hid _ := Sl.below HX.out hb
  have I : Hid _ := hI
  clear hb hI hgg
  clear T HX
  have T := Tn
  have HX := HXn
  clear Tn HXn
  go_wp2_with fail
  refine Calls.mono (sRopeValid_c _ 0 _ _ xs _ I.out rfl (by omega)) ?_
  intro e wn hh
  obtain ⟨he, hb⟩ := (by first | exact hh | exact Ro.mk hh | exact St.mk hh | exact LawOk.mk' hh : Mk _ _ e wn)
  subst he
  have Tn : Hid (Below w.heap.size w wn) := below_next T.out hb
  have HXn : Hid _ := Sl.below HX.out hb
  have In : Hid _ := Ints.below I.out hb
  clear hb hh
  clear T HX I
  have T := Tn
  have HX := HXn
  have I := In
  clear Tn HXn In
  clear I
  go_wp2_with fail
  refine (toIntS_c p cp xs _ HX.out (by omega)).mono ?_
  rintro e wn ⟨gI, hgg, rfl, hI, hb⟩
  have Tn : Hid (Below w.heap.size w wn) := below_next T.out hb
  have HXn : Hid _ := Sl.below HX.out hb
  have I : Hid _ := hI
  clear hb hI hgg
  clear T HX
  have T := Tn
  have HX := HXn
  clear Tn HXn
  go_wp2_with fail
  refine Calls.mono (iRopeValid_c _ 0 _ _ xs _ I.out rfl (by omega)) ?_
  intro e wn hh
  obtain ⟨he, hb⟩ := (by first | exact hh | exact Ro.mk hh | exact St.mk hh | exact LawOk.mk' hh : Mk _ _ e wn)
  subst he
  have Tn : Hid (Below w.heap.size w wn) := below_next T.out hb
  have HXn : Hid _ := Sl.below HX.out hb
  have In : Hid _ := Ints.below I.out hb
  clear hb hh
  clear T HX I
  have T := Tn
  have HX := HXn
  have I := In
  clear Tn HXn In
  go_wp2_with fail
  refine (toIntS_c p cp xs _ HX.out (by omega)).mono ?_
  rintro e wn ⟨gJ, hgg, rfl, hI, hb⟩
  have Tn : Hid (Below w.heap.size w wn) := below_next T.out hb
  have HXn : Hid _ := Sl.below HX.out hb
  have In : Hid _ := Ints.below I.out hb
  have J : Hid _ := hI
  clear hb hI hgg
  clear T HX I
  have T := Tn
  have HX := HXn
  have I := In
  clear Tn HXn In
  go_wp2_with fail
  refine Calls.mono (eqIntS_c _ 0 _ _ 0 _ xs _ I.out J.out (by omega)) ?_
  intro e wn hh
  obtain ⟨he, hb⟩ := (by first | exact hh | exact Ro.mk hh | exact St.mk hh | exact LawOk.mk' hh : Mk _ _ e wn)
  subst he
  have Tn : Hid (Below w.heap.size w wn) := below_next T.out hb
  have HXn : Hid _ := Sl.below HX.out hb
  have In : Hid _ := Ints.below I.out hb
  have Jn : Hid _ := Ints.below J.out hb
  clear hb hh
  clear T HX I J
  have T := Tn
  have HX := HXn
  have I := In
  have J := Jn
  clear Tn HXn In Jn
  go_wp2_with fail
  go_ret
  first | exact LawOk.mk T.out | exact LawOk.mk (Below.dr T.out _)
set_option maxHeartbeats 400000 in
theorem xWorstLay_w (p : Option Addr) (cp : Nat) (xs : List Int) (w : World) (hx : Sl w p xs) (hm : xs.length ≤ maxLen) :
    Calls Try.prog 9 #[.slice p xs.length cp] w (LawOk w) := by
  have HX : Hid _ := hx
  have hm' := hm
  unfold maxLen at hm'
  clear hx
  by_cases bigxs : 1048576 < xs.length
  · go_enter Try.func9, Try.ntmps9
    go_wp2_with fail
    go_ret
    exact LawOk.mk (Below.refl _ _)
  have T : Hid (Below w.heap.size w w) := Below.refl _ _
  go_enter Try.func9, Try.ntmps9
  go_wp2_with fail
  refine (toIntS_c p cp xs _ HX.out (by omega)).mono ?_
  rintro e wn ⟨gI, hgg, rfl, hI, hb⟩
  have Tn : Hid (Below w.heap.size w wn) := below_next T.out hb
  have HXn : Hid _ := Sl.below HX.out hb
  have I : Hid _ := hI
  clear hb hI hgg
  clear T HX
  have T := Tn
  have HX := HXn
  clear Tn HXn
  go_wp2_with fail
  refine Calls.mono (sWorstLay_c _ 0 _ _ xs _ I.out rfl (by omega)) ?_
  intro e wn hh
  obtain ⟨he, hb⟩ := (by first | exact hh | exact Ro.mk hh | exact St.mk hh | exact LawOk.mk' hh : Mk _ _ e wn)
  subst he
  have Tn : Hid (Below w.heap.size w wn) := below_next T.out hb
  have HXn : Hid _ := Sl.below HX.out hb
  have In : Hid _ := Ints.below I.out hb
  clear hb hh
  clear T HX I
  have T := Tn
  have HX := HXn
  have I := In
  clear Tn HXn In
  clear I
  go_wp2_with fail
  refine (toIntS_c p cp xs _ HX.out (by omega)).mono ?_
  rintro e wn ⟨gI, hgg, rfl, hI, hb⟩
  have Tn : Hid (Below w.heap.size w wn) := below_next T.out hb
  have HXn : Hid _ := Sl.below HX.out hb
  have I : Hid _ := hI
  clear hb hI hgg
  clear T HX
  have T := Tn
  have HX := HXn
  clear Tn HXn
  go_wp2_with fail
  refine Calls.mono (iWorstLay_c _ 0 _ _ xs _ I.out rfl (by omega)) ?_
  intro e wn hh
  obtain ⟨he, hb⟩ := (by first | exact hh | exact Ro.mk hh | exact St.mk hh | exact LawOk.mk' hh : Mk _ _ e wn)
  subst he
  have Tn : Hid (Below w.heap.size w wn) := below_next T.out hb
  have HXn : Hid _ := Sl.below HX.out hb
  have In : Hid _ := Ints.below I.out hb
  clear hb hh
  clear T HX I
  have T := Tn
  have HX := HXn
  have I := In
  clear Tn HXn In
  go_wp2_with fail
  refine (toIntS_c p cp xs _ HX.out (by omega)).mono ?_
  rintro e wn ⟨gJ, hgg, rfl, hI, hb⟩
  have Tn : Hid (Below w.heap.size w wn) := below_next T.out hb
  have HXn : Hid _ := Sl.below HX.out hb
  have In : Hid _ := Ints.below I.out hb
  have J : Hid _ := hI
  clear hb hI hgg
  clear T HX I
  have T := Tn
  have HX := HXn
  have I := In
  clear Tn HXn In
  go_wp2_with fail
  refine Calls.mono (eqIntS_c _ 0 _ _ 0 _ xs _ I.out J.out (by omega)) ?_
  intro e wn hh
  obtain ⟨he, hb⟩ := (by first | exact hh | exact Ro.mk hh | exact St.mk hh | exact LawOk.mk' hh : Mk _ _ e wn)
  subst he
  have Tn : Hid (Below w.heap.size w wn) := below_next T.out hb
  have HXn : Hid _ := Sl.below HX.out hb
  have In : Hid _ := Ints.below I.out hb
  have Jn : Hid _ := Ints.below J.out hb
  clear hb hh
  clear T HX I J
  have T := Tn
  have HX := HXn
  have I := In
  have J := Jn
  clear Tn HXn In Jn
  go_wp2_with fail
  go_ret
  first | exact LawOk.mk T.out | exact LawOk.mk (Below.dr T.out _)
set_option maxHeartbeats 400000 in
theorem xDiscard_w (p : Option Addr) (cp : Nat) (xs : List Int) (m : Int) (w : World) (hx : Sl w p xs) (hm : xs.length ≤ maxLen) (hi1 : -9223372036854775808 ≤ m ∧ m ≤ 9223372036854775807) :
    Calls Try.prog 10 #[.slice p xs.length cp, .int .i64 m] w (LawOk w) := by
  have HX : Hid _ := hx
  have hm' := hm
  unfold maxLen at hm'
  clear hx
  by_cases bigxs : 1048576 < xs.length
  · go_enter Try.func10, Try.ntmps10
    go_wp2_with fail
    go_ret
    exact LawOk.mk (Below.refl _ _)
  have T : Hid (Below w.heap.size w w) := Below.refl _ _
  go_enter Try.func10, Try.ntmps10
  go_wp2_with fail
  refine (toIntS_c p cp xs _ HX.out (by omega)).mono ?_
  rintro e wn ⟨gI, hgg, rfl, hI, hb⟩
  have Tn : Hid (Below w.heap.size w wn) := below_next T.out hb
  have HXn : Hid _ := Sl.below HX.out hb
  have I : Hid _ := hI
  clear hb hI hgg
  clear T HX
  have T := Tn
  have HX := HXn
  clear Tn HXn
  go_wp2_with fail
  refine Calls.mono (sDiscard_c _ 0 _ _ xs m _ I.out rfl (by omega)) ?_
  intro e wn hh
  obtain ⟨he, hb⟩ := (by first | exact hh | exact Ro.mk hh | exact St.mk hh | exact LawOk.mk' hh : Mk _ _ e wn)
  subst he
  have Tn : Hid (Below w.heap.size w wn) := below_next T.out hb
  have HXn : Hid _ := Sl.below HX.out hb
  have In : Hid _ := Ints.below I.out hb
  clear hb hh
  clear T HX I
  have T := Tn
  have HX := HXn
  have I := In
  clear Tn HXn In
  clear I
  go_wp2_with fail
  refine (toIntS_c p cp xs _ HX.out (by omega)).mono ?_
  rintro e wn ⟨gI, hgg, rfl, hI, hb⟩
  have Tn : Hid (Below w.heap.size w wn) := below_next T.out hb
  have HXn : Hid _ := Sl.below HX.out hb
  have I : Hid _ := hI
  clear hb hI hgg
  clear T HX
  have T := Tn
  have HX := HXn
  clear Tn HXn
  go_wp2_with fail
  refine Calls.mono (iDiscard_c _ 0 _ _ xs m _ I.out rfl (by omega)) ?_
  intro e wn hh
  obtain ⟨he, hb⟩ := (by first | exact hh | exact Ro.mk hh | exact St.mk hh | exact LawOk.mk' hh : Mk _ _ e wn)
  subst he
  have Tn : Hid (Below w.heap.size w wn) := below_next T.out hb
  have HXn : Hid _ := Sl.below HX.out hb
  have In : Hid _ := Ints.below I.out hb
  clear hb hh
  clear T HX I
  have T := Tn
  have HX := HXn
  have I := In
  clear Tn HXn In
  go_wp2_with fail
  refine (toIntS_c p cp xs _ HX.out (by omega)).mono ?_
  rintro e wn ⟨gJ, hgg, rfl, hI, hb⟩
  have Tn : Hid (Below w.heap.size w wn) := below_next T.out hb
  have HXn : Hid _ := Sl.below HX.out hb
  have In : Hid _ := Ints.below I.out hb
  have J : Hid _ := hI
  clear hb hI hgg
  clear T HX I
  have T := Tn
  have HX := HXn
  have I := In
  clear Tn HXn In
  go_wp2_with fail
  refine Calls.mono (eqIntS_c _ 0 _ _ 0 _ xs _ I.out J.out (by omega)) ?_
  intro e wn hh
  obtain ⟨he, hb⟩ := (by first | exact hh | exact Ro.mk hh | exact St.mk hh | exact LawOk.mk' hh : Mk _ _ e wn)
  subst he
  have Tn : Hid (Below w.heap.size w wn) := below_next T.out hb
  have HXn : Hid _ := Sl.below HX.out hb
  have In : Hid _ := Ints.below I.out hb
  have Jn : Hid _ := Ints.below J.out hb
  clear hb hh
  clear T HX I J
  have T := Tn
  have HX := HXn
  have I := In
  have J := Jn
  clear Tn HXn In Jn
  go_wp2_with fail
  go_ret
  first | exact LawOk.mk T.out | exact LawOk.mk (Below.dr T.out _)
set_option maxHeartbeats 400000 in
theorem xHolds_w (a b t m : Int) (w : World) (hi1 : -9223372036854775808 ≤ a ∧ a ≤ 9223372036854775807) (hi2 : -9223372036854775808 ≤ b ∧ b ≤ 9223372036854775807) (hi3 : -9223372036854775808 ≤ t ∧ t ≤ 9223372036854775807) (hi4 : -9223372036854775808 ≤ m ∧ m ≤ 9223372036854775807) :
    Calls Try.prog 11 #[.int .i64 a, .int .i64 b, .int .i64 t, .int .i64 m] w (LawOk w) := by
  have T : Hid (Below w.heap.size w w) := Below.refl _ _
  go_enter Try.func11, Try.ntmps11
  go_wp2_with fail
  refine Calls.mono (sHolds_c a b t m _) ?_
  intro e wn hh
  obtain ⟨he, hb⟩ := (by first | exact hh | exact Ro.mk hh | exact St.mk hh | exact LawOk.mk' hh : Mk _ _ e wn)
  subst he
  have Tn : Hid (Below w.heap.size w wn) := below_next T.out hb
  clear hb hh
  clear T
  have T := Tn
  clear Tn
  go_wp2_with fail
  refine Calls.mono (iHolds_c a b t m _) ?_
  intro e wn hh
  obtain ⟨he, hb⟩ := (by first | exact hh | exact Ro.mk hh | exact St.mk hh | exact LawOk.mk' hh : Mk _ _ e wn)
  subst he
  have Tn : Hid (Below w.heap.size w wn) := below_next T.out hb
  clear hb hh
  clear T
  have T := Tn
  clear Tn
  go_wp2_with fail
  go_ret
  first | exact LawOk.mk T.out | exact LawOk.mk (Below.dr T.out _)
set_option maxHeartbeats 400000 in
theorem xMostLoad_w (c t m : Int) (w : World) (hi1 : -9223372036854775808 ≤ c ∧ c ≤ 9223372036854775807) (hi2 : -9223372036854775808 ≤ t ∧ t ≤ 9223372036854775807) (hi3 : -9223372036854775808 ≤ m ∧ m ≤ 9223372036854775807) :
    Calls Try.prog 12 #[.int .i64 c, .int .i64 t, .int .i64 m] w (LawOk w) := by
  have T : Hid (Below w.heap.size w w) := Below.refl _ _
  go_enter Try.func12, Try.ntmps12
  go_wp2_with fail
  refine Calls.mono (sMostLoad_c c t m _ hi1) ?_
  intro e wn hh
  obtain ⟨he, hb⟩ := (by first | exact hh | exact Ro.mk hh | exact St.mk hh | exact LawOk.mk' hh : Mk _ _ e wn)
  subst he
  have Tn : Hid (Below w.heap.size w wn) := below_next T.out hb
  clear hb hh
  clear T
  have T := Tn
  clear Tn
  go_wp2_with fail
  refine Calls.mono (iMostLoad_c c t m _ hi1) ?_
  intro e wn hh
  obtain ⟨he, hb⟩ := (by first | exact hh | exact Ro.mk hh | exact St.mk hh | exact LawOk.mk' hh : Mk _ _ e wn)
  subst he
  have Tn : Hid (Below w.heap.size w wn) := below_next T.out hb
  clear hb hh
  clear T
  have T := Tn
  clear Tn
  go_wp2_with fail
  go_ret
  first | exact LawOk.mk T.out | exact LawOk.mk (Below.dr T.out _)
end Go.Proofs.Ytahfkeogfoejmaa

/- The exact laws of chapter 13: the walks. -/
import Derived.Test.Yteeokegkbhpbcaa13L
import Derived.Test.YteeokegkbhpbcaaH
import Derived.Test.YteeokegkbhpbcaaI
namespace Go.Proofs.Yteeokegkbhpbcaa
open Go.RowKit
set_option linter.unusedVariables false
set_option linter.unusedSimpArgs false
set_option maxRecDepth 100000
set_option maxHeartbeats 2000000 in
theorem xHallOk_w (p : Option Addr) (cp : Nat) (xs : List Int) (q : Option Addr) (cq : Nat) (cs : List Int) (w : World) (hxs : Sl w p xs) (mxs : xs.length ≤ maxLen) (hcs : Sl w q cs) (mcs : cs.length ≤ maxLen) :
    Calls Try.prog 8 #[.slice p xs.length cp, .slice q cs.length cq] w (LawOk w) := by
  have HX : Hid _ := hxs
  have HY : Hid _ := hcs
  unfold maxLen at mxs mcs
  clear hxs hcs
  by_cases bigxs : 1048576 < xs.length
  · go_enter Try.func8, Try.ntmps8
    go_wp2_with fail
    go_ret
    exact LawOk.mk (Below.refl _ _)
  by_cases bigcs : 1048576 < cs.length
  · go_enter Try.func8, Try.ntmps8
    go_wp2_with fail
    go_ret
    exact LawOk.mk (Below.refl _ _)
  have T : Hid (Below w.heap.size w w) := Below.refl _ _
  go_enter Try.func8, Try.ntmps8
  go_wp2_with fail
  refine (toIntS_c p cp xs _ HX.out (by omega)).mono ?_
  rintro e wn ⟨gI, hgg, rfl, hI, hb⟩
  have Tn : Hid (Below w.heap.size w wn) := below_next T.out hb
  have HXn : Hid _ := Sl.below HX.out hb
  have HYn : Hid _ := Sl.below HY.out hb
  have I : Hid _ := hI
  clear hb hI hgg
  clear T HX HY
  have T := Tn
  have HX := HXn
  have HY := HYn
  clear Tn HXn HYn
  go_wp2_with fail
  refine (toIntS_c q cq cs _ HY.out (by omega)).mono ?_
  rintro e wn ⟨gV, hgg, rfl, hI, hb⟩
  have Tn : Hid (Below w.heap.size w wn) := below_next T.out hb
  have HXn : Hid _ := Sl.below HX.out hb
  have HYn : Hid _ := Sl.below HY.out hb
  have In : Hid _ := Ints.below I.out hb
  have V : Hid _ := hI
  clear hb hI hgg
  clear T HX HY I
  have T := Tn
  have HX := HXn
  have HY := HYn
  have I := In
  clear Tn HXn HYn In
  go_wp2_with fail
  refine Calls.mono (sHallOk_c _ _ _ xs _ _ _ cs _ (Sl.of I.out) rfl (Sl.of V.out) rfl (by omega) (by omega)) ?_
  intro e wn hh
  obtain ⟨he, hb⟩ := (by first | exact hh | exact Ro.mk hh | exact St.mk hh | exact LawOk.mk' hh : Mk _ _ e wn)
  subst he
  have Tn : Hid (Below w.heap.size w wn) := below_next T.out hb
  have HXn : Hid _ := Sl.below HX.out hb
  have HYn : Hid _ := Sl.below HY.out hb
  have In : Hid _ := Ints.below I.out hb
  have Vn : Hid _ := Ints.below V.out hb
  clear hb hh
  clear T HX HY I V
  have T := Tn
  have HX := HXn
  have HY := HYn
  have I := In
  have V := Vn
  clear Tn HXn HYn In Vn
  clear I V
  go_wp2_with fail
  refine (toIntS_c p cp xs _ HX.out (by omega)).mono ?_
  rintro e wn ⟨gI, hgg, rfl, hI, hb⟩
  have Tn : Hid (Below w.heap.size w wn) := below_next T.out hb
  have HXn : Hid _ := Sl.below HX.out hb
  have HYn : Hid _ := Sl.below HY.out hb
  have I : Hid _ := hI
  clear hb hI hgg
  clear T HX HY
  have T := Tn
  have HX := HXn
  have HY := HYn
  clear Tn HXn HYn
  go_wp2_with fail
  refine (toIntS_c q cq cs _ HY.out (by omega)).mono ?_
  rintro e wn ⟨gV, hgg, rfl, hI, hb⟩
  have Tn : Hid (Below w.heap.size w wn) := below_next T.out hb
  have HXn : Hid _ := Sl.below HX.out hb
  have HYn : Hid _ := Sl.below HY.out hb
  have In : Hid _ := Ints.below I.out hb
  have V : Hid _ := hI
  clear hb hI hgg
  clear T HX HY I
  have T := Tn
  have HX := HXn
  have HY := HYn
  have I := In
  clear Tn HXn HYn In
  go_wp2_with fail
  refine Calls.mono (iHallOk_c _ _ _ xs _ _ _ cs _ (Sl.of I.out) rfl (Sl.of V.out) rfl (by omega) (by omega) ⟨by omega, by omega⟩ ⟨by omega, by omega⟩) ?_
  intro e wn hh
  obtain ⟨he, hb⟩ := (by first | exact hh | exact Ro.mk hh | exact St.mk hh | exact LawOk.mk' hh : Mk _ _ e wn)
  subst he
  have Tn : Hid (Below w.heap.size w wn) := below_next T.out hb
  have HXn : Hid _ := Sl.below HX.out hb
  have HYn : Hid _ := Sl.below HY.out hb
  have In : Hid _ := Ints.below I.out hb
  have Vn : Hid _ := Ints.below V.out hb
  clear hb hh
  clear T HX HY I V
  have T := Tn
  have HX := HXn
  have HY := HYn
  have I := In
  have V := Vn
  clear Tn HXn HYn In Vn
  go_wp2_with fail
  refine (toIntS_c p cp xs _ HX.out (by omega)).mono ?_
  rintro e wn ⟨gJ, hgg, rfl, hI, hb⟩
  have Tn : Hid (Below w.heap.size w wn) := below_next T.out hb
  have HXn : Hid _ := Sl.below HX.out hb
  have HYn : Hid _ := Sl.below HY.out hb
  have In : Hid _ := Ints.below I.out hb
  have Vn : Hid _ := Ints.below V.out hb
  have J : Hid _ := hI
  clear hb hI hgg
  clear T HX HY I V
  have T := Tn
  have HX := HXn
  have HY := HYn
  have I := In
  have V := Vn
  clear Tn HXn HYn In Vn
  go_wp2_with fail
  refine Calls.mono (eqIntS_c _ 0 _ _ 0 _ xs _ I.out J.out (by omega)) ?_
  intro e wn hh
  obtain ⟨he, hb⟩ := (by first | exact hh | exact Ro.mk hh | exact St.mk hh | exact LawOk.mk' hh : Mk _ _ e wn)
  subst he
  have Tn : Hid (Below w.heap.size w wn) := below_next T.out hb
  have HXn : Hid _ := Sl.below HX.out hb
  have HYn : Hid _ := Sl.below HY.out hb
  have In : Hid _ := Ints.below I.out hb
  have Vn : Hid _ := Ints.below V.out hb
  have Jn : Hid _ := Ints.below J.out hb
  clear hb hh
  clear T HX HY I V J
  have T := Tn
  have HX := HXn
  have HY := HYn
  have I := In
  have V := Vn
  have J := Jn
  clear Tn HXn HYn In Vn Jn
  clear J
  go_wp2_with fail
  refine (toIntS_c q cq cs _ HY.out (by omega)).mono ?_
  rintro e wn ⟨gJ, hgg, rfl, hI, hb⟩
  have Tn : Hid (Below w.heap.size w wn) := below_next T.out hb
  have HXn : Hid _ := Sl.below HX.out hb
  have HYn : Hid _ := Sl.below HY.out hb
  have In : Hid _ := Ints.below I.out hb
  have Vn : Hid _ := Ints.below V.out hb
  have J : Hid _ := hI
  clear hb hI hgg
  clear T HX HY I V
  have T := Tn
  have HX := HXn
  have HY := HYn
  have I := In
  have V := Vn
  clear Tn HXn HYn In Vn
  go_wp2_with fail
  refine Calls.mono (eqIntS_c _ 0 _ _ 0 _ cs _ V.out J.out (by omega)) ?_
  intro e wn hh
  obtain ⟨he, hb⟩ := (by first | exact hh | exact Ro.mk hh | exact St.mk hh | exact LawOk.mk' hh : Mk _ _ e wn)
  subst he
  have Tn : Hid (Below w.heap.size w wn) := below_next T.out hb
  have HXn : Hid _ := Sl.below HX.out hb
  have HYn : Hid _ := Sl.below HY.out hb
  have In : Hid _ := Ints.below I.out hb
  have Vn : Hid _ := Ints.below V.out hb
  have Jn : Hid _ := Ints.below J.out hb
  clear hb hh
  clear T HX HY I V J
  have T := Tn
  have HX := HXn
  have HY := HYn
  have I := In
  have V := Vn
  have J := Jn
  clear Tn HXn HYn In Vn Jn
  clear J
  go_wp2_with fail
  go_ret
  first | exact LawOk.mk T.out | exact LawOk.mk (Below.dr T.out _)
set_option maxHeartbeats 2000000 in
theorem xHallFits_w (p : Option Addr) (cp : Nat) (xs : List Int) (q : Option Addr) (cq : Nat) (cs : List Int) (r : Option Addr) (cr : Nat) (ks : List Int) (w : World) (hxs : Sl w p xs) (mxs : xs.length ≤ maxLen) (hcs : Sl w q cs) (mcs : cs.length ≤ maxLen) (hks : Sl w r ks) (mks : ks.length ≤ maxLen) :
    Calls Try.prog 9 #[.slice p xs.length cp, .slice q cs.length cq, .slice r ks.length cr] w (LawOk w) := by
  have HX : Hid _ := hxs
  have HY : Hid _ := hcs
  have HZ : Hid _ := hks
  unfold maxLen at mxs mcs mks
  clear hxs hcs hks
  by_cases bigxs : 1048576 < xs.length
  · go_enter Try.func9, Try.ntmps9
    go_wp2_with fail
    go_ret
    exact LawOk.mk (Below.refl _ _)
  by_cases bigcs : 1048576 < cs.length
  · go_enter Try.func9, Try.ntmps9
    go_wp2_with fail
    go_ret
    exact LawOk.mk (Below.refl _ _)
  by_cases bigks : 1048576 < ks.length
  · go_enter Try.func9, Try.ntmps9
    go_wp2_with fail
    go_ret
    exact LawOk.mk (Below.refl _ _)
  have T : Hid (Below w.heap.size w w) := Below.refl _ _
  go_enter Try.func9, Try.ntmps9
  go_wp2_with fail
  refine (toIntS_c p cp xs _ HX.out (by omega)).mono ?_
  rintro e wn ⟨gI, hgg, rfl, hI, hb⟩
  have Tn : Hid (Below w.heap.size w wn) := below_next T.out hb
  have HXn : Hid _ := Sl.below HX.out hb
  have HYn : Hid _ := Sl.below HY.out hb
  have HZn : Hid _ := Sl.below HZ.out hb
  have I : Hid _ := hI
  clear hb hI hgg
  clear T HX HY HZ
  have T := Tn
  have HX := HXn
  have HY := HYn
  have HZ := HZn
  clear Tn HXn HYn HZn
  go_wp2_with fail
  refine (toIntS_c q cq cs _ HY.out (by omega)).mono ?_
  rintro e wn ⟨gV, hgg, rfl, hI, hb⟩
  have Tn : Hid (Below w.heap.size w wn) := below_next T.out hb
  have HXn : Hid _ := Sl.below HX.out hb
  have HYn : Hid _ := Sl.below HY.out hb
  have HZn : Hid _ := Sl.below HZ.out hb
  have In : Hid _ := Ints.below I.out hb
  have V : Hid _ := hI
  clear hb hI hgg
  clear T HX HY HZ I
  have T := Tn
  have HX := HXn
  have HY := HYn
  have HZ := HZn
  have I := In
  clear Tn HXn HYn HZn In
  go_wp2_with fail
  refine (toIntS_c r cr ks _ HZ.out (by omega)).mono ?_
  rintro e wn ⟨gU, hgg, rfl, hI, hb⟩
  have Tn : Hid (Below w.heap.size w wn) := below_next T.out hb
  have HXn : Hid _ := Sl.below HX.out hb
  have HYn : Hid _ := Sl.below HY.out hb
  have HZn : Hid _ := Sl.below HZ.out hb
  have In : Hid _ := Ints.below I.out hb
  have Vn : Hid _ := Ints.below V.out hb
  have U : Hid _ := hI
  clear hb hI hgg
  clear T HX HY HZ I V
  have T := Tn
  have HX := HXn
  have HY := HYn
  have HZ := HZn
  have I := In
  have V := Vn
  clear Tn HXn HYn HZn In Vn
  go_wp2_with fail
  refine Calls.mono (sHallFits_c _ _ _ xs _ _ _ cs _ _ _ ks _ (Sl.of I.out) rfl (Sl.of V.out) rfl (Sl.of U.out) rfl (by omega) (by omega) (by omega)) ?_
  intro e wn hh
  obtain ⟨he, hb⟩ := (by first | exact hh | exact Ro.mk hh | exact St.mk hh | exact LawOk.mk' hh : Mk _ _ e wn)
  subst he
  have Tn : Hid (Below w.heap.size w wn) := below_next T.out hb
  have HXn : Hid _ := Sl.below HX.out hb
  have HYn : Hid _ := Sl.below HY.out hb
  have HZn : Hid _ := Sl.below HZ.out hb
  have In : Hid _ := Ints.below I.out hb
  have Vn : Hid _ := Ints.below V.out hb
  have Un : Hid _ := Ints.below U.out hb
  clear hb hh
  clear T HX HY HZ I V U
  have T := Tn
  have HX := HXn
  have HY := HYn
  have HZ := HZn
  have I := In
  have V := Vn
  have U := Un
  clear Tn HXn HYn HZn In Vn Un
  clear I V U
  go_wp2_with fail
  refine (toIntS_c p cp xs _ HX.out (by omega)).mono ?_
  rintro e wn ⟨gI, hgg, rfl, hI, hb⟩
  have Tn : Hid (Below w.heap.size w wn) := below_next T.out hb
  have HXn : Hid _ := Sl.below HX.out hb
  have HYn : Hid _ := Sl.below HY.out hb
  have HZn : Hid _ := Sl.below HZ.out hb
  have I : Hid _ := hI
  clear hb hI hgg
  clear T HX HY HZ
  have T := Tn
  have HX := HXn
  have HY := HYn
  have HZ := HZn
  clear Tn HXn HYn HZn
  go_wp2_with fail
  refine (toIntS_c q cq cs _ HY.out (by omega)).mono ?_
  rintro e wn ⟨gV, hgg, rfl, hI, hb⟩
  have Tn : Hid (Below w.heap.size w wn) := below_next T.out hb
  have HXn : Hid _ := Sl.below HX.out hb
  have HYn : Hid _ := Sl.below HY.out hb
  have HZn : Hid _ := Sl.below HZ.out hb
  have In : Hid _ := Ints.below I.out hb
  have V : Hid _ := hI
  clear hb hI hgg
  clear T HX HY HZ I
  have T := Tn
  have HX := HXn
  have HY := HYn
  have HZ := HZn
  have I := In
  clear Tn HXn HYn HZn In
  go_wp2_with fail
  refine (toIntS_c r cr ks _ HZ.out (by omega)).mono ?_
  rintro e wn ⟨gU, hgg, rfl, hI, hb⟩
  have Tn : Hid (Below w.heap.size w wn) := below_next T.out hb
  have HXn : Hid _ := Sl.below HX.out hb
  have HYn : Hid _ := Sl.below HY.out hb
  have HZn : Hid _ := Sl.below HZ.out hb
  have In : Hid _ := Ints.below I.out hb
  have Vn : Hid _ := Ints.below V.out hb
  have U : Hid _ := hI
  clear hb hI hgg
  clear T HX HY HZ I V
  have T := Tn
  have HX := HXn
  have HY := HYn
  have HZ := HZn
  have I := In
  have V := Vn
  clear Tn HXn HYn HZn In Vn
  go_wp2_with fail
  refine Calls.mono (iHallFits_c _ _ _ xs _ _ _ cs _ _ _ ks _ (Sl.of I.out) rfl (Sl.of V.out) rfl (Sl.of U.out) rfl (by omega) (by omega) (by omega) ⟨by omega, by omega⟩ ⟨by omega, by omega⟩ ⟨by omega, by omega⟩) ?_
  intro e wn hh
  obtain ⟨he, hb⟩ := (by first | exact hh | exact Ro.mk hh | exact St.mk hh | exact LawOk.mk' hh : Mk _ _ e wn)
  subst he
  have Tn : Hid (Below w.heap.size w wn) := below_next T.out hb
  have HXn : Hid _ := Sl.below HX.out hb
  have HYn : Hid _ := Sl.below HY.out hb
  have HZn : Hid _ := Sl.below HZ.out hb
  have In : Hid _ := Ints.below I.out hb
  have Vn : Hid _ := Ints.below V.out hb
  have Un : Hid _ := Ints.below U.out hb
  clear hb hh
  clear T HX HY HZ I V U
  have T := Tn
  have HX := HXn
  have HY := HYn
  have HZ := HZn
  have I := In
  have V := Vn
  have U := Un
  clear Tn HXn HYn HZn In Vn Un
  go_wp2_with fail
  refine (toIntS_c p cp xs _ HX.out (by omega)).mono ?_
  rintro e wn ⟨gJ, hgg, rfl, hI, hb⟩
  have Tn : Hid (Below w.heap.size w wn) := below_next T.out hb
  have HXn : Hid _ := Sl.below HX.out hb
  have HYn : Hid _ := Sl.below HY.out hb
  have HZn : Hid _ := Sl.below HZ.out hb
  have In : Hid _ := Ints.below I.out hb
  have Vn : Hid _ := Ints.below V.out hb
  have Un : Hid _ := Ints.below U.out hb
  have J : Hid _ := hI
  clear hb hI hgg
  clear T HX HY HZ I V U
  have T := Tn
  have HX := HXn
  have HY := HYn
  have HZ := HZn
  have I := In
  have V := Vn
  have U := Un
  clear Tn HXn HYn HZn In Vn Un
  go_wp2_with fail
  refine Calls.mono (eqIntS_c _ 0 _ _ 0 _ xs _ I.out J.out (by omega)) ?_
  intro e wn hh
  obtain ⟨he, hb⟩ := (by first | exact hh | exact Ro.mk hh | exact St.mk hh | exact LawOk.mk' hh : Mk _ _ e wn)
  subst he
  have Tn : Hid (Below w.heap.size w wn) := below_next T.out hb
  have HXn : Hid _ := Sl.below HX.out hb
  have HYn : Hid _ := Sl.below HY.out hb
  have HZn : Hid _ := Sl.below HZ.out hb
  have In : Hid _ := Ints.below I.out hb
  have Vn : Hid _ := Ints.below V.out hb
  have Un : Hid _ := Ints.below U.out hb
  have Jn : Hid _ := Ints.below J.out hb
  clear hb hh
  clear T HX HY HZ I V U J
  have T := Tn
  have HX := HXn
  have HY := HYn
  have HZ := HZn
  have I := In
  have V := Vn
  have U := Un
  have J := Jn
  clear Tn HXn HYn HZn In Vn Un Jn
  clear J
  go_wp2_with fail
  refine (toIntS_c q cq cs _ HY.out (by omega)).mono ?_
  rintro e wn ⟨gJ, hgg, rfl, hI, hb⟩
  have Tn : Hid (Below w.heap.size w wn) := below_next T.out hb
  have HXn : Hid _ := Sl.below HX.out hb
  have HYn : Hid _ := Sl.below HY.out hb
  have HZn : Hid _ := Sl.below HZ.out hb
  have In : Hid _ := Ints.below I.out hb
  have Vn : Hid _ := Ints.below V.out hb
  have Un : Hid _ := Ints.below U.out hb
  have J : Hid _ := hI
  clear hb hI hgg
  clear T HX HY HZ I V U
  have T := Tn
  have HX := HXn
  have HY := HYn
  have HZ := HZn
  have I := In
  have V := Vn
  have U := Un
  clear Tn HXn HYn HZn In Vn Un
  go_wp2_with fail
  refine Calls.mono (eqIntS_c _ 0 _ _ 0 _ cs _ V.out J.out (by omega)) ?_
  intro e wn hh
  obtain ⟨he, hb⟩ := (by first | exact hh | exact Ro.mk hh | exact St.mk hh | exact LawOk.mk' hh : Mk _ _ e wn)
  subst he
  have Tn : Hid (Below w.heap.size w wn) := below_next T.out hb
  have HXn : Hid _ := Sl.below HX.out hb
  have HYn : Hid _ := Sl.below HY.out hb
  have HZn : Hid _ := Sl.below HZ.out hb
  have In : Hid _ := Ints.below I.out hb
  have Vn : Hid _ := Ints.below V.out hb
  have Un : Hid _ := Ints.below U.out hb
  have Jn : Hid _ := Ints.below J.out hb
  clear hb hh
  clear T HX HY HZ I V U J
  have T := Tn
  have HX := HXn
  have HY := HYn
  have HZ := HZn
  have I := In
  have V := Vn
  have U := Un
  have J := Jn
  clear Tn HXn HYn HZn In Vn Un Jn
  clear J
  go_wp2_with fail
  refine (toIntS_c r cr ks _ HZ.out (by omega)).mono ?_
  rintro e wn ⟨gJ, hgg, rfl, hI, hb⟩
  have Tn : Hid (Below w.heap.size w wn) := below_next T.out hb
  have HXn : Hid _ := Sl.below HX.out hb
  have HYn : Hid _ := Sl.below HY.out hb
  have HZn : Hid _ := Sl.below HZ.out hb
  have In : Hid _ := Ints.below I.out hb
  have Vn : Hid _ := Ints.below V.out hb
  have Un : Hid _ := Ints.below U.out hb
  have J : Hid _ := hI
  clear hb hI hgg
  clear T HX HY HZ I V U
  have T := Tn
  have HX := HXn
  have HY := HYn
  have HZ := HZn
  have I := In
  have V := Vn
  have U := Un
  clear Tn HXn HYn HZn In Vn Un
  go_wp2_with fail
  refine Calls.mono (eqIntS_c _ 0 _ _ 0 _ ks _ U.out J.out (by omega)) ?_
  intro e wn hh
  obtain ⟨he, hb⟩ := (by first | exact hh | exact Ro.mk hh | exact St.mk hh | exact LawOk.mk' hh : Mk _ _ e wn)
  subst he
  have Tn : Hid (Below w.heap.size w wn) := below_next T.out hb
  have HXn : Hid _ := Sl.below HX.out hb
  have HYn : Hid _ := Sl.below HY.out hb
  have HZn : Hid _ := Sl.below HZ.out hb
  have In : Hid _ := Ints.below I.out hb
  have Vn : Hid _ := Ints.below V.out hb
  have Un : Hid _ := Ints.below U.out hb
  have Jn : Hid _ := Ints.below J.out hb
  clear hb hh
  clear T HX HY HZ I V U J
  have T := Tn
  have HX := HXn
  have HY := HYn
  have HZ := HZn
  have I := In
  have V := Vn
  have U := Un
  have J := Jn
  clear Tn HXn HYn HZn In Vn Un Jn
  clear J
  go_wp2_with fail
  go_ret
  first | exact LawOk.mk T.out | exact LawOk.mk (Below.dr T.out _)
set_option maxHeartbeats 2000000 in
theorem xHallStops_w (p : Option Addr) (cp : Nat) (xs : List Int) (q : Option Addr) (cq : Nat) (cs : List Int) (r : Option Addr) (cr : Nat) (ks : List Int) (w : World) (hxs : Sl w p xs) (mxs : xs.length ≤ maxLen) (hcs : Sl w q cs) (mcs : cs.length ≤ maxLen) (hks : Sl w r ks) (mks : ks.length ≤ maxLen) :
    Calls Try.prog 10 #[.slice p xs.length cp, .slice q cs.length cq, .slice r ks.length cr] w (LawOk w) := by
  have HX : Hid _ := hxs
  have HY : Hid _ := hcs
  have HZ : Hid _ := hks
  unfold maxLen at mxs mcs mks
  clear hxs hcs hks
  by_cases bigxs : 1048576 < xs.length
  · go_enter Try.func10, Try.ntmps10
    go_wp2_with fail
    go_ret
    exact LawOk.mk (Below.refl _ _)
  by_cases bigcs : 1048576 < cs.length
  · go_enter Try.func10, Try.ntmps10
    go_wp2_with fail
    go_ret
    exact LawOk.mk (Below.refl _ _)
  by_cases bigks : 1048576 < ks.length
  · go_enter Try.func10, Try.ntmps10
    go_wp2_with fail
    go_ret
    exact LawOk.mk (Below.refl _ _)
  have T : Hid (Below w.heap.size w w) := Below.refl _ _
  go_enter Try.func10, Try.ntmps10
  go_wp2_with fail
  refine (toIntS_c p cp xs _ HX.out (by omega)).mono ?_
  rintro e wn ⟨gI, hgg, rfl, hI, hb⟩
  have Tn : Hid (Below w.heap.size w wn) := below_next T.out hb
  have HXn : Hid _ := Sl.below HX.out hb
  have HYn : Hid _ := Sl.below HY.out hb
  have HZn : Hid _ := Sl.below HZ.out hb
  have I : Hid _ := hI
  clear hb hI hgg
  clear T HX HY HZ
  have T := Tn
  have HX := HXn
  have HY := HYn
  have HZ := HZn
  clear Tn HXn HYn HZn
  go_wp2_with fail
  refine (toIntS_c q cq cs _ HY.out (by omega)).mono ?_
  rintro e wn ⟨gV, hgg, rfl, hI, hb⟩
  have Tn : Hid (Below w.heap.size w wn) := below_next T.out hb
  have HXn : Hid _ := Sl.below HX.out hb
  have HYn : Hid _ := Sl.below HY.out hb
  have HZn : Hid _ := Sl.below HZ.out hb
  have In : Hid _ := Ints.below I.out hb
  have V : Hid _ := hI
  clear hb hI hgg
  clear T HX HY HZ I
  have T := Tn
  have HX := HXn
  have HY := HYn
  have HZ := HZn
  have I := In
  clear Tn HXn HYn HZn In
  go_wp2_with fail
  refine (toIntS_c r cr ks _ HZ.out (by omega)).mono ?_
  rintro e wn ⟨gU, hgg, rfl, hI, hb⟩
  have Tn : Hid (Below w.heap.size w wn) := below_next T.out hb
  have HXn : Hid _ := Sl.below HX.out hb
  have HYn : Hid _ := Sl.below HY.out hb
  have HZn : Hid _ := Sl.below HZ.out hb
  have In : Hid _ := Ints.below I.out hb
  have Vn : Hid _ := Ints.below V.out hb
  have U : Hid _ := hI
  clear hb hI hgg
  clear T HX HY HZ I V
  have T := Tn
  have HX := HXn
  have HY := HYn
  have HZ := HZn
  have I := In
  have V := Vn
  clear Tn HXn HYn HZn In Vn
  go_wp2_with fail
  refine Calls.mono (sHallStops_c _ _ _ xs _ _ _ cs _ _ _ ks _ (Sl.of I.out) rfl (Sl.of V.out) rfl (Sl.of U.out) rfl (by omega) (by omega) (by omega)) ?_
  intro e wn hh
  obtain ⟨he, hb⟩ := (by first | exact hh | exact Ro.mk hh | exact St.mk hh | exact LawOk.mk' hh : Mk _ _ e wn)
  subst he
  have Tn : Hid (Below w.heap.size w wn) := below_next T.out hb
  have HXn : Hid _ := Sl.below HX.out hb
  have HYn : Hid _ := Sl.below HY.out hb
  have HZn : Hid _ := Sl.below HZ.out hb
  have In : Hid _ := Ints.below I.out hb
  have Vn : Hid _ := Ints.below V.out hb
  have Un : Hid _ := Ints.below U.out hb
  clear hb hh
  clear T HX HY HZ I V U
  have T := Tn
  have HX := HXn
  have HY := HYn
  have HZ := HZn
  have I := In
  have V := Vn
  have U := Un
  clear Tn HXn HYn HZn In Vn Un
  clear I V U
  go_wp2_with fail
  refine (toIntS_c p cp xs _ HX.out (by omega)).mono ?_
  rintro e wn ⟨gI, hgg, rfl, hI, hb⟩
  have Tn : Hid (Below w.heap.size w wn) := below_next T.out hb
  have HXn : Hid _ := Sl.below HX.out hb
  have HYn : Hid _ := Sl.below HY.out hb
  have HZn : Hid _ := Sl.below HZ.out hb
  have I : Hid _ := hI
  clear hb hI hgg
  clear T HX HY HZ
  have T := Tn
  have HX := HXn
  have HY := HYn
  have HZ := HZn
  clear Tn HXn HYn HZn
  go_wp2_with fail
  refine (toIntS_c q cq cs _ HY.out (by omega)).mono ?_
  rintro e wn ⟨gV, hgg, rfl, hI, hb⟩
  have Tn : Hid (Below w.heap.size w wn) := below_next T.out hb
  have HXn : Hid _ := Sl.below HX.out hb
  have HYn : Hid _ := Sl.below HY.out hb
  have HZn : Hid _ := Sl.below HZ.out hb
  have In : Hid _ := Ints.below I.out hb
  have V : Hid _ := hI
  clear hb hI hgg
  clear T HX HY HZ I
  have T := Tn
  have HX := HXn
  have HY := HYn
  have HZ := HZn
  have I := In
  clear Tn HXn HYn HZn In
  go_wp2_with fail
  refine (toIntS_c r cr ks _ HZ.out (by omega)).mono ?_
  rintro e wn ⟨gU, hgg, rfl, hI, hb⟩
  have Tn : Hid (Below w.heap.size w wn) := below_next T.out hb
  have HXn : Hid _ := Sl.below HX.out hb
  have HYn : Hid _ := Sl.below HY.out hb
  have HZn : Hid _ := Sl.below HZ.out hb
  have In : Hid _ := Ints.below I.out hb
  have Vn : Hid _ := Ints.below V.out hb
  have U : Hid _ := hI
  clear hb hI hgg
  clear T HX HY HZ I V
  have T := Tn
  have HX := HXn
  have HY := HYn
  have HZ := HZn
  have I := In
  have V := Vn
  clear Tn HXn HYn HZn In Vn
  go_wp2_with fail
  refine Calls.mono (iHallStops_c _ _ _ xs _ _ _ cs _ _ _ ks _ (Sl.of I.out) rfl (Sl.of V.out) rfl (Sl.of U.out) rfl (by omega) (by omega) (by omega) ⟨by omega, by omega⟩ ⟨by omega, by omega⟩ ⟨by omega, by omega⟩) ?_
  intro e wn hh
  obtain ⟨he, hb⟩ := (by first | exact hh | exact Ro.mk hh | exact St.mk hh | exact LawOk.mk' hh : Mk _ _ e wn)
  subst he
  have Tn : Hid (Below w.heap.size w wn) := below_next T.out hb
  have HXn : Hid _ := Sl.below HX.out hb
  have HYn : Hid _ := Sl.below HY.out hb
  have HZn : Hid _ := Sl.below HZ.out hb
  have In : Hid _ := Ints.below I.out hb
  have Vn : Hid _ := Ints.below V.out hb
  have Un : Hid _ := Ints.below U.out hb
  clear hb hh
  clear T HX HY HZ I V U
  have T := Tn
  have HX := HXn
  have HY := HYn
  have HZ := HZn
  have I := In
  have V := Vn
  have U := Un
  clear Tn HXn HYn HZn In Vn Un
  go_wp2_with fail
  refine (toIntS_c p cp xs _ HX.out (by omega)).mono ?_
  rintro e wn ⟨gJ, hgg, rfl, hI, hb⟩
  have Tn : Hid (Below w.heap.size w wn) := below_next T.out hb
  have HXn : Hid _ := Sl.below HX.out hb
  have HYn : Hid _ := Sl.below HY.out hb
  have HZn : Hid _ := Sl.below HZ.out hb
  have In : Hid _ := Ints.below I.out hb
  have Vn : Hid _ := Ints.below V.out hb
  have Un : Hid _ := Ints.below U.out hb
  have J : Hid _ := hI
  clear hb hI hgg
  clear T HX HY HZ I V U
  have T := Tn
  have HX := HXn
  have HY := HYn
  have HZ := HZn
  have I := In
  have V := Vn
  have U := Un
  clear Tn HXn HYn HZn In Vn Un
  go_wp2_with fail
  refine Calls.mono (eqIntS_c _ 0 _ _ 0 _ xs _ I.out J.out (by omega)) ?_
  intro e wn hh
  obtain ⟨he, hb⟩ := (by first | exact hh | exact Ro.mk hh | exact St.mk hh | exact LawOk.mk' hh : Mk _ _ e wn)
  subst he
  have Tn : Hid (Below w.heap.size w wn) := below_next T.out hb
  have HXn : Hid _ := Sl.below HX.out hb
  have HYn : Hid _ := Sl.below HY.out hb
  have HZn : Hid _ := Sl.below HZ.out hb
  have In : Hid _ := Ints.below I.out hb
  have Vn : Hid _ := Ints.below V.out hb
  have Un : Hid _ := Ints.below U.out hb
  have Jn : Hid _ := Ints.below J.out hb
  clear hb hh
  clear T HX HY HZ I V U J
  have T := Tn
  have HX := HXn
  have HY := HYn
  have HZ := HZn
  have I := In
  have V := Vn
  have U := Un
  have J := Jn
  clear Tn HXn HYn HZn In Vn Un Jn
  clear J
  go_wp2_with fail
  refine (toIntS_c q cq cs _ HY.out (by omega)).mono ?_
  rintro e wn ⟨gJ, hgg, rfl, hI, hb⟩
  have Tn : Hid (Below w.heap.size w wn) := below_next T.out hb
  have HXn : Hid _ := Sl.below HX.out hb
  have HYn : Hid _ := Sl.below HY.out hb
  have HZn : Hid _ := Sl.below HZ.out hb
  have In : Hid _ := Ints.below I.out hb
  have Vn : Hid _ := Ints.below V.out hb
  have Un : Hid _ := Ints.below U.out hb
  have J : Hid _ := hI
  clear hb hI hgg
  clear T HX HY HZ I V U
  have T := Tn
  have HX := HXn
  have HY := HYn
  have HZ := HZn
  have I := In
  have V := Vn
  have U := Un
  clear Tn HXn HYn HZn In Vn Un
  go_wp2_with fail
  refine Calls.mono (eqIntS_c _ 0 _ _ 0 _ cs _ V.out J.out (by omega)) ?_
  intro e wn hh
  obtain ⟨he, hb⟩ := (by first | exact hh | exact Ro.mk hh | exact St.mk hh | exact LawOk.mk' hh : Mk _ _ e wn)
  subst he
  have Tn : Hid (Below w.heap.size w wn) := below_next T.out hb
  have HXn : Hid _ := Sl.below HX.out hb
  have HYn : Hid _ := Sl.below HY.out hb
  have HZn : Hid _ := Sl.below HZ.out hb
  have In : Hid _ := Ints.below I.out hb
  have Vn : Hid _ := Ints.below V.out hb
  have Un : Hid _ := Ints.below U.out hb
  have Jn : Hid _ := Ints.below J.out hb
  clear hb hh
  clear T HX HY HZ I V U J
  have T := Tn
  have HX := HXn
  have HY := HYn
  have HZ := HZn
  have I := In
  have V := Vn
  have U := Un
  have J := Jn
  clear Tn HXn HYn HZn In Vn Un Jn
  clear J
  go_wp2_with fail
  refine (toIntS_c r cr ks _ HZ.out (by omega)).mono ?_
  rintro e wn ⟨gJ, hgg, rfl, hI, hb⟩
  have Tn : Hid (Below w.heap.size w wn) := below_next T.out hb
  have HXn : Hid _ := Sl.below HX.out hb
  have HYn : Hid _ := Sl.below HY.out hb
  have HZn : Hid _ := Sl.below HZ.out hb
  have In : Hid _ := Ints.below I.out hb
  have Vn : Hid _ := Ints.below V.out hb
  have Un : Hid _ := Ints.below U.out hb
  have J : Hid _ := hI
  clear hb hI hgg
  clear T HX HY HZ I V U
  have T := Tn
  have HX := HXn
  have HY := HYn
  have HZ := HZn
  have I := In
  have V := Vn
  have U := Un
  clear Tn HXn HYn HZn In Vn Un
  go_wp2_with fail
  refine Calls.mono (eqIntS_c _ 0 _ _ 0 _ ks _ U.out J.out (by omega)) ?_
  intro e wn hh
  obtain ⟨he, hb⟩ := (by first | exact hh | exact Ro.mk hh | exact St.mk hh | exact LawOk.mk' hh : Mk _ _ e wn)
  subst he
  have Tn : Hid (Below w.heap.size w wn) := below_next T.out hb
  have HXn : Hid _ := Sl.below HX.out hb
  have HYn : Hid _ := Sl.below HY.out hb
  have HZn : Hid _ := Sl.below HZ.out hb
  have In : Hid _ := Ints.below I.out hb
  have Vn : Hid _ := Ints.below V.out hb
  have Un : Hid _ := Ints.below U.out hb
  have Jn : Hid _ := Ints.below J.out hb
  clear hb hh
  clear T HX HY HZ I V U J
  have T := Tn
  have HX := HXn
  have HY := HYn
  have HZ := HZn
  have I := In
  have V := Vn
  have U := Un
  have J := Jn
  clear Tn HXn HYn HZn In Vn Un Jn
  clear J
  go_wp2_with fail
  go_ret
  first | exact LawOk.mk T.out | exact LawOk.mk (Below.dr T.out _)
set_option maxHeartbeats 2000000 in
theorem xGoalMany_w (p : Option Addr) (cp : Nat) (xs : List Int) (q : Option Addr) (cq : Nat) (cs : List Int) (w : World) (hxs : Sl w p xs) (mxs : xs.length ≤ maxLen) (hcs : Sl w q cs) (mcs : cs.length ≤ maxLen) :
    Calls Try.prog 12 #[.slice p xs.length cp, .slice q cs.length cq] w (LawOk w) := by
  have HX : Hid _ := hxs
  have HY : Hid _ := hcs
  unfold maxLen at mxs mcs
  clear hxs hcs
  by_cases bigxs : 1048576 < xs.length
  · go_enter Try.func12, Try.ntmps12
    go_wp2_with fail
    go_ret
    exact LawOk.mk (Below.refl _ _)
  by_cases bigcs : 1048576 < cs.length
  · go_enter Try.func12, Try.ntmps12
    go_wp2_with fail
    go_ret
    exact LawOk.mk (Below.refl _ _)
  have T : Hid (Below w.heap.size w w) := Below.refl _ _
  go_enter Try.func12, Try.ntmps12
  go_wp2_with fail
  refine (toIntS_c p cp xs _ HX.out (by omega)).mono ?_
  rintro e wn ⟨gI, hgg, rfl, hI, hb⟩
  have Tn : Hid (Below w.heap.size w wn) := below_next T.out hb
  have HXn : Hid _ := Sl.below HX.out hb
  have HYn : Hid _ := Sl.below HY.out hb
  have I : Hid _ := hI
  clear hb hI hgg
  clear T HX HY
  have T := Tn
  have HX := HXn
  have HY := HYn
  clear Tn HXn HYn
  go_wp2_with fail
  refine (toIntS_c q cq cs _ HY.out (by omega)).mono ?_
  rintro e wn ⟨gV, hgg, rfl, hI, hb⟩
  have Tn : Hid (Below w.heap.size w wn) := below_next T.out hb
  have HXn : Hid _ := Sl.below HX.out hb
  have HYn : Hid _ := Sl.below HY.out hb
  have In : Hid _ := Ints.below I.out hb
  have V : Hid _ := hI
  clear hb hI hgg
  clear T HX HY I
  have T := Tn
  have HX := HXn
  have HY := HYn
  have I := In
  clear Tn HXn HYn In
  go_wp2_with fail
  refine Calls.mono (sGoalMany_c _ _ _ xs _ _ _ cs _ (Sl.of I.out) rfl (Sl.of V.out) rfl (by omega) (by omega) (by omega) (by omega)) ?_
  intro e wn hh
  obtain ⟨he, hb⟩ := (by first | exact hh | exact Ro.mk hh | exact St.mk hh | exact LawOk.mk' hh : Mk _ _ e wn)
  subst he
  have Tn : Hid (Below w.heap.size w wn) := below_next T.out hb
  have HXn : Hid _ := Sl.below HX.out hb
  have HYn : Hid _ := Sl.below HY.out hb
  have In : Hid _ := Ints.below I.out hb
  have Vn : Hid _ := Ints.below V.out hb
  clear hb hh
  clear T HX HY I V
  have T := Tn
  have HX := HXn
  have HY := HYn
  have I := In
  have V := Vn
  clear Tn HXn HYn In Vn
  clear I V
  go_wp2_with fail
  refine (toIntS_c p cp xs _ HX.out (by omega)).mono ?_
  rintro e wn ⟨gI, hgg, rfl, hI, hb⟩
  have Tn : Hid (Below w.heap.size w wn) := below_next T.out hb
  have HXn : Hid _ := Sl.below HX.out hb
  have HYn : Hid _ := Sl.below HY.out hb
  have I : Hid _ := hI
  clear hb hI hgg
  clear T HX HY
  have T := Tn
  have HX := HXn
  have HY := HYn
  clear Tn HXn HYn
  go_wp2_with fail
  refine (toIntS_c q cq cs _ HY.out (by omega)).mono ?_
  rintro e wn ⟨gV, hgg, rfl, hI, hb⟩
  have Tn : Hid (Below w.heap.size w wn) := below_next T.out hb
  have HXn : Hid _ := Sl.below HX.out hb
  have HYn : Hid _ := Sl.below HY.out hb
  have In : Hid _ := Ints.below I.out hb
  have V : Hid _ := hI
  clear hb hI hgg
  clear T HX HY I
  have T := Tn
  have HX := HXn
  have HY := HYn
  have I := In
  clear Tn HXn HYn In
  go_wp2_with fail
  refine Calls.mono (iGoalMany_c _ _ _ xs _ _ _ cs _ (Sl.of I.out) rfl (Sl.of V.out) rfl (by omega) (by omega) ⟨by omega, by omega⟩ ⟨by omega, by omega⟩) ?_
  intro e wn hh
  obtain ⟨he, hb⟩ := (by first | exact hh | exact Ro.mk hh | exact St.mk hh | exact LawOk.mk' hh : Mk _ _ e wn)
  subst he
  have Tn : Hid (Below w.heap.size w wn) := below_next T.out hb
  have HXn : Hid _ := Sl.below HX.out hb
  have HYn : Hid _ := Sl.below HY.out hb
  have In : Hid _ := Ints.below I.out hb
  have Vn : Hid _ := Ints.below V.out hb
  clear hb hh
  clear T HX HY I V
  have T := Tn
  have HX := HXn
  have HY := HYn
  have I := In
  have V := Vn
  clear Tn HXn HYn In Vn
  go_wp2_with fail
  refine (toIntS_c p cp xs _ HX.out (by omega)).mono ?_
  rintro e wn ⟨gJ, hgg, rfl, hI, hb⟩
  have Tn : Hid (Below w.heap.size w wn) := below_next T.out hb
  have HXn : Hid _ := Sl.below HX.out hb
  have HYn : Hid _ := Sl.below HY.out hb
  have In : Hid _ := Ints.below I.out hb
  have Vn : Hid _ := Ints.below V.out hb
  have J : Hid _ := hI
  clear hb hI hgg
  clear T HX HY I V
  have T := Tn
  have HX := HXn
  have HY := HYn
  have I := In
  have V := Vn
  clear Tn HXn HYn In Vn
  go_wp2_with fail
  refine Calls.mono (eqIntS_c _ 0 _ _ 0 _ xs _ I.out J.out (by omega)) ?_
  intro e wn hh
  obtain ⟨he, hb⟩ := (by first | exact hh | exact Ro.mk hh | exact St.mk hh | exact LawOk.mk' hh : Mk _ _ e wn)
  subst he
  have Tn : Hid (Below w.heap.size w wn) := below_next T.out hb
  have HXn : Hid _ := Sl.below HX.out hb
  have HYn : Hid _ := Sl.below HY.out hb
  have In : Hid _ := Ints.below I.out hb
  have Vn : Hid _ := Ints.below V.out hb
  have Jn : Hid _ := Ints.below J.out hb
  clear hb hh
  clear T HX HY I V J
  have T := Tn
  have HX := HXn
  have HY := HYn
  have I := In
  have V := Vn
  have J := Jn
  clear Tn HXn HYn In Vn Jn
  clear J
  go_wp2_with fail
  refine (toIntS_c q cq cs _ HY.out (by omega)).mono ?_
  rintro e wn ⟨gJ, hgg, rfl, hI, hb⟩
  have Tn : Hid (Below w.heap.size w wn) := below_next T.out hb
  have HXn : Hid _ := Sl.below HX.out hb
  have HYn : Hid _ := Sl.below HY.out hb
  have In : Hid _ := Ints.below I.out hb
  have Vn : Hid _ := Ints.below V.out hb
  have J : Hid _ := hI
  clear hb hI hgg
  clear T HX HY I V
  have T := Tn
  have HX := HXn
  have HY := HYn
  have I := In
  have V := Vn
  clear Tn HXn HYn In Vn
  go_wp2_with fail
  refine Calls.mono (eqIntS_c _ 0 _ _ 0 _ cs _ V.out J.out (by omega)) ?_
  intro e wn hh
  obtain ⟨he, hb⟩ := (by first | exact hh | exact Ro.mk hh | exact St.mk hh | exact LawOk.mk' hh : Mk _ _ e wn)
  subst he
  have Tn : Hid (Below w.heap.size w wn) := below_next T.out hb
  have HXn : Hid _ := Sl.below HX.out hb
  have HYn : Hid _ := Sl.below HY.out hb
  have In : Hid _ := Ints.below I.out hb
  have Vn : Hid _ := Ints.below V.out hb
  have Jn : Hid _ := Ints.below J.out hb
  clear hb hh
  clear T HX HY I V J
  have T := Tn
  have HX := HXn
  have HY := HYn
  have I := In
  have V := Vn
  have J := Jn
  clear Tn HXn HYn In Vn Jn
  clear J
  go_wp2_with fail
  go_ret
  first | exact LawOk.mk T.out | exact LawOk.mk (Below.dr T.out _)
end Go.Proofs.Yteeokegkbhpbcaa

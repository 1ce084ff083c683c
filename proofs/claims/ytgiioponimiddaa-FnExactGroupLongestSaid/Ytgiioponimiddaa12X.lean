/- The exact laws of chapter 12: the walks. -/
import Derived.Test.Ytgiioponimiddaa12I
import Derived.Test.YtgiioponimiddaaH
import Derived.Test.YtgiioponimiddaaI
namespace Go.Proofs.Ytgiioponimiddaa
open Go.RowKit
set_option linter.unusedVariables false
set_option linter.unusedSimpArgs false
set_option maxRecDepth 100000
set_option maxHeartbeats 2000000 in
theorem xGroupOk_w (p : Option Addr) (cp : Nat) (xs : List Int) (q : Option Addr) (cq : Nat) (cs : List Int) (r : Option Addr) (cr : Nat) (ks : List Int) (w : World) (hxs : Sl w p xs) (mxs : xs.length ≤ maxLen) (hcs : Sl w q cs) (mcs : cs.length ≤ maxLen) (hks : Sl w r ks) (mks : ks.length ≤ maxLen) :
    Calls Try.prog 8 #[.slice p xs.length cp, .slice q cs.length cq, .slice r ks.length cr] w (LawOk w) := by
  have HX : Hid _ := hxs
  have HY : Hid _ := hcs
  have HZ : Hid _ := hks
  unfold maxLen at mxs mcs mks
  clear hxs hcs hks
  by_cases bigxs : 1048576 < xs.length
  · go_enter Try.func8, Try.ntmps8
    go_wp2_with fail
    go_ret
    exact LawOk.mk (Below.refl _ _)
  by_cases bigcs : 1048576 < cs.length
  · go_enter Try.func8, Try.ntmps8
    go_wp2_with fail
    go_ret
    exact LawOk.mk (Below.refl _ _)
  by_cases bigks : 1048576 < ks.length
  · go_enter Try.func8, Try.ntmps8
    go_wp2_with fail
    go_ret
    exact LawOk.mk (Below.refl _ _)
  have T : Hid (Below w.heap.size w w) := Below.refl _ _
  go_enter Try.func8, Try.ntmps8
  go_wp2_with fail
  refine (toIntS_c p cp xs _ HX.out (by omega)).mono ?_
  rintro e wn ⟨gI, hgg, rfl, hI, hb⟩
  have Tn : Hid (Below w.heap.size w wn) := below_next T.out hb
  have HXn : Hid _ := Sl.below HX.out hb
  have HYn : Hid _ := Sl.below HY.out hb
  have HZn : Hid _ := Sl.below HZ.out hb
  have I : Hid _ := hI
  clear hb hI hgg
  clear T HX HY HZ
  have T := Tn
  have HX := HXn
  have HY := HYn
  have HZ := HZn
  clear Tn HXn HYn HZn
  go_wp2_with fail
  refine (toIntS_c q cq cs _ HY.out (by omega)).mono ?_
  rintro e wn ⟨gV, hgg, rfl, hI, hb⟩
  have Tn : Hid (Below w.heap.size w wn) := below_next T.out hb
  have HXn : Hid _ := Sl.below HX.out hb
  have HYn : Hid _ := Sl.below HY.out hb
  have HZn : Hid _ := Sl.below HZ.out hb
  have In : Hid _ := Ints.below I.out hb
  have V : Hid _ := hI
  clear hb hI hgg
  clear T HX HY HZ I
  have T := Tn
  have HX := HXn
  have HY := HYn
  have HZ := HZn
  have I := In
  clear Tn HXn HYn HZn In
  go_wp2_with fail
  refine (toIntS_c r cr ks _ HZ.out (by omega)).mono ?_
  rintro e wn ⟨gU, hgg, rfl, hI, hb⟩
  have Tn : Hid (Below w.heap.size w wn) := below_next T.out hb
  have HXn : Hid _ := Sl.below HX.out hb
  have HYn : Hid _ := Sl.below HY.out hb
  have HZn : Hid _ := Sl.below HZ.out hb
  have In : Hid _ := Ints.below I.out hb
  have Vn : Hid _ := Ints.below V.out hb
  have U : Hid _ := hI
  clear hb hI hgg
  clear T HX HY HZ I V
  have T := Tn
  have HX := HXn
  have HY := HYn
  have HZ := HZn
  have I := In
  have V := Vn
  clear Tn HXn HYn HZn In Vn
  go_wp2_with fail
  refine Calls.mono (sGroupOk_c _ 0 _ xs _ _ _ cs _ _ _ ks _ I.out (Sl.of V.out) rfl (Sl.of U.out) rfl (by omega) (by omega) (by omega)) ?_
  intro e wn hh
  obtain ⟨he, hb⟩ := (by first | exact hh | exact Ro.mk hh | exact St.mk hh | exact LawOk.mk' hh : Mk _ _ e wn)
  subst he
  have Tn : Hid (Below w.heap.size w wn) := below_next T.out hb
  have HXn : Hid _ := Sl.below HX.out hb
  have HYn : Hid _ := Sl.below HY.out hb
  have HZn : Hid _ := Sl.below HZ.out hb
  have In : Hid _ := Ints.below I.out hb
  have Vn : Hid _ := Ints.below V.out hb
  have Un : Hid _ := Ints.below U.out hb
  clear hb hh
  clear T HX HY HZ I V U
  have T := Tn
  have HX := HXn
  have HY := HYn
  have HZ := HZn
  have I := In
  have V := Vn
  have U := Un
  clear Tn HXn HYn HZn In Vn Un
  clear I V U
  go_wp2_with fail
  refine (toIntS_c p cp xs _ HX.out (by omega)).mono ?_
  rintro e wn ⟨gI, hgg, rfl, hI, hb⟩
  have Tn : Hid (Below w.heap.size w wn) := below_next T.out hb
  have HXn : Hid _ := Sl.below HX.out hb
  have HYn : Hid _ := Sl.below HY.out hb
  have HZn : Hid _ := Sl.below HZ.out hb
  have I : Hid _ := hI
  clear hb hI hgg
  clear T HX HY HZ
  have T := Tn
  have HX := HXn
  have HY := HYn
  have HZ := HZn
  clear Tn HXn HYn HZn
  go_wp2_with fail
  refine (toIntS_c q cq cs _ HY.out (by omega)).mono ?_
  rintro e wn ⟨gV, hgg, rfl, hI, hb⟩
  have Tn : Hid (Below w.heap.size w wn) := below_next T.out hb
  have HXn : Hid _ := Sl.below HX.out hb
  have HYn : Hid _ := Sl.below HY.out hb
  have HZn : Hid _ := Sl.below HZ.out hb
  have In : Hid _ := Ints.below I.out hb
  have V : Hid _ := hI
  clear hb hI hgg
  clear T HX HY HZ I
  have T := Tn
  have HX := HXn
  have HY := HYn
  have HZ := HZn
  have I := In
  clear Tn HXn HYn HZn In
  go_wp2_with fail
  refine (toIntS_c r cr ks _ HZ.out (by omega)).mono ?_
  rintro e wn ⟨gU, hgg, rfl, hI, hb⟩
  have Tn : Hid (Below w.heap.size w wn) := below_next T.out hb
  have HXn : Hid _ := Sl.below HX.out hb
  have HYn : Hid _ := Sl.below HY.out hb
  have HZn : Hid _ := Sl.below HZ.out hb
  have In : Hid _ := Ints.below I.out hb
  have Vn : Hid _ := Ints.below V.out hb
  have U : Hid _ := hI
  clear hb hI hgg
  clear T HX HY HZ I V
  have T := Tn
  have HX := HXn
  have HY := HYn
  have HZ := HZn
  have I := In
  have V := Vn
  clear Tn HXn HYn HZn In Vn
  go_wp2_with fail
  refine Calls.mono (iGroupOk_c _ 0 _ xs _ _ _ cs _ _ _ ks _ I.out (Sl.of V.out) rfl (Sl.of U.out) rfl (by omega) (by omega) (by omega)) ?_
  intro e wn hh
  obtain ⟨he, hb⟩ := (by first | exact hh | exact Ro.mk hh | exact St.mk hh | exact LawOk.mk' hh : Mk _ _ e wn)
  subst he
  have Tn : Hid (Below w.heap.size w wn) := below_next T.out hb
  have HXn : Hid _ := Sl.below HX.out hb
  have HYn : Hid _ := Sl.below HY.out hb
  have HZn : Hid _ := Sl.below HZ.out hb
  have In : Hid _ := Ints.below I.out hb
  have Vn : Hid _ := Ints.below V.out hb
  have Un : Hid _ := Ints.below U.out hb
  clear hb hh
  clear T HX HY HZ I V U
  have T := Tn
  have HX := HXn
  have HY := HYn
  have HZ := HZn
  have I := In
  have V := Vn
  have U := Un
  clear Tn HXn HYn HZn In Vn Un
  go_wp2_with fail
  refine (toIntS_c p cp xs _ HX.out (by omega)).mono ?_
  rintro e wn ⟨gJ, hgg, rfl, hI, hb⟩
  have Tn : Hid (Below w.heap.size w wn) := below_next T.out hb
  have HXn : Hid _ := Sl.below HX.out hb
  have HYn : Hid _ := Sl.below HY.out hb
  have HZn : Hid _ := Sl.below HZ.out hb
  have In : Hid _ := Ints.below I.out hb
  have Vn : Hid _ := Ints.below V.out hb
  have Un : Hid _ := Ints.below U.out hb
  have J : Hid _ := hI
  clear hb hI hgg
  clear T HX HY HZ I V U
  have T := Tn
  have HX := HXn
  have HY := HYn
  have HZ := HZn
  have I := In
  have V := Vn
  have U := Un
  clear Tn HXn HYn HZn In Vn Un
  go_wp2_with fail
  refine Calls.mono (eqIntS_c _ 0 _ _ 0 _ xs _ I.out J.out (by omega)) ?_
  intro e wn hh
  obtain ⟨he, hb⟩ := (by first | exact hh | exact Ro.mk hh | exact St.mk hh | exact LawOk.mk' hh : Mk _ _ e wn)
  subst he
  have Tn : Hid (Below w.heap.size w wn) := below_next T.out hb
  have HXn : Hid _ := Sl.below HX.out hb
  have HYn : Hid _ := Sl.below HY.out hb
  have HZn : Hid _ := Sl.below HZ.out hb
  have In : Hid _ := Ints.below I.out hb
  have Vn : Hid _ := Ints.below V.out hb
  have Un : Hid _ := Ints.below U.out hb
  have Jn : Hid _ := Ints.below J.out hb
  clear hb hh
  clear T HX HY HZ I V U J
  have T := Tn
  have HX := HXn
  have HY := HYn
  have HZ := HZn
  have I := In
  have V := Vn
  have U := Un
  have J := Jn
  clear Tn HXn HYn HZn In Vn Un Jn
  clear J
  go_wp2_with fail
  refine (toIntS_c q cq cs _ HY.out (by omega)).mono ?_
  rintro e wn ⟨gJ, hgg, rfl, hI, hb⟩
  have Tn : Hid (Below w.heap.size w wn) := below_next T.out hb
  have HXn : Hid _ := Sl.below HX.out hb
  have HYn : Hid _ := Sl.below HY.out hb
  have HZn : Hid _ := Sl.below HZ.out hb
  have In : Hid _ := Ints.below I.out hb
  have Vn : Hid _ := Ints.below V.out hb
  have Un : Hid _ := Ints.below U.out hb
  have J : Hid _ := hI
  clear hb hI hgg
  clear T HX HY HZ I V U
  have T := Tn
  have HX := HXn
  have HY := HYn
  have HZ := HZn
  have I := In
  have V := Vn
  have U := Un
  clear Tn HXn HYn HZn In Vn Un
  go_wp2_with fail
  refine Calls.mono (eqIntS_c _ 0 _ _ 0 _ cs _ V.out J.out (by omega)) ?_
  intro e wn hh
  obtain ⟨he, hb⟩ := (by first | exact hh | exact Ro.mk hh | exact St.mk hh | exact LawOk.mk' hh : Mk _ _ e wn)
  subst he
  have Tn : Hid (Below w.heap.size w wn) := below_next T.out hb
  have HXn : Hid _ := Sl.below HX.out hb
  have HYn : Hid _ := Sl.below HY.out hb
  have HZn : Hid _ := Sl.below HZ.out hb
  have In : Hid _ := Ints.below I.out hb
  have Vn : Hid _ := Ints.below V.out hb
  have Un : Hid _ := Ints.below U.out hb
  have Jn : Hid _ := Ints.below J.out hb
  clear hb hh
  clear T HX HY HZ I V U J
  have T := Tn
  have HX := HXn
  have HY := HYn
  have HZ := HZn
  have I := In
  have V := Vn
  have U := Un
  have J := Jn
  clear Tn HXn HYn HZn In Vn Un Jn
  clear J
  go_wp2_with fail
  refine (toIntS_c r cr ks _ HZ.out (by omega)).mono ?_
  rintro e wn ⟨gJ, hgg, rfl, hI, hb⟩
  have Tn : Hid (Below w.heap.size w wn) := below_next T.out hb
  have HXn : Hid _ := Sl.below HX.out hb
  have HYn : Hid _ := Sl.below HY.out hb
  have HZn : Hid _ := Sl.below HZ.out hb
  have In : Hid _ := Ints.below I.out hb
  have Vn : Hid _ := Ints.below V.out hb
  have Un : Hid _ := Ints.below U.out hb
  have J : Hid _ := hI
  clear hb hI hgg
  clear T HX HY HZ I V U
  have T := Tn
  have HX := HXn
  have HY := HYn
  have HZ := HZn
  have I := In
  have V := Vn
  have U := Un
  clear Tn HXn HYn HZn In Vn Un
  go_wp2_with fail
  refine Calls.mono (eqIntS_c _ 0 _ _ 0 _ ks _ U.out J.out (by omega)) ?_
  intro e wn hh
  obtain ⟨he, hb⟩ := (by first | exact hh | exact Ro.mk hh | exact St.mk hh | exact LawOk.mk' hh : Mk _ _ e wn)
  subst he
  have Tn : Hid (Below w.heap.size w wn) := below_next T.out hb
  have HXn : Hid _ := Sl.below HX.out hb
  have HYn : Hid _ := Sl.below HY.out hb
  have HZn : Hid _ := Sl.below HZ.out hb
  have In : Hid _ := Ints.below I.out hb
  have Vn : Hid _ := Ints.below V.out hb
  have Un : Hid _ := Ints.below U.out hb
  have Jn : Hid _ := Ints.below J.out hb
  clear hb hh
  clear T HX HY HZ I V U J
  have T := Tn
  have HX := HXn
  have HY := HYn
  have HZ := HZn
  have I := In
  have V := Vn
  have U := Un
  have J := Jn
  clear Tn HXn HYn HZn In Vn Un Jn
  clear J
  go_wp2_with fail
  go_ret
  first | exact LawOk.mk T.out | exact LawOk.mk (Below.dr T.out _)
set_option maxHeartbeats 2000000 in
theorem xGroupLongest_w (p : Option Addr) (cp : Nat) (xs : List Int) (q : Option Addr) (cq : Nat) (cs : List Int) (r : Option Addr) (cr : Nat) (ks : List Int) (s : Option Addr) (ct : Nat) (gs : List Int) (w : World) (hxs : Sl w p xs) (mxs : xs.length ≤ maxLen) (hcs : Sl w q cs) (mcs : cs.length ≤ maxLen) (hks : Sl w r ks) (mks : ks.length ≤ maxLen) (hgs : Sl w s gs) (mgs : gs.length ≤ maxLen) :
    Calls Try.prog 9 #[.slice p xs.length cp, .slice q cs.length cq, .slice r ks.length cr, .slice s gs.length ct] w (LawOk w) := by
  have HX : Hid _ := hxs
  have HY : Hid _ := hcs
  have HZ : Hid _ := hks
  have HG : Hid _ := hgs
  unfold maxLen at mxs mcs mks mgs
  clear hxs hcs hks hgs
  by_cases bigxs : 1048576 < xs.length
  · go_enter Try.func9, Try.ntmps9
    go_wp2_with fail
    go_ret
    exact LawOk.mk (Below.refl _ _)
  by_cases bigcs : 1048576 < cs.length
  · go_enter Try.func9, Try.ntmps9
    go_wp2_with fail
    go_ret
    exact LawOk.mk (Below.refl _ _)
  by_cases bigks : 1048576 < ks.length
  · go_enter Try.func9, Try.ntmps9
    go_wp2_with fail
    go_ret
    exact LawOk.mk (Below.refl _ _)
  by_cases biggs : 1048576 < gs.length
  · go_enter Try.func9, Try.ntmps9
    go_wp2_with fail
    go_ret
    exact LawOk.mk (Below.refl _ _)
  have T : Hid (Below w.heap.size w w) := Below.refl _ _
  go_enter Try.func9, Try.ntmps9
  go_wp2_with fail
  refine (toIntS_c p cp xs _ HX.out (by omega)).mono ?_
  rintro e wn ⟨gI, hgg, rfl, hI, hb⟩
  have Tn : Hid (Below w.heap.size w wn) := below_next T.out hb
  have HXn : Hid _ := Sl.below HX.out hb
  have HYn : Hid _ := Sl.below HY.out hb
  have HZn : Hid _ := Sl.below HZ.out hb
  have HGn : Hid _ := Sl.below HG.out hb
  have I : Hid _ := hI
  clear hb hI hgg
  clear T HX HY HZ HG
  have T := Tn
  have HX := HXn
  have HY := HYn
  have HZ := HZn
  have HG := HGn
  clear Tn HXn HYn HZn HGn
  go_wp2_with fail
  refine (toIntS_c q cq cs _ HY.out (by omega)).mono ?_
  rintro e wn ⟨gV, hgg, rfl, hI, hb⟩
  have Tn : Hid (Below w.heap.size w wn) := below_next T.out hb
  have HXn : Hid _ := Sl.below HX.out hb
  have HYn : Hid _ := Sl.below HY.out hb
  have HZn : Hid _ := Sl.below HZ.out hb
  have HGn : Hid _ := Sl.below HG.out hb
  have In : Hid _ := Ints.below I.out hb
  have V : Hid _ := hI
  clear hb hI hgg
  clear T HX HY HZ HG I
  have T := Tn
  have HX := HXn
  have HY := HYn
  have HZ := HZn
  have HG := HGn
  have I := In
  clear Tn HXn HYn HZn HGn In
  go_wp2_with fail
  refine (toIntS_c r cr ks _ HZ.out (by omega)).mono ?_
  rintro e wn ⟨gU, hgg, rfl, hI, hb⟩
  have Tn : Hid (Below w.heap.size w wn) := below_next T.out hb
  have HXn : Hid _ := Sl.below HX.out hb
  have HYn : Hid _ := Sl.below HY.out hb
  have HZn : Hid _ := Sl.below HZ.out hb
  have HGn : Hid _ := Sl.below HG.out hb
  have In : Hid _ := Ints.below I.out hb
  have Vn : Hid _ := Ints.below V.out hb
  have U : Hid _ := hI
  clear hb hI hgg
  clear T HX HY HZ HG I V
  have T := Tn
  have HX := HXn
  have HY := HYn
  have HZ := HZn
  have HG := HGn
  have I := In
  have V := Vn
  clear Tn HXn HYn HZn HGn In Vn
  go_wp2_with fail
  refine (toIntS_c s ct gs _ HG.out (by omega)).mono ?_
  rintro e wn ⟨gG4, hgg, rfl, hI, hb⟩
  have Tn : Hid (Below w.heap.size w wn) := below_next T.out hb
  have HXn : Hid _ := Sl.below HX.out hb
  have HYn : Hid _ := Sl.below HY.out hb
  have HZn : Hid _ := Sl.below HZ.out hb
  have HGn : Hid _ := Sl.below HG.out hb
  have In : Hid _ := Ints.below I.out hb
  have Vn : Hid _ := Ints.below V.out hb
  have Un : Hid _ := Ints.below U.out hb
  have G4 : Hid _ := hI
  clear hb hI hgg
  clear T HX HY HZ HG I V U
  have T := Tn
  have HX := HXn
  have HY := HYn
  have HZ := HZn
  have HG := HGn
  have I := In
  have V := Vn
  have U := Un
  clear Tn HXn HYn HZn HGn In Vn Un
  go_wp2_with fail
  refine Calls.mono (sGroupLongest_c _ 0 _ xs _ _ _ cs _ _ _ ks _ _ _ gs _ I.out (Sl.of V.out) rfl (Sl.of U.out) rfl (Sl.of G4.out) rfl (by omega) (by omega) (by omega) (by omega)) ?_
  intro e wn hh
  obtain ⟨he, hb⟩ := (by first | exact hh | exact Ro.mk hh | exact St.mk hh | exact LawOk.mk' hh : Mk _ _ e wn)
  subst he
  have Tn : Hid (Below w.heap.size w wn) := below_next T.out hb
  have HXn : Hid _ := Sl.below HX.out hb
  have HYn : Hid _ := Sl.below HY.out hb
  have HZn : Hid _ := Sl.below HZ.out hb
  have HGn : Hid _ := Sl.below HG.out hb
  have In : Hid _ := Ints.below I.out hb
  have Vn : Hid _ := Ints.below V.out hb
  have Un : Hid _ := Ints.below U.out hb
  have G4n : Hid _ := Ints.below G4.out hb
  clear hb hh
  clear T HX HY HZ HG I V U G4
  have T := Tn
  have HX := HXn
  have HY := HYn
  have HZ := HZn
  have HG := HGn
  have I := In
  have V := Vn
  have U := Un
  have G4 := G4n
  clear Tn HXn HYn HZn HGn In Vn Un G4n
  clear I V U G4
  go_wp2_with fail
  refine (toIntS_c p cp xs _ HX.out (by omega)).mono ?_
  rintro e wn ⟨gI, hgg, rfl, hI, hb⟩
  have Tn : Hid (Below w.heap.size w wn) := below_next T.out hb
  have HXn : Hid _ := Sl.below HX.out hb
  have HYn : Hid _ := Sl.below HY.out hb
  have HZn : Hid _ := Sl.below HZ.out hb
  have HGn : Hid _ := Sl.below HG.out hb
  have I : Hid _ := hI
  clear hb hI hgg
  clear T HX HY HZ HG
  have T := Tn
  have HX := HXn
  have HY := HYn
  have HZ := HZn
  have HG := HGn
  clear Tn HXn HYn HZn HGn
  go_wp2_with fail
  refine (toIntS_c q cq cs _ HY.out (by omega)).mono ?_
  rintro e wn ⟨gV, hgg, rfl, hI, hb⟩
  have Tn : Hid (Below w.heap.size w wn) := below_next T.out hb
  have HXn : Hid _ := Sl.below HX.out hb
  have HYn : Hid _ := Sl.below HY.out hb
  have HZn : Hid _ := Sl.below HZ.out hb
  have HGn : Hid _ := Sl.below HG.out hb
  have In : Hid _ := Ints.below I.out hb
  have V : Hid _ := hI
  clear hb hI hgg
  clear T HX HY HZ HG I
  have T := Tn
  have HX := HXn
  have HY := HYn
  have HZ := HZn
  have HG := HGn
  have I := In
  clear Tn HXn HYn HZn HGn In
  go_wp2_with fail
  refine (toIntS_c r cr ks _ HZ.out (by omega)).mono ?_
  rintro e wn ⟨gU, hgg, rfl, hI, hb⟩
  have Tn : Hid (Below w.heap.size w wn) := below_next T.out hb
  have HXn : Hid _ := Sl.below HX.out hb
  have HYn : Hid _ := Sl.below HY.out hb
  have HZn : Hid _ := Sl.below HZ.out hb
  have HGn : Hid _ := Sl.below HG.out hb
  have In : Hid _ := Ints.below I.out hb
  have Vn : Hid _ := Ints.below V.out hb
  have U : Hid _ := hI
  clear hb hI hgg
  clear T HX HY HZ HG I V
  have T := Tn
  have HX := HXn
  have HY := HYn
  have HZ := HZn
  have HG := HGn
  have I := In
  have V := Vn
  clear Tn HXn HYn HZn HGn In Vn
  go_wp2_with fail
  refine (toIntS_c s ct gs _ HG.out (by omega)).mono ?_
  rintro e wn ⟨gG4, hgg, rfl, hI, hb⟩
  have Tn : Hid (Below w.heap.size w wn) := below_next T.out hb
  have HXn : Hid _ := Sl.below HX.out hb
  have HYn : Hid _ := Sl.below HY.out hb
  have HZn : Hid _ := Sl.below HZ.out hb
  have HGn : Hid _ := Sl.below HG.out hb
  have In : Hid _ := Ints.below I.out hb
  have Vn : Hid _ := Ints.below V.out hb
  have Un : Hid _ := Ints.below U.out hb
  have G4 : Hid _ := hI
  clear hb hI hgg
  clear T HX HY HZ HG I V U
  have T := Tn
  have HX := HXn
  have HY := HYn
  have HZ := HZn
  have HG := HGn
  have I := In
  have V := Vn
  have U := Un
  clear Tn HXn HYn HZn HGn In Vn Un
  go_wp2_with fail
  refine Calls.mono (iGroupLongest_c _ 0 _ xs _ _ _ cs _ _ _ ks _ _ _ gs _ I.out (Sl.of V.out) rfl (Sl.of U.out) rfl (Sl.of G4.out) rfl (by omega) (by omega) (by omega) (by omega)) ?_
  intro e wn hh
  obtain ⟨he, hb⟩ := (by first | exact hh | exact Ro.mk hh | exact St.mk hh | exact LawOk.mk' hh : Mk _ _ e wn)
  subst he
  have Tn : Hid (Below w.heap.size w wn) := below_next T.out hb
  have HXn : Hid _ := Sl.below HX.out hb
  have HYn : Hid _ := Sl.below HY.out hb
  have HZn : Hid _ := Sl.below HZ.out hb
  have HGn : Hid _ := Sl.below HG.out hb
  have In : Hid _ := Ints.below I.out hb
  have Vn : Hid _ := Ints.below V.out hb
  have Un : Hid _ := Ints.below U.out hb
  have G4n : Hid _ := Ints.below G4.out hb
  clear hb hh
  clear T HX HY HZ HG I V U G4
  have T := Tn
  have HX := HXn
  have HY := HYn
  have HZ := HZn
  have HG := HGn
  have I := In
  have V := Vn
  have U := Un
  have G4 := G4n
  clear Tn HXn HYn HZn HGn In Vn Un G4n
  go_wp2_with fail
  refine (toIntS_c p cp xs _ HX.out (by omega)).mono ?_
  rintro e wn ⟨gJ, hgg, rfl, hI, hb⟩
  have Tn : Hid (Below w.heap.size w wn) := below_next T.out hb
  have HXn : Hid _ := Sl.below HX.out hb
  have HYn : Hid _ := Sl.below HY.out hb
  have HZn : Hid _ := Sl.below HZ.out hb
  have HGn : Hid _ := Sl.below HG.out hb
  have In : Hid _ := Ints.below I.out hb
  have Vn : Hid _ := Ints.below V.out hb
  have Un : Hid _ := Ints.below U.out hb
  have G4n : Hid _ := Ints.below G4.out hb
  have J : Hid _ := hI
  clear hb hI hgg
  clear T HX HY HZ HG I V U G4
  have T := Tn
  have HX := HXn
  have HY := HYn
  have HZ := HZn
  have HG := HGn
  have I := In
  have V := Vn
  have U := Un
  have G4 := G4n
  clear Tn HXn HYn HZn HGn In Vn Un G4n
  go_wp2_with fail
  refine Calls.mono (eqIntS_c _ 0 _ _ 0 _ xs _ I.out J.out (by omega)) ?_
  intro e wn hh
  obtain ⟨he, hb⟩ := (by first | exact hh | exact Ro.mk hh | exact St.mk hh | exact LawOk.mk' hh : Mk _ _ e wn)
  subst he
  have Tn : Hid (Below w.heap.size w wn) := below_next T.out hb
  have HXn : Hid _ := Sl.below HX.out hb
  have HYn : Hid _ := Sl.below HY.out hb
  have HZn : Hid _ := Sl.below HZ.out hb
  have HGn : Hid _ := Sl.below HG.out hb
  have In : Hid _ := Ints.below I.out hb
  have Vn : Hid _ := Ints.below V.out hb
  have Un : Hid _ := Ints.below U.out hb
  have G4n : Hid _ := Ints.below G4.out hb
  have Jn : Hid _ := Ints.below J.out hb
  clear hb hh
  clear T HX HY HZ HG I V U G4 J
  have T := Tn
  have HX := HXn
  have HY := HYn
  have HZ := HZn
  have HG := HGn
  have I := In
  have V := Vn
  have U := Un
  have G4 := G4n
  have J := Jn
  clear Tn HXn HYn HZn HGn In Vn Un G4n Jn
  clear J
  go_wp2_with fail
  refine (toIntS_c q cq cs _ HY.out (by omega)).mono ?_
  rintro e wn ⟨gJ, hgg, rfl, hI, hb⟩
  have Tn : Hid (Below w.heap.size w wn) := below_next T.out hb
  have HXn : Hid _ := Sl.below HX.out hb
  have HYn : Hid _ := Sl.below HY.out hb
  have HZn : Hid _ := Sl.below HZ.out hb
  have HGn : Hid _ := Sl.below HG.out hb
  have In : Hid _ := Ints.below I.out hb
  have Vn : Hid _ := Ints.below V.out hb
  have Un : Hid _ := Ints.below U.out hb
  have G4n : Hid _ := Ints.below G4.out hb
  have J : Hid _ := hI
  clear hb hI hgg
  clear T HX HY HZ HG I V U G4
  have T := Tn
  have HX := HXn
  have HY := HYn
  have HZ := HZn
  have HG := HGn
  have I := In
  have V := Vn
  have U := Un
  have G4 := G4n
  clear Tn HXn HYn HZn HGn In Vn Un G4n
  go_wp2_with fail
  refine Calls.mono (eqIntS_c _ 0 _ _ 0 _ cs _ V.out J.out (by omega)) ?_
  intro e wn hh
  obtain ⟨he, hb⟩ := (by first | exact hh | exact Ro.mk hh | exact St.mk hh | exact LawOk.mk' hh : Mk _ _ e wn)
  subst he
  have Tn : Hid (Below w.heap.size w wn) := below_next T.out hb
  have HXn : Hid _ := Sl.below HX.out hb
  have HYn : Hid _ := Sl.below HY.out hb
  have HZn : Hid _ := Sl.below HZ.out hb
  have HGn : Hid _ := Sl.below HG.out hb
  have In : Hid _ := Ints.below I.out hb
  have Vn : Hid _ := Ints.below V.out hb
  have Un : Hid _ := Ints.below U.out hb
  have G4n : Hid _ := Ints.below G4.out hb
  have Jn : Hid _ := Ints.below J.out hb
  clear hb hh
  clear T HX HY HZ HG I V U G4 J
  have T := Tn
  have HX := HXn
  have HY := HYn
  have HZ := HZn
  have HG := HGn
  have I := In
  have V := Vn
  have U := Un
  have G4 := G4n
  have J := Jn
  clear Tn HXn HYn HZn HGn In Vn Un G4n Jn
  clear J
  go_wp2_with fail
  refine (toIntS_c r cr ks _ HZ.out (by omega)).mono ?_
  rintro e wn ⟨gJ, hgg, rfl, hI, hb⟩
  have Tn : Hid (Below w.heap.size w wn) := below_next T.out hb
  have HXn : Hid _ := Sl.below HX.out hb
  have HYn : Hid _ := Sl.below HY.out hb
  have HZn : Hid _ := Sl.below HZ.out hb
  have HGn : Hid _ := Sl.below HG.out hb
  have In : Hid _ := Ints.below I.out hb
  have Vn : Hid _ := Ints.below V.out hb
  have Un : Hid _ := Ints.below U.out hb
  have G4n : Hid _ := Ints.below G4.out hb
  have J : Hid _ := hI
  clear hb hI hgg
  clear T HX HY HZ HG I V U G4
  have T := Tn
  have HX := HXn
  have HY := HYn
  have HZ := HZn
  have HG := HGn
  have I := In
  have V := Vn
  have U := Un
  have G4 := G4n
  clear Tn HXn HYn HZn HGn In Vn Un G4n
  go_wp2_with fail
  refine Calls.mono (eqIntS_c _ 0 _ _ 0 _ ks _ U.out J.out (by omega)) ?_
  intro e wn hh
  obtain ⟨he, hb⟩ := (by first | exact hh | exact Ro.mk hh | exact St.mk hh | exact LawOk.mk' hh : Mk _ _ e wn)
  subst he
  have Tn : Hid (Below w.heap.size w wn) := below_next T.out hb
  have HXn : Hid _ := Sl.below HX.out hb
  have HYn : Hid _ := Sl.below HY.out hb
  have HZn : Hid _ := Sl.below HZ.out hb
  have HGn : Hid _ := Sl.below HG.out hb
  have In : Hid _ := Ints.below I.out hb
  have Vn : Hid _ := Ints.below V.out hb
  have Un : Hid _ := Ints.below U.out hb
  have G4n : Hid _ := Ints.below G4.out hb
  have Jn : Hid _ := Ints.below J.out hb
  clear hb hh
  clear T HX HY HZ HG I V U G4 J
  have T := Tn
  have HX := HXn
  have HY := HYn
  have HZ := HZn
  have HG := HGn
  have I := In
  have V := Vn
  have U := Un
  have G4 := G4n
  have J := Jn
  clear Tn HXn HYn HZn HGn In Vn Un G4n Jn
  clear J
  go_wp2_with fail
  refine (toIntS_c s ct gs _ HG.out (by omega)).mono ?_
  rintro e wn ⟨gJ, hgg, rfl, hI, hb⟩
  have Tn : Hid (Below w.heap.size w wn) := below_next T.out hb
  have HXn : Hid _ := Sl.below HX.out hb
  have HYn : Hid _ := Sl.below HY.out hb
  have HZn : Hid _ := Sl.below HZ.out hb
  have HGn : Hid _ := Sl.below HG.out hb
  have In : Hid _ := Ints.below I.out hb
  have Vn : Hid _ := Ints.below V.out hb
  have Un : Hid _ := Ints.below U.out hb
  have G4n : Hid _ := Ints.below G4.out hb
  have J : Hid _ := hI
  clear hb hI hgg
  clear T HX HY HZ HG I V U G4
  have T := Tn
  have HX := HXn
  have HY := HYn
  have HZ := HZn
  have HG := HGn
  have I := In
  have V := Vn
  have U := Un
  have G4 := G4n
  clear Tn HXn HYn HZn HGn In Vn Un G4n
  go_wp2_with fail
  refine Calls.mono (eqIntS_c _ 0 _ _ 0 _ gs _ G4.out J.out (by omega)) ?_
  intro e wn hh
  obtain ⟨he, hb⟩ := (by first | exact hh | exact Ro.mk hh | exact St.mk hh | exact LawOk.mk' hh : Mk _ _ e wn)
  subst he
  have Tn : Hid (Below w.heap.size w wn) := below_next T.out hb
  have HXn : Hid _ := Sl.below HX.out hb
  have HYn : Hid _ := Sl.below HY.out hb
  have HZn : Hid _ := Sl.below HZ.out hb
  have HGn : Hid _ := Sl.below HG.out hb
  have In : Hid _ := Ints.below I.out hb
  have Vn : Hid _ := Ints.below V.out hb
  have Un : Hid _ := Ints.below U.out hb
  have G4n : Hid _ := Ints.below G4.out hb
  have Jn : Hid _ := Ints.below J.out hb
  clear hb hh
  clear T HX HY HZ HG I V U G4 J
  have T := Tn
  have HX := HXn
  have HY := HYn
  have HZ := HZn
  have HG := HGn
  have I := In
  have V := Vn
  have U := Un
  have G4 := G4n
  have J := Jn
  clear Tn HXn HYn HZn HGn In Vn Un G4n Jn
  clear J
  go_wp2_with fail
  go_ret
  first | exact LawOk.mk T.out | exact LawOk.mk (Below.dr T.out _)
set_option maxHeartbeats 2000000 in
theorem xGroupSum_w (p : Option Addr) (cp : Nat) (xs : List Int) (q : Option Addr) (cq : Nat) (cs : List Int) (r : Option Addr) (cr : Nat) (ks : List Int) (s : Option Addr) (ct : Nat) (gs : List Int) (w : World) (hxs : Sl w p xs) (mxs : xs.length ≤ maxLen) (hcs : Sl w q cs) (mcs : cs.length ≤ maxLen) (hks : Sl w r ks) (mks : ks.length ≤ maxLen) (hgs : Sl w s gs) (mgs : gs.length ≤ maxLen) :
    Calls Try.prog 10 #[.slice p xs.length cp, .slice q cs.length cq, .slice r ks.length cr, .slice s gs.length ct] w (LawOk w) := by
  have HX : Hid _ := hxs
  have HY : Hid _ := hcs
  have HZ : Hid _ := hks
  have HG : Hid _ := hgs
  unfold maxLen at mxs mcs mks mgs
  clear hxs hcs hks hgs
  by_cases bigxs : 1048576 < xs.length
  · go_enter Try.func10, Try.ntmps10
    go_wp2_with fail
    go_ret
    exact LawOk.mk (Below.refl _ _)
  by_cases bigcs : 1048576 < cs.length
  · go_enter Try.func10, Try.ntmps10
    go_wp2_with fail
    go_ret
    exact LawOk.mk (Below.refl _ _)
  by_cases bigks : 1048576 < ks.length
  · go_enter Try.func10, Try.ntmps10
    go_wp2_with fail
    go_ret
    exact LawOk.mk (Below.refl _ _)
  by_cases biggs : 1048576 < gs.length
  · go_enter Try.func10, Try.ntmps10
    go_wp2_with fail
    go_ret
    exact LawOk.mk (Below.refl _ _)
  have T : Hid (Below w.heap.size w w) := Below.refl _ _
  go_enter Try.func10, Try.ntmps10
  go_wp2_with fail
  refine (toIntS_c p cp xs _ HX.out (by omega)).mono ?_
  rintro e wn ⟨gI, hgg, rfl, hI, hb⟩
  have Tn : Hid (Below w.heap.size w wn) := below_next T.out hb
  have HXn : Hid _ := Sl.below HX.out hb
  have HYn : Hid _ := Sl.below HY.out hb
  have HZn : Hid _ := Sl.below HZ.out hb
  have HGn : Hid _ := Sl.below HG.out hb
  have I : Hid _ := hI
  clear hb hI hgg
  clear T HX HY HZ HG
  have T := Tn
  have HX := HXn
  have HY := HYn
  have HZ := HZn
  have HG := HGn
  clear Tn HXn HYn HZn HGn
  go_wp2_with fail
  refine (toIntS_c q cq cs _ HY.out (by omega)).mono ?_
  rintro e wn ⟨gV, hgg, rfl, hI, hb⟩
  have Tn : Hid (Below w.heap.size w wn) := below_next T.out hb
  have HXn : Hid _ := Sl.below HX.out hb
  have HYn : Hid _ := Sl.below HY.out hb
  have HZn : Hid _ := Sl.below HZ.out hb
  have HGn : Hid _ := Sl.below HG.out hb
  have In : Hid _ := Ints.below I.out hb
  have V : Hid _ := hI
  clear hb hI hgg
  clear T HX HY HZ HG I
  have T := Tn
  have HX := HXn
  have HY := HYn
  have HZ := HZn
  have HG := HGn
  have I := In
  clear Tn HXn HYn HZn HGn In
  go_wp2_with fail
  refine (toIntS_c r cr ks _ HZ.out (by omega)).mono ?_
  rintro e wn ⟨gU, hgg, rfl, hI, hb⟩
  have Tn : Hid (Below w.heap.size w wn) := below_next T.out hb
  have HXn : Hid _ := Sl.below HX.out hb
  have HYn : Hid _ := Sl.below HY.out hb
  have HZn : Hid _ := Sl.below HZ.out hb
  have HGn : Hid _ := Sl.below HG.out hb
  have In : Hid _ := Ints.below I.out hb
  have Vn : Hid _ := Ints.below V.out hb
  have U : Hid _ := hI
  clear hb hI hgg
  clear T HX HY HZ HG I V
  have T := Tn
  have HX := HXn
  have HY := HYn
  have HZ := HZn
  have HG := HGn
  have I := In
  have V := Vn
  clear Tn HXn HYn HZn HGn In Vn
  go_wp2_with fail
  refine (toIntS_c s ct gs _ HG.out (by omega)).mono ?_
  rintro e wn ⟨gG4, hgg, rfl, hI, hb⟩
  have Tn : Hid (Below w.heap.size w wn) := below_next T.out hb
  have HXn : Hid _ := Sl.below HX.out hb
  have HYn : Hid _ := Sl.below HY.out hb
  have HZn : Hid _ := Sl.below HZ.out hb
  have HGn : Hid _ := Sl.below HG.out hb
  have In : Hid _ := Ints.below I.out hb
  have Vn : Hid _ := Ints.below V.out hb
  have Un : Hid _ := Ints.below U.out hb
  have G4 : Hid _ := hI
  clear hb hI hgg
  clear T HX HY HZ HG I V U
  have T := Tn
  have HX := HXn
  have HY := HYn
  have HZ := HZn
  have HG := HGn
  have I := In
  have V := Vn
  have U := Un
  clear Tn HXn HYn HZn HGn In Vn Un
  go_wp2_with fail
  refine Calls.mono (sGroupSum_c _ 0 _ xs _ _ _ cs _ _ _ ks _ _ _ gs _ I.out (Sl.of V.out) rfl (Sl.of U.out) rfl (Sl.of G4.out) rfl (by omega) (by omega) (by omega) (by omega)) ?_
  intro e wn hh
  obtain ⟨he, hb⟩ := (by first | exact hh | exact Ro.mk hh | exact St.mk hh | exact LawOk.mk' hh : Mk _ _ e wn)
  subst he
  have Tn : Hid (Below w.heap.size w wn) := below_next T.out hb
  have HXn : Hid _ := Sl.below HX.out hb
  have HYn : Hid _ := Sl.below HY.out hb
  have HZn : Hid _ := Sl.below HZ.out hb
  have HGn : Hid _ := Sl.below HG.out hb
  have In : Hid _ := Ints.below I.out hb
  have Vn : Hid _ := Ints.below V.out hb
  have Un : Hid _ := Ints.below U.out hb
  have G4n : Hid _ := Ints.below G4.out hb
  clear hb hh
  clear T HX HY HZ HG I V U G4
  have T := Tn
  have HX := HXn
  have HY := HYn
  have HZ := HZn
  have HG := HGn
  have I := In
  have V := Vn
  have U := Un
  have G4 := G4n
  clear Tn HXn HYn HZn HGn In Vn Un G4n
  clear I V U G4
  go_wp2_with fail
  refine (toIntS_c p cp xs _ HX.out (by omega)).mono ?_
  rintro e wn ⟨gI, hgg, rfl, hI, hb⟩
  have Tn : Hid (Below w.heap.size w wn) := below_next T.out hb
  have HXn : Hid _ := Sl.below HX.out hb
  have HYn : Hid _ := Sl.below HY.out hb
  have HZn : Hid _ := Sl.below HZ.out hb
  have HGn : Hid _ := Sl.below HG.out hb
  have I : Hid _ := hI
  clear hb hI hgg
  clear T HX HY HZ HG
  have T := Tn
  have HX := HXn
  have HY := HYn
  have HZ := HZn
  have HG := HGn
  clear Tn HXn HYn HZn HGn
  go_wp2_with fail
  refine (toIntS_c q cq cs _ HY.out (by omega)).mono ?_
  rintro e wn ⟨gV, hgg, rfl, hI, hb⟩
  have Tn : Hid (Below w.heap.size w wn) := below_next T.out hb
  have HXn : Hid _ := Sl.below HX.out hb
  have HYn : Hid _ := Sl.below HY.out hb
  have HZn : Hid _ := Sl.below HZ.out hb
  have HGn : Hid _ := Sl.below HG.out hb
  have In : Hid _ := Ints.below I.out hb
  have V : Hid _ := hI
  clear hb hI hgg
  clear T HX HY HZ HG I
  have T := Tn
  have HX := HXn
  have HY := HYn
  have HZ := HZn
  have HG := HGn
  have I := In
  clear Tn HXn HYn HZn HGn In
  go_wp2_with fail
  refine (toIntS_c r cr ks _ HZ.out (by omega)).mono ?_
  rintro e wn ⟨gU, hgg, rfl, hI, hb⟩
  have Tn : Hid (Below w.heap.size w wn) := below_next T.out hb
  have HXn : Hid _ := Sl.below HX.out hb
  have HYn : Hid _ := Sl.below HY.out hb
  have HZn : Hid _ := Sl.below HZ.out hb
  have HGn : Hid _ := Sl.below HG.out hb
  have In : Hid _ := Ints.below I.out hb
  have Vn : Hid _ := Ints.below V.out hb
  have U : Hid _ := hI
  clear hb hI hgg
  clear T HX HY HZ HG I V
  have T := Tn
  have HX := HXn
  have HY := HYn
  have HZ := HZn
  have HG := HGn
  have I := In
  have V := Vn
  clear Tn HXn HYn HZn HGn In Vn
  go_wp2_with fail
  refine (toIntS_c s ct gs _ HG.out (by omega)).mono ?_
  rintro e wn ⟨gG4, hgg, rfl, hI, hb⟩
  have Tn : Hid (Below w.heap.size w wn) := below_next T.out hb
  have HXn : Hid _ := Sl.below HX.out hb
  have HYn : Hid _ := Sl.below HY.out hb
  have HZn : Hid _ := Sl.below HZ.out hb
  have HGn : Hid _ := Sl.below HG.out hb
  have In : Hid _ := Ints.below I.out hb
  have Vn : Hid _ := Ints.below V.out hb
  have Un : Hid _ := Ints.below U.out hb
  have G4 : Hid _ := hI
  clear hb hI hgg
  clear T HX HY HZ HG I V U
  have T := Tn
  have HX := HXn
  have HY := HYn
  have HZ := HZn
  have HG := HGn
  have I := In
  have V := Vn
  have U := Un
  clear Tn HXn HYn HZn HGn In Vn Un
  go_wp2_with fail
  refine Calls.mono (iGroupSum_c _ 0 _ xs _ _ _ cs _ _ _ ks _ _ _ gs _ I.out (Sl.of V.out) rfl (Sl.of U.out) rfl (Sl.of G4.out) rfl (by omega) (by omega) (by omega) (by omega)) ?_
  intro e wn hh
  obtain ⟨he, hb⟩ := (by first | exact hh | exact Ro.mk hh | exact St.mk hh | exact LawOk.mk' hh : Mk _ _ e wn)
  subst he
  have Tn : Hid (Below w.heap.size w wn) := below_next T.out hb
  have HXn : Hid _ := Sl.below HX.out hb
  have HYn : Hid _ := Sl.below HY.out hb
  have HZn : Hid _ := Sl.below HZ.out hb
  have HGn : Hid _ := Sl.below HG.out hb
  have In : Hid _ := Ints.below I.out hb
  have Vn : Hid _ := Ints.below V.out hb
  have Un : Hid _ := Ints.below U.out hb
  have G4n : Hid _ := Ints.below G4.out hb
  clear hb hh
  clear T HX HY HZ HG I V U G4
  have T := Tn
  have HX := HXn
  have HY := HYn
  have HZ := HZn
  have HG := HGn
  have I := In
  have V := Vn
  have U := Un
  have G4 := G4n
  clear Tn HXn HYn HZn HGn In Vn Un G4n
  go_wp2_with fail
  refine (toIntS_c p cp xs _ HX.out (by omega)).mono ?_
  rintro e wn ⟨gJ, hgg, rfl, hI, hb⟩
  have Tn : Hid (Below w.heap.size w wn) := below_next T.out hb
  have HXn : Hid _ := Sl.below HX.out hb
  have HYn : Hid _ := Sl.below HY.out hb
  have HZn : Hid _ := Sl.below HZ.out hb
  have HGn : Hid _ := Sl.below HG.out hb
  have In : Hid _ := Ints.below I.out hb
  have Vn : Hid _ := Ints.below V.out hb
  have Un : Hid _ := Ints.below U.out hb
  have G4n : Hid _ := Ints.below G4.out hb
  have J : Hid _ := hI
  clear hb hI hgg
  clear T HX HY HZ HG I V U G4
  have T := Tn
  have HX := HXn
  have HY := HYn
  have HZ := HZn
  have HG := HGn
  have I := In
  have V := Vn
  have U := Un
  have G4 := G4n
  clear Tn HXn HYn HZn HGn In Vn Un G4n
  go_wp2_with fail
  refine Calls.mono (eqIntS_c _ 0 _ _ 0 _ xs _ I.out J.out (by omega)) ?_
  intro e wn hh
  obtain ⟨he, hb⟩ := (by first | exact hh | exact Ro.mk hh | exact St.mk hh | exact LawOk.mk' hh : Mk _ _ e wn)
  subst he
  have Tn : Hid (Below w.heap.size w wn) := below_next T.out hb
  have HXn : Hid _ := Sl.below HX.out hb
  have HYn : Hid _ := Sl.below HY.out hb
  have HZn : Hid _ := Sl.below HZ.out hb
  have HGn : Hid _ := Sl.below HG.out hb
  have In : Hid _ := Ints.below I.out hb
  have Vn : Hid _ := Ints.below V.out hb
  have Un : Hid _ := Ints.below U.out hb
  have G4n : Hid _ := Ints.below G4.out hb
  have Jn : Hid _ := Ints.below J.out hb
  clear hb hh
  clear T HX HY HZ HG I V U G4 J
  have T := Tn
  have HX := HXn
  have HY := HYn
  have HZ := HZn
  have HG := HGn
  have I := In
  have V := Vn
  have U := Un
  have G4 := G4n
  have J := Jn
  clear Tn HXn HYn HZn HGn In Vn Un G4n Jn
  clear J
  go_wp2_with fail
  refine (toIntS_c q cq cs _ HY.out (by omega)).mono ?_
  rintro e wn ⟨gJ, hgg, rfl, hI, hb⟩
  have Tn : Hid (Below w.heap.size w wn) := below_next T.out hb
  have HXn : Hid _ := Sl.below HX.out hb
  have HYn : Hid _ := Sl.below HY.out hb
  have HZn : Hid _ := Sl.below HZ.out hb
  have HGn : Hid _ := Sl.below HG.out hb
  have In : Hid _ := Ints.below I.out hb
  have Vn : Hid _ := Ints.below V.out hb
  have Un : Hid _ := Ints.below U.out hb
  have G4n : Hid _ := Ints.below G4.out hb
  have J : Hid _ := hI
  clear hb hI hgg
  clear T HX HY HZ HG I V U G4
  have T := Tn
  have HX := HXn
  have HY := HYn
  have HZ := HZn
  have HG := HGn
  have I := In
  have V := Vn
  have U := Un
  have G4 := G4n
  clear Tn HXn HYn HZn HGn In Vn Un G4n
  go_wp2_with fail
  refine Calls.mono (eqIntS_c _ 0 _ _ 0 _ cs _ V.out J.out (by omega)) ?_
  intro e wn hh
  obtain ⟨he, hb⟩ := (by first | exact hh | exact Ro.mk hh | exact St.mk hh | exact LawOk.mk' hh : Mk _ _ e wn)
  subst he
  have Tn : Hid (Below w.heap.size w wn) := below_next T.out hb
  have HXn : Hid _ := Sl.below HX.out hb
  have HYn : Hid _ := Sl.below HY.out hb
  have HZn : Hid _ := Sl.below HZ.out hb
  have HGn : Hid _ := Sl.below HG.out hb
  have In : Hid _ := Ints.below I.out hb
  have Vn : Hid _ := Ints.below V.out hb
  have Un : Hid _ := Ints.below U.out hb
  have G4n : Hid _ := Ints.below G4.out hb
  have Jn : Hid _ := Ints.below J.out hb
  clear hb hh
  clear T HX HY HZ HG I V U G4 J
  have T := Tn
  have HX := HXn
  have HY := HYn
  have HZ := HZn
  have HG := HGn
  have I := In
  have V := Vn
  have U := Un
  have G4 := G4n
  have J := Jn
  clear Tn HXn HYn HZn HGn In Vn Un G4n Jn
  clear J
  go_wp2_with fail
  refine (toIntS_c r cr ks _ HZ.out (by omega)).mono ?_
  rintro e wn ⟨gJ, hgg, rfl, hI, hb⟩
  have Tn : Hid (Below w.heap.size w wn) := below_next T.out hb
  have HXn : Hid _ := Sl.below HX.out hb
  have HYn : Hid _ := Sl.below HY.out hb
  have HZn : Hid _ := Sl.below HZ.out hb
  have HGn : Hid _ := Sl.below HG.out hb
  have In : Hid _ := Ints.below I.out hb
  have Vn : Hid _ := Ints.below V.out hb
  have Un : Hid _ := Ints.below U.out hb
  have G4n : Hid _ := Ints.below G4.out hb
  have J : Hid _ := hI
  clear hb hI hgg
  clear T HX HY HZ HG I V U G4
  have T := Tn
  have HX := HXn
  have HY := HYn
  have HZ := HZn
  have HG := HGn
  have I := In
  have V := Vn
  have U := Un
  have G4 := G4n
  clear Tn HXn HYn HZn HGn In Vn Un G4n
  go_wp2_with fail
  refine Calls.mono (eqIntS_c _ 0 _ _ 0 _ ks _ U.out J.out (by omega)) ?_
  intro e wn hh
  obtain ⟨he, hb⟩ := (by first | exact hh | exact Ro.mk hh | exact St.mk hh | exact LawOk.mk' hh : Mk _ _ e wn)
  subst he
  have Tn : Hid (Below w.heap.size w wn) := below_next T.out hb
  have HXn : Hid _ := Sl.below HX.out hb
  have HYn : Hid _ := Sl.below HY.out hb
  have HZn : Hid _ := Sl.below HZ.out hb
  have HGn : Hid _ := Sl.below HG.out hb
  have In : Hid _ := Ints.below I.out hb
  have Vn : Hid _ := Ints.below V.out hb
  have Un : Hid _ := Ints.below U.out hb
  have G4n : Hid _ := Ints.below G4.out hb
  have Jn : Hid _ := Ints.below J.out hb
  clear hb hh
  clear T HX HY HZ HG I V U G4 J
  have T := Tn
  have HX := HXn
  have HY := HYn
  have HZ := HZn
  have HG := HGn
  have I := In
  have V := Vn
  have U := Un
  have G4 := G4n
  have J := Jn
  clear Tn HXn HYn HZn HGn In Vn Un G4n Jn
  clear J
  go_wp2_with fail
  refine (toIntS_c s ct gs _ HG.out (by omega)).mono ?_
  rintro e wn ⟨gJ, hgg, rfl, hI, hb⟩
  have Tn : Hid (Below w.heap.size w wn) := below_next T.out hb
  have HXn : Hid _ := Sl.below HX.out hb
  have HYn : Hid _ := Sl.below HY.out hb
  have HZn : Hid _ := Sl.below HZ.out hb
  have HGn : Hid _ := Sl.below HG.out hb
  have In : Hid _ := Ints.below I.out hb
  have Vn : Hid _ := Ints.below V.out hb
  have Un : Hid _ := Ints.below U.out hb
  have G4n : Hid _ := Ints.below G4.out hb
  have J : Hid _ := hI
  clear hb hI hgg
  clear T HX HY HZ HG I V U G4
  have T := Tn
  have HX := HXn
  have HY := HYn
  have HZ := HZn
  have HG := HGn
  have I := In
  have V := Vn
  have U := Un
  have G4 := G4n
  clear Tn HXn HYn HZn HGn In Vn Un G4n
  go_wp2_with fail
  refine Calls.mono (eqIntS_c _ 0 _ _ 0 _ gs _ G4.out J.out (by omega)) ?_
  intro e wn hh
  obtain ⟨he, hb⟩ := (by first | exact hh | exact Ro.mk hh | exact St.mk hh | exact LawOk.mk' hh : Mk _ _ e wn)
  subst he
  have Tn : Hid (Below w.heap.size w wn) := below_next T.out hb
  have HXn : Hid _ := Sl.below HX.out hb
  have HYn : Hid _ := Sl.below HY.out hb
  have HZn : Hid _ := Sl.below HZ.out hb
  have HGn : Hid _ := Sl.below HG.out hb
  have In : Hid _ := Ints.below I.out hb
  have Vn : Hid _ := Ints.below V.out hb
  have Un : Hid _ := Ints.below U.out hb
  have G4n : Hid _ := Ints.below G4.out hb
  have Jn : Hid _ := Ints.below J.out hb
  clear hb hh
  clear T HX HY HZ HG I V U G4 J
  have T := Tn
  have HX := HXn
  have HY := HYn
  have HZ := HZn
  have HG := HGn
  have I := In
  have V := Vn
  have U := Un
  have G4 := G4n
  have J := Jn
  clear Tn HXn HYn HZn HGn In Vn Un G4n Jn
  clear J
  go_wp2_with fail
  go_ret
  first | exact LawOk.mk T.out | exact LawOk.mk (Below.dr T.out _)
end Go.Proofs.Ytgiioponimiddaa

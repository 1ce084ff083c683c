/- The exact laws of chapter 5: the walks. -/
import Derived.Test.Ytpfllhiibkdfaaa5I
import Derived.Test.YtpfllhiibkdfaaaH
import Derived.Test.Ytpfllhiibkdfaaa2X
namespace Go.Proofs.Ytpfllhiibkdfaaa
open Go.RowKit
set_option linter.unusedVariables false

theorem Ro.mk {w w' : World} {v : Value} {e : Ending} (h : Ro w v e w') : Mk w v e w' := by
  obtain ⟨he, n, rfl⟩ := h; exact ⟨he, below_drewN' n⟩
theorem St.mk {w w' : World} {v : Value} {e : Ending} (h : St w v e w') : Mk w v e w' := by
  obtain ⟨he, rfl⟩ := h; exact ⟨he, Below.refl _ _⟩
theorem LawOk.mk' {w w' : World} {e : Ending} (h : LawOk w e w') : Mk w (.bool true) e w' := h
theorem Sl.of {w' : World} {xs : List Int} {g : Nat} (h : Ints w' g 0 xs) : Sl w' (some ⟨g, 0, none⟩) xs := .inr ⟨g, 0, rfl, h⟩
theorem xSpeedLimit_w (a : Int) (u : Bool) (w : World) (hi : -9223372036854775808 ≤ a ∧ a ≤ 9223372036854775807) : Calls Try.prog 7 #[.int .i64 a, .bool u] w (LawOk w) := by
  have T : Hid (Below w.heap.size w w) := Below.refl _ _
  go_enter Try.func7, Try.ntmps7
  go_wp2_with fail
  refine (sSpeedLimit_c a u _).mono ?_
  intro e wn hh
  obtain ⟨he, hb⟩ := (by first | exact hh | exact Ro.mk hh | exact St.mk hh | exact LawOk.mk' hh : Mk _ _ e wn)
  subst he
  have Tn : Hid (Below w.heap.size w wn) := below_next T.out hb
  clear hb hh
  clear T
  have T := Tn
  clear Tn
  go_wp2_with fail
  refine (iSpeedLimit_c a u _).mono ?_
  intro e wn hh
  obtain ⟨he, hb⟩ := (by first | exact hh | exact Ro.mk hh | exact St.mk hh | exact LawOk.mk' hh : Mk _ _ e wn)
  subst he
  have Tn : Hid (Below w.heap.size w wn) := below_next T.out hb
  clear hb hh
  clear T
  have T := Tn
  clear Tn
  go_wp2_with fail
  go_ret
  exact LawOk.mk T.out
theorem xGovernorStep_w (b : Bool) (a : Int) (r : Bool) (w : World) (hi : -9223372036854775808 ≤ a ∧ a ≤ 9223372036854775807) : Calls Try.prog 9 #[.bool b, .int .i64 a, .bool r] w (LawOk w) := by
  have T : Hid (Below w.heap.size w w) := Below.refl _ _
  go_enter Try.func9, Try.ntmps9
  go_wp2_with fail
  refine (sGovernorStep_c b a r _).mono ?_
  intro e wn hh
  obtain ⟨he, hb⟩ := (by first | exact hh | exact Ro.mk hh | exact St.mk hh | exact LawOk.mk' hh : Mk _ _ e wn)
  subst he
  have Tn : Hid (Below w.heap.size w wn) := below_next T.out hb
  clear hb hh
  clear T
  have T := Tn
  clear Tn
  go_wp2_with fail
  refine (iGovernorStep_c b a r _).mono ?_
  intro e wn hh
  obtain ⟨he, hb⟩ := (by first | exact hh | exact Ro.mk hh | exact St.mk hh | exact LawOk.mk' hh : Mk _ _ e wn)
  subst he
  have Tn : Hid (Below w.heap.size w wn) := below_next T.out hb
  clear hb hh
  clear T
  have T := Tn
  clear Tn
  go_wp2_with fail
  go_ret
  exact LawOk.mk T.out
set_option maxHeartbeats 400000 in
theorem xWithinLimit_w (a s : Int) (w : World) : Calls Try.prog 8 #[(Value.agg #[.int .i64 (a), .int .i64 (s)])] w (LawOk w) := by
  have Q : Hid _ := Box.new w a s 43
  have T : Hid (Below w.heap.size w (w.alloc (.cells #[.int .i64 a, .int .i64 s] 43))) := (by repeat (first | exact Below.refl _ _ | refine Below.al ?_ _ | refine Below.dr ?_ _ | refine Below.dw ?_ | refine Below.st ?_ (by first | exact Nat.le_refl _ | exact Nat.le_add_right _ _ | (simp; omega)) _ | (refine below_next ?_ (by assumption))))
  go_enter Try.func8, Try.ntmps8
  go_wp2_with fail
  refine (toMotion_c a s _).mono ?_
  intro e wn hh
  obtain ⟨he, hb⟩ := (by first | exact hh | exact Ro.mk hh | exact St.mk hh | exact LawOk.mk' hh : Mk _ _ e wn)
  subst he
  have Tn : Hid (Below w.heap.size w wn) := below_next T.out hb
  have Qn : Hid _ := Box.below Q.out hb
  clear hb hh
  clear T Q
  have T := Tn
  have Q := Qn
  clear Tn Qn
  go_wp2_with fail
  refine (sWithinLimit_c a s _).mono ?_
  intro e wn hh
  obtain ⟨he, hb⟩ := (by first | exact hh | exact Ro.mk hh | exact St.mk hh | exact LawOk.mk' hh : Mk _ _ e wn)
  subst he
  have Tn : Hid (Below w.heap.size w wn) := below_next T.out hb
  have Qn : Hid _ := Box.below Q.out hb
  clear hb hh
  clear T Q
  have T := Tn
  have Q := Qn
  clear Tn Qn
  obtain ⟨⟨c0, c1⟩, cf0, cf1⟩ := Q.out
  go_wp2_with fail
  refine (toMotion_c a s _).mono ?_
  intro e wn hh
  obtain ⟨he, hb⟩ := (by first | exact hh | exact Ro.mk hh | exact St.mk hh | exact LawOk.mk' hh : Mk _ _ e wn)
  subst he
  have Tn : Hid (Below w.heap.size w wn) := below_next T.out hb
  have Qn : Hid _ := Box.below Q.out hb
  clear hb hh c0 c1 cf0 cf1
  clear T Q
  have T := Tn
  have Q := Qn
  clear Tn Qn
  go_wp2_with fail
  refine (iWithinLimit_c a s _).mono ?_
  intro e wn hh
  obtain ⟨he, hb⟩ := (by first | exact hh | exact Ro.mk hh | exact St.mk hh | exact LawOk.mk' hh : Mk _ _ e wn)
  subst he
  have Tn : Hid (Below w.heap.size w wn) := below_next T.out hb
  have Qn : Hid _ := Box.below Q.out hb
  clear hb hh
  clear T Q
  have T := Tn
  have Q := Qn
  clear Tn Qn
  go_wp2_with fail
  go_ret
  exact LawOk.mk T.out
set_option maxHeartbeats 400000 in
theorem xGovernorRun_w (b : Bool) (p : Option Addr) (cp : Nat) (xs : List Int) (q : Option Addr) (cq : Nat) (ys : List Int) (w : World) (hx : Sl w p xs) (hmx : xs.length ≤ maxLen) (hy : Sl w q ys) (hmy : ys.length ≤ maxLen) :
    Calls Try.prog 10 #[.bool b, .slice p xs.length cp, .slice q ys.length cq] w (LawOk w) := by
  have HX : Hid _ := hx
  have HY : Hid _ := hy
  have hmx' := hmx
  have hmy' := hmy
  unfold maxLen at hmx' hmy'
  clear hx hy
  by_cases bigxs : 1048576 < xs.length
  · go_enter Try.func10, Try.ntmps10
    go_wp2_with fail
    go_ret
    exact LawOk.mk (Below.refl _ _)
  by_cases bigys : 1048576 < ys.length
  · go_enter Try.func10, Try.ntmps10
    go_wp2_with fail
    go_ret
    exact LawOk.mk (Below.refl _ _)
  have T : Hid (Below w.heap.size w w) := Below.refl _ _
  go_enter Try.func10, Try.ntmps10
  go_wp2_with fail
  refine (toIntS_c p cp xs _ HX.out (by omega)).mono ?_
  rintro e w1 ⟨g1, hg1, rfl, hI, hb⟩
  have I1 : Hid _ := hI
  have T1 : Hid (Below w.heap.size w w1) := hb
  have X1 : Hid _ := Sl.below HX.out hb
  have Y1 : Hid _ := Sl.below HY.out hb
  clear T hI hb hg1 HX HY
  go_wp2_with fail
  refine (toIntS_c q cq ys _ Y1.out (by omega)).mono ?_
  rintro e w2 ⟨g2, hg2, rfl, hI, hb⟩
  have T : Hid (Below w.heap.size w w2) := below_next T1.out hb
  have J : Hid _ := hI
  have I : Hid _ := Ints.below I1.out hb
  have HX : Hid _ := Sl.below X1.out hb
  have HY : Hid _ := Sl.below Y1.out hb
  clear hI hb hg2 T1 I1 X1 Y1
  go_wp2_with fail
  refine (sGovernorRun_c b _ _ xs _ _ ys _ (Sl.of I.out) hmx (Sl.of J.out) hmy).mono ?_
  intro e wn hh
  obtain ⟨he, hb⟩ := (by first | exact hh | exact Ro.mk hh | exact St.mk hh | exact LawOk.mk' hh : Mk _ _ e wn)
  subst he
  have Tn : Hid (Below w.heap.size w wn) := below_next T.out hb
  have HXn : Hid _ := Sl.below HX.out hb
  have HYn : Hid _ := Sl.below HY.out hb
  clear hb hh
  clear T HX HY
  have T := Tn
  have HX := HXn
  have HY := HYn
  clear Tn HXn HYn
  clear I J
  go_wp2_with fail
  refine (toIntS_c p cp xs _ HX.out (by omega)).mono ?_
  rintro e w1 ⟨g3, hg1, rfl, hI, hb⟩
  have I1 : Hid _ := hI
  have T1 : Hid (Below w.heap.size w w1) := below_next T.out hb
  have X1 : Hid _ := Sl.below HX.out hb
  have Y1 : Hid _ := Sl.below HY.out hb
  clear T hI hb hg1 HX HY
  go_wp2_with fail
  refine (toIntS_c q cq ys _ Y1.out (by omega)).mono ?_
  rintro e w2 ⟨g4, hg2, rfl, hI, hb⟩
  have T : Hid (Below w.heap.size w w2) := below_next T1.out hb
  have J : Hid _ := hI
  have I : Hid _ := Ints.below I1.out hb
  have HX : Hid _ := Sl.below X1.out hb
  have HY : Hid _ := Sl.below Y1.out hb
  clear hI hb hg2 T1 I1 X1 Y1
  go_wp2_with fail
  refine (iGovernorRun_c b _ _ xs _ _ ys _ (Sl.of I.out) hmx (Sl.of J.out) hmy).mono ?_
  intro e wn hh
  obtain ⟨he, hb⟩ := (by first | exact hh | exact Ro.mk hh | exact St.mk hh | exact LawOk.mk' hh : Mk _ _ e wn)
  subst he
  have Tn : Hid (Below w.heap.size w wn) := below_next T.out hb
  have HXn : Hid _ := Sl.below HX.out hb
  have HYn : Hid _ := Sl.below HY.out hb
  have In : Hid _ := Ints.below I.out hb
  have Jn : Hid _ := Ints.below J.out hb
  clear hb hh
  clear T HX HY I J
  have T := Tn
  have HX := HXn
  have HY := HYn
  have I := In
  have J := Jn
  clear Tn HXn HYn In Jn
  go_wp2_with fail
  refine (toIntS_c p cp xs _ HX.out (by omega)).mono ?_
  rintro e w1 ⟨g5, hg1, rfl, hI, hb⟩
  have K : Hid _ := hI
  have T1 : Hid (Below w.heap.size w w1) := below_next T.out hb
  have I1 : Hid _ := Ints.below I.out hb
  have J1 : Hid _ := Ints.below J.out hb
  have HY1 : Hid _ := Sl.below HY.out hb
  clear T hI hb hg1 HX I J HY
  have T := T1
  have I := I1
  have J := J1
  have HY := HY1
  clear T1 I1 J1 HY1
  go_wp2_with fail
  refine (eqIntS_c _ 0 _ _ 0 _ xs _ I.out K.out (by omega)).mono ?_
  intro e wn hh
  obtain ⟨he, hb⟩ := (by first | exact hh | exact Ro.mk hh | exact St.mk hh | exact LawOk.mk' hh : Mk _ _ e wn)
  subst he
  have Tn : Hid (Below w.heap.size w wn) := below_next T.out hb
  have HYn : Hid _ := Sl.below HY.out hb
  have Jn : Hid _ := Ints.below J.out hb
  clear hb hh
  clear T HY J
  have T := Tn
  have HY := HYn
  have J := Jn
  clear Tn HYn Jn
  go_wp2_with fail
  refine (toIntS_c q cq ys _ HY.out (by omega)).mono ?_
  rintro e w1 ⟨g6, hg1, rfl, hI, hb⟩
  have K2 : Hid _ := hI
  have T1 : Hid (Below w.heap.size w w1) := below_next T.out hb
  have J1 : Hid _ := Ints.below J.out hb
  clear T hI hb hg1 J HY
  have T := T1
  have J := J1
  clear T1 J1
  go_wp2_with fail
  refine (eqIntS_c _ 0 _ _ 0 _ ys _ J.out K2.out (by omega)).mono ?_
  intro e wn hh
  obtain ⟨he, hb⟩ := (by first | exact hh | exact Ro.mk hh | exact St.mk hh | exact LawOk.mk' hh : Mk _ _ e wn)
  subst he
  have Tn : Hid (Below w.heap.size w wn) := below_next T.out hb
  clear hb hh
  clear T
  have T := Tn
  clear Tn
  go_wp2_with fail
  go_ret
  exact LawOk.mk T.out
end Go.Proofs.Ytpfllhiibkdfaaa

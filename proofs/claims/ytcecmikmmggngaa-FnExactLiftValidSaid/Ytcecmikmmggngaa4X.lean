/- The exact laws of chapter 4: the walks. -/
import Derived.Test.Ytcecmikmmggngaa4I
import Derived.Test.Ytcecmikmmggngaa2X
import Derived.Test.Ytcecmikmmggngaa3X
import Derived.Test.YtcecmikmmggngaaH
import Derived.Deep.CutRange
namespace Go.Proofs.Ytcecmikmmggngaa
open Go.RowKit
set_option linter.unusedVariables false

set_option maxHeartbeats 400000 in
theorem toLift_c (a s g o : Int) (w : World) : Calls Try.prog 26 #[(Value.agg #[.int .i64 (a), .int .i64 (s), .int .i64 (g), .int .i64 (o)])] w (Mk w (Value.agg #[.int .i64 (a), .int .i64 (s), .int .i64 (g), .int .i64 (o)])) := by
  have P0 : Hid (BoxV (((w.alloc (.cells #[.int .i64 (a), .int .i64 (s), .int .i64 (g), .int .i64 (o)] 45)).alloc (.cells #[.int .i64 (0), .int .i64 (0), .int .i64 (0), .int .i64 (0)] 29)).alloc (.cells #[.int .i64 (0), .int .i64 (0), .int .i64 (0), .int .i64 (0)] 29)) w.heap.size (L4 a s g o)) := BoxV.al (BoxV.al (BoxV.new w (L4 a s g o) 45 (by simp) rfl) _) _
  have P1 : Hid (BoxV (((w.alloc (.cells #[.int .i64 (a), .int .i64 (s), .int .i64 (g), .int .i64 (o)] 45)).alloc (.cells #[.int .i64 (0), .int .i64 (0), .int .i64 (0), .int .i64 (0)] 29)).alloc (.cells #[.int .i64 (0), .int .i64 (0), .int .i64 (0), .int .i64 (0)] 29)) (w.heap.size + 1) (L4 0 0 0 0)) := BoxV.al (BoxV.new _ (L4 0 0 0 0) 29 (by simp) (by simp)) _
  have P2 : Hid (BoxV (((w.alloc (.cells #[.int .i64 (a), .int .i64 (s), .int .i64 (g), .int .i64 (o)] 45)).alloc (.cells #[.int .i64 (0), .int .i64 (0), .int .i64 (0), .int .i64 (0)] 29)).alloc (.cells #[.int .i64 (0), .int .i64 (0), .int .i64 (0), .int .i64 (0)] 29)) (w.heap.size + 2) (L4 0 0 0 0)) := BoxV.new _ (L4 0 0 0 0) 29 (by simp) (by simp)
  have T0 : Hid (Below w.heap.size w (((w.alloc (.cells #[.int .i64 (a), .int .i64 (s), .int .i64 (g), .int .i64 (o)] 45)).alloc (.cells #[.int .i64 (0), .int .i64 (0), .int .i64 (0), .int .i64 (0)] 29)).alloc (.cells #[.int .i64 (0), .int .i64 (0), .int .i64 (0), .int .i64 (0)] 29))) := (by repeat (first | exact Below.refl _ _ | refine Below.al ?_ _ | refine Below.dr ?_ _ | refine Below.dw ?_ | refine Below.st ?_ (by first | exact Nat.le_refl _ | exact Nat.le_add_right _ _ | (simp; omega)) _ | (refine below_next ?_ (by assumption))))
  go_enter Try.func26, Try.ntmps26
  go_wp2_with fail
  refine (toMotion_c a s _).mono ?_
  rintro e w1 ⟨rfl, hb⟩
  have Q0 : Hid _ := BoxV.below P0.out hb
  have Q1 : Hid _ := BoxV.below P1.out hb
  have Q2 : Hid _ := BoxV.below P2.out hb
  have T1 : Hid (Below w.heap.size w w1) := below_next T0.out hb
  clear hb P0 P1 P2
  obtain ⟨⟨c0, c1, c2, c3⟩, f0, f1, f2, f3⟩ := BoxV.c4 Q0.out
  obtain ⟨⟨d0, d1, d2, d3⟩, e0, e1, e2, e3⟩ := BoxV.c4 Q2.out
  have R2 : Hid _ := BoxV.run a s Q2.out
  have R1 : Hid (BoxV ((w1.setCell ⟨w.heap.size + 2, 0, none⟩ (.int .i64 a)).setCell ⟨w.heap.size + 2, 1, none⟩ (.int .i64 s)) (w.heap.size + 1) (L4 0 0 0 0)) := BoxV.far (BoxV.far Q1.out (by omega)) (by omega)
  have S1 : Hid (Below w.heap.size w ((w1.setCell ⟨w.heap.size + 2, 0, none⟩ (.int .i64 a)).setCell ⟨w.heap.size + 2, 1, none⟩ (.int .i64 s))) := Below.st (Below.st T1.out (by simp) _) (by simp) _
  go_wp2_with fail
  refine (toDoor_c g o _).mono ?_
  rintro e w2 ⟨rfl, hb⟩
  have U1 : Hid _ := BoxV.below R1.out hb
  have U2 : Hid _ := BoxV.below R2.out hb
  have T2 : Hid (Below w.heap.size w w2) := below_next S1.out hb
  clear hb c0 c1 c2 c3 f0 f1 f2 f3 d0 d1 d2 d3 e0 e1 e2 e3
  obtain ⟨⟨d0, d1, d2, d3⟩, e0, e1, e2, e3⟩ := BoxV.c4 U2.out
  have V2 : Hid _ := BoxV.gate g o U2.out
  have V1 : Hid (BoxV ((w2.setCell ⟨w.heap.size + 2, 2, none⟩ (.int .i64 g)).setCell ⟨w.heap.size + 2, 3, none⟩ (.int .i64 o)) (w.heap.size + 1) (L4 0 0 0 0)) := BoxV.far (BoxV.far U1.out (by omega)) (by omega)
  have S2 : Hid (Below w.heap.size w ((w2.setCell ⟨w.heap.size + 2, 2, none⟩ (.int .i64 g)).setCell ⟨w.heap.size + 2, 3, none⟩ (.int .i64 o))) := Below.st (Below.st T2.out (by simp) _) (by simp) _
  obtain ⟨⟨g0, g1, g2, g3⟩, h0, h1, h2, h3⟩ := BoxV.c4 U1.out
  go_wp2_with fail
  obtain ⟨⟨c0, c1, c2, c3⟩, _⟩ := BoxV.c4 (BoxV.all4 a s g o V1.out)
  exact bodyPost_ret (v := (Value.agg #[.int .i64 (a), .int .i64 (s), .int .i64 (g), .int .i64 (o)])) (by simp [results, Try.results26, go_sem, c0, c1, c2, c3]) rfl ⟨rfl, Below.st (Below.st (Below.st (Below.st S2.out (by simp) _) (by simp) _) (by simp) _) (by simp) _⟩
theorem eqLift_c (a s g o : Int) (w : World) : Calls Try.prog 28 #[(Value.agg #[.int .i64 (a), .int .i64 (s), .int .i64 (g), .int .i64 (o)]), (Value.agg #[.int .i64 (a), .int .i64 (s), .int .i64 (g), .int .i64 (o)])] w (Mk w (.bool true)) := by
  have P := boxV2 w a s g o a s g o
  have HP : Hid _ := P
  have T0 : Hid (Below w.heap.size w ((w.alloc (.cells #[.int .i64 (a), .int .i64 (s), .int .i64 (g), .int .i64 (o)] 29)).alloc (.cells #[.int .i64 (a), .int .i64 (s), .int .i64 (g), .int .i64 (o)] 29))) := (by repeat (first | exact Below.refl _ _ | refine Below.al ?_ _ | refine Below.dr ?_ _ | refine Below.dw ?_ | refine Below.st ?_ (by first | exact Nat.le_refl _ | exact Nat.le_add_right _ _ | (simp; omega)) _ | (refine below_next ?_ (by assumption))))
  clear P
  go_enter Try.func28, Try.ntmps28
  go_wp2_with fail
  refine (eqMotion_c a s _).mono ?_
  rintro e w1 ⟨rfl, hb⟩
  obtain ⟨⟨c0, c1, c2, c3⟩, f0, f1, f2, f3⟩ := BoxV.c4 (BoxV.below HP.out.1 hb)
  obtain ⟨⟨d0, d1, d2, d3⟩, e0, e1, e2, e3⟩ := BoxV.c4 (BoxV.below HP.out.2 hb)
  have T1 : Hid (Below w.heap.size w w1) := below_next T0.out hb
  clear hb
  go_wp2_with fail
  refine (eqDoor_c g o _).mono ?_
  rintro e w2 ⟨rfl, hb⟩
  have T2 : Hid (Below w.heap.size w w2) := below_next T1.out hb
  clear hb
  go_wp2_with fail
  go_ret
  exact Mk.b rfl T2.out
theorem Sl.bel {W w' : World} {p : Option Addr} {xs : List Int} (hb : Below W.heap.size W w') (h : Sl W p xs) : Sl w' p xs := h.below hb
set_option maxHeartbeats 2000000 in
theorem xLiftValid_w (p : Option Addr) (cp : Nat) (xs : List Int) (a s g o : Int) (w : World) (hx : Sl w p xs) (hm : xs.length ≤ maxLen) :
    Calls Try.prog 7 #[.slice p xs.length cp, (Value.agg #[.int .i64 (a), .int .i64 (s), .int .i64 (g), .int .i64 (o)])] w (LawOk w) := by
  have hm' := hm
  unfold maxLen at hm'
  by_cases b1 : 1048576 < xs.length
  · go_enter Try.func7, Try.ntmps7
    go_wp2_with fail
    go_ret
    exact LawOk.mk (by repeat (first | exact Below.refl _ _ | refine Below.al ?_ _ | refine Below.dr ?_ _ | refine Below.dw ?_ | refine Below.st ?_ (by first | exact Nat.le_refl _ | exact Nat.le_add_right _ _ | (simp; omega)) _ | (refine below_next ?_ (by assumption))))
  obtain ⟨A, hA⟩ : ∃ A, w.heap.size = A := ⟨_, rfl⟩
  have HA : Hid _ := hA
  have Xc : Hid (Sl (World.drew (w.alloc (.cells #[.int .i64 (a), .int .i64 (s), .int .i64 (g), .int .i64 (o)] 45))) p xs) := (Sl.below hx ((Below.refl _ _).alloc (Nat.le_refl _) (.cells #[.int .i64 (a), .int .i64 (s), .int .i64 (g), .int .i64 (o)] 45)) : Sl (w.alloc (.cells #[.int .i64 (a), .int .i64 (s), .int .i64 (g), .int .i64 (o)] 45)) p xs)
  have Ac : Hid (BoxV (World.drew (w.alloc (.cells #[.int .i64 (a), .int .i64 (s), .int .i64 (g), .int .i64 (o)] 45))) A (L4 a s g o)) := BoxV.dw (BoxV.new w _ 45 (by simp) hA)
  have Tc : Hid (Below w.heap.size w (World.drew (w.alloc (.cells #[.int .i64 (a), .int .i64 (s), .int .i64 (g), .int .i64 (o)] 45)))) := (by repeat (first | exact Below.refl _ _ | refine Below.al ?_ _ | refine Below.dr ?_ _ | refine Below.dw ?_ | refine Below.st ?_ (by first | exact Nat.le_refl _ | exact Nat.le_add_right _ _ | (simp; omega)) _ | (refine below_next ?_ (by assumption))))
  clear hx hA
  go_enter Try.func7, Try.ntmps7
  go_upto_region 3 with fail
  rw [HA.out]
  obtain ⟨⟨c0, c1, c2, c3⟩, f0, f1, f2, f3⟩ := BoxV.c4 Ac.out
  go_cut [5] from 11 to 15 (fun vv wx => vv = .bool (lvB xs a s g o) ∧ Sl wx p xs ∧ BoxV wx A (L4 a s g o) ∧ Below w.heap.size w wx)
  case first =>
    go_region_with (first | (go_at_call 25; refine (toIntS_c p cp xs _ Xc.out (by omega)).mono ?_; rintro e wp ⟨gi, hgi, rfl, hI, hb⟩; have Ic : Hid (Ints wp gi 0 xs) := hI; clear hgi hI; have Xn : Hid (Sl wp p xs) := Sl.bel hb Xc.out; have An : Hid (BoxV wp A (L4 a s g o)) := BoxV.bel hb Ac.out; have Tn : Hid (Below w.heap.size w wp) := (by have HZ := Tc.out; exact (by repeat (first | exact Below.refl _ _ | refine Below.al ?_ _ | refine Below.dr ?_ _ | refine Below.dw ?_ | refine Below.st ?_ (by first | exact Nat.le_refl _ | exact Nat.le_add_right _ _ | (simp; omega)) _ | (refine below_next ?_ (by assumption))))); clear Xc Ac Tc c0 c1 c2 c3 f0 f1 f2 f3; have Xc := Xn; have Ac := An; have Tc := Tn; clear Xn An Tn; obtain ⟨⟨c0, c1, c2, c3⟩, f0, f1, f2, f3⟩ := BoxV.c4 Ac.out; clear hb) | (go_at_call 26; refine (toLift_c a s g o _).mono ?_; rintro e wp ⟨rfl, hb⟩; have In : Hid (Ints wp gi 0 xs) := Ints.bel hb Ic.out; clear Ic; have Ic := In; clear In; have Xn : Hid (Sl wp p xs) := Sl.bel hb Xc.out; have An : Hid (BoxV wp A (L4 a s g o)) := BoxV.bel hb Ac.out; have Tn : Hid (Below w.heap.size w wp) := (by have HZ := Tc.out; exact (by repeat (first | exact Below.refl _ _ | refine Below.al ?_ _ | refine Below.dr ?_ _ | refine Below.dw ?_ | refine Below.st ?_ (by first | exact Nat.le_refl _ | exact Nat.le_add_right _ _ | (simp; omega)) _ | (refine below_next ?_ (by assumption))))); clear Xc Ac Tc c0 c1 c2 c3 f0 f1 f2 f3; have Xc := Xn; have Ac := An; have Tc := Tn; clear Xn An Tn; obtain ⟨⟨c0, c1, c2, c3⟩, f0, f1, f2, f3⟩ := BoxV.c4 Ac.out; clear hb) | (go_at_call 13; refine (sLiftValid_c gi 0 _ xs a s g o _ Ic.out hm).mono ?_; rintro e wp ⟨rfl, hb⟩; have Xn : Hid (Sl wp p xs) := Sl.bel hb Xc.out; have An : Hid (BoxV wp A (L4 a s g o)) := BoxV.bel hb Ac.out; have Tn : Hid (Below w.heap.size w wp) := (by have HZ := Tc.out; exact (by repeat (first | exact Below.refl _ _ | refine Below.al ?_ _ | refine Below.dr ?_ _ | refine Below.dw ?_ | refine Below.st ?_ (by first | exact Nat.le_refl _ | exact Nat.le_add_right _ _ | (simp; omega)) _ | (refine below_next ?_ (by assumption))))); clear Xc Ac Tc c0 c1 c2 c3 f0 f1 f2 f3; have Xc := Xn; have Ac := An; have Tc := Tn; clear Xn An Tn; obtain ⟨⟨c0, c1, c2, c3⟩, f0, f1, f2, f3⟩ := BoxV.c4 Ac.out; clear hb))
    all_goals
      go_wp2_with fail
      go_meet
      case rel => exact ⟨rfl, Xc.out, Ac.out, by have HZ := Tc.out; first | exact HZ | exact (by repeat (first | exact Below.refl _ _ | refine Below.al ?_ _ | refine Below.dr ?_ _ | refine Below.dw ?_ | refine Below.st ?_ (by first | exact Nat.le_refl _ | exact Nat.le_add_right _ _ | (simp; omega)) _ | (refine below_next ?_ (by assumption))))⟩
  case rest =>
    clear Xc Ac Tc c0 c1 c2 c3 f0 f1 f2 f3
    obtain ⟨rfl, q2, q3, q4⟩ := hcut
    have X1 : Hid _ := q2
    have A1 : Hid _ := q3
    have T1 : Hid _ := q4
    clear q2 q3 q4
    go_wp2_with fail
    refine (toIntS_c p cp xs _ X1.out (by omega)).mono ?_
    rintro e w2 ⟨g2, hg2, rfl, hI, hb⟩
    have X2 : Hid _ := Sl.below X1.out hb
    have A2 : Hid _ := BoxV.below A1.out hb
    have T2 : Hid (Below w.heap.size w w2) := below_next T1.out hb
    have I2 : Hid _ := hI
    clear hb hI hg2
    obtain ⟨⟨c0, c1, c2, c3⟩, f0, f1, f2, f3⟩ := BoxV.c4 A2.out
    go_wp2_with fail
    refine (toLift_c a s g o _).mono ?_
    rintro e w3 ⟨rfl, hb⟩
    have X3 : Hid _ := Sl.below X2.out hb
    have T3 : Hid (Below w.heap.size w w3) := below_next T2.out hb
    have I3 : Hid _ := Ints.below I2.out hb
    clear hb c0 c1 c2 c3 f0 f1 f2 f3
    go_wp2_with fail
    refine (iLiftValid_c g2 0 _ xs a s g o _ I3.out hm).mono ?_
    rintro e w5 ⟨rfl, hb⟩
    have X5 : Hid _ := Sl.below X3.out hb
    have T5 : Hid (Below w.heap.size w w5) := below_next T3.out hb
    have I5 : Hid _ := Ints.below I3.out hb
    clear hb
    go_wp2_with fail
    refine (toIntS_c p cp xs _ X5.out (by omega)).mono ?_
    rintro e w6 ⟨g6, hg6, rfl, hI, hb⟩
    have T6 : Hid (Below w.heap.size w w6) := below_next T5.out hb
    have I6 : Hid _ := Ints.below I5.out hb
    have J6 : Hid _ := hI
    clear hb hI hg6
    go_wp2_with fail
    refine (eqIntS_c _ _ _ _ _ _ xs _ I6.out J6.out (by omega)).mono ?_
    rintro e w7 ⟨rfl, n7, rfl⟩
    go_wp2_with fail
    go_ret
    exact LawOk.mk (Below.dr T6.out n7)
set_option maxHeartbeats 2000000 in
theorem xLiftGo_w (p : Option Addr) (cp : Nat) (xs : List Int) (a s g o : Int) (t : Int) (w : World) (hx : Sl w p xs) (hm : xs.length ≤ maxLen) (hi : -9223372036854775808 ≤ t ∧ t ≤ 9223372036854775807) :
    Calls Try.prog 9 #[.slice p xs.length cp, (Value.agg #[.int .i64 (a), .int .i64 (s), .int .i64 (g), .int .i64 (o)]), .int .i64 t] w (LawOk w) := by
  have hm' := hm
  unfold maxLen at hm'
  by_cases b1 : 1048576 < xs.length
  · go_enter Try.func9, Try.ntmps9
    go_wp2_with fail
    go_ret
    exact LawOk.mk (by repeat (first | exact Below.refl _ _ | refine Below.al ?_ _ | refine Below.dr ?_ _ | refine Below.dw ?_ | refine Below.st ?_ (by first | exact Nat.le_refl _ | exact Nat.le_add_right _ _ | (simp; omega)) _ | (refine below_next ?_ (by assumption))))
  obtain ⟨A, hA⟩ : ∃ A, w.heap.size = A := ⟨_, rfl⟩
  have HA : Hid _ := hA
  have Xc : Hid (Sl (World.drew (w.alloc (.cells #[.int .i64 (a), .int .i64 (s), .int .i64 (g), .int .i64 (o)] 45))) p xs) := (Sl.below hx ((Below.refl _ _).alloc (Nat.le_refl _) (.cells #[.int .i64 (a), .int .i64 (s), .int .i64 (g), .int .i64 (o)] 45)) : Sl (w.alloc (.cells #[.int .i64 (a), .int .i64 (s), .int .i64 (g), .int .i64 (o)] 45)) p xs)
  have Ac : Hid (BoxV (World.drew (w.alloc (.cells #[.int .i64 (a), .int .i64 (s), .int .i64 (g), .int .i64 (o)] 45))) A (L4 a s g o)) := BoxV.dw (BoxV.new w _ 45 (by simp) hA)
  have Tc : Hid (Below w.heap.size w (World.drew (w.alloc (.cells #[.int .i64 (a), .int .i64 (s), .int .i64 (g), .int .i64 (o)] 45)))) := (by repeat (first | exact Below.refl _ _ | refine Below.al ?_ _ | refine Below.dr ?_ _ | refine Below.dw ?_ | refine Below.st ?_ (by first | exact Nat.le_refl _ | exact Nat.le_add_right _ _ | (simp; omega)) _ | (refine below_next ?_ (by assumption))))
  clear hx hA
  go_enter Try.func9, Try.ntmps9
  go_upto_region 3 with fail
  rw [HA.out]
  obtain ⟨⟨c0, c1, c2, c3⟩, f0, f1, f2, f3⟩ := BoxV.c4 Ac.out
  go_cut [7] from 13 to 18 (fun vv wx => vv = .int .i64 (lgo xs a s g o t) ∧ Sl wx p xs ∧ BoxV wx A (L4 a s g o) ∧ Below w.heap.size w wx)
  case first =>
    go_region_with (first | (go_at_call 25; refine (toIntS_c p cp xs _ Xc.out (by omega)).mono ?_; rintro e wp ⟨gi, hgi, rfl, hI, hb⟩; have Ic : Hid (Ints wp gi 0 xs) := hI; clear hgi hI; have Xn : Hid (Sl wp p xs) := Sl.bel hb Xc.out; have An : Hid (BoxV wp A (L4 a s g o)) := BoxV.bel hb Ac.out; have Tn : Hid (Below w.heap.size w wp) := (by have HZ := Tc.out; exact (by repeat (first | exact Below.refl _ _ | refine Below.al ?_ _ | refine Below.dr ?_ _ | refine Below.dw ?_ | refine Below.st ?_ (by first | exact Nat.le_refl _ | exact Nat.le_add_right _ _ | (simp; omega)) _ | (refine below_next ?_ (by assumption))))); clear Xc Ac Tc c0 c1 c2 c3 f0 f1 f2 f3; have Xc := Xn; have Ac := An; have Tc := Tn; clear Xn An Tn; obtain ⟨⟨c0, c1, c2, c3⟩, f0, f1, f2, f3⟩ := BoxV.c4 Ac.out; clear hb) | (go_at_call 26; refine (toLift_c a s g o _).mono ?_; rintro e wp ⟨rfl, hb⟩; have In : Hid (Ints wp gi 0 xs) := Ints.bel hb Ic.out; clear Ic; have Ic := In; clear In; have Xn : Hid (Sl wp p xs) := Sl.bel hb Xc.out; have An : Hid (BoxV wp A (L4 a s g o)) := BoxV.bel hb Ac.out; have Tn : Hid (Below w.heap.size w wp) := (by have HZ := Tc.out; exact (by repeat (first | exact Below.refl _ _ | refine Below.al ?_ _ | refine Below.dr ?_ _ | refine Below.dw ?_ | refine Below.st ?_ (by first | exact Nat.le_refl _ | exact Nat.le_add_right _ _ | (simp; omega)) _ | (refine below_next ?_ (by assumption))))); clear Xc Ac Tc c0 c1 c2 c3 f0 f1 f2 f3; have Xc := Xn; have Ac := An; have Tc := Tn; clear Xn An Tn; obtain ⟨⟨c0, c1, c2, c3⟩, f0, f1, f2, f3⟩ := BoxV.c4 Ac.out; clear hb) | (go_at_call 21; refine (sLiftGo_c gi 0 _ xs a s g o t _ Ic.out hm).mono ?_; rintro e wp ⟨rfl, hb⟩; have Xn : Hid (Sl wp p xs) := Sl.bel hb Xc.out; have An : Hid (BoxV wp A (L4 a s g o)) := BoxV.bel hb Ac.out; have Tn : Hid (Below w.heap.size w wp) := (by have HZ := Tc.out; exact (by repeat (first | exact Below.refl _ _ | refine Below.al ?_ _ | refine Below.dr ?_ _ | refine Below.dw ?_ | refine Below.st ?_ (by first | exact Nat.le_refl _ | exact Nat.le_add_right _ _ | (simp; omega)) _ | (refine below_next ?_ (by assumption))))); clear Xc Ac Tc c0 c1 c2 c3 f0 f1 f2 f3; have Xc := Xn; have Ac := An; have Tc := Tn; clear Xn An Tn; obtain ⟨⟨c0, c1, c2, c3⟩, f0, f1, f2, f3⟩ := BoxV.c4 Ac.out; clear hb))
    all_goals
      go_wp2_with fail
      go_meet
      case rel => exact ⟨rfl, Xc.out, Ac.out, by have HZ := Tc.out; first | exact HZ | exact (by repeat (first | exact Below.refl _ _ | refine Below.al ?_ _ | refine Below.dr ?_ _ | refine Below.dw ?_ | refine Below.st ?_ (by first | exact Nat.le_refl _ | exact Nat.le_add_right _ _ | (simp; omega)) _ | (refine below_next ?_ (by assumption))))⟩
  case rest =>
    clear Xc Ac Tc c0 c1 c2 c3 f0 f1 f2 f3
    obtain ⟨rfl, q2, q3, q4⟩ := hcut
    have X1 : Hid _ := q2
    have A1 : Hid _ := q3
    have T1 : Hid _ := q4
    clear q2 q3 q4
    go_wp2_with fail
    refine (toIntS_c p cp xs _ X1.out (by omega)).mono ?_
    rintro e w2 ⟨g2, hg2, rfl, hI, hb⟩
    have X2 : Hid _ := Sl.below X1.out hb
    have A2 : Hid _ := BoxV.below A1.out hb
    have T2 : Hid (Below w.heap.size w w2) := below_next T1.out hb
    have I2 : Hid _ := hI
    clear hb hI hg2
    obtain ⟨⟨c0, c1, c2, c3⟩, f0, f1, f2, f3⟩ := BoxV.c4 A2.out
    go_wp2_with fail
    refine (toLift_c a s g o _).mono ?_
    rintro e w3 ⟨rfl, hb⟩
    have X3 : Hid _ := Sl.below X2.out hb
    have T3 : Hid (Below w.heap.size w w3) := below_next T2.out hb
    have I3 : Hid _ := Ints.below I2.out hb
    clear hb c0 c1 c2 c3 f0 f1 f2 f3
    go_wp2_with fail
    refine (iLiftGo_c g2 0 _ xs a s g o t _ I3.out hm hi).mono ?_
    rintro e w5 ⟨rfl, hb⟩
    have X5 : Hid _ := Sl.below X3.out hb
    have T5 : Hid (Below w.heap.size w w5) := below_next T3.out hb
    have I5 : Hid _ := Ints.below I3.out hb
    clear hb
    go_wp2_with fail
    refine (toIntS_c p cp xs _ X5.out (by omega)).mono ?_
    rintro e w6 ⟨g6, hg6, rfl, hI, hb⟩
    have T6 : Hid (Below w.heap.size w w6) := below_next T5.out hb
    have I6 : Hid _ := Ints.below I5.out hb
    have J6 : Hid _ := hI
    clear hb hI hg6
    go_wp2_with fail
    refine (eqIntS_c _ _ _ _ _ _ xs _ I6.out J6.out (by omega)).mono ?_
    rintro e w7 ⟨rfl, n7, rfl⟩
    go_wp2_with fail
    go_ret
    exact LawOk.mk (Below.dr T6.out n7)
set_option maxHeartbeats 2000000 in
theorem xLiftVisit_w (p : Option Addr) (cp : Nat) (xs : List Int) (a s g o : Int) (t : Int) (w : World) (hx : Sl w p xs) (hm : xs.length ≤ maxLen) (hi : -9223372036854775808 ≤ t ∧ t ≤ 9223372036854775807) :
    Calls Try.prog 10 #[.slice p xs.length cp, (Value.agg #[.int .i64 (a), .int .i64 (s), .int .i64 (g), .int .i64 (o)]), .int .i64 t] w (LawOk w) := by
  have hm' := hm
  unfold maxLen at hm'
  by_cases b1 : 1048576 < xs.length
  · go_enter Try.func10, Try.ntmps10
    go_wp2_with fail
    go_ret
    exact LawOk.mk (by repeat (first | exact Below.refl _ _ | refine Below.al ?_ _ | refine Below.dr ?_ _ | refine Below.dw ?_ | refine Below.st ?_ (by first | exact Nat.le_refl _ | exact Nat.le_add_right _ _ | (simp; omega)) _ | (refine below_next ?_ (by assumption))))
  obtain ⟨A, hA⟩ : ∃ A, w.heap.size = A := ⟨_, rfl⟩
  have HA : Hid _ := hA
  have Xc : Hid (Sl (World.drew (w.alloc (.cells #[.int .i64 (a), .int .i64 (s), .int .i64 (g), .int .i64 (o)] 45))) p xs) := (Sl.below hx ((Below.refl _ _).alloc (Nat.le_refl _) (.cells #[.int .i64 (a), .int .i64 (s), .int .i64 (g), .int .i64 (o)] 45)) : Sl (w.alloc (.cells #[.int .i64 (a), .int .i64 (s), .int .i64 (g), .int .i64 (o)] 45)) p xs)
  have Ac : Hid (BoxV (World.drew (w.alloc (.cells #[.int .i64 (a), .int .i64 (s), .int .i64 (g), .int .i64 (o)] 45))) A (L4 a s g o)) := BoxV.dw (BoxV.new w _ 45 (by simp) hA)
  have Tc : Hid (Below w.heap.size w (World.drew (w.alloc (.cells #[.int .i64 (a), .int .i64 (s), .int .i64 (g), .int .i64 (o)] 45)))) := (by repeat (first | exact Below.refl _ _ | refine Below.al ?_ _ | refine Below.dr ?_ _ | refine Below.dw ?_ | refine Below.st ?_ (by first | exact Nat.le_refl _ | exact Nat.le_add_right _ _ | (simp; omega)) _ | (refine below_next ?_ (by assumption))))
  clear hx hA
  go_enter Try.func10, Try.ntmps10
  go_upto_region 3 with fail
  rw [HA.out]
  obtain ⟨⟨c0, c1, c2, c3⟩, f0, f1, f2, f3⟩ := BoxV.c4 Ac.out
  go_cut [7] from 13 to 18 (fun vv wx => vv = .int .i64 (lvis xs a s g o t) ∧ Sl wx p xs ∧ BoxV wx A (L4 a s g o) ∧ Below w.heap.size w wx)
  case first =>
    go_region_with (first | (go_at_call 25; refine (toIntS_c p cp xs _ Xc.out (by omega)).mono ?_; rintro e wp ⟨gi, hgi, rfl, hI, hb⟩; have Ic : Hid (Ints wp gi 0 xs) := hI; clear hgi hI; have Xn : Hid (Sl wp p xs) := Sl.bel hb Xc.out; have An : Hid (BoxV wp A (L4 a s g o)) := BoxV.bel hb Ac.out; have Tn : Hid (Below w.heap.size w wp) := (by have HZ := Tc.out; exact (by repeat (first | exact Below.refl _ _ | refine Below.al ?_ _ | refine Below.dr ?_ _ | refine Below.dw ?_ | refine Below.st ?_ (by first | exact Nat.le_refl _ | exact Nat.le_add_right _ _ | (simp; omega)) _ | (refine below_next ?_ (by assumption))))); clear Xc Ac Tc c0 c1 c2 c3 f0 f1 f2 f3; have Xc := Xn; have Ac := An; have Tc := Tn; clear Xn An Tn; obtain ⟨⟨c0, c1, c2, c3⟩, f0, f1, f2, f3⟩ := BoxV.c4 Ac.out; clear hb) | (go_at_call 26; refine (toLift_c a s g o _).mono ?_; rintro e wp ⟨rfl, hb⟩; have In : Hid (Ints wp gi 0 xs) := Ints.bel hb Ic.out; clear Ic; have Ic := In; clear In; have Xn : Hid (Sl wp p xs) := Sl.bel hb Xc.out; have An : Hid (BoxV wp A (L4 a s g o)) := BoxV.bel hb Ac.out; have Tn : Hid (Below w.heap.size w wp) := (by have HZ := Tc.out; exact (by repeat (first | exact Below.refl _ _ | refine Below.al ?_ _ | refine Below.dr ?_ _ | refine Below.dw ?_ | refine Below.st ?_ (by first | exact Nat.le_refl _ | exact Nat.le_add_right _ _ | (simp; omega)) _ | (refine below_next ?_ (by assumption))))); clear Xc Ac Tc c0 c1 c2 c3 f0 f1 f2 f3; have Xc := Xn; have Ac := An; have Tc := Tn; clear Xn An Tn; obtain ⟨⟨c0, c1, c2, c3⟩, f0, f1, f2, f3⟩ := BoxV.c4 Ac.out; clear hb) | (go_at_call 24; refine (sLiftVisit_c gi 0 _ xs a s g o t _ Ic.out hm).mono ?_; rintro e wp ⟨rfl, hb⟩; have Xn : Hid (Sl wp p xs) := Sl.bel hb Xc.out; have An : Hid (BoxV wp A (L4 a s g o)) := BoxV.bel hb Ac.out; have Tn : Hid (Below w.heap.size w wp) := (by have HZ := Tc.out; exact (by repeat (first | exact Below.refl _ _ | refine Below.al ?_ _ | refine Below.dr ?_ _ | refine Below.dw ?_ | refine Below.st ?_ (by first | exact Nat.le_refl _ | exact Nat.le_add_right _ _ | (simp; omega)) _ | (refine below_next ?_ (by assumption))))); clear Xc Ac Tc c0 c1 c2 c3 f0 f1 f2 f3; have Xc := Xn; have Ac := An; have Tc := Tn; clear Xn An Tn; obtain ⟨⟨c0, c1, c2, c3⟩, f0, f1, f2, f3⟩ := BoxV.c4 Ac.out; clear hb))
    all_goals
      go_wp2_with fail
      go_meet
      case rel => exact ⟨rfl, Xc.out, Ac.out, by have HZ := Tc.out; first | exact HZ | exact (by repeat (first | exact Below.refl _ _ | refine Below.al ?_ _ | refine Below.dr ?_ _ | refine Below.dw ?_ | refine Below.st ?_ (by first | exact Nat.le_refl _ | exact Nat.le_add_right _ _ | (simp; omega)) _ | (refine below_next ?_ (by assumption))))⟩
  case rest =>
    clear Xc Ac Tc c0 c1 c2 c3 f0 f1 f2 f3
    obtain ⟨rfl, q2, q3, q4⟩ := hcut
    have X1 : Hid _ := q2
    have A1 : Hid _ := q3
    have T1 : Hid _ := q4
    clear q2 q3 q4
    go_wp2_with fail
    refine (toIntS_c p cp xs _ X1.out (by omega)).mono ?_
    rintro e w2 ⟨g2, hg2, rfl, hI, hb⟩
    have X2 : Hid _ := Sl.below X1.out hb
    have A2 : Hid _ := BoxV.below A1.out hb
    have T2 : Hid (Below w.heap.size w w2) := below_next T1.out hb
    have I2 : Hid _ := hI
    clear hb hI hg2
    obtain ⟨⟨c0, c1, c2, c3⟩, f0, f1, f2, f3⟩ := BoxV.c4 A2.out
    go_wp2_with fail
    refine (toLift_c a s g o _).mono ?_
    rintro e w3 ⟨rfl, hb⟩
    have X3 : Hid _ := Sl.below X2.out hb
    have T3 : Hid (Below w.heap.size w w3) := below_next T2.out hb
    have I3 : Hid _ := Ints.below I2.out hb
    clear hb c0 c1 c2 c3 f0 f1 f2 f3
    go_wp2_with fail
    refine (iLiftVisit_c g2 0 _ xs a s g o t _ I3.out hm hi).mono ?_
    rintro e w5 ⟨rfl, hb⟩
    have X5 : Hid _ := Sl.below X3.out hb
    have T5 : Hid (Below w.heap.size w w5) := below_next T3.out hb
    have I5 : Hid _ := Ints.below I3.out hb
    clear hb
    go_wp2_with fail
    refine (toIntS_c p cp xs _ X5.out (by omega)).mono ?_
    rintro e w6 ⟨g6, hg6, rfl, hI, hb⟩
    have T6 : Hid (Below w.heap.size w w6) := below_next T5.out hb
    have I6 : Hid _ := Ints.below I5.out hb
    have J6 : Hid _ := hI
    clear hb hI hg6
    go_wp2_with fail
    refine (eqIntS_c _ _ _ _ _ _ xs _ I6.out J6.out (by omega)).mono ?_
    rintro e w7 ⟨rfl, n7, rfl⟩
    go_wp2_with fail
    go_ret
    exact LawOk.mk (Below.dr T6.out n7)
end Go.Proofs.Ytcecmikmmggngaa

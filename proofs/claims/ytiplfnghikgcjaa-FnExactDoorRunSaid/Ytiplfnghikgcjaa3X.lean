/- The exact laws of chapter 3: the walks. -/
import Derived.Test.Ytiplfnghikgcjaa3C
import Derived.Test.YtiplfnghikgcjaaH
namespace Go.Proofs.Ytiplfnghikgcjaa
open Go.RowKit
set_option linter.unusedVariables false

theorem toDoor_c (a s : Int) (w : World) : Calls Try.prog 24 #[(Value.agg #[.int .i64 (a), .int .i64 (s)])] w (Mk w (Value.agg #[.int .i64 (a), .int .i64 (s)])) := by
  go_enter Try.func24, Try.ntmps24
  go_wp2_with fail
  exact bodyPost_ret (v := (Value.agg #[.int .i64 (a), .int .i64 (s)])) (by simp [results, Try.results24, go_sem]) rfl (Mk.g rfl rfl (by repeat (first | exact Below.refl _ _ | refine Below.al ?_ _ | refine Below.dr ?_ _ | refine Below.dw ?_ | refine Below.st ?_ (by first | exact Nat.le_refl _ | exact Nat.le_add_right _ _ | (simp; omega)) _ | (refine below_next ?_ (by assumption)))))
theorem eqDoor_c (a s : Int) (w : World) : Calls Try.prog 25 #[(Value.agg #[.int .i64 (a), .int .i64 (s)]), (Value.agg #[.int .i64 (a), .int .i64 (s)])] w (Mk w (.bool true)) := by
  have t1 : (a != a) = false := by simp
  have t2 : (s != s) = false := by simp
  go_enter Try.func25, Try.ntmps25
  go_wp2_with fail
  go_ret
  exact Mk.b rfl (by repeat (first | exact Below.refl _ _ | refine Below.al ?_ _ | refine Below.dr ?_ _ | refine Below.dw ?_ | refine Below.st ?_ (by first | exact Nat.le_refl _ | exact Nat.le_add_right _ _ | (simp; omega)) _ | (refine below_next ?_ (by assumption))))

set_option maxHeartbeats 400000 in
theorem xDoorValid_w (a s : Int) (w : World) : Calls Try.prog 7 #[(Value.agg #[.int .i64 (a), .int .i64 (s)])] w (LawOk w) := by
  have Q : Hid _ := Box.new w a s 37
  go_enter Try.func7, Try.ntmps7
  go_wp2_with fail
  refine (toDoor_c a s _).mono ?_
  rintro e w1 ⟨rfl, hb⟩
  have B1 : Hid _ := Box.below Q.out hb
  have T1 : Hid (Below w.heap.size w w1) := (by repeat (first | exact Below.refl _ _ | refine Below.al ?_ _ | refine Below.dr ?_ _ | refine Below.dw ?_ | refine Below.st ?_ (by first | exact Nat.le_refl _ | exact Nat.le_add_right _ _ | (simp; omega)) _ | (refine below_next ?_ (by assumption))))
  clear hb
  go_wp2_with fail
  refine (sDoorValid_c a s _).mono ?_
  rintro e w2 ⟨rfl, hb⟩
  have B2 : Hid _ := Box.below B1.out hb
  have T2 : Hid (Below w.heap.size w w2) := below_next T1.out hb
  clear hb
  obtain ⟨⟨c0, c1⟩, f0, f1⟩ := B2.out
  go_wp2_with fail
  refine (toDoor_c a s _).mono ?_
  rintro e w3 ⟨rfl, hb⟩
  have T3 : Hid (Below w.heap.size w w3) := below_next T2.out hb
  clear hb c0 c1 f0 f1
  go_wp2_with fail
  refine (iDoorValid_c a s _).mono ?_
  rintro e w4 ⟨rfl, hb⟩
  have T4 : Hid (Below w.heap.size w w4) := below_next T3.out hb
  clear hb
  go_wp2_with fail
  go_ret
  exact LawOk.mk T4.out

set_option maxHeartbeats 400000 in
theorem xDoorTicks_w (a s : Int) (w : World) : Calls Try.prog 10 #[(Value.agg #[.int .i64 (a), .int .i64 (s)])] w (LawOk w) := by
  have Q : Hid _ := Box.new w a s 37
  go_enter Try.func10, Try.ntmps10
  go_wp2_with fail
  refine (toDoor_c a s _).mono ?_
  rintro e w1 ⟨rfl, hb⟩
  have B1 : Hid _ := Box.below Q.out hb
  have T1 : Hid (Below w.heap.size w w1) := (by repeat (first | exact Below.refl _ _ | refine Below.al ?_ _ | refine Below.dr ?_ _ | refine Below.dw ?_ | refine Below.st ?_ (by first | exact Nat.le_refl _ | exact Nat.le_add_right _ _ | (simp; omega)) _ | (refine below_next ?_ (by assumption))))
  clear hb
  go_wp2_with fail
  refine (sDoorTicks_c a s _).mono ?_
  rintro e w2 ⟨rfl, hb⟩
  have B2 : Hid _ := Box.below B1.out hb
  have T2 : Hid (Below w.heap.size w w2) := below_next T1.out hb
  clear hb
  obtain ⟨⟨c0, c1⟩, f0, f1⟩ := B2.out
  go_wp2_with fail
  refine (toDoor_c a s _).mono ?_
  rintro e w3 ⟨rfl, hb⟩
  have T3 : Hid (Below w.heap.size w w3) := below_next T2.out hb
  clear hb c0 c1 f0 f1
  go_wp2_with fail
  refine (iDoorTicks_c a s _).mono ?_
  rintro e w4 ⟨rfl, hb⟩
  have T4 : Hid (Below w.heap.size w w4) := below_next T3.out hb
  clear hb
  go_wp2_with fail
  go_ret
  exact LawOk.mk T4.out

set_option maxHeartbeats 400000 in
theorem xDoorStep_w (a s : Int) (u v : Bool) (w : World) : Calls Try.prog 8 #[(Value.agg #[.int .i64 (a), .int .i64 (s)]), .bool u, .bool v] w (LawOk w) := by
  have Q : Hid _ := Box.new w a s 37
  go_enter Try.func8, Try.ntmps8
  go_wp2_with fail
  refine (toDoor_c a s _).mono ?_
  rintro e w1 ⟨rfl, hb⟩
  have B1 : Hid _ := Box.below Q.out hb
  have T1 : Hid (Below w.heap.size w w1) := (by repeat (first | exact Below.refl _ _ | refine Below.al ?_ _ | refine Below.dr ?_ _ | refine Below.dw ?_ | refine Below.st ?_ (by first | exact Nat.le_refl _ | exact Nat.le_add_right _ _ | (simp; omega)) _ | (refine below_next ?_ (by assumption))))
  clear hb
  go_wp2_with fail
  refine (sDoorStep_c a s u v _).mono ?_
  rintro e w2 ⟨rfl, hb⟩
  have B2 : Hid _ := Box.below B1.out hb
  have T2 : Hid (Below w.heap.size w w2) := below_next T1.out hb
  clear hb
  have N2 : Hid _ := Box.new w2 (dst a s u v).1 (dst a s u v).2 24
  have B3 : Hid _ := Box.al B2.out (.cells #[.int .i64 (dst a s u v).1, .int .i64 (dst a s u v).2] 24)
  have T3 : Hid (Below w.heap.size w (w2.alloc (.cells #[.int .i64 (dst a s u v).1, .int .i64 (dst a s u v).2] 24))) := Below.al T2.out _
  obtain ⟨⟨c0, c1⟩, f0, f1⟩ := B3.out
  go_wp2_with fail
  refine (toDoor_c a s _).mono ?_
  rintro e w3 ⟨rfl, hb⟩
  have N3 : Hid _ := Box.below N2.out hb
  have T4 : Hid (Below w.heap.size w w3) := below_next T3.out hb
  clear hb c0 c1 f0 f1
  go_wp2_with fail
  refine (iDoorStep_c a s u v _).mono ?_
  rintro e w4 ⟨rfl, hb⟩
  have N4 : Hid _ := Box.below N3.out hb
  have T5 : Hid (Below w.heap.size w w4) := below_next T4.out hb
  clear hb
  obtain ⟨⟨c0, c1⟩, f0, f1⟩ := Box.al N4.out (.cells #[.int .i64 (dst a s u v).1, .int .i64 (dst a s u v).2] 24)
  go_wp2_with fail
  refine (eqDoor_c _ _ _).mono ?_
  rintro e w5 ⟨rfl, hb⟩
  have T6 : Hid (Below w.heap.size w w5) := below_next (Below.al T5.out _) hb
  clear hb
  go_wp2_with fail
  go_ret
  exact LawOk.mk T6.out


theorem Copied.sl {w' : World} {xs : List Int} {g : Nat} (h : Ints w' g 0 xs) : Sl w' (some ⟨g, 0, none⟩) xs := .inr ⟨g, 0, rfl, h⟩
set_option maxHeartbeats 1000000 in
theorem xDoorRun_w (a s t : Int) (p : Option Addr) (cp : Nat) (xs : List Int) (q : Option Addr) (cq : Nat) (ys : List Int) (w : World) (hi : -9223372036854775808 ≤ t ∧ t ≤ 9223372036854775807) (hx : Sl w p xs) (hmx : xs.length ≤ maxLen) (hy : Sl w q ys) (hmy : ys.length ≤ maxLen) :
    Calls Try.prog 9 #[(Value.agg #[.int .i64 (a), .int .i64 (s)]), .int .i64 t, .slice p xs.length cp, .slice q ys.length cq] w (LawOk w) := by
  have HX : Hid _ := hx
  have HY : Hid _ := hy
  have hmx' := hmx
  have hmy' := hmy
  unfold maxLen at hmx' hmy'
  clear hx hy
  by_cases b1 : 1048576 < xs.length
  · go_enter Try.func9, Try.ntmps9
    go_wp2_with fail
    go_ret
    exact LawOk.mk (by repeat (first | exact Below.refl _ _ | refine Below.al ?_ _ | refine Below.dr ?_ _ | refine Below.dw ?_ | refine Below.st ?_ (by first | exact Nat.le_refl _ | exact Nat.le_add_right _ _ | (simp; omega)) _ | (refine below_next ?_ (by assumption))))
  by_cases b2 : 1048576 < ys.length
  · go_enter Try.func9, Try.ntmps9
    go_wp2_with fail
    go_ret
    exact LawOk.mk (by repeat (first | exact Below.refl _ _ | refine Below.al ?_ _ | refine Below.dr ?_ _ | refine Below.dw ?_ | refine Below.st ?_ (by first | exact Nat.le_refl _ | exact Nat.le_add_right _ _ | (simp; omega)) _ | (refine below_next ?_ (by assumption))))
  have Q : Hid _ := Box.new w a s 37
  go_enter Try.func9, Try.ntmps9
  go_wp2_with fail
  refine (toDoor_c a s _).mono ?_
  rintro e w1 ⟨rfl, hb⟩
  have B1 : Hid _ := Box.below Q.out hb
  have T1 : Hid (Below w.heap.size w w1) := (by repeat (first | exact Below.refl _ _ | refine Below.al ?_ _ | refine Below.dr ?_ _ | refine Below.dw ?_ | refine Below.st ?_ (by first | exact Nat.le_refl _ | exact Nat.le_add_right _ _ | (simp; omega)) _ | (refine below_next ?_ (by assumption))))
  clear hb
  go_wp2_with fail
  refine (toIntS_c p cp xs _ (Sl.below HX.out T1.out) (by omega)).mono ?_
  rintro e w2 ⟨g2, hg2, rfl, hI, hb⟩
  have B2 : Hid _ := Box.below B1.out hb
  have T2 : Hid (Below w.heap.size w w2) := below_next T1.out hb
  have I2 : Hid _ := hI
  clear hb hI hg2
  go_wp2_with fail
  refine (toIntS_c q cq ys _ (Sl.below HY.out T2.out) (by omega)).mono ?_
  rintro e w3 ⟨g3, hg3, rfl, hI, hb⟩
  have B3 : Hid _ := Box.below B2.out hb
  have T3 : Hid (Below w.heap.size w w3) := below_next T2.out hb
  have I3 : Hid _ := Ints.below I2.out hb
  have J3 : Hid _ := hI
  clear hb hI hg3
  go_wp2_with fail
  refine (sDoorRun_c a s t _ _ xs _ _ ys _ (Copied.sl I3.out) hmx (Copied.sl J3.out) hmy hi).mono ?_
  rintro e w4 ⟨rfl, hb⟩
  have T4 : Hid (Below w.heap.size w w4) := below_next T3.out hb
  have N4 : Hid _ := Box.new w4 (drun a s t xs ys).1 (drun a s t xs ys).2 24
  have B4 : Hid _ := Box.al (Box.below B3.out hb) (.cells #[.int .i64 (drun a s t xs ys).1, .int .i64 (drun a s t xs ys).2] 24)
  have T4' : Hid (Below w.heap.size w (w4.alloc (.cells #[.int .i64 (drun a s t xs ys).1, .int .i64 (drun a s t xs ys).2] 24))) := Below.al T4.out _
  clear hb I2 I3 J3 B1 B2 B3
  go_wp2_with fail
  refine (toIntS_c p cp xs _ (Sl.below HX.out T4'.out) (by omega)).mono ?_
  rintro e w5 ⟨g5, hg5, rfl, hI, hb⟩
  have B5 : Hid _ := Box.below B4.out hb
  have N5 : Hid _ := Box.below N4.out hb
  have T5 : Hid (Below w.heap.size w w5) := below_next T4'.out hb
  have I5 : Hid _ := hI
  clear hb hI hg5
  go_wp2_with fail
  refine (toIntS_c q cq ys _ (Sl.below HY.out T5.out) (by omega)).mono ?_
  rintro e w6 ⟨g6, hg6, rfl, hI, hb⟩
  have B6 : Hid _ := Box.below B5.out hb
  have N6 : Hid _ := Box.below N5.out hb
  have T6 : Hid (Below w.heap.size w w6) := below_next T5.out hb
  have I6 : Hid _ := Ints.below I5.out hb
  have J6 : Hid _ := hI
  clear hb hI hg6
  obtain ⟨⟨c0, c1⟩, f0, f1⟩ := B6.out
  go_wp2_with fail
  refine (toDoor_c a s _).mono ?_
  rintro e w7 ⟨rfl, hb⟩
  have N7 : Hid _ := Box.below N6.out hb
  have T7 : Hid (Below w.heap.size w w7) := below_next T6.out hb
  have I7 : Hid _ := Ints.below I6.out hb
  have J7 : Hid _ := Ints.below J6.out hb
  clear hb c0 c1 f0 f1
  go_wp2_with fail
  refine (iDoorRun_c a s t _ _ xs _ _ ys _ (Copied.sl I7.out) hmx (Copied.sl J7.out) hmy hi).mono ?_
  rintro e w8 ⟨rfl, hb⟩
  have N8 : Hid _ := Box.al (Box.below N7.out hb) (.cells #[.int .i64 (drun a s t xs ys).1, .int .i64 (drun a s t xs ys).2] 24)
  have T8 : Hid (Below w.heap.size w (w8.alloc (.cells #[.int .i64 (drun a s t xs ys).1, .int .i64 (drun a s t xs ys).2] 24))) := Below.al (below_next T7.out hb) _
  have I8 : Hid _ := Ints.below (Ints.below I7.out hb) ((Below.refl _ _).alloc (Nat.le_refl _) (.cells #[.int .i64 (drun a s t xs ys).1, .int .i64 (drun a s t xs ys).2] 24))
  have J8 : Hid _ := Ints.below (Ints.below J7.out hb) ((Below.refl _ _).alloc (Nat.le_refl _) (.cells #[.int .i64 (drun a s t xs ys).1, .int .i64 (drun a s t xs ys).2] 24))
  clear hb
  obtain ⟨⟨c0, c1⟩, f0, f1⟩ := N8.out
  go_wp2_with fail
  refine (eqDoor_c _ _ _).mono ?_
  rintro e w9 ⟨rfl, hb⟩
  have T9 : Hid (Below w.heap.size w w9) := below_next T8.out hb
  have I9 : Hid _ := Ints.below I8.out hb
  have J9 : Hid _ := Ints.below J8.out hb
  clear hb c0 c1 f0 f1
  go_wp2_with fail
  refine (toIntS_c p cp xs _ (Sl.below HX.out T9.out) (by omega)).mono ?_
  rintro e wA ⟨gA, hgA, rfl, hI, hb⟩
  have TA : Hid (Below w.heap.size w wA) := below_next T9.out hb
  have IA : Hid _ := Ints.below I9.out hb
  have JA : Hid _ := Ints.below J9.out hb
  have KA : Hid _ := hI
  clear hb hI hgA
  go_wp2_with fail
  refine (eqIntS_c _ _ _ _ _ _ xs _ IA.out KA.out (by omega)).mono ?_
  rintro e wB ⟨rfl, nB, rfl⟩
  go_wp2_with fail
  refine (toIntS_c q cq ys _ (Sl.below HY.out (Below.dr TA.out nB)) (by omega)).mono ?_
  rintro e wC ⟨gC, hgC, rfl, hI, hb⟩
  have TC : Hid (Below w.heap.size w wC) := below_next (Below.dr TA.out nB) hb
  have JC : Hid _ := Ints.below (Ints.drewN JA.out nB) hb
  have KC : Hid _ := hI
  clear hb hI hgC
  go_wp2_with fail
  refine (eqIntS_c _ _ _ _ _ _ ys _ JC.out KC.out (by omega)).mono ?_
  rintro e wD ⟨rfl, nD, rfl⟩
  go_wp2_with fail
  go_ret
  exact LawOk.mk (Below.dr TC.out nD)
end Go.Proofs.Ytiplfnghikgcjaa

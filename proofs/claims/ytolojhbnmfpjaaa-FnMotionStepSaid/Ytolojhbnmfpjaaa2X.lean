/- The exact laws of chapter 2: the walks. -/
import Derived.Test.Ytolojhbnmfpjaaa2G
import Derived.Test.YtolojhbnmfpjaaaH
namespace Go.Proofs.Ytolojhbnmfpjaaa
open Go.RowKit
set_option linter.unusedVariables false

theorem toMotion_c (a s : Int) (w : World) : Calls Try.prog 29 #[(Value.agg #[.int .i64 (a), .int .i64 (s)])] w (Mk w (Value.agg #[.int .i64 (a), .int .i64 (s)])) := by
  go_enter Try.func29, Try.ntmps29
  go_wp2_with fail
  exact bodyPost_ret (v := (Value.agg #[.int .i64 (a), .int .i64 (s)])) (by simp [results, Try.results29, go_sem]) rfl (Mk.g rfl rfl (by repeat (first | exact Below.refl _ _ | refine Below.al ?_ _ | refine Below.dr ?_ _ | refine Below.dw ?_ | refine Below.st ?_ (by first | exact Nat.le_refl _ | exact Nat.le_add_right _ _ | (simp; omega)) _ | (refine below_next ?_ (by assumption)))))
theorem eqMotion_c (a s : Int) (w : World) : Calls Try.prog 30 #[(Value.agg #[.int .i64 (a), .int .i64 (s)]), (Value.agg #[.int .i64 (a), .int .i64 (s)])] w (Mk w (.bool true)) := by
  have t1 : (a != a) = false := by simp
  have t2 : (s != s) = false := by simp
  go_enter Try.func30, Try.ntmps30
  go_wp2_with fail
  go_ret
  exact Mk.b rfl (by repeat (first | exact Below.refl _ _ | refine Below.al ?_ _ | refine Below.dr ?_ _ | refine Below.dw ?_ | refine Below.st ?_ (by first | exact Nat.le_refl _ | exact Nat.le_add_right _ _ | (simp; omega)) _ | (refine below_next ?_ (by assumption))))

set_option maxHeartbeats 400000 in
theorem xMotionValid_w (a s : Int) (w : World) : Calls Try.prog 8 #[(Value.agg #[.int .i64 (a), .int .i64 (s)])] w (LawOk w) := by
  have Q : Hid _ := Box.new w a s 36
  go_enter Try.func8, Try.ntmps8
  go_wp2_with fail
  refine (toMotion_c a s _).mono ?_
  rintro e w1 ⟨rfl, hb⟩
  have B1 : Hid _ := Box.below Q.out hb
  have T1 : Hid (Below w.heap.size w w1) := (by repeat (first | exact Below.refl _ _ | refine Below.al ?_ _ | refine Below.dr ?_ _ | refine Below.dw ?_ | refine Below.st ?_ (by first | exact Nat.le_refl _ | exact Nat.le_add_right _ _ | (simp; omega)) _ | (refine below_next ?_ (by assumption))))
  clear hb
  go_wp2_with fail
  refine (sMotionValid_c a s _).mono ?_
  rintro e w2 ⟨rfl, hb⟩
  have B2 : Hid _ := Box.below B1.out hb
  have T2 : Hid (Below w.heap.size w w2) := below_next T1.out hb
  clear hb
  obtain ⟨⟨c0, c1⟩, f0, f1⟩ := B2.out
  go_wp2_with fail
  refine (toMotion_c a s _).mono ?_
  rintro e w3 ⟨rfl, hb⟩
  have T3 : Hid (Below w.heap.size w w3) := below_next T2.out hb
  clear hb c0 c1 f0 f1
  go_wp2_with fail
  refine (iMotionValid_c a s _).mono ?_
  rintro e w4 ⟨rfl, hb⟩
  have T4 : Hid (Below w.heap.size w w4) := below_next T3.out hb
  clear hb
  go_wp2_with fail
  go_ret
  exact LawOk.mk T4.out

theorem xBrakeWay_w (a : Int) (w : World) (hi : -9223372036854775808 ≤ a ∧ a ≤ 9223372036854775807) : Calls Try.prog 9 #[.int .i64 a] w (LawOk w) := by
  go_enter Try.func9, Try.ntmps9
  go_wp2_with fail
  refine (sBrakeWay_c a _).mono ?_
  rintro e w1 ⟨rfl, n1, rfl⟩
  go_wp2_with fail
  refine (iBrakeWay_c a _).mono ?_
  rintro e w2 ⟨rfl, n2, rfl⟩
  go_wp2_with fail
  go_ret
  exact LawOk.mk (by repeat (first | exact Below.refl _ _ | refine Below.al ?_ _ | refine Below.dr ?_ _ | refine Below.dw ?_ | refine Below.st ?_ (by first | exact Nat.le_refl _ | exact Nat.le_add_right _ _ | (simp; omega)) _ | (refine below_next ?_ (by assumption))))

set_option maxHeartbeats 400000 in
theorem xCanStop_w (a s t : Int) (w : World) (hi : -9223372036854775808 ≤ t ∧ t ≤ 9223372036854775807) : Calls Try.prog 10 #[(Value.agg #[.int .i64 (a), .int .i64 (s)]), .int .i64 t] w (LawOk w) := by
  have Q : Hid _ := Box.new w a s 36
  go_enter Try.func10, Try.ntmps10
  go_wp2_with fail
  refine (toMotion_c a s _).mono ?_
  rintro e w1 ⟨rfl, hb⟩
  have B1 : Hid _ := Box.below Q.out hb
  have T1 : Hid (Below w.heap.size w w1) := (by repeat (first | exact Below.refl _ _ | refine Below.al ?_ _ | refine Below.dr ?_ _ | refine Below.dw ?_ | refine Below.st ?_ (by first | exact Nat.le_refl _ | exact Nat.le_add_right _ _ | (simp; omega)) _ | (refine below_next ?_ (by assumption))))
  clear hb
  go_wp2_with fail
  refine (sCanStop_c a s t _).mono ?_
  rintro e w2 ⟨rfl, hb⟩
  have B2 : Hid _ := Box.below B1.out hb
  have T2 : Hid (Below w.heap.size w w2) := below_next T1.out hb
  clear hb
  obtain ⟨⟨c0, c1⟩, f0, f1⟩ := B2.out
  go_wp2_with fail
  refine (toMotion_c a s _).mono ?_
  rintro e w3 ⟨rfl, hb⟩
  have T3 : Hid (Below w.heap.size w w3) := below_next T2.out hb
  clear hb c0 c1 f0 f1
  go_wp2_with fail
  refine (iCanStop_c a s t _).mono ?_
  rintro e w4 ⟨rfl, hb⟩
  have T4 : Hid (Below w.heap.size w w4) := below_next T3.out hb
  clear hb
  go_wp2_with fail
  go_ret
  exact LawOk.mk T4.out

set_option maxHeartbeats 400000 in
theorem xMotionStep_w (a s t : Int) (w : World) (hi : -9223372036854775808 ≤ t ∧ t ≤ 9223372036854775807) : Calls Try.prog 11 #[(Value.agg #[.int .i64 (a), .int .i64 (s)]), .int .i64 t] w (LawOk w) := by
  have Q : Hid _ := Box.new w a s 36
  go_enter Try.func11, Try.ntmps11
  go_wp2_with fail
  refine (toMotion_c a s _).mono ?_
  rintro e w1 ⟨rfl, hb⟩
  have B1 : Hid _ := Box.below Q.out hb
  have T1 : Hid (Below w.heap.size w w1) := (by repeat (first | exact Below.refl _ _ | refine Below.al ?_ _ | refine Below.dr ?_ _ | refine Below.dw ?_ | refine Below.st ?_ (by first | exact Nat.le_refl _ | exact Nat.le_add_right _ _ | (simp; omega)) _ | (refine below_next ?_ (by assumption))))
  clear hb
  go_wp2_with fail
  refine (sMotionStep_c a s t _).mono ?_
  rintro e w2 ⟨rfl, hb⟩
  have B2 : Hid _ := Box.below B1.out hb
  have T2 : Hid (Below w.heap.size w w2) := below_next T1.out hb
  clear hb
  have N2 : Hid _ := Box.new w2 (mst a s t).1 (mst a s t).2 24
  have B3 : Hid _ := Box.al B2.out (.cells #[.int .i64 (mst a s t).1, .int .i64 (mst a s t).2] 24)
  have T3 : Hid (Below w.heap.size w (w2.alloc (.cells #[.int .i64 (mst a s t).1, .int .i64 (mst a s t).2] 24))) := Below.al T2.out _
  obtain ⟨⟨c0, c1⟩, f0, f1⟩ := B3.out
  go_wp2_with fail
  refine (toMotion_c a s _).mono ?_
  rintro e w3 ⟨rfl, hb⟩
  have N3 : Hid _ := Box.below N2.out hb
  have T4 : Hid (Below w.heap.size w w3) := below_next T3.out hb
  clear hb c0 c1 f0 f1
  go_wp2_with fail
  refine (iMotionStep_c a s t _).mono ?_
  rintro e w4 ⟨rfl, hb⟩
  have N4 : Hid _ := Box.below N3.out hb
  have T5 : Hid (Below w.heap.size w w4) := below_next T4.out hb
  clear hb
  obtain ⟨⟨c0, c1⟩, f0, f1⟩ := Box.al N4.out (.cells #[.int .i64 (mst a s t).1, .int .i64 (mst a s t).2] 24)
  go_wp2_with fail
  refine (eqMotion_c _ _ _).mono ?_
  rintro e w5 ⟨rfl, hb⟩
  have T6 : Hid (Below w.heap.size w w5) := below_next (Below.al T5.out _) hb
  clear hb
  go_wp2_with fail
  go_ret
  exact LawOk.mk T6.out

set_option maxHeartbeats 400000 in
theorem xMotionTicks_w (a s t : Int) (w : World) (hi : -9223372036854775808 ≤ t ∧ t ≤ 9223372036854775807) : Calls Try.prog 12 #[(Value.agg #[.int .i64 (a), .int .i64 (s)]), .int .i64 t] w (LawOk w) := by
  have Q : Hid _ := Box.new w a s 36
  go_enter Try.func12, Try.ntmps12
  go_wp2_with fail
  refine (toMotion_c a s _).mono ?_
  rintro e w1 ⟨rfl, hb⟩
  have B1 : Hid _ := Box.below Q.out hb
  have T1 : Hid (Below w.heap.size w w1) := (by repeat (first | exact Below.refl _ _ | refine Below.al ?_ _ | refine Below.dr ?_ _ | refine Below.dw ?_ | refine Below.st ?_ (by first | exact Nat.le_refl _ | exact Nat.le_add_right _ _ | (simp; omega)) _ | (refine below_next ?_ (by assumption))))
  clear hb
  go_wp2_with fail
  refine (sMotionTicks_c a s t _).mono ?_
  rintro e w2 ⟨rfl, hb⟩
  have B2 : Hid _ := Box.below B1.out hb
  have T2 : Hid (Below w.heap.size w w2) := below_next T1.out hb
  clear hb
  obtain ⟨⟨c0, c1⟩, f0, f1⟩ := B2.out
  go_wp2_with fail
  refine (toMotion_c a s _).mono ?_
  rintro e w3 ⟨rfl, hb⟩
  have T3 : Hid (Below w.heap.size w w3) := below_next T2.out hb
  clear hb c0 c1 f0 f1
  go_wp2_with fail
  refine (iMotionTicks_c a s t _).mono ?_
  rintro e w4 ⟨rfl, hb⟩
  have T4 : Hid (Below w.heap.size w w4) := below_next T3.out hb
  clear hb
  go_wp2_with fail
  go_ret
  exact LawOk.mk T4.out

end Go.Proofs.Ytolojhbnmfpjaaa

/- The contracts of LiftStep, LiftGo and LiftVisit of impl. -/
import Derived.Test.Ytcecmikmmggngaa4J
namespace Go.Proofs.Ytcecmikmmggngaa
open Go.RowKit
set_option linter.unusedVariables false

theorem lv_tg_f {x y : Bool} (h : (x && y) = false) : ¬ (x = true ∧ y = true) := by
  rintro ⟨rfl, rfl⟩; cases h
theorem lv_tg_t {x y : Bool} (h : (x && y) = true) : x = true ∧ y = true := by
  cases x <;> cases y <;> simp_all
set_option maxHeartbeats 4000000 in
theorem iLiftStep_c (b off cap : Nat) (xs : List Int) (a s g o t : Int) (u v : Bool) (w : World) (hc : Ints w b off xs) (hm : xs.length ≤ maxLen) (hi : -9223372036854775808 ≤ t ∧ t ≤ 9223372036854775807) :
    Calls Try.prog 17 #[.slice (some ⟨b, off, none⟩) xs.length cap, (Value.agg #[.int .i64 (a), .int .i64 (s), .int .i64 (g), .int .i64 (o)]), .int .i64 t, .bool u, .bool v] w (Mk w (Value.agg #[.int .i64 ((lst xs a s g o t u v).1), .int .i64 ((lst xs a s g o t u v).2.1), .int .i64 ((lst xs a s g o t u v).2.2.1), .int .i64 ((lst xs a s g o t u v).2.2.2)])) := by
  have Q : Hid _ := boxV2 w a s g o 0 0 0 0
  have I0 : Hid (Ints ((w.alloc (.cells #[.int .i64 (a), .int .i64 (s), .int .i64 (g), .int .i64 (o)] 29)).alloc (.cells #[.int .i64 (0), .int .i64 (0), .int .i64 (0), .int .i64 (0)] 29)) b off xs) := hc.below (Below.al (Below.al (Below.refl _ _) _) _)
  have T0 : Hid (Below w.heap.size w ((w.alloc (.cells #[.int .i64 (a), .int .i64 (s), .int .i64 (g), .int .i64 (o)] 29)).alloc (.cells #[.int .i64 (0), .int .i64 (0), .int .i64 (0), .int .i64 (0)] 29))) := Below.al (Below.al (Below.refl _ _) _) _
  have hm' := hm
  unfold maxLen at hm'
  clear hc
  obtain ⟨⟨c0, c1, c2, c3⟩, f0, f1, f2, f3⟩ := BoxV.c4 Q.out.1
  go_enter Try.func17, Try.ntmps17
  go_wp2_with fail
  refine (canBe_c b off cap xs a s g o t _ I0.out hm).mono ?_
  rintro e' w1 ⟨rfl, hb⟩
  have B1 : Hid _ := BoxV.bel hb Q.out.1
  have Z1 : Hid _ := BoxV.bel hb Q.out.2
  have I1 : Hid _ := Ints.bel hb I0.out
  have T1 : Hid (Below w.heap.size w w1) := below_next T0.out hb
  clear hb c0 c1 c2 c3 f0 f1 f2 f3
  cases hv : (lvB xs a s g o && tgB xs t)
  · have e : Hid _ := lst_bad (u := u) (v := v) (lv_tg_f hv)
    obtain ⟨⟨c0, c1, c2, c3⟩, f0, f1, f2, f3⟩ := BoxV.c4 Z1.out
    clear hv
    go_wp2_with fail
    exact bodyPost_ret (v := (Value.agg #[.int .i64 (0), .int .i64 (0), .int .i64 (0), .int .i64 (0)])) (by simp [results, Try.results17, go_sem, c0, c1, c2, c3]) rfl (Mk.q (by rw [e.out]) (by have HZ := T1.out; exact (by repeat (first | exact Below.refl _ _ | refine Below.al ?_ _ | refine Below.dr ?_ _ | refine Below.dw ?_ | refine Below.st ?_ (by first | exact Nat.le_refl _ | exact Nat.le_add_right _ _ | (simp; omega)) _ | (refine below_next ?_ (by assumption))))))
  have hv1 := (lv_tg_t hv).1
  have ht := (lv_tg_t hv).2
  have e : Hid _ := lst_ok (u := u) (v := v) hv1 ht
  have V : Hid _ := lvB_iff.1 hv1
  have VT1 := tgB_iff.1 ht
  obtain ⟨k, rfl⟩ := Int.eq_ofNat_of_zero_le VT1.1
  have hk : k < xs.length := by omega
  have hkI : (k : Int) < (xs.length : Int) := by omega
  have em : Hid (mst a s (nth xs k) = ms a s (nth xs k)) := mst_ok (mvB_t V.out.2.1) (hgt_in V.out.1 ht)
  clear hv hv1 ht VT1
  have S1 : Hid (w.heap.size + 1 < w1.heap.size) := BoxV.lt Z1.out
  have NE : Hid (w.heap.size + 1 ≠ w1.heap.size) := (by have := S1.out; omega : w.heap.size + 1 ≠ w1.heap.size)
  have LE : Hid (w.heap.size ≤ w1.heap.size) := (by have := S1.out; omega : w.heap.size ≤ w1.heap.size)
  have NB : Hid (b ≠ w1.heap.size) := Nat.ne_of_lt (Ints.lt I1.out hk)
  have B2 : Hid (BoxV (w1.alloc (.cells #[.int .i64 a, .int .i64 s, .int .i64 g, .int .i64 o] 64)) w1.heap.size (L4 a s g o)) := BoxV.new w1 _ 64 (by simp) rfl
  have Z2 : Hid (BoxV (w1.alloc (.cells #[.int .i64 a, .int .i64 s, .int .i64 g, .int .i64 o] 64)) (w.heap.size + 1) (L4 0 0 0 0)) := BoxV.al Z1.out _
  have I2 : Hid (Ints (w1.alloc (.cells #[.int .i64 a, .int .i64 s, .int .i64 g, .int .i64 o] 64)) b off xs) := Ints.bel (Below.al (Below.refl _ _) _) I1.out
  have T2 : Hid (Below w.heap.size w (w1.alloc (.cells #[.int .i64 a, .int .i64 s, .int .i64 g, .int .i64 o] 64))) := Below.al T1.out _
  obtain ⟨⟨c0, c1, c2, c3⟩, f0, f1, f2, f3⟩ := BoxV.c4 B1.out
  go_wp2_with fail
  refine (doorIsNext_c w1.heap.size b off cap xs a s g o u _ I2.out hm B2.out V.out.2.2.1).mono ?_
  rintro e' w2 ⟨rfl, hb⟩
  have B4 : Hid _ := BoxV.bel hb B2.out
  have Z4 : Hid _ := BoxV.bel hb Z2.out
  have I4 : Hid _ := Ints.bel hb I2.out
  have T4 : Hid (Below w.heap.size w w2) := below_next T2.out hb
  clear hb c0 c1 c2 c3 f0 f1 f2 f3 B2 Z2 I2 T2
  cases hC : lcB xs a s g u
  · have C : Hid (¬ (0 < g ∨ (stB xs a s = true ∧ u = true))) := (fun h => absurd (lcB_iff.2 h) (by rw [hC]; simp) : ¬ (0 < g ∨ (stB xs a s = true ∧ u = true)))
    have c5 : w2.cell? ⟨b, off + k, none⟩ = some (.int .i64 (nth xs k)) := I4.out k hk
    clear hC
    go_wp2_with fail
    refine (drive_v w1.heap.size 0 _ a s (nth xs k) _ B4.out rfl rfl).mono ?_
    rintro e' w3 ⟨rfl, hB, hF⟩
    have B5 : Hid (BoxV w3 w1.heap.size (L4 (mst a s (nth xs k)).1 (mst a s (nth xs k)).2 g o)) := hB
    have Z5 : Hid _ := BoxV.fr Z4.out hF NE.out
    have T5 : Hid (Below w.heap.size w w3) := Fr.below T4.out hF LE.out
    clear hB hF c5
    obtain ⟨⟨c0, c1, c2, c3⟩, f0, f1, f2, f3⟩ := BoxV.c4 B5.out
    obtain ⟨⟨d0, d1, d2, d3⟩, e0, e1, e2, e3⟩ := BoxV.c4 Z5.out
    go_wp2_with fail
    clear c0 c1 c2 c3
    obtain ⟨⟨c0, c1, c2, c3⟩, _⟩ := BoxV.c4 (BoxV.all4 (mst a s (nth xs k)).1 (mst a s (nth xs k)).2 g o Z5.out)
    exact bodyPost_ret (v := (Value.agg #[.int .i64 ((mst a s (nth xs k)).1), .int .i64 ((mst a s (nth xs k)).2), .int .i64 (g), .int .i64 (o)])) (by simp [results, Try.results17, go_sem, c0, c1, c2, c3]) rfl (Mk.q (by rw [e.out, ls_run C.out, em.out]; rfl) (by have HZ := T5.out; exact (by repeat (first | exact Below.refl _ _ | refine Below.al ?_ _ | refine Below.dr ?_ _ | refine Below.dw ?_ | refine Below.st ?_ (by first | exact Nat.le_refl _ | exact Nat.le_add_right _ _ | (simp; omega)) _ | (refine below_next ?_ (by assumption))))))
  · have C : Hid (0 < g ∨ (stB xs a s = true ∧ u = true)) := lcB_iff.1 hC
    clear hC
    go_wp2_with fail
    refine (step_v w1.heap.size 2 _ g o u v _ B4.out rfl rfl V.out.2.2.1).mono ?_
    rintro e' w3 ⟨rfl, hB, hF⟩
    have B5 : Hid (BoxV w3 w1.heap.size (L4 a s (ds g o u v).1 (ds g o u v).2)) := hB
    have Z5 : Hid _ := BoxV.fr Z4.out hF NE.out
    have T5 : Hid (Below w.heap.size w w3) := Fr.below T4.out hF LE.out
    clear hB hF
    obtain ⟨⟨c0, c1, c2, c3⟩, f0, f1, f2, f3⟩ := BoxV.c4 B5.out
    obtain ⟨⟨d0, d1, d2, d3⟩, e0, e1, e2, e3⟩ := BoxV.c4 Z5.out
    go_wp2_with fail
    clear c0 c1 c2 c3
    obtain ⟨⟨c0, c1, c2, c3⟩, _⟩ := BoxV.c4 (BoxV.all4 a s (ds g o u v).1 (ds g o u v).2 Z5.out)
    exact bodyPost_ret (v := (Value.agg #[.int .i64 (a), .int .i64 (s), .int .i64 ((ds g o u v).1), .int .i64 ((ds g o u v).2)])) (by simp [results, Try.results17, go_sem, c0, c1, c2, c3]) rfl (Mk.q (by rw [e.out, ls_door C.out]) (by have HZ := T5.out; exact (by repeat (first | exact Below.refl _ _ | refine Below.al ?_ _ | refine Below.dr ?_ _ | refine Below.dw ?_ | refine Below.st ?_ (by first | exact Nat.le_refl _ | exact Nat.le_add_right _ _ | (simp; omega)) _ | (refine below_next ?_ (by assumption))))))
set_option maxHeartbeats 4000000 in
theorem iLiftGo_c (b off cap : Nat) (xs : List Int) (a s g o t : Int) (w : World) (hc : Ints w b off xs) (hm : xs.length ≤ maxLen) (hi : -9223372036854775808 ≤ t ∧ t ≤ 9223372036854775807) :
    Calls Try.prog 20 #[.slice (some ⟨b, off, none⟩) xs.length cap, (Value.agg #[.int .i64 (a), .int .i64 (s), .int .i64 (g), .int .i64 (o)]), .int .i64 t] w (Mk w (.int .i64 (lgo xs a s g o t))) := by
  have Q : Hid (BoxV (w.alloc (.cells #[.int .i64 (a), .int .i64 (s), .int .i64 (g), .int .i64 (o)] 29)) w.heap.size (L4 a s g o)) := BoxV.new w _ 29 (by simp) rfl
  have I0 : Hid (Ints (w.alloc (.cells #[.int .i64 (a), .int .i64 (s), .int .i64 (g), .int .i64 (o)] 29)) b off xs) := hc.below ((Below.refl _ _).alloc (Nat.le_refl _) _)
  have T0 : Hid (Below w.heap.size w (w.alloc (.cells #[.int .i64 (a), .int .i64 (s), .int .i64 (g), .int .i64 (o)] 29))) := (Below.refl _ _).alloc (Nat.le_refl _) _
  have hm' := hm
  unfold maxLen at hm'
  clear hc
  obtain ⟨⟨c0, c1, c2, c3⟩, f0, f1, f2, f3⟩ := BoxV.c4 Q.out
  go_enter Try.func20, Try.ntmps20
  go_wp2_with fail
  refine (canBe_c b off cap xs a s g o t _ I0.out hm).mono ?_
  rintro e' w1 ⟨rfl, hb⟩
  have B1 : Hid _ := BoxV.bel hb Q.out
  have I1 : Hid _ := Ints.bel hb I0.out
  have T1 : Hid (Below w.heap.size w w1) := below_next T0.out hb
  clear hb c0 c1 c2 c3 f0 f1 f2 f3
  cases hv : (lvB xs a s g o && tgB xs t)
  · have e : Hid _ := lgo_bad (lv_tg_f hv)
    clear hv
    go_wp2_with fail
    go_ret
    exact Mk.i e.out T1.out
  have hv1 := (lv_tg_t hv).1
  have ht := (lv_tg_t hv).2
  have V : Hid _ := lvB_iff.1 hv1
  have VT1 := tgB_iff.1 ht
  obtain ⟨k, rfl⟩ := Int.eq_ofNat_of_zero_le VT1.1
  have hk : k < xs.length := by omega
  have e : Hid (lgo xs a s g o k = dtk g o + mtk a s (nth xs k)) := (by
    have h2 : mtk a s (nth xs k) = mt a s (nth xs k) := mtk_ok (mvB_t V.out.2.1) (hgt_in (t := (k : Int)) V.out.1 ht)
    rw [lgo_ok hv1 ht, dtk_ok (dvB_t V.out.2.2.1), h2]; rfl : lgo xs a s g o k = dtk g o + mtk a s (nth xs k))
  have b1 := dtk_bd (g := g) (h := o)
  obtain ⟨b1, b2⟩ := b1
  have b3 : 0 ≤ mtk a s (nth xs k) ∧ mtk a s (nth xs k) ≤ 1005 := by
    obtain ⟨N, hN, hN5, -⟩ := mt_ok (mvB_t V.out.2.1) (hgt_in (t := (k : Int)) V.out.1 ht)
    have hN' : mtk a s (nth xs k) = N := hN
    omega
  obtain ⟨b3, b4⟩ := b3
  have hkI : (k : Int) < (xs.length : Int) := by omega
  clear hv hv1 ht VT1
  obtain ⟨⟨c0, c1, c2, c3⟩, f0, f1, f2, f3⟩ := BoxV.c4 B1.out
  have c5 : w1.cell? ⟨b, off + k, none⟩ = some (.int .i64 (nth xs k)) := I1.out k hk
  go_wp2_with fail
  go_region_with (first | (go_at_call 49; refine (iDoorTicks_c g o _).mono ?_; rintro e wx ⟨rfl, hb⟩; (first | (have BD : Hid (BoxV wx w.heap.size (L4 a s g o)) := BoxV.bel hb B1.out; have ID : Hid (Ints wx b off xs) := Ints.bel hb I1.out; have TD : Hid (Below w.heap.size w wx) := (by have HZ := T1.out; exact (by repeat (first | exact Below.refl _ _ | refine Below.al ?_ _ | refine Below.dr ?_ _ | refine Below.dw ?_ | refine Below.st ?_ (by first | exact Nat.le_refl _ | exact Nat.le_add_right _ _ | (simp; omega)) _ | (refine below_next ?_ (by assumption)))))) | (have BD : Hid (BoxV wx w.heap.size (L4 a s g o)) := BoxV.bel hb BM.out; have ID : Hid (Ints wx b off xs) := Ints.bel hb IM.out; have TD : Hid (Below w.heap.size w wx) := (by have HZ := TM.out; exact (by repeat (first | exact Below.refl _ _ | refine Below.al ?_ _ | refine Below.dr ?_ _ | refine Below.dw ?_ | refine Below.st ?_ (by first | exact Nat.le_refl _ | exact Nat.le_add_right _ _ | (simp; omega)) _ | (refine below_next ?_ (by assumption))))))); clear hb; clear c0 c1 c2 c3 f0 f1 f2 f3 c5; obtain ⟨⟨c0, c1, c2, c3⟩, f0, f1, f2, f3⟩ := BoxV.c4 BD.out; have c5 : wx.cell? ⟨b, off + k, none⟩ = some (.int .i64 (nth xs k)) := ID.out k hk) | (go_at_call 50; refine (iMotionTicks_c a s (nth xs k) _).mono ?_; rintro e wx ⟨rfl, hb⟩; (first | (have BM : Hid (BoxV wx w.heap.size (L4 a s g o)) := BoxV.bel hb B1.out; have IM : Hid (Ints wx b off xs) := Ints.bel hb I1.out; have TM : Hid (Below w.heap.size w wx) := (by have HZ := T1.out; exact (by repeat (first | exact Below.refl _ _ | refine Below.al ?_ _ | refine Below.dr ?_ _ | refine Below.dw ?_ | refine Below.st ?_ (by first | exact Nat.le_refl _ | exact Nat.le_add_right _ _ | (simp; omega)) _ | (refine below_next ?_ (by assumption)))))) | (have BM : Hid (BoxV wx w.heap.size (L4 a s g o)) := BoxV.bel hb BD.out; have IM : Hid (Ints wx b off xs) := Ints.bel hb ID.out; have TM : Hid (Below w.heap.size w wx) := (by have HZ := TD.out; exact (by repeat (first | exact Below.refl _ _ | refine Below.al ?_ _ | refine Below.dr ?_ _ | refine Below.dw ?_ | refine Below.st ?_ (by first | exact Nat.le_refl _ | exact Nat.le_add_right _ _ | (simp; omega)) _ | (refine below_next ?_ (by assumption))))))); clear hb; clear c0 c1 c2 c3 f0 f1 f2 f3 c5; obtain ⟨⟨c0, c1, c2, c3⟩, f0, f1, f2, f3⟩ := BoxV.c4 BM.out; have c5 : wx.cell? ⟨b, off + k, none⟩ = some (.int .i64 (nth xs k)) := IM.out k hk))
  all_goals
    go_wp2_with fail
    go_ret
    exact Mk.i (by rw [e.out]; first | done | (rw [IntKind.wrap_i64]; omega)) (by first | (have HZ := TD.out; have HZ2 := TM.out; first | assumption | exact (by repeat (first | exact Below.refl _ _ | refine Below.al ?_ _ | refine Below.dr ?_ _ | refine Below.dw ?_ | refine Below.st ?_ (by first | exact Nat.le_refl _ | exact Nat.le_add_right _ _ | (simp; omega)) _ | (refine below_next ?_ (by assumption))))))
set_option maxHeartbeats 4000000 in
theorem iLiftVisit_c (b off cap : Nat) (xs : List Int) (a s g o t : Int) (w : World) (hc : Ints w b off xs) (hm : xs.length ≤ maxLen) (hi : -9223372036854775808 ≤ t ∧ t ≤ 9223372036854775807) :
    Calls Try.prog 23 #[.slice (some ⟨b, off, none⟩) xs.length cap, (Value.agg #[.int .i64 (a), .int .i64 (s), .int .i64 (g), .int .i64 (o)]), .int .i64 t] w (Mk w (.int .i64 (lvis xs a s g o t))) := by
  have Q : Hid (BoxV (w.alloc (.cells #[.int .i64 (a), .int .i64 (s), .int .i64 (g), .int .i64 (o)] 29)) w.heap.size (L4 a s g o)) := BoxV.new w _ 29 (by simp) rfl
  have I0 : Hid (Ints (w.alloc (.cells #[.int .i64 (a), .int .i64 (s), .int .i64 (g), .int .i64 (o)] 29)) b off xs) := hc.below ((Below.refl _ _).alloc (Nat.le_refl _) _)
  have T0 : Hid (Below w.heap.size w (w.alloc (.cells #[.int .i64 (a), .int .i64 (s), .int .i64 (g), .int .i64 (o)] 29))) := (Below.refl _ _).alloc (Nat.le_refl _) _
  have hm' := hm
  unfold maxLen at hm'
  clear hc
  obtain ⟨⟨c0, c1, c2, c3⟩, f0, f1, f2, f3⟩ := BoxV.c4 Q.out
  go_enter Try.func23, Try.ntmps23
  go_wp2_with fail
  refine (canBe_c b off cap xs a s g o t _ I0.out hm).mono ?_
  rintro e' w1 ⟨rfl, hb⟩
  have B1 : Hid _ := BoxV.bel hb Q.out
  have I1 : Hid _ := Ints.bel hb I0.out
  have T1 : Hid (Below w.heap.size w w1) := below_next T0.out hb
  clear hb c0 c1 c2 c3 f0 f1 f2 f3
  cases hv : (lvB xs a s g o && tgB xs t)
  · have e : Hid _ := lvis_bad (lv_tg_f hv)
    clear hv
    go_wp2_with fail
    go_ret
    exact Mk.i e.out T1.out
  have hv1 := (lv_tg_t hv).1
  have ht := (lv_tg_t hv).2
  have V : Hid _ := lvB_iff.1 hv1
  have VT1 := tgB_iff.1 ht
  obtain ⟨k, rfl⟩ := Int.eq_ofNat_of_zero_le VT1.1
  have hk : k < xs.length := by omega
  have hkI : (k : Int) < (xs.length : Int) := by omega
  have HT : Hid _ := ht
  obtain ⟨N, hN, hN5, -⟩ := lgo_end V.out ht
  have d := V.out.2.2.1
  obtain ⟨d1, d2, -⟩ := d
  clear hv hv1 ht VT1
  obtain ⟨⟨c0, c1, c2, c3⟩, f0, f1, f2, f3⟩ := BoxV.c4 B1.out
  have c5 : w1.cell? ⟨b, off + k, none⟩ = some (.int .i64 (nth xs k)) := I1.out k hk
  by_cases H : a = nth xs k ∧ s = 0
  · have e : Hid _ := lvis_here (t := (k : Int)) V.out HT.out H
    have t1 : (a == nth xs k) = true := by simp [H.1]
    have t2 : (s == 0) = true := by simp [H.2]
    clear H hN
    go_wp2_with fail
    go_region
    all_goals
      go_wp2_with fail
      go_ret
      exact Mk.i e.out (by have HZ := T1.out; exact (by repeat (first | exact Below.refl _ _ | refine Below.al ?_ _ | refine Below.dr ?_ _ | refine Below.dw ?_ | refine Below.st ?_ (by first | exact Nat.le_refl _ | exact Nat.le_add_right _ _ | (simp; omega)) _ | (refine below_next ?_ (by assumption)))))
  · have e : Hid _ := lvis_away (t := (k : Int)) V.out HT.out H
    have LB1 : 0 ≤ lgo xs a s g o k := by omega
    have LB2 : lgo xs a s g o k ≤ 1012 := by omega
    clear hN
    by_cases h1 : a = nth xs k
    · have t1 : (a == nth xs k) = true := by simp [h1]
      have t2 : (s == 0) = false := by simp only [beq_eq_false_iff_ne]; exact fun x => H ⟨h1, x⟩
      clear H h1
      go_wp2_with fail
      go_region
      all_goals
        go_wp2_with fail
        refine (iLiftGo_c b off cap xs a s g o k _ (by first | exact I1.out | exact Ints.drewN I1.out _) hm (by omega)).mono ?_
        rintro e' w2 ⟨rfl, hb⟩
        have T2 : Hid (Below w.heap.size w w2) := (by have HZ := T1.out; exact (by repeat (first | exact Below.refl _ _ | refine Below.al ?_ _ | refine Below.dr ?_ _ | refine Below.dw ?_ | refine Below.st ?_ (by first | exact Nat.le_refl _ | exact Nat.le_add_right _ _ | (simp; omega)) _ | (refine below_next ?_ (by assumption)))))
        clear hb
        go_wp2_with fail
        go_ret
        exact Mk.i e.out T2.out
    · have t1 : (a == nth xs k) = false := by simp [h1]
      clear H h1
      go_wp2_with fail
      go_region
      all_goals
        go_wp2_with fail
        refine (iLiftGo_c b off cap xs a s g o k _ (by first | exact I1.out | exact Ints.drewN I1.out _) hm (by omega)).mono ?_
        rintro e' w2 ⟨rfl, hb⟩
        have T2 : Hid (Below w.heap.size w w2) := (by have HZ := T1.out; exact (by repeat (first | exact Below.refl _ _ | refine Below.al ?_ _ | refine Below.dr ?_ _ | refine Below.dw ?_ | refine Below.st ?_ (by first | exact Nat.le_refl _ | exact Nat.le_add_right _ _ | (simp; omega)) _ | (refine below_next ?_ (by assumption)))))
        clear hb
        go_wp2_with fail
        go_ret
        exact Mk.i e.out T2.out
end Go.Proofs.Ytcecmikmmggngaa

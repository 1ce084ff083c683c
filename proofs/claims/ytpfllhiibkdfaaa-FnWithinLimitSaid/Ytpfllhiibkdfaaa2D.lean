/- The contract of MotionStep, impl. -/
import Derived.Test.Ytpfllhiibkdfaaa2C
import Derived.StillTailTactics
namespace Go.Proofs.Ytpfllhiibkdfaaa
open Go.RowKit
set_option linter.unusedVariables false

theorem ns_first {a s t : Int} (h : CS a s t) (k : CS (a + (s + sgn t a)) (s + sgn t a) t) : ns a s t = s + sgn t a ∧ 0 ≤ a + (s + sgn t a) ∧ a + (s + sgn t a) ≤ 60 := by
  refine ⟨?_, k.1.1, k.1.2.1⟩
  unfold ns; rw [if_pos (csB_t h), if_pos (csB_t k)]
theorem ns_second {a s t : Int} (h : CS a s t) (k : csB (a + (s + sgn t a)) (s + sgn t a) t = false) (l : CS (a + s) s t) : ns a s t = s ∧ 0 ≤ a + s ∧ a + s ≤ 60 := by
  refine ⟨?_, l.1.1, l.1.2.1⟩
  unfold ns; rw [if_pos (csB_t h), if_neg (by rw [k]; simp), if_pos (csB_t l)]
theorem ns_third {a s t : Int} (h : CS a s t) (k : csB (a + (s + sgn t a)) (s + sgn t a) t = false) (l : csB (a + s) s t = false) : ns a s t = slow s := by
  unfold ns; rw [if_pos (csB_t h), if_neg (by rw [k]; simp), if_neg (by rw [l]; simp)]

set_option maxHeartbeats 1000000 in
theorem iMotionStep_c (a s t : Int) (w : World) : Calls Try.prog 19 #[(Value.agg #[.int .i64 (a), .int .i64 (s)]), .int .i64 t] w (Mk w (Value.agg #[.int .i64 ((mst a s t).1), .int .i64 ((mst a s t).2)])) := by
  have q := box2 w a s 0 0 29 29
  have Q : Hid _ := q
  clear q
  cases h1 : mvB a s
  · have e : Hid _ := mst_bad (a := a) (s := s) (t := t) (by rw [h1]; simp)
    go_enter Try.func19, Try.ntmps19
    go_wp2_with fail
    refine (iMotionValid_c a s _).mono ?_
    rintro e' w1 ⟨rfl, hb⟩
    obtain ⟨⟨c0, c1⟩, f0, f1⟩ := Box.below Q.out.2 hb
    go_wp2_with fail
    exact bodyPost_ret (v := .agg #[.int .i64 0, .int .i64 0]) (by simp [results, Try.results19, go_sem, c0, c1]) rfl (Mk.g (by rw [e.out]) (by rw [e.out]) (by repeat (first | exact Below.refl _ _ | refine Below.al ?_ _ | refine Below.dr ?_ _ | refine Below.dw ?_ | refine Below.st ?_ (by first | exact Nat.le_refl _ | exact Nat.le_add_right _ _ | (simp; omega)) _ | (refine below_next ?_ (by assumption)))))
  cases h2 : inB 0 t 60
  · have e : Hid _ := mst_bad (a := a) (s := s) (t := t) (by rw [h2]; simp)
    go_enter Try.func19, Try.ntmps19
    go_wp2_with fail
    refine (iMotionValid_c a s _).mono ?_
    rintro e' w1 ⟨rfl, hb⟩
    obtain ⟨⟨c0, c1⟩, f0, f1⟩ := Box.below Q.out.2 hb
    go_wp2_with fail
    refine (isStep_c _ _).mono ?_
    rintro e' w2 ⟨rfl, n, rfl⟩
    go_wp2_with fail
    exact bodyPost_ret (v := .agg #[.int .i64 0, .int .i64 0]) (by simp [results, Try.results19, go_sem, c0, c1]) rfl (Mk.g (by rw [e.out]) (by rw [e.out]) (by repeat (first | exact Below.refl _ _ | refine Below.al ?_ _ | refine Below.dr ?_ _ | refine Below.dw ?_ | refine Below.st ?_ (by first | exact Nat.le_refl _ | exact Nat.le_add_right _ _ | (simp; omega)) _ | (refine below_next ?_ (by assumption)))))
  have hv := mvB_iff.1 h1
  obtain ⟨v1, v2, v3, v4⟩ := hv
  have HS : Hid (-5 ≤ s ∧ s ≤ 5) := ⟨v3, v4⟩
  have hm : Hid _ := mst_ok h1 h2
  have z1 := (sgn_bd t a).1
  have z2 := (sgn_bd t a).2
  have y1 := (slow_bd HS.out).1
  have y2 := (slow_bd HS.out).2
  have k := ns_cases (a := a) (t := t) HS.out
  rcases k with ⟨k1, k⟩ | ⟨k1, k⟩
  · have t1 := csB_t k1
    go_enter Try.func19, Try.ntmps19
    go_wp2_with fail
    refine (iMotionValid_c a s _).mono ?_
    rintro e' w1 ⟨rfl, hb⟩
    have B1 : Hid _ := Box.below Q.out.1 hb
    have B2 : Hid _ := Box.below Q.out.2 hb
    have HB : Hid (Below w.heap.size w w1) := (by repeat (first | exact Below.refl _ _ | refine Below.al ?_ _ | refine Below.dr ?_ _ | refine Below.dw ?_ | refine Below.st ?_ (by first | exact Nat.le_refl _ | exact Nat.le_add_right _ _ | (simp; omega)) _ | (refine below_next ?_ (by assumption))))
    clear hb
    obtain ⟨⟨c0, c1⟩, f0, f1⟩ := B1.out
    go_wp2_with fail
    refine (isStep_c _ _).mono ?_
    rintro e' w2 ⟨rfl, n, rfl⟩
    go_wp2_with fail
    refine (iCanStop_c a s t _).mono ?_
    rintro e' w2 ⟨rfl, hb⟩
    have B3 : Hid _ := Box.below (Box.dr B1.out n) hb
    have B4 : Hid _ := Box.below (Box.dr B2.out n) hb
    have HB2 : Hid (Below w.heap.size w w2) := below_next (Below.dr HB.out n) hb
    clear hb c0 c1 f0 f1
    obtain ⟨⟨c0, c1⟩, f0, f1⟩ := B3.out
    go_wp2_with fail
    refine (compare_c _ _ _).mono ?_
    rintro e' w3 ⟨rfl, n3, rfl⟩
    go_wp2_with fail
    have B5 : Hid _ := Box.new (w2.drewN n3) (s + sgn t a) s 3
    obtain ⟨G, hG⟩ : ∃ G, w2.heap.size = G := ⟨_, rfl⟩
    have B5' : Hid (Box ((w2.drewN n3).alloc (.cells #[.int .i64 (s + sgn t a), .int .i64 s] 3)) G (s + sgn t a) s) := by rw [← hG]; exact B5.out
    clear B5
    have B6 : Hid (Box ((w2.drewN n3).alloc (.cells #[.int .i64 (s + sgn t a), .int .i64 s] 3)) w.heap.size a s) := (Box.dr B3.out _).al _
    have B7 : Hid (Box ((w2.drewN n3).alloc (.cells #[.int .i64 (s + sgn t a), .int .i64 s] 3)) (w.heap.size + 1) 0 0) := (Box.dr B4.out _).al _
    have HB3 : Hid (Below w.heap.size w ((w2.drewN n3).alloc (.cells #[.int .i64 (s + sgn t a), .int .i64 s] 3))) := Below.al (Below.dr HB2.out _) _
    have k' : Hid _ := k
    rw [hG]
    clear k hG c0 c1 f0 f1
    go_loopw [33] (fun i wr => ∃ k : Nat, k ≤ 2 ∧ i = .int .i64 k ∧ Box wr w.heap.size a s ∧ Box wr (w.heap.size + 1) 0 0 ∧ Box wr G (s + sgn t a) s ∧ Below w.heap.size w wr ∧ (1 ≤ k → csB (a + (s + sgn t a)) (s + sgn t a) t = false) ∧ (2 ≤ k → csB (a + s) s t = false)) (fun i _ => 2 - (intOf i).toNat)
    case atStart => exact ⟨0, by omega, rfl, B6.out, B7.out, B5'.out, HB3.out, by omega, by omega⟩
    case round =>
      clear B1 B2 B3 B4 B5' B6 B7 HB HB2 HB3 Q
      obtain ⟨k, hk, rfl, q1, q2, q3, q4, q5, q6⟩ := hrel
      have Q1 : Hid _ := q1
      have Q2 : Hid _ := q2
      have Q3 : Hid _ := q3
      have Q4 : Hid _ := q4
      have Q5 : Hid _ := q5
      have Q6 : Hid _ := q6
      clear q1 q2 q3 q4 q5 q6
      obtain ⟨⟨c0, c1⟩, f0, f1⟩ := Q1.out
      obtain ⟨⟨d0, d1⟩, e0, e1⟩ := Q3.out
      rcases (by omega : k = 0 ∨ k = 1 ∨ k = 2) with g | g | g
      · subst g
        go_wp2_with fail
        refine (movedBy_c a s (s + sgn t a) _ (by omega) (by omega) (by omega) (by omega)).mono ?_
        rintro e' w4 ⟨rfl, hb⟩
        have A1 : Hid _ := Box.below Q1.out hb
        have A2 : Hid _ := Box.below Q2.out hb
        have A3 : Hid _ := Box.below Q3.out hb
        have A4 : Hid (Below w.heap.size w w4) := below_next Q4.out hb
        have A5 : Hid _ := Box.new w4 (a + (s + sgn t a)) (s + sgn t a) 29
        clear hb c0 c1 f0 f1 d0 d1 e0 e1
        go_wp2_with fail
        refine (iCanStop_c (a + (s + sgn t a)) (s + sgn t a) t _).mono ?_
        rintro e' w5 ⟨rfl, hb⟩
        have C1 : Hid _ := Box.below (Box.al A1.out _) hb
        have C2 : Hid _ := Box.below (Box.al A2.out _) hb
        have C3 : Hid _ := Box.below (Box.al A3.out _) hb
        have C4 : Hid (Below w.heap.size w w5) := below_next (Below.al A4.out _) hb
        have C5 : Hid _ := Box.below A5.out hb
        clear hb
        cases fit : csB (a + (s + sgn t a)) (s + sgn t a) t
        · go_wp2_with fail
          go_roundw
          case rel => exact ⟨1, by omega, by go_num, C1.out, C2.out, C3.out, C4.out, fun _ => fit, fun h => by omega⟩
          case measure => simp [intOf]
        · have E : Hid (ns a s t = s + sgn t a ∧ 0 ≤ a + (s + sgn t a) ∧ a + (s + sgn t a) ≤ 60) := ns_first k1 (csB_iff.1 fit)
          obtain ⟨⟨d0, d1⟩, e0, e1⟩ := C5.out
          obtain ⟨⟨c0, c1⟩, f0, f1⟩ := C2.out
          go_wp2_with fail
          exact bodyPost_ret (v := (Value.agg #[.int .i64 (a + (s + sgn t a)), .int .i64 (s + sgn t a)])) (by simp [results, Try.results19, go_sem, c0, c1]) rfl (Mk.g (by rw [hm.out]; unfold ms; rw [E.out.1, kept_in E.out.2]) (by rw [hm.out]; unfold ms; rw [E.out.1, kept_in E.out.2]) (by have HZ := C4.out; exact (by repeat (first | exact Below.refl _ _ | refine Below.al ?_ _ | refine Below.dr ?_ _ | refine Below.dw ?_ | refine Below.st ?_ (by first | exact Nat.le_refl _ | exact Nat.le_add_right _ _ | (simp; omega)) _ | (refine below_next ?_ (by assumption))))))
      · subst g
        go_wp2_with fail
        refine (movedBy_c a s s _ (by omega) (by omega) (by omega) (by omega)).mono ?_
        rintro e' w4 ⟨rfl, hb⟩
        have A1 : Hid _ := Box.below Q1.out hb
        have A2 : Hid _ := Box.below Q2.out hb
        have A3 : Hid _ := Box.below Q3.out hb
        have A4 : Hid (Below w.heap.size w w4) := below_next Q4.out hb
        have A5 : Hid _ := Box.new w4 (a + s) s 29
        clear hb c0 c1 f0 f1 d0 d1 e0 e1
        go_wp2_with fail
        refine (iCanStop_c (a + s) s t _).mono ?_
        rintro e' w5 ⟨rfl, hb⟩
        have C1 : Hid _ := Box.below (Box.al A1.out _) hb
        have C2 : Hid _ := Box.below (Box.al A2.out _) hb
        have C3 : Hid _ := Box.below (Box.al A3.out _) hb
        have C4 : Hid (Below w.heap.size w w5) := below_next (Below.al A4.out _) hb
        have C5 : Hid _ := Box.below A5.out hb
        clear hb
        cases fit : csB (a + s) s t
        · go_wp2_with fail
          go_roundw
          case rel => exact ⟨2, by omega, by go_num, C1.out, C2.out, C3.out, C4.out, fun _ => Q5.out (by omega), fun _ => fit⟩
          case measure => simp [intOf]
        · have E : Hid (ns a s t = s ∧ 0 ≤ a + s ∧ a + s ≤ 60) := ns_second k1 (Q5.out (by omega)) (csB_iff.1 fit)
          obtain ⟨⟨d0, d1⟩, e0, e1⟩ := C5.out
          obtain ⟨⟨c0, c1⟩, f0, f1⟩ := C2.out
          go_wp2_with fail
          exact bodyPost_ret (v := (Value.agg #[.int .i64 (a + s), .int .i64 (s)])) (by simp [results, Try.results19, go_sem, c0, c1]) rfl (Mk.g (by rw [hm.out]; unfold ms; rw [E.out.1, kept_in E.out.2]) (by rw [hm.out]; unfold ms; rw [E.out.1, kept_in E.out.2]) (by have HZ := C4.out; exact (by repeat (first | exact Below.refl _ _ | refine Below.al ?_ _ | refine Below.dr ?_ _ | refine Below.dw ?_ | refine Below.st ?_ (by first | exact Nat.le_refl _ | exact Nat.le_add_right _ _ | (simp; omega)) _ | (refine below_next ?_ (by assumption))))))
      · subst g
        have E : Hid (ns a s t = slow s) := ns_third k1 (Q5.out (by omega)) (Q6.out (by omega))
        clear d0 d1 e0 e1
        go_wp2_with fail
        refine wp_region_still_tail 4 (by kernel_rfl) (by kernel_rfl) ?_
        simp only [List.take_succ_cons, List.take_zero, List.drop_succ_cons, List.drop_zero]
        repeat still_step
        still_call (slower_s s _ HS.out)
        refine wpStill_nil ?_
        change wpList _ _ _ _ _ (World.drew _)
        go_wp2_with fail
        refine (movedBy_c a s (slow s) _ (by omega) (by omega) (by omega) (by omega)).mono ?_
        rintro e' w5 ⟨rfl, hb5⟩
        go_wp2_with fail
        refine (keptInside_c (a + slow s) (slow s) _).mono ?_
        rintro e' w6 ⟨rfl, hb6⟩
        have BT := Box.below (Box.below (Box.dw (Q2.out)) hb5) hb6
        clear c0 c1 f0 f1
        obtain ⟨⟨c0, c1⟩, f0, f1⟩ := BT
        go_wp2_with fail
        exact bodyPost_ret (v := (Value.agg #[.int .i64 ((kept (a + slow s) (slow s)).1), .int .i64 ((kept (a + slow s) (slow s)).2)])) (by simp [results, Try.results19, go_sem, c0, c1]) rfl (Mk.g (by rw [hm.out]; unfold ms; rw [E.out]) (by rw [hm.out]; unfold ms; rw [E.out]) (by have HZ := Q4.out; exact (by repeat (first | exact Below.refl _ _ | refine Below.al ?_ _ | refine Below.dr ?_ _ | refine Below.dw ?_ | refine Below.st ?_ (by first | exact Nat.le_refl _ | exact Nat.le_add_right _ _ | (simp; omega)) _ | (refine below_next ?_ (by assumption))))))
  · have t1 := csB_f k1
    have E : Hid _ := k
    clear k
    go_enter Try.func19, Try.ntmps19
    go_wp2_with fail
    refine (iMotionValid_c a s _).mono ?_
    rintro e' w1 ⟨rfl, hb⟩
    have B1 : Hid _ := Box.below Q.out.1 hb
    have B2 : Hid _ := Box.below Q.out.2 hb
    have HB : Hid (Below w.heap.size w w1) := (by repeat (first | exact Below.refl _ _ | refine Below.al ?_ _ | refine Below.dr ?_ _ | refine Below.dw ?_ | refine Below.st ?_ (by first | exact Nat.le_refl _ | exact Nat.le_add_right _ _ | (simp; omega)) _ | (refine below_next ?_ (by assumption))))
    clear hb
    obtain ⟨⟨c0, c1⟩, f0, f1⟩ := B1.out
    go_wp2_with fail
    refine (isStep_c _ _).mono ?_
    rintro e' w2 ⟨rfl, n, rfl⟩
    go_wp2_with fail
    refine (iCanStop_c a s t _).mono ?_
    rintro e' w2 ⟨rfl, hb⟩
    have B3 : Hid _ := Box.below (Box.dr B1.out n) hb
    have B4 : Hid _ := Box.below (Box.dr B2.out n) hb
    have HB2 : Hid (Below w.heap.size w w2) := below_next (Below.dr HB.out n) hb
    clear hb c0 c1 f0 f1
    obtain ⟨⟨c0, c1⟩, f0, f1⟩ := B3.out
    go_wp2_with fail
    refine wp_region_still_tail 4 (by kernel_rfl) (by kernel_rfl) ?_
    simp only [List.take_succ_cons, List.take_zero, List.drop_succ_cons, List.drop_zero]
    repeat still_step
    still_call (slower_s s _ HS.out)
    refine wpStill_nil ?_
    change wpList _ _ _ _ _ (World.drew _)
    go_wp2_with fail
    refine (movedBy_c a s (slow s) _ (by omega) (by omega) (by omega) (by omega)).mono ?_
    rintro e' w5 ⟨rfl, hb5⟩
    go_wp2_with fail
    refine (keptInside_c (a + slow s) (slow s) _).mono ?_
    rintro e' w6 ⟨rfl, hb6⟩
    have BT := Box.below (Box.below (Box.dw (B4.out)) hb5) hb6
    clear c0 c1 f0 f1
    obtain ⟨⟨c0, c1⟩, f0, f1⟩ := BT
    go_wp2_with fail
    exact bodyPost_ret (v := (Value.agg #[.int .i64 ((kept (a + slow s) (slow s)).1), .int .i64 ((kept (a + slow s) (slow s)).2)])) (by simp [results, Try.results19, go_sem, c0, c1]) rfl (Mk.g (by rw [hm.out]; unfold ms; rw [E.out]) (by rw [hm.out]; unfold ms; rw [E.out]) (by have HZ := HB2.out; exact (by repeat (first | exact Below.refl _ _ | refine Below.al ?_ _ | refine Below.dr ?_ _ | refine Below.dw ?_ | refine Below.st ?_ (by first | exact Nat.le_refl _ | exact Nat.le_add_right _ _ | (simp; omega)) _ | (refine below_next ?_ (by assumption))))))
end Go.Proofs.Ytpfllhiibkdfaaa

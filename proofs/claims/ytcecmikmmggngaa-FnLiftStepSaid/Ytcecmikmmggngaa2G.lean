/- The contract of MotionTicks, impl. -/
import Derived.Test.Ytcecmikmmggngaa2F
namespace Go.Proofs.Ytcecmikmmggngaa
open Go.RowKit
set_option linter.unusedVariables false

set_option maxHeartbeats 1000000 in
theorem iMotionTicks_c (a s t : Int) (w : World) : Calls Try.prog 50 #[(Value.agg #[.int .i64 (a), .int .i64 (s)]), .int .i64 t] w (Mk w (.int .i64 (mtk a s t))) := by
  have Q : Hid _ := Box.new w a s 25
  cases h1 : mvB a s
  · have e : Hid _ := mtk_bad (a := a) (s := s) (t := t) (by rw [h1]; simp)
    go_enter Try.func50, Try.ntmps50
    go_wp2_with fail
    refine (iMotionValid_c a s _).mono ?_
    rintro e' w1 ⟨rfl, hb⟩
    go_wp2_with fail
    go_ret
    exact Mk.i e.out (by repeat (first | exact Below.refl _ _ | refine Below.al ?_ _ | refine Below.dr ?_ _ | refine Below.dw ?_ | refine Below.st ?_ (by first | exact Nat.le_refl _ | exact Nat.le_add_right _ _ | (simp; omega)) _ | (refine below_next ?_ (by assumption))))
  cases h2 : inB 0 t 60
  · have e : Hid _ := mtk_bad (a := a) (s := s) (t := t) (by rw [h2]; simp)
    go_enter Try.func50, Try.ntmps50
    go_wp2_with fail
    refine (iMotionValid_c a s _).mono ?_
    rintro e' w1 ⟨rfl, hb⟩
    go_wp2_with fail
    refine (isStep_c _ _).mono ?_
    rintro e' w2 ⟨rfl, n, rfl⟩
    go_wp2_with fail
    go_ret
    exact Mk.i e.out (by repeat (first | exact Below.refl _ _ | refine Below.al ?_ _ | refine Below.dr ?_ _ | refine Below.dw ?_ | refine Below.st ?_ (by first | exact Nat.le_refl _ | exact Nat.le_add_right _ _ | (simp; omega)) _ | (refine below_next ?_ (by assumption))))
  have hm : Hid _ := mtk_ok h1 h2
  have H1 : Hid _ := h1
  have H2 : Hid _ := h2
  go_enter Try.func50, Try.ntmps50
  go_wp2_with fail
  refine (iMotionValid_c a s _).mono ?_
  rintro e' w1 ⟨rfl, hb⟩
  have B1 : Hid _ := Box.below Q.out hb
  have HB : Hid (Below w.heap.size w w1) := (by repeat (first | exact Below.refl _ _ | refine Below.al ?_ _ | refine Below.dr ?_ _ | refine Below.dw ?_ | refine Below.st ?_ (by first | exact Nat.le_refl _ | exact Nat.le_add_right _ _ | (simp; omega)) _ | (refine below_next ?_ (by assumption))))
  clear hb
  go_wp2_with fail
  refine (isStep_c _ _).mono ?_
  rintro e' w2 ⟨rfl, n, rfl⟩
  have B2 : Hid _ := Box.dr B1.out n
  have HB2 : Hid (Below w.heap.size w (w1.drewN n)) := Below.dr HB.out n
  clear B1 HB
  go_wp2_with fail
  clear h1 h2
  go_loopw [5] (fun v wr => ∃ (k : Nat) (x y : Int), k + lft x y t ≤ 1005 ∧ v = .int .i64 k ∧ it t k (a, s) = (x, y) ∧ mvB x y = true ∧ Box wr w.heap.size x y ∧ Below w.heap.size w wr ∧ ∀ j, j < k → it t j (a, s) ≠ (t, 0)) (fun v _ => (1006 - intOf v).toNat)
  case atStart => exact ⟨0, a, s, by have := lft_bd H1.out H2.out; omega, rfl, rfl, H1.out, B2.out, HB2.out, by omega⟩
  case round =>
    clear B2 HB2 Q
    obtain ⟨k, x, y, q0, rfl, q1, q2, q3, q4, q5⟩ := hrel
    have Q0 : Hid _ := q0
    have hk : k ≤ 1005 := by omega
    have Q1 : Hid _ := q1
    have Q2 : Hid _ := q2
    have Q3 : Hid _ := q3
    have Q4 : Hid _ := q4
    have Q5 : Hid _ := q5
    clear q0 q1 q2 q3 q4 q5
    obtain ⟨⟨c0, c1⟩, f0, f1⟩ := Q3.out
    rcases (by omega : (x = t ∧ y = 0) ∨ x ≠ t ∨ (x = t ∧ y ≠ 0)) with g | g | g
    · have E : Hid _ := g
      have e1 : t = x := g.1.symm
      have e2 : y = 0 := g.2
      clear g
      subst e1 e2
      go_wp2_with fail
      go_ret
      exact Mk.i (by rw [hm.out]; exact mt_eq ⟨k, rfl, Q1.out, Q5.out⟩) Q4.out
    · have E : Hid (¬ (x = t ∧ y = 0)) := fun h => g h.1
      have LS : Hid _ := lft_step Q2.out H2.out E.out
      have t1 : (x == t) = false := by simp [g]
      go_wp2_with fail
      refine (iMotionStep_c x y t _).mono ?_
      rintro e' w3 ⟨rfl, hb⟩
      have B3 : Hid _ := Box.below Q3.out hb
      have HB3 : Hid (Below w.heap.size w w3) := below_next Q4.out hb
      have em : Hid _ := mst_ok Q2.out H2.out
      clear hb c0 c1 f0 f1
      obtain ⟨⟨c0, c1⟩, f0, f1⟩ := B3.out
      go_wp2_with fail
      go_roundw
      case rel => exact ⟨k + 1, (ms x y t).1, (ms x y t).2, by have := LS.out; have := Q0.out; omega, by go_num, it_step Q1.out, ms_valid Q2.out H2.out, by rw [em.out]; exact Box.set _ _ B3.out, by have HZ := HB3.out; exact (by repeat (first | exact Below.refl _ _ | refine Below.al ?_ _ | refine Below.dr ?_ _ | refine Below.dw ?_ | refine Below.st ?_ (by first | exact Nat.le_refl _ | exact Nat.le_add_right _ _ | (simp; omega)) _ | (refine below_next ?_ (by assumption)))), fun j hj => by
        by_cases e : j = k
        · subst e; rw [Q1.out]; exact pair_ne E.out
        · exact Q5.out j (by omega)⟩
      case measure => simp [intOf]; omega
    · have E : Hid (¬ (x = t ∧ y = 0)) := fun h => g.2 h.2
      have LS : Hid _ := lft_step Q2.out H2.out E.out
      have e1 : t = x := g.1.symm
      have e2 : ¬ y = 0 := g.2
      have t2 : (y == 0) = false := by simp [e2]
      clear g
      subst e1
      go_wp2_with fail
      refine (iMotionStep_c t y t _).mono ?_
      rintro e' w3 ⟨rfl, hb⟩
      have B3 : Hid _ := Box.below Q3.out hb
      have HB3 : Hid (Below w.heap.size w w3) := below_next Q4.out hb
      have em : Hid _ := mst_ok Q2.out H2.out
      clear hb c0 c1 f0 f1
      obtain ⟨⟨c0, c1⟩, f0, f1⟩ := B3.out
      go_wp2_with fail
      go_roundw
      case rel => exact ⟨k + 1, (ms t y t).1, (ms t y t).2, by have := LS.out; have := Q0.out; omega, by go_num, it_step Q1.out, ms_valid Q2.out H2.out, by rw [em.out]; exact Box.set _ _ B3.out, by have HZ := HB3.out; exact (by repeat (first | exact Below.refl _ _ | refine Below.al ?_ _ | refine Below.dr ?_ _ | refine Below.dw ?_ | refine Below.st ?_ (by first | exact Nat.le_refl _ | exact Nat.le_add_right _ _ | (simp; omega)) _ | (refine below_next ?_ (by assumption)))), fun j hj => by
        by_cases e : j = k
        · subst e; rw [Q1.out]; exact pair_ne (fun h => E.out ⟨True.intro, h.2⟩)
        · exact Q5.out j (by omega)⟩
      case measure => simp [intOf]; omega
end Go.Proofs.Ytcecmikmmggngaa

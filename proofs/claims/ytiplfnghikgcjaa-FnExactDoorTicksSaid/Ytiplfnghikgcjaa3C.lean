/- The contracts of DoorRun, impl and spec. -/
import Derived.Test.Ytiplfnghikgcjaa3B
import Derived.Deep.RegionWith
import Derived.StillTailTactics
namespace Go.Proofs.Ytiplfnghikgcjaa
open Go.RowKit
set_option linter.unusedVariables false

theorem Sl.dr {w : World} {a : Option Addr} {xs : List Int} (h : Sl w a xs) (n : Nat) : Sl (w.drewN n) a xs := h
theorem drn_next {g o : Int} {k : Nat} {xs ys : List Int} {x y : Int} (h : drn g o k xs ys = (x, y)) : drn g o (k + 1) xs ys = ((ds x y (hasB xs k) (hasB ys k)).1, (ds x y (hasB xs k) (hasB ys k)).2) := by
  unfold drn at *; exact dit_step h
set_option maxHeartbeats 1000000 in
theorem iDoorRun_c (g o t : Int) (p : Option Addr) (cp : Nat) (xs : List Int) (q : Option Addr) (cq : Nat) (ys : List Int) (w : World) (hx : Sl w p xs) (hmx : xs.length ≤ maxLen) (hy : Sl w q ys) (hmy : ys.length ≤ maxLen) (hi : -9223372036854775808 ≤ t ∧ t ≤ 9223372036854775807) :
    Calls Try.prog 19 #[(Value.agg #[.int .i64 (g), .int .i64 (o)]), .int .i64 t, .slice p xs.length cp, .slice q ys.length cq] w (Mk w (Value.agg #[.int .i64 ((drun g o t xs ys).1), .int .i64 ((drun g o t xs ys).2)])) := by
  have Q : Hid _ := box2 w g o 0 0 24 24
  have HX : Hid _ := hx
  have HY : Hid _ := hy
  clear hx hy
  cases hv : dvB g o
  · have e : Hid _ := drun_bad (g := g) (h := o) (t := t) (xs := xs) (ys := ys) (by rw [hv]; simp)
    go_enter Try.func19, Try.ntmps19
    go_wp2_with fail
    refine (iDoorValid_c g o _).mono ?_
    rintro e' w1 ⟨rfl, hb⟩
    obtain ⟨⟨c0, c1⟩, f0, f1⟩ := Box.below Q.out.2 hb
    go_wp2_with fail
    exact bodyPost_ret (v := .agg #[.int .i64 0, .int .i64 0]) (by simp [results, Try.results19, go_sem, c0, c1]) rfl (Mk.g (by rw [e.out]) (by rw [e.out]) (by repeat (first | exact Below.refl _ _ | refine Below.al ?_ _ | refine Below.dr ?_ _ | refine Below.dw ?_ | refine Below.st ?_ (by first | exact Nat.le_refl _ | exact Nat.le_add_right _ _ | (simp; omega)) _ | (refine below_next ?_ (by assumption)))))
  by_cases ht : 0 ≤ t ∧ t ≤ 99
  case neg =>
    have e : Hid _ := drun_bad (g := g) (h := o) (t := t) (xs := xs) (ys := ys) (by rw [inB_f ht]; simp)
    rcases (by omega : t < 0 ∨ (¬ t < 0 ∧ 99 < t)) with l | ⟨l, l2⟩
    all_goals
      go_enter Try.func19, Try.ntmps19
      go_wp2_with fail
      refine (iDoorValid_c g o _).mono ?_
      rintro e' w1 ⟨rfl, hb⟩
      obtain ⟨⟨c0, c1⟩, f0, f1⟩ := Box.below Q.out.2 hb
      go_wp2_with fail
      exact bodyPost_ret (v := .agg #[.int .i64 0, .int .i64 0]) (by simp [results, Try.results19, go_sem, c0, c1]) rfl (Mk.g (by rw [e.out]) (by rw [e.out]) (by repeat (first | exact Below.refl _ _ | refine Below.al ?_ _ | refine Below.dr ?_ _ | refine Below.dw ?_ | refine Below.st ?_ (by first | exact Nat.le_refl _ | exact Nat.le_add_right _ _ | (simp; omega)) _ | (refine below_next ?_ (by assumption)))))
  have e : Hid _ := drun_ok (xs := xs) (ys := ys) hv (inB_t ht)
  have V : Hid _ := dvB_iff.1 hv
  obtain ⟨N, rfl⟩ := Int.eq_ofNat_of_zero_le ht.1
  have hN : N ≤ 99 := by omega
  have l1 : ¬ (N : Int) < 0 := by omega
  have l2 : ¬ 99 < (N : Int) := by omega
  clear ht hi
  go_enter Try.func19, Try.ntmps19
  go_wp2_with fail
  refine (iDoorValid_c g o _).mono ?_
  rintro e' w1 ⟨rfl, hb⟩
  have B1 : Hid _ := Box.below Q.out.1 hb
  have B2 : Hid _ := Box.below Q.out.2 hb
  have T1 : Hid (Below w.heap.size w w1) := (by repeat (first | exact Below.refl _ _ | refine Below.al ?_ _ | refine Below.dr ?_ _ | refine Below.dw ?_ | refine Below.st ?_ (by first | exact Nat.le_refl _ | exact Nat.le_add_right _ _ | (simp; omega)) _ | (refine below_next ?_ (by assumption))))
  clear hb
  go_wp2_with fail
  clear Q
  go_loopw [23] (fun v wr => ∃ (k : Nat) (x y : Int), k ≤ N ∧ v = .int .i64 k ∧ drn g o k xs ys = (x, y) ∧ DV x y ∧ Box wr w.heap.size x y ∧ Box wr (w.heap.size + 1) 0 0 ∧ Below w.heap.size w wr) (fun v _ => (N - intOf v).toNat)
  case atStart => exact ⟨0, g, o, by omega, rfl, rfl, V.out, B1.out, B2.out, T1.out⟩
  case round =>
    clear B1 B2 T1
    obtain ⟨k, x, y, hk, rfl, q1, q2, q3, q4, q5⟩ := hrel
    have Q1 : Hid _ := q1
    have Q2 : Hid _ := q2
    have Q3 : Hid _ := q3
    have Q4 : Hid _ := q4
    have Q5 : Hid _ := q5
    clear q1 q2 q3 q4 q5
    by_cases hlt : k < N
    · have hltI : (k : Int) < (N : Int) := by omega
      go_wp2_with fail
      refine (contains_c p cp xs k _ (Sl.below HX.out Q5.out) hmx).mono ?_
      rintro e' w2 ⟨rfl, n2, rfl⟩
      go_wp2_with fail
      refine (contains_c q cq ys k _ (Sl.below HY.out (Below.dr Q5.out n2)) hmy).mono ?_
      rintro e' w3 ⟨rfl, n3, rfl⟩
      go_wp2_with fail
      refine (step_c w.heap.size x y _ _ _ (Box.dr Q3.out (n2 + n3)) Q2.out).mono ?_
      rintro e' w4 ⟨rfl, B, F⟩
      have R3 : Hid _ := B
      have R4 : Hid _ := Box.fr (Box.dr Q4.out (n2 + n3)) F (by omega)
      have R5 : Hid (Below w.heap.size w w4) := Fr.below (Below.dr Q5.out (n2 + n3)) F (Nat.le_refl _)
      clear B F
      go_wp2_with fail
      go_roundw
      case rel => exact ⟨k + 1, _, _, by omega, by go_num, drn_next Q1.out, ds_valid _ _ Q2.out, R3.out, R4.out, R5.out⟩
      case measure => simp [intOf]; omega
    · obtain rfl : k = N := by omega
      obtain ⟨⟨d0, d1⟩, e0, e1⟩ := Q3.out
      obtain ⟨⟨c2, c3⟩, f2, f3⟩ := Q4.out
      have B5 : Hid _ := Box.set x y Q4.out
      go_wp2_with fail
      obtain ⟨⟨c0, c1⟩, f0, f1⟩ := B5.out
      exact bodyPost_ret (v := (Value.agg #[.int .i64 (x), .int .i64 (y)])) (by simp [results, Try.results19, go_sem, c0, c1]) rfl (Mk.g (by rw [e.out]; show (drn g o k xs ys).1 = x; rw [Q1.out]) (by rw [e.out]; show (drn g o k xs ys).2 = y; rw [Q1.out]) (by have HZ := Q5.out; exact (by repeat (first | exact Below.refl _ _ | refine Below.al ?_ _ | refine Below.dr ?_ _ | refine Below.dw ?_ | refine Below.st ?_ (by first | exact Nat.le_refl _ | exact Nat.le_add_right _ _ | (simp; omega)) _ | (refine below_next ?_ (by assumption))))))
set_option maxHeartbeats 1000000 in
theorem sDoorRun_c (g o t : Int) (p : Option Addr) (cp : Nat) (xs : List Int) (q : Option Addr) (cq : Nat) (ys : List Int) (w : World) (hx : Sl w p xs) (hmx : xs.length ≤ maxLen) (hy : Sl w q ys) (hmy : ys.length ≤ maxLen) (hi : -9223372036854775808 ≤ t ∧ t ≤ 9223372036854775807) :
    Calls Try.prog 20 #[(Value.agg #[.int .i64 (g), .int .i64 (o)]), .int .i64 t, .slice p xs.length cp, .slice q ys.length cq] w (Mk w (Value.agg #[.int .i64 ((drun g o t xs ys).1), .int .i64 ((drun g o t xs ys).2)])) := by
  have Q : Hid _ := box2 w g o 0 0 24 24
  have HX : Hid _ := hx
  have HY : Hid _ := hy
  clear hx hy
  cases hv : dvB g o
  · have e : Hid _ := drun_bad (g := g) (h := o) (t := t) (xs := xs) (ys := ys) (by rw [hv]; simp)
    go_enter Try.func20, Try.ntmps20
    go_wp2_with fail
    refine (sDoorValid_c g o _).mono ?_
    rintro e' w1 ⟨rfl, hb⟩
    obtain ⟨⟨c0, c1⟩, f0, f1⟩ := Box.below Q.out.2 hb
    go_wp2_with fail
    exact bodyPost_ret (v := .agg #[.int .i64 0, .int .i64 0]) (by simp [results, Try.results20, go_sem, c0, c1]) rfl (Mk.g (by rw [e.out]) (by rw [e.out]) (by repeat (first | exact Below.refl _ _ | refine Below.al ?_ _ | refine Below.dr ?_ _ | refine Below.dw ?_ | refine Below.st ?_ (by first | exact Nat.le_refl _ | exact Nat.le_add_right _ _ | (simp; omega)) _ | (refine below_next ?_ (by assumption)))))
  by_cases ht : 0 ≤ t ∧ t ≤ 99
  case neg =>
    have e : Hid _ := drun_bad (g := g) (h := o) (t := t) (xs := xs) (ys := ys) (by rw [inB_f ht]; simp)
    have t1 := inB_f ht
    clear ht
    go_enter Try.func20, Try.ntmps20
    go_wp2_with fail
    refine (sDoorValid_c g o _).mono ?_
    rintro e' w1 ⟨rfl, hb⟩
    have B2 : Hid _ := Box.below Q.out.2 hb
    have T1 : Hid (Below w.heap.size w w1) := (by repeat (first | exact Below.refl _ _ | refine Below.al ?_ _ | refine Below.dr ?_ _ | refine Below.dw ?_ | refine Below.st ?_ (by first | exact Nat.le_refl _ | exact Nat.le_add_right _ _ | (simp; omega)) _ | (refine below_next ?_ (by assumption))))
    clear hb
    go_wp2_with fail
    refine (l1In_c _ _ _ _).mono ?_
    rintro e' w2 ⟨rfl, n, rfl⟩
    obtain ⟨⟨c0, c1⟩, f0, f1⟩ := Box.dr B2.out n
    go_wp2_with fail
    exact bodyPost_ret (v := .agg #[.int .i64 0, .int .i64 0]) (by simp [results, Try.results20, go_sem, c0, c1]) rfl (Mk.g (by rw [e.out]) (by rw [e.out]) (by have HZ := T1.out; exact (by repeat (first | exact Below.refl _ _ | refine Below.al ?_ _ | refine Below.dr ?_ _ | refine Below.dw ?_ | refine Below.st ?_ (by first | exact Nat.le_refl _ | exact Nat.le_add_right _ _ | (simp; omega)) _ | (refine below_next ?_ (by assumption))))))
  have e : Hid _ := drun_ok (xs := xs) (ys := ys) hv (inB_t ht)
  have V : Hid _ := dvB_iff.1 hv
  have t1 := inB_t ht
  obtain ⟨N, rfl⟩ := Int.eq_ofNat_of_zero_le ht.1
  have hN : N ≤ 99 := by omega
  clear ht hi
  go_enter Try.func20, Try.ntmps20
  go_wp2_with fail
  refine (sDoorValid_c g o _).mono ?_
  rintro e' w1 ⟨rfl, hb⟩
  have B1 : Hid _ := Box.below Q.out.1 hb
  have B2 : Hid _ := Box.below Q.out.2 hb
  have T1 : Hid (Below w.heap.size w w1) := (by repeat (first | exact Below.refl _ _ | refine Below.al ?_ _ | refine Below.dr ?_ _ | refine Below.dw ?_ | refine Below.st ?_ (by first | exact Nat.le_refl _ | exact Nat.le_add_right _ _ | (simp; omega)) _ | (refine below_next ?_ (by assumption))))
  clear hb
  go_wp2_with fail
  refine (l1In_c _ _ _ _).mono ?_
  rintro e' w2 ⟨rfl, n, rfl⟩
  go_wp2_with fail
  clear Q
  go_loopw [9] (fun v wr => ∃ (k : Nat) (x y : Int), k ≤ N ∧ v = .int .i64 k ∧ drn g o k xs ys = (x, y) ∧ DV x y ∧ Box wr w.heap.size x y ∧ Box wr (w.heap.size + 1) 0 0 ∧ Below w.heap.size w wr) (fun v _ => (N - intOf v).toNat)
  case atStart => exact ⟨0, g, o, by omega, rfl, rfl, V.out, Box.dr B1.out n, Box.dr B2.out n, Below.dr T1.out n⟩
  case round =>
    clear B1 B2 T1
    obtain ⟨k, x, y, hk, rfl, q1, q2, q3, q4, q5⟩ := hrel
    have Q1 : Hid _ := q1
    have Q2 : Hid _ := q2
    have Q3 : Hid _ := q3
    have Q4 : Hid _ := q4
    have Q5 : Hid _ := q5
    clear q1 q2 q3 q4 q5
    obtain ⟨⟨d0, d1⟩, e0, e1⟩ := Q3.out
    by_cases hlt : k < N
    · have hltI : (k : Int) < (N : Int) := by omega
      have em : Hid _ := dst_ok (a := hasB xs k) (b := hasB ys k) (dvB_t Q2.out)
      go_wp2_with fail
      refine wp_region_still_tail 7 (by kernel_rfl) (by kernel_rfl) ?_
      simp only [List.take_succ_cons, List.take_zero, List.drop_succ_cons, List.drop_zero]
      repeat still_step
      still_call (l1Has_s p cp xs k _ (Sl.below HX.out (Below.dw Q5.out)) hmx)
      repeat still_step
      still_call (l1Has_s q cq ys k _ (Sl.below HY.out (Below.dw Q5.out)) hmy)
      repeat still_step
      refine wpStill_nil ?_
      change wpList _ _ _ _ _ (World.drew _)
      go_wp2_with fail
      refine (sDoorStep_c x y _ _ _).mono ?_
      rintro e' w4 ⟨rfl, hb⟩
      have R3 : Hid _ := Box.below (Box.dw Q3.out) hb
      have R4 : Hid _ := Box.below (Box.dw Q4.out) hb
      have R5 : Hid (Below w.heap.size w w4) := below_next (Below.dw Q5.out) hb
      clear hb d0 d1 e0 e1
      obtain ⟨⟨d0, d1⟩, e0, e1⟩ := R3.out
      go_wp2_with fail
      go_roundw
      case rel => exact ⟨k + 1, _, _, by omega, by go_num, drn_next Q1.out, ds_valid _ _ Q2.out, by rw [em.out]; exact Box.set _ _ R3.out, Box.far (Box.far R4.out (by omega)) (by omega), by have HZ := R5.out; exact (by repeat (first | exact Below.refl _ _ | refine Below.al ?_ _ | refine Below.dr ?_ _ | refine Below.dw ?_ | refine Below.st ?_ (by first | exact Nat.le_refl _ | exact Nat.le_add_right _ _ | (simp; omega)) _ | (refine below_next ?_ (by assumption))))⟩
      case measure => simp [intOf]; omega
    · obtain rfl : k = N := by omega
      obtain ⟨⟨c2, c3⟩, f2, f3⟩ := Q4.out
      have B5 : Hid _ := Box.set x y Q4.out
      go_wp2_with fail
      obtain ⟨⟨c0, c1⟩, f0, f1⟩ := B5.out
      exact bodyPost_ret (v := (Value.agg #[.int .i64 (x), .int .i64 (y)])) (by simp [results, Try.results20, go_sem, c0, c1]) rfl (Mk.g (by rw [e.out]; show (drn g o k xs ys).1 = x; rw [Q1.out]) (by rw [e.out]; show (drn g o k xs ys).2 = y; rw [Q1.out]) (by have HZ := Q5.out; exact (by repeat (first | exact Below.refl _ _ | refine Below.al ?_ _ | refine Below.dr ?_ _ | refine Below.dw ?_ | refine Below.st ?_ (by first | exact Nat.le_refl _ | exact Nat.le_add_right _ _ | (simp; omega)) _ | (refine below_next ?_ (by assumption))))))
end Go.Proofs.Ytiplfnghikgcjaa

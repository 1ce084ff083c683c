/- The contracts of the lists' search, and of DoorStep, impl and spec. -/
import Derived.Test.Ytcecmikmmggngaa3A
import Derived.Test.YtcecmikmmggngaaB
namespace Go.Proofs.Ytcecmikmmggngaa
open Go.RowKit
set_option linter.unusedVariables false

theorem has_ix {xs : List Int} {v : Int} : (0 ≤ ix xs v ∧ hasB xs v = true) ∨ (¬ 0 ≤ ix xs v ∧ hasB xs v = false) := by
  rcases ix_cases xs v with ⟨k, hk, e, hn, hu⟩ | ⟨e, hn⟩
  · left; exact ⟨by omega, hasB_t k hk hn⟩
  · right; exact ⟨by omega, hasB_f hn⟩
theorem ix_nil (v : Int) : ix [] v = -1 := ix_eq (.inr ⟨rfl, by simp⟩)
theorem index_sl (a : Option Addr) (cap : Nat) (xs : List Int) (v : Int) (w : World) (hs : Sl w a xs) (hm : xs.length ≤ maxLen) :
    Calls Try.prog 40 #[.slice a xs.length cap, .int .i64 v] w (Ro w (.int .i64 (ix xs v))) := by
  rcases hs with rfl | ⟨b, off, rfl, hI⟩
  · have e : Hid _ := ix_nil v
    clear hm
    go_enter Try.func40, Try.ntmps40
    go_wp2_with fail
    go_loop [8] (fun vk => vk = .int .i64 0) (fun _ => 0)
    case atStart => rfl
    case round =>
      obtain rfl := hrel
      go_wp2_with fail
      go_ret
      exact Ro.i e.out ⟨0, rfl⟩
  · exact index_c b off cap xs v w hI hm
theorem St.b {w : World} {b b' : Bool} (h : b = b') : St w (.bool b) (.returned (.bool b')) w := ⟨by rw [h], rfl⟩
theorem ab_cases (a b : Bool) (g : Int) : (a = true ∧ (a = true ∨ (b = true ∧ 0 < g))) ∨ ((a = false ∧ b = true ∧ 0 < g) ∧ (a = true ∨ (b = true ∧ 0 < g))) ∨ ((a = false ∧ b = false) ∧ ¬ (a = true ∨ (b = true ∧ 0 < g))) ∨ ((a = false ∧ b = true ∧ ¬ 0 < g) ∧ ¬ (a = true ∨ (b = true ∧ 0 < g))) := by
  cases a
  · cases b
    · right; right; left; simp
    · by_cases k : 0 < g
      · right; left; simp [k]
      · right; right; right; simp [k]
  · left; simp
set_option maxHeartbeats 1000000 in
theorem sDoorStep_c (g o : Int) (a b : Bool) (w : World) : Calls Try.prog 47 #[(Value.agg #[.int .i64 (g), .int .i64 (o)]), .bool a, .bool b] w (Mk w (Value.agg #[.int .i64 ((dst g o a b).1), .int .i64 ((dst g o a b).2)])) := by
  have Q : Hid _ := box2 w g o 0 0 27 27
  cases hv : dvB g o
  · have e : Hid _ := dst_bad (a := a) (b := b) hv
    go_enter Try.func47, Try.ntmps47
    go_wp2_with fail
    refine (sDoorValid_c g o _).mono ?_
    rintro e' w1 ⟨rfl, hb⟩
    obtain ⟨⟨c0, c1⟩, f0, f1⟩ := Box.below Q.out.2 hb
    go_wp2_with fail
    exact bodyPost_ret (v := .agg #[.int .i64 0, .int .i64 0]) (by simp [results, Try.results47, go_sem, c0, c1]) rfl (Mk.g (by rw [e.out]) (by rw [e.out]) (by repeat (first | exact Below.refl _ _ | refine Below.al ?_ _ | refine Below.dr ?_ _ | refine Below.dw ?_ | refine Below.st ?_ (by first | exact Nat.le_refl _ | exact Nat.le_add_right _ _ | (simp; omega)) _ | (refine below_next ?_ (by assumption)))))
  · have e : Hid _ := dst_ok (a := a) (b := b) hv
    have V := dvB_iff.1 hv
    obtain ⟨k1, k2, k3, k4, k5⟩ := V
    clear k5
    rcases ab_cases a b g with ⟨rfl, c⟩ | ⟨⟨rfl, rfl, gp⟩, c⟩ | ⟨⟨rfl, rfl⟩, c⟩ | ⟨⟨rfl, rfl, gp⟩, c⟩
    all_goals
      have C : Hid _ := c
      clear c
    · rcases (by omega : g = 3 ∨ g = 4 ∨ g + 1 < 4) with l | l | l
      · subst l
        have E : Hid _ := ds_wide C.out (h := o) (by decide)
        go_enter Try.func47, Try.ntmps47
        go_wp2_with fail
        refine (sDoorValid_c _ o _).mono ?_
        rintro e' w1 ⟨rfl, hb⟩
        have B1 : Hid _ := Box.below Q.out.1 hb
        have B2 : Hid _ := Box.below Q.out.2 hb
        have T1 : Hid (Below w.heap.size w w1) := (by repeat (first | exact Below.refl _ _ | refine Below.al ?_ _ | refine Below.dr ?_ _ | refine Below.dw ?_ | refine Below.st ?_ (by first | exact Nat.le_refl _ | exact Nat.le_add_right _ _ | (simp; omega)) _ | (refine below_next ?_ (by assumption))))
        clear hb
        obtain ⟨⟨d0, d1⟩, e0, e1⟩ := B1.out
        obtain ⟨⟨c2, c3⟩, f2, f3⟩ := B2.out
        have B5 : Hid _ := Box.set (4) (3) B2.out
        go_wp2_with fail
        obtain ⟨⟨c0, c1⟩, f0, f1⟩ := B5.out
        exact bodyPost_ret (v := (Value.agg #[.int .i64 (4), .int .i64 (3)])) (by simp [results, Try.results47, go_sem, c0, c1]) rfl (Mk.g (by rw [e.out, E.out]) (by rw [e.out, E.out]) (by have HZ := T1.out; exact (by repeat (first | exact Below.refl _ _ | refine Below.al ?_ _ | refine Below.dr ?_ _ | refine Below.dw ?_ | refine Below.st ?_ (by first | exact Nat.le_refl _ | exact Nat.le_add_right _ _ | (simp; omega)) _ | (refine below_next ?_ (by assumption))))))
      · subst l
        have E : Hid _ := ds_wide C.out (h := o) (by decide)
        go_enter Try.func47, Try.ntmps47
        go_wp2_with fail
        refine (sDoorValid_c _ o _).mono ?_
        rintro e' w1 ⟨rfl, hb⟩
        have B1 : Hid _ := Box.below Q.out.1 hb
        have B2 : Hid _ := Box.below Q.out.2 hb
        have T1 : Hid (Below w.heap.size w w1) := (by repeat (first | exact Below.refl _ _ | refine Below.al ?_ _ | refine Below.dr ?_ _ | refine Below.dw ?_ | refine Below.st ?_ (by first | exact Nat.le_refl _ | exact Nat.le_add_right _ _ | (simp; omega)) _ | (refine below_next ?_ (by assumption))))
        clear hb
        obtain ⟨⟨d0, d1⟩, e0, e1⟩ := B1.out
        obtain ⟨⟨c2, c3⟩, f2, f3⟩ := B2.out
        have B5 : Hid _ := Box.set (4) (3) B2.out
        go_wp2_with fail
        obtain ⟨⟨c0, c1⟩, f0, f1⟩ := B5.out
        exact bodyPost_ret (v := (Value.agg #[.int .i64 (4), .int .i64 (3)])) (by simp [results, Try.results47, go_sem, c0, c1]) rfl (Mk.g (by rw [e.out, E.out]) (by rw [e.out, E.out]) (by have HZ := T1.out; exact (by repeat (first | exact Below.refl _ _ | refine Below.al ?_ _ | refine Below.dr ?_ _ | refine Below.dw ?_ | refine Below.st ?_ (by first | exact Nat.le_refl _ | exact Nat.le_add_right _ _ | (simp; omega)) _ | (refine below_next ?_ (by assumption))))))
      · have E : Hid _ := ds_up C.out (h := o) l
        have t4 : (g + 1 == 4) = false := by simp; omega
        go_enter Try.func47, Try.ntmps47
        go_wp2_with fail
        refine (sDoorValid_c _ o _).mono ?_
        rintro e' w1 ⟨rfl, hb⟩
        have B1 : Hid _ := Box.below Q.out.1 hb
        have B2 : Hid _ := Box.below Q.out.2 hb
        have T1 : Hid (Below w.heap.size w w1) := (by repeat (first | exact Below.refl _ _ | refine Below.al ?_ _ | refine Below.dr ?_ _ | refine Below.dw ?_ | refine Below.st ?_ (by first | exact Nat.le_refl _ | exact Nat.le_add_right _ _ | (simp; omega)) _ | (refine below_next ?_ (by assumption))))
        clear hb
        obtain ⟨⟨d0, d1⟩, e0, e1⟩ := B1.out
        obtain ⟨⟨c2, c3⟩, f2, f3⟩ := B2.out
        have B5 : Hid _ := Box.set (g + 1) (0) B2.out
        go_wp2_with fail
        obtain ⟨⟨c0, c1⟩, f0, f1⟩ := B5.out
        exact bodyPost_ret (v := (Value.agg #[.int .i64 (g + 1), .int .i64 (0)])) (by simp [results, Try.results47, go_sem, c0, c1]) rfl (Mk.g (by rw [e.out, E.out]) (by rw [e.out, E.out]) (by have HZ := T1.out; exact (by repeat (first | exact Below.refl _ _ | refine Below.al ?_ _ | refine Below.dr ?_ _ | refine Below.dw ?_ | refine Below.st ?_ (by first | exact Nat.le_refl _ | exact Nat.le_add_right _ _ | (simp; omega)) _ | (refine below_next ?_ (by assumption))))))
    · rcases (by omega : g = 3 ∨ g = 4 ∨ g + 1 < 4) with l | l | l
      · subst l
        have E : Hid _ := ds_wide C.out (h := o) (by decide)
        go_enter Try.func47, Try.ntmps47
        go_wp2_with fail
        refine (sDoorValid_c _ o _).mono ?_
        rintro e' w1 ⟨rfl, hb⟩
        have B1 : Hid _ := Box.below Q.out.1 hb
        have B2 : Hid _ := Box.below Q.out.2 hb
        have T1 : Hid (Below w.heap.size w w1) := (by repeat (first | exact Below.refl _ _ | refine Below.al ?_ _ | refine Below.dr ?_ _ | refine Below.dw ?_ | refine Below.st ?_ (by first | exact Nat.le_refl _ | exact Nat.le_add_right _ _ | (simp; omega)) _ | (refine below_next ?_ (by assumption))))
        clear hb
        obtain ⟨⟨d0, d1⟩, e0, e1⟩ := B1.out
        obtain ⟨⟨c2, c3⟩, f2, f3⟩ := B2.out
        have B5 : Hid _ := Box.set (4) (3) B2.out
        go_wp2_with fail
        obtain ⟨⟨c0, c1⟩, f0, f1⟩ := B5.out
        exact bodyPost_ret (v := (Value.agg #[.int .i64 (4), .int .i64 (3)])) (by simp [results, Try.results47, go_sem, c0, c1]) rfl (Mk.g (by rw [e.out, E.out]) (by rw [e.out, E.out]) (by have HZ := T1.out; exact (by repeat (first | exact Below.refl _ _ | refine Below.al ?_ _ | refine Below.dr ?_ _ | refine Below.dw ?_ | refine Below.st ?_ (by first | exact Nat.le_refl _ | exact Nat.le_add_right _ _ | (simp; omega)) _ | (refine below_next ?_ (by assumption))))))
      · subst l
        have E : Hid _ := ds_wide C.out (h := o) (by decide)
        go_enter Try.func47, Try.ntmps47
        go_wp2_with fail
        refine (sDoorValid_c _ o _).mono ?_
        rintro e' w1 ⟨rfl, hb⟩
        have B1 : Hid _ := Box.below Q.out.1 hb
        have B2 : Hid _ := Box.below Q.out.2 hb
        have T1 : Hid (Below w.heap.size w w1) := (by repeat (first | exact Below.refl _ _ | refine Below.al ?_ _ | refine Below.dr ?_ _ | refine Below.dw ?_ | refine Below.st ?_ (by first | exact Nat.le_refl _ | exact Nat.le_add_right _ _ | (simp; omega)) _ | (refine below_next ?_ (by assumption))))
        clear hb
        obtain ⟨⟨d0, d1⟩, e0, e1⟩ := B1.out
        obtain ⟨⟨c2, c3⟩, f2, f3⟩ := B2.out
        have B5 : Hid _ := Box.set (4) (3) B2.out
        go_wp2_with fail
        obtain ⟨⟨c0, c1⟩, f0, f1⟩ := B5.out
        exact bodyPost_ret (v := (Value.agg #[.int .i64 (4), .int .i64 (3)])) (by simp [results, Try.results47, go_sem, c0, c1]) rfl (Mk.g (by rw [e.out, E.out]) (by rw [e.out, E.out]) (by have HZ := T1.out; exact (by repeat (first | exact Below.refl _ _ | refine Below.al ?_ _ | refine Below.dr ?_ _ | refine Below.dw ?_ | refine Below.st ?_ (by first | exact Nat.le_refl _ | exact Nat.le_add_right _ _ | (simp; omega)) _ | (refine below_next ?_ (by assumption))))))
      · have E : Hid _ := ds_up C.out (h := o) l
        have t4 : (g + 1 == 4) = false := by simp; omega
        go_enter Try.func47, Try.ntmps47
        go_wp2_with fail
        refine (sDoorValid_c _ o _).mono ?_
        rintro e' w1 ⟨rfl, hb⟩
        have B1 : Hid _ := Box.below Q.out.1 hb
        have B2 : Hid _ := Box.below Q.out.2 hb
        have T1 : Hid (Below w.heap.size w w1) := (by repeat (first | exact Below.refl _ _ | refine Below.al ?_ _ | refine Below.dr ?_ _ | refine Below.dw ?_ | refine Below.st ?_ (by first | exact Nat.le_refl _ | exact Nat.le_add_right _ _ | (simp; omega)) _ | (refine below_next ?_ (by assumption))))
        clear hb
        obtain ⟨⟨d0, d1⟩, e0, e1⟩ := B1.out
        obtain ⟨⟨c2, c3⟩, f2, f3⟩ := B2.out
        have B5 : Hid _ := Box.set (g + 1) (0) B2.out
        go_wp2_with fail
        obtain ⟨⟨c0, c1⟩, f0, f1⟩ := B5.out
        exact bodyPost_ret (v := (Value.agg #[.int .i64 (g + 1), .int .i64 (0)])) (by simp [results, Try.results47, go_sem, c0, c1]) rfl (Mk.g (by rw [e.out, E.out]) (by rw [e.out, E.out]) (by have HZ := T1.out; exact (by repeat (first | exact Below.refl _ _ | refine Below.al ?_ _ | refine Below.dr ?_ _ | refine Below.dw ?_ | refine Below.st ?_ (by first | exact Nat.le_refl _ | exact Nat.le_add_right _ _ | (simp; omega)) _ | (refine below_next ?_ (by assumption))))))
    · by_cases l : 0 < o
      · have E : Hid _ := ds_held C.out (h := o) l
        go_enter Try.func47, Try.ntmps47
        go_wp2_with fail
        refine (sDoorValid_c _ o _).mono ?_
        rintro e' w1 ⟨rfl, hb⟩
        have B1 : Hid _ := Box.below Q.out.1 hb
        have B2 : Hid _ := Box.below Q.out.2 hb
        have T1 : Hid (Below w.heap.size w w1) := (by repeat (first | exact Below.refl _ _ | refine Below.al ?_ _ | refine Below.dr ?_ _ | refine Below.dw ?_ | refine Below.st ?_ (by first | exact Nat.le_refl _ | exact Nat.le_add_right _ _ | (simp; omega)) _ | (refine below_next ?_ (by assumption))))
        clear hb
        obtain ⟨⟨d0, d1⟩, e0, e1⟩ := B1.out
        obtain ⟨⟨c2, c3⟩, f2, f3⟩ := B2.out
        have B5 : Hid _ := Box.set (g) (o - 1) B2.out
        go_wp2_with fail
        obtain ⟨⟨c0, c1⟩, f0, f1⟩ := B5.out
        exact bodyPost_ret (v := (Value.agg #[.int .i64 (g), .int .i64 (o - 1)])) (by simp [results, Try.results47, go_sem, c0, c1]) rfl (Mk.g (by rw [e.out, E.out]) (by rw [e.out, E.out]) (by have HZ := T1.out; exact (by repeat (first | exact Below.refl _ _ | refine Below.al ?_ _ | refine Below.dr ?_ _ | refine Below.dw ?_ | refine Below.st ?_ (by first | exact Nat.le_refl _ | exact Nat.le_add_right _ _ | (simp; omega)) _ | (refine below_next ?_ (by assumption))))))
      · have E : Hid _ := ds_down C.out (h := o) l
        go_enter Try.func47, Try.ntmps47
        go_wp2_with fail
        refine (sDoorValid_c _ o _).mono ?_
        rintro e' w1 ⟨rfl, hb⟩
        have B1 : Hid _ := Box.below Q.out.1 hb
        have B2 : Hid _ := Box.below Q.out.2 hb
        have T1 : Hid (Below w.heap.size w w1) := (by repeat (first | exact Below.refl _ _ | refine Below.al ?_ _ | refine Below.dr ?_ _ | refine Below.dw ?_ | refine Below.st ?_ (by first | exact Nat.le_refl _ | exact Nat.le_add_right _ _ | (simp; omega)) _ | (refine below_next ?_ (by assumption))))
        clear hb
        obtain ⟨⟨d0, d1⟩, e0, e1⟩ := B1.out
        obtain ⟨⟨c2, c3⟩, f2, f3⟩ := B2.out
        go_wp2_with fail
        all_goals
          first
          | (have E2 : max (g - 1) 0 = 0 := by omega
             obtain ⟨⟨c0, c1⟩, f0, f1⟩ := Box.set 0 0 B2.out
             exact bodyPost_ret (v := (Value.agg #[.int .i64 (0), .int .i64 (0)])) (by simp [results, Try.results47, go_sem, c0, c1]) rfl (Mk.g (by rw [e.out, E.out]; exact E2) (by rw [e.out, E.out]) (by have HZ := T1.out; exact (by repeat (first | exact Below.refl _ _ | refine Below.al ?_ _ | refine Below.dr ?_ _ | refine Below.dw ?_ | refine Below.st ?_ (by first | exact Nat.le_refl _ | exact Nat.le_add_right _ _ | (simp; omega)) _ | (refine below_next ?_ (by assumption)))))))
          | (have E2 : max (g - 1) 0 = g - 1 := by omega
             obtain ⟨⟨c0, c1⟩, f0, f1⟩ := Box.set (g - 1) 0 B2.out
             exact bodyPost_ret (v := (Value.agg #[.int .i64 (g - 1), .int .i64 (0)])) (by simp [results, Try.results47, go_sem, c0, c1]) rfl (Mk.g (by rw [e.out, E.out]; exact E2) (by rw [e.out, E.out]) (by have HZ := T1.out; exact (by repeat (first | exact Below.refl _ _ | refine Below.al ?_ _ | refine Below.dr ?_ _ | refine Below.dw ?_ | refine Below.st ?_ (by first | exact Nat.le_refl _ | exact Nat.le_add_right _ _ | (simp; omega)) _ | (refine below_next ?_ (by assumption)))))))
    · by_cases l : 0 < o
      · have E : Hid _ := ds_held C.out (h := o) l
        go_enter Try.func47, Try.ntmps47
        go_wp2_with fail
        refine (sDoorValid_c _ o _).mono ?_
        rintro e' w1 ⟨rfl, hb⟩
        have B1 : Hid _ := Box.below Q.out.1 hb
        have B2 : Hid _ := Box.below Q.out.2 hb
        have T1 : Hid (Below w.heap.size w w1) := (by repeat (first | exact Below.refl _ _ | refine Below.al ?_ _ | refine Below.dr ?_ _ | refine Below.dw ?_ | refine Below.st ?_ (by first | exact Nat.le_refl _ | exact Nat.le_add_right _ _ | (simp; omega)) _ | (refine below_next ?_ (by assumption))))
        clear hb
        obtain ⟨⟨d0, d1⟩, e0, e1⟩ := B1.out
        obtain ⟨⟨c2, c3⟩, f2, f3⟩ := B2.out
        have B5 : Hid _ := Box.set (g) (o - 1) B2.out
        go_wp2_with fail
        obtain ⟨⟨c0, c1⟩, f0, f1⟩ := B5.out
        exact bodyPost_ret (v := (Value.agg #[.int .i64 (g), .int .i64 (o - 1)])) (by simp [results, Try.results47, go_sem, c0, c1]) rfl (Mk.g (by rw [e.out, E.out]) (by rw [e.out, E.out]) (by have HZ := T1.out; exact (by repeat (first | exact Below.refl _ _ | refine Below.al ?_ _ | refine Below.dr ?_ _ | refine Below.dw ?_ | refine Below.st ?_ (by first | exact Nat.le_refl _ | exact Nat.le_add_right _ _ | (simp; omega)) _ | (refine below_next ?_ (by assumption))))))
      · have E : Hid _ := ds_down C.out (h := o) l
        go_enter Try.func47, Try.ntmps47
        go_wp2_with fail
        refine (sDoorValid_c _ o _).mono ?_
        rintro e' w1 ⟨rfl, hb⟩
        have B1 : Hid _ := Box.below Q.out.1 hb
        have B2 : Hid _ := Box.below Q.out.2 hb
        have T1 : Hid (Below w.heap.size w w1) := (by repeat (first | exact Below.refl _ _ | refine Below.al ?_ _ | refine Below.dr ?_ _ | refine Below.dw ?_ | refine Below.st ?_ (by first | exact Nat.le_refl _ | exact Nat.le_add_right _ _ | (simp; omega)) _ | (refine below_next ?_ (by assumption))))
        clear hb
        obtain ⟨⟨d0, d1⟩, e0, e1⟩ := B1.out
        obtain ⟨⟨c2, c3⟩, f2, f3⟩ := B2.out
        go_wp2_with fail
        all_goals
          first
          | (have E2 : max (g - 1) 0 = 0 := by omega
             obtain ⟨⟨c0, c1⟩, f0, f1⟩ := Box.set 0 0 B2.out
             exact bodyPost_ret (v := (Value.agg #[.int .i64 (0), .int .i64 (0)])) (by simp [results, Try.results47, go_sem, c0, c1]) rfl (Mk.g (by rw [e.out, E.out]; exact E2) (by rw [e.out, E.out]) (by have HZ := T1.out; exact (by repeat (first | exact Below.refl _ _ | refine Below.al ?_ _ | refine Below.dr ?_ _ | refine Below.dw ?_ | refine Below.st ?_ (by first | exact Nat.le_refl _ | exact Nat.le_add_right _ _ | (simp; omega)) _ | (refine below_next ?_ (by assumption)))))))
          | (have E2 : max (g - 1) 0 = g - 1 := by omega
             obtain ⟨⟨c0, c1⟩, f0, f1⟩ := Box.set (g - 1) 0 B2.out
             exact bodyPost_ret (v := (Value.agg #[.int .i64 (g - 1), .int .i64 (0)])) (by simp [results, Try.results47, go_sem, c0, c1]) rfl (Mk.g (by rw [e.out, E.out]; exact E2) (by rw [e.out, E.out]) (by have HZ := T1.out; exact (by repeat (first | exact Below.refl _ _ | refine Below.al ?_ _ | refine Below.dr ?_ _ | refine Below.dw ?_ | refine Below.st ?_ (by first | exact Nat.le_refl _ | exact Nat.le_add_right _ _ | (simp; omega)) _ | (refine below_next ?_ (by assumption)))))))
end Go.Proofs.Ytcecmikmmggngaa

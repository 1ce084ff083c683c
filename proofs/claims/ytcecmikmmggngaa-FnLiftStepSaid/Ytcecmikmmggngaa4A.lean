/- The contracts of chapter 4's functions of spec: LiftValid, LiftStep. -/
import Derived.Test.YtcecmikmmggngaaV
import Derived.Test.Ytcecmikmmggngaa4P
import Derived.Test.Ytcecmikmmggngaa3C
import Derived.Test.YtcecmikmmggngaaD
import Derived.Deep.RegionWith
namespace Go.Proofs.Ytcecmikmmggngaa
open Go.RowKit
set_option linter.unusedVariables false

theorem Mk.q {w w' : World} {a s g o a' s' g' o' : Int} (h : (a, s, g, o) = (a', s', g', o')) (hb : Below w.heap.size w w') : Mk w (Value.agg #[.int .i64 (a), .int .i64 (s), .int .i64 (g), .int .i64 (o)]) (.returned (Value.agg #[.int .i64 (a'), .int .i64 (s'), .int .i64 (g'), .int .i64 (o')])) w' := by
  simp only [Prod.mk.injEq] at h
  obtain ⟨rfl, rfl, rfl, rfl⟩ := h
  exact ⟨rfl, hb⟩
theorem st_cases (xs : List Int) (a s : Int) : ((s == 0) = true ∧ (0 ≤ fa xs a) ∧ StF xs a s) ∨ ((s == 0) = true ∧ ¬ (0 ≤ fa xs a) ∧ ¬ StF xs a s) ∨ ((s == 0) = false ∧ ¬ StF xs a s) := by
  by_cases h : s = 0
  · by_cases k : 0 ≤ fa xs a
    · exact .inl ⟨by simp [h], k, h, k⟩
    · exact .inr (.inl ⟨by simp [h], k, fun e => k e.2⟩)
  · exact .inr (.inr ⟨by simp [h], fun e => h e.1⟩)
set_option maxHeartbeats 2000000 in
theorem sLiftValid_c (b off cap : Nat) (xs : List Int) (a s g o : Int) (w : World) (hc : Ints w b off xs) (hm : xs.length ≤ maxLen) :
    Calls Try.prog 13 #[.slice (some ⟨b, off, none⟩) xs.length cap, (Value.agg #[.int .i64 (a), .int .i64 (s), .int .i64 (g), .int .i64 (o)])] w (Mk w (.bool (lvB xs a s g o))) := by
  have Q : Hid (BoxV (w.alloc (.cells #[.int .i64 (a), .int .i64 (s), .int .i64 (g), .int .i64 (o)] 29)) w.heap.size (L4 a s g o)) := BoxV.new w _ 29 (by simp) rfl
  have I0 : Hid (Ints (w.alloc (.cells #[.int .i64 (a), .int .i64 (s), .int .i64 (g), .int .i64 (o)] 29)) b off xs) := hc.below ((Below.refl _ _).alloc (Nat.le_refl _) _)
  have T0 : Hid (Below w.heap.size w (w.alloc (.cells #[.int .i64 (a), .int .i64 (s), .int .i64 (g), .int .i64 (o)] 29))) := (Below.refl _ _).alloc (Nat.le_refl _) _
  clear hc
  rcases st_cases xs a s with ⟨t1, t2, st⟩ | ⟨t1, t2, st⟩ | ⟨t1, st⟩
  · have ST : Hid _ := st
    clear st
    cases hf : fvB xs
    · have e : Hid _ := lvB_f (xs := xs) (a := a) (s := s) (g := g) (o := o) (fun h => by rw [fvB_t h.1] at hf; cases hf)
      go_enter Try.func13, Try.ntmps13
      go_wp2_with fail
      refine (sFloorAt_c b off cap xs a _ I0.out hm).mono ?_
      rintro e' w1 ⟨rfl, n1, rfl⟩
      go_wp2_with fail
      refine (sFloorsValid_c b off cap xs _ (Ints.drewN I0.out n1) hm).mono ?_
      rintro e' w1 ⟨rfl, n2, rfl⟩
      have B1 : Hid _ := BoxV.dr (BoxV.dr Q.out n1) n2
      have T1 : Hid (Below w.heap.size w (((w.alloc (.cells #[.int .i64 (a), .int .i64 (s), .int .i64 (g), .int .i64 (o)] 29)).drewN n1).drewN n2)) := Below.dr (Below.dr T0.out n1) n2
      obtain ⟨⟨c0, c1, c2, c3⟩, f0, f1, f2, f3⟩ := BoxV.c4 B1.out
      go_wp2_with fail
      go_ret
      exact Mk.b e.out (by have HZ := T1.out; exact (by repeat (first | exact Below.refl _ _ | refine Below.al ?_ _ | refine Below.dr ?_ _ | refine Below.dw ?_ | refine Below.st ?_ (by first | exact Nat.le_refl _ | exact Nat.le_add_right _ _ | (simp; omega)) _ | (refine below_next ?_ (by assumption)))))
    have F1 : FV xs := by
      by_cases h : FV xs
      · exact h
      · rw [fvB_f h] at hf; cases hf
    have HF1 : Hid _ := F1
    clear F1
    cases hv : mvB a s
    · have e : Hid _ := lvB_f (xs := xs) (a := a) (s := s) (g := g) (o := o) (fun h => by rw [mvB_t h.2.1] at hv; cases hv)
      go_enter Try.func13, Try.ntmps13
      go_wp2_with fail
      refine (sFloorAt_c b off cap xs a _ I0.out hm).mono ?_
      rintro e' w1 ⟨rfl, n1, rfl⟩
      go_wp2_with fail
      refine (sFloorsValid_c b off cap xs _ (Ints.drewN I0.out n1) hm).mono ?_
      rintro e' w1 ⟨rfl, n2, rfl⟩
      have B1 : Hid _ := BoxV.dr (BoxV.dr Q.out n1) n2
      have T1 : Hid (Below w.heap.size w (((w.alloc (.cells #[.int .i64 (a), .int .i64 (s), .int .i64 (g), .int .i64 (o)] 29)).drewN n1).drewN n2)) := Below.dr (Below.dr T0.out n1) n2
      obtain ⟨⟨c0, c1, c2, c3⟩, f0, f1, f2, f3⟩ := BoxV.c4 B1.out
      go_wp2_with fail
      refine (sMotionValid_c a s _).mono ?_
      rintro e' w2 ⟨rfl, hb⟩
      have B2 : Hid _ := BoxV.bel hb B1.out
      have T2 : Hid (Below w.heap.size w w2) := (by have HZ := T1.out; exact (by repeat (first | exact Below.refl _ _ | refine Below.al ?_ _ | refine Below.dr ?_ _ | refine Below.dw ?_ | refine Below.st ?_ (by first | exact Nat.le_refl _ | exact Nat.le_add_right _ _ | (simp; omega)) _ | (refine below_next ?_ (by assumption)))))
      clear hb c0 c1 c2 c3 f0 f1 f2 f3
      obtain ⟨⟨c0, c1, c2, c3⟩, f0, f1, f2, f3⟩ := BoxV.c4 B2.out
      go_wp2_with fail
      go_ret
      exact Mk.b e.out T2.out
    have HM1 : Hid _ := mvB_iff.1 hv
    cases hd : dvB g o
    · have e : Hid _ := lvB_f (xs := xs) (a := a) (s := s) (g := g) (o := o) (fun h => by rw [dvB_t h.2.2.1] at hd; cases hd)
      go_enter Try.func13, Try.ntmps13
      go_wp2_with fail
      refine (sFloorAt_c b off cap xs a _ I0.out hm).mono ?_
      rintro e' w1 ⟨rfl, n1, rfl⟩
      go_wp2_with fail
      refine (sFloorsValid_c b off cap xs _ (Ints.drewN I0.out n1) hm).mono ?_
      rintro e' w1 ⟨rfl, n2, rfl⟩
      have B1 : Hid _ := BoxV.dr (BoxV.dr Q.out n1) n2
      have T1 : Hid (Below w.heap.size w (((w.alloc (.cells #[.int .i64 (a), .int .i64 (s), .int .i64 (g), .int .i64 (o)] 29)).drewN n1).drewN n2)) := Below.dr (Below.dr T0.out n1) n2
      obtain ⟨⟨c0, c1, c2, c3⟩, f0, f1, f2, f3⟩ := BoxV.c4 B1.out
      go_wp2_with fail
      refine (sMotionValid_c a s _).mono ?_
      rintro e' w2 ⟨rfl, hb⟩
      have B2 : Hid _ := BoxV.bel hb B1.out
      have T2 : Hid (Below w.heap.size w w2) := (by have HZ := T1.out; exact (by repeat (first | exact Below.refl _ _ | refine Below.al ?_ _ | refine Below.dr ?_ _ | refine Below.dw ?_ | refine Below.st ?_ (by first | exact Nat.le_refl _ | exact Nat.le_add_right _ _ | (simp; omega)) _ | (refine below_next ?_ (by assumption)))))
      clear hb c0 c1 c2 c3 f0 f1 f2 f3
      obtain ⟨⟨c0, c1, c2, c3⟩, f0, f1, f2, f3⟩ := BoxV.c4 B2.out
      go_wp2_with fail
      refine (sDoorValid_c g o _).mono ?_
      rintro e' w3 ⟨rfl, hb⟩
      have B3 : Hid _ := BoxV.bel hb B2.out
      have T3 : Hid (Below w.heap.size w w3) := below_next T2.out hb
      clear hb c0 c1 c2 c3 f0 f1 f2 f3
      obtain ⟨⟨c0, c1, c2, c3⟩, f0, f1, f2, f3⟩ := BoxV.c4 B3.out
      go_wp2_with fail
      go_ret
      exact Mk.b e.out T3.out
    have HD1 : Hid _ := dvB_iff.1 hd
    by_cases hg : g = 0
    · have tg : (g == 0) = true := by simp [hg]
      have e : Hid _ := lvB_t (xs := xs) (a := a) (s := s) (g := g) (o := o) ⟨HF1.out, HM1.out, HD1.out, .inl hg⟩
      clear hg
      go_enter Try.func13, Try.ntmps13
      go_wp2_with fail
      refine (sFloorAt_c b off cap xs a _ I0.out hm).mono ?_
      rintro e' w1 ⟨rfl, n1, rfl⟩
      go_wp2_with fail
      refine (sFloorsValid_c b off cap xs _ (Ints.drewN I0.out n1) hm).mono ?_
      rintro e' w1 ⟨rfl, n2, rfl⟩
      have B1 : Hid _ := BoxV.dr (BoxV.dr Q.out n1) n2
      have T1 : Hid (Below w.heap.size w (((w.alloc (.cells #[.int .i64 (a), .int .i64 (s), .int .i64 (g), .int .i64 (o)] 29)).drewN n1).drewN n2)) := Below.dr (Below.dr T0.out n1) n2
      obtain ⟨⟨c0, c1, c2, c3⟩, f0, f1, f2, f3⟩ := BoxV.c4 B1.out
      go_wp2_with fail
      refine (sMotionValid_c a s _).mono ?_
      rintro e' w2 ⟨rfl, hb⟩
      have B2 : Hid _ := BoxV.bel hb B1.out
      have T2 : Hid (Below w.heap.size w w2) := (by have HZ := T1.out; exact (by repeat (first | exact Below.refl _ _ | refine Below.al ?_ _ | refine Below.dr ?_ _ | refine Below.dw ?_ | refine Below.st ?_ (by first | exact Nat.le_refl _ | exact Nat.le_add_right _ _ | (simp; omega)) _ | (refine below_next ?_ (by assumption)))))
      clear hb c0 c1 c2 c3 f0 f1 f2 f3
      obtain ⟨⟨c0, c1, c2, c3⟩, f0, f1, f2, f3⟩ := BoxV.c4 B2.out
      go_wp2_with fail
      refine (sDoorValid_c g o _).mono ?_
      rintro e' w3 ⟨rfl, hb⟩
      have B3 : Hid _ := BoxV.bel hb B2.out
      have T3 : Hid (Below w.heap.size w w3) := below_next T2.out hb
      clear hb c0 c1 c2 c3 f0 f1 f2 f3
      obtain ⟨⟨c0, c1, c2, c3⟩, f0, f1, f2, f3⟩ := BoxV.c4 B3.out
      go_wp2_with fail
      go_ret
      exact Mk.b e.out T3.out
    · have tg : (g == 0) = false := by simp [hg]
      have e : Hid _ := lvB_t (xs := xs) (a := a) (s := s) (g := g) (o := o) ⟨HF1.out, HM1.out, HD1.out, .inr ST.out⟩
      clear hg
      go_enter Try.func13, Try.ntmps13
      go_wp2_with fail
      refine (sFloorAt_c b off cap xs a _ I0.out hm).mono ?_
      rintro e' w1 ⟨rfl, n1, rfl⟩
      go_wp2_with fail
      refine (sFloorsValid_c b off cap xs _ (Ints.drewN I0.out n1) hm).mono ?_
      rintro e' w1 ⟨rfl, n2, rfl⟩
      have B1 : Hid _ := BoxV.dr (BoxV.dr Q.out n1) n2
      have T1 : Hid (Below w.heap.size w (((w.alloc (.cells #[.int .i64 (a), .int .i64 (s), .int .i64 (g), .int .i64 (o)] 29)).drewN n1).drewN n2)) := Below.dr (Below.dr T0.out n1) n2
      obtain ⟨⟨c0, c1, c2, c3⟩, f0, f1, f2, f3⟩ := BoxV.c4 B1.out
      go_wp2_with fail
      refine (sMotionValid_c a s _).mono ?_
      rintro e' w2 ⟨rfl, hb⟩
      have B2 : Hid _ := BoxV.bel hb B1.out
      have T2 : Hid (Below w.heap.size w w2) := (by have HZ := T1.out; exact (by repeat (first | exact Below.refl _ _ | refine Below.al ?_ _ | refine Below.dr ?_ _ | refine Below.dw ?_ | refine Below.st ?_ (by first | exact Nat.le_refl _ | exact Nat.le_add_right _ _ | (simp; omega)) _ | (refine below_next ?_ (by assumption)))))
      clear hb c0 c1 c2 c3 f0 f1 f2 f3
      obtain ⟨⟨c0, c1, c2, c3⟩, f0, f1, f2, f3⟩ := BoxV.c4 B2.out
      go_wp2_with fail
      refine (sDoorValid_c g o _).mono ?_
      rintro e' w3 ⟨rfl, hb⟩
      have B3 : Hid _ := BoxV.bel hb B2.out
      have T3 : Hid (Below w.heap.size w w3) := below_next T2.out hb
      clear hb c0 c1 c2 c3 f0 f1 f2 f3
      obtain ⟨⟨c0, c1, c2, c3⟩, f0, f1, f2, f3⟩ := BoxV.c4 B3.out
      go_wp2_with fail
      go_ret
      exact Mk.b (by rw [e.out]; first | done | (symm; exact decide_eq_true (by omega)) | (symm; exact decide_eq_false (by omega))) T3.out
  · have ST : Hid _ := st
    clear st
    cases hf : fvB xs
    · have e : Hid _ := lvB_f (xs := xs) (a := a) (s := s) (g := g) (o := o) (fun h => by rw [fvB_t h.1] at hf; cases hf)
      go_enter Try.func13, Try.ntmps13
      go_wp2_with fail
      refine (sFloorAt_c b off cap xs a _ I0.out hm).mono ?_
      rintro e' w1 ⟨rfl, n1, rfl⟩
      go_wp2_with fail
      refine (sFloorsValid_c b off cap xs _ (Ints.drewN I0.out n1) hm).mono ?_
      rintro e' w1 ⟨rfl, n2, rfl⟩
      have B1 : Hid _ := BoxV.dr (BoxV.dr Q.out n1) n2
      have T1 : Hid (Below w.heap.size w (((w.alloc (.cells #[.int .i64 (a), .int .i64 (s), .int .i64 (g), .int .i64 (o)] 29)).drewN n1).drewN n2)) := Below.dr (Below.dr T0.out n1) n2
      obtain ⟨⟨c0, c1, c2, c3⟩, f0, f1, f2, f3⟩ := BoxV.c4 B1.out
      go_wp2_with fail
      go_ret
      exact Mk.b e.out (by have HZ := T1.out; exact (by repeat (first | exact Below.refl _ _ | refine Below.al ?_ _ | refine Below.dr ?_ _ | refine Below.dw ?_ | refine Below.st ?_ (by first | exact Nat.le_refl _ | exact Nat.le_add_right _ _ | (simp; omega)) _ | (refine below_next ?_ (by assumption)))))
    have F1 : FV xs := by
      by_cases h : FV xs
      · exact h
      · rw [fvB_f h] at hf; cases hf
    have HF1 : Hid _ := F1
    clear F1
    cases hv : mvB a s
    · have e : Hid _ := lvB_f (xs := xs) (a := a) (s := s) (g := g) (o := o) (fun h => by rw [mvB_t h.2.1] at hv; cases hv)
      go_enter Try.func13, Try.ntmps13
      go_wp2_with fail
      refine (sFloorAt_c b off cap xs a _ I0.out hm).mono ?_
      rintro e' w1 ⟨rfl, n1, rfl⟩
      go_wp2_with fail
      refine (sFloorsValid_c b off cap xs _ (Ints.drewN I0.out n1) hm).mono ?_
      rintro e' w1 ⟨rfl, n2, rfl⟩
      have B1 : Hid _ := BoxV.dr (BoxV.dr Q.out n1) n2
      have T1 : Hid (Below w.heap.size w (((w.alloc (.cells #[.int .i64 (a), .int .i64 (s), .int .i64 (g), .int .i64 (o)] 29)).drewN n1).drewN n2)) := Below.dr (Below.dr T0.out n1) n2
      obtain ⟨⟨c0, c1, c2, c3⟩, f0, f1, f2, f3⟩ := BoxV.c4 B1.out
      go_wp2_with fail
      refine (sMotionValid_c a s _).mono ?_
      rintro e' w2 ⟨rfl, hb⟩
      have B2 : Hid _ := BoxV.bel hb B1.out
      have T2 : Hid (Below w.heap.size w w2) := (by have HZ := T1.out; exact (by repeat (first | exact Below.refl _ _ | refine Below.al ?_ _ | refine Below.dr ?_ _ | refine Below.dw ?_ | refine Below.st ?_ (by first | exact Nat.le_refl _ | exact Nat.le_add_right _ _ | (simp; omega)) _ | (refine below_next ?_ (by assumption)))))
      clear hb c0 c1 c2 c3 f0 f1 f2 f3
      obtain ⟨⟨c0, c1, c2, c3⟩, f0, f1, f2, f3⟩ := BoxV.c4 B2.out
      go_wp2_with fail
      go_ret
      exact Mk.b e.out T2.out
    have HM1 : Hid _ := mvB_iff.1 hv
    cases hd : dvB g o
    · have e : Hid _ := lvB_f (xs := xs) (a := a) (s := s) (g := g) (o := o) (fun h => by rw [dvB_t h.2.2.1] at hd; cases hd)
      go_enter Try.func13, Try.ntmps13
      go_wp2_with fail
      refine (sFloorAt_c b off cap xs a _ I0.out hm).mono ?_
      rintro e' w1 ⟨rfl, n1, rfl⟩
      go_wp2_with fail
      refine (sFloorsValid_c b off cap xs _ (Ints.drewN I0.out n1) hm).mono ?_
      rintro e' w1 ⟨rfl, n2, rfl⟩
      have B1 : Hid _ := BoxV.dr (BoxV.dr Q.out n1) n2
      have T1 : Hid (Below w.heap.size w (((w.alloc (.cells #[.int .i64 (a), .int .i64 (s), .int .i64 (g), .int .i64 (o)] 29)).drewN n1).drewN n2)) := Below.dr (Below.dr T0.out n1) n2
      obtain ⟨⟨c0, c1, c2, c3⟩, f0, f1, f2, f3⟩ := BoxV.c4 B1.out
      go_wp2_with fail
      refine (sMotionValid_c a s _).mono ?_
      rintro e' w2 ⟨rfl, hb⟩
      have B2 : Hid _ := BoxV.bel hb B1.out
      have T2 : Hid (Below w.heap.size w w2) := (by have HZ := T1.out; exact (by repeat (first | exact Below.refl _ _ | refine Below.al ?_ _ | refine Below.dr ?_ _ | refine Below.dw ?_ | refine Below.st ?_ (by first | exact Nat.le_refl _ | exact Nat.le_add_right _ _ | (simp; omega)) _ | (refine below_next ?_ (by assumption)))))
      clear hb c0 c1 c2 c3 f0 f1 f2 f3
      obtain ⟨⟨c0, c1, c2, c3⟩, f0, f1, f2, f3⟩ := BoxV.c4 B2.out
      go_wp2_with fail
      refine (sDoorValid_c g o _).mono ?_
      rintro e' w3 ⟨rfl, hb⟩
      have B3 : Hid _ := BoxV.bel hb B2.out
      have T3 : Hid (Below w.heap.size w w3) := below_next T2.out hb
      clear hb c0 c1 c2 c3 f0 f1 f2 f3
      obtain ⟨⟨c0, c1, c2, c3⟩, f0, f1, f2, f3⟩ := BoxV.c4 B3.out
      go_wp2_with fail
      go_ret
      exact Mk.b e.out T3.out
    have HD1 : Hid _ := dvB_iff.1 hd
    by_cases hg : g = 0
    · have tg : (g == 0) = true := by simp [hg]
      have e : Hid _ := lvB_t (xs := xs) (a := a) (s := s) (g := g) (o := o) ⟨HF1.out, HM1.out, HD1.out, .inl hg⟩
      clear hg
      go_enter Try.func13, Try.ntmps13
      go_wp2_with fail
      refine (sFloorAt_c b off cap xs a _ I0.out hm).mono ?_
      rintro e' w1 ⟨rfl, n1, rfl⟩
      go_wp2_with fail
      refine (sFloorsValid_c b off cap xs _ (Ints.drewN I0.out n1) hm).mono ?_
      rintro e' w1 ⟨rfl, n2, rfl⟩
      have B1 : Hid _ := BoxV.dr (BoxV.dr Q.out n1) n2
      have T1 : Hid (Below w.heap.size w (((w.alloc (.cells #[.int .i64 (a), .int .i64 (s), .int .i64 (g), .int .i64 (o)] 29)).drewN n1).drewN n2)) := Below.dr (Below.dr T0.out n1) n2
      obtain ⟨⟨c0, c1, c2, c3⟩, f0, f1, f2, f3⟩ := BoxV.c4 B1.out
      go_wp2_with fail
      refine (sMotionValid_c a s _).mono ?_
      rintro e' w2 ⟨rfl, hb⟩
      have B2 : Hid _ := BoxV.bel hb B1.out
      have T2 : Hid (Below w.heap.size w w2) := (by have HZ := T1.out; exact (by repeat (first | exact Below.refl _ _ | refine Below.al ?_ _ | refine Below.dr ?_ _ | refine Below.dw ?_ | refine Below.st ?_ (by first | exact Nat.le_refl _ | exact Nat.le_add_right _ _ | (simp; omega)) _ | (refine below_next ?_ (by assumption)))))
      clear hb c0 c1 c2 c3 f0 f1 f2 f3
      obtain ⟨⟨c0, c1, c2, c3⟩, f0, f1, f2, f3⟩ := BoxV.c4 B2.out
      go_wp2_with fail
      refine (sDoorValid_c g o _).mono ?_
      rintro e' w3 ⟨rfl, hb⟩
      have B3 : Hid _ := BoxV.bel hb B2.out
      have T3 : Hid (Below w.heap.size w w3) := below_next T2.out hb
      clear hb c0 c1 c2 c3 f0 f1 f2 f3
      obtain ⟨⟨c0, c1, c2, c3⟩, f0, f1, f2, f3⟩ := BoxV.c4 B3.out
      go_wp2_with fail
      go_ret
      exact Mk.b e.out T3.out
    · have tg : (g == 0) = false := by simp [hg]
      have e : Hid _ := lvB_f (xs := xs) (a := a) (s := s) (g := g) (o := o) (fun h => h.2.2.2.elim hg ST.out)
      clear hg
      go_enter Try.func13, Try.ntmps13
      go_wp2_with fail
      refine (sFloorAt_c b off cap xs a _ I0.out hm).mono ?_
      rintro e' w1 ⟨rfl, n1, rfl⟩
      go_wp2_with fail
      refine (sFloorsValid_c b off cap xs _ (Ints.drewN I0.out n1) hm).mono ?_
      rintro e' w1 ⟨rfl, n2, rfl⟩
      have B1 : Hid _ := BoxV.dr (BoxV.dr Q.out n1) n2
      have T1 : Hid (Below w.heap.size w (((w.alloc (.cells #[.int .i64 (a), .int .i64 (s), .int .i64 (g), .int .i64 (o)] 29)).drewN n1).drewN n2)) := Below.dr (Below.dr T0.out n1) n2
      obtain ⟨⟨c0, c1, c2, c3⟩, f0, f1, f2, f3⟩ := BoxV.c4 B1.out
      go_wp2_with fail
      refine (sMotionValid_c a s _).mono ?_
      rintro e' w2 ⟨rfl, hb⟩
      have B2 : Hid _ := BoxV.bel hb B1.out
      have T2 : Hid (Below w.heap.size w w2) := (by have HZ := T1.out; exact (by repeat (first | exact Below.refl _ _ | refine Below.al ?_ _ | refine Below.dr ?_ _ | refine Below.dw ?_ | refine Below.st ?_ (by first | exact Nat.le_refl _ | exact Nat.le_add_right _ _ | (simp; omega)) _ | (refine below_next ?_ (by assumption)))))
      clear hb c0 c1 c2 c3 f0 f1 f2 f3
      obtain ⟨⟨c0, c1, c2, c3⟩, f0, f1, f2, f3⟩ := BoxV.c4 B2.out
      go_wp2_with fail
      refine (sDoorValid_c g o _).mono ?_
      rintro e' w3 ⟨rfl, hb⟩
      have B3 : Hid _ := BoxV.bel hb B2.out
      have T3 : Hid (Below w.heap.size w w3) := below_next T2.out hb
      clear hb c0 c1 c2 c3 f0 f1 f2 f3
      obtain ⟨⟨c0, c1, c2, c3⟩, f0, f1, f2, f3⟩ := BoxV.c4 B3.out
      go_wp2_with fail
      go_ret
      exact Mk.b (by rw [e.out]; first | done | (symm; exact decide_eq_true (by omega)) | (symm; exact decide_eq_false (by omega))) T3.out
  · have ST : Hid _ := st
    clear st
    cases hf : fvB xs
    · have e : Hid _ := lvB_f (xs := xs) (a := a) (s := s) (g := g) (o := o) (fun h => by rw [fvB_t h.1] at hf; cases hf)
      go_enter Try.func13, Try.ntmps13
      go_wp2_with fail
      refine (sFloorsValid_c b off cap xs _ I0.out hm).mono ?_
      rintro e' w1 ⟨rfl, n2, rfl⟩
      have B1 : Hid _ := BoxV.dr Q.out n2
      have T1 : Hid (Below w.heap.size w ((w.alloc (.cells #[.int .i64 (a), .int .i64 (s), .int .i64 (g), .int .i64 (o)] 29)).drewN n2)) := Below.dr T0.out n2
      obtain ⟨⟨c0, c1, c2, c3⟩, f0, f1, f2, f3⟩ := BoxV.c4 B1.out
      go_wp2_with fail
      go_ret
      exact Mk.b e.out (by have HZ := T1.out; exact (by repeat (first | exact Below.refl _ _ | refine Below.al ?_ _ | refine Below.dr ?_ _ | refine Below.dw ?_ | refine Below.st ?_ (by first | exact Nat.le_refl _ | exact Nat.le_add_right _ _ | (simp; omega)) _ | (refine below_next ?_ (by assumption)))))
    have F1 : FV xs := by
      by_cases h : FV xs
      · exact h
      · rw [fvB_f h] at hf; cases hf
    have HF1 : Hid _ := F1
    clear F1
    cases hv : mvB a s
    · have e : Hid _ := lvB_f (xs := xs) (a := a) (s := s) (g := g) (o := o) (fun h => by rw [mvB_t h.2.1] at hv; cases hv)
      go_enter Try.func13, Try.ntmps13
      go_wp2_with fail
      refine (sFloorsValid_c b off cap xs _ I0.out hm).mono ?_
      rintro e' w1 ⟨rfl, n2, rfl⟩
      have B1 : Hid _ := BoxV.dr Q.out n2
      have T1 : Hid (Below w.heap.size w ((w.alloc (.cells #[.int .i64 (a), .int .i64 (s), .int .i64 (g), .int .i64 (o)] 29)).drewN n2)) := Below.dr T0.out n2
      obtain ⟨⟨c0, c1, c2, c3⟩, f0, f1, f2, f3⟩ := BoxV.c4 B1.out
      go_wp2_with fail
      refine (sMotionValid_c a s _).mono ?_
      rintro e' w2 ⟨rfl, hb⟩
      have B2 : Hid _ := BoxV.bel hb B1.out
      have T2 : Hid (Below w.heap.size w w2) := (by have HZ := T1.out; exact (by repeat (first | exact Below.refl _ _ | refine Below.al ?_ _ | refine Below.dr ?_ _ | refine Below.dw ?_ | refine Below.st ?_ (by first | exact Nat.le_refl _ | exact Nat.le_add_right _ _ | (simp; omega)) _ | (refine below_next ?_ (by assumption)))))
      clear hb c0 c1 c2 c3 f0 f1 f2 f3
      obtain ⟨⟨c0, c1, c2, c3⟩, f0, f1, f2, f3⟩ := BoxV.c4 B2.out
      go_wp2_with fail
      go_ret
      exact Mk.b e.out T2.out
    have HM1 : Hid _ := mvB_iff.1 hv
    cases hd : dvB g o
    · have e : Hid _ := lvB_f (xs := xs) (a := a) (s := s) (g := g) (o := o) (fun h => by rw [dvB_t h.2.2.1] at hd; cases hd)
      go_enter Try.func13, Try.ntmps13
      go_wp2_with fail
      refine (sFloorsValid_c b off cap xs _ I0.out hm).mono ?_
      rintro e' w1 ⟨rfl, n2, rfl⟩
      have B1 : Hid _ := BoxV.dr Q.out n2
      have T1 : Hid (Below w.heap.size w ((w.alloc (.cells #[.int .i64 (a), .int .i64 (s), .int .i64 (g), .int .i64 (o)] 29)).drewN n2)) := Below.dr T0.out n2
      obtain ⟨⟨c0, c1, c2, c3⟩, f0, f1, f2, f3⟩ := BoxV.c4 B1.out
      go_wp2_with fail
      refine (sMotionValid_c a s _).mono ?_
      rintro e' w2 ⟨rfl, hb⟩
      have B2 : Hid _ := BoxV.bel hb B1.out
      have T2 : Hid (Below w.heap.size w w2) := (by have HZ := T1.out; exact (by repeat (first | exact Below.refl _ _ | refine Below.al ?_ _ | refine Below.dr ?_ _ | refine Below.dw ?_ | refine Below.st ?_ (by first | exact Nat.le_refl _ | exact Nat.le_add_right _ _ | (simp; omega)) _ | (refine below_next ?_ (by assumption)))))
      clear hb c0 c1 c2 c3 f0 f1 f2 f3
      obtain ⟨⟨c0, c1, c2, c3⟩, f0, f1, f2, f3⟩ := BoxV.c4 B2.out
      go_wp2_with fail
      refine (sDoorValid_c g o _).mono ?_
      rintro e' w3 ⟨rfl, hb⟩
      have B3 : Hid _ := BoxV.bel hb B2.out
      have T3 : Hid (Below w.heap.size w w3) := below_next T2.out hb
      clear hb c0 c1 c2 c3 f0 f1 f2 f3
      obtain ⟨⟨c0, c1, c2, c3⟩, f0, f1, f2, f3⟩ := BoxV.c4 B3.out
      go_wp2_with fail
      go_ret
      exact Mk.b e.out T3.out
    have HD1 : Hid _ := dvB_iff.1 hd
    by_cases hg : g = 0
    · have tg : (g == 0) = true := by simp [hg]
      have e : Hid _ := lvB_t (xs := xs) (a := a) (s := s) (g := g) (o := o) ⟨HF1.out, HM1.out, HD1.out, .inl hg⟩
      clear hg
      go_enter Try.func13, Try.ntmps13
      go_wp2_with fail
      refine (sFloorsValid_c b off cap xs _ I0.out hm).mono ?_
      rintro e' w1 ⟨rfl, n2, rfl⟩
      have B1 : Hid _ := BoxV.dr Q.out n2
      have T1 : Hid (Below w.heap.size w ((w.alloc (.cells #[.int .i64 (a), .int .i64 (s), .int .i64 (g), .int .i64 (o)] 29)).drewN n2)) := Below.dr T0.out n2
      obtain ⟨⟨c0, c1, c2, c3⟩, f0, f1, f2, f3⟩ := BoxV.c4 B1.out
      go_wp2_with fail
      refine (sMotionValid_c a s _).mono ?_
      rintro e' w2 ⟨rfl, hb⟩
      have B2 : Hid _ := BoxV.bel hb B1.out
      have T2 : Hid (Below w.heap.size w w2) := (by have HZ := T1.out; exact (by repeat (first | exact Below.refl _ _ | refine Below.al ?_ _ | refine Below.dr ?_ _ | refine Below.dw ?_ | refine Below.st ?_ (by first | exact Nat.le_refl _ | exact Nat.le_add_right _ _ | (simp; omega)) _ | (refine below_next ?_ (by assumption)))))
      clear hb c0 c1 c2 c3 f0 f1 f2 f3
      obtain ⟨⟨c0, c1, c2, c3⟩, f0, f1, f2, f3⟩ := BoxV.c4 B2.out
      go_wp2_with fail
      refine (sDoorValid_c g o _).mono ?_
      rintro e' w3 ⟨rfl, hb⟩
      have B3 : Hid _ := BoxV.bel hb B2.out
      have T3 : Hid (Below w.heap.size w w3) := below_next T2.out hb
      clear hb c0 c1 c2 c3 f0 f1 f2 f3
      obtain ⟨⟨c0, c1, c2, c3⟩, f0, f1, f2, f3⟩ := BoxV.c4 B3.out
      go_wp2_with fail
      go_ret
      exact Mk.b e.out T3.out
    · have tg : (g == 0) = false := by simp [hg]
      have e : Hid _ := lvB_f (xs := xs) (a := a) (s := s) (g := g) (o := o) (fun h => h.2.2.2.elim hg ST.out)
      clear hg
      go_enter Try.func13, Try.ntmps13
      go_wp2_with fail
      refine (sFloorsValid_c b off cap xs _ I0.out hm).mono ?_
      rintro e' w1 ⟨rfl, n2, rfl⟩
      have B1 : Hid _ := BoxV.dr Q.out n2
      have T1 : Hid (Below w.heap.size w ((w.alloc (.cells #[.int .i64 (a), .int .i64 (s), .int .i64 (g), .int .i64 (o)] 29)).drewN n2)) := Below.dr T0.out n2
      obtain ⟨⟨c0, c1, c2, c3⟩, f0, f1, f2, f3⟩ := BoxV.c4 B1.out
      go_wp2_with fail
      refine (sMotionValid_c a s _).mono ?_
      rintro e' w2 ⟨rfl, hb⟩
      have B2 : Hid _ := BoxV.bel hb B1.out
      have T2 : Hid (Below w.heap.size w w2) := (by have HZ := T1.out; exact (by repeat (first | exact Below.refl _ _ | refine Below.al ?_ _ | refine Below.dr ?_ _ | refine Below.dw ?_ | refine Below.st ?_ (by first | exact Nat.le_refl _ | exact Nat.le_add_right _ _ | (simp; omega)) _ | (refine below_next ?_ (by assumption)))))
      clear hb c0 c1 c2 c3 f0 f1 f2 f3
      obtain ⟨⟨c0, c1, c2, c3⟩, f0, f1, f2, f3⟩ := BoxV.c4 B2.out
      go_wp2_with fail
      refine (sDoorValid_c g o _).mono ?_
      rintro e' w3 ⟨rfl, hb⟩
      have B3 : Hid _ := BoxV.bel hb B2.out
      have T3 : Hid (Below w.heap.size w w3) := below_next T2.out hb
      clear hb c0 c1 c2 c3 f0 f1 f2 f3
      obtain ⟨⟨c0, c1, c2, c3⟩, f0, f1, f2, f3⟩ := BoxV.c4 B3.out
      go_wp2_with fail
      go_ret
      exact Mk.b (by rw [e.out]; first | done | (symm; exact decide_eq_true (by omega)) | (symm; exact decide_eq_false (by omega))) T3.out
end Go.Proofs.Ytcecmikmmggngaa

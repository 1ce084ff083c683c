/- The contracts of movedBy, keptInside, l2Fits. -/
import Derived.Test.Ytpfllhiibkdfaaa2B
namespace Go.Proofs.Ytpfllhiibkdfaaa
open Go.RowKit
set_option linter.unusedVariables false

theorem Mk.g {w w' : World} {a b a' b' : Int} (h : a = a') (k : b = b') (hb : Below w.heap.size w w') : Mk w (Value.agg #[.int .i64 (a), .int .i64 (b)]) (.returned (.agg #[.int .i64 a', .int .i64 b'])) w' := ⟨by rw [h, k], hb⟩
theorem movedBy_c (a s v : Int) (w : World) (h1 : -1000 ≤ a) (h2 : a ≤ 1000) (h3 : -1000 ≤ v) (h4 : v ≤ 1000) : Calls Try.prog 43 #[(Value.agg #[.int .i64 (a), .int .i64 (s)]), .int .i64 v] w (Mk w (Value.agg #[.int .i64 (a + v), .int .i64 (v)])) := by
  go_enter Try.func43, Try.ntmps43
  go_wp2_with fail
  exact bodyPost_ret (v := .agg #[.int .i64 (a + v), .int .i64 v]) (by simp [results, Try.results43, go_sem]) rfl (Mk.g rfl rfl (by repeat (first | exact Below.refl _ _ | refine Below.al ?_ _ | refine Below.dr ?_ _ | refine Below.dw ?_ | refine Below.st ?_ (by first | exact Nat.le_refl _ | exact Nat.le_add_right _ _ | (simp; omega)) _ | (refine below_next ?_ (by assumption)))))
theorem keptInside_c (a s : Int) (w : World) : Calls Try.prog 44 #[(Value.agg #[.int .i64 (a), .int .i64 (s)])] w (Mk w (Value.agg #[.int .i64 ((kept a s).1), .int .i64 ((kept a s).2)])) := by
  rcases (by omega : a < 0 ∨ 60 < a ∨ (0 ≤ a ∧ a ≤ 60)) with g | g | g
  · have t1 : inB 0 a 60 = false := inB_f (by omega)
    have e : Hid _ := kept_lo (s := s) g
    go_enter Try.func44, Try.ntmps44
    go_wp2_with fail
    refine (isStep_c _ _).mono ?_
    rintro e' w2 ⟨rfl, n, rfl⟩
    go_wp2_with fail
    exact bodyPost_ret (v := .agg #[.int .i64 0, .int .i64 0]) (by simp [results, Try.results44, go_sem]) rfl (Mk.g (by rw [e.out]) (by rw [e.out]) (by repeat (first | exact Below.refl _ _ | refine Below.al ?_ _ | refine Below.dr ?_ _ | refine Below.dw ?_ | refine Below.st ?_ (by first | exact Nat.le_refl _ | exact Nat.le_add_right _ _ | (simp; omega)) _ | (refine below_next ?_ (by assumption)))))
  · have t1 : inB 0 a 60 = false := inB_f (by omega)
    have e : Hid _ := kept_hi (s := s) g
    go_enter Try.func44, Try.ntmps44
    go_wp2_with fail
    refine (isStep_c _ _).mono ?_
    rintro e' w2 ⟨rfl, n, rfl⟩
    go_wp2_with fail
    exact bodyPost_ret (v := .agg #[.int .i64 60, .int .i64 0]) (by simp [results, Try.results44, go_sem]) rfl (Mk.g (by rw [e.out]) (by rw [e.out]) (by repeat (first | exact Below.refl _ _ | refine Below.al ?_ _ | refine Below.dr ?_ _ | refine Below.dw ?_ | refine Below.st ?_ (by first | exact Nat.le_refl _ | exact Nat.le_add_right _ _ | (simp; omega)) _ | (refine below_next ?_ (by assumption)))))
  · have t1 : inB 0 a 60 = true := inB_t g
    have e : Hid _ := kept_in (s := s) g
    go_enter Try.func44, Try.ntmps44
    go_wp2_with fail
    refine (isStep_c _ _).mono ?_
    rintro e' w2 ⟨rfl, n, rfl⟩
    go_wp2_with fail
    exact bodyPost_ret (v := .agg #[.int .i64 a, .int .i64 s]) (by simp [results, Try.results44, go_sem]) rfl (Mk.g (by rw [e.out]) (by rw [e.out]) (by repeat (first | exact Below.refl _ _ | refine Below.al ?_ _ | refine Below.dr ?_ _ | refine Below.dw ?_ | refine Below.st ?_ (by first | exact Nat.le_refl _ | exact Nat.le_add_right _ _ | (simp; omega)) _ | (refine below_next ?_ (by assumption)))))
end Go.Proofs.Ytpfllhiibkdfaaa

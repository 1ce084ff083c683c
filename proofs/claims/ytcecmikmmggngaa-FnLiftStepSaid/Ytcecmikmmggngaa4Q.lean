/- The mathematics of the laws of LiftGo and LiftVisit: the ticks in a row. -/
import Derived.Test.Ytcecmikmmggngaa4P
import Derived.Test.Ytcecmikmmggngaa2N
namespace Go.Proofs.Ytcecmikmmggngaa
open Go.RowKit
set_option linter.unusedVariables false

/-- The car after n ticks without asking. -/
noncomputable def git (xs : List Int) (t : Int) : Nat → Q4 → Q4
  | 0, q => q
  | n + 1, q => ls xs t false false (git xs t n q)
theorem git_step {xs : List Int} {t : Int} {n : Nat} {q p : Q4} (h : git xs t n q = p) : git xs t (n + 1) q = ls xs t false false p := by
  show ls xs t false false (git xs t n q) = _; rw [h]
/-- While a door closes, its gap is not 0 before the last tick. -/
theorem drn_open {g o : Int} (h : DV g o) {k : Nat} (hk : (k : Int) < g + o) : 0 < (drn g o k [] []).1 := by
  have := drn_quiet h k (by omega)
  obtain ⟨k1, k2, k3, k4, k5⟩ := h
  rw [this]
  split
  · show 0 < g; omega
  · show 0 < g + o - k; omega
theorem drn_succ (g o : Int) (k : Nat) : drn g o (k + 1) [] [] = ds (drn g o k [] []).1 (drn g o k [] []).2 false false := by
  have : drn g o (k + 1) [] [] = ds (drn g o k [] []).1 (drn g o k [] []).2 (hasB [] k) (hasB [] k) := rfl
  rw [this, hasB_nil]
theorem git_door {xs : List Int} {t a s g o : Int} (h : DV g o) : ∀ k : Nat, (k : Int) ≤ g + o → git xs t k (a, s, g, o) = (a, s, (drn g o k [] []).1, (drn g o k [] []).2)
  | 0, _ => rfl
  | k + 1, hk => by
    rw [git_step (git_door h k (by omega)), ls_door (.inl (drn_open h (by omega))), drn_succ]
theorem ls_still {xs : List Int} {t a s : Int} : ls xs t false false (a, s, 0, 0) = ((ms a s (hgt xs t)).1, (ms a s (hgt xs t)).2, 0, 0) :=
  ls_run (by rintro (x | ⟨-, x⟩); exact absurd x (by decide); cases x)
theorem git_run {xs : List Int} {t a s g o : Int} (h : DV g o) {m : Nat} (hm : (m : Int) = g + o) : ∀ j : Nat, git xs t (m + j) (a, s, g, o) = ((it (hgt xs t) j (a, s)).1, (it (hgt xs t) j (a, s)).2, 0, 0)
  | 0 => by
    show git xs t m _ = _
    rw [git_door h m (by omega), drn_end h hm]; rfl
  | j + 1 => by
    show git xs t (m + j + 1) _ = _
    rw [git_step (git_run h hm j), ls_still]; rfl
/-- After LiftGo's ticks the car stands at the target, shut. -/
theorem lgo_end {xs : List Int} {t a s g o : Int} (h : LV xs a s g o) (k : tgB xs t = true) : ∃ n : Nat, lgo xs a s g o t = n ∧ n ≤ 1012 ∧ git xs t n (a, s, g, o) = (hgt xs t, 0, 0, 0) := by
  obtain ⟨N, hN, hN5, hit, -⟩ := mt_ok (mvB_t h.2.1) (hgt_in h.1 k)
  have h3 := h.2.2.1
  have h3' := h3
  obtain ⟨k1, k2, k3, k4, k5⟩ := h3
  obtain ⟨m, hm⟩ := Int.eq_ofNat_of_zero_le (show 0 ≤ g + o by omega)
  refine ⟨m + N, by rw [lgo_ok (lvB_t h) k, ← mtk_ok (mvB_t h.2.1) (hgt_in h.1 k), hN]; omega, by omega, ?_⟩
  rw [git_run h3' hm.symm N, hit]
/-- The door is open nowhere but where it was at first, and at the target. -/
theorem lit_inv {xs : List Int} {t a0 s0 g0 o0 : Int} (h : LV xs a0 s0 g0 o0) (k : tgB xs t = true) : ∀ n : Nat, ∃ a s g o, lit xs t n (a0, s0, g0, o0) = (a, s, g, o) ∧ LV xs a s g o ∧ (0 < g → a = a0 ∨ a = hgt xs t)
  | 0 => ⟨a0, s0, g0, o0, rfl, h, fun _ => .inl rfl⟩
  | n + 1 => by
    obtain ⟨a, s, g, o, e, hv, hi⟩ := lit_inv h k n
    have hs := lit_step e
    obtain ⟨a', s', g', o', e', hv'⟩ := ls_valid (u := hereB xs t (a, s, g, o)) (v := false) hv k
    refine ⟨a', s', g', o', by rw [hs, e'], hv', fun hg => ?_⟩
    by_cases c : 0 < g ∨ (stB xs a s = true ∧ hereB xs t (a, s, g, o) = true)
    · rw [ls_door c] at e'
      simp only [Prod.mk.injEq] at e'
      rw [← e'.1]
      rcases c with c | ⟨-, c⟩
      · exact hi c
      · by_cases d : Here xs t (a, s, g, o)
        · exact .inr d.1
        · rw [hereB_f d] at c; cases c
    · rw [ls_run c] at e'
      simp only [Prod.mk.injEq] at e'
      exact absurd (.inl (by rw [e'.2.2.1]; exact hg)) c
/-- LiftVisit's number. -/
theorem vt_some {xs : List Int} {t : Int} : ∀ (f : Nat) (a s g o : Int), LV xs a s g o → tgB xs t = true → mu xs t (a, s, g, o) ≤ f → ∃ n : Nat, n ≤ f ∧ Open xs t (lit xs t n (a, s, g, o)) ∧ ∀ j, j < n → ¬ Open xs t (lit xs t j (a, s, g, o))
  | 0, a, s, g, o, h, k, hf => by
    by_cases e : Open xs t (a, s, g, o)
    · exact ⟨0, by omega, e, by omega⟩
    · have := mu_step h k e; omega
  | f + 1, a, s, g, o, h, k, hf => by
    by_cases e : Open xs t (a, s, g, o)
    · exact ⟨0, by omega, e, by omega⟩
    · have hm := mu_step h k e
      obtain ⟨a', s', g', o', e', hv'⟩ := ls_valid (u := hereB xs t (a, s, g, o)) (v := false) h k
      rw [e'] at hm
      obtain ⟨n, hn, ho, hl⟩ := vt_some f a' s' g' o' hv' k (by omega)
      have sh : ∀ j, lit xs t (j + 1) (a, s, g, o) = lit xs t j (a', s', g', o') := by
        intro j
        induction j with
        | zero => show ls xs t (hereB xs t (a, s, g, o)) false (a, s, g, o) = _; rw [e']; rfl
        | succ j ih => rw [lit_step ih]; rfl
      refine ⟨n + 1, by omega, by rw [sh]; exact ho, fun j hj => ?_⟩
      cases j with
      | zero => exact e
      | succ j => rw [sh]; exact hl j (by omega)
theorem lvis_end {xs : List Int} {t a s g o : Int} (h : LV xs a s g o) (k : tgB xs t = true) : ∃ n : Nat, lvis xs a s g o t = n ∧ n ≤ 1017 ∧ Open xs t (lit xs t n (a, s, g, o)) ∧ ∀ j, j < n → ¬ Open xs t (lit xs t j (a, s, g, o)) := by
  obtain ⟨n, hn, ho, hl⟩ := vt_some 1017 a s g o h k (mu_bd h k)
  exact ⟨n, by rw [lvis_ok (lvB_t h) k]; exact vt_eq ⟨n, rfl, ho, hl⟩, hn, ho, hl⟩
end Go.Proofs.Ytcecmikmmggngaa

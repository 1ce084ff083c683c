/- The plain mathematics of LiftVisit's closed form. -/
import Derived.Test.Ytcecmikmmggngaa4Q
namespace Go.Proofs.Ytcecmikmmggngaa
open Go.RowKit
set_option linter.unusedVariables false

theorem it_later (t : Int) (p : Int × Int) : ∀ j, it t (j + 1) p = it t j (ms p.1 p.2 t)
  | 0 => rfl
  | j + 1 => by
    show ms (it t (j + 1) p).1 (it t (j + 1) p).2 t = _
    rw [it_later t p j]; rfl
/-- The number of ticks that are left, a tick before. -/
theorem mt_here (t : Int) : mt t 0 t = 0 := mt_eq ⟨0, rfl, rfl, by omega⟩
theorem mt_step {a s t : Int} (h : mvB a s = true) (k : inB 0 t 60 = true) (hne : (a, s) ≠ (t, 0)) : mt a s t = mt (ms a s t).1 (ms a s t).2 t + 1 := by
  obtain ⟨N, hN, -, hit, hl⟩ := mt_ok (ms_valid h k) k
  rw [mtk_ok (ms_valid h k) k] at hN
  rw [hN]
  refine mt_eq ⟨N + 1, by omega, by rw [it_later]; exact hit, fun j hj => ?_⟩
  cases j with
  | zero => exact hne
  | succ j => rw [it_later]; exact hl j (by omega)
theorem vt_next {xs : List Int} {t : Int} {q p : Q4} {r : Int} (e : ls xs t (hereB xs t q) false q = p) (hne : ¬ Open xs t q) (h : VT xs t p r) : VT xs t q (r + 1) := by
  obtain ⟨n, rfl, ho, hl⟩ := h
  have sh : ∀ j, lit xs t (j + 1) q = lit xs t j p := by
    intro j
    induction j with
    | zero => exact e
    | succ j ih => rw [lit_step ih]; rfl
  refine ⟨n + 1, by omega, by rw [sh]; exact ho, fun j hj => ?_⟩
  cases j with
  | zero => exact hne
  | succ j => rw [sh]; exact hl j (by omega)
theorem vt_clo {xs : List Int} {t : Int} (k : tgB xs t = true) : ∀ (f : Nat) (a s g o : Int), LV xs a s g o → mu xs t (a, s, g, o) ≤ f →
    (Here xs t (a, s, g, o) → VT xs t (a, s, g, o) (4 - g)) ∧ (¬ Here xs t (a, s, g, o) → VT xs t (a, s, g, o) (g + o + mt a s (hgt xs t) + 4)) := by
  intro f
  induction f with
  | zero =>
    intro a s g o h hf
    have d := h.2.2.1
    unfold DV at d
    by_cases e : Open xs t (a, s, g, o)
    · have e1 : 4 ≤ g := e.2
      have e2 : g = 4 := by omega
      exact ⟨fun _ => ⟨0, by omega, e, by omega⟩, fun x => absurd e.1 x⟩
    · have := mu_step h k e; omega
  | succ f ih =>
    intro a s g o h hf
    have d := h.2.2.1
    unfold DV at d
    by_cases e : Open xs t (a, s, g, o)
    · have e1 : 4 ≤ g := e.2
      have e2 : g = 4 := by omega
      exact ⟨fun _ => ⟨0, by omega, e, by omega⟩, fun x => absurd e.1 x⟩
    have hm := mu_step h k e
    obtain ⟨a', s', g', o', e', hv'⟩ := ls_valid (u := hereB xs t (a, s, g, o)) (v := false) h k
    have IH := ih a' s' g' o' hv' (by rw [e'] at hm; omega)
    have d' := hv'.2.2.1
    unfold DV at d'
    have e0 := e'
    constructor
    · intro H
      have H1 : a = hgt xs t := H.1
      have H2 : s = 0 := H.2
      have hg : g < 4 := by
        by_cases c : 4 ≤ g
        · exact absurd ⟨H, c⟩ e
        · omega
      have es : StF xs a s := by rw [H1, H2]; exact st_target h.1 k
      rw [hereB_t H, ls_door (.inr ⟨stB_t es, rfl⟩)] at e'
      simp only [Prod.mk.injEq] at e'
      obtain ⟨r1, r2, r3, r4⟩ := e'
      have H' : Here xs t (a', s', g', o') := ⟨r1 ▸ H1, r2 ▸ H2⟩
      have g1 : g' = g + 1 := by
        by_cases c : 4 ≤ g + 1
        · rw [ds_wide (.inl rfl) c] at r3; omega
        · rw [ds_up (.inl rfl) (by omega)] at r3; omega
      have := vt_next e0 e (IH.1 H')
      rw [show 4 - g = 4 - g' + 1 by omega]; exact this
    · intro H
      rw [hereB_f H] at e'
      by_cases c : 0 < g
      · rw [ls_door (.inl c)] at e'
        simp only [Prod.mk.injEq] at e'
        obtain ⟨r1, r2, r3, r4⟩ := e'
        subst r1 r2
        have H' : ¬ Here xs t (a, s, g', o') := H
        have g1 : g' + o' = g + o - 1 := by
          by_cases co : 0 < o
          · rw [ds_held (by simp) co] at r3 r4; simp only at r3 r4; omega
          · rw [ds_down (by simp) co] at r3 r4; simp only at r3 r4; omega
        have := vt_next e0 e (IH.2 H')
        rw [show g + o + mt a s (hgt xs t) + 4 = g' + o' + mt a s (hgt xs t) + 4 + 1 by omega]; exact this
      · have hr : ¬ (0 < g ∨ (stB xs a s = true ∧ false = true)) := by rintro (x | ⟨-, x⟩); exact c x; cases x
        rw [ls_run hr] at e'
        have ms1 := mt_step (mvB_t h.2.1) (hgt_in h.1 k) (fun x => by simp only [Prod.mk.injEq] at x; exact H ⟨x.1, x.2⟩)
        simp only [Prod.mk.injEq] at e'
        obtain ⟨r1, r2, r3, r4⟩ := e'
        rw [r1, r2] at ms1
        subst r3 r4
        have g0 : g = 0 := by omega
        have o0 : o = 0 := by omega
        by_cases H' : Here xs t (a', s', g, o)
        · have H1 : a' = hgt xs t := H'.1
          have H2 : s' = 0 := H'.2
          have m0 : mt a' s' (hgt xs t) = 0 := by rw [H1, H2]; exact mt_here _
          have := vt_next e0 e (IH.1 H')
          rw [show g + o + mt a s (hgt xs t) + 4 = 4 - g + 1 by omega]; exact this
        · have := vt_next e0 e (IH.2 H')
          rw [show g + o + mt a s (hgt xs t) + 4 = g + o + mt a' s' (hgt xs t) + 4 + 1 by omega]; exact this
theorem lvis_here {xs : List Int} {t a s g o : Int} (h : LV xs a s g o) (k : tgB xs t = true) (H : Here xs t (a, s, g, o)) : lvis xs a s g o t = 4 - g := by
  rw [lvis_ok (lvB_t h) k]; exact vt_eq ((vt_clo k _ a s g o h (Nat.le_refl _)).1 H)
theorem lvis_away {xs : List Int} {t a s g o : Int} (h : LV xs a s g o) (k : tgB xs t = true) (H : ¬ Here xs t (a, s, g, o)) : lvis xs a s g o t = lgo xs a s g o t + 4 := by
  rw [lvis_ok (lvB_t h) k, lgo_ok (lvB_t h) k]; exact vt_eq ((vt_clo k _ a s g o h (Nat.le_refl _)).2 H)
end Go.Proofs.Ytcecmikmmggngaa

/- The plain mathematics of interlocks (chapter 4). -/
import Derived.Test.Ytcecmikmmggngaa3P
import Derived.Test.Ytcecmikmmggngaa2F
namespace Go.Proofs.Ytcecmikmmggngaa
open Go.RowKit
set_option linter.unusedVariables false

/-- A car stands at a floor. -/
def StF (xs : List Int) (a s : Int) : Prop := s = 0 ∧ 0 ≤ fa xs a
noncomputable def stB (xs : List Int) (a s : Int) : Bool := tr (StF xs a s)
theorem stB_t {xs : List Int} {a s : Int} (h : StF xs a s) : stB xs a s = true := tr_true h
theorem stB_f {xs : List Int} {a s : Int} (h : ¬ StF xs a s) : stB xs a s = false := tr_false h
/-- What a valid car is. -/
def LV (xs : List Int) (a s g o : Int) : Prop := FV xs ∧ (0 ≤ a ∧ a ≤ 60 ∧ -5 ≤ s ∧ s ≤ 5) ∧ DV g o ∧ (g = 0 ∨ StF xs a s)
noncomputable def lvB (xs : List Int) (a s g o : Int) : Bool := tr (LV xs a s g o)
theorem lvB_t {xs : List Int} {a s g o : Int} (h : LV xs a s g o) : lvB xs a s g o = true := tr_true h
theorem lvB_f {xs : List Int} {a s g o : Int} (h : ¬ LV xs a s g o) : lvB xs a s g o = false := tr_false h
theorem lvB_iff {xs : List Int} {a s g o : Int} : lvB xs a s g o = true ↔ LV xs a s g o := by
  constructor
  · intro h
    by_cases k : LV xs a s g o
    · exact k
    · rw [lvB_f k] at h; cases h
  · exact lvB_t
/-- Four numbers. -/
abbrev Q4 := Int × Int × Int × Int
/-- The height of a target. -/
def hgt (xs : List Int) (t : Int) : Int := nth xs t.toNat
/-- A tick of a valid car. -/
noncomputable def ls (xs : List Int) (t : Int) (u v : Bool) (q : Q4) : Q4 :=
  @ite _ (0 < q.2.2.1 ∨ (stB xs q.1 q.2.1 = true ∧ u = true)) (Classical.propDecidable _) (q.1, q.2.1, (ds q.2.2.1 q.2.2.2 u v).1, (ds q.2.2.1 q.2.2.2 u v).2) ((ms q.1 q.2.1 (hgt xs t)).1, (ms q.1 q.2.1 (hgt xs t)).2, q.2.2.1, q.2.2.2)
theorem ls_door {xs : List Int} {t : Int} {u v : Bool} {a s g o : Int} (h : 0 < g ∨ (stB xs a s = true ∧ u = true)) : ls xs t u v (a, s, g, o) = (a, s, (ds g o u v).1, (ds g o u v).2) := by unfold ls; rw [if_pos h]
theorem ls_run {xs : List Int} {t : Int} {u v : Bool} {a s g o : Int} (h : ¬ (0 < g ∨ (stB xs a s = true ∧ u = true))) : ls xs t u v (a, s, g, o) = ((ms a s (hgt xs t)).1, (ms a s (hgt xs t)).2, g, o) := by unfold ls; rw [if_neg h]
/-- The target is one of the floors. -/
def tgB (xs : List Int) (t : Int) : Bool := inB 0 t (xs.length - 1)
/-- `LiftStep`. -/
noncomputable def lst (xs : List Int) (a s g o t : Int) (u v : Bool) : Q4 := if lvB xs a s g o = true ∧ tgB xs t = true then ls xs t u v (a, s, g, o) else (0, 0, 0, 0)
theorem lst_ok {xs : List Int} {a s g o t : Int} {u v : Bool} (h : lvB xs a s g o = true) (k : tgB xs t = true) : lst xs a s g o t u v = ls xs t u v (a, s, g, o) := by unfold lst; rw [if_pos ⟨h, k⟩]
theorem lst_bad {xs : List Int} {a s g o t : Int} {u v : Bool} (h : ¬ (lvB xs a s g o = true ∧ tgB xs t = true)) : lst xs a s g o t u v = (0, 0, 0, 0) := by unfold lst; rw [if_neg h]
theorem tgB_iff {xs : List Int} {t : Int} : tgB xs t = true ↔ 0 ≤ t ∧ t < xs.length := by unfold tgB; rw [inB_iff]; omega
theorem hgt_in {xs : List Int} {t : Int} (h : FV xs) (k : tgB xs t = true) : inB 0 (hgt xs t) 60 = true := by
  have := tgB_iff.1 k
  exact inB_t ⟨h.ge t.toNat (by omega), h.le t.toNat (by omega)⟩
theorem hgt_fa {xs : List Int} {t : Int} (h : FV xs) (k : tgB xs t = true) : 0 ≤ fa xs (hgt xs t) := by
  have := tgB_iff.1 k
  show 0 ≤ fa xs (nth xs t.toNat)
  rw [fa_at h t.toNat (by omega) rfl]; omega
theorem st_target {xs : List Int} {t : Int} (h : FV xs) (k : tgB xs t = true) : StF xs (hgt xs t) 0 := ⟨rfl, hgt_fa h k⟩
/-- A valid car is valid after a tick. -/
theorem ls_valid {xs : List Int} {t : Int} {a s g o : Int} (u v : Bool) (h : LV xs a s g o) (k : tgB xs t = true) : ∃ a' s' g' o', ls xs t u v (a, s, g, o) = (a', s', g', o') ∧ LV xs a' s' g' o' := by
  obtain ⟨h1, h2, h3, h4⟩ := h
  by_cases c : 0 < g ∨ (stB xs a s = true ∧ u = true)
  · refine ⟨_, _, _, _, ls_door c, h1, h2, ds_valid u v h3, .inr ?_⟩
    rcases c with c | ⟨c, -⟩
    · rcases h4 with h4 | h4
      · omega
      · exact h4
    · by_cases e : StF xs a s
      · exact e
      · rw [stB_f e] at c; cases c
  · refine ⟨_, _, _, _, ls_run c, h1, ?_, h3, .inl ?_⟩
    · exact mvB_iff.1 (ms_valid (mvB_t h2) (hgt_in h1 k))
    · have := h3.1; have : ¬ 0 < g := fun e => c (.inl e); omega
/-- What the law of LiftStep says. -/
theorem ls_law {xs : List Int} {t : Int} {a s g o : Int} {u v : Bool} {a' s' g' o' : Int} (h : LV xs a s g o) (e : ls xs t u v (a, s, g, o) = (a', s', g', o')) :
    ((a' = a ∧ s' = s ∧ (v = true → g ≤ g')) ∨ (g = 0 ∧ g' = 0)) := by
  by_cases c : 0 < g ∨ (stB xs a s = true ∧ u = true)
  · rw [ls_door c] at e
    simp only [Prod.mk.injEq] at e
    obtain ⟨rfl, rfl, e1, e2⟩ := e
    left
    refine ⟨rfl, rfl, fun hv => ?_⟩
    have := (ds_law (a := u) (b := v) h.2.2.1).1
    rw [e1] at this
    rcases this with ⟨_, x⟩ | x
    · rw [hv] at x; cases x
    · exact x
  · rw [ls_run c] at e
    simp only [Prod.mk.injEq] at e
    have := h.2.2.1.1
    have : ¬ 0 < g := fun e => c (.inl e)
    right
    exact ⟨by omega, by omega⟩
/-- `LiftGo`. -/
noncomputable def lgo (xs : List Int) (a s g o t : Int) : Int := if lvB xs a s g o = true ∧ tgB xs t = true then g + o + mt a s (hgt xs t) else -1
theorem lgo_ok {xs : List Int} {a s g o t : Int} (h : lvB xs a s g o = true) (k : tgB xs t = true) : lgo xs a s g o t = g + o + mt a s (hgt xs t) := by unfold lgo; rw [if_pos ⟨h, k⟩]
theorem lgo_bad {xs : List Int} {a s g o t : Int} (h : ¬ (lvB xs a s g o = true ∧ tgB xs t = true)) : lgo xs a s g o t = -1 := by unfold lgo; rw [if_neg h]
/-- The car stands at the target. -/
def Here (xs : List Int) (t : Int) (q : Q4) : Prop := q.1 = hgt xs t ∧ q.2.1 = 0
/-- It stands open there. -/
def Open (xs : List Int) (t : Int) (q : Q4) : Prop := Here xs t q ∧ 4 ≤ q.2.2.1
noncomputable def hereB (xs : List Int) (t : Int) (q : Q4) : Bool := tr (Here xs t q)
/-- The car after n ticks in which it is asked to open where it is driven to. -/
noncomputable def lit (xs : List Int) (t : Int) : Nat → Q4 → Q4
  | 0, q => q
  | n + 1, q => ls xs t (hereB xs t (lit xs t n q)) false (lit xs t n q)
/-- It stands open there after n ticks, and not before. -/
def VT (xs : List Int) (t : Int) (q : Q4) (r : Int) : Prop := ∃ n : Nat, r = n ∧ Open xs t (lit xs t n q) ∧ ∀ j, j < n → ¬ Open xs t (lit xs t j q)
theorem vt_eq {xs : List Int} {t : Int} {q : Q4} {r : Int} (h : VT xs t q r) : the (VT xs t q) = r := by
  refine the_eq h fun s hs => ?_
  obtain ⟨n, rfl, hn, hl⟩ := h
  obtain ⟨m, rfl, hm, hk⟩ := hs
  rcases Nat.lt_trichotomy n m with g | g | g
  · exact absurd hn (hk n g)
  · rw [g]
  · exact absurd hm (hl m g)
/-- `LiftVisit`. -/
noncomputable def lvis (xs : List Int) (a s g o t : Int) : Int := if lvB xs a s g o = true ∧ tgB xs t = true then the (VT xs t (a, s, g, o)) else -1
theorem lvis_ok {xs : List Int} {a s g o t : Int} (h : lvB xs a s g o = true) (k : tgB xs t = true) : lvis xs a s g o t = the (VT xs t (a, s, g, o)) := by unfold lvis; rw [if_pos ⟨h, k⟩]
theorem lvis_bad {xs : List Int} {a s g o t : Int} (h : ¬ (lvB xs a s g o = true ∧ tgB xs t = true)) : lvis xs a s g o t = -1 := by unfold lvis; rw [if_neg h]
/-- What is left at most until the car stands open at its target. -/
noncomputable def mu (xs : List Int) (t : Int) (q : Q4) : Nat := @ite _ (Here xs t q) (Classical.propDecidable _) (4 - q.2.2.1).toNat ((q.2.2.1 + q.2.2.2).toNat + lft q.1 q.2.1 (hgt xs t) + 5)
theorem mu_here {xs : List Int} {t : Int} {q : Q4} (h : Here xs t q) : mu xs t q = (4 - q.2.2.1).toNat := by unfold mu; rw [if_pos h]
theorem mu_away {xs : List Int} {t : Int} {q : Q4} (h : ¬ Here xs t q) : mu xs t q = (q.2.2.1 + q.2.2.2).toNat + lft q.1 q.2.1 (hgt xs t) + 5 := by unfold mu; rw [if_neg h]
theorem hereB_t {xs : List Int} {t : Int} {q : Q4} (h : Here xs t q) : hereB xs t q = true := tr_true h
theorem hereB_f {xs : List Int} {t : Int} {q : Q4} (h : ¬ Here xs t q) : hereB xs t q = false := tr_false h
theorem mu_bd {xs : List Int} {t a s g o : Int} (h : LV xs a s g o) (k : tgB xs t = true) : mu xs t (a, s, g, o) ≤ 1017 := by
  have h3 := h.2.2.1
  unfold DV at h3
  by_cases e : Here xs t (a, s, g, o)
  · rw [mu_here e]; show (4 - g).toNat ≤ 1017; omega
  · rw [mu_away e]
    have := lft_bd (mvB_t h.2.1) (hgt_in h.1 k)
    show (g + o).toNat + lft a s (hgt xs t) + 5 ≤ 1017; omega
/-- A tick leaves less. -/
theorem mu_step {xs : List Int} {t a s g o : Int} (h : LV xs a s g o) (k : tgB xs t = true) (hne : ¬ Open xs t (a, s, g, o)) : mu xs t (ls xs t (hereB xs t (a, s, g, o)) false (a, s, g, o)) < mu xs t (a, s, g, o) := by
  obtain ⟨h1, h2, h3, h4⟩ := h
  have h3' := h3
  obtain ⟨d1, d2, d3, d4, d5⟩ := h3
  by_cases e : Here xs t (a, s, g, o)
  · have hg : g < 4 := by
      by_cases c : 4 ≤ g
      · exact absurd ⟨e, c⟩ hne
      · omega
    have es : StF xs a s := by
      obtain ⟨e1, e2⟩ := e
      show s = 0 ∧ 0 ≤ fa xs a
      have e1' : a = hgt xs t := e1
      rw [e1']; exact ⟨e2, hgt_fa h1 k⟩
    rw [hereB_t e, ls_door (.inr ⟨stB_t es, rfl⟩), mu_here e]
    have e' : Here xs t (a, s, (ds g o true false).1, (ds g o true false).2) := e
    rw [mu_here e']
    show (4 - (ds g o true false).1).toNat < (4 - g).toNat
    by_cases c : 4 ≤ g + 1
    · rw [ds_wide (.inl rfl) c]; show (4 - 4 : Int).toNat < _; omega
    · rw [ds_up (.inl rfl) (by omega)]; show (4 - (g + 1)).toNat < _; omega
  · rw [hereB_f e, mu_away e]
    by_cases c : 0 < g
    · rw [ls_door (.inl c)]
      have e' : ¬ Here xs t (a, s, (ds g o false false).1, (ds g o false false).2) := e
      rw [mu_away e']
      show ((ds g o false false).1 + (ds g o false false).2).toNat + lft a s (hgt xs t) + 5 < (g + o).toNat + lft a s (hgt xs t) + 5
      by_cases co : 0 < o
      · rw [ds_held (by simp) co]; show (g + (o - 1)).toNat + _ + 5 < _; omega
      · rw [ds_down (by simp) co]; show (max (g - 1) 0 + 0).toNat + _ + 5 < _; omega
    · have hr : ¬ (0 < g ∨ (stB xs a s = true ∧ false = true)) := by rintro (x | ⟨-, x⟩); exact c x; cases x
      rw [ls_run hr]
      have hl := lft_step (mvB_t h2) (hgt_in h1 k) (fun x => e x)
      have g0 : g = 0 := by omega
      have o0 : o = 0 := by omega
      by_cases e' : Here xs t ((ms a s (hgt xs t)).1, (ms a s (hgt xs t)).2, g, o)
      · rw [mu_here e']; show (4 - g).toNat < (g + o).toNat + lft a s (hgt xs t) + 5; omega
      · rw [mu_away e']; show (g + o).toNat + lft (ms a s (hgt xs t)).1 (ms a s (hgt xs t)).2 (hgt xs t) + 5 < (g + o).toNat + lft a s (hgt xs t) + 5; omega
theorem lit_step {xs : List Int} {t : Int} {n : Nat} {q p : Q4} (h : lit xs t n q = p) : lit xs t (n + 1) q = ls xs t (hereB xs t p) false p := by
  show ls xs t (hereB xs t (lit xs t n q)) false (lit xs t n q) = _; rw [h]
end Go.Proofs.Ytcecmikmmggngaa

/- The plain mathematics of motion (chapter 2). -/
import Derived.Test.YteeokegkbhpbcaaPre
namespace Go.Proofs.Yteeokegkbhpbcaa
open Go.RowKit
set_option linter.unusedVariables false
set_option linter.unusedSimpArgs false

/-- The braking way. -/
def bw (s : Int) : Int := if s = 2 then 1 else if s = 3 then 3 else if s = 4 then 6 else if s = 5 then 10 else if s = -2 then -1 else if s = -3 then -3 else if s = -4 then -6 else if s = -5 then -10 else 0
theorem sp_cases {s : Int} (h : -5 ≤ s ∧ s ≤ 5) : s = -5 ∨ s = -4 ∨ s = -3 ∨ s = -2 ∨ s = -1 ∨ s = 0 ∨ s = 1 ∨ s = 2 ∨ s = 3 ∨ s = 4 ∨ s = 5 := by omega
theorem bw_bad {s : Int} (h : ¬ (-5 ≤ s ∧ s ≤ 5)) : bw s = 0 := by
  unfold bw; repeat (rw [if_neg (by omega)])
theorem bw_bd (s : Int) : -10 ≤ bw s ∧ bw s ≤ 10 := by unfold bw; omega
/-- A valid car. -/
def mvB (a s : Int) : Bool := decide (0 ≤ a ∧ a ≤ 60 ∧ -5 ≤ s ∧ s ≤ 5)
theorem mvB_t {a s : Int} (h : 0 ≤ a ∧ a ≤ 60 ∧ -5 ≤ s ∧ s ≤ 5) : mvB a s = true := by unfold mvB; exact decide_eq_true h
theorem mvB_f {a s : Int} (h : ¬ (0 ≤ a ∧ a ≤ 60 ∧ -5 ≤ s ∧ s ≤ 5)) : mvB a s = false := by unfold mvB; exact decide_eq_false h
theorem mvB_iff {a s : Int} : mvB a s = true ↔ (0 ≤ a ∧ a ≤ 60 ∧ -5 ≤ s ∧ s ≤ 5) := by unfold mvB; exact decide_eq_true_iff
theorem inB_iff {lo n hi : Int} : inB lo n hi = true ↔ (lo ≤ n ∧ n ≤ hi) := by unfold inB; exact decide_eq_true_iff
/-- What a car and a target must be. -/
def CS (a s t : Int) : Prop := (0 ≤ a ∧ a ≤ 60 ∧ -5 ≤ s ∧ s ≤ 5) ∧ (0 ≤ t ∧ t ≤ 60) ∧ (0 < s → a + bw s ≤ t) ∧ (s < 0 → t ≤ a + bw s)
instance (a s t : Int) : Decidable (CS a s t) := by unfold CS; infer_instance
/-- `CanStop`. -/
def csB (a s t : Int) : Bool := decide (CS a s t)
theorem csB_t {a s t : Int} (h : CS a s t) : csB a s t = true := decide_eq_true h
theorem csB_f {a s t : Int} (h : ¬ CS a s t) : csB a s t = false := decide_eq_false h
theorem csB_iff {a s t : Int} : csB a s t = true ↔ CS a s t := by unfold csB; exact decide_eq_true_iff
def sgn (x y : Int) : Int := if x < y then -1 else if y < x then 1 else 0
def slow (s : Int) : Int := s - sgn s 0
/-- The position and the speed, kept inside. -/
def kept (a s : Int) : Int × Int := if a < 0 then (0, 0) else if 60 < a then (60, 0) else (a, s)
/-- The speed of the next tick. -/
def ns (a s t : Int) : Int :=
  if csB a s t = true then (if csB (a + (s + sgn t a)) (s + sgn t a) t = true then s + sgn t a else if csB (a + s) s t = true then s else slow s) else slow s
/-- `MotionStep` of what is valid. -/
def ms (a s t : Int) : Int × Int := kept (a + ns a s t) (ns a s t)
/-- `MotionStep`. -/
def mst (a s t : Int) : Int × Int := if mvB a s = true ∧ inB 0 t 60 = true then ms a s t else (0, 0)
theorem mst_ok {a s t : Int} (h : mvB a s = true) (k : inB 0 t 60 = true) : mst a s t = ms a s t := by unfold mst; rw [if_pos ⟨h, k⟩]
theorem mst_bad {a s t : Int} (h : ¬ (mvB a s = true ∧ inB 0 t 60 = true)) : mst a s t = (0, 0) := by unfold mst; rw [if_neg h]

theorem sgn_lt {x y : Int} (h : x < y) : sgn x y = -1 := by unfold sgn; rw [if_pos h]
theorem sgn_gt {x y : Int} (h : y < x) : sgn x y = 1 := by unfold sgn; rw [if_neg (by omega), if_pos h]
theorem sgn_eq (x : Int) : sgn x x = 0 := by unfold sgn; rw [if_neg (by omega), if_neg (by omega)]
theorem sgn_bd (x y : Int) : -1 ≤ sgn x y ∧ sgn x y ≤ 1 := by unfold sgn; omega
theorem slow_bd {s : Int} (h : -5 ≤ s ∧ s ≤ 5) : -5 ≤ slow s ∧ slow s ≤ 5 := by unfold slow sgn; omega
theorem kept_in {a s : Int} (h : 0 ≤ a ∧ a ≤ 60) : kept a s = (a, s) := by unfold kept; rw [if_neg (by omega), if_neg (by omega)]
theorem kept_lo {a s : Int} (h : a < 0) : kept a s = (0, 0) := by unfold kept; rw [if_pos h]
theorem kept_hi {a s : Int} (h : 60 < a) : kept a s = (60, 0) := by unfold kept; rw [if_neg (by omega), if_pos h]
/-- The next speed, case by case. -/
theorem ns_cases {a s t : Int} (hs : -5 ≤ s ∧ s ≤ 5) :
    (CS a s t ∧ ((CS (a + (s + sgn t a)) (s + sgn t a) t ∧ ns a s t = s + sgn t a) ∨ (¬ CS (a + (s + sgn t a)) (s + sgn t a) t ∧ CS (a + s) s t ∧ ns a s t = s) ∨ (¬ CS (a + (s + sgn t a)) (s + sgn t a) t ∧ ¬ CS (a + s) s t ∧ ns a s t = slow s))) ∨ (¬ CS a s t ∧ ns a s t = slow s) := by
  unfold ns
  by_cases h1 : CS a s t
  · by_cases h2 : CS (a + (s + sgn t a)) (s + sgn t a) t
    · exact .inl ⟨h1, .inl ⟨h2, by rw [if_pos (csB_t h1), if_pos (csB_t h2)]⟩⟩
    · by_cases h3 : CS (a + s) s t
      · exact .inl ⟨h1, .inr (.inl ⟨h2, h3, by rw [if_pos (csB_t h1), if_neg (by rw [csB_f h2]; simp), if_pos (csB_t h3)]⟩)⟩
      · exact .inl ⟨h1, .inr (.inr ⟨h2, h3, by rw [if_pos (csB_t h1), if_neg (by rw [csB_f h2]; simp), if_neg (by rw [csB_f h3]; simp)]⟩)⟩
  · exact .inr ⟨h1, by rw [if_neg (by rw [csB_f h1]; simp)]⟩
theorem bwv : bw (-6) = 0 ∧ bw (-5) = -10 ∧ bw (-4) = -6 ∧ bw (-3) = -3 ∧ bw (-2) = -1 ∧ bw (-1) = 0 ∧ bw 0 = 0 ∧ bw 1 = 0 ∧ bw 2 = 1 ∧ bw 3 = 3 ∧ bw 4 = 6 ∧ bw 5 = 10 ∧ bw 6 = 0 := by decide

/-- What a car that can stop does next, as plain inequalities: it can stop again, it has not gone past, it came nearer. -/
def Nxt (a s t n : Int) : Prop := CS (a + n) n t ∧ (t < a → t ≤ a + n) ∧ (a < t → a + n ≤ t) ∧ (a = t → a + n = t) ∧ -1 ≤ n - s ∧ n - s ≤ 1 ∧ (a < t → 1 ≤ n ∧ 0 ≤ s) ∧ (t < a → n ≤ -1 ∧ s ≤ 0) ∧ (t = a → n = 0 ∧ -1 ≤ s ∧ s ≤ 1)
theorem cs_next {a s t : Int} (h : CS a s t) : Nxt a s t (ns a s t) := by
  have hs : -5 ≤ s ∧ s ≤ 5 := h.1.2.2
  have k := ns_cases (a := a) (t := t) hs
  generalize ns a s t = n at *
  obtain ⟨b0, b1, b2, b3, b4, b5, b6, b7, b8, b9, b10, b11, b12⟩ := bwv
  rcases Int.lt_trichotomy t a with g | g | g
  case' inl => rw [sgn_lt g] at k
  case' inr.inl => subst g; rw [sgn_eq] at k
  case' inr.inr => rw [sgn_gt g] at k
  all_goals
    rcases sp_cases hs with e | e | e | e | e | e | e | e | e | e | e
    all_goals
      subst e
      simp only [slow, sgn, Int.reduceAdd, Int.reduceLT, Int.reduceNeg, Int.reduceSub, if_true, if_false] at k
      rcases k with ⟨-, ⟨k, e⟩ | ⟨k, k2, e⟩ | ⟨k, k2, e⟩⟩ | ⟨k, e⟩
      all_goals
        subst e
        unfold Nxt
        unfold CS at *
        simp only [b0, b1, b2, b3, b4, b5, b6, b7, b8, b9, b10, b11, b12, Int.reduceLT, Int.reduceNeg, true_imp_iff, false_imp_iff, and_true, true_and] at h k ⊢
        omega
end Go.Proofs.Yteeokegkbhpbcaa

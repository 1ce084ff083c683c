/- The contract of MotionStep, spec. -/
import Derived.Test.Ytpfllhiibkdfaaa2C
namespace Go.Proofs.Ytpfllhiibkdfaaa
open Go.RowKit
set_option linter.unusedVariables false

/-- The best speed of the first n tries: the last that fits, or the first one. -/
def bU (a s t : Int) : Nat → Int × Bool
  | 0 => (0, false)
  | n + 1 => if csB (a + (s + ((n : Int) - 1))) (s + ((n : Int) - 1)) t = true then (s + ((n : Int) - 1), true) else bU a s t n
def bD (a s t : Int) : Nat → Int × Bool
  | 0 => (0, false)
  | n + 1 => if csB (a + (s + ((n : Int) - 1))) (s + ((n : Int) - 1)) t = true ∧ (bD a s t n).2 = false then (s + ((n : Int) - 1), true) else bD a s t n
/-- The best speed after the tries before d. -/
def bst (up : Bool) (a s t d : Int) : Int × Bool := if up = true then bU a s t (d + 1).toNat else bD a s t (d + 1).toNat
theorem bst_start (up : Bool) (a s t : Int) : bst up a s t (-1) = (0, false) := by unfold bst; cases up <;> rfl
theorem bst_no {up : Bool} {a s t d : Int} (h0 : -1 ≤ d) (h : csB (a + (s + d)) (s + d) t = false) : bst up a s t (d + 1) = bst up a s t d := by
  obtain ⟨n, rfl⟩ : ∃ n : Nat, d = (n : Int) - 1 := ⟨(d + 1).toNat, by omega⟩
  have e1 : ((n : Int) - 1 + 1 + 1).toNat = n + 1 := by omega
  have e2 : ((n : Int) - 1 + 1).toNat = n := by omega
  unfold bst
  rw [e1, e2]
  cases up
  · show bD a s t (n + 1) = bD a s t n
    rw [bD, if_neg (by rw [h]; simp)]
  · show bU a s t (n + 1) = bU a s t n
    rw [bU, if_neg (by rw [h]; simp)]
theorem bst_yes {up : Bool} {a s t d : Int} (h0 : -1 ≤ d) (h : csB (a + (s + d)) (s + d) t = true) (k : up = true ∨ (bst up a s t d).2 = false) : bst up a s t (d + 1) = (s + d, true) := by
  obtain ⟨n, rfl⟩ : ∃ n : Nat, d = (n : Int) - 1 := ⟨(d + 1).toNat, by omega⟩
  have e1 : ((n : Int) - 1 + 1 + 1).toNat = n + 1 := by omega
  have e2 : ((n : Int) - 1 + 1).toNat = n := by omega
  unfold bst at *
  rw [e1]
  rw [e2] at k
  cases up
  · show bD a s t (n + 1) = _
    rw [bD, if_pos ⟨h, by simpa using k⟩]
  · show bU a s t (n + 1) = _
    rw [bU, if_pos h]
theorem bst_keep {a s t d : Int} (h0 : -1 ≤ d) (k : (bst false a s t d).2 = true) : bst false a s t (d + 1) = bst false a s t d := by
  obtain ⟨n, rfl⟩ : ∃ n : Nat, d = (n : Int) - 1 := ⟨(d + 1).toNat, by omega⟩
  have e1 : ((n : Int) - 1 + 1 + 1).toNat = n + 1 := by omega
  have e2 : ((n : Int) - 1 + 1).toNat = n := by omega
  unfold bst at *
  rw [e2] at k
  rw [e1, e2]
  show bD a s t (n + 1) = bD a s t n
  rw [bD, if_neg (by intro h; have := h.2; simp at k; rw [k] at this; cases this)]
theorem cs_sp {a s t : Int} (h : CS a s t) : -5 ≤ s ∧ s ≤ 5 := h.1.2.2
/-- What was found first goes down to s - 1, what was found last up to s + 1; what was found lies below the try that is next. -/
theorem bst_lt (up : Bool) (a s t : Int) : ∀ n : Nat, ((bst up a s t ((n : Int) - 1)).2 = true → (bst up a s t ((n : Int) - 1)).1 < s + ((n : Int) - 1)) ∧ ((bst up a s t ((n : Int) - 1)).2 = false → (bst up a s t ((n : Int) - 1)).1 = 0) ∧ ((bst up a s t ((n : Int) - 1)).2 = true → CS (a + (bst up a s t ((n : Int) - 1)).1) (bst up a s t ((n : Int) - 1)).1 t) := by
  intro n
  induction n with
  | zero => rw [show ((0 : Nat) : Int) - 1 = -1 from rfl, bst_start]; simp
  | succ n ih =>
    have e : (((n + 1 : Nat) : Int) - 1) = ((n : Int) - 1) + 1 := by omega
    rw [e]
    cases f : csB (a + (s + ((n : Int) - 1))) (s + ((n : Int) - 1)) t
    · rw [bst_no (by omega) f]; exact ⟨fun g => by have := ih.1 g; omega, ih.2.1, ih.2.2⟩
    · by_cases k : up = true ∨ (bst up a s t ((n : Int) - 1)).2 = false
      · rw [bst_yes (by omega) f k]; exact ⟨fun _ => by simp only; omega, fun g => by simp at g, fun _ => csB_iff.1 f⟩
      · have hu : up = false := by cases up <;> simp_all
        subst hu
        have hk : (bst false a s t ((n : Int) - 1)).2 = true := by
          cases g : (bst false a s t ((n : Int) - 1)).2
          · exact absurd (.inr g) k
          · rfl
        rw [bst_keep (by omega) hk]; exact ⟨fun g => by have := ih.1 g; omega, ih.2.1, ih.2.2⟩
theorem bst_facts (up : Bool) (a s t : Int) {d : Int} (h : -1 ≤ d) : ((bst up a s t d).2 = true → (bst up a s t d).1 < s + d) ∧ ((bst up a s t d).2 = false → (bst up a s t d).1 = 0) ∧ ((bst up a s t d).2 = true → CS (a + (bst up a s t d).1) (bst up a s t d).1 t) := by
  have := bst_lt up a s t (d + 1).toNat
  have e : (((d + 1).toNat : Nat) : Int) - 1 = d := by omega
  rw [e] at this
  exact this
theorem ite_fst {c : Prop} [Decidable c] (x y : Int) (b : Bool) (p : Int × Bool) (n : Int) (h1 : c → x = n) (h2 : ¬ c → p.1 = n) : (if c then (x, b) else p).1 = n := by
  by_cases h : c
  · rw [if_pos h]; exact h1 h
  · rw [if_neg h]; exact h2 h
/-- The speed of the next tick, by the tries in their order. -/
theorem ns_tries {a s t : Int} (h : CS a s t) :
    (a ≤ t → (CS (a + (s + 1)) (s + 1) t → s + 1 = ns a s t) ∧ (¬ CS (a + (s + 1)) (s + 1) t → CS (a + (s + 0)) (s + 0) t → s + 0 = ns a s t) ∧ (¬ CS (a + (s + 1)) (s + 1) t → ¬ CS (a + (s + 0)) (s + 0) t → CS (a + (s + -1)) (s + -1) t ∧ s + -1 = ns a s t)) ∧
    (¬ a ≤ t → (CS (a + (s + -1)) (s + -1) t → s + -1 = ns a s t) ∧ (¬ CS (a + (s + -1)) (s + -1) t → CS (a + (s + 0)) (s + 0) t → s + 0 = ns a s t) ∧ (¬ CS (a + (s + -1)) (s + -1) t → ¬ CS (a + (s + 0)) (s + 0) t → CS (a + (s + 1)) (s + 1) t ∧ s + 1 = ns a s t)) := by
  have hs : -5 ≤ s ∧ s ≤ 5 := h.1.2.2
  have k := ns_cases (a := a) (t := t) hs
  generalize ns a s t = n at *
  obtain ⟨b0, b1, b2, b3, b4, b5, b6, b7, b8, b9, b10, b11, b12⟩ := bwv
  rcases Int.lt_trichotomy t a with g | g | g
  case' inl => rw [sgn_lt g] at k
  case' inr.inl => subst g; rw [sgn_eq] at k
  case' inr.inr => rw [sgn_gt g] at k
  all_goals
    rcases sp_cases hs with e | e | e | e | e | e | e | e | e | e | e
    all_goals
      subst e
      simp only [slow, sgn, Int.reduceAdd, Int.reduceLT, Int.reduceNeg, Int.reduceSub, if_true, if_false] at k ⊢
      rcases k with ⟨-, ⟨k, e⟩ | ⟨k, k2, e⟩ | ⟨k, k2, e⟩⟩ | ⟨k, e⟩
      all_goals
        subst e
        unfold CS at *
        try simp only [b1, b2, b3, b4, b5, b6, b7, b8, b9, b10, b11, Int.reduceLT, Int.reduceNeg, true_imp_iff, false_imp_iff, and_true, true_and] at k2
        simp only [b0, b1, b2, b3, b4, b5, b6, b7, b8, b9, b10, b11, b12, Int.reduceLT, Int.reduceNeg, true_imp_iff, false_imp_iff, and_true, true_and] at h k ⊢
        refine ⟨fun u => ⟨fun c => ?_, fun c d => ?_, fun c d => ?_⟩, fun u => ⟨fun c => ?_, fun c d => ?_, fun c d => ?_⟩⟩ <;> first | exact True.intro | omega
theorem bst_end {a s t : Int} (h : CS a s t) : (bst (decide (a ≤ t)) a s t 2).1 = ns a s t := by
  have k := ns_tries h
  have u0 : bU a s t 3 = if csB (a + (s + 1)) (s + 1) t = true then (s + 1, true) else if csB (a + (s + 0)) (s + 0) t = true then (s + 0, true) else if csB (a + (s + -1)) (s + -1) t = true then (s + -1, true) else (0, false) := rfl
  have d0 : bD a s t 3 = if csB (a + (s + 1)) (s + 1) t = true ∧ (bD a s t 2).2 = false then (s + 1, true) else bD a s t 2 := rfl
  have d1 : bD a s t 2 = if csB (a + (s + 0)) (s + 0) t = true ∧ (bD a s t 1).2 = false then (s + 0, true) else bD a s t 1 := rfl
  have d2 : bD a s t 1 = if csB (a + (s + -1)) (s + -1) t = true ∧ false = false then (s + -1, true) else (0, false) := rfl
  simp only [csB_iff, and_true] at u0 d0 d1 d2
  by_cases up : a ≤ t
  · have e : bst (decide (a ≤ t)) a s t 2 = bU a s t 3 := by unfold bst; rw [decide_eq_true up]; rfl
    obtain ⟨k1, k2, k3⟩ := k.1 up
    rw [e, u0]
    by_cases c1 : CS (a + (s + 1)) (s + 1) t
    · rw [if_pos c1]; exact k1 c1
    · rw [if_neg c1]
      by_cases c2 : CS (a + (s + 0)) (s + 0) t
      · rw [if_pos c2]; exact k2 c1 c2
      · rw [if_neg c2, if_pos (k3 c1 c2).1]; exact (k3 c1 c2).2
  · have e : bst (decide (a ≤ t)) a s t 2 = bD a s t 3 := by unfold bst; rw [decide_eq_false up]; rfl
    obtain ⟨k1, k2, k3⟩ := k.2 up
    rw [e]
    by_cases c1 : CS (a + (s + -1)) (s + -1) t
    · rw [if_pos c1] at d2
      rw [d2] at d1
      rw [if_neg (by simp)] at d1
      rw [d1] at d0
      rw [if_neg (by simp)] at d0
      rw [d0]; exact k1 c1
    · rw [if_neg c1] at d2
      rw [d2] at d1
      by_cases c2 : CS (a + (s + 0)) (s + 0) t
      · rw [if_pos ⟨c2, rfl⟩] at d1
        rw [d1] at d0
        rw [if_neg (by simp)] at d0
        rw [d0]; exact k2 c1 c2
      · rw [if_neg (fun h => c2 h.1)] at d1
        rw [d1] at d0
        rw [if_pos ⟨(k3 c1 c2).1, rfl⟩] at d0
        rw [d0]; exact (k3 c1 c2).2

end Go.Proofs.Ytpfllhiibkdfaaa

/- The mathematics of the law of MotionTicks: how long a car takes from a stand. -/
import Derived.Test.Ytcecmikmmggngaa2F
namespace Go.Proofs.Ytcecmikmmggngaa
open Go.RowKit
set_option linter.unusedVariables false

theorem it_shift (t : Int) (p : Int × Int) : ∀ n, it t (n + 1) p = it t n (ms p.1 p.2 t) := by
  intro n
  induction n with
  | zero => rfl
  | succ n ih => show ms (it t (n + 1) p).1 (it t (n + 1) p).2 t = _; rw [ih]; rfl
theorem mt_ex {t : Int} (k : inB 0 t 60 = true) : ∀ (L : Nat) (a s : Int), mvB a s = true → lft a s t ≤ L → ∃ n, n ≤ L ∧ it t n (a, s) = (t, 0) ∧ ∀ j, j < n → it t j (a, s) ≠ (t, 0) := by
  intro L
  induction L with
  | zero =>
    intro a s h hL
    by_cases e : a = t ∧ s = 0
    · exact ⟨0, Nat.le_refl _, by rw [e.1, e.2]; rfl, by omega⟩
    · have := lft_step h k e; omega
  | succ L ih =>
    intro a s h hL
    by_cases e : a = t ∧ s = 0
    · exact ⟨0, by omega, by rw [e.1, e.2]; rfl, by omega⟩
    · have l := lft_step h k e
      obtain ⟨n, hn, h1, h2⟩ := ih _ _ (ms_valid h k) (by omega)
      refine ⟨n + 1, by omega, by rw [it_shift]; exact h1, fun j hj => ?_⟩
      cases j with
      | zero => exact pair_ne e
      | succ j => rw [it_shift]; exact h2 j (by omega)
theorem mt_ok {a s t : Int} (h : mvB a s = true) (k : inB 0 t 60 = true) : ∃ n : Nat, mtk a s t = n ∧ n ≤ 1005 ∧ it t n (a, s) = (t, 0) ∧ ∀ j, j < n → it t j (a, s) ≠ (t, 0) := by
  obtain ⟨n, hn, h1, h2⟩ := mt_ex k 1005 a s h (lft_bd h k)
  exact ⟨n, by rw [mtk_ok h k]; exact mt_eq ⟨n, rfl, h1, h2⟩, hn, h1, h2⟩
theorem it_valid {a s t : Int} (h : mvB a s = true) (k : inB 0 t 60 = true) : ∀ n, mvB (it t n (a, s)).1 (it t n (a, s)).2 = true := by
  intro n
  induction n with
  | zero => exact h
  | succ n ih => exact ms_valid ih k

/-- The next speed, by the way that is left. -/
def fI (D s : Int) : Int := if D = 0 then 0 else if s + 1 ≤ 5 ∧ (s + 1) * (s + 2) / 2 ≤ D then s + 1 else if 0 < s ∧ s * (s + 1) / 2 ≤ D then s else s - 1
theorem up_ns {a s t : Int} (h : CS a s t) (h0 : 0 ≤ s) (ht : a ≤ t) : ns a s t = fI (t - a) s := by
  have hs := cs_sp h
  have k := ns_cases (a := a) (s := s) (t := t) hs
  have n := (cs_next h).2
  generalize ns a s t = m at *
  obtain ⟨b0, b1, b2, b3, b4, b5, b6, b7, b8, b9, b10, b11, b12⟩ := bwv
  unfold fI
  by_cases d0 : t - a = 0
  · rw [if_pos d0]; have := n.2.2.2.2.2.2.2 (by omega); omega
  · rw [if_neg d0]
    rw [sgn_gt (by omega)] at k
    clear n
    rcases (by omega : s = 0 ∨ s = 1 ∨ s = 2 ∨ s = 3 ∨ s = 4 ∨ s = 5) with e | e | e | e | e | e
    all_goals
      subst e
      simp only [slow, sgn, Int.reduceAdd, Int.reduceLT, Int.reduceNeg, Int.reduceSub, Int.reduceMul, Int.reduceDiv, Int.reduceLE, true_and, false_and, if_true, if_false] at k ⊢
      rcases k with ⟨-, ⟨k, e⟩ | ⟨k, k2, e⟩ | ⟨k, k2, e⟩⟩ | ⟨k, e⟩
      all_goals
        subst e
        unfold CS at *
        try simp only [b1, b2, b3, b4, b5, b6, b7, b8, b9, b10, b11, b12, Int.reduceLT, Int.reduceNeg, true_imp_iff, false_imp_iff, and_true, true_and] at k2
        simp only [b1, b2, b3, b4, b5, b6, b7, b8, b9, b10, b11, b12, Int.reduceLT, Int.reduceNeg, true_imp_iff, false_imp_iff, and_true, true_and] at h k
        repeat split
        all_goals omega
theorem down_ns {a s t : Int} (h : CS a s t) (h0 : s ≤ 0) (ht : t ≤ a) : ns a s t = -fI (a - t) (-s) := by
  have hs := cs_sp h
  have k := ns_cases (a := a) (s := s) (t := t) hs
  have n := (cs_next h).2
  generalize ns a s t = m at *
  obtain ⟨b0, b1, b2, b3, b4, b5, b6, b7, b8, b9, b10, b11, b12⟩ := bwv
  unfold fI
  by_cases d0 : a - t = 0
  · rw [if_pos d0]; have := n.2.2.2.2.2.2.2 (by omega); omega
  · rw [if_neg d0]
    rw [sgn_lt (by omega)] at k
    clear n
    rcases (by omega : s = 0 ∨ s = -1 ∨ s = -2 ∨ s = -3 ∨ s = -4 ∨ s = -5) with e | e | e | e | e | e
    all_goals
      subst e
      simp only [slow, sgn, Int.neg_neg, Int.neg_zero, Int.reduceAdd, Int.reduceLT, Int.reduceNeg, Int.reduceSub, Int.reduceMul, Int.reduceDiv, Int.reduceLE, true_and, false_and, if_true, if_false] at k ⊢
      rcases k with ⟨-, ⟨k, e⟩ | ⟨k, k2, e⟩ | ⟨k, k2, e⟩⟩ | ⟨k, e⟩
      all_goals
        subst e
        unfold CS at *
        try simp only [b1, b2, b3, b4, b5, b6, b7, b8, b9, b10, b11, b12, Int.reduceLT, Int.reduceNeg, true_imp_iff, false_imp_iff, and_true, true_and] at k2
        simp only [b1, b2, b3, b4, b5, b6, b7, b8, b9, b10, b11, b12, Int.reduceLT, Int.reduceNeg, true_imp_iff, false_imp_iff, and_true, true_and] at h k
        repeat split
        all_goals omega
/-- The way that is left and the speed, after n ticks. -/
def dt : Nat → Int → Int → Int × Int
  | 0, D, s => (D, s)
  | n + 1, D, s => dt n (D - fI D s) (fI D s)
theorem up_it {t : Int} : ∀ (n : Nat) (D s : Int), CS (t - D) s t → 0 ≤ D → 0 ≤ s → it t n (t - D, s) = (t - (dt n D s).1, (dt n D s).2) := by
  intro n
  induction n with
  | zero => intro D s _ _ _; rfl
  | succ n ih =>
    intro D s h hD hs
    have e := up_ns h hs (by omega)
    rw [show t - (t - D) = D from by omega] at e
    have x := cs_next h
    rw [e] at x
    obtain ⟨x1, x2, x3, x4, x5, x6, x7, x8, x9⟩ := x
    have e2 : ms (t - D) s t = (t - (D - fI D s), fI D s) := by
      rw [ms_next h, e, show t - D + fI D s = t - (D - fI D s) from by omega]
    rw [it_shift]
    show it t n (ms (t - D) s t) = _
    rw [e2]
    show _ = (t - (dt n (D - fI D s) (fI D s)).1, (dt n (D - fI D s) (fI D s)).2)
    refine ih _ _ ?_ ?_ ?_
    · rw [show t - D + fI D s = t - (D - fI D s) from by omega] at x1; exact x1
    · rcases (by omega : D = 0 ∨ 0 < D) with g | g
      · have := x9 (by omega); omega
      · have := x3 (by omega); omega
    · rcases (by omega : D = 0 ∨ 0 < D) with g | g
      · have := x9 (by omega); omega
      · have := x7 (by omega); omega
theorem down_it {t : Int} : ∀ (n : Nat) (D s : Int), CS (t + D) (-s) t → 0 ≤ D → 0 ≤ s → it t n (t + D, -s) = (t + (dt n D s).1, -(dt n D s).2) := by
  intro n
  induction n with
  | zero => intro D s _ _ _; rfl
  | succ n ih =>
    intro D s h hD hs
    have e := down_ns h (by omega) (by omega)
    rw [show t + D - t = D from by omega, Int.neg_neg] at e
    have x := cs_next h
    rw [e] at x
    obtain ⟨x1, x2, x3, x4, x5, x6, x7, x8, x9⟩ := x
    have e2 : ms (t + D) (-s) t = (t + (D - fI D s), -fI D s) := by
      rw [ms_next h, e, show t + D + -fI D s = t + (D - fI D s) from by omega]
    rw [it_shift]
    show it t n (ms (t + D) (-s) t) = _
    rw [e2]
    show _ = (t + (dt n (D - fI D s) (fI D s)).1, -(dt n (D - fI D s) (fI D s)).2)
    refine ih _ _ ?_ ?_ ?_
    · rw [show t + D + -fI D s = t + (D - fI D s) from by omega] at x1; exact x1
    · rcases (by omega : D = 0 ∨ 0 < D) with g | g
      · have := x9 (by omega); omega
      · have := x2 (by omega); omega
    · rcases (by omega : D = 0 ∨ 0 < D) with g | g
      · have := x9 (by omega); omega
      · have := x8 (by omega); omega
/-- How many ticks until nothing is left. -/
def sim : Nat → Int → Int → Nat
  | 0, _, _ => 0
  | f + 1, D, s => if D = 0 ∧ s = 0 then 0 else sim f (D - fI D s) (fI D s) + 1
theorem sim_ok : ∀ (f : Nat) (D s : Int), sim f D s < f → dt (sim f D s) D s = (0, 0) ∧ ∀ j, j < sim f D s → dt j D s ≠ (0, 0) := by
  intro f
  induction f with
  | zero => intro D s h; omega
  | succ f ih =>
    intro D s h
    by_cases e : D = 0 ∧ s = 0
    · have e2 : sim (f + 1) D s = 0 := by show (if D = 0 ∧ s = 0 then 0 else _) = 0; rw [if_pos e]
      rw [e2]
      exact ⟨by rw [e.1, e.2]; rfl, by omega⟩
    · have e2 : sim (f + 1) D s = sim f (D - fI D s) (fI D s) + 1 := by show (if D = 0 ∧ s = 0 then 0 else _) = _; rw [if_neg e]
      rw [e2] at h ⊢
      obtain ⟨h1, h2⟩ := ih _ _ (by omega : sim f (D - fI D s) (fI D s) < f)
      refine ⟨h1, fun j hj => ?_⟩
      cases j with
      | zero => exact fun g => e ⟨congrArg Prod.fst g, congrArg Prod.snd g⟩
      | succ j => exact h2 j (by omega)
/-- What a car that is as fast as may be goes in the ticks before k, of n. -/
def sm (n : Nat) : Nat → Nat
  | 0 => 0
  | k + 1 => sm n k + (if k = 0 then 0 else min k (min (n - 1 - k) 5))
def okD (D : Nat) : Bool := decide (sim 40 D 0 < 40 ∧ (sim 40 D 0 = 0 ∨ sm (sim 40 D 0) (sim 40 D 0) < D))
set_option maxRecDepth 100000 in
theorem table : ∀ D : Fin 61, okD D.val = true := by decide +kernel
theorem sm_bd (n : Nat) : ∀ k, sm n k ≤ 5 * k := by
  intro k
  induction k with
  | zero => exact Nat.le_refl _
  | succ k ih => show sm n k + _ ≤ _; split <;> omega
/-- From a stand: in less than the time that is needed no car could go so far. -/
theorem stand_law {a t : Int} (h : mvB a 0 = true) (k : inB 0 t 60 = true) {n : Nat} (h1 : it t n (a, 0) = (t, 0)) (h2 : ∀ j, j < n → it t j (a, 0) ≠ (t, 0)) : n = 0 ∨ (sm n n : Int) < max (t - a) (a - t) := by
  have h3 := mvB_iff.1 h
  have h4 := inB_iff.1 k
  have hc : CS a 0 t := ⟨h3, h4, fun _ => by omega, fun _ => by omega⟩
  obtain ⟨D, hD, hit⟩ : ∃ D : Nat, max (t - a) (a - t) = D ∧ ∀ j, (it t j (a, 0) = (t, 0) ↔ dt j D 0 = (0, 0)) := by
    rcases (by omega : a ≤ t ∨ t < a) with g | g
    · refine ⟨(t - a).toNat, by omega, fun j => ?_⟩
      have e : a = t - ((t - a).toNat : Int) := by omega
      have := up_it (t := t) j ((t - a).toNat : Int) 0 (by rw [← e]; exact hc) (by omega) (by omega)
      rw [← e] at this
      rw [this]
      constructor
      · intro q
        have q1 := congrArg Prod.fst q
        have q2 := congrArg Prod.snd q
        simp only at q1 q2
        exact Prod.ext (by show _ = (0 : Int); omega) q2
      · intro q; rw [q]; exact Prod.ext (by show t - (0 : Int) = t; omega) rfl
    · refine ⟨(a - t).toNat, by omega, fun j => ?_⟩
      have e : a = t + ((a - t).toNat : Int) := by omega
      have := down_it (t := t) j ((a - t).toNat : Int) 0 (by rw [← e]; exact hc) (by omega) (by omega)
      rw [← e, show (-(0 : Int)) = 0 from rfl] at this
      rw [this]
      constructor
      · intro q
        have q1 := congrArg Prod.fst q
        have q2 := congrArg Prod.snd q
        simp only at q1 q2
        exact Prod.ext (by show _ = (0 : Int); omega) (by show _ = (0 : Int); omega)
      · intro q; rw [q]; exact Prod.ext (by show t + (0 : Int) = t; omega) rfl
  have hD60 : D < 61 := by omega
  have tb := table ⟨D, hD60⟩
  have tb2 := of_decide_eq_true tb
  obtain ⟨c1, c2⟩ := sim_ok 40 D 0 tb2.1
  have en : n = sim 40 D 0 := by
    rcases Nat.lt_trichotomy n (sim 40 D 0) with g | g | g
    · exact absurd ((hit n).1 h1) (c2 n g)
    · exact g
    · exact absurd ((hit _).2 c1) (h2 _ g)
  rw [hD, en]
  rcases tb2.2 with q | q
  · exact .inl q
  · right; exact Int.ofNat_lt.2 q
end Go.Proofs.Ytcecmikmmggngaa

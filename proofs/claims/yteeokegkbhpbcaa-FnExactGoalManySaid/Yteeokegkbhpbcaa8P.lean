/- The mathematics of calls: rows of truths, valid calls, a call set, counts. -/
import Derived.Test.YteeokegkbhpbcaaPre
namespace Go.Proofs.Yteeokegkbhpbcaa
open Go.RowKit
set_option linter.unusedVariables false
set_option linter.unusedSimpArgs false
set_option maxRecDepth 100000

/-- Element i of a list of truths. -/
def bn (xs : List Bool) (i : Nat) : Bool := xs.getD i false
theorem bn_eq {xs : List Bool} {i : Nat} (h : i < xs.length) : bn xs i = xs[i] := by simp [bn, List.getD, h]
theorem bn_out {xs : List Bool} {i : Nat} (h : xs.length ≤ i) : bn xs i = false := by simp [bn, List.getD, List.getElem?_eq_none h]
theorem bn_ext {xs ys : List Bool} (hl : xs.length = ys.length) (h : ∀ i, i < xs.length → bn xs i = bn ys i) : xs = ys := by
  apply List.ext_getElem hl
  intro i h1 h2
  have := h i h1
  rwa [bn_eq h1, bn_eq h2] at this
theorem bn_set {xs : List Bool} {j : Nat} (b : Bool) (i : Nat) (hj : j < xs.length) : bn (xs.set j b) i = if i = j then b else bn xs i := by
  unfold bn
  simp only [List.getD, List.getElem?_set]
  by_cases e : j = i
  · subst e; simp [hj]
  · rw [if_neg e, if_neg (fun h => e h.symm)]
theorem bn_rep (n i : Nat) : bn (List.replicate n false) i = false := by
  unfold bn
  simp only [List.getD, List.getElem?_replicate]
  split <;> rfl
theorem bn_app1 {xs : List Bool} {i : Nat} {y : Bool} (h : i < xs.length) : bn (xs ++ [y]) i = bn xs i := by
  unfold bn; simp [List.getD, List.getElem?_append, h]
theorem set_bn {xs : List Bool} {j : Nat} (hj : j < xs.length) : xs.set j (bn xs j) = xs := by
  refine bn_ext (by simp) fun i hi => ?_
  rw [bn_set _ _ hj]
  by_cases e : i = j
  · subst e; simp
  · rw [if_neg e]
theorem set_set {xs : List Bool} {j : Nat} (a b : Bool) : (xs.set j a).set j b = xs.set j b := by simp

/-- Calls: those to go up, those to go down, those in the car. -/
structure Cs where
  u : List Bool
  d : List Bool
  c : List Bool
theorem Cs.eq {x y : Cs} (h1 : x.u = y.u) (h2 : x.d = y.d) (h3 : x.c = y.c) : x = y := by
  cases x; cases y; simp_all
def CV (x : Cs) : Prop := 1 ≤ x.c.length ∧ x.c.length ≤ 8 ∧ x.u.length = x.c.length ∧ x.d.length = x.c.length ∧ bn x.u (x.c.length - 1) = false ∧ bn x.d 0 = false
noncomputable def cvB (x : Cs) : Bool := tr (CV x)
theorem cvB_t {x : Cs} (h : CV x) : cvB x = true := tr_true h
theorem cvB_f {x : Cs} (h : ¬ CV x) : cvB x = false := tr_false h
def cz : Cs := ⟨[], [], []⟩
theorem cz_no : ¬ CV cz := fun h => by have := h.1; simp [cz] at this
/-- No calls of n floors. -/
def cn (n : Nat) : Cs := ⟨List.replicate n false, List.replicate n false, List.replicate n false⟩
theorem cn_ok {n : Nat} (h1 : 1 ≤ n) (h8 : n ≤ 8) : CV (cn n) := ⟨by simpa [cn] using h1, by simpa [cn] using h8, by simp [cn], by simp [cn], bn_rep _ _, bn_rep _ _⟩
def cput (x : Cs) (k : Int) (j : Nat) (b : Bool) : Cs := if k = 0 then ⟨x.u.set j b, x.d, x.c⟩ else if k = 1 then ⟨x.u, x.d.set j b, x.c⟩ else ⟨x.u, x.d, x.c.set j b⟩
theorem cput_len (x : Cs) (k : Int) (j : Nat) (b : Bool) : (cput x k j b).u.length = x.u.length ∧ (cput x k j b).d.length = x.d.length ∧ (cput x k j b).c.length = x.c.length := by
  unfold cput; split
  · simp
  · split <;> simp
/-- A kind and a floor that there are. -/
def KF (x : Cs) (k f : Int) : Prop := (0 ≤ k ∧ k ≤ 2) ∧ 0 ≤ f ∧ f < x.c.length
def SV (x : Cs) (k f : Int) (b : Bool) : Prop := CV x ∧ KF x k f ∧ CV (cput x k f.toNat b)
noncomputable def cstB (x : Cs) (k f : Int) (b : Bool) : Bool := tr (SV x k f b)
theorem cstB_t {x : Cs} {k f : Int} {b : Bool} (h : SV x k f b) : cstB x k f b = true := tr_true h
theorem cstB_f {x : Cs} {k f : Int} {b : Bool} (h : ¬ SV x k f b) : cstB x k f b = false := tr_false h
noncomputable def cst (x : Cs) (k f : Int) (b : Bool) : Cs := @ite _ (SV x k f b) (Classical.propDecidable _) (cput x k f.toNat b) (@ite _ (CV x) (Classical.propDecidable _) x cz)
theorem cst_t {x : Cs} {k f : Int} {b : Bool} (h : SV x k f b) : cst x k f b = cput x k f.toNat b := by unfold cst; rw [if_pos h]
theorem cst_f {x : Cs} {k f : Int} {b : Bool} (h : CV x) (h2 : ¬ SV x k f b) : cst x k f b = x := by unfold cst; rw [if_neg h2, if_pos h]
theorem cst_bad {x : Cs} {k f : Int} {b : Bool} (h : ¬ CV x) : cst x k f b = cz := by unfold cst; rw [if_neg (fun g : SV x k f b => h g.1), if_neg h]

/-- How many truths of the first k are true. -/
def ct (xs : List Bool) : Nat → Nat
  | 0 => 0
  | k + 1 => ct xs k + (if bn xs k = true then 1 else 0)
theorem ct_le (xs : List Bool) : ∀ k, ct xs k ≤ k
  | 0 => by simp [ct]
  | k + 1 => by have := ct_le xs k; unfold ct; split <;> omega
theorem ct_out (xs : List Bool) (n : Nat) : ∀ k, (∀ i, n ≤ i → i < n + k → bn xs i = false) → ct xs (n + k) = ct xs n
  | 0, _ => rfl
  | k + 1, h => by
    show ct xs (n + k) + (if bn xs (n + k) = true then 1 else 0) = _
    rw [ct_out xs n k (fun i h1 h2 => h i h1 (by omega)), h (n + k) (by omega) (by omega)]
    simp
theorem ct_lt (xs : List Bool) {j : Nat} (h : bn xs j = false) : ∀ k, j < k → ct xs k ≤ k - 1
  | 0, hk => by omega
  | k + 1, hk => by
    unfold ct
    by_cases e : j = k
    · subst e; rw [h]; have := ct_le xs j; simp; exact this
    · have := ct_lt xs h k (by omega); split <;> omega
theorem ct_none {xs : List Bool} (h : ∀ i, bn xs i = false) : ∀ k, ct xs k = 0
  | 0 => rfl
  | k + 1 => by unfold ct; rw [ct_none h k, h k]; simp
theorem ct_set {xs : List Bool} {j : Nat} (b : Bool) (hj : j < xs.length) : ∀ k, j < k → ct (xs.set j b) k + (if bn xs j = true then 1 else 0) = ct xs k + (if b = true then 1 else 0) := by
  have low : ∀ k, k ≤ j → ct (xs.set j b) k = ct xs k := by
    intro k
    induction k with
    | zero => intro _; rfl
    | succ k ih => intro hk; unfold ct; rw [ih (by omega), bn_set _ _ hj, if_neg (show ¬ k = j by omega)]
  intro k
  induction k with
  | zero => intro hk; omega
  | succ k ih =>
    intro hk
    by_cases e : j = k
    · subst e
      unfold ct
      rw [low j (Nat.le_refl _), bn_set _ _ hj, if_pos rfl]
      omega
    · have := ih (by omega)
      unfold ct
      rw [bn_set _ _ hj, if_neg (fun h : k = j => e h.symm)]
      omega
/-- How many calls there are. -/
noncomputable def cm (x : Cs) : Int := @ite _ (CV x) (Classical.propDecidable _) ((ct x.u x.c.length + ct x.d x.c.length + ct x.c x.c.length : Nat) : Int) (-1)
theorem cm_ok {x : Cs} (h : CV x) : cm x = ((ct x.u x.c.length + ct x.d x.c.length + ct x.c x.c.length : Nat) : Int) := by unfold cm; rw [if_pos h]
theorem cm_bad {x : Cs} (h : ¬ CV x) : cm x = -1 := by unfold cm; rw [if_neg h]
theorem cm_bd (x : Cs) : -1 ≤ cm x ∧ cm x ≤ 24 := by
  by_cases h : CV x
  · rw [cm_ok h]
    have h1 := ct_le x.u x.c.length
    have h2 := ct_le x.d x.c.length
    have h3 := ct_le x.c x.c.length
    have := h.2.1
    omega
  · rw [cm_bad h]; omega
theorem cm_top {x : Cs} (h : CV x) : 0 ≤ cm x ∧ cm x ≤ 3 * (x.c.length : Int) - 2 := by
  rw [cm_ok h]
  have h1 := ct_lt x.u h.2.2.2.2.1 x.c.length (by have := h.1; omega)
  have h2 := ct_lt x.d h.2.2.2.2.2 x.c.length (by have := h.1; omega)
  have h3 := ct_le x.c x.c.length
  have := h.1
  omega
theorem cm_none {n : Nat} (h1 : 1 ≤ n) (h8 : n ≤ 8) : cm (cn n) = 0 := by
  rw [cm_ok (cn_ok h1 h8)]
  simp only [cn]
  rw [ct_none (fun i => bn_rep n i)]
  rfl
/-- The truth at a kind and a floor. -/
def cat (x : Cs) (k : Int) (j : Nat) : Bool := if k = 0 then bn x.u j else if k = 1 then bn x.d j else bn x.c j
theorem cput_at {x : Cs} {k : Int} {j : Nat} (h : CV x) (hj : j < x.c.length) : cput x k j (cat x k j) = x := by
  unfold cput cat
  have h3 := h.2.2.1
  have h4 := h.2.2.2.1
  split
  · rw [set_bn (by omega)]
  · split
    · rw [set_bn (by omega)]
    · rw [set_bn hj]
theorem cput_put (x : Cs) (k : Int) (j : Nat) (a b : Bool) : cput (cput x k j a) k j b = cput x k j b := by
  unfold cput
  split
  · simp
  · split <;> simp
theorem cat_put {x : Cs} {k : Int} {j : Nat} (b : Bool) (h : CV x) (hj : j < x.c.length) : cat (cput x k j b) k j = b := by
  unfold cput cat
  have h3 := h.2.2.1
  have h4 := h.2.2.2.1
  split
  · rw [bn_set _ _ (by omega), if_pos rfl]
  · split
    · rw [bn_set _ _ (by omega), if_pos rfl]
    · rw [bn_set _ _ hj, if_pos rfl]
/-- A call that goes away leaves valid calls. -/
theorem cput_off {x : Cs} {k : Int} {j : Nat} (h : CV x) (hj : j < x.c.length) : CV (cput x k j false) := by
  obtain ⟨e1, e2, e3⟩ := cput_len x k j false
  have h3 := h.2.2.1
  have h4 := h.2.2.2.1
  refine ⟨by rw [e3]; exact h.1, by rw [e3]; exact h.2.1, by rw [e1, e3]; exact h3, by rw [e2, e3]; exact h4, ?_, ?_⟩
  · rw [e3]
    unfold cput
    split
    · rw [bn_set _ _ (by omega)]; split
      · rfl
      · exact h.2.2.2.2.1
    · split <;> exact h.2.2.2.2.1
  · unfold cput
    split
    · exact h.2.2.2.2.2
    · split
      · show bn (x.d.set j false) 0 = false
        rw [bn_set _ _ (by omega)]; split
        · rfl
        · exact h.2.2.2.2.2
      · exact h.2.2.2.2.2
theorem cm_put {x : Cs} {k : Int} {j : Nat} {b : Bool} (h : CV x) (hj : j < x.c.length) (h2 : CV (cput x k j b)) :
    cm (cput x k j b) + (if cat x k j = true then 1 else 0) = cm x + (if b = true then 1 else 0) := by
  rw [cm_ok h, cm_ok h2]
  obtain ⟨e1, e2, e3⟩ := cput_len x k j b
  rw [e3]
  have h3 := h.2.2.1
  have h4 := h.2.2.2.1
  unfold cput cat
  split
  · have := ct_set b (xs := x.u) (j := j) (by omega) x.c.length hj
    simp only []
    split <;> split <;> simp_all <;> omega
  · split
    · have := ct_set b (xs := x.d) (j := j) (by omega) x.c.length hj
      simp only []
      split <;> split <;> simp_all <;> omega
    · have := ct_set b (xs := x.c) (j := j) hj x.c.length hj
      simp only []
      split <;> split <;> simp_all <;> omega
end Go.Proofs.Yteeokegkbhpbcaa

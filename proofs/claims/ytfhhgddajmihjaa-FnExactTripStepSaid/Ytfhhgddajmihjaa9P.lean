/- The mathematics of collective control: the next stop, what is served, all stops. -/
import Derived.Test.Ytfhhgddajmihjaa8P
namespace Go.Proofs.Ytfhhgddajmihjaa
open Go.RowKit
set_option linter.unusedVariables false
set_option linter.unusedSimpArgs false
set_option maxRecDepth 100000

/-- The first from f on, upward, of m. -/
def fu (p : Nat → Bool) (f : Nat) : Nat → Int
  | 0 => -1
  | m + 1 => if p f = true then (f : Int) else fu p (f + 1) m
/-- The first below m, downward. -/
def fd (p : Nat → Bool) : Nat → Int
  | 0 => -1
  | k + 1 => if p k = true then (k : Int) else fd p k
/-- The last from f on, upward, of m. -/
def lu (p : Nat → Bool) (f : Nat) : Nat → Int → Int
  | 0, a => a
  | m + 1, a => lu p (f + 1) m (if p f = true then (f : Int) else a)
/-- The last below m, downward. -/
def ld (p : Nat → Bool) : Nat → Int → Int
  | 0, a => a
  | k + 1, a => ld p k (if p k = true then (k : Int) else a)
theorem fu_spec (p : Nat → Bool) : ∀ m f, (fu p f m = -1 ∧ ∀ k, f ≤ k → k < f + m → p k = false) ∨ ∃ k : Nat, fu p f m = k ∧ f ≤ k ∧ k < f + m ∧ p k = true ∧ ∀ j, f ≤ j → j < k → p j = false
  | 0, f => .inl ⟨rfl, fun k h1 h2 => by omega⟩
  | m + 1, f => by
    unfold fu
    by_cases h : p f = true
    · rw [if_pos h]; exact .inr ⟨f, rfl, Nat.le_refl _, by omega, h, fun j h1 h2 => by omega⟩
    · rw [if_neg h]
      have h0 : p f = false := by simpa using h
      rcases fu_spec p m (f + 1) with ⟨e, hn⟩ | ⟨k, e, h1, h2, h3, h4⟩
      · exact .inl ⟨e, fun k g1 g2 => if g : k = f then g ▸ h0 else hn k (by omega) (by omega)⟩
      · exact .inr ⟨k, e, by omega, by omega, h3, fun j g1 g2 => if g : j = f then g ▸ h0 else h4 j (by omega) g2⟩
theorem fd_spec (p : Nat → Bool) : ∀ m, (fd p m = -1 ∧ ∀ k, k < m → p k = false) ∨ ∃ k : Nat, fd p m = k ∧ k < m ∧ p k = true ∧ ∀ j, k < j → j < m → p j = false
  | 0 => .inl ⟨rfl, fun k h => by omega⟩
  | m + 1 => by
    unfold fd
    by_cases h : p m = true
    · rw [if_pos h]; exact .inr ⟨m, rfl, by omega, h, fun j h1 h2 => by omega⟩
    · rw [if_neg h]
      have h0 : p m = false := by simpa using h
      rcases fd_spec p m with ⟨e, hn⟩ | ⟨k, e, h1, h2, h3⟩
      · exact .inl ⟨e, fun k g => if g2 : k = m then g2 ▸ h0 else hn k (by omega)⟩
      · exact .inr ⟨k, e, by omega, h2, fun j g1 g2 => if g : j = m then g ▸ h0 else h3 j g1 (by omega)⟩
theorem lu_spec (p : Nat → Bool) : ∀ m f a, (lu p f m a = a ∧ ∀ k, f ≤ k → k < f + m → p k = false) ∨ ∃ k : Nat, lu p f m a = k ∧ f ≤ k ∧ k < f + m ∧ p k = true ∧ ∀ j, k < j → j < f + m → p j = false
  | 0, f, a => .inl ⟨rfl, fun k h1 h2 => by omega⟩
  | m + 1, f, a => by
    unfold lu
    rcases lu_spec p m (f + 1) (if p f = true then (f : Int) else a) with ⟨e, hn⟩ | ⟨k, e, h1, h2, h3, h4⟩
    · by_cases h : p f = true
      · rw [e, if_pos h]; exact .inr ⟨f, rfl, Nat.le_refl _, by omega, h, fun j g1 g2 => hn j (by omega) (by omega)⟩
      · rw [e, if_neg h]
        have h0 : p f = false := by simpa using h
        exact .inl ⟨rfl, fun k g1 g2 => if g : k = f then g ▸ h0 else hn k (by omega) (by omega)⟩
    · exact .inr ⟨k, e, by omega, by omega, h3, fun j g1 g2 => h4 j g1 (by omega)⟩
theorem ld_spec (p : Nat → Bool) : ∀ m a, (ld p m a = a ∧ ∀ k, k < m → p k = false) ∨ ∃ k : Nat, ld p m a = k ∧ k < m ∧ p k = true ∧ ∀ j, j < k → p j = false
  | 0, a => .inl ⟨rfl, fun k h => by omega⟩
  | m + 1, a => by
    unfold ld
    rcases ld_spec p m (if p m = true then (m : Int) else a) with ⟨e, hn⟩ | ⟨k, e, h1, h2, h3⟩
    · by_cases h : p m = true
      · rw [e, if_pos h]; exact .inr ⟨m, rfl, by omega, h, fun j g => hn j g⟩
      · rw [e, if_neg h]
        have h0 : p m = false := by simpa using h
        exact .inl ⟨rfl, fun k g => if g2 : k = m then g2 ▸ h0 else hn k (by omega)⟩
    · exact .inr ⟨k, e, by omega, h2, h3⟩
/-- A call at which a car stops that goes up, or down. -/
def pc (x : Cs) (up : Bool) (k : Nat) : Bool := bn x.c k || (if up = true then bn x.u k else bn x.d k)
/-- A call to go the other way. -/
def qc (x : Cs) (up : Bool) (k : Nat) : Bool := if up = true then bn x.d k else bn x.u k
def ah (x : Cs) (up : Bool) (f : Nat) : Int := if up = true then fu (pc x true) f (x.c.length - f) else fd (pc x false) (f + 1)
def la (x : Cs) (up : Bool) (f : Nat) : Int := if up = true then lu (qc x true) f (x.c.length - f) (-1) else ld (qc x false) (f + 1) (-1)
/-- From f on, in a direction. -/
def On (up : Bool) (f k : Nat) : Prop := (up = true → f ≤ k) ∧ (up = false → k ≤ f)
theorem On.refl (up : Bool) (f : Nat) : On up f f := ⟨fun _ => Nat.le_refl _, fun _ => Nat.le_refl _⟩
theorem On.total (up : Bool) (f k : Nat) : On up f k ∨ (On (!up) f k ∧ k ≠ f) := by
  cases up <;> simp [On] <;> omega
theorem ah_spec (x : Cs) (up : Bool) (f : Nat) (hf : f < x.c.length) : (ah x up f = -1 ∧ ∀ k, k < x.c.length → On up f k → pc x up k = false) ∨
    ∃ k : Nat, ah x up f = k ∧ k < x.c.length ∧ On up f k ∧ pc x up k = true ∧ ∀ j, On up f j → On up j k → j ≠ k → pc x up j = false := by
  unfold ah
  cases up
  · simp only [Bool.false_eq_true, if_false]
    rcases fd_spec (pc x false) (f + 1) with ⟨e, hn⟩ | ⟨k, e, h1, h2, h3⟩
    · exact .inl ⟨e, fun k h1 h2 => hn k (by have := h2.2 rfl; omega)⟩
    · exact .inr ⟨k, e, by omega, ⟨fun h => (by cases h), fun _ => by omega⟩, h2, fun j g1 g2 g3 => h3 j (by have := g2.2 rfl; omega) (by have := g1.2 rfl; omega)⟩
  · simp only [if_true]
    rcases fu_spec (pc x true) (x.c.length - f) f with ⟨e, hn⟩ | ⟨k, e, h1, h2, h3, h4⟩
    · exact .inl ⟨e, fun k h1 h2 => hn k (h2.1 rfl) (by omega)⟩
    · exact .inr ⟨k, e, by omega, ⟨fun _ => h1, fun h => (by cases h)⟩, h3, fun j g1 g2 g3 => h4 j (g1.1 rfl) (by have := g2.1 rfl; omega)⟩
theorem la_spec (x : Cs) (up : Bool) (f : Nat) (hf : f < x.c.length) : (la x up f = -1 ∧ ∀ k, k < x.c.length → On up f k → qc x up k = false) ∨
    ∃ k : Nat, la x up f = k ∧ k < x.c.length ∧ On up f k ∧ qc x up k = true ∧ ∀ j, j < x.c.length → On up k j → j ≠ k → qc x up j = false := by
  unfold la
  cases up
  · simp only [Bool.false_eq_true, if_false]
    rcases ld_spec (qc x false) (f + 1) (-1) with ⟨e, hn⟩ | ⟨k, e, h1, h2, h3⟩
    · exact .inl ⟨e, fun k h1 h2 => hn k (by have := h2.2 rfl; omega)⟩
    · exact .inr ⟨k, e, by omega, ⟨fun h => (by cases h), fun _ => by omega⟩, h2, fun j _ g2 g3 => h3 j (by have := g2.2 rfl; omega)⟩
  · simp only [if_true]
    rcases lu_spec (qc x true) (x.c.length - f) f (-1) with ⟨e, hn⟩ | ⟨k, e, h1, h2, h3, h4⟩
    · exact .inl ⟨e, fun k h1 h2 => hn k (h2.1 rfl) (by omega)⟩
    · exact .inr ⟨k, e, by omega, ⟨fun _ => h1, fun h => (by cases h)⟩, h3, fun j g0 g2 g3 => h4 j (by have := g2.1 rfl; omega) (by omega)⟩
def dI (up : Bool) : Int := if up = true then 1 else -1
/-- The next stop in a direction or, behind the last call, back. -/
def nx1 (x : Cs) (f : Nat) (up : Bool) : Option (Nat × Bool) := if 0 ≤ ah x up f then some ((ah x up f).toNat, up) else if 0 ≤ la x up f then some ((la x up f).toNat, !up) else none
def nx (x : Cs) (f : Nat) (up : Bool) : Option (Nat × Bool) := match nx1 x f up with
  | some r => some r
  | none => nx1 x f (!up)
theorem nx1_spec (x : Cs) (f : Nat) (up : Bool) (hf : f < x.c.length) :
    (nx1 x f up = none ∧ ah x up f = -1 ∧ la x up f = -1 ∧ ∀ k, k < x.c.length → On up f k → pc x up k = false ∧ qc x up k = false) ∨
    (∃ k, nx1 x f up = some (k, up) ∧ ah x up f = (k : Nat) ∧ k < x.c.length ∧ On up f k ∧ pc x up k = true ∧ ∀ j, On up f j → On up j k → j ≠ k → pc x up j = false) ∨
    (∃ k, nx1 x f up = some (k, !up) ∧ ah x up f = -1 ∧ la x up f = (k : Nat) ∧ k < x.c.length ∧ On up f k ∧ qc x up k = true ∧ (∀ j, j < x.c.length → On up f j → pc x up j = false) ∧ ∀ j, j < x.c.length → On up k j → j ≠ k → qc x up j = false) := by
  unfold nx1
  rcases ah_spec x up f hf with ⟨e, hn⟩ | ⟨k, e, h⟩
  · rw [if_neg (by omega)]
    rcases la_spec x up f hf with ⟨e2, hn2⟩ | ⟨k, e2, h2⟩
    · rw [if_neg (by omega)]
      exact .inl ⟨rfl, e, e2, fun k h1 h2 => ⟨hn k h1 h2, hn2 k h1 h2⟩⟩
    · rw [if_pos (by omega), e2]
      exact .inr (.inr ⟨k, by simp, e, rfl, h2.1, h2.2.1, h2.2.2.1, hn, h2.2.2.2⟩)
  · rw [if_pos (by omega), e]
    exact .inr (.inl ⟨k, by simp, rfl, h⟩)
/-- What is served at a floor in a direction. -/
def srv (x : Cs) (k : Nat) (up : Bool) : Cs := cput (cput x 2 k false) (if up = true then 0 else 1) k false
theorem cput_c (x : Cs) (k : Nat) (b : Bool) : cput x 2 k b = ⟨x.u, x.d, x.c.set k b⟩ := by unfold cput; rw [if_neg (by omega), if_neg (by omega)]
theorem srv_t (x : Cs) (k : Nat) : srv x k true = ⟨x.u.set k false, x.d, x.c.set k false⟩ := by unfold srv; rw [cput_c]; rfl
theorem srv_f (x : Cs) (k : Nat) : srv x k false = ⟨x.u, x.d.set k false, x.c.set k false⟩ := by unfold srv; rw [cput_c]; rfl
theorem srv_len (x : Cs) (k : Nat) (up : Bool) : (srv x k up).u.length = x.u.length ∧ (srv x k up).d.length = x.d.length ∧ (srv x k up).c.length = x.c.length := by
  cases up
  · rw [srv_f]; simp
  · rw [srv_t]; simp
theorem srv_ok {x : Cs} {k : Nat} (up : Bool) (h : CV x) (hk : k < x.c.length) : CV (srv x k up) := by
  unfold srv
  exact cput_off (cput_off h hk) (by rw [(cput_len x 2 k false).2.2]; exact hk)
theorem srv_cm {x : Cs} {k : Nat} {up : Bool} (h : CV x) (hk : k < x.c.length) (hp : pc x up k = true) : cm (srv x k up) + 1 ≤ cm x := by
  have h1 := cput_off (k := 2) h hk
  have hl : k < (cput x 2 k false).c.length := by rw [(cput_len x 2 k false).2.2]; exact hk
  have h2 := cput_off (k := if up = true then 0 else 1) h1 hl
  have e1 := cm_put (b := false) h hk h1
  have e2 := cm_put (b := false) h1 hl h2
  have a1 : cat x 2 k = bn x.c k := by unfold cat; rw [if_neg (by omega), if_neg (by omega)]
  have a2 : cat (cput x 2 k false) (if up = true then 0 else 1) k = if up = true then bn x.u k else bn x.d k := by
    rw [cput_c]; unfold cat; cases up <;> simp
  rw [a1] at e1
  rw [a2] at e2
  unfold srv
  obtain ⟨q, hq⟩ : ∃ q : Int, (if up = true then (0 : Int) else 1) = q := ⟨_, rfl⟩
  rw [hq] at e2 ⊢
  unfold pc at hp
  simp only [Bool.false_eq_true, if_false] at e1 e2
  cases hc : bn x.c k
  · rw [hc] at hp e1
    simp only [Bool.false_or] at hp
    rw [hp] at e2
    simp at e1 e2
    omega
  · rw [hc] at e1
    simp only [if_true] at e1
    split at e2 <;> omega
theorem qc_pc {x : Cs} {up : Bool} {k : Nat} (h : qc x up k = true) : pc x (!up) k = true := by
  unfold qc at h; unfold pc
  cases up <;> simp_all
theorem nx_spec (x : Cs) (f : Nat) (up : Bool) (hf : f < x.c.length) :
    (nx x f up = none ∧ nx1 x f up = none ∧ nx1 x f (!up) = none ∧ ∀ k, k < x.c.length → bn x.c k = false ∧ bn x.u k = false ∧ bn x.d k = false) ∨
    ∃ k u, nx x f up = some (k, u) ∧ k < x.c.length ∧ pc x u k = true := by
  unfold nx
  rcases nx1_spec x f up hf with ⟨e, -, -, hn⟩ | ⟨k, e, -, h1, h2, h3, -⟩ | ⟨k, e, -, -, h1, h2, h3, -⟩
  · rw [e]
    rcases nx1_spec x f (!up) hf with ⟨e2, -, -, hn2⟩ | ⟨k, e, -, h1, h2, h3, -⟩ | ⟨k, e, -, -, h1, h2, h3, -⟩
    · refine .inl ⟨e2, rfl, e2, fun k hk => ?_⟩
      have both : ∀ u, pc x u k = false ∧ qc x u k = false → bn x.c k = false ∧ bn x.u k = false ∧ bn x.d k = false := by
        intro u; unfold pc qc
        cases u <;> simp <;> intros <;> simp_all
      rcases On.total up f k with h | ⟨h, _⟩
      · exact both _ (hn k hk h)
      · exact both _ (hn2 k hk h)
    · exact .inr ⟨k, _, e, h1, h3⟩
    · exact .inr ⟨k, _, e, h1, qc_pc h3⟩
  · rw [e]; exact .inr ⟨k, up, rfl, h1, h3⟩
  · rw [e]; exact .inr ⟨k, _, rfl, h1, qc_pc h3⟩
theorem cm_zero {x : Cs} (h : CV x) (hn : ∀ k, k < x.c.length → bn x.c k = false ∧ bn x.u k = false ∧ bn x.d k = false) : cm x = 0 := by
  rw [cm_ok h]
  have h3 := h.2.2.1
  have h4 := h.2.2.2.1
  have f1 : ∀ i, bn x.u i = false := fun i => if g : i < x.c.length then (hn i g).2.1 else bn_out (by omega)
  have f2 : ∀ i, bn x.d i = false := fun i => if g : i < x.c.length then (hn i g).2.2 else bn_out (by omega)
  have f3 : ∀ i, bn x.c i = false := fun i => if g : i < x.c.length then (hn i g).1 else bn_out (by omega)
  rw [ct_none f1, ct_none f2, ct_none f3]
  rfl
/-- All stops. -/
def swl (x : Cs) (f : Nat) (up : Bool) : Nat → List (Nat × Bool)
  | 0 => []
  | m + 1 => match nx x f up with
    | none => []
    | some r => r :: swl (srv x r.1 r.2) r.1 r.2 m
/-- How often a list turns round. -/
def tn (up : Bool) : List (Nat × Bool) → Nat
  | [] => 0
  | r :: l => (if r.2 = up then 0 else 1) + tn r.2 l
def svs (x : Cs) : List (Nat × Bool) → Cs
  | [] => x
  | r :: l => svs (srv x r.1 r.2) l
theorem swl_end : ∀ (m : Nat) (x : Cs) (f : Nat) (up : Bool), CV x → f < x.c.length → cm x < m → cm (svs x (swl x f up m)) = 0 ∧ CV (svs x (swl x f up m)) ∧ ((swl x f up m).length : Int) ≤ cm x
  | 0, x, f, up, h, hf, hm => by have := (cm_top h).1; omega
  | m + 1, x, f, up, h, hf, hm => by
    unfold swl
    rcases nx_spec x f up hf with ⟨e, -, -, hn⟩ | ⟨k, u, e, hk, hp⟩
    · rw [e]
      have hc := cm_zero h hn
      exact ⟨hc, h, by simp; omega⟩
    · rw [e]
      have hd := srv_cm h hk hp
      have hl := (srv_len x k u).2.2
      have ih := swl_end m (srv x k u) k u (srv_ok u h hk) (by rw [hl]; exact hk) (by omega)
      exact ⟨ih.1, ih.2.1, by have := ih.2.2; simp only [List.length_cons]; omega⟩
end Go.Proofs.Ytfhhgddajmihjaa

namespace Go.Proofs.Ytfhhgddajmihjaa
open Go.RowKit
set_option linter.unusedVariables false
set_option linter.unusedSimpArgs false
set_option maxRecDepth 100000

theorem bn_off {xs : List Bool} {j i : Nat} (h : bn (xs.set j false) i = true) : bn xs i = true := by
  by_cases hj : j < xs.length
  · rw [bn_set _ _ hj] at h
    split at h
    · cases h
    · exact h
  · have : xs.set j false = xs := List.set_eq_of_length_le (by omega)
    rwa [this] at h
theorem bn_off' {xs : List Bool} {j i : Nat} (h : bn xs i = false) : bn (xs.set j false) i = false := by
  cases e : bn (xs.set j false) i
  · rfl
  · rw [bn_off e] at h; cases h
theorem srv_c {x : Cs} {k i : Nat} {u : Bool} (h : bn x.c i = false) : bn (srv x k u).c i = false := by
  cases u
  · rw [srv_f]; exact bn_off' h
  · rw [srv_t]; exact bn_off' h
theorem srv_u {x : Cs} {k i : Nat} {u : Bool} (h : bn x.u i = false) : bn (srv x k u).u i = false := by
  cases u
  · rw [srv_f]; exact h
  · rw [srv_t]; exact bn_off' h
theorem srv_d {x : Cs} {k i : Nat} {u : Bool} (h : bn x.d i = false) : bn (srv x k u).d i = false := by
  cases u
  · rw [srv_f]; exact bn_off' h
  · rw [srv_t]; exact h
theorem srv_pc {x : Cs} {k i : Nat} {u v : Bool} (h : pc x v i = false) : pc (srv x k u) v i = false := by
  unfold pc at *
  cases v <;> simp at h ⊢
  · exact ⟨srv_c h.1, srv_d h.2⟩
  · exact ⟨srv_c h.1, srv_u h.2⟩
theorem srv_qc {x : Cs} {k i : Nat} {u v : Bool} (h : qc x v i = false) : qc (srv x k u) v i = false := by
  unfold qc at *
  cases v <;> simp at h ⊢
  · exact srv_u h
  · exact srv_d h
theorem pc_c {x : Cs} {v : Bool} {i : Nat} (h : pc x v i = false) : bn x.c i = false := by
  unfold pc at h; simp at h; exact h.1
theorem pc_of {x : Cs} {v : Bool} {i : Nat} (h : bn x.c i = false) (h2 : qc x (!v) i = false) : pc x v i = false := by
  unfold pc; unfold qc at h2
  cases v <;> simp_all
theorem pc_q {x : Cs} {v : Bool} {i : Nat} (h : pc x v i = false) : qc x (!v) i = false := by
  unfold pc at h; unfold qc
  cases v <;> simp_all
theorem nn (v : Bool) : (!(!v)) = v := by cases v <;> rfl
def Z0 (x : Cs) (f : Nat) (v : Bool) : Prop := (∀ k, k < x.c.length → qc x v k = false) ∧ ∀ k, k < x.c.length → On v f k ∨ bn x.c k = false
def Z1 (x : Cs) (f : Nat) (v : Bool) : Prop := ∀ k, k < x.c.length → On v f k ∨ pc x v k = false
theorem On.trans {v : Bool} {a b c : Nat} (h : On v a b) (k : On v b c) : On v a c := ⟨fun e => Nat.le_trans (h.1 e) (k.1 e), fun e => Nat.le_trans (k.2 e) (h.2 e)⟩
theorem On.other {v : Bool} {a b : Nat} (h : On (!v) a b) : On v b a := by
  obtain ⟨h1, h2⟩ := h
  cases v
  · exact ⟨fun e => (by cases e), fun _ => h1 rfl⟩
  · exact ⟨fun _ => h2 rfl, fun e => (by cases e)⟩
theorem tn_le : ∀ (m : Nat) (x : Cs) (f : Nat) (v : Bool), f < x.c.length → (Z0 x f v → tn v (swl x f v m) = 0) ∧ (Z1 x f v → tn v (swl x f v m) ≤ 1) ∧ tn v (swl x f v m) ≤ 2
  | 0, x, f, v, hf => ⟨fun _ => rfl, fun _ => by simp [swl, tn], by simp [swl, tn]⟩
  | m + 1, x, f, v, hf => by
    have key : ∀ k u, k < x.c.length → (Z0 (srv x k u) k u → tn u (swl (srv x k u) k u m) = 0) ∧ (Z1 (srv x k u) k u → tn u (swl (srv x k u) k u m) ≤ 1) ∧ tn u (swl (srv x k u) k u m) ≤ 2 :=
      fun k u hk => tn_le m (srv x k u) k u (by rw [(srv_len x k u).2.2]; exact hk)
    have hc : ∀ k u, (srv x k u).c.length = x.c.length := fun k u => (srv_len x k u).2.2
    have same : ∀ k, tn v ((k, v) :: swl (srv x k v) k v m) = tn v (swl (srv x k v) k v m) := fun k => by simp [tn]
    have turn : ∀ k, tn v ((k, !v) :: swl (srv x k (!v)) k (!v) m) = 1 + tn (!v) (swl (srv x k (!v)) k (!v) m) := fun k => by simp [tn]
    unfold swl nx
    rcases nx1_spec x f v hf with ⟨e, -, -, hn⟩ | ⟨k, e, -, h1, h2, h3, h4⟩ | ⟨k, e, -, -, h1, h2, h3, h4, h5⟩
    · rw [e]
      simp only []
      rcases nx1_spec x f (!v) hf with ⟨e2, -, -, hn2⟩ | ⟨k, e2, -, h1, h2, h3, h4⟩ | ⟨k, e2, -, -, h1, h2, h3, h4, h5⟩
      · rw [e2]; exact ⟨fun _ => rfl, fun _ => by simp [tn], by simp [tn]⟩
      · rw [e2]
        simp only [turn]
        obtain ⟨t0, t1, t2⟩ := key k (!v) h1
        have z1 : Z1 (srv x k (!v)) k (!v) := fun j hj => by
          rw [hc] at hj
          rcases On.total v f j with g | ⟨g, -⟩
          · exact .inr (srv_pc (pc_of (pc_c (hn j hj g).1) (by rw [nn]; exact (hn j hj g).2)))
          · rcases On.total (!v) k j with g2 | ⟨g2, g3⟩
            · exact .inl g2
            · exact .inr (srv_pc (h4 j g (On.other g2) g3))
        refine ⟨fun z => ?_, fun z => ?_, by have := t1 z1; omega⟩
        · exfalso
          have hq := z.1 k h1
          rcases z.2 k h1 with g | g
          · have := (hn k h1 g).1
            rw [pc_of (pc_c this) (by rw [nn]; exact hq)] at h3; cases h3
          · rw [pc_of g (by rw [nn]; exact hq)] at h3; cases h3
        · have hp : ∀ j, j < x.c.length → pc x v j = false := fun j hj => (z j hj).elim (fun g => (hn j hj g).1) id
          have z0 : Z0 (srv x k (!v)) k (!v) := ⟨fun j hj => srv_qc (pc_q (hp j (by rw [hc] at hj; exact hj))), fun j hj => .inr (srv_c (pc_c (hp j (by rw [hc] at hj; exact hj))))⟩
          rw [t0 z0]; omega
      · rw [e2]
        simp only [nn, same]
        obtain ⟨t0, t1, t2⟩ := key k v h1
        have z0 : Z0 (srv x k v) k v := ⟨fun j hj => by
            rw [hc] at hj
            rcases On.total v f j with g | ⟨g, -⟩
            · exact srv_qc (hn j hj g).2
            · have := pc_q (h4 j hj g)
              rw [nn] at this
              exact srv_qc this, fun j hj => by
            rw [hc] at hj
            rcases On.total v f j with g | ⟨g, -⟩
            · exact .inr (srv_c (pc_c (hn j hj g).1))
            · exact .inr (srv_c (pc_c (h4 j hj g)))⟩
        have := t0 z0
        exact ⟨fun _ => this, fun _ => by omega, by omega⟩
    · rw [e]
      simp only [same]
      obtain ⟨t0, t1, t2⟩ := key k v h1
      refine ⟨fun z => t0 ⟨fun j hj => srv_qc (z.1 j (by rw [hc] at hj; exact hj)), fun j hj => ?_⟩, fun z => t1 fun j hj => ?_, t2⟩
      · rw [hc] at hj
        rcases z.2 j hj with g | g
        · rcases On.total v k j with g2 | ⟨g2, g3⟩
          · exact .inl g2
          · exact .inr (srv_c (pc_c (h4 j g (On.other g2) g3)))
        · exact .inr (srv_c g)
      · rw [hc] at hj
        rcases z j hj with g | g
        · rcases On.total v k j with g2 | ⟨g2, g3⟩
          · exact .inl g2
          · exact .inr (srv_pc (h4 j g (On.other g2) g3))
        · exact .inr (srv_pc g)
    · rw [e]
      simp only [turn]
      obtain ⟨t0, t1, t2⟩ := key k (!v) h1
      have z1 : Z1 (srv x k (!v)) k (!v) := fun j hj => by
        rw [hc] at hj
        rcases On.total (!v) k j with g2 | ⟨g2, g3⟩
        · exact .inl g2
        · rw [nn] at g2
          exact .inr (srv_pc (pc_of (pc_c (h4 j hj (On.trans h2 g2))) (by rw [nn]; exact h5 j hj g2 g3)))
      refine ⟨fun z => ?_, fun z => ?_, by have := t1 z1; omega⟩
      · rw [z.1 k h1] at h3; cases h3
      · have hp : ∀ j, j < x.c.length → pc x v j = false := fun j hj => (z j hj).elim (fun g => h4 j hj g) id
        have z0 : Z0 (srv x k (!v)) k (!v) := ⟨fun j hj => srv_qc (pc_q (hp j (by rw [hc] at hj; exact hj))), fun j hj => .inr (srv_c (pc_c (hp j (by rw [hc] at hj; exact hj))))⟩
        rw [t0 z0]; omega
end Go.Proofs.Ytfhhgddajmihjaa

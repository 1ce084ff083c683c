/- The plain mathematics of doors (chapter 3). -/
import Derived.Test.Yteeokegkbhpbcaa2P
namespace Go.Proofs.Yteeokegkbhpbcaa
open Go.RowKit
set_option linter.unusedVariables false
set_option linter.unusedSimpArgs false

/-- What a valid door is. -/
def DV (g h : Int) : Prop := 0 ≤ g ∧ g ≤ 4 ∧ 0 ≤ h ∧ h ≤ 3 ∧ (h = 0 ∨ g = 4)
instance (g h : Int) : Decidable (DV g h) := by unfold DV; infer_instance
def dvB (g h : Int) : Bool := decide (DV g h)
theorem dvB_t {g h : Int} (k : DV g h) : dvB g h = true := decide_eq_true k
theorem dvB_f {g h : Int} (k : ¬ DV g h) : dvB g h = false := decide_eq_false k
theorem dvB_iff {g h : Int} : dvB g h = true ↔ DV g h := by unfold dvB; exact decide_eq_true_iff
/-- A list has a number. -/
noncomputable def hasB (xs : List Int) (v : Int) : Bool := tr (∃ k : Nat, k < xs.length ∧ nth xs k = v)
theorem hasB_t {xs : List Int} {v : Int} (k : Nat) (h : k < xs.length) (e : nth xs k = v) : hasB xs v = true := tr_true ⟨k, h, e⟩
theorem hasB_f {xs : List Int} {v : Int} (h : ∀ k : Nat, k < xs.length → nth xs k ≠ v) : hasB xs v = false := tr_false fun ⟨k, hk, e⟩ => h k hk e
theorem hasB_nil (v : Int) : hasB [] v = false := hasB_f (by simp)
/-- A tick of a valid door. -/
def ds (g h : Int) (a b : Bool) : Int × Int := if a = true ∨ (b = true ∧ 0 < g) then (if 4 ≤ g + 1 then (4, 3) else (g + 1, 0)) else if 0 < h then (g, h - 1) else (max (g - 1) 0, 0)
/-- `DoorStep`. -/
def dst (g h : Int) (a b : Bool) : Int × Int := if dvB g h = true then ds g h a b else (0, 0)
theorem dst_ok {g h : Int} {a b : Bool} (k : dvB g h = true) : dst g h a b = ds g h a b := by unfold dst; rw [if_pos k]
theorem dst_bad {g h : Int} {a b : Bool} (k : dvB g h = false) : dst g h a b = (0, 0) := by unfold dst; rw [if_neg (by rw [k]; simp)]
theorem ds_wide {g h : Int} {a b : Bool} (k : a = true ∨ (b = true ∧ 0 < g)) (l : 4 ≤ g + 1) : ds g h a b = (4, 3) := by unfold ds; rw [if_pos k, if_pos l]
theorem ds_up {g h : Int} {a b : Bool} (k : a = true ∨ (b = true ∧ 0 < g)) (l : g + 1 < 4) : ds g h a b = (g + 1, 0) := by unfold ds; rw [if_pos k, if_neg (by omega)]
theorem ds_held {g h : Int} {a b : Bool} (k : ¬ (a = true ∨ (b = true ∧ 0 < g))) (l : 0 < h) : ds g h a b = (g, h - 1) := by unfold ds; rw [if_neg k, if_pos l]
theorem ds_down {g h : Int} {a b : Bool} (k : ¬ (a = true ∨ (b = true ∧ 0 < g))) (l : ¬ 0 < h) : ds g h a b = (max (g - 1) 0, 0) := by unfold ds; rw [if_neg k, if_neg l]
theorem ds_valid {g h : Int} (a b : Bool) (k : DV g h) : DV (ds g h a b).1 (ds g h a b).2 := by
  obtain ⟨k1, k2, k3, k4, k5⟩ := k
  unfold ds
  split
  · split
    · exact ⟨by simp, by simp, by simp, by simp, .inr rfl⟩
    · exact ⟨by simp only; omega, by simp only; omega, by simp, by simp, .inl rfl⟩
  · split
    · exact ⟨k1, k2, by simp only; omega, by simp only; omega, by rcases k5 with e | e; omega; exact .inr e⟩
    · exact ⟨by simp only; omega, by simp only; omega, by simp, by simp, .inl rfl⟩
/-- The door after n ticks. -/
def dit (A B : Nat → Bool) : Nat → Int × Int → Int × Int
  | 0, p => p
  | n + 1, p => ds (dit A B n p).1 (dit A B n p).2 (A n) (B n)
theorem dit_valid {A B : Nat → Bool} {p : Int × Int} (k : DV p.1 p.2) : ∀ n, DV (dit A B n p).1 (dit A B n p).2
  | 0 => k
  | n + 1 => ds_valid _ _ (dit_valid k n)
theorem dit_step {A B : Nat → Bool} {n : Nat} {p : Int × Int} {x y : Int} (h : dit A B n p = (x, y)) : dit A B (n + 1) p = ds x y (A n) (B n) := by
  show ds (dit A B n p).1 (dit A B n p).2 (A n) (B n) = _; rw [h]
theorem dit_add (A B : Nat → Bool) (m : Nat) (p : Int × Int) : ∀ n, dit A B (m + n) p = dit (fun k => A (m + k)) (fun k => B (m + k)) n (dit A B m p)
  | 0 => rfl
  | n + 1 => by
    show ds (dit A B (m + n) p).1 (dit A B (m + n) p).2 (A (m + n)) (B (m + n)) = _
    rw [dit_add A B m p n]; rfl
theorem dit_ext {A B A' B' : Nat → Bool} (p : Int × Int) (h : ∀ n, A n = A' n) (k : ∀ n, B n = B' n) : ∀ n, dit A B n p = dit A' B' n p
  | 0 => rfl
  | n + 1 => by
    show ds (dit A B n p).1 (dit A B n p).2 (A n) (B n) = _
    rw [dit_ext p h k n, h, k]; rfl
/-- `DoorRun` of what is valid. -/
noncomputable def drn (g h : Int) (n : Nat) (xs ys : List Int) : Int × Int := dit (fun k => hasB xs k) (fun k => hasB ys k) n (g, h)
/-- `DoorRun`. -/
noncomputable def drun (g h t : Int) (xs ys : List Int) : Int × Int := if dvB g h = true ∧ inB 0 t 99 = true then drn g h t.toNat xs ys else (0, 0)
theorem drun_ok {g h t : Int} {xs ys : List Int} (k : dvB g h = true) (l : inB 0 t 99 = true) : drun g h t xs ys = drn g h t.toNat xs ys := by unfold drun; rw [if_pos ⟨k, l⟩]
theorem drun_bad {g h t : Int} {xs ys : List Int} (k : ¬ (dvB g h = true ∧ inB 0 t 99 = true)) : drun g h t xs ys = (0, 0) := by unfold drun; rw [if_neg k]
/-- `DoorTicks`. -/
def dtk (g h : Int) : Int := if dvB g h = true then g + h else -1
theorem dtk_ok {g h : Int} (k : dvB g h = true) : dtk g h = g + h := by unfold dtk; rw [if_pos k]
theorem dtk_bad {g h : Int} (k : dvB g h = false) : dtk g h = -1 := by unfold dtk; rw [if_neg (by rw [k]; simp)]

/-- Two parts of the ticks, one after the other. -/
theorem drn_two {g h : Int} {m n : Nat} {xs ys xs' ys' : List Int} {x y : Int} (e : drn g h m xs ys = (x, y)) (hx : ∀ k : Nat, hasB xs' k = hasB xs ((m + k : Nat) : Int)) (hy : ∀ k : Nat, hasB ys' k = hasB ys ((m + k : Nat) : Int)) :
    drn x y n xs' ys' = drn g h (m + n) xs ys := by
  unfold drn at *
  rw [dit_add, e]
  exact dit_ext _ hx hy n
/-- A shut door that is not asked stays shut. -/
theorem drn_shut (n : Nat) (ys : List Int) : drn 0 0 n [] ys = (0, 0) := by
  unfold drn
  induction n with
  | zero => rfl
  | succ n ih => rw [dit_step ih, ds_down (by rw [hasB_nil]; simp) (by simp)]; rfl
theorem hasB_sub {xs zs : List Int} {m : Nat} (hl : zs.length = xs.length) (hz : ∀ i, i < xs.length → nth zs i = nth xs i - m) (k : Nat) : hasB zs k = hasB xs ((m + k : Nat) : Int) := by
  unfold hasB
  refine tr_iff ⟨fun ⟨i, hi, e⟩ => ⟨i, by omega, ?_⟩, fun ⟨i, hi, e⟩ => ⟨i, by omega, ?_⟩⟩
  · rw [hz i (by omega)] at e; omega
  · rw [hz i hi]; omega
/-- The ticks of a door to which nothing happens. -/
theorem quiet_tick {g h : Int} : ds g h false false = if 0 < h then (g, h - 1) else (max (g - 1) 0, 0) := by unfold ds; simp
theorem drn_quiet {g h : Int} (k : DV g h) : ∀ n : Nat, (n : Int) ≤ g + h → drn g h n [] [] = if (n : Int) ≤ h then (g, h - n) else (g + h - n, 0)
  | 0, _ => by have := k.2.2.1; unfold drn; show (g, h) = _; rw [if_pos (by omega)]; simp
  | n + 1, hn => by
    have ih := drn_quiet k n (by omega)
    have k1 := k.1
    have k3 := k.2.2.1
    unfold drn at *
    show ds (dit _ _ n (g, h)).1 (dit _ _ n (g, h)).2 (hasB [] n) (hasB [] n) = _
    rw [hasB_nil, ih]
    by_cases c : ((n + 1 : Nat) : Int) ≤ h
    · rw [if_pos (by omega), if_pos c, quiet_tick, if_pos (by simp only; omega)]
      simp only [Prod.mk.injEq, true_and]; omega
    · rw [if_neg c]
      by_cases d : (n : Int) ≤ h
      · rw [if_pos d, quiet_tick, if_neg (by simp only; omega)]
        simp only [Prod.mk.injEq, and_true]; omega
      · rw [if_neg d, quiet_tick, if_neg (by simp)]
        simp only [Prod.mk.injEq, and_true]; omega
theorem drn_end {g h : Int} (k : DV g h) {n : Nat} (hn : (n : Int) = g + h) : drn g h n [] [] = (0, 0) := by
  have := drn_quiet k n (by omega)
  obtain ⟨k1, k2, k3, k4, k5⟩ := k
  rw [this]
  split
  · exact Prod.ext (by show g = 0; omega) (by show h - n = 0; omega)
  · exact Prod.ext (by show g + h - n = 0; omega) rfl
theorem drn_before {g h : Int} (k : DV g h) {n : Nat} (hn : (n : Int) + 1 = g + h) : 0 < (drn g h n [] []).1 := by
  have := drn_quiet k n (by omega)
  obtain ⟨k1, k2, k3, k4, k5⟩ := k
  rw [this]
  split
  · simp only; omega
  · simp only; omega
/-- What a tick does to a valid door, for the law. -/
theorem ds_law {g h : Int} {a b : Bool} (k : DV g h) : ((a = false ∧ b = false) ∨ g ≤ (ds g h a b).1) ∧ (ds g h a b).1 - g ≤ 1 ∧ g - (ds g h a b).1 ≤ 1 ∧ (g < 4 ∨ (ds g h a b).1 = 4 ∨ h = 0) := by
  obtain ⟨k1, k2, k3, k4, k5⟩ := k
  by_cases c : a = true ∨ (b = true ∧ 0 < g)
  · by_cases l : 4 ≤ g + 1
    · rw [ds_wide c l]; exact ⟨.inr (by show g ≤ 4; omega), by show 4 - g ≤ 1; omega, by show g - 4 ≤ 1; omega, .inr (.inl rfl)⟩
    · rw [ds_up c (by omega)]; exact ⟨.inr (by show g ≤ g + 1; omega), by show g + 1 - g ≤ 1; omega, by show g - (g + 1) ≤ 1; omega, .inl (by omega)⟩
  · by_cases l : 0 < h
    · rw [ds_held c l]; exact ⟨.inr (Int.le_refl _), by show g - g ≤ 1; omega, by show g - g ≤ 1; omega, .inr (.inl (by show g = 4; omega))⟩
    · rw [ds_down c l]
      refine ⟨?_, by show max (g - 1) 0 - g ≤ 1; omega, by show g - max (g - 1) 0 ≤ 1; omega, .inr (.inr (by omega))⟩
      cases a
      · cases b
        · exact .inl ⟨rfl, rfl⟩
        · have : ¬ 0 < g := fun e => c (.inr ⟨rfl, e⟩)
          exact .inr (by show g ≤ max (g - 1) 0; omega)
      · exact absurd (.inl rfl) c
theorem dtk_bd {g h : Int} : dtk g h ≤ 7 ∧ -1 ≤ dtk g h := by
  unfold dtk; split
  · rename_i k; have := dvB_iff.1 k; unfold DV at this; omega
  · omega
theorem ds_bd {g h : Int} (a b : Bool) (k : DV g h) : 0 ≤ (ds g h a b).1 ∧ (ds g h a b).1 ≤ 4 ∧ 0 ≤ (ds g h a b).2 ∧ (ds g h a b).2 ≤ 3 := by
  have := ds_valid a b k; unfold DV at this; omega
end Go.Proofs.Yteeokegkbhpbcaa

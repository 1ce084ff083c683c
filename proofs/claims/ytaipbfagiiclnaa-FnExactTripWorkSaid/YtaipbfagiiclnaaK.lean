/- Lemmas that serve every chapter: ends of calls, own rows. -/
import Derived.Test.YtaipbfagiiclnaaS
import Derived.Test.Ytaipbfagiiclnaa2B
import Derived.Test.YtaipbfagiiclnaaH
import Derived.Maps.AppendAt
namespace Go.Proofs.Ytaipbfagiiclnaa
open Go.RowKit
set_option linter.unusedVariables false

theorem Ro.mk {w w' : World} {v : Value} {e : Ending} (h : Ro w v e w') : Mk w v e w' := by
  obtain ⟨he, n, rfl⟩ := h; exact ⟨he, below_drewN' n⟩
theorem St.mk {w w' : World} {v : Value} {e : Ending} (h : St w v e w') : Mk w v e w' := by
  obtain ⟨he, rfl⟩ := h; exact ⟨he, Below.refl _ _⟩
theorem LawOk.mk' {w w' : World} {e : Ending} (h : LawOk w e w') : Mk w (.bool true) e w' := h
theorem Sl.of {w' : World} {xs : List Int} {g : Nat} (h : Ints w' g 0 xs) : Sl w' (some ⟨g, 0, none⟩) xs := .inr ⟨g, 0, rfl, h⟩
theorem Own.none {w : World} : Own (w.alloc (.cells #[] 3)) w.heap.size (.slice (some ⟨w.heap.size, 0, Option.none⟩) 0 0) [] :=
  ⟨by simp, .inr ⟨w.heap.size, 0, #[], rfl, Nat.le_refl _, heap_alloc_new w _, Nat.le_refl _, by unfold maxLen; omega, rfl, by simp⟩⟩
/-- A row of the call's own that is not nil: a block. -/
theorem Own.some {w : World} {B : Nat} {v : Value} {xs : List Int} (h : Own w B v xs) (hn : v ≠ .slice Option.none 0 0) :
    ∃ b cap, v = .slice (some ⟨b, 0, Option.none⟩) xs.length cap ∧ B ≤ b ∧ b < w.heap.size ∧ Ints w b 0 xs ∧ xs.length ≤ cap ∧ cap ≤ maxLen := by
  by_cases h1 : 1 ≤ xs.length
  · obtain ⟨b, cap, e, hb, hI, _, hl, hm⟩ := Own.opened h h1
    exact ⟨b, cap, e, hb, World.block_lt_of_cell? w _ (hI 0 (by omega)), hI, hl, hm⟩
  · have h0 : xs = [] := List.length_eq_zero_iff.1 (by omega)
    subst h0
    obtain ⟨_, h⟩ := h
    rcases h with ⟨rfl, h0⟩ | ⟨g, cap, cur, rfl, hb, hh, hl, hm, hs, ht⟩
    · exact absurd rfl hn
    · refine ⟨g, cap, rfl, hb, ?_, fun i hi => by simp at hi, by simp, hm⟩
      have := hh
      rw [Array.getElem?_eq_some_iff] at this
      exact this.1
/-- Two rows of the call's own, apart from each other. -/
def Apart (u v : Value) : Prop := ∀ i j, u.ownBlock = Option.some i → v.ownBlock = Option.some j → i ≠ j
theorem Own.apart {w w' : World} {B : Nat} {u v : Value} {xs : List Int} (h : Own w B u xs) (ha : Apart u v) (hg : w.grownBy w' v.ownBlock) : Own w' B u xs :=
  World.ownsRow.kept h hg (by
    rcases e : u.ownBlock with _ | i
    · exact .inl rfl
    · refine .inr fun e2 => ?_
      rcases e3 : v.ownBlock with _ | j
      · rw [e3] at e2; cases e2
      · rw [e3] at e2; cases e2; exact ha _ _ e e3 rfl)
/-- A row that has grown is apart from what its elder form was apart from. -/
theorem Apart.grown {w : World} {B : Nat} {u v v' : Value} {xs : List Int} (h : Own w B u xs) (ha : Apart u v) (hat : v'.ownBlock = v.ownBlock ∨ v'.ownBlock = Option.some w.heap.size) : Apart u v' := by
  intro i j hi hj
  rcases hat with e | e
  · exact ha i j hi (by rw [← e]; exact hj)
  · rw [e] at hj
    cases hj
    have := (World.ownsRow.lt h i hi).2
    omega
theorem Apart.grown1 {w : World} {B : Nat} {u v v' : Value} {xs : List Int} (h : Own w B u xs) (ha : Apart u v) (hat : v'.ownBlock = v.ownBlock ∨ v'.ownBlock = Option.some (w.heap.size + 1)) : Apart u v' := by
  intro i j hi hj
  rcases hat with e | e
  · exact ha i j hi (by rw [← e]; exact hj)
  · rw [e] at hj
    cases hj
    have := (World.ownsRow.lt h i hi).2
    omega
theorem Apart.symm {u v : Value} (h : Apart u v) : Apart v u := fun i j hi hj e => h j i hj hi e.symm
theorem Ints.take {w : World} {b off : Nat} {xs : List Int} (h : Ints w b off xs) (n : Nat) : Ints w b off (xs.take n) := fun i hi => by
  have hi2 : i < n ∧ i < xs.length := by simp at hi; omega
  rw [nth_take xs hi2.1]; exact h i hi2.2
theorem Ints.drop {w : World} {b off : Nat} {xs : List Int} (h : Ints w b off xs) (n : Nat) : Ints w b (off + n) (xs.drop n) := fun i hi => by
  have hi2 : n + i < xs.length := by simp at hi; omega
  rw [nth_drop, Nat.add_assoc]; exact h _ hi2
theorem Ints.drop0 {w : World} {b : Nat} {xs : List Int} (h : Ints w b 0 xs) (n : Nat) : Ints w b n (xs.drop n) := by have := h.drop n; rwa [Nat.zero_add] at this
theorem Own.base {w : World} {B : Nat} {v : Value} {xs : List Int} (h : Own w B v xs) (hn : v ≠ .slice Option.none 0 0) : B ≤ w.heap.size := by
  obtain ⟨b, cap, _, h1, h2, _⟩ := Own.some h hn
  omega
theorem Own.mono {w : World} {A B : Nat} {v : Value} {xs : List Int} (h : Own w B v xs) (hA : A ≤ B) : Own w A v xs := by
  obtain ⟨h1, h⟩ := h
  refine ⟨h1, ?_⟩
  rcases h with h | ⟨g, cap, cur, e, hb, r⟩
  · exact .inl h
  · exact .inr ⟨g, cap, cur, e, Nat.le_trans hA hb, r⟩
theorem _root_.Go.RowKit.Below.own {w w1 w2 : World} {row : Option Nat} (h : Below w.heap.size w w1) (k : w1.grownBy w2 row) (hr : ∀ i, row = Option.some i → w.heap.size ≤ i) : Below w.heap.size w w2 :=
  ⟨k.os.trans h.os, k.tape.trans h.tape, k.output.trans h.output, Nat.le_trans h.size k.size, fun i hi => (k.block i (Nat.lt_of_lt_of_le hi h.size) (fun e => by have := hr i e.symm; omega)).trans (h.block i hi)⟩
theorem Ints.al {w : World} {b off : Nat} {xs : List Int} (h : Ints w b off xs) (o : Obj) : Ints (w.alloc o) b off xs := Ints.below h ((Below.refl _ _).alloc (Nat.le_refl _) o)
theorem Ints.gr {w w' : World} {row : Option Nat} {b off : Nat} {xs : List Int} (h : Ints w b off xs) (k : w.grownBy w' row) (hr : ∀ i, row = Option.some i → 0 < xs.length → b < i) : Ints w' b off xs :=
  fun i hi => World.grownBy.cell k (h i hi) (fun e => by have := hr _ e.symm (by omega); simp at this)
theorem Ints.lt {w : World} {b off : Nat} {xs : List Int} (h : Ints w b off xs) : 0 < xs.length → b < w.heap.size := fun h0 => World.block_lt_of_cell? w _ (h 0 h0)
theorem Box.gr {w w' : World} {row : Option Nat} {b : Nat} {x y : Int} (h : Box w b x y) (k : w.grownBy w' row) (hr : ∀ i, row = Option.some i → b < i) : Box w' b x y := by
  have hb := Box.lt h
  have e := k.block b hb (fun e => by have := hr _ e.symm; omega)
  obtain ⟨⟨h1, h2⟩, h3, h4⟩ := h
  refine ⟨⟨?_, ?_⟩, ?_, ?_⟩
  · rw [World.cell?_of_block e]; exact h1
  · rw [World.cell?_of_block e]; exact h2
  · rw [World.frozen?_of_block e]; exact h3
  · rw [World.frozen?_of_block e]; exact h4
theorem Own.al {w : World} {B : Nat} {v : Value} {xs : List Int} (h : Own w B v xs) (o : Obj) : Own (w.alloc o) B v xs := Own.alloc h o
/-- Where the rest of a slice begins: a slice without room behind its end keeps its address. -/
theorem Ints.cut {w : World} {b off cap h : Nat} {xs : List Int} (I : Ints w b off xs) (hl : xs.length ≤ cap) (hh : h ≤ xs.length) : ∃ A, (cap = h ∧ A = off ∨ cap ≠ h ∧ A = off + h) ∧ Ints w b A (xs.drop h) := by
  by_cases e : cap = h
  · refine ⟨off, .inl ⟨e, rfl⟩, fun i hi => ?_⟩
    simp at hi
    omega
  · exact ⟨off + h, .inr ⟨e, rfl⟩, I.drop h⟩
end Go.Proofs.Ytaipbfagiiclnaa

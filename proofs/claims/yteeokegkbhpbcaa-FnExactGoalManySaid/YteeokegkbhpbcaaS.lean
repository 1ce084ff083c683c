/- Frames of the drawing functions, and rows of their own. -/
import Derived.Test.YteeokegkbhpbcaaR
namespace Go.Proofs.Yteeokegkbhpbcaa
open Go.RowKit
set_option linter.unusedVariables false
set_option linter.unusedSimpArgs false

/-- Only block g, and what is new, has changed. -/
def Fr (w : World) (g : Nat) (w' : World) : Prop := w.grownBy w' (some g)
theorem Fr.refl (w : World) (g : Nat) : Fr w g w := ⟨rfl, rfl, rfl, Nat.le_refl _, fun _ _ _ => rfl⟩
theorem Fr.trans {w w1 w2 : World} {g : Nat} (h : Fr w g w1) (k : Fr w1 g w2) : Fr w g w2 :=
  ⟨k.os.trans h.os, k.tape.trans h.tape, k.output.trans h.output, Nat.le_trans h.size k.size, fun i hi hne => (k.block i (Nat.lt_of_lt_of_le hi h.size) hne).trans (h.block i hi hne)⟩
theorem Fr.own {w w1 w2 : World} {g : Nat} {row : Option Nat} (h : Fr w g w1) (k : w1.grownBy w2 row) (hr : ∀ i, row = some i → w.heap.size ≤ i) : Fr w g w2 :=
  ⟨k.os.trans h.os, k.tape.trans h.tape, k.output.trans h.output, Nat.le_trans h.size k.size, fun i hi hne => (k.block i (Nat.lt_of_lt_of_le hi h.size) (fun e => by have := hr i e.symm; omega)).trans (h.block i hi hne)⟩
theorem Fr.alloc {w w1 : World} {g : Nat} (h : Fr w g w1) (o : Obj) : Fr w g (w1.alloc o) := h.own (World.grownBy_alloc w1 o none) (fun i e => by cases e)
theorem Fr.drewN {w w1 : World} {g : Nat} (h : Fr w g w1) (n : Nat) : Fr w g (w1.drewN n) := ⟨h.os, h.tape, h.output, h.size, h.block⟩
theorem Fr.set {w w1 : World} {g : Nat} (h : Fr w g w1) {i j : Nat} (v : Value) (hi : w.heap.size ≤ i) : Fr w g (w1.setCell ⟨i, j, none⟩ v) :=
  ⟨h.os, h.tape, h.output, by rw [World.size_setCell]; exact h.size, fun k hk hne => (Below.heap_setCell _ _ _ _ (by simp; omega)).trans (h.block k hk hne)⟩
theorem Fr.below {w w1 w2 : World} {g : Nat} (h : Below w.heap.size w w1) (k : Fr w1 g w2) (hg : w.heap.size ≤ g) : Below w.heap.size w w2 :=
  ⟨k.os.trans h.os, k.tape.trans h.tape, k.output.trans h.output, Nat.le_trans h.size k.size, fun i hi => (k.block i (Nat.lt_of_lt_of_le hi h.size) (by simp; omega)).trans (h.block i hi)⟩

theorem Rd.lt {w : World} {g c : Nat} (h : Rd w g c) : g < w.heap.size := by
  obtain ⟨a, n, cap, h0, _⟩ := h
  exact World.block_lt_of_cell? w _ h0
theorem Rd.kept {w w' : World} {g c : Nat} (h : Rd w g c) (hk : ∀ k, k ≤ g → w'.heap[k]? = w.heap[k]?) : Rd w' g c := by
  obtain ⟨a, n, cap, h0, h1, h2, h3, h4, h5⟩ := h
  refine ⟨a, n, cap, ?_, ?_, ?_, h3, h4, ?_⟩
  · rw [World.cell?_of_block (w := w) (hk g (Nat.le_refl _))]; exact h0
  · rw [World.cell?_of_block (w := w) (hk g (Nat.le_refl _))]; exact h1
  · rw [World.frozen?_of_block (w := w) (hk g (Nat.le_refl _))]; exact h2
  · rcases h5 with h5 | ⟨b, off, rfl, y, hy, hc⟩
    · exact .inl h5
    · by_cases h0 : n = 0
      · exact .inl h0
      · refine .inr ⟨b, off, rfl, y, hy, fun i hi => ?_⟩
        rw [World.cell?_of_block (w := w) (hk b (by rcases h4 with h4 | h4; omega; have := h4 _ rfl; simp at this; omega))]; exact hc i hi
theorem Rd.grown {w w' : World} {g c : Nat} {row : Option Nat} (h : Rd w g c) (hg : w.grownBy w' row) (hr : ∀ k, row = some k → g < k) : Rd w' g c :=
  h.kept fun k hk => hg.block k (by have := h.lt; omega) (fun e => by have := hr k e.symm; omega)
theorem Rd.alloc {w : World} {g c : Nat} (h : Rd w g c) (o : Obj) : Rd (w.alloc o) g c := h.grown (World.grownBy_alloc w o none) (fun i e => by cases e)
theorem Rd.set {w : World} {g c i j : Nat} (h : Rd w g c) (v : Value) (hi : g < i) : Rd (w.setCell ⟨i, j, none⟩ v) g c :=
  h.kept fun k hk => Below.heap_setCell _ _ _ _ (by simp; omega)
theorem Rd.drewN {w : World} {g c : Nat} (h : Rd w g c) (n : Nat) : Rd (w.drewN n) g c := h

/-- A slice of ints of the call's own. -/
def Own (w : World) (B : Nat) (v : Value) (xs : List Int) : Prop := w.ownsRow B 3 1 v xs.length (xs.map (Value.int .i64))
theorem nth_eq {xs : List Int} {i : Nat} (h : i < xs.length) : nth xs i = xs[i] := by simp [nth, List.getD, h]
theorem Own.sl {w : World} {B : Nat} {v : Value} {xs : List Int} (h : Own w B v xs) : ∃ a cap, v = .slice a xs.length cap ∧ Sl w a xs := by
  obtain ⟨_, h⟩ := h
  rcases h with ⟨rfl, h0⟩ | ⟨g, cap, cur, rfl, hb, hh, hl, hm, hs, ht⟩
  · exact ⟨none, 0, by rw [h0], .inl (List.length_eq_zero_iff.1 h0)⟩
  · refine ⟨_, cap, rfl, .inr ⟨g, 0, rfl, fun i hi => ?_⟩⟩
    have e : (cur.toList.take (xs.length * 1))[i]? = some (.int .i64 (nth xs i)) := by rw [ht]; simp [hi, nth_eq]
    rw [List.getElem?_take, if_pos (by omega)] at e
    simp [World.cell?, hh]
    simpa using e
theorem Ints.fr {w w' : World} {g b off : Nat} {xs : List Int} (h : Ints w b off xs) (hf : Fr w g w') (hne : b ≠ g) : Ints w' b off xs :=
  fun i hi => World.grownBy.cell hf (h i hi) (by simp; exact hne)
theorem Own.lt {w : World} {B : Nat} {v : Value} {xs : List Int} (h : Own w B v xs) : ∀ k, v.ownBlock = some k → B ≤ k := fun k hk => (World.ownsRow.lt h k hk).1
theorem Own.kept {w w' : World} {B g : Nat} {v : Value} {xs : List Int} (h : Own w B v xs) (hg : w.grownBy w' (some g)) (hB : g < B) : Own w' B v xs :=
  World.ownsRow.kept h hg (by
    rcases e : v.ownBlock with _ | k
    · exact .inl rfl
    · refine .inr fun e2 => ?_
      have := h.lt k e
      simp at e2
      omega)
theorem Own.new {w : World} (x : Int) : Own (w.alloc (.cells #[.int .i64 x] 3)) w.heap.size (.slice (some ⟨w.heap.size, 0, none⟩) 1 1) [x] :=
  ⟨by simp, .inr ⟨w.heap.size, 1, #[.int .i64 x], rfl, Nat.le_refl _, heap_alloc_new w _, Nat.le_refl _, by unfold maxLen; omega, rfl, by simp⟩⟩
theorem Own.alloc {w : World} {B : Nat} {v : Value} {xs : List Int} (h : Own w B v xs) (o : Obj) : Own (w.alloc o) B v xs := World.ownsRow.alloc h o
theorem Own.snoc {w : World} {B : Nat} {v : Value} {xs : List Int} {x : Int} (h : w.ownsRow B 3 1 v (xs.length + 1) (xs.map (Value.int .i64) ++ [.int .i64 x])) : Own w B v (xs ++ [x]) := by
  unfold Own; simpa using h
theorem nth_snoc {xs : List Int} {x : Int} {P : Int → Prop} (h : ∀ i, i < xs.length → P (nth xs i)) (hx : P x) : ∀ i, i < (xs ++ [x]).length → P (nth (xs ++ [x]) i) := by
  intro i hi
  have hi2 : i < xs.length + 1 := by simpa using hi
  by_cases e : i = xs.length
  · subst e; simpa [nth, List.getD] using hx
  · have := h i (by omega)
    have e2 : nth (xs ++ [x]) i = nth xs i := by simp [nth, List.getD, List.getElem?_append, show i < xs.length by omega]
    rw [e2]; exact this

theorem nth_set {xs : List Int} {x : Int} {i : Nat} {P : Int → Prop} (h : ∀ i, i < xs.length → P (nth xs i)) (hx : P x) : ∀ j, j < (xs.set i x).length → P (nth (xs.set i x) j) := by
  intro j hj
  have hj2 : j < xs.length := by simpa using hj
  by_cases e : j = i
  · subst e; simpa [nth, List.getD, hj2] using hx
  · have := h j hj2
    have e2 : nth (xs.set i x) j = nth xs j := by
      simp only [nth, List.getD, List.getElem?_set]; rw [if_neg (fun h => e h.symm)]
    rw [e2]; exact this
theorem Own.opened {w : World} {B : Nat} {v : Value} {xs : List Int} (h : Own w B v xs) (hx : 1 ≤ xs.length) :
    ∃ b cap, v = .slice (some ⟨b, 0, none⟩) xs.length cap ∧ B ≤ b ∧ Ints w b 0 xs ∧ (∀ i, w.frozen? ⟨b, i, none⟩ = false) ∧ xs.length ≤ cap ∧ cap ≤ maxLen := by
  have h0 := h
  obtain ⟨_, h⟩ := h
  rcases h with ⟨rfl, h0⟩ | ⟨g, cap, cur, rfl, hb, hh, hl, hm, hs, ht⟩
  · omega
  · obtain ⟨a, cap', e, hs⟩ := h0.sl
    rcases hs with hs | ⟨b, off, e2, hI⟩
    · subst hs; simp at hx
    · simp at e
      obtain ⟨e, _⟩ := e
      rw [← e] at e2
      simp at e2
      obtain ⟨rfl, rfl⟩ := e2
      exact ⟨g, cap, rfl, hb, hI, fun i => by simp [World.frozen?, hh], hl, hm⟩
theorem Own.stored {w : World} {B b cap : Nat} {xs : List Int} (h : Own w B (.slice (some ⟨b, 0, none⟩) xs.length cap) xs) (i : Nat) (x : Int) :
    Own (w.setCell ⟨b, i, none⟩ (.int .i64 x)) B (.slice (some ⟨b, 0, none⟩) xs.length cap) (xs.set i x) ∧ w.grownBy (w.setCell ⟨b, i, none⟩ (.int .i64 x)) (some b) := by
  have := World.ownsRow.stored h i (.int .i64 x)
  refine ⟨?_, this.2⟩
  unfold Own
  rw [List.length_set, List.map_set]
  exact this.1
end Go.Proofs.Yteeokegkbhpbcaa

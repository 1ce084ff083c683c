/- Rows of truths, read and owned; calls in memory. -/
import Derived.Test.YteeokegkbhpbcaaK
import Derived.Test.Yteeokegkbhpbcaa8P
namespace Go.Proofs.Yteeokegkbhpbcaa
open Go.RowKit
set_option linter.unusedVariables false
set_option linter.unusedSimpArgs false
set_option maxRecDepth 100000

/-- A slice of n truths that reads as a list. -/
def BS (w : World) (a : Option Addr) (n : Nat) (xs : List Bool) : Prop := xs.length = n ∧ (n = 0 ∨ ∃ b off, a = some ⟨b, off, none⟩ ∧ ∀ i, i < n → w.cell? ⟨b, off + i, none⟩ = some (.bool (bn xs i)))
/-- Of the old blocks only those in lo..hi-1 have changed. -/
structure Out (lo hi : Nat) (w w' : World) : Prop where
  os : w'.os = w.os
  tape : w'.tape = w.tape
  output : w'.output = w.output
  size : w.heap.size ≤ w'.heap.size
  block : ∀ k, k < w.heap.size → (k < lo ∨ hi ≤ k) → w'.heap[k]? = w.heap[k]?
theorem Out.of {w w' : World} (h : Below w.heap.size w w') (lo : Nat) : Out lo lo w w' := ⟨h.os, h.tape, h.output, h.size, fun k hk _ => h.block k hk⟩
theorem Out.refl (lo hi : Nat) (w : World) : Out lo hi w w := ⟨rfl, rfl, rfl, Nat.le_refl _, fun _ _ _ => rfl⟩
theorem Out.trans {lo hi : Nat} {w w1 w2 : World} (h : Out lo hi w w1) (k : Out lo hi w1 w2) : Out lo hi w w2 :=
  ⟨k.os.trans h.os, k.tape.trans h.tape, k.output.trans h.output, Nat.le_trans h.size k.size, fun i hi g => (k.block i (Nat.lt_of_lt_of_le hi h.size) g).trans (h.block i hi g)⟩
theorem Out.wide {lo hi lo' hi' : Nat} {w w' : World} (h : Out lo hi w w') (h1 : lo' ≤ lo) (h2 : hi ≤ hi') : Out lo' hi' w w' := ⟨h.os, h.tape, h.output, h.size, fun k hk g => h.block k hk (by omega)⟩
theorem Out.mk' {lo hi : Nat} {w w' : World} (h : Below w.heap.size w w') : Out lo hi w w' := ⟨h.os, h.tape, h.output, h.size, fun k hk _ => h.block k hk⟩
theorem Out.set {w : World} {q i lo hi : Nat} (u : Value) (h1 : lo ≤ q) (h2 : q < hi) : Out lo hi w (w.setCell ⟨q, i, none⟩ u) := by
  have h := (Below.refl 0 w).setCell (p := ⟨q, i, none⟩) (Nat.zero_le _) u
  exact ⟨h.os, h.tape, h.output, by rw [World.size_setCell]; exact Nat.le_refl _, fun k hk g => Below.heap_setCell _ _ _ _ (by simp; omega)⟩
theorem Out.grown {lo hi : Nat} {w w' : World} {row : Option Nat} (h : w.grownBy w' row) (hr : ∀ i, row = some i → lo ≤ i ∧ i < hi) : Out lo hi w w' :=
  ⟨h.os, h.tape, h.output, h.size, fun k hk g => h.block k hk (fun e => by have := hr k e.symm; omega)⟩
/-- What lay below a base stays below it. -/
theorem Out.below {w0 w w' : World} {lo hi : Nat} (h : Below w0.heap.size w0 w) (k : Out lo hi w w') (hlo : w0.heap.size ≤ lo) : Below w0.heap.size w0 w' :=
  ⟨k.os.trans h.os, k.tape.trans h.tape, k.output.trans h.output, Nat.le_trans h.size k.size, fun i hi => (k.block i (Nat.lt_of_lt_of_le hi h.size) (by omega)).trans (h.block i hi)⟩
theorem BS.below {w w' : World} {a : Option Addr} {n : Nat} {xs : List Bool} (h : BS w a n xs) (hb : Below w.heap.size w w') : BS w' a n xs := by
  obtain ⟨hl, h | ⟨b, off, e, h⟩⟩ := h
  · exact ⟨hl, .inl h⟩
  · exact ⟨hl, .inr ⟨b, off, e, fun i hi => cell_below (h i hi) hb⟩⟩
theorem BS.al {w : World} {a : Option Addr} {n : Nat} {xs : List Bool} (h : BS w a n xs) (o : Obj) : BS (w.alloc o) a n xs := h.below ((Below.refl _ _).alloc (Nat.le_refl _) o)
theorem BS.len {w : World} {a : Option Addr} {n : Nat} {xs : List Bool} (h : BS w a n xs) : xs.length = n := h.1
/-- A row of truths of the call's own. -/
def OwnB (w : World) (B : Nat) (v : Value) (xs : List Bool) : Prop := w.ownsRow B 4 1 v xs.length (xs.map Value.bool)
theorem OwnB.nil (w : World) (B : Nat) : OwnB w B (.slice none 0 0) [] := ⟨by simp, .inl ⟨rfl, rfl⟩⟩
theorem OwnB.lt {w : World} {B : Nat} {v : Value} {xs : List Bool} (h : OwnB w B v xs) : ∀ k, v.ownBlock = some k → B ≤ k ∧ k < w.heap.size := fun k hk => World.ownsRow.lt h k hk
theorem OwnB.open {w : World} {B : Nat} {v : Value} {xs : List Bool} (h : OwnB w B v xs) : ∃ a cap, v = .slice a xs.length cap ∧ BS w a xs.length xs ∧
    ∀ b off sp, a = some ⟨b, off, sp⟩ → off = 0 ∧ sp = none ∧ (∀ i, w.frozen? ⟨b, i, none⟩ = false) ∧ xs.length ≤ cap ∧ cap ≤ maxLen := by
  obtain ⟨_, h⟩ := h
  rcases h with ⟨rfl, h0⟩ | ⟨g, cap, cur, rfl, hb, hh, hl, hm, hs, ht⟩
  · exact ⟨none, 0, by rw [h0], ⟨rfl, .inl h0⟩, fun b off sp e => by cases e⟩
  · refine ⟨_, cap, rfl, ⟨rfl, .inr ⟨g, 0, rfl, fun i hi => ?_⟩⟩, fun b off sp e => ?_⟩
    · have e : (cur.toList.take (xs.length * 1))[i]? = some (.bool (bn xs i)) := by rw [ht]; simp [hi, bn_eq]
      rw [List.getElem?_take, if_pos (by omega)] at e
      simp [World.cell?, hh]
      simpa using e
    · cases e
      exact ⟨rfl, rfl, fun i => by simp [World.frozen?, hh], hl, hm⟩
theorem OwnB.block {w w' : World} {B : Nat} {v : Value} {xs : List Bool} (h : OwnB w B v xs) (hb : ∀ k, v.ownBlock = some k → w'.heap[k]? = w.heap[k]?) : OwnB w' B v xs := by
  obtain ⟨h1, h⟩ := h
  refine ⟨h1, ?_⟩
  rcases h with h | ⟨g, cap, cur, rfl, r1, r2, r3⟩
  · exact .inl h
  · exact .inr ⟨g, cap, cur, rfl, r1, by rw [hb g rfl]; exact r2, r3⟩
theorem OwnB.below {w w' : World} {B : Nat} {v : Value} {xs : List Bool} (h : OwnB w B v xs) (hb : Below w.heap.size w w') : OwnB w' B v xs := h.block fun k hk => hb.block k (h.lt k hk).2
theorem OwnB.mono {w : World} {A B : Nat} {v : Value} {xs : List Bool} (h : OwnB w B v xs) (hA : A ≤ B) : OwnB w A v xs := by
  obtain ⟨h1, h⟩ := h
  refine ⟨h1, ?_⟩
  rcases h with h | ⟨g, cap, cur, e, hb, r⟩
  · exact .inl h
  · exact .inr ⟨g, cap, cur, e, Nat.le_trans hA hb, r⟩
theorem OwnB.stored {w : World} {B b cap : Nat} {xs : List Bool} (h : OwnB w B (.slice (some ⟨b, 0, none⟩) xs.length cap) xs) (i : Nat) (x : Bool) :
    OwnB (w.setCell ⟨b, i, none⟩ (.bool x)) B (.slice (some ⟨b, 0, none⟩) xs.length cap) (xs.set i x) ∧ w.grownBy (w.setCell ⟨b, i, none⟩ (.bool x)) (some b) := by
  have := World.ownsRow.stored h i (.bool x)
  refine ⟨?_, this.2⟩
  unfold OwnB
  rw [List.length_set, List.map_set]
  exact this.1
/-- Three values that read as calls. -/
def Cal (w : World) (a1 : Option Addr) (n1 : Nat) (a2 : Option Addr) (n2 : Nat) (a3 : Option Addr) (n3 : Nat) (x : Cs) : Prop := BS w a1 n1 x.u ∧ BS w a2 n2 x.d ∧ BS w a3 n3 x.c
theorem Cal.below {w w' : World} {a1 : Option Addr} {n1 : Nat} {a2 : Option Addr} {n2 : Nat} {a3 : Option Addr} {n3 : Nat} {x : Cs} (h : Cal w a1 n1 a2 n2 a3 n3 x) (hb : Below w.heap.size w w') : Cal w' a1 n1 a2 n2 a3 n3 x :=
  ⟨h.1.below hb, h.2.1.below hb, h.2.2.below hb⟩
theorem Cal.al {w : World} {a1 : Option Addr} {n1 : Nat} {a2 : Option Addr} {n2 : Nat} {a3 : Option Addr} {n3 : Nat} {x : Cs} (h : Cal w a1 n1 a2 n2 a3 n3 x) (o : Obj) : Cal (w.alloc o) a1 n1 a2 n2 a3 n3 x := h.below ((Below.refl _ _).alloc (Nat.le_refl _) o)
/-- Calls whose rows are the call's own, each by itself, in blocks lo..hi-1. -/
def OwnC (w : World) (lo hi : Nat) (v1 v2 v3 : Value) (x : Cs) : Prop :=
  (OwnB w lo v1 x.u ∧ OwnB w lo v2 x.d ∧ OwnB w lo v3 x.c) ∧ (Apart v1 v2 ∧ Apart v1 v3 ∧ Apart v2 v3) ∧ hi ≤ w.heap.size ∧ lo ≤ hi ∧ ∀ k, (v1.ownBlock = some k ∨ v2.ownBlock = some k ∨ v3.ownBlock = some k) → k < hi
theorem OwnC.block {w w' : World} {lo hi : Nat} {v1 v2 v3 : Value} {x : Cs} (h : OwnC w lo hi v1 v2 v3 x) (hs : w.heap.size ≤ w'.heap.size) (hb : ∀ k, lo ≤ k → k < hi → w'.heap[k]? = w.heap[k]?) : OwnC w' lo hi v1 v2 v3 x := by
  obtain ⟨⟨h1, h2, h3⟩, ha, h4, h5, h6⟩ := h
  exact ⟨⟨h1.block fun k hk => hb k (h1.lt k hk).1 (h6 k (.inl hk)), h2.block fun k hk => hb k (h2.lt k hk).1 (h6 k (.inr (.inl hk))), h3.block fun k hk => hb k (h3.lt k hk).1 (h6 k (.inr (.inr hk)))⟩, ha, Nat.le_trans h4 hs, h5, h6⟩
theorem OwnC.below {w w' : World} {lo hi : Nat} {v1 v2 v3 : Value} {x : Cs} (h : OwnC w lo hi v1 v2 v3 x) (hb : Below w.heap.size w w') : OwnC w' lo hi v1 v2 v3 x := h.block hb.size fun k _ hk => hb.block k (by have := h.2.2.1; omega)
theorem OwnC.out {w w' : World} {lo hi lo' hi' : Nat} {v1 v2 v3 : Value} {x : Cs} (h : OwnC w lo hi v1 v2 v3 x) (ho : Out lo' hi' w w') (hd : hi ≤ lo' ∨ hi' ≤ lo) : OwnC w' lo hi v1 v2 v3 x :=
  h.block ho.size fun k h1 h2 => ho.block k (by have := h.2.2.1; omega) (by omega)
theorem OwnC.open {w : World} {lo hi : Nat} {v1 v2 v3 : Value} {x : Cs} (h : OwnC w lo hi v1 v2 v3 x) : ∃ a1 k1 a2 k2 a3 k3, v1 = .slice a1 x.u.length k1 ∧ v2 = .slice a2 x.d.length k2 ∧ v3 = .slice a3 x.c.length k3 ∧ Cal w a1 x.u.length a2 x.d.length a3 x.c.length x := by
  obtain ⟨⟨h1, h2, h3⟩, _⟩ := h
  obtain ⟨a1, k1, e1, r1, _⟩ := h1.open
  obtain ⟨a2, k2, e2, r2, _⟩ := h2.open
  obtain ⟨a3, k3, e3, r3, _⟩ := h3.open
  exact ⟨a1, k1, a2, k2, a3, k3, e1, e2, e3, r1, r2, r3⟩
theorem OwnC.base {w : World} {lo hi lo' hi' : Nat} {v1 v2 v3 : Value} {x : Cs} (h : OwnC w lo hi v1 v2 v3 x) (h1 : lo' ≤ lo) (h2 : hi ≤ hi') (h3 : hi' ≤ w.heap.size) : OwnC w lo' hi' v1 v2 v3 x := by
  obtain ⟨⟨r1, r2, r3⟩, ha, h4, h5, h6⟩ := h
  exact ⟨⟨r1.mono h1, r2.mono h1, r3.mono h1⟩, ha, h3, by omega, fun k hk => by have := h6 k hk; omega⟩
theorem OwnC.zero (w : World) : OwnC w w.heap.size w.heap.size (.slice none 0 0) (.slice none 0 0) (.slice none 0 0) cz :=
  ⟨⟨OwnB.nil _ _, OwnB.nil _ _, OwnB.nil _ _⟩, ⟨fun i j h => (by cases h), fun i j h => (by cases h), fun i j h => (by cases h)⟩, Nat.le_refl _, Nat.le_refl _, fun k h => by rcases h with h | h | h <;> cases h⟩
/-- A call that gives new calls. -/
def NewC (w : World) (x : Cs) (f : Value → Value) (e : Ending) (w' : World) : Prop := ∃ v1 v2 v3, e = .returned (f (.agg #[v1, v2, v3])) ∧ OwnC w' w.heap.size w'.heap.size v1 v2 v3 x ∧ Below w.heap.size w w'
/-- Block b holds three slices, which can be written. -/
def Bx (w : World) (b : Nat) (v1 v2 v3 : Value) : Prop := (w.cell? ⟨b, 0, none⟩ = some v1 ∧ w.cell? ⟨b, 1, none⟩ = some v2 ∧ w.cell? ⟨b, 2, none⟩ = some v3) ∧ ∀ i, w.frozen? ⟨b, i, none⟩ = false
theorem Bx.lt {w : World} {b : Nat} {v1 v2 v3 : Value} (h : Bx w b v1 v2 v3) : b < w.heap.size := World.block_lt_of_cell? w _ h.1.1
theorem Bx.block {w w' : World} {b : Nat} {v1 v2 v3 : Value} (h : Bx w b v1 v2 v3) (e : w'.heap[b]? = w.heap[b]?) : Bx w' b v1 v2 v3 :=
  ⟨⟨by rw [World.cell?_of_block e]; exact h.1.1, by rw [World.cell?_of_block e]; exact h.1.2.1, by rw [World.cell?_of_block e]; exact h.1.2.2⟩, fun i => by rw [World.frozen?_of_block e]; exact h.2 i⟩
theorem Bx.below {w w' : World} {b : Nat} {v1 v2 v3 : Value} (h : Bx w b v1 v2 v3) (hb : Below w.heap.size w w') : Bx w' b v1 v2 v3 := h.block (hb.block b h.lt)
theorem Bx.out {w w' : World} {b lo hi : Nat} {v1 v2 v3 : Value} (h : Bx w b v1 v2 v3) (ho : Out lo hi w w') (hd : b < lo ∨ hi ≤ b) : Bx w' b v1 v2 v3 := h.block (ho.block b h.lt hd)
theorem Bx.new (w : World) (v1 v2 v3 : Value) (T : TypeId) : Bx (w.alloc (.cells #[v1, v2, v3] T)) w.heap.size v1 v2 v3 :=
  ⟨⟨by rw [World.cell?_alloc_at _ _ _ _ rfl]; rfl, by rw [World.cell?_alloc_at _ _ _ _ rfl]; rfl, by rw [World.cell?_alloc_at _ _ _ _ rfl]; rfl⟩, fun i => by rw [World.frozen?_alloc_at _ _ _ _ rfl]⟩
theorem Bx.al {w : World} {b : Nat} {v1 v2 v3 : Value} (h : Bx w b v1 v2 v3) (o : Obj) : Bx (w.alloc o) b v1 v2 v3 := h.below ((Below.refl _ _).alloc (Nat.le_refl _) o)
theorem info_b {P : Program} {t : TypeId} {u : Value} (h : (P.info? t).map (fun i => (i.zero, i.size, i.bytes)) = some (some u, 1, 1)) : ∃ i, P.info? t = some i ∧ i.zero = some u ∧ i.size = 1 ∧ i.bytes = 1 := by
  cases hq : P.info? t with
  | none => simp [hq] at h
  | some i => simp [hq] at h; exact ⟨i, rfl, h.1, h.2.1, h.2.2⟩
theorem infoBool : (Try.prog.info? 4).map (fun i => (i.zero, i.size, i.bytes)) = some (some (.bool false), 1, 1) := by kernel_rfl
end Go.Proofs.Yteeokegkbhpbcaa

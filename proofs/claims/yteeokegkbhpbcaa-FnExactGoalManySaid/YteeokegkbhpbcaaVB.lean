/- (Over XK, in place of XV.) Structs of any number of one-cell fields in memory. -/
import Derived.Test.YteeokegkbhpbcaaK
import Derived.Test.Yteeokegkbhpbcaa8R
namespace Go.Proofs.Yteeokegkbhpbcaa
open Go.RowKit
set_option linter.unusedVariables false
set_option linter.unusedSimpArgs false

/-- Block b holds these values, and each can be written. -/
def BoxV (w : World) (b : Nat) (vs : List Value) : Prop := vs ≠ [] ∧ ∀ i v, vs[i]? = some v → w.cell? ⟨b, i, none⟩ = some v ∧ w.frozen? ⟨b, i, none⟩ = false
theorem BoxV.lt {w : World} {b : Nat} {vs : List Value} (h : BoxV w b vs) : b < w.heap.size := by
  obtain ⟨h0, h⟩ := h
  cases vs with
  | nil => exact absurd rfl h0
  | cons v vs => exact World.block_lt_of_cell? w _ (h 0 v rfl).1
theorem BoxV.below {w w' : World} {b : Nat} {vs : List Value} (h : BoxV w b vs) (hb : Below w.heap.size w w') : BoxV w' b vs :=
  ⟨h.1, fun i v e => ⟨cell_below (h.2 i v e).1 hb, (hb.frozen (p := ⟨b, i, none⟩) h.lt).trans (h.2 i v e).2⟩⟩
theorem BoxV.new (w : World) (vs : List Value) (T : TypeId) (h : vs ≠ []) {b : Nat} (hb : w.heap.size = b) : BoxV (w.alloc (.cells vs.toArray T)) b vs := by
  subst hb
  exact ⟨h, fun i v e => ⟨by rw [World.cell?_alloc_at _ _ _ _ rfl]; simpa using e, by rw [World.frozen?_alloc_at _ _ _ _ rfl]⟩⟩
theorem BoxV.al {w : World} {b : Nat} {vs : List Value} (h : BoxV w b vs) (o : Obj) : BoxV (w.alloc o) b vs := h.below ((Below.refl _ _).alloc (Nat.le_refl _) o)
theorem BoxV.dr {w : World} {b : Nat} {vs : List Value} (h : BoxV w b vs) (n : Nat) : BoxV (w.drewN n) b vs := h
theorem BoxV.dw {w : World} {b : Nat} {vs : List Value} (h : BoxV w b vs) : BoxV w.drew b vs := h
theorem BoxV.fr {w w' : World} {b g : Nat} {vs : List Value} (h : BoxV w b vs) (hf : Fr w g w') (hne : b ≠ g) : BoxV w' b vs :=
  ⟨h.1, fun i v e => ⟨World.grownBy.cell hf (h.2 i v e).1 (by simp; exact hne), (World.frozen?_of_block (hf.block b h.lt (by simp; exact hne))).trans (h.2 i v e).2⟩⟩
theorem BoxV.far {w : World} {b c j : Nat} {vs : List Value} {u : Value} (h : BoxV w b vs) (hne : b ≠ c) : BoxV (w.setCell ⟨c, j, none⟩ u) b vs :=
  ⟨h.1, fun i v e => ⟨by rw [World.cell?_setCell_other _ _ _ _ (fun e => hne (congrArg Addr.block e).symm)]; exact (h.2 i v e).1, by rw [World.frozen?_setCell]; exact (h.2 i v e).2⟩⟩
theorem BoxV.set {w : World} {b : Nat} {vs : List Value} (h : BoxV w b vs) (j : Nat) (u : Value) (hj : j < vs.length) : BoxV (w.setCell ⟨b, j, none⟩ u) b (vs.set j u) := by
  refine ⟨fun e => h.1 (List.length_eq_zero_iff.1 (by have := congrArg List.length e; simpa using this)), fun i v e => ⟨?_, by rw [World.frozen?_setCell]; by_cases c : i < vs.length; exact (h.2 i _ (List.getElem?_eq_getElem c)).2; rw [List.getElem?_eq_none (by simpa using c)] at e; cases e⟩⟩
  by_cases c : i = j
  · subst c
    rw [List.getElem?_set_self hj] at e
    cases e
    exact World.cell?_setCell_same _ _ _ (h.2 i _ (List.getElem?_eq_getElem hj)).1
  · rw [World.cell?_setCell_other _ _ _ _ (fun e => c (by have := congrArg Addr.off e; simpa using this.symm))]
    rw [List.getElem?_set_ne (fun e => c e.symm)] at e
    exact (h.2 i v e).1
theorem BoxV.c1 {w : World} {b : Nat} {v0 : Value} (h : BoxV w b [v0]) : w.cell? ⟨b, 0, none⟩ = some v0 ∧ w.frozen? ⟨b, 0, none⟩ = false := h.2 0 _ rfl
theorem BoxV.c2 {w : World} {b : Nat} {v0 v1 : Value} (h : BoxV w b [v0, v1]) : (w.cell? ⟨b, 0, none⟩ = some v0 ∧ w.cell? ⟨b, 1, none⟩ = some v1) ∧ w.frozen? ⟨b, 0, none⟩ = false ∧ w.frozen? ⟨b, 1, none⟩ = false :=
  ⟨⟨(h.2 0 _ rfl).1, (h.2 1 _ rfl).1⟩, (h.2 0 _ rfl).2, (h.2 1 _ rfl).2⟩
theorem BoxV.c3 {w : World} {b : Nat} {v0 v1 v2 : Value} (h : BoxV w b [v0, v1, v2]) : (w.cell? ⟨b, 0, none⟩ = some v0 ∧ w.cell? ⟨b, 1, none⟩ = some v1 ∧ w.cell? ⟨b, 2, none⟩ = some v2) ∧ w.frozen? ⟨b, 0, none⟩ = false ∧ w.frozen? ⟨b, 1, none⟩ = false ∧ w.frozen? ⟨b, 2, none⟩ = false :=
  ⟨⟨(h.2 0 _ rfl).1, (h.2 1 _ rfl).1, (h.2 2 _ rfl).1⟩, (h.2 0 _ rfl).2, (h.2 1 _ rfl).2, (h.2 2 _ rfl).2⟩
theorem BoxV.c4 {w : World} {b : Nat} {v0 v1 v2 v3 : Value} (h : BoxV w b [v0, v1, v2, v3]) : (w.cell? ⟨b, 0, none⟩ = some v0 ∧ w.cell? ⟨b, 1, none⟩ = some v1 ∧ w.cell? ⟨b, 2, none⟩ = some v2 ∧ w.cell? ⟨b, 3, none⟩ = some v3) ∧ w.frozen? ⟨b, 0, none⟩ = false ∧ w.frozen? ⟨b, 1, none⟩ = false ∧ w.frozen? ⟨b, 2, none⟩ = false ∧ w.frozen? ⟨b, 3, none⟩ = false :=
  ⟨⟨(h.2 0 _ rfl).1, (h.2 1 _ rfl).1, (h.2 2 _ rfl).1, (h.2 3 _ rfl).1⟩, (h.2 0 _ rfl).2, (h.2 1 _ rfl).2, (h.2 2 _ rfl).2, (h.2 3 _ rfl).2⟩
/-- A box of four numbers. -/
abbrev L4 (a s g o : Int) : List Value := [.int .i64 a, .int .i64 s, .int .i64 g, .int .i64 o]
theorem BoxV.run {w : World} {b : Nat} {a s g o : Int} (a' s' : Int) (h : BoxV w b (L4 a s g o)) : BoxV ((w.setCell ⟨b, 0, none⟩ (.int .i64 a')).setCell ⟨b, 1, none⟩ (.int .i64 s')) b (L4 a' s' g o) :=
  (h.set 0 _ (by simp)).set 1 _ (by simp)
theorem BoxV.gate {w : World} {b : Nat} {a s g o : Int} (g' o' : Int) (h : BoxV w b (L4 a s g o)) : BoxV ((w.setCell ⟨b, 2, none⟩ (.int .i64 g')).setCell ⟨b, 3, none⟩ (.int .i64 o')) b (L4 a s g' o') :=
  (h.set 2 _ (by simp)).set 3 _ (by simp)
theorem BoxV.all4 {w : World} {b : Nat} {a s g o : Int} (a' s' g' o' : Int) (h : BoxV w b (L4 a s g o)) : BoxV ((((w.setCell ⟨b, 0, none⟩ (.int .i64 a')).setCell ⟨b, 1, none⟩ (.int .i64 s')).setCell ⟨b, 2, none⟩ (.int .i64 g')).setCell ⟨b, 3, none⟩ (.int .i64 o')) b (L4 a' s' g' o') :=
  (h.run a' s').gate g' o'
theorem BoxV.bel {W w' : World} {b : Nat} {vs : List Value} (hb : Below W.heap.size W w') (h : BoxV W b vs) : BoxV w' b vs := h.below hb
theorem BoxV.block {w w' : World} {b : Nat} {vs : List Value} (h : BoxV w b vs) (e : w'.heap[b]? = w.heap[b]?) : BoxV w' b vs :=
  ⟨h.1, fun i v hi => ⟨by rw [World.cell?_of_block e]; exact (h.2 i v hi).1, by rw [World.frozen?_of_block e]; exact (h.2 i v hi).2⟩⟩
theorem BoxV.out {w w' : World} {b lo hi : Nat} {vs : List Value} (h : BoxV w b vs) (ho : Out lo hi w w') (hd : b < lo ∨ hi ≤ b) : BoxV w' b vs := h.block (ho.block b h.lt hd)
theorem BoxV.gr {w w' : World} {row : Option Nat} {b : Nat} {vs : List Value} (h : BoxV w b vs) (k : w.grownBy w' row) (hr : ∀ i, row = some i → b < i) : BoxV w' b vs :=
  h.block (k.block b h.lt (fun e => by have := hr _ e.symm; omega))
end Go.Proofs.Yteeokegkbhpbcaa

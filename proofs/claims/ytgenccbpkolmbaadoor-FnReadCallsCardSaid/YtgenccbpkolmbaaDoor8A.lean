/- Arrays of rows: the contracts of impl's helpers. -/
import Derived.Test.YtgenccbpkolmbaaDoor8G
import Derived.Laws.IdiomCopy
import Derived.Lib.LazyBuf
namespace Go.Proofs.YtgenccbpkolmbaaDoor
open Go.RowKit
set_option linter.unusedVariables false

/-- The cells of an array of 24 truths. -/
def arr (f : Nat → Bool) : Array Value := ((List.range 24).map fun i => Value.bool (f i)).toArray
theorem arr_size (f : Nat → Bool) : (arr f).size = 24 := by simp [arr]
theorem arr_at (f : Nat → Bool) {i : Nat} (h : i < 24) : (arr f)[i]? = some (.bool (f i)) := by simp [arr, h]
theorem arr_congr {f g : Nat → Bool} (h : ∀ i, i < 24 → f i = g i) : arr f = arr g := by
  unfold arr
  congr 1
  exact List.map_congr_left fun i hi => by rw [h i (List.mem_range.1 hi)]
/-- The rows of calls, one behind the other. -/
def rw3 (x : Cs) (i : Nat) : Bool := if i < 8 then bn x.u i else if i < 16 then bn x.d (i - 8) else bn x.c (i - 16)
/-- Row k of an array. -/
def rowOf (f : Nat → Bool) (k n : Nat) : List Bool := (List.range n).map fun i => f (8 * k + i)
theorem rowOf_len (f : Nat → Bool) (k n : Nat) : (rowOf f k n).length = n := by simp [rowOf]
theorem bn_rowOf (f : Nat → Bool) {k n i : Nat} (h : i < n) : bn (rowOf f k n) i = f (8 * k + i) := by rw [bn_eq (by simpa [rowOf] using h)]; simp [rowOf]
def csOf (f : Nat → Bool) (n : Nat) : Cs := ⟨rowOf f 0 n, rowOf f 1 n, rowOf f 2 n⟩
/-- The end of a function that gives new rows: they lie in its result. -/
theorem newC_store {w0 W w' : World} {r : Nat} {v1 v2 v3 : Value} {x : Cs} (hB : Below W.heap.size W w') (hW : Below w0.heap.size w0 W) (hr : w0.heap.size ≤ r) (hr2 : r < W.heap.size) (h1 : OwnB w' W.heap.size v1 x.u) (h2 : OwnB w' W.heap.size v2 x.d) (h3 : OwnB w' W.heap.size v3 x.c)
    (a12 : Apart v1 v2) (a13 : Apart v1 v3) (a23 : Apart v2 v3) (f : Value → Value) :
    NewC w0 x f (.returned (f (.agg #[v1, v2, v3]))) (((w'.setCell ⟨r, 0, none⟩ v1).setCell ⟨r, 1, none⟩ v2).setCell ⟨r, 2, none⟩ v3) := by
  have hsz : (((w'.setCell ⟨r, 0, none⟩ v1).setCell ⟨r, 1, none⟩ v2).setCell ⟨r, 2, none⟩ v3).heap.size = w'.heap.size := by simp [World.size_setCell]
  have keep : ∀ k, r ≠ k → (((w'.setCell ⟨r, 0, none⟩ v1).setCell ⟨r, 1, none⟩ v2).setCell ⟨r, 2, none⟩ v3).heap[k]? = w'.heap[k]? := fun k hk => by
    rw [Below.heap_setCell _ _ _ _ (by simpa using fun e => hk e.symm), Below.heap_setCell _ _ _ _ (by simpa using fun e => hk e.symm), Below.heap_setCell _ _ _ _ (by simpa using fun e => hk e.symm)]
  have hs := hB.size
  have hs0 := hW.size
  refine ⟨v1, v2, v3, rfl, ⟨⟨(h1.mono (by omega)).block fun k hk => keep k (by have := h1.lt k hk; omega), (h2.mono (by omega)).block fun k hk => keep k (by have := h2.lt k hk; omega), (h3.mono (by omega)).block fun k hk => keep k (by have := h3.lt k hk; omega)⟩, ⟨a12, a13, a23⟩, Nat.le_refl _, by rw [hsz]; omega, fun k hk => ?_⟩, ?_⟩
  · rw [hsz]
    rcases hk with hk | hk | hk
    · exact (h1.lt k hk).2
    · exact (h2.lt k hk).2
    · exact (h3.lt k hk).2
  · have h0 := below_next hW hB
    refine Below.st (Below.st (Below.st h0 ?_ _) ?_ _) ?_ _ <;> simpa using hr
end Go.Proofs.YtgenccbpkolmbaaDoor

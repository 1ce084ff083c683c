/- The helpers of the exact laws: copies and comparisons. -/
import Derived.Test.YtfhhgddajmihjaaProg
import Derived.Test.YtfhhgddajmihjaaPre
import Derived.Deep.OwnRows
namespace Go.Proofs.Ytfhhgddajmihjaa
open Go.RowKit
set_option linter.unusedVariables false
set_option linter.unusedSimpArgs false

/-- WHAT THE WALK IS TOLD OF A SLICE OF INTEGERS THAT CAME IN. -/
def IsRow (k : IntKind) (w : World) (a : Option Addr) (len cap : Nat) (zs : List Int) : Prop :=
  (a = none ∧ len = 0 ∧ cap = 0 ∧ zs = []) ∨
  ∃ x, a = some x ∧ len ≤ cap ∧ cap ≤ maxLen ∧ zs.length = cap ∧ (∀ i, i < zs.length → w.cell? (x.add i) = some (.int k (zs.getD i 0))) ∧ ∀ n ∈ zs, (Lit.int k n).wf = true

/-- A slice that reads as a list: an empty one, or a row of cells. -/
def Sl (w : World) (a : Option Addr) (xs : List Int) : Prop := xs = [] ∨ ∃ b off, a = some ⟨b, off, none⟩ ∧ Ints w b off xs
theorem Sl.below {w w' : World} {a : Option Addr} {xs : List Int} (h : Sl w a xs) (hb : Below w.heap.size w w') : Sl w' a xs := by
  rcases h with h | ⟨b, off, ha, h⟩
  · exact .inl h
  · exact .inr ⟨b, off, ha, h.below hb⟩

theorem getD_take (zs : List Int) (len i : Nat) (h : i < len) : (zs.take len).getD i 0 = zs.getD i 0 := by
  simp only [List.getD, List.getElem?_take]; rw [if_pos h]

/-- The numbers of a list are ints of 64 bits. -/
def Fit (xs : List Int) : Prop := ∀ i, i < xs.length → -9223372036854775808 ≤ nth xs i ∧ nth xs i ≤ 9223372036854775807

theorem IsRow.sl {w : World} {a : Option Addr} {len cap : Nat} {zs : List Int} (h : IsRow .i64 w a len cap zs) : ∃ xs, xs.length = len ∧ len ≤ maxLen ∧ Sl w a xs ∧ Fit xs := by
  rcases h with ⟨rfl, rfl, rfl, rfl⟩ | ⟨x, rfl, hl, hm, hz, hcell, hw⟩
  · exact ⟨[], rfl, by unfold maxLen; omega, .inl rfl, fun i hi => by simp at hi⟩
  · refine ⟨zs.take len, by simp; omega, by omega, ?_, fun i hi => ?_⟩
    · by_cases h0 : len = 0
      · subst h0; exact .inl (by simp)
      · obtain ⟨b, off, spot⟩ := x
        have hc := hcell 0 (by omega)
        have hspot : spot = none := by simpa [Addr.add] using World.cell?_spot hc
        subst hspot
        refine .inr ⟨b, off, rfl, fun i hi => ?_⟩
        have hi2 : i < len := by simp at hi; omega
        have := hcell i (by omega)
        unfold nth
        rw [getD_take _ _ _ hi2]
        by_cases e : i = 0
        · subst e; simpa [Addr.add] using this
        · simpa [Addr.add, e] using this
    · have hi2 : i < len := by simp at hi; omega
      unfold nth
      rw [getD_take _ _ _ hi2]
      have hi3 : i < zs.length := by omega
      have := hw zs[i] (List.getElem_mem hi3)
      simp only [List.getD, List.getElem?_eq_getElem hi3, Option.getD_some]
      exact bounds_i64 this

/-- A law's end: true, and nothing that was there has changed. -/
def LawOk (w : World) (e : Ending) (w' : World) : Prop := e = .returned (.bool true) ∧ Below w.heap.size w w'
theorem LawOk.mk {w w' : World} (hb : Below w.heap.size w w') : LawOk w (.returned (.bool true)) w' := ⟨rfl, hb⟩

theorem infoInt : (Try.prog.info? 3).map (fun i => (i.zero, i.size, i.bytes)) = some (some (.int .i64 0), 1, 8) := by kernel_rfl

/-- What a copy is: a new row with the same numbers. -/
def Copied (w : World) (xs : List Int) (e : Ending) (w' : World) : Prop := ∃ g, w.heap.size ≤ g ∧ e = .returned (.slice (some ⟨g, 0, none⟩) xs.length xs.length) ∧ Ints w' g 0 xs ∧ Below w.heap.size w w'

theorem ints_of_row {w : World} {g : Nat} {t : TypeId} {xs : List Int} {n : Nat} {f : Nat → Value} (h : w.rowIs g t n f) (hn : n = xs.length) (hf : ∀ j, j < n → f j = .int .i64 (nth xs j)) : Ints w g 0 xs := fun i hi => by
  have := h.cell (i := i) (by omega)
  rw [hf i (by omega)] at this
  simpa using this

end Go.Proofs.Ytfhhgddajmihjaa

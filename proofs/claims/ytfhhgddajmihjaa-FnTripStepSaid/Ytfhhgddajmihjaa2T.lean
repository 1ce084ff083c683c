/- What the drawing functions of chapter 2 give. -/
import Derived.Test.YtfhhgddajmihjaaS
import Derived.Test.Ytfhhgddajmihjaa2B
namespace Go.Proofs.Ytfhhgddajmihjaa
open Go.RowKit
set_option linter.unusedVariables false
set_option linter.unusedSimpArgs false

theorem Box.fr {w w' : World} {b g : Nat} {a s : Int} (h : Box w b a s) (hf : Fr w g w') (hne : b ≠ g) : Box w' b a s :=
  ⟨⟨World.grownBy.cell hf h.1.1 (by simp; exact hne), World.grownBy.cell hf h.1.2 (by simp; exact hne)⟩,
    (World.frozen?_of_block (hf.block b h.lt (by simp; exact hne))).trans h.2.1, (World.frozen?_of_block (hf.block b h.lt (by simp; exact hne))).trans h.2.2⟩
theorem Box.set0 {w : World} {b : Nat} {a s : Int} (a' : Int) (h : Box w b a s) : Box (w.setCell ⟨b, 0, none⟩ (.int .i64 a')) b a' s := by
  refine ⟨⟨World.cell?_setCell_same _ _ _ h.1.1, ?_⟩, ?_, ?_⟩
  · rw [World.cell?_setCell_other _ _ _ _ (by simp)]; exact h.1.2
  · rw [World.frozen?_setCell]; exact h.2.1
  · rw [World.frozen?_setCell]; exact h.2.2
theorem Box.set1 {w : World} {b : Nat} {a s : Int} (s' : Int) (h : Box w b a s) : Box (w.setCell ⟨b, 1, none⟩ (.int .i64 s')) b a s' := by
  refine ⟨⟨?_, World.cell?_setCell_same _ _ _ h.1.2⟩, ?_, ?_⟩
  · rw [World.cell?_setCell_other _ _ _ _ (by simp)]; exact h.1.1
  · rw [World.frozen?_setCell]; exact h.2.1
  · rw [World.frozen?_setCell]; exact h.2.2
theorem Box.far {w : World} {b c j : Nat} {a s : Int} {v : Value} (h : Box w b a s) (hne : b ≠ c) : Box (w.setCell ⟨c, j, none⟩ v) b a s := by
  refine ⟨⟨?_, ?_⟩, ?_, ?_⟩
  · rw [World.cell?_setCell_other _ _ _ _ (fun e => hne (congrArg Addr.block e).symm)]; exact h.1.1
  · rw [World.cell?_setCell_other _ _ _ _ (fun e => hne (congrArg Addr.block e).symm)]; exact h.1.2
  · rw [World.frozen?_setCell]; exact h.2.1
  · rw [World.frozen?_setCell]; exact h.2.2
/-- A drawn car. -/
def DrawnM (w : World) (g c d : Nat) (e : Ending) (w' : World) : Prop := ∃ (a s : Int) (c' : Nat), e = .returned (Value.agg #[.int .i64 (a), .int .i64 (s)]) ∧ -1 ≤ a ∧ a ≤ 61 ∧ -6 ≤ s ∧ s ≤ 6 ∧ Rd w' g c' ∧ c' ≤ c + d ∧ Fr w g w'

end Go.Proofs.Ytfhhgddajmihjaa

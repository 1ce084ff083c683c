/- What the drawing functions of chapter 3 give. -/
import Derived.Test.Ytpfllhiibkdfaaa2U
import Derived.Test.Ytpfllhiibkdfaaa3P
namespace Go.Proofs.Ytpfllhiibkdfaaa
open Go.RowKit
set_option linter.unusedVariables false

/-- A drawn door. -/
def DrawnD (w : World) (g c d : Nat) (e : Ending) (w' : World) : Prop := ∃ (a s : Int) (c' : Nat), e = .returned (Value.agg #[.int .i64 (a), .int .i64 (s)]) ∧ -1 ≤ a ∧ a ≤ 5 ∧ -1 ≤ s ∧ s ≤ 4 ∧ Rd w' g c' ∧ c' ≤ c + d ∧ Fr w g w'
theorem box_pair (w : World) (a s : Int) (T : TypeId) {B : Nat} (h : w.heap.size = B) : Box (w.alloc (.cells #[.int .i64 a, .int .i64 s] T)) B a s := by rw [← h]; exact Box.new w a s T

end Go.Proofs.Ytpfllhiibkdfaaa

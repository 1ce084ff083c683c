/- The contracts of movedBy, keptInside, l2Fits. -/
import Derived.Test.Ytiplfnghikgcjaa2B
namespace Go.Proofs.Ytiplfnghikgcjaa
open Go.RowKit
set_option linter.unusedVariables false

theorem Mk.g {w w' : World} {a b a' b' : Int} (h : a = a') (k : b = b') (hb : Below w.heap.size w w') : Mk w (Value.agg #[.int .i64 (a), .int .i64 (b)]) (.returned (.agg #[.int .i64 a', .int .i64 b'])) w' := ⟨by rw [h, k], hb⟩
end Go.Proofs.Ytiplfnghikgcjaa

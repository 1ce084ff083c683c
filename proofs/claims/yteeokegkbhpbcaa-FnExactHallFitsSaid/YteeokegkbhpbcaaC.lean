/- The contracts of FloorNear and FloorWay, impl and spec. -/
import Derived.Test.YteeokegkbhpbcaaB
namespace Go.Proofs.Yteeokegkbhpbcaa
open Go.RowKit
set_option linter.unusedVariables false
set_option linter.unusedSimpArgs false

theorem FV.cellA {xs : List Int} (h : FV xs) {k : Nat} (hk : k < xs.length) : -1 ≤ nth xs k ∧ nth xs k ≤ 60 := ⟨by have := h.ge k hk; omega, h.le k hk⟩

end Go.Proofs.Yteeokegkbhpbcaa

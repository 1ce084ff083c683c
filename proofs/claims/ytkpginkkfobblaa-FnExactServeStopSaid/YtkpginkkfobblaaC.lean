/- The contracts of FloorNear and FloorWay, impl and spec. -/
import Derived.Test.YtkpginkkfobblaaB
namespace Go.Proofs.Ytkpginkkfobblaa
open Go.RowKit
set_option linter.unusedVariables false

theorem FV.cellA {xs : List Int} (h : FV xs) {k : Nat} (hk : k < xs.length) : -1 ≤ nth xs k ∧ nth xs k ≤ 60 := ⟨by have := h.ge k hk; omega, h.le k hk⟩

end Go.Proofs.Ytkpginkkfobblaa

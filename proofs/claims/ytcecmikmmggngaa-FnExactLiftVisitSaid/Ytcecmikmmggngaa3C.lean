/- The contracts of DoorRun, impl and spec. -/
import Derived.Test.Ytcecmikmmggngaa3B
import Derived.Deep.RegionWith
import Derived.StillTailTactics
namespace Go.Proofs.Ytcecmikmmggngaa
open Go.RowKit
set_option linter.unusedVariables false

theorem Sl.dr {w : World} {a : Option Addr} {xs : List Int} (h : Sl w a xs) (n : Nat) : Sl (w.drewN n) a xs := h
theorem drn_next {g o : Int} {k : Nat} {xs ys : List Int} {x y : Int} (h : drn g o k xs ys = (x, y)) : drn g o (k + 1) xs ys = ((ds x y (hasB xs k) (hasB ys k)).1, (ds x y (hasB xs k) (hasB ys k)).2) := by
  unfold drn at *; exact dit_step h
end Go.Proofs.Ytcecmikmmggngaa

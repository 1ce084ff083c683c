/- The model's ShortTour and ShortWay. -/
import Derived.Test.Yteeokegkbhpbcaa10A
import Derived.Deep.CutRange
namespace Go.Proofs.Yteeokegkbhpbcaa
open Go.RowKit
set_option linter.unusedVariables false
set_option linter.unusedSimpArgs false
set_option maxRecDepth 100000

theorem tdn_len (a : Int) (f : Bool) (l : List Int) : (tdn a f l).length ≤ l.length := by unfold tdn; rw [List.length_reverse]; exact List.length_filter_le _ _
theorem tup_len (a : Int) (f : Bool) (l : List Int) : (tup a f l).length ≤ l.length := List.length_filter_le _ _
theorem own_mono {w : World} {A B : Nat} {v : Value} {xs : List Int} (h : Own w B v xs) (hA : A ≤ B) : Own w A v xs := Own.mono h hA
theorem Own.app {w : World} {B : Nat} {v : Value} {xs ys : List Int} (h : w.ownsRow B 3 1 v (xs.length + ys.length) (xs.map (Value.int .i64) ++ ys.map (Value.int .i64))) : Own w B v (xs ++ ys) := by
  unfold Own; simpa using h
theorem VO.len8 {xs ys : List Int} (h : VO xs ys) : ys.length ≤ 8 := by
  have key : ∀ k : Nat, k < ys.length → (k : Int) ≤ nth ys k := by
    intro k
    induction k with
    | zero => intro hk; exact (h.2 0 hk).1
    | succ k ih =>
      intro hk
      have := ih (by omega)
      have := (h.2 (k + 1) hk).2.2 (by omega)
      rw [Nat.add_sub_cancel] at this
      omega
  by_cases h0 : ys.length = 0
  · omega
  · have h1 := key (ys.length - 1) (by omega)
    have h2 := (h.2 (ys.length - 1) (by omega)).2.1
    have := h.1.2.1
    omega
end Go.Proofs.Yteeokegkbhpbcaa

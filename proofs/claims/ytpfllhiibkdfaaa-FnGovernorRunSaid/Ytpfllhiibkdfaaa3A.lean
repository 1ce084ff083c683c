/- The contracts of chapter 3's small functions, impl and spec. -/
import Derived.Test.Ytpfllhiibkdfaaa2U
import Derived.Test.Ytpfllhiibkdfaaa3P
namespace Go.Proofs.Ytpfllhiibkdfaaa
open Go.RowKit
set_option linter.unusedVariables false

/-- The state of a door. -/
def sta (g : Int) : Int := if g = 0 then 0 else if g = 4 then 2 else 1
theorem sta_open {g : Int} (k : g = 4) : (sta g == 2) = true := by subst k; rfl
theorem sta_not {g : Int} (k : g ≠ 4) : (sta g == 2) = false := by unfold sta; split; rfl; rfl
theorem sta_shut {g : Int} (k : g = 0) : (sta g != 0) = false := by subst k; rfl
theorem sta_gap {g : Int} (k : g ≠ 0) : (sta g != 0) = true := by unfold sta; rw [if_neg k]; split <;> rfl
/-- A call that changes a box. -/
def Upd (w : World) (b : Nat) (x y : Int) (e : Ending) (w' : World) : Prop := e = .returned (.tuple #[]) ∧ Box w' b x y ∧ Fr w b w'
theorem Box.go {w : World} {b : Nat} {a s : Int} (h : Box w b a s) : Hid (Fr w b w) := Fr.refl w b
theorem Fr.at {w : World} {b : Nat} (j : Nat) (v : Value) : Fr w b (w.setCell ⟨b, j, none⟩ v) :=
  ⟨rfl, rfl, rfl, by rw [World.size_setCell]; exact Nat.le_refl _, fun k hk hne => Below.heap_setCell _ _ _ _ (by simp; intro e; subst e; exact hne rfl)⟩
theorem ds_open {g h : Int} {a b : Bool} (k : a = true ∨ (b = true ∧ 0 < g)) : ds g h a b = ds g h true true := by
  by_cases l : 4 ≤ g + 1
  · rw [ds_wide k l, ds_wide (.inl rfl) l]
  · rw [ds_up k (by omega), ds_up (.inl rfl) (by omega)]
theorem ds_close {g h : Int} {a b : Bool} (k : ¬ (a = true ∨ (b = true ∧ 0 < g))) : ds g h a b = ds g h false false := by
  by_cases l : 0 < h
  · rw [ds_held k l, ds_held (by simp) l]
  · rw [ds_down k l, ds_down (by simp) l]
end Go.Proofs.Ytpfllhiibkdfaaa

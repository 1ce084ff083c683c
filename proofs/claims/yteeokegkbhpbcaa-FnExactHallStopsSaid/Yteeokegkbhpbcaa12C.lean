/- The model's GroupSum. -/
import Derived.Test.Yteeokegkbhpbcaa12B
namespace Go.Proofs.Yteeokegkbhpbcaa
open Go.RowKit
set_option linter.unusedVariables false
set_option linter.unusedSimpArgs false
set_option maxRecDepth 100000

theorem Sl.lt {w : World} {a : Option Addr} {ys : List Int} (h : Sl w a ys) : ∀ b q, a = some ⟨b, q, none⟩ → 0 < ys.length → b < w.heap.size := by
  intro b q e h0
  obtain ⟨b', o', e', hI⟩ := Sl.at h h0
  rw [e'] at e
  simp only [Option.some.injEq, Addr.mk.injEq, and_true] at e
  obtain ⟨rfl, rfl⟩ := e
  exact Ints.lt hI h0
theorem Sl.al {w : World} {a : Option Addr} {ys : List Int} (h : Sl w a ys) (o : Obj) : Sl (w.alloc o) a ys := Sl.below h ((Below.refl _ _).alloc (Nat.le_refl _) o)
theorem Sl.gr {w w' : World} {row : Option Nat} {a : Option Addr} {ys : List Int} (h : Sl w a ys) (k : w.grownBy w' row) {B : Nat} (hB : ∀ b q, a = some ⟨b, q, none⟩ → 0 < ys.length → b < B) (hr : ∀ i, row = some i → B ≤ i) : Sl w' a ys := by
  rcases h with rfl | ⟨b, off, rfl, hI⟩
  · exact .inl rfl
  · exact .inr ⟨b, off, rfl, hI.gr k fun i e h0 => by have := hB b off rfl h0; have := hr i e; omega⟩
end Go.Proofs.Yteeokegkbhpbcaa

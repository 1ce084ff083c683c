/- What the drawing functions of chapter 1 give. -/
import Derived.Test.YteeokegkbhpbcaaS
namespace Go.Proofs.Yteeokegkbhpbcaa
open Go.RowKit
set_option linter.unusedVariables false
set_option linter.unusedSimpArgs false

/-- A drawn list: any numbers of a bounded size. -/
def Drawn (w : World) (g c d : Nat) (n : Nat) (e : Ending) (w' : World) : Prop := ∃ (b off cap : Nat) (xs : List Int) (c' : Nat), e = .returned (.slice (some ⟨b, off, none⟩) xs.length cap) ∧ xs.length ≤ n ∧ xs.length ≤ cap ∧ cap ≤ maxLen ∧ (b ≠ g ∧ w.heap.size ≤ b) ∧ (∀ i, i < xs.length → 0 ≤ nth xs i ∧ nth xs i ≤ 1000) ∧ Ints w' b off xs ∧ Rd w' g c' ∧ c' ≤ c + d ∧ Fr w g w'

theorem Drawn.own {w w' : World} {g c d n c' B : Nat} {v : Value} {xs : List Int} (hB : w.heap.size = B) (hgB : g < B) (ho : Own w' B v xs) (h1 : 1 ≤ xs.length) (hl : xs.length ≤ n) (hb : ∀ i, i < xs.length → 0 ≤ nth xs i ∧ nth xs i ≤ 1000) (hr : Rd w' g c') (hc : c' ≤ c + d) (hf : Fr w g w') : Drawn w g c d n (.returned v) w' := by
  obtain ⟨b, cap, rfl, hb0, hI, _, hcl, hcm⟩ := Own.opened ho h1
  exact ⟨b, 0, cap, xs, c', rfl, hl, hcl, hcm, ⟨by omega, by omega⟩, hb, hI, hr, hc, hf⟩

/-- A number drawn beside a list. -/
def At (w : World) (g c d : Nat) (e : Ending) (w' : World) : Prop := ∃ (x : Int) (c' : Nat), e = .returned (.int .i64 x) ∧ -1000 ≤ x ∧ x ≤ 1000 ∧ Rd w' g c' ∧ c' ≤ c + d ∧ Fr w g w'

/-- A drawn list and the numbers beside it: nothing that was there has changed. -/
def DrawnF (w : World) (e : Ending) (w' : World) : Prop := ∃ (b off cap : Nat) (xs : List Int), e = .returned (.slice (some ⟨b, off, none⟩) xs.length cap) ∧ xs.length ≤ 9 ∧ xs.length ≤ cap ∧ cap ≤ maxLen ∧ (∀ i, i < xs.length → 0 ≤ nth xs i ∧ nth xs i ≤ 1000) ∧ Ints w' b off xs ∧ Below w.heap.size w w'
def DrawnF1 (w : World) (e : Ending) (w' : World) : Prop := ∃ (b off cap : Nat) (xs : List Int) (x : Int), e = .returned (.tuple #[.slice (some ⟨b, off, none⟩) xs.length cap, .int .i64 x]) ∧ xs.length ≤ 9 ∧ xs.length ≤ cap ∧ cap ≤ maxLen ∧ (∀ i, i < xs.length → 0 ≤ nth xs i ∧ nth xs i ≤ 1000) ∧ -1000 ≤ x ∧ x ≤ 1000 ∧ Ints w' b off xs ∧ Below w.heap.size w w'
def DrawnF2 (w : World) (e : Ending) (w' : World) : Prop := ∃ (b off cap : Nat) (xs : List Int) (x y : Int), e = .returned (.tuple #[.slice (some ⟨b, off, none⟩) xs.length cap, .int .i64 x, .int .i64 y]) ∧ xs.length ≤ 9 ∧ xs.length ≤ cap ∧ cap ≤ maxLen ∧ (∀ i, i < xs.length → 0 ≤ nth xs i ∧ nth xs i ≤ 1000) ∧ -1000 ≤ x ∧ x ≤ 1000 ∧ -1000 ≤ y ∧ y ≤ 1000 ∧ Ints w' b off xs ∧ Below w.heap.size w w'

end Go.Proofs.Yteeokegkbhpbcaa

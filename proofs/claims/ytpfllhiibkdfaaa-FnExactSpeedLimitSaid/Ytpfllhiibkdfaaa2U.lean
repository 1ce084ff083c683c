/- What the drawing functions of chapter 2 give beside a car. -/
import Derived.Test.Ytpfllhiibkdfaaa2T
import Derived.Test.Ytpfllhiibkdfaaa2F
import Derived.Deep.RegionWith
namespace Go.Proofs.Ytpfllhiibkdfaaa
open Go.RowKit
set_option linter.unusedVariables false

theorem Rd.dw {w : World} {g c : Nat} (h : Rd w g c) : Rd w.drew g c := h
theorem Fr.dw {w w' : World} {g : Nat} (h : Fr w g w') : Fr w g w'.drew := ⟨h.os, h.tape, h.output, h.size, h.block⟩
/-- A drawn number beside a car. -/
def DrawnI (w : World) (g c d : Nat) (e : Ending) (w' : World) : Prop := ∃ (t : Int) (c' : Nat), e = .returned (.int .i64 t) ∧ -100 ≤ t ∧ t ≤ 100 ∧ Rd w' g c' ∧ c' ≤ c + d ∧ Fr w g w'
/-- A store into a box does not touch what a reader reads. -/
theorem Rd.box {w : World} {g c B j : Nat} {x y : Int} (h : Rd w g c) (hB : Box w B x y) (hne : B ≠ g) (hj : j = 0 ∨ j = 1) (v : Value) : Rd (w.setCell ⟨B, j, none⟩ v) g c := by
  obtain ⟨a, n, cap, h0, h1, h2, h3, h4, h5⟩ := h
  refine ⟨a, n, cap, ?_, ?_, ?_, h3, h4, ?_⟩
  · rw [World.cell?_setCell_other _ _ _ _ (fun e => hne (congrArg Addr.block e))]; exact h0
  · rw [World.cell?_setCell_other _ _ _ _ (fun e => hne (congrArg Addr.block e))]; exact h1
  · rw [World.frozen?_setCell]; exact h2
  · rcases h5 with h5 | ⟨b, off, rfl, z, hz, hc⟩
    · exact .inl h5
    · refine .inr ⟨b, off, rfl, z, hz, fun i hi => ?_⟩
      rw [World.cell?_setCell_other _ _ _ _ ?_]
      · exact hc i hi
      · intro e
        have := hc i hi
        rw [← e] at this
        rcases hj with rfl | rfl
        · rw [hB.1.1] at this; cases this
        · rw [hB.1.2] at this; cases this
/-- A drawn car, or a car and a target: nothing that was there has changed. -/
def DrawnC (w : World) (e : Ending) (w' : World) : Prop := ∃ (a s : Int), e = .returned (Value.agg #[.int .i64 (a), .int .i64 (s)]) ∧ -1 ≤ a ∧ a ≤ 61 ∧ -6 ≤ s ∧ s ≤ 6 ∧ Below w.heap.size w w'
def DrawnC1 (w : World) (e : Ending) (w' : World) : Prop := ∃ (a s t : Int), e = .returned (.tuple #[(Value.agg #[.int .i64 (a), .int .i64 (s)]), .int .i64 t]) ∧ -1 ≤ a ∧ a ≤ 61 ∧ -6 ≤ s ∧ s ≤ 6 ∧ -100 ≤ t ∧ t ≤ 100 ∧ Below w.heap.size w w'
def DrawnN (w : World) (e : Ending) (w' : World) : Prop := ∃ (s : Int), e = .returned (.int .i64 s) ∧ -7 ≤ s ∧ s ≤ 7 ∧ Below w.heap.size w w'
end Go.Proofs.Ytpfllhiibkdfaaa

/- What the drawing functions of chapter 8 give, and the laws of CallsNone and CallsValid. -/
import Derived.Test.Ytfhhgddajmihjaa8T
import Derived.Test.YtfhhgddajmihjaaL
namespace Go.Proofs.Ytfhhgddajmihjaa
open Go.RowKit
set_option linter.unusedVariables false
set_option linter.unusedSimpArgs false
set_option maxRecDepth 100000

def DrawnCs (w : World) (e : Ending) (w' : World) : Prop := ∃ (a1 : Option Addr) (n1 k1 : Nat) (a2 : Option Addr) (n2 k2 : Nat) (a3 : Option Addr) (n3 k3 : Nat) (x : Cs), e = .returned (.agg #[.slice a1 n1 k1, .slice a2 n2 k2, .slice a3 n3 k3]) ∧ Cal w' a1 n1 a2 n2 a3 n3 x ∧ (n1 ≤ 9 ∧ n2 ≤ 9 ∧ n3 ≤ 9) ∧ Below w.heap.size w w'
theorem DrawnC.cal {w : World} {g c : Nat} {e : Ending} {w' : World} (h : DrawnC w g c e w') : ∃ (a1 : Option Addr) (n1 k1 : Nat) (a2 : Option Addr) (n2 k2 : Nat) (a3 : Option Addr) (n3 k3 : Nat) (x : Cs) (c' : Nat), e = .returned (.agg #[.slice a1 n1 k1, .slice a2 n2 k2, .slice a3 n3 k3]) ∧ (OwnB w' w.heap.size (.slice a1 n1 k1) x.u ∧ OwnB w' w.heap.size (.slice a2 n2 k2) x.d ∧ OwnB w' w.heap.size (.slice a3 n3 k3) x.c) ∧ (n1 ≤ 9 ∧ n2 ≤ 9 ∧ n3 ≤ 9) ∧ Rd w' g c' ∧ c' ≤ c + 20 ∧ Fr w g w' := h
end Go.Proofs.Ytfhhgddajmihjaa

/- Arguments that are structs of structs, opened to cells. -/
import Derived.Lib.SmallJoins
import Derived.Deep.Slices
import Derived.Deep.Fields
import Derived.ChangeSame
namespace Go.Proofs.Ytcecmikmmggngaa
open Go.Joins Go.ChangeShapes Go.WideShapes Go.RowKit Go.Deep
set_option linter.unusedVariables false
section
variable {H : Type} {enc : TypeId × Value → H} {P : Program} {w : World} {base : Nat} {spare : Nat → Bool} {held : Bool}
theorem open_22 {r : Reach} {b0 : Nat} {t : TypeId} {f0 f1 a0 a1 c0 c1 : Field} {v : Value} {d : DataW H} {p : List MemPlace} (hs : P.underlying t = some (.struct #[f0, f1])) (h0 : P.underlying f0.type = some (.struct #[a0, a1])) (h1 : P.underlying f1.type = some (.struct #[c0, c1]))
    (n0 : oneCellFields P #[a0, a1] = true) (n1 : oneCellFields P #[c0, c1] = true) (o0 : f0.offset = 0) (o0' : P.cellsOf f0.type = 2) (o1 : f1.offset = 2) (o1' : P.cellsOf f1.type = 2) (hC : P.cellsOf t = 4)
    (hv : Value.okWide P w r b0 t v) (h : DataW.Trod enc P w base spare held t v d p) :
    ∃ (v0 v1 v2 v3 : Value) (y0 y1 y2 y3 : DataW H × List MemPlace) (m n : Nat), v = .agg #[v0, v1, v2, v3] ∧
      DataW.trod enc P w base spare held m a0.type [v0] = some y0 ∧ DataW.trod enc P w base spare held m a1.type [v1] = some y1 ∧ DataW.trod enc P w base spare held n c0.type [v2] = some y2 ∧ DataW.trod enc P w base spare held n c1.type [v3] = some y3 := by
  obtain ⟨cs, rfl, hsz⟩ := okWide_struct hs hv
  obtain ⟨l⟩ := cs
  match l, hsz.trans hC with
  | [v0, v1, v2, v3], _ =>
    obtain ⟨fuel, hf⟩ := h
    obtain ⟨y0, y1, n, hx, _, g0, g1⟩ := trod_struct2 hs hf
    have g0' : DataW.trod enc P w base spare held n f0.type [v0, v1] = some y0 := by simpa [Value.cells, o0, o0'] using g0
    have g1' : DataW.trod enc P w base spare held n f1.type [v2, v3] = some y1 := by simpa [Value.cells, o1, o1'] using g1
    obtain ⟨z0, z1, m0, _, _, k0, k1⟩ := trod_struct2 h0 g0'
    obtain ⟨z2, z3, m1, _, _, k2, k3⟩ := trod_struct2 h1 g1'
    obtain ⟨q0, r0⟩ := hone_of n0 0 a0 rfl
    obtain ⟨q1, r1⟩ := hone_of n0 1 a1 rfl
    obtain ⟨q2, r2⟩ := hone_of n1 0 c0 rfl
    obtain ⟨q3, r3⟩ := hone_of n1 1 c1 rfl
    exact ⟨v0, v1, v2, v3, z0, z1, z2, z3, m0, m1, rfl, by simpa [q0, r0] using k0, by simpa [q1, r1] using k1, by simpa [q2, r2] using k2, by simpa [q3, r3] using k3⟩
end
end Go.Proofs.Ytcecmikmmggngaa

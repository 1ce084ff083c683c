/- The contract of ServeStop of the model. -/
import Derived.Test.Ytfhhgddajmihjaa9B
import Derived.Test.Ytfhhgddajmihjaa8Y
import Derived.Deep.CutRange
namespace Go.Proofs.Ytfhhgddajmihjaa
open Go.RowKit
set_option linter.unusedVariables false
set_option linter.unusedSimpArgs false
set_option maxRecDepth 100000

theorem Box.out {w w' : World} {b lo hi : Nat} {a s : Int} (h : Box w b a s) (ho : Out lo hi w w') (hd : b < lo ∨ hi ≤ b) : Box w' b a s := h.block (ho.block b h.lt hd)
/-- Rows that are not empty have blocks. -/
theorem OwnC.somes {w : World} {lo hi : Nat} {a1 a2 a3 : Option Addr} {n1 n2 n3 k1 k2 k3 : Nat} {x : Cs} (h : OwnC w lo hi (.slice a1 n1 k1) (.slice a2 n2 k2) (.slice a3 n3 k3) x) (h1 : 1 ≤ x.u.length) (h2 : 1 ≤ x.d.length) (h3 : 1 ≤ x.c.length) :
    ∃ p1 p2 p3, (a1 = some ⟨p1, 0, none⟩ ∧ a2 = some ⟨p2, 0, none⟩ ∧ a3 = some ⟨p3, 0, none⟩) ∧ (n1 = x.u.length ∧ n2 = x.d.length ∧ n3 = x.c.length) ∧ (lo ≤ p1 ∧ p1 < hi ∧ lo ≤ p2 ∧ p2 < hi ∧ lo ≤ p3 ∧ p3 < hi) ∧
      (∀ i, w.frozen? ⟨p1, i, none⟩ = false) ∧ (∀ i, w.frozen? ⟨p2, i, none⟩ = false) ∧ (∀ i, w.frozen? ⟨p3, i, none⟩ = false) := by
  obtain ⟨⟨o1, o2, o3⟩, _, _, _, hh⟩ := h
  obtain ⟨p1, d1, e1, l1, _, _, z1⟩ := OwnB.some o1 h1
  obtain ⟨p2, d2, e2, l2, _, _, z2⟩ := OwnB.some o2 h2
  obtain ⟨p3, d3, e3, l3, _, _, z3⟩ := OwnB.some o3 h3
  have u1 := hh p1 (.inl (by rw [e1]; rfl))
  have u2 := hh p2 (.inr (.inl (by rw [e2]; rfl)))
  have u3 := hh p3 (.inr (.inr (by rw [e3]; rfl)))
  simp only [Value.slice.injEq] at e1 e2 e3
  exact ⟨p1, p2, p3, ⟨e1.1, e2.1, e3.1⟩, ⟨e1.2.1, e2.2.1, e3.2.1⟩, ⟨l1, u1, l2, u2, l3, u3⟩, z1, z2, z3⟩
/-- What ServeStop gives. -/
noncomputable def svv (x : Cs) (f d : Int) : Cs := @ite _ (SK x f d) (Classical.propDecidable _) (srv x f.toNat (decide (d = 1))) cz
theorem svv_t {x : Cs} {f : Nat} {up : Bool} (h : SK x f (dI up)) : svv x f (dI up) = srv x f up := by
  unfold svv; rw [if_pos h]; cases up <;> rfl
theorem svv_f {x : Cs} {f d : Int} (h : ¬ SK x f d) : svv x f d = cz := by unfold svv; rw [if_neg h]
end Go.Proofs.Ytfhhgddajmihjaa

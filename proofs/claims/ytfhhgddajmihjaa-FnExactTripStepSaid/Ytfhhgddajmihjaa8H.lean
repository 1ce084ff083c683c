/- CallSet of the model. -/
import Derived.Test.Ytfhhgddajmihjaa8F
namespace Go.Proofs.Ytfhhgddajmihjaa
open Go.RowKit
set_option linter.unusedVariables false
set_option linter.unusedSimpArgs false
set_option maxRecDepth 100000

theorem OwnB.some {w : World} {B : Nat} {v : Value} {xs : List Bool} (h : OwnB w B v xs) (h1 : 1 ≤ xs.length) :
    ∃ q cap, v = .slice (Option.some ⟨q, 0, none⟩) xs.length cap ∧ B ≤ q ∧ q < w.heap.size ∧ (∀ i, i < xs.length → w.cell? ⟨q, i, none⟩ = Option.some (.bool (bn xs i))) ∧ ∀ i, w.frozen? ⟨q, i, none⟩ = false := by
  obtain ⟨a, cap, e, ⟨_, hb⟩, hf⟩ := h.open
  rcases hb with hb | ⟨q, off, rfl, hb⟩
  · omega
  · obtain ⟨rfl, _, hz, _, _⟩ := hf q off none rfl
    have := h.lt q (by rw [e]; rfl)
    exact ⟨q, cap, e, this.1, this.2, fun i hi => by simpa using hb i hi, hz⟩
theorem set_other {w : World} {q i : Nat} {u : Value} {B : Nat} {v : Value} {xs : List Bool} (h : OwnB w B v xs) (hne : ∀ k, v.ownBlock = Option.some k → k ≠ q) : OwnB (w.setCell ⟨q, i, none⟩ u) B v xs :=
  h.block fun k hk => Below.heap_setCell _ _ _ _ (by have := hne k hk; simpa using this)
theorem OwnC.set1 {w : World} {lo hi q c1 i : Nat} {v2 v3 : Value} {x : Cs} (b : Bool) (h : OwnC w lo hi (.slice (Option.some ⟨q, 0, none⟩) x.u.length c1) v2 v3 x) :
    OwnC (w.setCell ⟨q, i, none⟩ (.bool b)) lo hi (.slice (Option.some ⟨q, 0, none⟩) x.u.length c1) v2 v3 ⟨x.u.set i b, x.d, x.c⟩ := by
  obtain ⟨⟨h1, h2, h3⟩, ⟨a12, a13, a23⟩, h4, h5, h6⟩ := h
  exact ⟨⟨(OwnB.stored h1 i b).1, set_other h2 (fun k hk => (a12 q k rfl hk).symm), set_other h3 (fun k hk => (a13 q k rfl hk).symm)⟩, ⟨a12, a13, a23⟩, by rw [World.size_setCell]; exact h4, h5, h6⟩
theorem OwnC.set2 {w : World} {lo hi q c1 i : Nat} {v1 v3 : Value} {x : Cs} (b : Bool) (h : OwnC w lo hi v1 (.slice (Option.some ⟨q, 0, none⟩) x.d.length c1) v3 x) :
    OwnC (w.setCell ⟨q, i, none⟩ (.bool b)) lo hi v1 (.slice (Option.some ⟨q, 0, none⟩) x.d.length c1) v3 ⟨x.u, x.d.set i b, x.c⟩ := by
  obtain ⟨⟨h1, h2, h3⟩, ⟨a12, a13, a23⟩, h4, h5, h6⟩ := h
  exact ⟨⟨set_other h1 (fun k hk => a12 k q hk rfl), (OwnB.stored h2 i b).1, set_other h3 (fun k hk => (a23 q k rfl hk).symm)⟩, ⟨a12, a13, a23⟩, by rw [World.size_setCell]; exact h4, h5, h6⟩
theorem OwnC.set3 {w : World} {lo hi q c1 i : Nat} {v1 v2 : Value} {x : Cs} (b : Bool) (h : OwnC w lo hi v1 v2 (.slice (Option.some ⟨q, 0, none⟩) x.c.length c1) x) :
    OwnC (w.setCell ⟨q, i, none⟩ (.bool b)) lo hi v1 v2 (.slice (Option.some ⟨q, 0, none⟩) x.c.length c1) ⟨x.u, x.d, x.c.set i b⟩ := by
  obtain ⟨⟨h1, h2, h3⟩, ⟨a12, a13, a23⟩, h4, h5, h6⟩ := h
  exact ⟨⟨set_other h1 (fun k hk => a13 k q hk rfl), set_other h2 (fun k hk => a23 k q hk rfl), (OwnB.stored h3 i b).1⟩, ⟨a12, a13, a23⟩, by rw [World.size_setCell]; exact h4, h5, h6⟩
theorem newC_end {w0 w : World} {r lo hi : Nat} {v1 v2 v3 : Value} {x : Cs} (hO : OwnC w lo hi v1 v2 v3 x) (hW : Below w0.heap.size w0 w) (hr : w0.heap.size ≤ r) (hr2 : r < lo) (f : Value → Value) :
    NewC w0 x f (.returned (f (.agg #[v1, v2, v3]))) (((w.setCell ⟨r, 0, none⟩ v1).setCell ⟨r, 1, none⟩ v2).setCell ⟨r, 2, none⟩ v3) := by
  have := OwnC.store hO hW hr hr2
  exact ⟨v1, v2, v3, rfl, this.1, this.2⟩
theorem cput0 (x : Cs) (j : Nat) (b : Bool) : cput x 0 j b = ⟨x.u.set j b, x.d, x.c⟩ := rfl
theorem cput1 (x : Cs) (j : Nat) (b : Bool) : cput x 1 j b = ⟨x.u, x.d.set j b, x.c⟩ := rfl
theorem cput2 (x : Cs) (j : Nat) (b : Bool) : cput x 2 j b = ⟨x.u, x.d, x.c.set j b⟩ := rfl
end Go.Proofs.Ytfhhgddajmihjaa

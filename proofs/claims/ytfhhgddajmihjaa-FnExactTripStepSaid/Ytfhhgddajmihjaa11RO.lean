/- A trip that comes in, opened: ints, a place, a slice of riders. -/
import Derived.Test.Ytfhhgddajmihjaa11MA
import Derived.Test.YtfhhgddajmihjaaRows
import Derived.ProofKit
import Derived.ChangeOld
import Derived.Carry
import Derived.Lib.SmallJoins
import Derived.Deep.Slices
import Derived.Deep.SlicePairs
namespace Go.Proofs.Ytfhhgddajmihjaa
open Go.Joins Go.ChangeShapes Go.WideShapes Go.ChangeAt Go.RowKit Go.Deep
set_option linter.unusedVariables false
set_option linter.unusedSimpArgs false
set_option maxRecDepth 100000

section
variable {H : Type} {enc : TypeId × Value → H} {P : Program} {w : World} {base : Nat} {spare : Nat → Bool} {held : Bool}
theorem open_1121 {r : Reach} {b0 : Nat} {t : TypeId} {f0 f1 f2 f3 a0 a1 : Field} {v : Value} {d : DataW H} {p : List MemPlace} (hs : P.underlying t = some (.struct #[f0, f1, f2, f3])) (h2 : P.underlying f2.type = some (.struct #[a0, a1]))
    (n2 : oneCellFields P #[a0, a1] = true) (o0 : f0.offset = 0) (k0 : P.cellsOf f0.type = 1) (o1 : f1.offset = 1) (k1 : P.cellsOf f1.type = 1) (o2 : f2.offset = 2) (k2 : P.cellsOf f2.type = 2) (o3 : f3.offset = 4) (k3 : P.cellsOf f3.type = 1) (hC : P.cellsOf t = 5)
    (hv : Value.okWide P w r b0 t v) (h : DataW.Trod enc P w base spare held t v d p) :
    ∃ (v0 v1 v2 v3 v4 : Value) (y0 y1 y2 y3 y4 : DataW H × List MemPlace) (m n : Nat), v = .agg #[v0, v1, v2, v3, v4] ∧
      DataW.trod enc P w base spare held m f0.type [v0] = some y0 ∧ DataW.trod enc P w base spare held m f1.type [v1] = some y1 ∧ DataW.trod enc P w base spare held n a0.type [v2] = some y2 ∧ DataW.trod enc P w base spare held n a1.type [v3] = some y3 ∧ DataW.trod enc P w base spare held m f3.type [v4] = some y4 := by
  obtain ⟨cs, rfl, hsz⟩ := okWide_struct hs hv
  obtain ⟨l⟩ := cs
  match l, hsz.trans hC with
  | [v0, v1, v2, v3, v4], _ =>
    obtain ⟨fuel, hf⟩ := h
    obtain ⟨y0, y1, y2, y3, n, hx, _, g0, g1, g2, g3⟩ := trod_struct4 hs hf
    have g0' : DataW.trod enc P w base spare held n f0.type [v0] = some y0 := by simpa [Value.cells, o0, k0] using g0
    have g1' : DataW.trod enc P w base spare held n f1.type [v1] = some y1 := by simpa [Value.cells, o1, k1] using g1
    have g2' : DataW.trod enc P w base spare held n f2.type [v2, v3] = some y2 := by simpa [Value.cells, o2, k2] using g2
    have g3' : DataW.trod enc P w base spare held n f3.type [v4] = some y3 := by simpa [Value.cells, o3, k3] using g3
    obtain ⟨z0, z1, m0, _, _, e0, e1⟩ := trod_struct2 h2 g2'
    obtain ⟨q0, r0⟩ := hone_of n2 0 a0 rfl
    obtain ⟨q1, r1⟩ := hone_of n2 1 a1 rfl
    exact ⟨v0, v1, v2, v3, v4, y0, y1, z0, z1, y3, n, m0, rfl, g0', g1', by simpa [q0, r0] using e0, by simpa [q1, r1] using e1, g3'⟩
/-- A slice of structs of three ints. -/
theorem open_slice_ints3 {t e : TypeId} {f0 f1 f2 : Field} {fuel : Nat} {cs : List Value} {x : DataW H × List MemPlace} (ht : P.underlying t = some (.slice e)) (he : P.underlying e = some (.struct #[f0, f1, f2])) (ce : P.cellsOf e = 3)
    (o0 : f0.offset = 0) (o1 : f1.offset = 1) (o2 : f2.offset = 2) (c0 : P.cellsOf f0.type = 1) (c1 : P.cellsOf f1.type = 1) (c2 : P.cellsOf f2.type = 1) (i0 : P.underlying f0.type = some (.int .i64)) (i1 : P.underlying f1.type = some (.int .i64)) (i2 : P.underlying f2.type = some (.int .i64))
    (h : DataW.trod enc P w base spare held fuel t cs = some x) :
    cs = [.slice none 0 0] ∨ ∃ (a : Addr) (len cap : Nat) (R : Nat → Ri), cs = [.slice (some a) len cap] ∧ len ≤ maxLen ∧ ∀ i, i < len → w.cell? (a.add (i * 3)) = some (.int .i64 (R i).a) ∧ w.cell? (a.add (i * 3 + 1)) = some (.int .i64 (R i).b) ∧ w.cell? (a.add (i * 3 + 2)) = some (.int .i64 (R i).s) := by
  rcases open_slice ht h with h0 | ⟨a, len, cap, m, n, D, Pl, rfl, hb, hl, hm, hmm, rfl, hx⟩
  · exact Or.inl h0.1
  right
  have hlm : len ≤ m := by rw [hmm]; split <;> omega
  have each : ∀ i, i < m → ∃ q : Ri, w.cell? (a.add (i * 3)) = some (.int .i64 q.a) ∧ w.cell? (a.add (i * 3 + 1)) = some (.int .i64 q.b) ∧ w.cell? (a.add (i * 3 + 2)) = some (.int .i64 q.s) := by
    intro i hi
    obtain ⟨cs', h1, h2⟩ := hx i hi
    rw [ce] at h1
    obtain ⟨_, hlen, hcell⟩ := World.cells?_some h1
    obtain ⟨y0, y1, y2, k, _, _, g0, g1, g2⟩ := trod_struct3 he h2
    match cs', hlen with
    | [v0, v1, v2], _ =>
      simp [o0, o1, o2, c0, c1, c2] at g0 g1 g2
      have e0 := hcell 0 (by omega)
      have e1 := hcell 1 (by omega)
      have e2 := hcell 2 (by omega)
      rw [add_add] at e0 e1 e2
      obtain ⟨x0, b0, -, -⟩ := DataW.trod_int i0 g0
      obtain ⟨x1, b1, -, -⟩ := DataW.trod_int i1 g1
      obtain ⟨x2, b2, -, -⟩ := DataW.trod_int i2 g2
      simp at b0 b1 b2
      subst b0 b1 b2
      exact ⟨⟨x0, x1, x2⟩, by simpa using e0, by simpa using e1, by simpa using e2⟩
  haveI : Inhabited Ri := ⟨⟨0, 0, 0⟩⟩
  obtain ⟨q, hq⟩ := choose_lt each
  exact ⟨a, len, cap, q, rfl, by omega, fun i hi => hq i (by omega)⟩
end
theorem riders_of (R : Nat → Ri) (n : Nat) : ((List.range n).map R).length = n := by simp
theorem rid_of {W : World} {a : Addr} {n : Nat} {R : Nat → Ri} (h : ∀ i, i < n → W.cell? (a.add (i * 3)) = some (.int .i64 (R i).a) ∧ W.cell? (a.add (i * 3 + 1)) = some (.int .i64 (R i).b) ∧ W.cell? (a.add (i * 3 + 2)) = some (.int .i64 (R i).s)) :
    Rid W (some a) n ((List.range n).map R) := by
  refine ⟨⟨by rw [rfl3_len, riders_of], ?_⟩, riders_of R n⟩
  by_cases h0 : n = 0
  · exact .inl h0
  obtain ⟨b, off, spot⟩ := a
  have hspot : spot = none := by
    have hc0 := (h 0 (by omega)).1
    simpa [Addr.add] using World.cell?_spot hc0
  subst hspot
  refine .inr ⟨b, off, rfl, fun i hi => ?_⟩
  rw [rfl3_len, riders_of] at hi
  obtain ⟨q, r, hr, rfl⟩ : ∃ q r, r < 3 ∧ i = q * 3 + r := ⟨i / 3, i % 3, Nat.mod_lt _ (by omega), by omega⟩
  have hq : q < ((List.range n).map R).length := by rw [riders_of]; omega
  have h3 := rfl3_at ((List.range n).map R) q hq
  have he : ((List.range n).map R)[q] = R q := by simp
  rw [he] at h3
  obtain ⟨g0, g1, g2⟩ := h q (by omega)
  rw [Addr.add_lit] at g0 g1 g2
  rcases (by omega : r = 0 ∨ r = 1 ∨ r = 2) with rfl | rfl | rfl
  · rw [Nat.add_zero, h3.1]; exact g0
  · rw [h3.2.1]; exact g1
  · rw [h3.2.2]; exact g2
theorem open_trip {H : Type} {enc : TypeId × Value → H} {W : World} {base : Nat} {held : Bool} {r : Reach} {b0 : Nat} {v : Value} {d : DataW H} {p : List MemPlace}
    (hv : Value.okWide Try.prog W r b0 50 v) (h : DataW.Trod enc Try.prog W base (fun _ => true) held 50 v d p) :
    ∃ (n m f e : Int) (a : Option Addr) (k c : Nat) (l : List Ri), v = .agg #[.int .i64 n, .int .i64 m, .int .i64 f, .int .i64 e, .slice a k c] ∧ Rid W a k l ∧ k ≤ maxLen := by
  obtain ⟨v0, v1, v2, v3, v4, y0, y1, y2, y3, y4, mm, nn, rfl, h0, h1, h2, h3, h4⟩ := open_1121 Try.underlying50 Try.underlying47 (by kernel_rfl) rfl (by kernel_rfl) rfl (by kernel_rfl) rfl (by kernel_rfl) rfl (by kernel_rfl) (by kernel_rfl) hv h
  obtain ⟨n, e0, -, -⟩ := DataW.trod_int Try.underlying3 h0
  obtain ⟨m, e1, -, -⟩ := DataW.trod_int Try.underlying3 h1
  obtain ⟨f, e2, -, -⟩ := DataW.trod_int Try.underlying3 h2
  obtain ⟨e, e3, -, -⟩ := DataW.trod_int Try.underlying3 h3
  simp at e0 e1 e2 e3
  subst e0 e1 e2 e3
  rcases open_slice_ints3 Try.underlying48 Try.underlying100 (by kernel_rfl) rfl rfl rfl (by kernel_rfl) (by kernel_rfl) (by kernel_rfl) Try.underlying3 Try.underlying3 Try.underlying3 h4 with h9 | ⟨a, len, cap, R, h9, hm, hR⟩
  · simp at h9
    subst h9
    exact ⟨n, m, f, e, none, 0, 0, [], rfl, ⟨⟨rfl, .inl rfl⟩, rfl⟩, by unfold maxLen; omega⟩
  · simp at h9
    subst h9
    exact ⟨n, m, f, e, some a, len, cap, _, rfl, rid_of hR, hm⟩
end Go.Proofs.Ytfhhgddajmihjaa

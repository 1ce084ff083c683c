/- Texts of calls read, by the model: ReadCalls. -/
import Derived.Test.YtgenccbpkolmbaaDoor8RC
namespace Go.Proofs.YtgenccbpkolmbaaDoor
open Go.RowKit
set_option linter.unusedVariables false

/-- A text that is the text of valid calls. -/
def RdV (s : ByteArray) : Prop := ∃ p q r, cut1 s.data.toList = [p, q, r] ∧ (clean p ∧ clean q ∧ clean r) ∧ CV ⟨bits p, bits q, bits r⟩
def rdC (s : ByteArray) : Cs := match cut1 s.data.toList with
  | [p, q, r] => ⟨bits p, bits q, bits r⟩
  | _ => cz
noncomputable def rd (s : ByteArray) : Cs := @ite _ (RdV s) (Classical.propDecidable _) (rdC s) cz
noncomputable def rdB (s : ByteArray) : Bool := tr (RdV s)
theorem rd_t {s : ByteArray} {p q r : List UInt8} (h : cut1 s.data.toList = [p, q, r]) (hc : clean p ∧ clean q ∧ clean r) (hv : CV ⟨bits p, bits q, bits r⟩) : rd s = ⟨bits p, bits q, bits r⟩ ∧ rdB s = true := by
  have hV : RdV s := ⟨p, q, r, h, hc, hv⟩
  refine ⟨?_, tr_true hV⟩
  unfold rd rdC
  rw [if_pos hV, h]
theorem rd_f {s : ByteArray} (h : ¬ RdV s) : rd s = cz ∧ rdB s = false := ⟨by unfold rd; rw [if_neg h], tr_false h⟩
theorem OwnS.open {w : World} {B : Nat} {v : Value} {ps : List ByteArray} (h : OwnS w B v ps) : ∃ a cap, v = .slice a ps.length cap ∧ (ps ≠ [] → ∃ b, a = some ⟨b, 0, none⟩ ∧ ∀ i (hi : i < ps.length), w.cell? ⟨b, i, none⟩ = some (.string ps[i])) := by
  obtain ⟨_, h⟩ := h
  rcases h with ⟨rfl, h0⟩ | ⟨g, cap, cur, rfl, hb, hh, hl, hm, hs, ht⟩
  · exact ⟨none, 0, by rw [h0], fun hne => absurd (List.eq_nil_of_length_eq_zero h0) hne⟩
  · refine ⟨_, cap, rfl, fun _ => ⟨g, rfl, fun i hi => ?_⟩⟩
    have e : (cur.toList.take (ps.length * 1))[i]? = some (.string ps[i]) := by rw [ht]; simp [hi]
    rw [List.getElem?_take, if_pos (by omega)] at e
    simp [World.cell?, hh]
    simpa using e
theorem cut3_size {s : ByteArray} {p q r : ByteArray} (h : pcs [p, q, r] = cut1 s.data.toList) : p.size ≤ s.size ∧ q.size ≤ s.size ∧ r.size ≤ s.size := by
  have := congrArg List.length (cut3 h.symm)
  rw [Lib.size_eq s, Lib.size_eq p, Lib.size_eq q, Lib.size_eq r]
  simp at this ⊢
  omega
theorem OwnC.of3 {w : World} {lo m1 m2 : Nat} {v1 v2 v3 : Value} {x : Cs} (h1 : OwnB w lo v1 x.u) (h2 : OwnB w m1 v2 x.d) (h3 : OwnB w m2 v3 x.c) (hm1 : lo ≤ m1) (hm2 : m1 ≤ m2) (b1 : ∀ k, v1.ownBlock = some k → k < m1) (b2 : ∀ k, v2.ownBlock = some k → k < m2) (hw : m2 ≤ w.heap.size) : OwnC w lo w.heap.size v1 v2 v3 x :=
  ⟨⟨h1, OwnB.mono h2 hm1, OwnB.mono h3 (by omega)⟩,
   ⟨fun i j hi hj e => by have := b1 i hi; have := (h2.lt j hj).1; omega, fun i j hi hj e => by have := b1 i hi; have := (h3.lt j hj).1; omega, fun i j hi hj e => by have := b2 i hi; have := (h3.lt j hj).1; omega⟩,
   Nat.le_refl _, by omega, fun k hk => by
    rcases hk with hk | hk | hk
    · exact (h1.lt k hk).2
    · exact (h2.lt k hk).2
    · exact (h3.lt k hk).2⟩
end Go.Proofs.YtgenccbpkolmbaaDoor

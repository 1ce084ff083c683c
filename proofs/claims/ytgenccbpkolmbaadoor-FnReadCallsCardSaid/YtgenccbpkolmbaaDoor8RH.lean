/- Texts of calls read, by the program: the drawn region of ReadCalls. -/
import Derived.Test.YtgenccbpkolmbaaDoor8RF
namespace Go.Proofs.YtgenccbpkolmbaaDoor
open Go.RowKit
set_option linter.unusedVariables false

def RowP (H : Nat) (p : ByteArray) (v : Value) (w : World) : Prop := ∃ G, v = .slice (some ⟨G, 0, none⟩) p.size p.size ∧ OwnB w H v (bits p.data.toList)
theorem RowP.below {H : Nat} {p : ByteArray} {v : Value} {w w' : World} (h : RowP H p v w) (hb : Below w.heap.size w w') : RowP H p v w' := by
  obtain ⟨G, e, ho⟩ := h
  exact ⟨G, e, ho.below hb⟩
theorem RowP.lt {H : Nat} {p : ByteArray} {v : Value} {w : World} (h : RowP H p v w) : ∀ k, v.ownBlock = some k → H ≤ k ∧ k < w.heap.size := by
  obtain ⟨G, e, ho⟩ := h
  exact ho.lt
def NeB (v : Value) (G : Nat) : Prop := ∀ k, v.ownBlock = some k → k ≠ G
theorem RowP.outs {H G : Nat} {p : ByteArray} {v : Value} {w w' : World} (h : RowP H p v w) (ho : Out G (G + 1) w w') (hn : NeB v G) : RowP H p v w' := by
  obtain ⟨g, e, hO⟩ := h
  exact ⟨g, e, OwnB.outs hO ho (fun k hk => by have := hn k hk; omega)⟩
def Zs : Value := .slice none 0 0
def P5 (H : Nat) (vs : Nat → Value) (b3 b7 b11 b14 : Bool) (w : World) : Prop := ∃ G, vs 5 = .pointer (some ⟨G, 0, none⟩) ∧ H ≤ G ∧ G < w.heap.size ∧ (b14 = false → Bx w G Zs Zs Zs) ∧ (b14 = true → Bx w G (vs 15) (vs 19) (vs 23)) ∧ (b3 = true → NeB (vs 15) G) ∧ (b7 = true → NeB (vs 19) G) ∧ (b11 = true → NeB (vs 23) G)
structure RI (W : World) (b : Nat) (p q r : ByteArray) (ln : Nat → Bool) (vs : Nat → Value) (w : World) : Prop where
  bel : Below W.heap.size W w
  u4 : vs 4 = .slice (some ⟨b, 0, none⟩) 3 3
  v12 : ln 0 = true → vs 12 = .slice (some ⟨b, 0, none⟩) 3 3
  v13 : ln 1 = true → vs 13 = .pointer (some ⟨b, 0, none⟩)
  v14 : ln 2 = true → vs 14 = .string p
  r1 : ln 3 = true → RowP W.heap.size p (vs 15) w
  v16 : ln 4 = true → vs 16 = .slice (some ⟨b, 0, none⟩) 3 3
  v17 : ln 5 = true → vs 17 = .pointer (some ⟨b, 1, none⟩)
  v18 : ln 6 = true → vs 18 = .string q
  r2 : ln 7 = true → RowP W.heap.size q (vs 19) w
  v20 : ln 8 = true → vs 20 = .slice (some ⟨b, 0, none⟩) 3 3
  v21 : ln 9 = true → vs 21 = .pointer (some ⟨b, 2, none⟩)
  v22 : ln 10 = true → vs 22 = .string r
  r3 : ln 11 = true → RowP W.heap.size r (vs 23) w
  a12 : ln 3 = true → ln 7 = true → Apart (vs 15) (vs 19)
  a13 : ln 3 = true → ln 11 = true → Apart (vs 15) (vs 23)
  a23 : ln 7 = true → ln 11 = true → Apart (vs 19) (vs 23)
  v24 : ln 12 = true → vs 24 = .agg #[vs 15, vs 19, vs 23]
  d12 : ln 12 = true → ln 3 = true ∧ ln 7 = true ∧ ln 11 = true
  p5 : ln 13 = true → P5 W.heap.size vs (ln 3) (ln 7) (ln 11) (ln 14) w
  d14 : ln 14 = true → ln 12 = true ∧ ln 13 = true
theorem P5.below {H : Nat} {vs : Nat → Value} {b3 b7 b11 b14 : Bool} {w w' : World} (h : P5 H vs b3 b7 b11 b14 w) (hb : Below w.heap.size w w') : P5 H vs b3 b7 b11 b14 w' := by
  obtain ⟨G, e, h1, h2, h3, h4, h5⟩ := h
  exact ⟨G, e, h1, Nat.lt_of_lt_of_le h2 hb.size, fun h => (h3 h).below hb, fun h => (h4 h).below hb, h5⟩
/-- A new row is apart from what was there. -/
theorem new_apart {H : Nat} {p : ByteArray} {u v : Value} {w w' : World} {xs : List Bool} (h : OwnB w' w.heap.size v xs) (hr : RowP H p u w) : Apart v u ∧ Apart u v :=
  ⟨fun i j hi hj e => by have := (h.lt i hi).1; have := (hr.lt j hj).2; omega, fun i j hi hj e => by have := (h.lt j hj).1; have := (hr.lt i hi).2; omega⟩
end Go.Proofs.YtgenccbpkolmbaaDoor

/- A struct of three slices of bools, opened at an argument. -/
import Derived.Test.Ytkpginkkfobblaa8R
import Derived.Test.YtkpginkkfobblaaRows
import Derived.ProofKit
import Derived.ChangeOld
import Derived.Carry
import Derived.Lib.SmallJoins
import Derived.Deep.Grids
namespace Go.Proofs.Ytkpginkkfobblaa
open Go.Joins Go.ChangeShapes Go.WideShapes Go.ChangeAt Go.RowKit
set_option linter.unusedVariables false

theorem range_bn (B : Nat → Bool) (n i : Nat) (h : i < n) : bn ((List.range n).map B) i = B i := by
  unfold bn
  simp [List.getD, List.getElem?_map, List.getElem?_range h]
theorem bs_open {H : Type} {enc : TypeId × Value → H} {W : World} {base : Nat} {held : Bool} {fuel : Nat} {v : Value} {x : DataW H × List MemPlace}
    (h : DataW.trod enc Try.prog W base (fun _ => true) held fuel 23 [v] = some x) :
    ∃ a n k xs, v = .slice a n k ∧ BS W a n xs ∧ n ≤ maxLen := by
  rcases Go.Deep.open_bools Try.underlying23 Try.underlying4 (by kernel_rfl) h with ⟨hcs, _⟩ | ⟨a, len, cap, B, hcs, _, hl, hm, _, hc⟩
  · simp at hcs
    exact ⟨none, 0, 0, [], hcs, ⟨rfl, .inl rfl⟩, by unfold maxLen; omega⟩
  · simp at hcs
    refine ⟨some a, len, cap, (List.range len).map B, hcs, ⟨by simp, ?_⟩, by omega⟩
    by_cases h0 : len = 0
    · exact .inl h0
    · obtain ⟨b, off, spot⟩ := a
      have hc0 := hc 0 (by omega)
      have hspot : spot = none := by simpa [Addr.add] using World.cell?_spot hc0
      subst hspot
      refine .inr ⟨b, off, rfl, fun i hi => ?_⟩
      have := hc i (by omega)
      rw [range_bn _ _ _ hi]
      by_cases e : i = 0
      · subst e; simpa [Addr.add] using this
      · simpa [Addr.add, e] using this
theorem open_calls {H : Type} {enc : TypeId × Value → H} {W : World} {base : Nat} {held : Bool} {r : Reach} {b0 : Nat} {v : Value} {d : DataW H} {p : List MemPlace}
    (hv : Value.okWide Try.prog W r b0 41 v) (h : DataW.Trod enc Try.prog W base (fun _ => true) held 41 v d p) :
    ∃ a1 n1 k1 a2 n2 k2 a3 n3 k3 x, v = (.agg #[.slice a1 n1 k1, .slice a2 n2 k2, .slice a3 n3 k3]) ∧ Cal W a1 n1 a2 n2 a3 n3 x ∧ n1 ≤ maxLen ∧ n2 ≤ maxLen ∧ n3 ≤ maxLen := by
  obtain ⟨v0, v1, v2, y0, y1, y2, m, rfl, _, _, h0, h1, h2⟩ := open_agg3 Try.underlying41 (by kernel_rfl) (by kernel_rfl) hv h
  obtain ⟨a1, n1, k1, x1, rfl, s1, b1⟩ := bs_open h0
  obtain ⟨a2, n2, k2, x2, rfl, s2, b2⟩ := bs_open h1
  obtain ⟨a3, n3, k3, x3, rfl, s3, b3⟩ := bs_open h2
  exact ⟨a1, n1, k1, a2, n2, k2, a3, n3, k3, ⟨x1, x2, x3⟩, rfl, ⟨s1, s2, s3⟩, b1, b2, b3⟩
end Go.Proofs.Ytkpginkkfobblaa

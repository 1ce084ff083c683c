/- The library's BinarySearch, Clone, Reverse, Grow, Concat at rows of ints, as the program calls them. -/
import Derived.Test.YteeokegkbhpbcaaSh
import Derived.Test.Yteeokegkbhpbcaa10B
import Derived.Test.YteeokegkbhpbcaaVB
import Derived.Lib.AppendZerosOnto
namespace Go.Proofs.Yteeokegkbhpbcaa
open Go.RowKit
set_option linter.unusedVariables false
set_option linter.unusedSimpArgs false
set_option maxRecDepth 100000

def BsR (ys : List Int) (x : Int) (w : World) (e : Ending) (w' : World) : Prop := ∃ t, e = .returned (.tuple #[.int .i64 ((ys.countP (· < x) : Nat) : Int), .bool t]) ∧ ∃ q, w' = w.drewN q
theorem Below.tr {B : Nat} {w w1 w2 : World} (h : Below B w w1) (k : Below B w1 w2) : Below B w w2 :=
  ⟨k.os.trans h.os, k.tape.trans h.tape, k.output.trans h.output, Nat.le_trans h.size k.size, fun i hi => (k.block i hi).trans (h.block i hi)⟩
/-- An own row written over. -/
theorem own_setCells {B q cap n : Nat} : ∀ (vs p u : List Int) (w : World), u.length = vs.length → Own w B (.slice (some ⟨q, 0, none⟩) n cap) (p ++ u) →
    Own (w.setCells q p.length (vs.map (Value.int .i64))) B (.slice (some ⟨q, 0, none⟩) n cap) (p ++ vs) ∧ (∀ B', B' ≤ q → Below B' w (w.setCells q p.length (vs.map (Value.int .i64))))
  | [], p, u, w, hu, h => by
    have : u = [] := List.length_eq_zero_iff.1 hu
    subst this
    exact ⟨h, fun B' hB => Below.refl _ _⟩
  | v :: vs, p, u, w, hu, h => by
    obtain ⟨x, u, rfl⟩ : ∃ x u', u = x :: u' := by
      cases u with
      | nil => simp at hu
      | cons x u => exact ⟨_, _, rfl⟩
    have hn : (p ++ x :: u).length = n := (own_rd h).2
    have h9 := Own.stored (b := q) (cap := cap) (xs := p ++ x :: u) (by rw [hn]; exact h) p.length v
    rw [hn, show (p ++ x :: u).set p.length v = (p ++ [v]) ++ u from by simp] at h9
    have ih := own_setCells vs (p ++ [v]) u _ (by simpa using hu) h9.1
    have e : (w.setCell ⟨q, p.length, none⟩ (.int .i64 v)).setCells q (p ++ [v]).length (vs.map (Value.int .i64)) = w.setCells q p.length ((v :: vs).map (Value.int .i64)) := by
      rw [List.length_append]; rfl
    rw [e] at ih
    refine ⟨by simpa using ih.1, fun B' hB => ?_⟩
    have h2 := ih.2 B' hB
    have h3 : Below B' w (w.setCell ⟨q, p.length, none⟩ (.int .i64 v)) := ⟨rfl, rfl, rfl, by rw [World.size_setCell]; exact Nat.le_refl _, fun i hi => Below.heap_setCell _ _ _ _ (by simp; omega)⟩
    exact Below.tr h3 h2
theorem clone_c (b off n cap : Nat) (ys : List Int) (w : World) (hc : Ints w b off ys) (hl : ys.length = n) (hm : n ≤ 1048577) :
    Calls Try.prog 54 #[.slice (some ⟨b, off, none⟩) n cap] w fun e w' => ∃ v, e = .returned v ∧ Own w' w.heap.size v ys ∧ v ≠ .slice none 0 0 ∧ Below w.heap.size w w' := by
  subst hl
  have h := Try.slices_Clone_int b off ys.length cap ys w (Nat.le_refl _) (by omega) hc
  rw [List.take_length] at h
  exact h
end Go.Proofs.Yteeokegkbhpbcaa

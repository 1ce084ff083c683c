/- The contracts of chapter 2's small functions, impl and spec. -/
import Derived.Test.YteeokegkbhpbcaaA
import Derived.Test.Yteeokegkbhpbcaa2P
namespace Go.Proofs.Yteeokegkbhpbcaa
open Go.RowKit
set_option linter.unusedVariables false
set_option linter.unusedSimpArgs false

/-- A call that makes memory of its own: it returns v, and nothing that was there has changed. -/
def Mk (w : World) (v : Value) (e : Ending) (w' : World) : Prop := e = .returned v ∧ Below w.heap.size w w'
theorem Mk.b {w w' : World} {b b' : Bool} (h : b = b') (hb : Below w.heap.size w w') : Mk w (.bool b) (.returned (.bool b')) w' := ⟨by rw [h], hb⟩
theorem Mk.i {w w' : World} {b b' : Int} (h : b = b') (hb : Below w.heap.size w w') : Mk w (.int .i64 b) (.returned (.int .i64 b')) w' := ⟨by rw [h], hb⟩
theorem bcell {W w1 : World} (hb : Below W.heap.size W w1) : (∀ b o, b < W.heap.size → w1.cell? ⟨b, o, none⟩ = W.cell? ⟨b, o, none⟩) ∧ (∀ b o, b < W.heap.size → w1.frozen? ⟨b, o, none⟩ = W.frozen? ⟨b, o, none⟩) :=
  ⟨fun b o h => hb.cell (p := ⟨b, o, none⟩) h, fun b o h => hb.frozen (p := ⟨b, o, none⟩) h⟩

theorem sgn_ee {x y : Int} (h1 : ¬ x < y) (h2 : ¬ y < x) : sgn x y = 0 := by unfold sgn; rw [if_neg h1, if_neg h2]
/-- A call that only computes. -/
def St (w : World) (v : Value) (e : Ending) (w' : World) : Prop := e = .returned v ∧ w' = w
theorem St.ro {P : Program} {f : FuncId} {args : Array Value} {w : World} {v : Value} (h : Calls P f args w (St w v)) : Calls P f args w (Ro w v) := h.mono fun _ _ ⟨he, hw⟩ => ⟨he, 0, hw⟩
theorem St.i {w : World} {b b' : Int} (h : b = b') : St w (.int .i64 b) (.returned (.int .i64 b')) w := ⟨by rw [h], rfl⟩
theorem isNaN_c (n : Int) (w : World) : Calls Try.prog 77 #[.int .i64 n] w (St w (.bool false)) := by
  have h : (n != n) = false := by simp
  go_enter Try.func77, Try.ntmps77
  go_wp2
  go_ret
  exact ⟨rfl, rfl⟩
theorem bw_pos {s : Int} (h : -5 ≤ s ∧ s ≤ 5) : bw s = if s < 0 then -(-s * (-s - 1) / 2) else s * (s - 1) / 2 := by
  rcases sp_cases h with e | e | e | e | e | e | e | e | e | e | e <;> subst e <;> decide
theorem bw_neg (s : Int) : bw (-s) = -bw s := by
  by_cases h : -5 ≤ s ∧ s ≤ 5
  · rcases sp_cases h with e | e | e | e | e | e | e | e | e | e | e <;> subst e <;> decide
  · rw [bw_bad h, bw_bad (by omega)]; rfl
end Go.Proofs.Yteeokegkbhpbcaa

/- The model's VisitsOk, TourWay. -/
import Derived.Test.YteeokegkbhpbcaaD
import Derived.Test.YteeokegkbhpbcaaI
import Derived.Test.Yteeokegkbhpbcaa10P
namespace Go.Proofs.Yteeokegkbhpbcaa
open Go.RowKit
set_option linter.unusedVariables false
set_option linter.unusedSimpArgs false
set_option maxRecDepth 100000

theorem Sl.at {w : World} {a : Option Addr} {ys : List Int} (h : Sl w a ys) {k : Nat} (hk : k < ys.length) : ∃ b off, a = some ⟨b, off, none⟩ ∧ Ints w b off ys := by
  rcases h with rfl | h
  · simp at hk
  · exact h
theorem Sl.cell {w : World} {b o : Nat} {ys : List Int} (h : Sl w (some ⟨b, o, none⟩) ys) {k : Nat} (hk : k < ys.length) : w.cell? ⟨b, o + k, none⟩ = some (.int .i64 (nth ys k)) := by
  obtain ⟨b', o', e, hI⟩ := Sl.at h hk
  simp only [Option.some.injEq, Addr.mk.injEq, and_true] at e
  obtain ⟨rfl, rfl⟩ := e
  exact hI k hk
end Go.Proofs.Yteeokegkbhpbcaa

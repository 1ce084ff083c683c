/- The exact laws of chapter 3: the walks. -/
import Derived.Test.Ytcecmikmmggngaa3C
import Derived.Test.YtcecmikmmggngaaH
namespace Go.Proofs.Ytcecmikmmggngaa
open Go.RowKit
set_option linter.unusedVariables false

theorem toDoor_c (a s : Int) (w : World) : Calls Try.prog 54 #[(Value.agg #[.int .i64 (a), .int .i64 (s)])] w (Mk w (Value.agg #[.int .i64 (a), .int .i64 (s)])) := by
  go_enter Try.func54, Try.ntmps54
  go_wp2_with fail
  exact bodyPost_ret (v := (Value.agg #[.int .i64 (a), .int .i64 (s)])) (by simp [results, Try.results54, go_sem]) rfl (Mk.g rfl rfl (by repeat (first | exact Below.refl _ _ | refine Below.al ?_ _ | refine Below.dr ?_ _ | refine Below.dw ?_ | refine Below.st ?_ (by first | exact Nat.le_refl _ | exact Nat.le_add_right _ _ | (simp; omega)) _ | (refine below_next ?_ (by assumption)))))
theorem eqDoor_c (a s : Int) (w : World) : Calls Try.prog 56 #[(Value.agg #[.int .i64 (a), .int .i64 (s)]), (Value.agg #[.int .i64 (a), .int .i64 (s)])] w (Mk w (.bool true)) := by
  have t1 : (a != a) = false := by simp
  have t2 : (s != s) = false := by simp
  go_enter Try.func56, Try.ntmps56
  go_wp2_with fail
  go_ret
  exact Mk.b rfl (by repeat (first | exact Below.refl _ _ | refine Below.al ?_ _ | refine Below.dr ?_ _ | refine Below.dw ?_ | refine Below.st ?_ (by first | exact Nat.le_refl _ | exact Nat.le_add_right _ _ | (simp; omega)) _ | (refine below_next ?_ (by assumption))))

theorem Copied.sl {w' : World} {xs : List Int} {g : Nat} (h : Ints w' g 0 xs) : Sl w' (some ⟨g, 0, none⟩) xs := .inr ⟨g, 0, rfl, h⟩
end Go.Proofs.Ytcecmikmmggngaa

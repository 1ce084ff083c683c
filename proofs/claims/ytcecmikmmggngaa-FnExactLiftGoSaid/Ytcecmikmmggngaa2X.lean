/- The exact laws of chapter 2: the walks. -/
import Derived.Test.Ytcecmikmmggngaa2G
import Derived.Test.YtcecmikmmggngaaH
namespace Go.Proofs.Ytcecmikmmggngaa
open Go.RowKit
set_option linter.unusedVariables false

theorem toMotion_c (a s : Int) (w : World) : Calls Try.prog 53 #[(Value.agg #[.int .i64 (a), .int .i64 (s)])] w (Mk w (Value.agg #[.int .i64 (a), .int .i64 (s)])) := by
  go_enter Try.func53, Try.ntmps53
  go_wp2_with fail
  exact bodyPost_ret (v := (Value.agg #[.int .i64 (a), .int .i64 (s)])) (by simp [results, Try.results53, go_sem]) rfl (Mk.g rfl rfl (by repeat (first | exact Below.refl _ _ | refine Below.al ?_ _ | refine Below.dr ?_ _ | refine Below.dw ?_ | refine Below.st ?_ (by first | exact Nat.le_refl _ | exact Nat.le_add_right _ _ | (simp; omega)) _ | (refine below_next ?_ (by assumption)))))
theorem eqMotion_c (a s : Int) (w : World) : Calls Try.prog 55 #[(Value.agg #[.int .i64 (a), .int .i64 (s)]), (Value.agg #[.int .i64 (a), .int .i64 (s)])] w (Mk w (.bool true)) := by
  have t1 : (a != a) = false := by simp
  have t2 : (s != s) = false := by simp
  go_enter Try.func55, Try.ntmps55
  go_wp2_with fail
  go_ret
  exact Mk.b rfl (by repeat (first | exact Below.refl _ _ | refine Below.al ?_ _ | refine Below.dr ?_ _ | refine Below.dw ?_ | refine Below.st ?_ (by first | exact Nat.le_refl _ | exact Nat.le_add_right _ _ | (simp; omega)) _ | (refine below_next ?_ (by assumption))))

end Go.Proofs.Ytcecmikmmggngaa

/- The exact laws of chapter 2: the walks. -/
import Derived.Test.Ytpfllhiibkdfaaa2G
import Derived.Test.YtpfllhiibkdfaaaH
namespace Go.Proofs.Ytpfllhiibkdfaaa
open Go.RowKit
set_option linter.unusedVariables false

theorem toMotion_c (a s : Int) (w : World) : Calls Try.prog 27 #[(Value.agg #[.int .i64 (a), .int .i64 (s)])] w (Mk w (Value.agg #[.int .i64 (a), .int .i64 (s)])) := by
  go_enter Try.func27, Try.ntmps27
  go_wp2_with fail
  exact bodyPost_ret (v := (Value.agg #[.int .i64 (a), .int .i64 (s)])) (by simp [results, Try.results27, go_sem]) rfl (Mk.g rfl rfl (by repeat (first | exact Below.refl _ _ | refine Below.al ?_ _ | refine Below.dr ?_ _ | refine Below.dw ?_ | refine Below.st ?_ (by first | exact Nat.le_refl _ | exact Nat.le_add_right _ _ | (simp; omega)) _ | (refine below_next ?_ (by assumption)))))
end Go.Proofs.Ytpfllhiibkdfaaa

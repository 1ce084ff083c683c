/- The contract of MotionTicks, impl. -/
import Derived.Test.Ytpfllhiibkdfaaa2F
namespace Go.Proofs.Ytpfllhiibkdfaaa
open Go.RowKit
set_option linter.unusedVariables false

end Go.Proofs.Ytpfllhiibkdfaaa

/- The contracts of FloorNear and FloorWay of the model. -/
import Derived.Test.YtpfllhiibkdfaaaC
namespace Go.Proofs.Ytpfllhiibkdfaaa
open Go.RowKit
set_option linter.unusedVariables false

end Go.Proofs.Ytpfllhiibkdfaaa

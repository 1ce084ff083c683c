/- The contracts of FloorNear and FloorWay of the model. -/
import Derived.Test.YtcecmikmmggngaaC
namespace Go.Proofs.Ytcecmikmmggngaa
open Go.RowKit
set_option linter.unusedVariables false

end Go.Proofs.Ytcecmikmmggngaa

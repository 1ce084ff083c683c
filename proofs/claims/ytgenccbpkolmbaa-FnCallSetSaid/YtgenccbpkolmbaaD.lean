/- The contracts of FloorNear and FloorWay of the model. -/
import Derived.Test.YtgenccbpkolmbaaC
namespace Go.Proofs.Ytgenccbpkolmbaa
open Go.RowKit
set_option linter.unusedVariables false

end Go.Proofs.Ytgenccbpkolmbaa

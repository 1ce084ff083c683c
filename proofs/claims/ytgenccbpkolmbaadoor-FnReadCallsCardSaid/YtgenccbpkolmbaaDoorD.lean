/- The contracts of FloorNear and FloorWay of the model. -/
import Derived.Test.YtgenccbpkolmbaaDoorC
namespace Go.Proofs.YtgenccbpkolmbaaDoor
open Go.RowKit
set_option linter.unusedVariables false

end Go.Proofs.YtgenccbpkolmbaaDoor

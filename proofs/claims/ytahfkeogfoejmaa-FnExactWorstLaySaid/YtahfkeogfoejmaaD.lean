/- The contracts of FloorNear and FloorWay of the model. -/
import Derived.Test.YtahfkeogfoejmaaC
namespace Go.Proofs.Ytahfkeogfoejmaa
open Go.RowKit
set_option linter.unusedVariables false

end Go.Proofs.Ytahfkeogfoejmaa

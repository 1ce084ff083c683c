/- The contracts of FloorNear and FloorWay of the model. -/
import Derived.Test.YtolojhbnmfpjaaaC
namespace Go.Proofs.Ytolojhbnmfpjaaa
open Go.RowKit
set_option linter.unusedVariables false

end Go.Proofs.Ytolojhbnmfpjaaa

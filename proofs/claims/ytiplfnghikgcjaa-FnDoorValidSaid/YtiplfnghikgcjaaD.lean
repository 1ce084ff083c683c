/- The contracts of FloorNear and FloorWay of the model. -/
import Derived.Test.YtiplfnghikgcjaaC
namespace Go.Proofs.Ytiplfnghikgcjaa
open Go.RowKit
set_option linter.unusedVariables false

end Go.Proofs.Ytiplfnghikgcjaa

/- The contracts of FloorNear and FloorWay of the model. -/
import Derived.Test.YteeokegkbhpbcaaC
namespace Go.Proofs.Yteeokegkbhpbcaa
open Go.RowKit
set_option linter.unusedVariables false
set_option linter.unusedSimpArgs false

end Go.Proofs.Yteeokegkbhpbcaa

/- The contracts of FloorNear and FloorWay of the model. -/
import Derived.Test.YtkpginkkfobblaaC
namespace Go.Proofs.Ytkpginkkfobblaa
open Go.RowKit
set_option linter.unusedVariables false

end Go.Proofs.Ytkpginkkfobblaa

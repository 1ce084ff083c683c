/- The program's five contracts of chapter 13. -/
import Derived.Test.Yteeokegkbhpbcaa13MI
import Derived.Test.Yteeokegkbhpbcaa13IJ
namespace Go.Proofs.Yteeokegkbhpbcaa
open Go.RowKit
end Go.Proofs.Yteeokegkbhpbcaa

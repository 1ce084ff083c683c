/- The model's GroupLongest. -/
import Derived.Test.Yteeokegkbhpbcaa12A
import Derived.Test.YteeokegkbhpbcaaQ
namespace Go.Proofs.Yteeokegkbhpbcaa
open Go.RowKit
set_option linter.unusedVariables false
set_option linter.unusedSimpArgs false
set_option maxRecDepth 100000

/-- A group, and a list that tells a car for each call. -/
def Gv (xs cs ks gs : List Int) : Prop := GOk xs cs ks ∧ GvOk cs.length ks.length gs
noncomputable def glv (xs cs ks gs : List Int) : Int := @ite _ (Gv xs cs ks gs) (Classical.propDecidable _) (lng xs cs ks gs ks.length) (-1)
theorem glv_t {xs cs ks gs : List Int} (h : Gv xs cs ks gs) : glv xs cs ks gs = lng xs cs ks gs ks.length := by unfold glv; rw [if_pos h]
theorem glv_f {xs cs ks gs : List Int} (h : ¬ Gv xs cs ks gs) : glv xs cs ks gs = -1 := by unfold glv; rw [if_neg h]
noncomputable def gsv (xs cs ks gs : List Int) : Int := @ite _ (Gv xs cs ks gs) (Classical.propDecidable _) (gsum xs cs ks gs) (-1)
theorem gsv_t {xs cs ks gs : List Int} (h : Gv xs cs ks gs) : gsv xs cs ks gs = gsum xs cs ks gs := by unfold gsv; rw [if_pos h]
theorem gsv_f {xs cs ks gs : List Int} (h : ¬ Gv xs cs ks gs) : gsv xs cs ks gs = -1 := by unfold gsv; rw [if_neg h]
end Go.Proofs.Yteeokegkbhpbcaa

/- A world in which the library's tables are laid. -/
import Derived.Test.YtgenccbpkolmbaaDoor8RN
import Derived.Test.YtgenccbpkolmbaaDoorRows
import Derived.LaidLaws
import Derived.Lib.LaidU8
import Derived.ProofKit
namespace Go.Proofs.YtgenccbpkolmbaaDoor
open Go Go.RowKit
set_option linter.unusedVariables false

noncomputable def laidWorld (os : Os) : World :=
  let w0 := World.holding Tryd.prog os ⟨#[], #[], []⟩
  let put (h : Array Obj) (g : Nat) (cs : Array Value) : Array Obj := h.modify g fun
    | .cells _ t frozen => .cells cs t frozen
    | o => o
  let h1 := put w0.heap 1 (Lib.firstTab.map fun z => Value.int .u8 z).toArray
  let h2 := put h1 2 ((List.range 16).flatMap fun i => [Value.int .u8 (Lib.accLo i), Value.int .u8 (Lib.accHi i)]).toArray
  { w0 with heap := h2 }
theorem laid_met (os : Os) (args : Array Value) : laidMet Tryd.prog Rows.fnExactReadCallsRow.laid ((laidWorld os).forCall (fun _ _ => 0) ⟨#[], args, []⟩).memory :=
  laidMet_of_run' 10 (by kernel_rfl) (by kernel_rfl)
end Go.Proofs.YtgenccbpkolmbaaDoor

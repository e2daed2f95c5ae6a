import Derived.Test.YtbgajdbpdhipiaaRows
import Derived.ProofKit
set_option linter.unusedVariables false
set_option linter.unusedSimpArgs false
namespace Go.Proofs.Ytbgajdbpdhipiaa
open Go.ChangeShapes Go.WideShapes Go.ChangeAt Go.RowKit
set_option maxHeartbeats 0 in
theorem Q07 : Try.pinned.checked.prog.mayEnter = true := by kernel_rfl
set_option maxHeartbeats 0 in
theorem Q08 : Try.pinned.checked.prog.liftsFinal = false := by kernel_rfl
set_option maxHeartbeats 0 in
theorem Qwg : laidOutB Try.pinned.checked.prog = true := by kernel_rfl
end Go.Proofs.Ytbgajdbpdhipiaa

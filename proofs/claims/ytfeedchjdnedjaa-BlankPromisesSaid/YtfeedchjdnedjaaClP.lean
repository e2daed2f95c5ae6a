import Derived.Test.YtfeedchjdnedjaaRows
import Derived.ProofKit
set_option linter.unusedVariables false
set_option linter.unusedSimpArgs false
namespace Go.Proofs.Ytfeedchjdnedjaa
open Go.ChangeShapes Go.WideShapes Go.ChangeAt Go.RowKit
set_option maxHeartbeats 0 in
theorem Qxq : Try.pinned.checked.prog.mayEnter = true := by kernel_rfl
set_option maxHeartbeats 0 in
theorem Qxr : Try.pinned.checked.prog.liftsFinal = false := by kernel_rfl
set_option maxHeartbeats 0 in
theorem Qpx : laidOutB Try.pinned.checked.prog = true := by kernel_rfl
end Go.Proofs.Ytfeedchjdnedjaa

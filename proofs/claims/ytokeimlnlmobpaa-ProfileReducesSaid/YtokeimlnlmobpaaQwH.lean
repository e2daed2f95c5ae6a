/- The first call of every law of the chapter gives true: reckoned by the evaluator. -/
import Derived.Test.YtokeimlnlmobpaaQw
import Derived.Test.YtokeimlnlmobpaaEv29
import Derived.KernelRfl
set_option linter.unusedVariables false
set_option linter.unusedSimpArgs false
namespace Go.Proofs.Ytokeimlnlmobpaa
open Go.RowKit

set_option maxHeartbeats 0 in
theorem ev_mixed : Try.prog.follows .mixedOrders = true := by kernel_rfl
set_option maxHeartbeats 0 in
theorem ev_named : Ev.namedB Try.prog = true := by kernel_rfl
set_option maxHeartbeats 0 in
theorem ev_awake : Ev.evTrue Try.prog 10000 21 = true := by kernel_rfl
theorem awake_holds : Awake := fun w => Ev.evTrue_calls ev_mixed (Ev.named_of ev_named) ev_awake w

end Go.Proofs.Ytokeimlnlmobpaa

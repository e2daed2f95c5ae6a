import Derived.Test.YtmaegladkjcmdaaVv22
import Derived.Test.YtmaegladkjcmdaaProg
import Derived.KernelRfl
set_option linter.unusedVariables false
set_option linter.unusedSimpArgs false
namespace Go.Proofs.Ytmaegladkjcmdaa.Vg
open Go Go.Proofs.Ytmaegladkjcmdaa.Ev Go.Proofs.Ytmaegladkjcmdaa.Vv
set_option maxHeartbeats 0 in
theorem pm : Try.prog.follows .mixedOrders = true := by kernel_rfl
set_option maxHeartbeats 0 in
theorem pn0 : Ev.Qw7 Try.prog = true := by kernel_rfl
theorem pn : Named Try.prog := Ev.Qv0 pn0
end Go.Proofs.Ytmaegladkjcmdaa.Vg

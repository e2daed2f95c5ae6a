import Derived.Test.YtclgijochagpdaaVv22
import Derived.Test.YtclgijochagpdaaProg
import Derived.KernelRfl
set_option linter.unusedVariables false
set_option linter.unusedSimpArgs false
namespace Go.Proofs.Ytclgijochagpdaa.Vg
open Go Go.Proofs.Ytclgijochagpdaa.Ev Go.Proofs.Ytclgijochagpdaa.Vv
set_option maxHeartbeats 0 in
theorem pm : Try.prog.follows .mixedOrders = true := by kernel_rfl
set_option maxHeartbeats 0 in
theorem pn0 : Ev.namedB Try.prog = true := by kernel_rfl
theorem pn : Named Try.prog := Ev.named_of pn0
end Go.Proofs.Ytclgijochagpdaa.Vg

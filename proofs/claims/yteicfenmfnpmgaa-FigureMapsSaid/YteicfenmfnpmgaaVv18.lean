/- A calculus of calls over values that are trees. Part 18: the program of this seat. -/
import Derived.Test.YteicfenmfnpmgaaVv17
import Derived.Test.YteicfenmfnpmgaaVe
import Derived.Test.YteicfenmfnpmgaaProg
import Derived.KernelRfl
set_option linter.unusedVariables false
set_option linter.unusedSimpArgs false
namespace Go.Proofs.Yteicfenmfnpmgaa.Vg
open Go Go.Proofs.Yteicfenmfnpmgaa.Ev Go.Proofs.Yteicfenmfnpmgaa.Vv
set_option maxHeartbeats 0 in
theorem pm : Go.Proofs.Try.prog.follows .mixedOrders = true := by kernel_rfl
set_option maxHeartbeats 0 in
theorem pn0 : Ev.namedB Go.Proofs.Try.prog = true := by kernel_rfl
theorem pn : Named Go.Proofs.Try.prog := Ev.named_of pn0
end Go.Proofs.Yteicfenmfnpmgaa.Vg

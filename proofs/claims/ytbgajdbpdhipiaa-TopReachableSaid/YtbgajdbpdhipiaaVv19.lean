import Derived.Test.YtbgajdbpdhipiaaVv22
import Derived.Test.YtbgajdbpdhipiaaProg
import Derived.KernelRfl
set_option linter.unusedVariables false
set_option linter.unusedSimpArgs false
namespace Go.Proofs.Ytbgajdbpdhipiaa.Vg
open Go Go.Proofs.Ytbgajdbpdhipiaa.Ev Go.Proofs.Ytbgajdbpdhipiaa.Vv
set_option maxHeartbeats 0 in
theorem pm : Try.prog.follows .mixedOrders = true := by kernel_rfl
set_option maxHeartbeats 0 in
theorem pn0 : Ev.Qz9 Try.prog = true := by kernel_rfl
theorem pn : Named Try.prog := Ev.Qy4 pn0
end Go.Proofs.Ytbgajdbpdhipiaa.Vg
namespace Go.Proofs.Ytbgajdbpdhipiaa.Vg
open Go Go.Proofs.Ytbgajdbpdhipiaa.Ev Go.Proofs.Ytbgajdbpdhipiaa.Vv
theorem Quq {P : Program} {n : Nat} {f : FuncId} (hm : P.follows .mixedOrders = true) (hn : Named P) (h : Qwd P n f = true) (hb : ∃ fn c, P.funcs[f]? = some fn /\ fn.body = some c) : VC P f [] (vb true) := by
 refine ⟨hb, fun w m args' hM hargs => ?_⟩
 obtain rfl : args' = [] := by have := hargs.1; simpa using this.symm
 refine (Qpu hm hn h w).mono ?_
 rintro e w' ⟨rfl, hb⟩
 exact ⟨_, m, rfl, hb, .refl m, fun b ob hh => by rw [hb.block b (hM.lt hh)]; exact hM b ob hh, fun b ob hh => .inl hh, .t (.c rfl)⟩
set_option maxHeartbeats 0 in
theorem Qy6 : Ev.Qwd Try.prog 20000 5 = true := by kernel_rfl
theorem Qy5 : VC Try.prog 5 [] (vb true) := Quq pm pn Qy6 ⟨_, _, Try.func5, rfl⟩
end Go.Proofs.Ytbgajdbpdhipiaa.Vg

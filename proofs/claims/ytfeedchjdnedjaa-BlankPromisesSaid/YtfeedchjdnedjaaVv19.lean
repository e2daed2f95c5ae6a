import Derived.Test.YtfeedchjdnedjaaVv22
import Derived.Test.YtfeedchjdnedjaaProg
import Derived.KernelRfl
set_option linter.unusedVariables false
set_option linter.unusedSimpArgs false
namespace Go.Proofs.Ytfeedchjdnedjaa.Vg
open Go Go.Proofs.Ytfeedchjdnedjaa.Ev Go.Proofs.Ytfeedchjdnedjaa.Vv
set_option maxHeartbeats 0 in
theorem pm : Try.prog.follows .mixedOrders = true := by kernel_rfl
set_option maxHeartbeats 0 in
theorem pn0 : Ev.Qv6 Try.prog = true := by kernel_rfl
theorem pn : Named Try.prog := Ev.Qux pn0
end Go.Proofs.Ytfeedchjdnedjaa.Vg
namespace Go.Proofs.Ytfeedchjdnedjaa.Vg
open Go Go.Proofs.Ytfeedchjdnedjaa.Ev Go.Proofs.Ytfeedchjdnedjaa.Vv
theorem Qrd {P : Program} {n : Nat} {f : FuncId} (hm : P.follows .mixedOrders = true) (hn : Named P) (h : Qsj P n f = true) (hb : ∃ fn c, P.funcs[f]? = some fn /\ fn.body = some c) : VC P f [] (vb true) := by
 refine ⟨hb, fun w m args' hM hargs => ?_⟩
 obtain rfl : args' = [] := by have := hargs.1; simpa using this.symm
 refine (Qmm hm hn h w).mono ?_
 rintro e w' ⟨rfl, hb⟩
 exact ⟨_, m, rfl, hb, .refl m, fun b ob hh => by rw [hb.block b (hM.lt hh)]; exact hM b ob hh, fun b ob hh => .inl hh, .t (.c rfl)⟩
set_option maxHeartbeats 0 in
theorem Qvg : Ev.Qsj Try.prog 20000 4 = true := by kernel_rfl
theorem Qvh : VC Try.prog 4 [] (vb true) := Qrd pm pn Qvg ⟨_, _, Try.func4, rfl⟩
end Go.Proofs.Ytfeedchjdnedjaa.Vg

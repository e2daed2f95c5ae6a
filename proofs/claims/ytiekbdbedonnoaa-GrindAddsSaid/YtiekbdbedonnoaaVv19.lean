import Derived.Test.YtiekbdbedonnoaaVv22
import Derived.Test.YtiekbdbedonnoaaProg
import Derived.KernelRfl
set_option linter.unusedVariables false
set_option linter.unusedSimpArgs false
namespace Go.Proofs.Ytiekbdbedonnoaa.Vg
open Go Go.Proofs.Ytiekbdbedonnoaa.Ev Go.Proofs.Ytiekbdbedonnoaa.Vv
set_option maxHeartbeats 0 in
theorem pm : Try.prog.follows .mixedOrders = true := by kernel_rfl
set_option maxHeartbeats 0 in
theorem pn0 : Ev.Qyv Try.prog = true := by kernel_rfl
theorem pn : Named Try.prog := Ev.Qxk pn0
end Go.Proofs.Ytiekbdbedonnoaa.Vg
namespace Go.Proofs.Ytiekbdbedonnoaa.Vg
open Go Go.Proofs.Ytiekbdbedonnoaa.Ev Go.Proofs.Ytiekbdbedonnoaa.Vv
theorem Qtt {P : Program} {n : Nat} {f : FuncId} (hm : P.follows .mixedOrders = true) (hn : Named P) (h : Qul P n f = true) (hb : ∃ fn c, P.funcs[f]? = some fn /\ fn.body = some c) : VC P f [] (vb true) := by
 refine ⟨hb, fun w m args' hM hargs => ?_⟩
 obtain rfl : args' = [] := by have := hargs.1; simpa using this.symm
 refine (Qjt hm hn h w).mono ?_
 rintro e w' ⟨rfl, hb⟩
 exact ⟨_, m, rfl, hb, .refl m, fun b ob hh => by rw [hb.block b (hM.lt hh)]; exact hM b ob hh, fun b ob hh => .inl hh, .t (.c rfl)⟩
set_option maxHeartbeats 0 in
theorem Qx2 : Ev.Qul Try.prog 20000 5 = true := by kernel_rfl
theorem Qxj : VC Try.prog 5 [] (vb true) := Qtt pm pn Qx2 ⟨_, _, Try.func5, rfl⟩
end Go.Proofs.Ytiekbdbedonnoaa.Vg

import Derived.Test.YtgoohnencoipoaaVv22
import Derived.Test.YtgoohnencoipoaaProg
import Derived.KernelRfl
set_option linter.unusedVariables false
set_option linter.unusedSimpArgs false
namespace Go.Proofs.Ytgoohnencoipoaa.Vg
open Go Go.Proofs.Ytgoohnencoipoaa.Ev Go.Proofs.Ytgoohnencoipoaa.Vv
set_option maxHeartbeats 0 in
theorem pm : Try.prog.follows .mixedOrders = true := by kernel_rfl
set_option maxHeartbeats 0 in
theorem pn0 : Ev.Quu Try.prog = true := by kernel_rfl
theorem pn : Named Try.prog := Ev.Qua pn0
end Go.Proofs.Ytgoohnencoipoaa.Vg
namespace Go.Proofs.Ytgoohnencoipoaa.Vg
open Go Go.Proofs.Ytgoohnencoipoaa.Ev Go.Proofs.Ytgoohnencoipoaa.Vv
theorem Qqt {P : Program} {n : Nat} {f : FuncId} (hm : P.follows .mixedOrders = true) (hn : Named P) (h : Qr7 P n f = true) (hb : ∃ fn c, P.funcs[f]? = some fn /\ fn.body = some c) : VC P f [] (vb true) := by
 refine ⟨hb, fun w m args' hM hargs => ?_⟩
 obtain rfl : args' = [] := by have := hargs.1; simpa using this.symm
 refine (Qm6 hm hn h w).mono ?_
 rintro e w' ⟨rfl, hb⟩
 exact ⟨_, m, rfl, hb, .refl m, fun b ob hh => by rw [hb.block b (hM.lt hh)]; exact hM b ob hh, fun b ob hh => .inl hh, .t (.c rfl)⟩
set_option maxHeartbeats 0 in
theorem Que : Ev.Qr7 Try.prog 20000 4 = true := by kernel_rfl
theorem Qt9 : VC Try.prog 4 [] (vb true) := Qqt pm pn Que ⟨_, _, Try.func4, rfl⟩
end Go.Proofs.Ytgoohnencoipoaa.Vg

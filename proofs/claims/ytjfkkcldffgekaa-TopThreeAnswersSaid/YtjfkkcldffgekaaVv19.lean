import Derived.Test.YtjfkkcldffgekaaVv22
import Derived.Test.YtjfkkcldffgekaaProg
import Derived.KernelRfl
set_option linter.unusedVariables false
set_option linter.unusedSimpArgs false
namespace Go.Proofs.Ytjfkkcldffgekaa.Vg
open Go Go.Proofs.Ytjfkkcldffgekaa.Ev Go.Proofs.Ytjfkkcldffgekaa.Vv
set_option maxHeartbeats 0 in
theorem pm : Try.prog.follows .mixedOrders = true := by kernel_rfl
set_option maxHeartbeats 0 in
theorem pn0 : Ev.Qyk Try.prog = true := by kernel_rfl
theorem pn : Named Try.prog := Ev.Qxm pn0
end Go.Proofs.Ytjfkkcldffgekaa.Vg
namespace Go.Proofs.Ytjfkkcldffgekaa.Vg
open Go Go.Proofs.Ytjfkkcldffgekaa.Ev Go.Proofs.Ytjfkkcldffgekaa.Vv
theorem Qs4 {P : Program} {n : Nat} {f : FuncId} (hm : P.follows .mixedOrders = true) (hn : Named P) (h : Qvw P n f = true) (hb : ∃ fn c, P.funcs[f]? = some fn /\ fn.body = some c) : VC P f [] (vb true) := by
 refine ⟨hb, fun w m args' hM hargs => ?_⟩
 obtain rfl : args' = [] := by have := hargs.1; simpa using this.symm
 refine (Qji hm hn h w).mono ?_
 rintro e w' ⟨rfl, hb⟩
 exact ⟨_, m, rfl, hb, .refl m, fun b ob hh => by rw [hb.block b (hM.lt hh)]; exact hM b ob hh, fun b ob hh => .inl hh, .t (.c rfl)⟩
set_option maxHeartbeats 0 in
theorem Qxn : Ev.Qvw Try.prog 20000 5 = true := by kernel_rfl
theorem Qxe : VC Try.prog 5 [] (vb true) := Qs4 pm pn Qxn ⟨_, _, Try.func5, rfl⟩
end Go.Proofs.Ytjfkkcldffgekaa.Vg

import Derived.Test.YtjomicmhnbmhoaaVv22
import Derived.Test.YtjomicmhnbmhoaaProg
import Derived.KernelRfl
set_option linter.unusedVariables false
set_option linter.unusedSimpArgs false
namespace Go.Proofs.Ytjomicmhnbmhoaa.Vg
open Go Go.Proofs.Ytjomicmhnbmhoaa.Ev Go.Proofs.Ytjomicmhnbmhoaa.Vv
set_option maxHeartbeats 0 in
theorem pm : Try.prog.follows .mixedOrders = true := by kernel_rfl
set_option maxHeartbeats 0 in
theorem pn0 : Ev.Qyf Try.prog = true := by kernel_rfl
theorem pn : Named Try.prog := Ev.Qw2 pn0
end Go.Proofs.Ytjomicmhnbmhoaa.Vg
namespace Go.Proofs.Ytjomicmhnbmhoaa.Vg
open Go Go.Proofs.Ytjomicmhnbmhoaa.Ev Go.Proofs.Ytjomicmhnbmhoaa.Vv
theorem Qsz {P : Program} {n : Nat} {f : FuncId} (hm : P.follows .mixedOrders = true) (hn : Named P) (h : Que P n f = true) (hb : ∃ fn c, P.funcs[f]? = some fn /\ fn.body = some c) : VC P f [] (vb true) := by
 refine ⟨hb, fun w m args' hM hargs => ?_⟩
 obtain rfl : args' = [] := by have := hargs.1; simpa using this.symm
 refine (Qnv hm hn h w).mono ?_
 rintro e w' ⟨rfl, hb⟩
 exact ⟨_, m, rfl, hb, .refl m, fun b ob hh => by rw [hb.block b (hM.lt hh)]; exact hM b ob hh, fun b ob hh => .inl hh, .t (.c rfl)⟩
set_option maxHeartbeats 0 in
theorem Qw3 : Ev.Que Try.prog 20000 5 = true := by kernel_rfl
theorem Qw4 : VC Try.prog 5 [] (vb true) := Qsz pm pn Qw3 ⟨_, _, Try.func5, rfl⟩
end Go.Proofs.Ytjomicmhnbmhoaa.Vg

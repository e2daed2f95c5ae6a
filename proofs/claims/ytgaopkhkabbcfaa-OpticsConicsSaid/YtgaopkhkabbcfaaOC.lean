/- Written by a program out of the program: what Go functions do, as plain functions, and their contracts. -/
import Derived.Test.YtgaopkhkabbcfaaO2
namespace Go.Proofs.Ytgaopkhkabbcfaa.Vg
set_option maxRecDepth 100000
set_option maxHeartbeats 4000000
set_option linter.unusedVariables false
set_option linter.unusedSimpArgs false
open Go Go.Proofs.Ytgaopkhkabbcfaa.Ev Go.Proofs.Ytgaopkhkabbcfaa.Vv
def nspeculumlaw02_OpticsConics (k : Nat) (a0 : SConic) : Option Bool :=
  (nspeculumlaw02_awake k).bind fun r2072 => (if r2072 = true then ((noptics_Edge k a0).bind fun r2076 => ((nspeculumref02_CheckConic k a0).bind fun r2079 => ((noptics_CheckConic k a0).bind fun r2082 => (if r2082 = r2079 then (if r2079 = 0 then (if r2076.2 = 0 then ((nspeculumref02_Edge k a0).bind fun r2088 => (some (decide (r2076.1 = r2088)))) else (some false)) else (if r2076.2 = r2079 then (some (decide (r2076.1 = 0))) else (some false))) else (some false))))) else (some false))
theorem nspeculumlaw02_OpticsConics_ok (k : Nat) (a0 : SConic) (r : Bool) (h : nspeculumlaw02_OpticsConics k a0 = some r) : VC Go.Proofs.Try.prog 3 [VV.ag (c_SConic a0)] (vb r) := by
 unfold nspeculumlaw02_OpticsConics at h
 obtain ⟨r2072, h2073, h⟩ := bs h
 have e2074 := (an (nspeculumlaw02_awake_ok k _ h2073) (ti trivial))
 rcases ifs h with ⟨h2075, h⟩ | ⟨h2075, h⟩
 ·obtain ⟨r2076, h2077, h⟩ := bs h
  have e2078 := (ti (an (noptics_Edge_ok k a0 _ h2077) (ti (ti (ti (ti (ti trivial)))))))
  obtain ⟨r2079, h2080, h⟩ := bs h
  have e2081 := (nspeculumref02_CheckConic_ok k a0 _ h2080)
  obtain ⟨r2082, h2083, h⟩ := bs h
  have e2084 := (ti (an (noptics_CheckConic_ok k a0 _ h2083) (ti (ti trivial))))
  rcases ifs h with ⟨h2085, h⟩ | ⟨h2085, h⟩
  ·rcases ifs h with ⟨h2086, h⟩ | ⟨h2086, h⟩
   ·rcases ifs h with ⟨h2087, h⟩ | ⟨h2087, h⟩
    ·obtain ⟨r2088, h2089, h⟩ := bs h
     have e2090 := (an (decide_eq_true h2087) (nspeculumref02_Edge_ok k a0 _ h2089))
     have e2091 := (ti (ti (ti (an (an (decide_eq_true h2087) trivial) (an (an (decide_eq_true h2087) trivial) (an e2090 (an (an (decide_eq_true h2087) trivial) (an (decide_eq_true h2087) (ti trivial)))))))))
     injection h with h; subst h
     exact fun_ok pm pn Go.Proofs.Try.func3 (r0 := vb (decide (r2076.1 = r2088))) (ans := [.reg (.n :: .n :: []), .reg (.call (vb r2072) :: .n :: []), .br false, .reg (.n :: .call (VV.tu [vi r2076.1, vi r2076.2]) :: nN 5 []), .reg (.n :: .call (vi r2079) :: .n :: []), .reg (.n :: .call (vi r2082) :: .n :: .n :: []), .br false, .reg (.n :: .n :: []), .br false, .reg (nN 5 (.call (vi r2088) :: .n :: .b true :: .n :: []))]) (fr := true) (by kernel_rfl) (an (an (ti (ti trivial)) (an (an e2074 (an (not_f h2075) trivial)) (an e2078 (an (ti (an e2081 (ti trivial))) (an (an e2084 (an (not_f (decide_eq_true h2085)) trivial)) (an (an (ti (ti trivial)) (an (not_f (decide_eq_true h2086)) trivial)) (an e2091 trivial))))))) (ti trivial)) (Wv.refl _)
    ·have e2092 := (ti (ti (ti (an (decide_eq_false h2087) (an (decide_eq_false h2087) (an (decide_eq_false h2087) (an (decide_eq_false h2087) (an (decide_eq_false h2087) (ti trivial)))))))))
     injection h with h; subst h
     exact fun_ok pm pn Go.Proofs.Try.func3 (r0 := vb false) (ans := [.reg (.n :: .n :: []), .reg (.call (vb r2072) :: .n :: []), .br false, .reg (.n :: .call (VV.tu [vi r2076.1, vi r2076.2]) :: nN 5 []), .reg (.n :: .call (vi r2079) :: .n :: []), .reg (.n :: .call (vi r2082) :: .n :: .n :: []), .br false, .reg (.n :: .n :: []), .br false, .reg (nN 3 (nS 4 (.b false :: .n :: [])))]) (fr := true) (by kernel_rfl) (an (an (ti (ti trivial)) (an (an e2074 (an (not_f h2075) trivial)) (an e2078 (an (ti (an e2081 (ti trivial))) (an (an e2084 (an (not_f (decide_eq_true h2085)) trivial)) (an (an (ti (ti trivial)) (an (not_f (decide_eq_true h2086)) trivial)) (an e2092 trivial))))))) (ti trivial)) (Wv.refl _)
   ·rcases ifs h with ⟨h2093, h⟩ | ⟨h2093, h⟩
    ·have e2094 := (ti (ti (ti (ti (an (an (decide_eq_true h2093) trivial) (an (an (decide_eq_true h2093) trivial) (an (decide_eq_true h2093) (ti trivial))))))))
     injection h with h; subst h
     exact fun_ok pm pn Go.Proofs.Try.func3 (r0 := vb (decide (r2076.1 = 0))) (ans := [.reg (.n :: .n :: []), .reg (.call (vb r2072) :: .n :: []), .br false, .reg (.n :: .call (VV.tu [vi r2076.1, vi r2076.2]) :: nN 5 []), .reg (.n :: .call (vi r2079) :: .n :: []), .reg (.n :: .call (vi r2082) :: .n :: .n :: []), .br false, .reg (.n :: .n :: []), .br true, .reg (nN 6 (.b true :: .n :: []))]) (fr := true) (by kernel_rfl) (an (an (ti (ti trivial)) (an (an e2074 (an (not_f h2075) trivial)) (an e2078 (an (ti (an e2081 (ti trivial))) (an (an e2084 (an (not_f (decide_eq_true h2085)) trivial)) (an (ti (ti trivial)) (an (not_t (decide_eq_false h2086)) (an e2094 trivial)))))))) (ti trivial)) (Wv.refl _)
    ·have e2095 := (ti (ti (ti (ti (an (decide_eq_false h2093) (an (decide_eq_false h2093) (an (decide_eq_false h2093) (ti trivial))))))))
     injection h with h; subst h
     exact fun_ok pm pn Go.Proofs.Try.func3 (r0 := vb false) (ans := [.reg (.n :: .n :: []), .reg (.call (vb r2072) :: .n :: []), .br false, .reg (.n :: .call (VV.tu [vi r2076.1, vi r2076.2]) :: nN 5 []), .reg (.n :: .call (vi r2079) :: .n :: []), .reg (.n :: .call (vi r2082) :: .n :: .n :: []), .br false, .reg (.n :: .n :: []), .br true, .reg (nN 4 (.skip :: .skip :: .b false :: .n :: []))]) (fr := true) (by kernel_rfl) (an (an (ti (ti trivial)) (an (an e2074 (an (not_f h2075) trivial)) (an e2078 (an (ti (an e2081 (ti trivial))) (an (an e2084 (an (not_f (decide_eq_true h2085)) trivial)) (an (ti (ti trivial)) (an (not_t (decide_eq_false h2086)) (an e2095 trivial)))))))) (ti trivial)) (Wv.refl _)
  ·injection h with h; subst h
   exact fun_ok pm pn Go.Proofs.Try.func3 (r0 := vb false) (ans := [.reg (.n :: .n :: []), .reg (.call (vb r2072) :: .n :: []), .br false, .reg (.n :: .call (VV.tu [vi r2076.1, vi r2076.2]) :: nN 5 []), .reg (.n :: .call (vi r2079) :: .n :: []), .reg (.n :: .call (vi r2082) :: .n :: .n :: []), .br true, .reg (.n :: [])]) (fr := true) (by kernel_rfl) (an (an (ti (ti trivial)) (an (an e2074 (an (not_f h2075) trivial)) (an e2078 (an (ti (an e2081 (ti trivial))) (an e2084 (an (not_t (decide_eq_false h2085)) (an (ti trivial) trivial))))))) (ti trivial)) (Wv.refl _)
 ·injection h with h; subst h
  exact fun_ok pm pn Go.Proofs.Try.func3 (r0 := vb false) (ans := [.reg (.n :: .n :: []), .reg (.call (vb r2072) :: .n :: []), .br true, .reg (.n :: [])]) (fr := true) (by kernel_rfl) (an (an (ti (ti trivial)) (an e2074 (an (not_t (bool_f h2075)) (an (ti trivial) trivial)))) (ti trivial)) (Wv.refl _)
end Go.Proofs.Ytgaopkhkabbcfaa.Vg

/- Written by a program out of the program: what Go functions do, as plain functions, and their contracts. -/
import Derived.Test.YtlhnkehohknhbaaB4
namespace Go.Proofs.Ytlhnkehohknhbaa.Vg
set_option maxRecDepth 100000
set_option maxHeartbeats 4000000
set_option linter.unusedVariables false
set_option linter.unusedSimpArgs false
open Go Go.Proofs.Ytlhnkehohknhbaa.Ev Go.Proofs.Ytlhnkehohknhbaa.Vv
def nawake (k : Nat) : Option Bool := some true
theorem nawake_ok (k : Nat) (r : Bool) (h : nawake k = some r) : VC Go.Proofs.Try.prog 20 [] (vb r) := by
  injection h with h; subst h
  exact vc_awake
def npoint_CheckTour (k : Nat) (a0 : SSkyMount) (a1 : (List SSkyTarget)) (a2 : A23) : Option (Int × Int) :=
  (npoint_tourOf k a0 a1 a2).bind fun r2072 => (some (r2072.2.1, r2072.2.2))
theorem npoint_CheckTour_ok (k : Nat) (a0 : SSkyMount) (a1 : (List SSkyTarget)) (a2 : A23) (r : (Int × Int)) (h : npoint_CheckTour k a0 a1 a2 = some r) : VC Go.Proofs.Try.prog 65 [VV.ag [vi a0.Least, vi a0.Most, vi a0.Low, vi a0.High, vi a0.Speed, VV.tr (List.flatMap c_SSkyRow a0.Refraction) a0.Refraction.length, VV.tr (List.flatMap c_SSkyRow a0.Drift) a0.Drift.length], VV.tr (List.flatMap c_SSkyTarget a1) a1.length, VV.ag [vi a2.e0, vi a2.e1]] (VV.tu [vi r.1, vi r.2]) := by
 unfold npoint_CheckTour at h
 obtain ⟨r2072, h2073, h⟩ := bs h
 have e2074 := (show VC Go.Proofs.Try.prog 114 [VV.ag [vi a0.Least, vi a0.Most, vi a0.Low, vi a0.High, vi a0.Speed, VV.tr (List.flatMap c_SSkyRow a0.Refraction) a0.Refraction.length, VV.tr (List.flatMap c_SSkyRow a0.Drift) a0.Drift.length], VV.tr (List.flatMap c_SSkyTarget a1) a1.length, VV.ag [vi a2.e0, vi a2.e1]] (VV.tu [VV.ag [vi r2072.1.begin, VV.fr (List.flatMap c_Sstop r2072.1.stops) r2072.1.stops.length], vi r2072.2.1, vi r2072.2.2]) from (VC.weak (npoint_tourOf_ok k a0 a1 a2 _ h2073) (Wv.tuL (.cons (Wv.agL (.cons (Wv.refl _) (.cons (Wv.fw rfl rfl) .nil))) (.cons (Wv.refl _) (.cons (Wv.refl _) .nil))))))
 have e2075 := (ti (ti (ti (an e2074 (ti (ti (ti (ti (ti (ti (ti (ti trivial))))))))))))
 injection h with h; subst h
 exact fun_ok pm pn Go.Proofs.Try.func65 (r0 := VV.tu [vi r2072.2.1, vi r2072.2.2]) (ans := [.reg (nN 4 []), .reg (nN 3 (.call (VV.tu [VV.ag [vi r2072.1.begin, VV.fr (List.flatMap c_Sstop r2072.1.stops) r2072.1.stops.length], vi r2072.2.1, vi r2072.2.2]) :: nN 8 [])), .reg (nN 4 [])]) (fr := true) (by kernel_rfl) (an (an (ti (ti (ti (ti trivial)))) (an e2075 (an (ti (ti (ti (ti trivial)))) trivial))) (ti (ti trivial))) (Wv.refl _)
def nspeculumlaw09_PointTours (k : Nat) (a0 : STour) : Option Bool :=
  (nawake k).bind fun r2087 => (if r2087 = true then ((nspeculumlaw09_Short k a0).bind fun r2090 => (if r2090 = true then ((nspeculumlaw09_mount k a0.Mount).bind fun r2094 => ((nspeculumlaw09_targets k a0.Targets).bind fun r2097 => ((npoint_CheckTour k r2094 r2097 a0.At).bind fun r2100 => ((nspeculumref09_CheckTour k a0.Mount a0.Targets a0.At).bind fun r2104 => (if r2100.2 = r2104.2 then (some (decide (r2100.1 = r2104.1))) else (some false)))))) else (some true))) else (some false))
theorem nspeculumlaw09_PointTours_ok (k : Nat) (a0 : STour) (r : Bool) (h : nspeculumlaw09_PointTours k a0 = some r) : VC Go.Proofs.Try.prog 11 [VV.ag [vi a0.Mount.Least, vi a0.Mount.Most, vi a0.Mount.Low, vi a0.Mount.High, vi a0.Mount.Speed, VV.tr (List.flatMap c_SSkyRow a0.Mount.Refraction) a0.Mount.Refraction.length, VV.tr (List.flatMap c_SSkyRow a0.Mount.Drift) a0.Mount.Drift.length, VV.tr (List.flatMap c_SSkyTarget a0.Targets) a0.Targets.length, vi a0.At.e0, vi a0.At.e1]] (vb r) := by
 unfold nspeculumlaw09_PointTours at h
 obtain ⟨r2087, h2088, h⟩ := bs h
 rcases ifs h with ⟨h2089, h⟩ | ⟨h2089, h⟩
 ·obtain ⟨r2090, h2091, h⟩ := bs h
  have e2092 := (ti (an (nspeculumlaw09_Short_ok k a0 _ h2091) (ti trivial)))
  rcases ifs h with ⟨h2093, h⟩ | ⟨h2093, h⟩
  ·obtain ⟨r2094, h2095, h⟩ := bs h
   have e2096 := (nspeculumlaw09_mount_ok k a0.Mount _ h2095)
   obtain ⟨r2097, h2098, h⟩ := bs h
   have e2099 := (show VC Go.Proofs.Try.prog 66 [VV.tr (List.flatMap c_SSkyTarget a0.Targets) a0.Targets.length] (VV.fr (List.flatMap c_SSkyTarget r2097) r2097.length) from (VC.weak (nspeculumlaw09_targets_ok k a0.Targets _ h2098) (Wv.fw rfl rfl)))
   obtain ⟨r2100, h2101, h⟩ := bs h
   have e2102 := (npoint_CheckTour_ok k r2094 r2097 a0.At _ h2101)
   have e2103 := (ti (ti (an e2096 (ti (ti (an e2099 (ti (ti (an e2102 (ti (ti (ti (ti (ti trivial))))))))))))))
   obtain ⟨r2104, h2105, h⟩ := bs h
   have e2106 := (nspeculumref09_CheckTour_ok k a0.Mount a0.Targets a0.At _ h2105)
   have e2107 := (ti (ti (ti (ti (ti (ti (an e2106 (ti (ti (ti (ti (ti trivial))))))))))))
   rcases ifs h with ⟨h2108, h⟩ | ⟨h2108, h⟩
   ·have e2109 := (ti (ti (ti (ti (an (an (decide_eq_true h2108) trivial) (an (an (decide_eq_true h2108) trivial) (an (an (decide_eq_true h2108) trivial) (an (decide_eq_true h2108) (ti trivial)))))))))
    injection h with h; subst h
    exact fun_ok pm pn Go.Proofs.Try.func11 (r0 := vb (decide (r2100.1 = r2104.1))) (ans := [.reg (.n :: .n :: []), .reg (.call (vb r2087) :: .n :: []), .br false, .reg (.n :: .call (vb r2090) :: .n :: []), .br false, .reg (.n :: .n :: .call (VV.ag [vi r2094.Least, vi r2094.Most, vi r2094.Low, vi r2094.High, vi r2094.Speed, VV.fr (List.flatMap c_SSkyRow r2094.Refraction) r2094.Refraction.length, VV.fr (List.flatMap c_SSkyRow r2094.Drift) r2094.Drift.length]) :: .n :: .n :: .call (VV.fr (List.flatMap c_SSkyTarget r2097) r2097.length) :: .n :: .n :: .call (VV.tu [vi r2100.1, vi r2100.2]) :: nN 5 []), .reg (nN 6 (.call (VV.tu [vi r2104.1, vi r2104.2]) :: nN 5 [])), .reg (nN 7 (.b true :: .n :: []))]) (fr := true) (by kernel_rfl) (an (an (ti (ti trivial)) (an (an (an (nawake_ok k _ h2088) (ti trivial)) (an (not_f h2089) trivial)) (an (an e2092 (an (not_f h2093) trivial)) (an e2103 (an e2107 (an e2109 trivial)))))) (ti trivial)) (Wv.refl _)
   ·have e2110 := (ti (ti (ti (ti (an (decide_eq_false h2108) (an (decide_eq_false h2108) (an (decide_eq_false h2108) (an (decide_eq_false h2108) (ti trivial)))))))))
    injection h with h; subst h
    exact fun_ok pm pn Go.Proofs.Try.func11 (r0 := vb false) (ans := [.reg (.n :: .n :: []), .reg (.call (vb r2087) :: .n :: []), .br false, .reg (.n :: .call (vb r2090) :: .n :: []), .br false, .reg (.n :: .n :: .call (VV.ag [vi r2094.Least, vi r2094.Most, vi r2094.Low, vi r2094.High, vi r2094.Speed, VV.fr (List.flatMap c_SSkyRow r2094.Refraction) r2094.Refraction.length, VV.fr (List.flatMap c_SSkyRow r2094.Drift) r2094.Drift.length]) :: .n :: .n :: .call (VV.fr (List.flatMap c_SSkyTarget r2097) r2097.length) :: .n :: .n :: .call (VV.tu [vi r2100.1, vi r2100.2]) :: nN 5 []), .reg (nN 6 (.call (VV.tu [vi r2104.1, vi r2104.2]) :: nN 5 [])), .reg (nN 4 (nS 3 (.b false :: .n :: [])))]) (fr := true) (by kernel_rfl) (an (an (ti (ti trivial)) (an (an (an (nawake_ok k _ h2088) (ti trivial)) (an (not_f h2089) trivial)) (an (an e2092 (an (not_f h2093) trivial)) (an e2103 (an e2107 (an e2110 trivial)))))) (ti trivial)) (Wv.refl _)
  ·injection h with h; subst h
   exact fun_ok pm pn Go.Proofs.Try.func11 (r0 := vb true) (ans := [.reg (.n :: .n :: []), .reg (.call (vb r2087) :: .n :: []), .br false, .reg (.n :: .call (vb r2090) :: .n :: []), .br true, .reg (.n :: [])]) (fr := true) (by kernel_rfl) (an (an (ti (ti trivial)) (an (an (an (nawake_ok k _ h2088) (ti trivial)) (an (not_f h2089) trivial)) (an e2092 (an (not_t (bool_f h2093)) (an (ti trivial) trivial))))) (ti trivial)) (Wv.refl _)
 ·injection h with h; subst h
  exact fun_ok pm pn Go.Proofs.Try.func11 (r0 := vb false) (ans := [.reg (.n :: .n :: []), .reg (.call (vb r2087) :: .n :: []), .br true, .reg (.n :: [])]) (fr := true) (by kernel_rfl) (an (an (ti (ti trivial)) (an (an (nawake_ok k _ h2088) (ti trivial)) (an (not_t (bool_f h2089)) (an (ti trivial) trivial)))) (ti trivial)) (Wv.refl _)
end Go.Proofs.Ytlhnkehohknhbaa.Vg

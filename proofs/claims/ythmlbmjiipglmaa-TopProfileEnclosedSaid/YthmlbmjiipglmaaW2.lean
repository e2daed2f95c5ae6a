/- Written by a program out of the program: what Go functions do, as plain functions, and their contracts. -/
import Derived.Test.YthmlbmjiipglmaaW1
namespace Go.Proofs.Ythmlbmjiipglmaa.Vg
set_option maxRecDepth 100000
set_option maxHeartbeats 4000000
set_option linter.unusedVariables false
set_option linter.unusedSimpArgs false
open Go Go.Proofs.Ythmlbmjiipglmaa.Ev Go.Proofs.Ythmlbmjiipglmaa.Vv
def nawake (k : Nat) : Option Bool := some true
theorem nawake_ok (k : Nat) (r : Bool) (h : nawake k = some r) : VC Go.Proofs.Try.prog 4 [] (vb r) := by
  injection h with h; subst h
  exact vc_awake
def arW2_0 (z0 : SMeasured) (z1 : Int) : List Ans := (nN 4 (.v (vi (z0.Heights.getD z1.toNat 0)) :: nN 3 (.v (vi (z0.Heights.getD ((0 : Int)).toNat 0)) :: .n :: .n :: [])))
def arW2_1 (z0 : ((List SRange) × (List Int) × Int)) (z1 : Int) (z2 : Bool) (z3 : ((List SRange) × (List Int) × Int)) : List Ans := (nN 5 (.v (vi ((z0.1.getD z1.toNat default).Lo)) :: nN 4 (.v (vi ((z0.1.getD z1.toNat default).Hi)) :: .call (vb z2) :: nN 6 (.v (vi ((z3.1.getD z1.toNat default).Lo)) :: nN 4 (.v (vi ((z0.1.getD z1.toNat default).Lo)) :: .n :: .b false :: .n :: nS 11 (.b true :: []))))))
def arW2_2 (z0 : ((List SRange) × (List Int) × Int)) (z1 : Int) (z2 : Bool) (z3 : ((List SRange) × (List Int) × Int)) : List Ans := (nN 5 (.v (vi ((z0.1.getD z1.toNat default).Lo)) :: nN 4 (.v (vi ((z0.1.getD z1.toNat default).Hi)) :: .call (vb z2) :: nN 6 (.v (vi ((z3.1.getD z1.toNat default).Lo)) :: nN 4 (.v (vi ((z0.1.getD z1.toNat default).Lo)) :: .n :: .b false :: nN 5 (.v (vi ((z3.1.getD z1.toNat default).Hi)) :: nN 4 (.v (vi ((z0.1.getD z1.toNat default).Hi)) :: .n :: .b false :: [])))))))
def arW2_3 (z0 : ((List SRange) × (List Int) × Int)) (z1 : Int) (z2 : Bool) : List Ans := (nN 5 (.v (vi ((z0.1.getD z1.toNat default).Lo)) :: nN 4 (.v (vi ((z0.1.getD z1.toNat default).Hi)) :: .call (vb z2) :: .n :: .n :: nS 11 (.b true :: .n :: nS 11 (.b true :: [])))))
def nspeculumtop_TopProfileEnclosed_l0_0_h (a0 : SMeasured) (r2355 : ((List SRange) × (List Int) × Int)) (r2359 : ((List SRange) × (List Int) × Int)) (x16 : Int) : VS := ⟨mkA [(1, VV.pt 0 0), (7, vi (a0.Heights.length : Int)), (8, VV.fr (List.flatMap c_SRange r2355.1) r2355.1.length), (11, VV.fr (List.flatMap c_SRange r2359.1) r2359.1.length), (16, vi x16)], [some ⟨true, 1, c_SMeasured a0⟩], .nil⟩
def nspeculumtop_TopProfileEnclosed_l0_0_e0 (a0 : SMeasured) (r2355 : ((List SRange) × (List Int) × Int)) (r2359 : ((List SRange) × (List Int) × Int)) (r : Unit) : VS := ⟨mkA [(2, vb false)], [], .nil⟩
def nspeculumtop_TopProfileEnclosed_l0_0_e1 (a0 : SMeasured) (r2355 : ((List SRange) × (List Int) × Int)) (r2359 : ((List SRange) × (List Int) × Int)) (r : Unit) : VS := ⟨mkA [], [], .nil⟩
def nspeculumtop_TopProfileEnclosed_l0_0 (k : Nat) (a0 : SMeasured) (r2355 : ((List SRange) × (List Int) × Int)) (r2359 : ((List SRange) × (List Int) × Int)) : Nat → Int → Option (Sum Unit Unit)
  | 0, _ => none
  | fuel + 1, x16 => if x16 < (a0.Heights.length : Int) then (if 0 ≤ x16 ∧ x16 < (a0.Heights.length : Int) then (if (0 : Int) ≤ 0 ∧ 0 < (a0.Heights.length : Int) then (if 0 ≤ x16 ∧ x16 < (r2359.1.length : Int) then ((nspeculumbase_Within k (w64 ((a0.Heights.getD x16.toNat 0) - (a0.Heights.getD ((0 : Int)).toNat 0))) ((r2359.1.getD x16.toNat default).Lo) ((r2359.1.getD x16.toNat default).Hi)).bind fun r2439 => (if r2439 = true then (if 0 ≤ x16 ∧ x16 < (r2355.1.length : Int) then (if ((r2359.1.getD x16.toNat default).Lo) < ((r2355.1.getD x16.toNat default).Lo) then (some (.inl ())) else (if ((r2355.1.getD x16.toNat default).Hi) < ((r2359.1.getD x16.toNat default).Hi) then (some (.inl ())) else (nspeculumtop_TopProfileEnclosed_l0_0 k a0 r2355 r2359 fuel (w64 (x16 + 1))))) else none) else (some (.inl ())))) else none) else none) else none) else (some (.inr ()))
theorem nspeculumtop_TopProfileEnclosed_l0_0_ok (k : Nat) (a0 : SMeasured) (r2355 : ((List SRange) × (List Int) × Int)) (r2359 : ((List SRange) × (List Int) × Int)) : ∀ (fuel : Nat) (x16 : Int) (r : Sum Unit Unit), nspeculumtop_TopProfileEnclosed_l0_0 k a0 r2355 r2359 fuel x16 = some r → (match r with | .inl r => VLoop none Go.Proofs.Try.prog (szF Go.Proofs.Try.f3) (bodyOf Go.Proofs.Try.f3 0) (nspeculumtop_TopProfileEnclosed_l0_0_h a0 r2355 r2359 x16) .ret (nspeculumtop_TopProfileEnclosed_l0_0_e0 a0 r2355 r2359 r) | .inr r => VLoop none Go.Proofs.Try.prog (szF Go.Proofs.Try.f3) (bodyOf Go.Proofs.Try.f3 0) (nspeculumtop_TopProfileEnclosed_l0_0_h a0 r2355 r2359 x16) (.exit 0) (nspeculumtop_TopProfileEnclosed_l0_0_e1 a0 r2355 r2359 r)) := by
 intro fuel
 induction fuel with
 | zero => intro x16 r h; rw [nspeculumtop_TopProfileEnclosed_l0_0.eq_1] at h; cases h
 | succ fuel ih =>
  intro x16 r h
  rw [nspeculumtop_TopProfileEnclosed_l0_0.eq_2] at h
  rcases ifs h with ⟨h2430, h⟩ | ⟨h2430, h⟩
  ·obtain ⟨h2431, h⟩ := ifn h
   have e2432 := (show loadL Go.Proofs.Try.prog 3 (x16.toNat * 1) (List.map vi a0.Heights) = some (vi (a0.Heights.getD x16.toNat 0)) from ld_map ag3 vi a0.Heights 0 h2431 (by omega))
   obtain ⟨h2433, h⟩ := ifn h
   have e2434 := (show loadL Go.Proofs.Try.prog 3 (((0 : Int)).toNat * 1) (List.map vi a0.Heights) = some (vi (a0.Heights.getD ((0 : Int)).toNat 0)) from ld_map ag3 vi a0.Heights 0 h2433 (by omega))
   have e2435 := (ti (ti (ti (an h2431 (an e2432 (ti (ti (an h2433 (an e2434 (ti (ti trivial)))))))))))
   obtain ⟨h2436, h⟩ := ifn h
   have e2437 := (show loadL Go.Proofs.Try.prog 3 (x16.toNat * 2 + 0) (List.flatMap c_SRange r2359.1) = some (vi ((r2359.1.getD x16.toNat default).Lo)) from (ld_flat ag3 c_SRange 2 0 len_c_SRange (by omega) r2359.1 default h2436 (by omega)).trans rfl)
   have e2438 := (show loadL Go.Proofs.Try.prog 3 (x16.toNat * 2 + 1) (List.flatMap c_SRange r2359.1) = some (vi ((r2359.1.getD x16.toNat default).Hi)) from (ld_flat ag3 c_SRange 2 1 len_c_SRange (by omega) r2359.1 default h2436 (by omega)).trans rfl)
   obtain ⟨r2439, h2440, h⟩ := bs h
   have e2441 := (nspeculumbase_Within_ok k (w64 ((a0.Heights.getD x16.toNat 0) - (a0.Heights.getD ((0 : Int)).toNat 0))) ((r2359.1.getD x16.toNat default).Lo) ((r2359.1.getD x16.toNat default).Hi) _ h2440)
   rcases ifs h with ⟨h2442, h⟩ | ⟨h2442, h⟩
   ·obtain ⟨h2443, h⟩ := ifn h
    have e2444 := (an (not_f h2442) (show loadL Go.Proofs.Try.prog 3 (x16.toNat * 2 + 0) (List.flatMap c_SRange r2355.1) = some (vi ((r2355.1.getD x16.toNat default).Lo)) from (ld_flat ag3 c_SRange 2 0 len_c_SRange (by omega) r2355.1 default h2443 (by omega)).trans rfl))
    have e2445 := (an (not_f h2442) (show loadL Go.Proofs.Try.prog 3 (x16.toNat * 2 + 0) (List.flatMap c_SRange r2359.1) = some (vi ((r2359.1.getD x16.toNat default).Lo)) from (ld_flat ag3 c_SRange 2 0 len_c_SRange (by omega) r2359.1 default h2436 (by omega)).trans rfl))
    rcases ifs h with ⟨h2446, h⟩ | ⟨h2446, h⟩
    ·have e2447 := (ti (ti (ti (an h2436 (ti (an e2437 (ti (ti (an h2436 (ti (an e2438 (an e2441 (ti (ti (an (an (not_f h2442) trivial) (an (an (not_f h2442) trivial) (an (an (not_f h2442) h2443) (an (an (not_f h2442) trivial) (an e2444 (an (an (not_f h2442) trivial) (an (an (not_f h2442) trivial) (an (an (not_f h2442) h2436) (an (an (not_f h2442) trivial) (an e2445 (an (an (not_f h2442) trivial) (an (not_f h2442) (ti (an (decide_eq_true h2446) (an (decide_eq_true h2446) (an (decide_eq_true h2446) (an (decide_eq_true h2446) (an (decide_eq_true h2446) (an (decide_eq_true h2446) (an (decide_eq_true h2446) (an (decide_eq_true h2446) (an (decide_eq_true h2446) (an (decide_eq_true h2446) (an (decide_eq_true h2446) (an (decide_eq_true h2446) trivial)))))))))))))))))))))))))))))))))))))))
     injection h with h; subst h
     exact round_stop (c := ⟨[(2, none)], [], []⟩) (s1 := (nspeculumtop_TopProfileEnclosed_l0_0_e0 a0 r2355 r2359 ())) pm pn (ans := [.reg (nN 3 []), .br true, .reg (arW2_0 a0 x16), .reg (arW2_1 r2359 x16 r2439 r2355), .br true, .reg (.n :: [])]) (by kernel_rfl) (by intro e; cases e) (an (an (an (ti (ti (ti trivial))) (an (decide_eq_true h2430) trivial)) (an e2435 (an e2447 (an rt (an (ti trivial) trivial))))) (ti trivial))
    ·have e2448 := (an (decide_eq_false h2446) (show loadL Go.Proofs.Try.prog 3 (x16.toNat * 2 + 1) (List.flatMap c_SRange r2355.1) = some (vi ((r2355.1.getD x16.toNat default).Hi)) from (ld_flat ag3 c_SRange 2 1 len_c_SRange (by omega) r2355.1 default h2443 (by omega)).trans rfl))
     have e2449 := (an (decide_eq_false h2446) (show loadL Go.Proofs.Try.prog 3 (x16.toNat * 2 + 1) (List.flatMap c_SRange r2359.1) = some (vi ((r2359.1.getD x16.toNat default).Hi)) from (ld_flat ag3 c_SRange 2 1 len_c_SRange (by omega) r2359.1 default h2436 (by omega)).trans rfl))
     have e2450 := (ti (ti (ti (an h2436 (ti (an e2437 (ti (ti (an h2436 (ti (an e2438 (an e2441 (ti (ti (an (an (not_f h2442) trivial) (an (an (not_f h2442) trivial) (an (an (not_f h2442) h2443) (an (an (not_f h2442) trivial) (an e2444 (an (an (not_f h2442) trivial) (an (an (not_f h2442) trivial) (an (an (not_f h2442) h2436) (an (an (not_f h2442) trivial) (an e2445 (an (an (not_f h2442) trivial) (an (not_f h2442) (ti (an (an (decide_eq_false h2446) trivial) (an (an (decide_eq_false h2446) trivial) (an (an (decide_eq_false h2446) h2443) (an (an (decide_eq_false h2446) trivial) (an e2448 (an (an (decide_eq_false h2446) trivial) (an (an (decide_eq_false h2446) trivial) (an (an (decide_eq_false h2446) h2436) (an (an (decide_eq_false h2446) trivial) (an e2449 (an (an (decide_eq_false h2446) trivial) (an (decide_eq_false h2446) trivial)))))))))))))))))))))))))))))))))))))))
     rcases ifs h with ⟨h2451, h⟩ | ⟨h2451, h⟩
     ·injection h with h; subst h
      exact round_stop (c := ⟨[(2, none)], [], []⟩) (s1 := (nspeculumtop_TopProfileEnclosed_l0_0_e0 a0 r2355 r2359 ())) pm pn (ans := [.reg (nN 3 []), .br true, .reg (arW2_0 a0 x16), .reg (arW2_2 r2359 x16 r2439 r2355), .br true, .reg (.n :: [])]) (by kernel_rfl) (by intro e; cases e) (an (an (an (ti (ti (ti trivial))) (an (decide_eq_true h2430) trivial)) (an e2435 (an e2450 (an (decide_eq_true h2451) (an (ti trivial) trivial))))) (ti trivial))
     ·have h2 := ih _ _ h
      obtain ⟨q, hv, hq⟩ := pkR (rd := none) (P := Go.Proofs.Try.prog) (fn := Go.Proofs.Try.f3) (k := 0) (s := (nspeculumtop_TopProfileEnclosed_l0_0_h a0 r2355 r2359 x16)) (ans := [.reg (nN 3 []), .br true, .reg (arW2_0 a0 x16), .reg (arW2_2 r2359 x16 r2439 r2355), .br false, .reg (nN 3 [])]) (c := ⟨[(1, none), (7, none), (8, none), (11, none), (16, none)], [none], []⟩) (e := .normal) (s1 := (nspeculumtop_TopProfileEnclosed_l0_0_h a0 r2355 r2359 (w64 (x16 + 1)))) (an (an (an (ti (ti (ti trivial))) (an (decide_eq_true h2430) trivial)) (an (an e2435 (an e2450 (an (decide_eq_false h2451) trivial))) (ti (ti (ti trivial))))) (ti trivial)) (by kernel_rfl)
      cases r with
      | inl r => exact round_next pm pn hv hq h2
      | inr r =>
       exact round_next pm pn hv hq h2
   ·have e2452 := (ti (ti (ti (an h2436 (ti (an e2437 (ti (ti (an h2436 (ti (an e2438 (an e2441 (ti (ti (an (not_t (bool_f h2442)) (an (not_t (bool_f h2442)) (an (not_t (bool_f h2442)) (an (not_t (bool_f h2442)) (an (not_t (bool_f h2442)) (an (not_t (bool_f h2442)) (an (not_t (bool_f h2442)) (an (not_t (bool_f h2442)) (an (not_t (bool_f h2442)) (an (not_t (bool_f h2442)) (an (not_t (bool_f h2442)) (an (not_t (bool_f h2442)) (ti (an rt (an rt (an rt (an rt (an rt (an rt (an rt (an rt (an rt (an rt (an rt (an rt trivial)))))))))))))))))))))))))))))))))))))))
    injection h with h; subst h
    exact round_stop (c := ⟨[(2, none)], [], []⟩) (s1 := (nspeculumtop_TopProfileEnclosed_l0_0_e0 a0 r2355 r2359 ())) pm pn (ans := [.reg (nN 3 []), .br true, .reg (arW2_0 a0 x16), .reg (arW2_3 r2359 x16 r2439), .br true, .reg (.n :: [])]) (by kernel_rfl) (by intro e; cases e) (an (an (an (ti (ti (ti trivial))) (an (decide_eq_true h2430) trivial)) (an e2435 (an e2452 (an rt (an (ti trivial) trivial))))) (ti trivial))
  ·injection h with h; subst h
   exact round_stop (c := ⟨[], [], []⟩) (s1 := (nspeculumtop_TopProfileEnclosed_l0_0_e1 a0 r2355 r2359 ())) pm pn (ans := [.reg (nN 3 []), .br false]) (by kernel_rfl) (by intro e; cases e) (an (an (ti (ti (ti trivial))) (an (decide_eq_false h2430) trivial)) (ti trivial))
def arW2_4 (z0 : ((List SHeightReading) × Bool)) : List Ans := (.n :: .call (VV.tu [VV.fr (List.flatMap c_SHeightReading z0.1) z0.1.length, vb z0.2]) :: nN 5 [])
def arW2_5 (z0 : ((List SRange) × (List Int) × Int)) : List Ans := (.n :: .n :: .call (VV.tu [VV.fr (List.flatMap c_SRange z0.1) z0.1.length, VV.fr (List.map vi z0.2.1) z0.2.1.length, vi z0.2.2]) :: nN 7 [])
def arW2_6 (z0 : (List Int)) (z1 : (Int × Int)) : List Ans := (nN 4 (.call (VV.fr (List.map vi z0) z0.length) :: .call (VV.tu [vi z1.1, vi z1.2]) :: nN 5 []))
def nspeculumtop_TopProfileEnclosed (k : Nat) (a0 : SMeasured) : Option Bool :=
  (nawake k).bind fun r2343 => (if r2343 = true then ((n_speculumtop_Measured_readings k a0 1).bind fun r2346 => ((n_speculumtop_Measured_readings k a0 2).bind fun r2349 => (if r2346.2 = true then (if r2349.2 = true then ((nprofile_Enclosure k (a0.Heights.length : Int) r2346.1).bind fun r2355 => ((nprofile_Enclosure k (a0.Heights.length : Int) r2349.1).bind fun r2359 => (if r2355.2.2 = r2359.2.2 then (if r2355.2.2 = 0 then ((nspeculumbase_CopyInts k a0.Heights).bind fun r2370 => ((nprofile_CheckHeights k (a0.Heights.length : Int) r2346.1 r2370).bind fun r2373 => (if r2373.2 = 0 then (if (r2355.1.length : Int) = (a0.Heights.length : Int) then (if (r2359.1.length : Int) = (a0.Heights.length : Int) then ((nspeculumtop_TopProfileEnclosed_l0_0 k a0 r2355 r2359 k 0).bind fun r2454 => (match r2454 with | .inl r2455 => (some false) | .inr r2456 => (some true))) else (some false)) else (some false)) else (some false)))) else (if r2355.2.2 = 25 then ((nspeculumbase_CopyInts k a0.Heights).bind fun r2465 => ((nprofile_CheckHeights k (a0.Heights.length : Int) r2346.1 r2465).bind fun r2468 => (if r2468.2 = 0 then (some true) else (some false)))) else (some false))) else (some false)))) else (some true)) else (some true)))) else (some false))
theorem nspeculumtop_TopProfileEnclosed_ok (k : Nat) (a0 : SMeasured) (r : Bool) (h : nspeculumtop_TopProfileEnclosed k a0 = some r) : VC Go.Proofs.Try.prog 3 [VV.ag (c_SMeasured a0)] (vb r) := by
 unfold nspeculumtop_TopProfileEnclosed at h
 obtain ⟨r2343, h2344, h⟩ := bs h
 rcases ifs h with ⟨h2345, h⟩ | ⟨h2345, h⟩
 ·obtain ⟨r2346, h2347, h⟩ := bs h
  have e2348 := (show VC Go.Proofs.Try.prog 5 [VV.ag (c_SMeasured a0), vi 1] (VV.tu [VV.fr (List.flatMap c_SHeightReading r2346.1) r2346.1.length, vb r2346.2]) from (VC.weak (n_speculumtop_Measured_readings_ok k a0 1 _ h2347) (Wv.tuL (.cons (Wv.fw rfl rfl) (.cons (Wv.refl _) .nil)))))
  obtain ⟨r2349, h2350, h⟩ := bs h
  have e2351 := (show VC Go.Proofs.Try.prog 5 [VV.ag (c_SMeasured a0), vi 2] (VV.tu [VV.fr (List.flatMap c_SHeightReading r2349.1) r2349.1.length, vb r2349.2]) from (VC.weak (n_speculumtop_Measured_readings_ok k a0 2 _ h2350) (Wv.tuL (.cons (Wv.fw rfl rfl) (.cons (Wv.refl _) .nil)))))
  rcases ifs h with ⟨h2352, h⟩ | ⟨h2352, h⟩
  ·have e2353 := (ti (ti (ti (an (an (not_f h2352) trivial) (an (an (not_f h2352) trivial) (an (not_f h2352) trivial))))))
   rcases ifs h with ⟨h2354, h⟩ | ⟨h2354, h⟩
   ·obtain ⟨r2355, h2356, h⟩ := bs h
    have e2357 := (nprofile_Enclosure_ok k (a0.Heights.length : Int) r2346.1 _ h2356)
    have e2358 := (ti (ti (an e2357 (ti (ti (ti (ti (ti (ti (ti trivial))))))))))
    obtain ⟨r2359, h2360, h⟩ := bs h
    have e2361 := (nprofile_Enclosure_ok k (a0.Heights.length : Int) r2349.1 _ h2360)
    have e2362 := (ti (ti (an e2361 (ti (ti (ti (ti (ti (ti (ti trivial))))))))))
    rcases ifs h with ⟨h2363, h⟩ | ⟨h2363, h⟩
    ·have e2364 := (an (not_f (decide_eq_true h2363)) trivial)
     have e2365 := (an (not_f (decide_eq_true h2363)) trivial)
     have e2366 := (an (not_f (decide_eq_true h2363)) trivial)
     rcases ifs h with ⟨h2367, h⟩ | ⟨h2367, h⟩
     ·have e2368 := (an (not_f (decide_eq_true h2363)) (not_f (decide_eq_true h2367)))
      have e2369 := (ti (ti (ti (ti (an e2364 (an e2365 (an e2366 (an (not_f (decide_eq_true h2367)) (an (not_f (decide_eq_true h2367)) (an e2368 (an (not_f (decide_eq_true h2363)) trivial)))))))))))
      obtain ⟨r2370, h2371, h⟩ := bs h
      have e2372 := (show VC Go.Proofs.Try.prog 8 [VV.tr (List.map vi a0.Heights) a0.Heights.length] (VV.fr (List.map vi r2370) r2370.length) from (VC.weak (nspeculumbase_CopyInts_ok k a0.Heights _ h2371) (Wv.fw rfl rfl)))
      obtain ⟨r2373, h2374, h⟩ := bs h
      have e2375 := (nprofile_CheckHeights_ok k (a0.Heights.length : Int) r2346.1 r2370 _ h2374)
      have e2376 := (ti (ti (ti (ti (an e2372 (an e2375 (ti (ti (ti (ti (ti trivial)))))))))))
      rcases ifs h with ⟨h2377, h⟩ | ⟨h2377, h⟩
      ·rcases ifs h with ⟨h2378, h⟩ | ⟨h2378, h⟩
       ·have e2379 := (an (not_f (decide_eq_true h2378)) trivial)
        have e2380 := (an (not_f (decide_eq_true h2378)) trivial)
        have e2381 := (an (not_f (decide_eq_true h2378)) trivial)
        have e2382 := (an (not_f (decide_eq_true h2378)) trivial)
        have e2383 := (ti (ti (ti (ti (ti (an e2379 (an e2380 (an e2381 (an e2382 (an (not_f (decide_eq_true h2378)) trivial))))))))))
        rcases ifs h with ⟨h2384, h⟩ | ⟨h2384, h⟩
        ·obtain ⟨r2454, h2453, h⟩ := bs h
         have hph2453 := nspeculumtop_TopProfileEnclosed_l0_0_ok k a0 r2355 r2359 _ _ _ h2453
         cases r2454 with
         | inl r2455 =>
          dsimp only at h
          have e2457 := (an (ti trivial) (VRun.loop hph2453))
          injection h with h; subst h
          exact fun_ok pm pn Go.Proofs.Try.func3 (r0 := vb false) (ans := [.reg (.n :: .n :: []), .reg (.call (vb r2343) :: .n :: []), .br false, .reg (arW2_4 r2346), .reg (arW2_4 r2349), .reg (nN 5 (.b false :: [])), .br false, .reg (nN 4 []), .reg (arW2_5 r2355), .reg (arW2_5 r2359), .reg (nN 7 (.skip :: .skip :: .b false :: .b false :: [])), .br false, .reg (arW2_6 r2370 r2373), .reg (.n :: .n :: []), .br false, .reg (.n :: .n :: []), .br false, .reg (nN 9 (.b false :: [])), .br false, .reg (.n :: []), .sub ⟨[(1, none), (7, none), (8, none), (11, none), (16, none)], [none], []⟩ .ret (nspeculumtop_TopProfileEnclosed_l0_0_e0 a0 r2355 r2359 r2455)]) (fr := true) (by kernel_rfl) (an (an (ti (ti trivial)) (an (an (an (nawake_ok k _ h2344) (ti trivial)) (an (not_f h2345) trivial)) (an (ti (an e2348 (ti (ti (ti (ti (ti trivial))))))) (an (ti (an e2351 (ti (ti (ti (ti (ti trivial))))))) (an (an e2353 (an (not_f h2354) trivial)) (an (ti (ti (ti (ti trivial)))) (an e2358 (an e2362 (an (an e2369 (an rf trivial)) (an (an e2376 (an (ti (ti trivial)) (an (not_f (decide_eq_true h2377)) trivial))) (an (an (ti (ti trivial)) (an (not_f (decide_eq_true h2367)) trivial)) (an (an e2383 (an (not_f (decide_eq_true h2384)) trivial)) (an (ti trivial) e2457))))))))))))) (ti trivial)) (Wv.refl _)
         | inr r2456 =>
          dsimp only at h
          have e2458 := (an (ti trivial) (VRun.loop hph2453))
          injection h with h; subst h
          exact fun_ok pm pn Go.Proofs.Try.func3 (r0 := vb true) (ans := [.reg (.n :: .n :: []), .reg (.call (vb r2343) :: .n :: []), .br false, .reg (arW2_4 r2346), .reg (arW2_4 r2349), .reg (nN 5 (.b false :: [])), .br false, .reg (nN 4 []), .reg (arW2_5 r2355), .reg (arW2_5 r2359), .reg (nN 7 (.skip :: .skip :: .b false :: .b false :: [])), .br false, .reg (arW2_6 r2370 r2373), .reg (.n :: .n :: []), .br false, .reg (.n :: .n :: []), .br false, .reg (nN 9 (.b false :: [])), .br false, .reg (.n :: []), .sub ⟨[(1, none), (7, none), (8, none), (11, none), (16, none)], [none], []⟩ (.exit 0) (nspeculumtop_TopProfileEnclosed_l0_0_e1 a0 r2355 r2359 r2456), .reg (.n :: [])]) (fr := true) (by kernel_rfl) (an (an (ti (ti trivial)) (an (an (an (nawake_ok k _ h2344) (ti trivial)) (an (not_f h2345) trivial)) (an (ti (an e2348 (ti (ti (ti (ti (ti trivial))))))) (an (ti (an e2351 (ti (ti (ti (ti (ti trivial))))))) (an (an e2353 (an (not_f h2354) trivial)) (an (ti (ti (ti (ti trivial)))) (an e2358 (an e2362 (an (an e2369 (an rf trivial)) (an (an e2376 (an (ti (ti trivial)) (an (not_f (decide_eq_true h2377)) trivial))) (an (an (ti (ti trivial)) (an (not_f (decide_eq_true h2367)) trivial)) (an (an e2383 (an (not_f (decide_eq_true h2384)) trivial)) (an (an (ti trivial) e2458) (an (ti trivial) trivial)))))))))))))) (ti trivial)) (Wv.refl _)
        ·injection h with h; subst h
         exact fun_ok pm pn Go.Proofs.Try.func3 (r0 := vb false) (ans := [.reg (.n :: .n :: []), .reg (.call (vb r2343) :: .n :: []), .br false, .reg (arW2_4 r2346), .reg (arW2_4 r2349), .reg (nN 5 (.b false :: [])), .br false, .reg (nN 4 []), .reg (arW2_5 r2355), .reg (arW2_5 r2359), .reg (nN 7 (.skip :: .skip :: .b false :: .b false :: [])), .br false, .reg (arW2_6 r2370 r2373), .reg (.n :: .n :: []), .br false, .reg (.n :: .n :: []), .br false, .reg (nN 9 (.b false :: [])), .br true, .reg (.n :: [])]) (fr := true) (by kernel_rfl) (an (an (ti (ti trivial)) (an (an (an (nawake_ok k _ h2344) (ti trivial)) (an (not_f h2345) trivial)) (an (ti (an e2348 (ti (ti (ti (ti (ti trivial))))))) (an (ti (an e2351 (ti (ti (ti (ti (ti trivial))))))) (an (an e2353 (an (not_f h2354) trivial)) (an (ti (ti (ti (ti trivial)))) (an e2358 (an e2362 (an (an e2369 (an rf trivial)) (an (an e2376 (an (ti (ti trivial)) (an (not_f (decide_eq_true h2377)) trivial))) (an (an (ti (ti trivial)) (an (not_f (decide_eq_true h2367)) trivial)) (an e2383 (an (not_t (decide_eq_false h2384)) (an (ti trivial) trivial)))))))))))))) (ti trivial)) (Wv.refl _)
       ·have e2459 := (ti (ti (ti (ti (ti (an (not_t (decide_eq_false h2378)) (an (not_t (decide_eq_false h2378)) (an (not_t (decide_eq_false h2378)) (an (not_t (decide_eq_false h2378)) (an (not_t (decide_eq_false h2378)) trivial))))))))))
        injection h with h; subst h
        exact fun_ok pm pn Go.Proofs.Try.func3 (r0 := vb false) (ans := [.reg (.n :: .n :: []), .reg (.call (vb r2343) :: .n :: []), .br false, .reg (arW2_4 r2346), .reg (arW2_4 r2349), .reg (nN 5 (.b false :: [])), .br false, .reg (nN 4 []), .reg (arW2_5 r2355), .reg (arW2_5 r2359), .reg (nN 7 (.skip :: .skip :: .b false :: .b false :: [])), .br false, .reg (arW2_6 r2370 r2373), .reg (.n :: .n :: []), .br false, .reg (.n :: .n :: []), .br false, .reg (nN 5 (nS 4 (.b true :: []))), .br true, .reg (.n :: [])]) (fr := true) (by kernel_rfl) (an (an (ti (ti trivial)) (an (an (an (nawake_ok k _ h2344) (ti trivial)) (an (not_f h2345) trivial)) (an (ti (an e2348 (ti (ti (ti (ti (ti trivial))))))) (an (ti (an e2351 (ti (ti (ti (ti (ti trivial))))))) (an (an e2353 (an (not_f h2354) trivial)) (an (ti (ti (ti (ti trivial)))) (an e2358 (an e2362 (an (an e2369 (an rf trivial)) (an (an e2376 (an (ti (ti trivial)) (an (not_f (decide_eq_true h2377)) trivial))) (an (an (ti (ti trivial)) (an (not_f (decide_eq_true h2367)) trivial)) (an e2459 (an rt (an (ti trivial) trivial)))))))))))))) (ti trivial)) (Wv.refl _)
      ·injection h with h; subst h
       exact fun_ok pm pn Go.Proofs.Try.func3 (r0 := vb false) (ans := [.reg (.n :: .n :: []), .reg (.call (vb r2343) :: .n :: []), .br false, .reg (arW2_4 r2346), .reg (arW2_4 r2349), .reg (nN 5 (.b false :: [])), .br false, .reg (nN 4 []), .reg (arW2_5 r2355), .reg (arW2_5 r2359), .reg (nN 7 (.skip :: .skip :: .b false :: .b false :: [])), .br false, .reg (arW2_6 r2370 r2373), .reg (.n :: .n :: []), .br true, .reg (.n :: [])]) (fr := true) (by kernel_rfl) (an (an (ti (ti trivial)) (an (an (an (nawake_ok k _ h2344) (ti trivial)) (an (not_f h2345) trivial)) (an (ti (an e2348 (ti (ti (ti (ti (ti trivial))))))) (an (ti (an e2351 (ti (ti (ti (ti (ti trivial))))))) (an (an e2353 (an (not_f h2354) trivial)) (an (ti (ti (ti (ti trivial)))) (an e2358 (an e2362 (an (an e2369 (an rf trivial)) (an e2376 (an (ti (ti trivial)) (an (not_t (decide_eq_false h2377)) (an (ti trivial) trivial))))))))))))) (ti trivial)) (Wv.refl _)
     ·have e2460 := (an (not_t (decide_eq_false h2367)) trivial)
      have e2461 := (an (not_t (decide_eq_false h2367)) trivial)
      have e2462 := (an (not_f (decide_eq_true h2363)) (not_t (decide_eq_false h2367)))
      have e2463 := (ti (ti (ti (ti (an e2364 (an e2365 (an e2366 (an e2460 (an e2461 (an e2462 (an (not_f (decide_eq_true h2363)) trivial)))))))))))
      rcases ifs h with ⟨h2464, h⟩ | ⟨h2464, h⟩
      ·obtain ⟨r2465, h2466, h⟩ := bs h
       have e2467 := (show VC Go.Proofs.Try.prog 8 [VV.tr (List.map vi a0.Heights) a0.Heights.length] (VV.fr (List.map vi r2465) r2465.length) from (VC.weak (nspeculumbase_CopyInts_ok k a0.Heights _ h2466) (Wv.fw rfl rfl)))
       obtain ⟨r2468, h2469, h⟩ := bs h
       have e2470 := (nprofile_CheckHeights_ok k (a0.Heights.length : Int) r2346.1 r2465 _ h2469)
       have e2471 := (ti (ti (ti (ti (an e2467 (an e2470 (ti (ti (ti (ti (ti trivial)))))))))))
       rcases ifs h with ⟨h2472, h⟩ | ⟨h2472, h⟩
       ·injection h with h; subst h
        exact fun_ok pm pn Go.Proofs.Try.func3 (r0 := vb true) (ans := [.reg (.n :: .n :: []), .reg (.call (vb r2343) :: .n :: []), .br false, .reg (arW2_4 r2346), .reg (arW2_4 r2349), .reg (nN 5 (.b false :: [])), .br false, .reg (nN 4 []), .reg (arW2_5 r2355), .reg (arW2_5 r2359), .reg (nN 9 (.b true :: .b false :: [])), .br false, .reg (arW2_6 r2465 r2468), .reg (.n :: .n :: []), .br false, .reg (.n :: .n :: []), .br true, .reg (.n :: [])]) (fr := true) (by kernel_rfl) (an (an (ti (ti trivial)) (an (an (an (nawake_ok k _ h2344) (ti trivial)) (an (not_f h2345) trivial)) (an (ti (an e2348 (ti (ti (ti (ti (ti trivial))))))) (an (ti (an e2351 (ti (ti (ti (ti (ti trivial))))))) (an (an e2353 (an (not_f h2354) trivial)) (an (ti (ti (ti (ti trivial)))) (an e2358 (an e2362 (an (an e2463 (an (not_f (decide_eq_true h2464)) trivial)) (an (an e2471 (an (ti (ti trivial)) (an (not_f (decide_eq_true h2472)) trivial))) (an (ti (ti trivial)) (an (not_t (decide_eq_false h2367)) (an (ti trivial) trivial))))))))))))) (ti trivial)) (Wv.refl _)
       ·injection h with h; subst h
        exact fun_ok pm pn Go.Proofs.Try.func3 (r0 := vb false) (ans := [.reg (.n :: .n :: []), .reg (.call (vb r2343) :: .n :: []), .br false, .reg (arW2_4 r2346), .reg (arW2_4 r2349), .reg (nN 5 (.b false :: [])), .br false, .reg (nN 4 []), .reg (arW2_5 r2355), .reg (arW2_5 r2359), .reg (nN 9 (.b true :: .b false :: [])), .br false, .reg (arW2_6 r2465 r2468), .reg (.n :: .n :: []), .br true, .reg (.n :: [])]) (fr := true) (by kernel_rfl) (an (an (ti (ti trivial)) (an (an (an (nawake_ok k _ h2344) (ti trivial)) (an (not_f h2345) trivial)) (an (ti (an e2348 (ti (ti (ti (ti (ti trivial))))))) (an (ti (an e2351 (ti (ti (ti (ti (ti trivial))))))) (an (an e2353 (an (not_f h2354) trivial)) (an (ti (ti (ti (ti trivial)))) (an e2358 (an e2362 (an (an e2463 (an (not_f (decide_eq_true h2464)) trivial)) (an e2471 (an (ti (ti trivial)) (an (not_t (decide_eq_false h2472)) (an (ti trivial) trivial))))))))))))) (ti trivial)) (Wv.refl _)
      ·injection h with h; subst h
       exact fun_ok pm pn Go.Proofs.Try.func3 (r0 := vb false) (ans := [.reg (.n :: .n :: []), .reg (.call (vb r2343) :: .n :: []), .br false, .reg (arW2_4 r2346), .reg (arW2_4 r2349), .reg (nN 5 (.b false :: [])), .br false, .reg (nN 4 []), .reg (arW2_5 r2355), .reg (arW2_5 r2359), .reg (nN 9 (.b true :: .b false :: [])), .br true, .reg (.n :: [])]) (fr := true) (by kernel_rfl) (an (an (ti (ti trivial)) (an (an (an (nawake_ok k _ h2344) (ti trivial)) (an (not_f h2345) trivial)) (an (ti (an e2348 (ti (ti (ti (ti (ti trivial))))))) (an (ti (an e2351 (ti (ti (ti (ti (ti trivial))))))) (an (an e2353 (an (not_f h2354) trivial)) (an (ti (ti (ti (ti trivial)))) (an e2358 (an e2362 (an e2463 (an (not_t (decide_eq_false h2464)) (an (ti trivial) trivial))))))))))) (ti trivial)) (Wv.refl _)
    ·have e2473 := (ti (ti (ti (ti (an (not_t (decide_eq_false h2363)) (an (not_t (decide_eq_false h2363)) (an (not_t (decide_eq_false h2363)) (ti (ti (an (not_t (decide_eq_false h2363)) (an (not_t (decide_eq_false h2363)) trivial)))))))))))
     injection h with h; subst h
     exact fun_ok pm pn Go.Proofs.Try.func3 (r0 := vb false) (ans := [.reg (.n :: .n :: []), .reg (.call (vb r2343) :: .n :: []), .br false, .reg (arW2_4 r2346), .reg (arW2_4 r2349), .reg (nN 5 (.b false :: [])), .br false, .reg (nN 4 []), .reg (arW2_5 r2355), .reg (arW2_5 r2359), .reg (nN 4 (nS 6 (.b true :: []))), .br true, .reg (.n :: [])]) (fr := true) (by kernel_rfl) (an (an (ti (ti trivial)) (an (an (an (nawake_ok k _ h2344) (ti trivial)) (an (not_f h2345) trivial)) (an (ti (an e2348 (ti (ti (ti (ti (ti trivial))))))) (an (ti (an e2351 (ti (ti (ti (ti (ti trivial))))))) (an (an e2353 (an (not_f h2354) trivial)) (an (ti (ti (ti (ti trivial)))) (an e2358 (an e2362 (an e2473 (an rt (an (ti trivial) trivial))))))))))) (ti trivial)) (Wv.refl _)
   ·injection h with h; subst h
    exact fun_ok pm pn Go.Proofs.Try.func3 (r0 := vb true) (ans := [.reg (.n :: .n :: []), .reg (.call (vb r2343) :: .n :: []), .br false, .reg (arW2_4 r2346), .reg (arW2_4 r2349), .reg (nN 5 (.b false :: [])), .br true, .reg (.n :: [])]) (fr := true) (by kernel_rfl) (an (an (ti (ti trivial)) (an (an (an (nawake_ok k _ h2344) (ti trivial)) (an (not_f h2345) trivial)) (an (ti (an e2348 (ti (ti (ti (ti (ti trivial))))))) (an (ti (an e2351 (ti (ti (ti (ti (ti trivial))))))) (an e2353 (an (not_t (bool_f h2354)) (an (ti trivial) trivial))))))) (ti trivial)) (Wv.refl _)
  ·have e2474 := (ti (ti (ti (an (not_t (bool_f h2352)) (an (not_t (bool_f h2352)) (an (not_t (bool_f h2352)) trivial))))))
   injection h with h; subst h
   exact fun_ok pm pn Go.Proofs.Try.func3 (r0 := vb true) (ans := [.reg (.n :: .n :: []), .reg (.call (vb r2343) :: .n :: []), .br false, .reg (arW2_4 r2346), .reg (arW2_4 r2349), .reg (nN 3 (.skip :: .skip :: .b true :: [])), .br true, .reg (.n :: [])]) (fr := true) (by kernel_rfl) (an (an (ti (ti trivial)) (an (an (an (nawake_ok k _ h2344) (ti trivial)) (an (not_f h2345) trivial)) (an (ti (an e2348 (ti (ti (ti (ti (ti trivial))))))) (an (ti (an e2351 (ti (ti (ti (ti (ti trivial))))))) (an e2474 (an rt (an (ti trivial) trivial))))))) (ti trivial)) (Wv.refl _)
 ·injection h with h; subst h
  exact fun_ok pm pn Go.Proofs.Try.func3 (r0 := vb false) (ans := [.reg (.n :: .n :: []), .reg (.call (vb r2343) :: .n :: []), .br true, .reg (.n :: [])]) (fr := true) (by kernel_rfl) (an (an (ti (ti trivial)) (an (an (nawake_ok k _ h2344) (ti trivial)) (an (not_t (bool_f h2345)) (an (ti trivial) trivial)))) (ti trivial)) (Wv.refl _)
end Go.Proofs.Ythmlbmjiipglmaa.Vg

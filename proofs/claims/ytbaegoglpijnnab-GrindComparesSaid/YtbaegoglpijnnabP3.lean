import Derived.Test.YtbaegoglpijnnabD2
namespace Go.Proofs.Ytbaegoglpijnnab.Vg
set_option maxRecDepth 100000
set_option maxHeartbeats 4000000
set_option linter.unusedVariables false
set_option linter.unusedSimpArgs false
open Go Go.Proofs.Ytbaegoglpijnnab.Ev Go.Proofs.Ytbaegoglpijnnab.Vv
def nawake (k : Nat) : Option Bool := some true
theorem nawake_ok (k : Nat) (r : Bool) (h : nawake k = some r) : VC Go.Proofs.Try.prog 9 [] (vb r) := by
 injection h with h; subst h
 exact vc_awake
def ncmp_isNaN_int_ (k : Nat) (a0 : Int) : Option Bool :=
 some (!(decide (a0 = a0)))
theorem ncmp_isNaN_int__ok (k : Nat) (a0 : Int) (r : Bool) (h : ncmp_isNaN_int_ k a0 = some r) : VC Go.Proofs.Try.prog 103 [vi a0] (vb r) := by
 unfold ncmp_isNaN_int_ at h
 injection h with h; subst h
 exact fun_ok pm pn Go.Proofs.Try.func103 (r0 := vb (!(decide (a0 = a0)))) (ans := [.reg (.n :: []), .reg (nN 4 [])]) (fr := true) (by kernel_rfl) (an (an (ti trivial) (an (ti (ti (ti (ti trivial)))) trivial)) (ti trivial)) (Wv.refl _)
def ncmp_Compare_int_ (k : Nat) (a0 : Int) (a1 : Int) : Option Int :=
 (ncmp_isNaN_int_ k a0).bind fun r3976 => ((ncmp_isNaN_int_ k a1).bind fun r3979 => (if r3976 = true then (if r3979 = true then (some 0) else (some (-1))) else (if r3979 = true then (some 1) else (if a0 < a1 then (some (-1)) else (if a1 < a0 then (some 1) else (some 0))))))
theorem ncmp_Compare_int__ok (k : Nat) (a0 : Int) (a1 : Int) (r : Int) (h : ncmp_Compare_int_ k a0 a1 = some r) : VC Go.Proofs.Try.prog 80 [vi a0, vi a1] (vi r) := by
 unfold ncmp_Compare_int_ at h
 obtain ⟨r3976, h3977, h⟩ := bs h
 have e3978 := (ti (an (ncmp_isNaN_int__ok k a0 _ h3977) (ti trivial)))
 obtain ⟨r3979, h3980, h⟩ := bs h
 have e3981 := (ti (an (ncmp_isNaN_int__ok k a1 _ h3980) (ti trivial)))
 rcases ifs h with ⟨h3982, h⟩ | ⟨h3982, h⟩
 ·rcases ifs h with ⟨h3983, h⟩ | ⟨h3983, h⟩
  ·injection h with h; subst h
   exact fun_ok pm pn Go.Proofs.Try.func80 (r0 := vi 0) (ans := [.reg (.n :: []), .reg (.n :: .call (vb r3976) :: .n :: []), .reg (.n :: .call (vb r3979) :: .n :: []), .reg (.n :: []), .br true, .reg (.n :: []), .br true, .reg (.n :: [])]) (fr := true) (by kernel_rfl) (an (an (ti trivial) (an e3978 (an e3981 (an (ti trivial) (an h3982 (an (ti trivial) (an h3983 (an (ti trivial) trivial)))))))) (ti trivial)) (Wv.refl _)
  ·injection h with h; subst h
   exact fun_ok pm pn Go.Proofs.Try.func80 (r0 := vi (-1)) (ans := [.reg (.n :: []), .reg (.n :: .call (vb r3976) :: .n :: []), .reg (.n :: .call (vb r3979) :: .n :: []), .reg (.n :: []), .br true, .reg (.n :: []), .br false, .reg (.n :: [])]) (fr := true) (by kernel_rfl) (an (an (ti trivial) (an e3978 (an e3981 (an (ti trivial) (an h3982 (an (an (ti trivial) (an (bool_f h3983) trivial)) (an (ti trivial) trivial))))))) (ti trivial)) (Wv.refl _)
 ·rcases ifs h with ⟨h3984, h⟩ | ⟨h3984, h⟩
  ·injection h with h; subst h
   exact fun_ok pm pn Go.Proofs.Try.func80 (r0 := vi 1) (ans := [.reg (.n :: []), .reg (.n :: .call (vb r3976) :: .n :: []), .reg (.n :: .call (vb r3979) :: .n :: []), .reg (.n :: []), .br false, .reg (.n :: []), .br true, .reg (.n :: [])]) (fr := true) (by kernel_rfl) (an (an (ti trivial) (an e3978 (an e3981 (an (an (ti trivial) (an (bool_f h3982) trivial)) (an (ti trivial) (an h3984 (an (ti trivial) trivial))))))) (ti trivial)) (Wv.refl _)
  ·rcases ifs h with ⟨h3985, h⟩ | ⟨h3985, h⟩
   ·injection h with h; subst h
    exact fun_ok pm pn Go.Proofs.Try.func80 (r0 := vi (-1)) (ans := [.reg (.n :: []), .reg (.n :: .call (vb r3976) :: .n :: []), .reg (.n :: .call (vb r3979) :: .n :: []), .reg (.n :: []), .br false, .reg (.n :: []), .br false, .reg (nN 3 []), .br true, .reg (.n :: [])]) (fr := true) (by kernel_rfl) (an (an (ti trivial) (an e3978 (an e3981 (an (an (ti trivial) (an (bool_f h3982) trivial)) (an (an (ti trivial) (an (bool_f h3984) trivial)) (an (ti (ti (ti trivial))) (an (decide_eq_true h3985) (an (ti trivial) trivial)))))))) (ti trivial)) (Wv.refl _)
   ·rcases ifs h with ⟨h3986, h⟩ | ⟨h3986, h⟩
    ·injection h with h; subst h
     exact fun_ok pm pn Go.Proofs.Try.func80 (r0 := vi 1) (ans := [.reg (.n :: []), .reg (.n :: .call (vb r3976) :: .n :: []), .reg (.n :: .call (vb r3979) :: .n :: []), .reg (.n :: []), .br false, .reg (.n :: []), .br false, .reg (nN 3 []), .br false, .reg (nN 3 []), .br true, .reg (.n :: [])]) (fr := true) (by kernel_rfl) (an (an (ti trivial) (an e3978 (an e3981 (an (an (ti trivial) (an (bool_f h3982) trivial)) (an (an (ti trivial) (an (bool_f h3984) trivial)) (an (an (ti (ti (ti trivial))) (an (decide_eq_false h3985) trivial)) (an (ti (ti (ti trivial))) (an (decide_eq_true h3986) (an (ti trivial) trivial))))))))) (ti trivial)) (Wv.refl _)
    ·injection h with h; subst h
     exact fun_ok pm pn Go.Proofs.Try.func80 (r0 := vi 0) (ans := [.reg (.n :: []), .reg (.n :: .call (vb r3976) :: .n :: []), .reg (.n :: .call (vb r3979) :: .n :: []), .reg (.n :: []), .br false, .reg (.n :: []), .br false, .reg (nN 3 []), .br false, .reg (nN 3 []), .br false, .reg (.n :: [])]) (fr := true) (by kernel_rfl) (an (an (ti trivial) (an e3978 (an e3981 (an (an (ti trivial) (an (bool_f h3982) trivial)) (an (an (ti trivial) (an (bool_f h3984) trivial)) (an (an (ti (ti (ti trivial))) (an (decide_eq_false h3985) trivial)) (an (an (ti (ti (ti trivial))) (an (decide_eq_false h3986) trivial)) (an (ti trivial) trivial)))))))) (ti trivial)) (Wv.refl _)
def ngrind_Compare (k : Nat) (a0 : (List SStroke)) (a1 : SGrindDemand) (a2 : SGrindAnswer) : Option (Int × Int) :=
 (ngrind_CheckPlan k a0 a1 a2.Plan).bind fun r3991 => (if r3991.2 = 0 then ((ngrind_CheckProof k a0 a1 a2.Weights).bind fun r3996 => (if r3996.2 = 0 then ((ncmp_Compare_int_ k (w64 (r3991.1 * a2.Weights.Den)) (w64 ((maxI r3996.1 (-1)) * a2.Plan.Den))).bind fun r4001 => (some (r4001, 0))) else (some (0, r3996.2)))) else (some (0, r3991.2)))
theorem ngrind_Compare_ok (k : Nat) (a0 : (List SStroke)) (a1 : SGrindDemand) (a2 : SGrindAnswer) (r : (Int × Int)) (h : ngrind_Compare k a0 a1 a2 = some r) : VC Go.Proofs.Try.prog 40 [VV.tr (List.flatMap c_SStroke a0) a0.length, VV.ag (c_SGrindDemand a1), VV.ag (c_SGrindAnswer a2)] (VV.tu [vi r.1, vi r.2]) := by
 unfold ngrind_Compare at h
 obtain ⟨r3991, h3992, h⟩ := bs h
 have e3993 := (ngrind_CheckPlan_ok k a0 a1 a2.Plan _ h3992)
 have e3994 := (ti (ti (ti (ti (an e3993 (ti (ti (ti (ti (ti trivial))))))))))
 rcases ifs h with ⟨h3995, h⟩ | ⟨h3995, h⟩
 ·obtain ⟨r3996, h3997, h⟩ := bs h
  have e3998 := (ngrind_CheckProof_ok k a0 a1 a2.Weights _ h3997)
  have e3999 := (ti (ti (ti (ti (an e3998 (ti (ti (ti (ti (ti trivial))))))))))
  rcases ifs h with ⟨h4000, h⟩ | ⟨h4000, h⟩
  ·obtain ⟨r4001, h4002, h⟩ := bs h
   have e4003 := (ncmp_Compare_int__ok k (w64 (r3991.1 * a2.Weights.Den)) (w64 ((maxI r3996.1 (-1)) * a2.Plan.Den)) _ h4002)
   have e4004 := (ti (ti (ti (ti (ti (ti (ti (ti (ti (ti (ti (an e4003 (ti (ti trivial))))))))))))))
   injection h with h; subst h
   exact fun_ok pm pn Go.Proofs.Try.func40 (r0 := VV.tu [vi r4001, vi 0]) (ans := [.reg (nN 4 []), .reg (nN 4 (.call (VV.tu [vi r3991.1, vi r3991.2]) :: nN 5 [])), .reg (.n :: .n :: []), .br false, .reg (nN 4 (.call (VV.tu [vi r3996.1, vi r3996.2]) :: nN 5 [])), .reg (.n :: .n :: []), .br false, .reg (nN 11 (.call (vi r4001) :: .n :: .n :: []))]) (fr := true) (by kernel_rfl) (an (an (ti (ti (ti (ti trivial)))) (an e3994 (an (an (ti (ti trivial)) (an (not_f (decide_eq_true h3995)) trivial)) (an e3999 (an (an (ti (ti trivial)) (an (not_f (decide_eq_true h4000)) trivial)) (an e4004 trivial)))))) (ti (ti trivial))) (Wv.refl _)
  ·injection h with h; subst h
   exact fun_ok pm pn Go.Proofs.Try.func40 (r0 := VV.tu [vi 0, vi r3996.2]) (ans := [.reg (nN 4 []), .reg (nN 4 (.call (VV.tu [vi r3991.1, vi r3991.2]) :: nN 5 [])), .reg (.n :: .n :: []), .br false, .reg (nN 4 (.call (VV.tu [vi r3996.1, vi r3996.2]) :: nN 5 [])), .reg (.n :: .n :: []), .br true, .reg (nN 3 [])]) (fr := true) (by kernel_rfl) (an (an (ti (ti (ti (ti trivial)))) (an e3994 (an (an (ti (ti trivial)) (an (not_f (decide_eq_true h3995)) trivial)) (an e3999 (an (ti (ti trivial)) (an (not_t (decide_eq_false h4000)) (an (ti (ti (ti trivial))) trivial))))))) (ti (ti trivial))) (Wv.refl _)
 ·injection h with h; subst h
  exact fun_ok pm pn Go.Proofs.Try.func40 (r0 := VV.tu [vi 0, vi r3991.2]) (ans := [.reg (nN 4 []), .reg (nN 4 (.call (VV.tu [vi r3991.1, vi r3991.2]) :: nN 5 [])), .reg (.n :: .n :: []), .br true, .reg (nN 3 [])]) (fr := true) (by kernel_rfl) (an (an (ti (ti (ti (ti trivial)))) (an e3994 (an (ti (ti trivial)) (an (not_t (decide_eq_false h3995)) (an (ti (ti (ti trivial))) trivial))))) (ti (ti trivial))) (Wv.refl _)
theorem eqP3_0 (z0 : (List SStroke)) (z1 : SGrindDemand) (z2 : SGrindPlan) (z3 : SGrindProof) : [VV.tr (List.flatMap c_SStroke z0) z0.length, VV.ag (c_SGrindDemand z1), VV.ag [VV.tr (List.map vi (((⟨z2, z3⟩ : SGrindAnswer).Plan).Minutes)) ((((⟨z2, z3⟩ : SGrindAnswer).Plan).Minutes).length), vi (((⟨z2, z3⟩ : SGrindAnswer).Plan).Den), VV.tr (List.map vi (((⟨z2, z3⟩ : SGrindAnswer).Weights).Low)) ((((⟨z2, z3⟩ : SGrindAnswer).Weights).Low).length), VV.tr (List.map vi (((⟨z2, z3⟩ : SGrindAnswer).Weights).High)) ((((⟨z2, z3⟩ : SGrindAnswer).Weights).High).length), vi (((⟨z2, z3⟩ : SGrindAnswer).Weights).Den)]] = [VV.tr (List.flatMap c_SStroke z0) z0.length, VV.ag (c_SGrindDemand z1), VV.ag [VV.tr (List.map vi z2.Minutes) z2.Minutes.length, vi z2.Den, VV.tr (List.map vi z3.Low) z3.Low.length, VV.tr (List.map vi z3.High) z3.High.length, vi z3.Den]] := by first | rfl | (simp only [unfr_vi, List.map_cons, List.map_nil, un_i, un_tr, List.length_map, List.length_cons, List.length_nil, unfr_c_SStroke, unfr_c_SGrindDemand]; done) | (simp only [unfr_vi, List.map_cons, List.map_nil, un_i, un_tr, List.length_map, List.length_cons, List.length_nil, unfr_c_SStroke, unfr_c_SGrindDemand]; rfl) | (simp only [unfr_vi, List.map_cons, List.map_nil, un_i, un_tr, List.length_map, List.length_cons, List.length_nil, unfr_c_SStroke, unfr_c_SGrindDemand, c_SStroke, c_SGrindDemand, List.length_cons, List.length_nil, List.length_append]; done)
def nspeculumbase_Floor (k : Nat) (a0 : Int) (a1 : Int) : Option Int :=
 if a1 ≠ 0 then (if (a0.tmod a1) < 0 then (some (w64 ((w64 (a0.tdiv a1)) - 1))) else (some (w64 (a0.tdiv a1)))) else none
theorem nspeculumbase_Floor_ok (k : Nat) (a0 : Int) (a1 : Int) (r : Int) (h : nspeculumbase_Floor k a0 a1 = some r) : VC Go.Proofs.Try.prog 71 [vi a0, vi a1] (vi r) := by
 unfold nspeculumbase_Floor at h
 obtain ⟨h4025, h⟩ := ifn h
 rcases ifs h with ⟨h4026, h⟩ | ⟨h4026, h⟩
 ·injection h with h; subst h
  exact fun_ok pm pn Go.Proofs.Try.func71 (r0 := vi (w64 ((w64 (a0.tdiv a1)) - 1))) (ans := [.reg (.n :: []), .reg (nN 4 []), .reg (nN 4 []), .br true, .reg (nN 3 []), .reg (.n :: .n :: [])]) (fr := true) (by kernel_rfl) (an (an (ti trivial) (an (ti (ti (an h4025 (ti trivial)))) (an (an (ti (ti (an h4025 (ti trivial)))) (an (decide_eq_true h4026) (ti (ti (ti trivial))))) (an (ti (ti trivial)) trivial)))) (ti trivial)) (Wv.refl _)
 ·injection h with h; subst h
  exact fun_ok pm pn Go.Proofs.Try.func71 (r0 := vi (w64 (a0.tdiv a1))) (ans := [.reg (.n :: []), .reg (nN 4 []), .reg (nN 4 []), .br false, .reg (.n :: .n :: [])]) (fr := true) (by kernel_rfl) (an (an (ti trivial) (an (ti (ti (an h4025 (ti trivial)))) (an (an (ti (ti (an h4025 (ti trivial)))) (an (decide_eq_false h4026) trivial)) (an (ti (ti trivial)) trivial)))) (ti trivial)) (Wv.refl _)
def nspeculumref04_compare_l0_0_h  (x0 : Int) (x1 : Int) (x2 : Int) (x3 : Int) : VS := ⟨mkA [(0, vi x0), (1, vi x1), (2, vi x2), (3, vi x3)], [], .nil⟩
def nspeculumref04_compare_l0_0_e0  (r : Int) : VS := ⟨mkA [(8, vi r)], [], .nil⟩
def nspeculumref04_compare_l0_0 (k : Nat)  : Nat -> Int -> Int -> Int -> Int -> Option (Int)
 | 0, _, _, _, _ => none
 | fuel + 1, x0, x1, x2, x3 => (nspeculumbase_Floor k x0 x1).bind fun r4115 => ((nspeculumbase_Floor k x2 x3).bind fun r4118 => (if r4115 = r4118 then (if (w64 (x0 - (w64 (r4115 * x1)))) = 0 then (if (w64 (x2 - (w64 (r4118 * x3)))) = 0 then (some 0) else (some (-1))) else (if (w64 (x2 - (w64 (r4118 * x3)))) = 0 then (some 1) else (nspeculumref04_compare_l0_0 k  fuel x3 (w64 (x2 - (w64 (r4118 * x3)))) x1 (w64 (x0 - (w64 (r4115 * x1))))))) else (if r4115 < r4118 then (some (-1)) else (some 1))))
theorem nspeculumref04_compare_l0_0_ok (k : Nat)  : ∀ (fuel : Nat) (x0 : Int) (x1 : Int) (x2 : Int) (x3 : Int) (r : Int), nspeculumref04_compare_l0_0 k  fuel x0 x1 x2 x3 = some r -> (VLoop none Go.Proofs.Try.prog (szF Go.Proofs.Try.f81) (bodyOf Go.Proofs.Try.f81 0) (nspeculumref04_compare_l0_0_h  x0 x1 x2 x3) .ret (nspeculumref04_compare_l0_0_e0  r)) := by
 intro fuel
 induction fuel with
 | zero => intro x0 x1 x2 x3 r h; rw [nspeculumref04_compare_l0_0.eq_1] at h; cases h
 | succ fuel ih =>
  intro x0 x1 x2 x3 r h
  rw [nspeculumref04_compare_l0_0.eq_2] at h
  obtain ⟨r4115, h4116, h⟩ := bs h
  have e4117 := (nspeculumbase_Floor_ok k x0 x1 _ h4116)
  obtain ⟨r4118, h4119, h⟩ := bs h
  have e4120 := (nspeculumbase_Floor_ok k x2 x3 _ h4119)
  have e4121 := (ti (ti (an e4117 (ti (ti (an e4120 (ti (ti trivial))))))))
  rcases ifs h with ⟨h4122, h⟩ | ⟨h4122, h⟩
  ·have e4123 := (ti (ti (ti (ti (ti (ti (ti (ti (ti (ti (ti (ti trivial))))))))))))
   rcases ifs h with ⟨h4124, h⟩ | ⟨h4124, h⟩
   ·have e4125 := (ti (ti (ti (an (decide_eq_true h4124) (an (decide_eq_true h4124) (an (decide_eq_true h4124) trivial))))))
    have e4126 := (ti (ti (ti (an (an (decide_eq_true h4124) trivial) (an (an (decide_eq_true h4124) trivial) (an (decide_eq_true h4124) (ti trivial)))))))
    rcases ifs h with ⟨h4127, h⟩ | ⟨h4127, h⟩
    ·injection h with h; subst h
     exact round_stop (c := ⟨[(8, none)], [], []⟩) (s1 := (nspeculumref04_compare_l0_0_e0  0)) pm pn (ans := [.reg (.n :: .n :: .call (vi r4115) :: .n :: .n :: .call (vi r4118) :: .n :: .n :: []), .reg (nN 3 []), .br false, .reg (nN 12 []), .reg (nN 3 (.skip :: .skip :: .b true :: [])), .br true, .reg (nN 5 (.b true :: .n :: [])), .br true, .reg (.n :: [])]) (by kernel_rfl) (by intro e; cases e) (an (an e4121 (an (an (ti (ti (ti trivial))) (an (not_f (decide_eq_true h4122)) trivial)) (an e4123 (an e4125 (an rt (an e4126 (an (decide_eq_true h4127) (an (ti trivial) trivial)))))))) (ti trivial))
    ·injection h with h; subst h
     exact round_stop (c := ⟨[(8, none)], [], []⟩) (s1 := (nspeculumref04_compare_l0_0_e0  (-1))) pm pn (ans := [.reg (.n :: .n :: .call (vi r4115) :: .n :: .n :: .call (vi r4118) :: .n :: .n :: []), .reg (nN 3 []), .br false, .reg (nN 12 []), .reg (nN 3 (.skip :: .skip :: .b true :: [])), .br true, .reg (nN 5 (.b true :: .n :: [])), .br false, .reg (nN 3 []), .br true, .reg (.n :: [])]) (by kernel_rfl) (by intro e; cases e) (an (an e4121 (an (an (ti (ti (ti trivial))) (an (not_f (decide_eq_true h4122)) trivial)) (an e4123 (an e4125 (an rt (an e4126 (an (decide_eq_false h4127) (an (ti (ti (ti trivial))) (an (decide_eq_true h4124) (an (ti trivial) trivial)))))))))) (ti trivial))
   ·have e4128 := (ti (ti (ti (an (an (decide_eq_false h4124) trivial) (an (an (decide_eq_false h4124) trivial) (an (decide_eq_false h4124) trivial))))))
    rcases ifs h with ⟨h4129, h⟩ | ⟨h4129, h⟩
    ·have e4130 := (ti (ti (ti (an (decide_eq_false h4124) (an (decide_eq_false h4124) (an (decide_eq_false h4124) (ti trivial)))))))
     injection h with h; subst h
     exact round_stop (c := ⟨[(8, none)], [], []⟩) (s1 := (nspeculumref04_compare_l0_0_e0  1)) pm pn (ans := [.reg (.n :: .n :: .call (vi r4115) :: .n :: .n :: .call (vi r4118) :: .n :: .n :: []), .reg (nN 3 []), .br false, .reg (nN 12 []), .reg (nN 5 (.b false :: [])), .br true, .reg (nN 3 (.skip :: .skip :: .b false :: .n :: [])), .br false, .reg (nN 3 []), .br false, .reg (.n :: [])]) (by kernel_rfl) (by intro e; cases e) (an (an e4121 (an (an (ti (ti (ti trivial))) (an (not_f (decide_eq_true h4122)) trivial)) (an e4123 (an e4128 (an (decide_eq_true h4129) (an (an e4130 (an rf (an (ti (ti (ti trivial))) (an (decide_eq_false h4124) trivial)))) (an (ti trivial) trivial))))))) (ti trivial))
    ·have h2 := ih _ _ _ _ _ h
     obtain ⟨q, hv, hq⟩ := pkR (rd := none) (P := Go.Proofs.Try.prog) (fn := Go.Proofs.Try.f81) (k := 0) (s := (nspeculumref04_compare_l0_0_h  x0 x1 x2 x3)) (ans := [.reg (.n :: .n :: .call (vi r4115) :: .n :: .n :: .call (vi r4118) :: .n :: .n :: []), .reg (nN 3 []), .br false, .reg (nN 12 []), .reg (nN 5 (.b false :: [])), .br false, .reg (nN 8 [])]) (c := ⟨[(0, none), (1, none), (2, none), (3, none)], [], []⟩) (e := .normal) (s1 := (nspeculumref04_compare_l0_0_h  x3 (w64 (x2 - (w64 (r4118 * x3)))) x1 (w64 (x0 - (w64 (r4115 * x1)))))) (an (an e4121 (an (an (ti (ti (ti trivial))) (an (not_f (decide_eq_true h4122)) trivial)) (an e4123 (an (an e4128 (an (decide_eq_false h4129) trivial)) (ti (ti (ti (ti (ti (ti (ti (ti trivial)))))))))))) (ti trivial)) (by kernel_rfl)
     exact round_next pm pn hv hq h2
  ·rcases ifs h with ⟨h4131, h⟩ | ⟨h4131, h⟩
   ·injection h with h; subst h
    exact round_stop (c := ⟨[(8, none)], [], []⟩) (s1 := (nspeculumref04_compare_l0_0_e0  (-1))) pm pn (ans := [.reg (.n :: .n :: .call (vi r4115) :: .n :: .n :: .call (vi r4118) :: .n :: .n :: []), .reg (nN 3 []), .br true, .reg (nN 3 []), .br true, .reg (.n :: [])]) (by kernel_rfl) (by intro e; cases e) (an (an e4121 (an (ti (ti (ti trivial))) (an (not_t (decide_eq_false h4122)) (an (ti (ti (ti trivial))) (an (decide_eq_true h4131) (an (ti trivial) trivial)))))) (ti trivial))
   ·injection h with h; subst h
    exact round_stop (c := ⟨[(8, none)], [], []⟩) (s1 := (nspeculumref04_compare_l0_0_e0  1)) pm pn (ans := [.reg (.n :: .n :: .call (vi r4115) :: .n :: .n :: .call (vi r4118) :: .n :: .n :: []), .reg (nN 3 []), .br true, .reg (nN 3 []), .br false, .reg (.n :: [])]) (by kernel_rfl) (by intro e; cases e) (an (an e4121 (an (ti (ti (ti trivial))) (an (not_t (decide_eq_false h4122)) (an (an (ti (ti (ti trivial))) (an (decide_eq_false h4131) trivial)) (an (ti trivial) trivial))))) (ti trivial))
def nspeculumref04_compare (k : Nat) (a0 : Int) (a1 : Int) (a2 : Int) (a3 : Int) : Option Int :=
 (nspeculumref04_compare_l0_0 k k a0 a1 a2 a3).bind fun r4133 => (some r4133)
theorem nspeculumref04_compare_ok (k : Nat) (a0 : Int) (a1 : Int) (a2 : Int) (a3 : Int) (r : Int) (h : nspeculumref04_compare k a0 a1 a2 a3 = some r) : VC Go.Proofs.Try.prog 81 [vi a0, vi a1, vi a2, vi a3] (vi r) := by
 unfold nspeculumref04_compare at h
 obtain ⟨r4133, h4132, h⟩ := bs h
 have hph4132 := nspeculumref04_compare_l0_0_ok k  _ _ _ _ _ _ h4132
 have e4134 := (an (ti trivial) (VRun.loop hph4132))
 injection h with h; subst h
 exact fun_ok pm pn Go.Proofs.Try.func81 (r0 := vi r4133) (ans := [.reg (.n :: []), .sub ⟨[(0, none), (1, none), (2, none), (3, none)], [], []⟩ .ret (nspeculumref04_compare_l0_0_e0  r4133)]) (fr := true) (by kernel_rfl) (an (an (ti trivial) e4134) (ti trivial)) (Wv.refl _)
def nspeculumref04_Compare (k : Nat) (a0 : (List SStroke)) (a1 : SGrindDemand) (a2 : SGrindAnswer) : Option (Int × Int) :=
 (nspeculumref04_CheckPlan k a0 a1 a2.Plan).bind fun r4139 => (if r4139.2 = 0 then ((nspeculumref04_CheckProof k a0 a1 a2.Weights).bind fun r4144 => (if r4144.2 = 0 then ((nspeculumref04_compare k r4139.1 a2.Plan.Den r4144.1 a2.Weights.Den).bind fun r4149 => (some (r4149, 0))) else (some (0, r4144.2)))) else (some (0, r4139.2)))
theorem nspeculumref04_Compare_ok (k : Nat) (a0 : (List SStroke)) (a1 : SGrindDemand) (a2 : SGrindAnswer) (r : (Int × Int)) (h : nspeculumref04_Compare k a0 a1 a2 = some r) : VC Go.Proofs.Try.prog 41 [VV.tr (List.flatMap c_SStroke a0) a0.length, VV.ag (c_SGrindDemand a1), VV.ag (c_SGrindAnswer a2)] (VV.tu [vi r.1, vi r.2]) := by
 unfold nspeculumref04_Compare at h
 obtain ⟨r4139, h4140, h⟩ := bs h
 have e4141 := (nspeculumref04_CheckPlan_ok k a0 a1 a2.Plan _ h4140)
 have e4142 := (ti (ti (ti (ti (an e4141 (ti (ti (ti (ti (ti trivial))))))))))
 rcases ifs h with ⟨h4143, h⟩ | ⟨h4143, h⟩
 ·obtain ⟨r4144, h4145, h⟩ := bs h
  have e4146 := (nspeculumref04_CheckProof_ok k a0 a1 a2.Weights _ h4145)
  have e4147 := (ti (ti (ti (ti (an e4146 (ti (ti (ti (ti (ti trivial))))))))))
  rcases ifs h with ⟨h4148, h⟩ | ⟨h4148, h⟩
  ·obtain ⟨r4149, h4150, h⟩ := bs h
   have e4151 := (nspeculumref04_compare_ok k r4139.1 a2.Plan.Den r4144.1 a2.Weights.Den _ h4150)
   have e4152 := (ti (ti (ti (ti (ti (ti (ti (ti (an e4151 (ti (ti trivial)))))))))))
   injection h with h; subst h
   exact fun_ok pm pn Go.Proofs.Try.func41 (r0 := VV.tu [vi r4149, vi 0]) (ans := [.reg (nN 4 []), .reg (nN 4 (.call (VV.tu [vi r4139.1, vi r4139.2]) :: nN 5 [])), .reg (.n :: .n :: []), .br false, .reg (nN 4 (.call (VV.tu [vi r4144.1, vi r4144.2]) :: nN 5 [])), .reg (.n :: .n :: []), .br false, .reg (nN 8 (.call (vi r4149) :: .n :: .n :: []))]) (fr := true) (by kernel_rfl) (an (an (ti (ti (ti (ti trivial)))) (an e4142 (an (an (ti (ti trivial)) (an (not_f (decide_eq_true h4143)) trivial)) (an e4147 (an (an (ti (ti trivial)) (an (not_f (decide_eq_true h4148)) trivial)) (an e4152 trivial)))))) (ti (ti trivial))) (Wv.refl _)
  ·injection h with h; subst h
   exact fun_ok pm pn Go.Proofs.Try.func41 (r0 := VV.tu [vi 0, vi r4144.2]) (ans := [.reg (nN 4 []), .reg (nN 4 (.call (VV.tu [vi r4139.1, vi r4139.2]) :: nN 5 [])), .reg (.n :: .n :: []), .br false, .reg (nN 4 (.call (VV.tu [vi r4144.1, vi r4144.2]) :: nN 5 [])), .reg (.n :: .n :: []), .br true, .reg (nN 3 [])]) (fr := true) (by kernel_rfl) (an (an (ti (ti (ti (ti trivial)))) (an e4142 (an (an (ti (ti trivial)) (an (not_f (decide_eq_true h4143)) trivial)) (an e4147 (an (ti (ti trivial)) (an (not_t (decide_eq_false h4148)) (an (ti (ti (ti trivial))) trivial))))))) (ti (ti trivial))) (Wv.refl _)
 ·injection h with h; subst h
  exact fun_ok pm pn Go.Proofs.Try.func41 (r0 := VV.tu [vi 0, vi r4139.2]) (ans := [.reg (nN 4 []), .reg (nN 4 (.call (VV.tu [vi r4139.1, vi r4139.2]) :: nN 5 [])), .reg (.n :: .n :: []), .br true, .reg (nN 3 [])]) (fr := true) (by kernel_rfl) (an (an (ti (ti (ti (ti trivial)))) (an e4142 (an (ti (ti trivial)) (an (not_t (decide_eq_false h4143)) (an (ti (ti (ti trivial))) trivial))))) (ti (ti trivial))) (Wv.refl _)
def arP3_0 (z0 : Bool) (z1 : Bool) (z2 : Bool) : List Ans := (.n :: .call (vb z0) :: nN 3 (.call (vb z1) :: .n :: .b false :: .n :: .n :: .call (vb z2) :: .n :: .b false :: []))
def arP3_1 (z0 : (List SStroke)) (z1 : SGrindDemand) (z2 : SGrindPlan) (z3 : SGrindProof) (z4 : (Int × Int)) : List Ans := (.n :: .call (VV.fr (List.flatMap c_SStroke z0) z0.length) :: .n :: .call (VV.ag (g_SGrindDemand z1)) :: .n :: .n :: .call (VV.ag (g_SGrindPlan z2)) :: .n :: .n :: .call (VV.ag (g_SGrindProof z3)) :: .n :: .call (VV.tu [vi z4.1, vi z4.2]) :: nN 5 [])
def arP3_2 (z0 : Bool) (z1 : Bool) : List Ans := (.n :: .call (vb z0) :: nN 3 (.call (vb z1) :: .n :: .b false :: .n :: nS 3 (.b true :: [])))
def nspeculumlaw04_GrindCompares (k : Nat) (a0 : (List SStroke)) (a1 : SGrindDemand) (a2 : SGrindAnswer) : Option Bool :=
 (nawake k).bind fun r4169 => (if r4169 = true then ((nspeculumlaw04_Light k a0).bind fun r4172 => (if r4172 = true then ((nspeculumlaw04_slim k a1).bind fun r4175 => (if r4175 = true then ((nspeculumlaw04_brief k a2).bind fun r4179 => (if r4179 = true then ((nspeculumref04_Copy k a0).bind fun r4184 => ((nspeculumlaw04_demand k a1).bind fun r4187 => ((nspeculumlaw04_plan k a2.Plan).bind fun r4189 => ((nspeculumlaw04_weights k a2.Weights).bind fun r4192 => ((ngrind_Compare k r4184 r4187 (⟨r4189, r4192⟩ : SGrindAnswer)).bind fun r4195 => ((nspeculumref04_CheckDemand k a0 a1).bind fun r4199 => (if r4199 = 0 then ((nspeculumref04_Compare k a0 a1 a2).bind fun r4203 => (if r4195.2 = r4203.2 then (if r4195.1 = r4203.1 then (some (decide (0 <= r4195.1))) else (some false)) else (some false))) else (if r4195.2 = r4199 then (if r4195.1 = 0 then (some (decide (0 <= r4195.1))) else (some false)) else (some false))))))))) else (some true))) else (some true))) else (some true))) else (some false))
theorem nspeculumlaw04_GrindCompares_ok (k : Nat) (a0 : (List SStroke)) (a1 : SGrindDemand) (a2 : SGrindAnswer) (r : Bool) (h : nspeculumlaw04_GrindCompares k a0 a1 a2 = some r) : VC Go.Proofs.Try.prog 7 [VV.tr (List.flatMap c_SStroke a0) a0.length, VV.ag (c_SGrindDemand a1), VV.ag (c_SGrindAnswer a2)] (vb r) := by
 unfold nspeculumlaw04_GrindCompares at h
 obtain ⟨r4169, h4170, h⟩ := bs h
 rcases ifs h with ⟨h4171, h⟩ | ⟨h4171, h⟩
 ·obtain ⟨r4172, h4173, h⟩ := bs h
  rcases ifs h with ⟨h4174, h⟩ | ⟨h4174, h⟩
  ·obtain ⟨r4175, h4176, h⟩ := bs h
   have e4177 := (an (not_f h4174) (nspeculumlaw04_slim_ok k a1 _ h4176))
   rcases ifs h with ⟨h4178, h⟩ | ⟨h4178, h⟩
   ·obtain ⟨r4179, h4180, h⟩ := bs h
    have e4181 := (an (not_f h4178) (nspeculumlaw04_brief_ok k a2 _ h4180))
    have e4182 := (ti (an (nspeculumlaw04_Light_ok k a0 _ h4173) (ti (ti (an (an (not_f h4174) trivial) (an e4177 (an (an (not_f h4174) trivial) (an (not_f h4174) (ti (an (an (not_f h4178) trivial) (an e4181 (an (an (not_f h4178) trivial) (an (not_f h4178) trivial)))))))))))))
    rcases ifs h with ⟨h4183, h⟩ | ⟨h4183, h⟩
    ·obtain ⟨r4184, h4185, h⟩ := bs h
     have e4186 := (show VC Go.Proofs.Try.prog 14 [VV.tr (List.flatMap c_SStroke a0) a0.length] (VV.fr (List.flatMap c_SStroke r4184) r4184.length) from (VC.weak (nspeculumref04_Copy_ok k a0 _ h4185) (Wv.fw rfl rfl)))
     obtain ⟨r4187, h4188, h⟩ := bs h
     obtain ⟨r4189, h4190, h⟩ := bs h
     have e4191 := (nspeculumlaw04_plan_ok k a2.Plan _ h4190)
     obtain ⟨r4192, h4193, h⟩ := bs h
     have e4194 := (nspeculumlaw04_weights_ok k a2.Weights _ h4193)
     obtain ⟨r4195, h4196, h⟩ := bs h
     have e4197 := (VC.args (ngrind_Compare_ok k r4184 r4187 (⟨r4189, r4192⟩ : SGrindAnswer) _ h4196) (eqP3_0 r4184 r4187 r4189 r4192))
     have e4198 := (ti (an e4186 (ti (an (nspeculumlaw04_demand_ok k a1 _ h4188) (ti (ti (an e4191 (ti (ti (an e4194 (ti (an e4197 (ti (ti (ti (ti (ti trivial)))))))))))))))))
     obtain ⟨r4199, h4200, h⟩ := bs h
     have e4201 := (nspeculumref04_CheckDemand_ok k a0 a1 _ h4200)
     rcases ifs h with ⟨h4202, h⟩ | ⟨h4202, h⟩
     ·obtain ⟨r4203, h4204, h⟩ := bs h
      have e4205 := (nspeculumref04_Compare_ok k a0 a1 a2 _ h4204)
      have e4206 := (ti (ti (ti (an e4205 (ti (ti (ti (ti (ti trivial)))))))))
      rcases ifs h with ⟨h4207, h⟩ | ⟨h4207, h⟩
      ·rcases ifs h with ⟨h4208, h⟩ | ⟨h4208, h⟩
       ·have e4209 := (ti (ti (ti (ti (an (an (decide_eq_true h4207) trivial) (an (an (decide_eq_true h4207) trivial) (an (an (decide_eq_true h4207) trivial) (an (decide_eq_true h4207) (ti (an (an (decide_eq_true h4208) trivial) (an (an (decide_eq_true h4208) trivial) (an (decide_eq_true h4208) (ti trivial)))))))))))))
        injection h with h; subst h
        exact fun_ok pm pn Go.Proofs.Try.func7 (r0 := vb (decide (0 <= r4195.1))) (ans := [.reg (nN 3 []), .reg (.call (vb r4169) :: .n :: []), .br false, .reg (arP3_0 r4172 r4175 r4179), .br false, .reg (arP3_1 r4184 r4187 r4189 r4192 r4195), .reg (.n :: .n :: .call (vi r4199) :: .n :: .n :: []), .reg (.n :: .n :: []), .br true, .reg (nN 3 (.call (VV.tu [vi r4203.1, vi r4203.2]) :: nN 5 [])), .reg (nN 7 (.b true :: nN 3 (.b true :: .n :: [])))]) (fr := true) (by kernel_rfl) (an (an (ti (ti (ti trivial))) (an (an (an (nawake_ok k _ h4170) (ti trivial)) (an (not_f h4171) trivial)) (an (an e4182 (an (not_f h4183) trivial)) (an e4198 (an (ti (ti (an e4201 (ti (ti trivial))))) (an (an (ti (ti trivial)) (an (decide_eq_true h4202) e4206)) (an e4209 trivial))))))) (ti trivial)) (Wv.refl _)
       ·have e4210 := (ti (ti (ti (ti (an (an (decide_eq_true h4207) trivial) (an (an (decide_eq_true h4207) trivial) (an (an (decide_eq_true h4207) trivial) (an (decide_eq_true h4207) (ti (an (decide_eq_false h4208) (an (decide_eq_false h4208) (an (decide_eq_false h4208) (ti trivial)))))))))))))
        injection h with h; subst h
        exact fun_ok pm pn Go.Proofs.Try.func7 (r0 := vb false) (ans := [.reg (nN 3 []), .reg (.call (vb r4169) :: .n :: []), .br false, .reg (arP3_0 r4172 r4175 r4179), .br false, .reg (arP3_1 r4184 r4187 r4189 r4192 r4195), .reg (.n :: .n :: .call (vi r4199) :: .n :: .n :: []), .reg (.n :: .n :: []), .br true, .reg (nN 3 (.call (VV.tu [vi r4203.1, vi r4203.2]) :: nN 5 [])), .reg (nN 7 (.b true :: .n :: .skip :: .skip :: .b false :: .n :: []))]) (fr := true) (by kernel_rfl) (an (an (ti (ti (ti trivial))) (an (an (an (nawake_ok k _ h4170) (ti trivial)) (an (not_f h4171) trivial)) (an (an e4182 (an (not_f h4183) trivial)) (an e4198 (an (ti (ti (an e4201 (ti (ti trivial))))) (an (an (ti (ti trivial)) (an (decide_eq_true h4202) e4206)) (an e4210 trivial))))))) (ti trivial)) (Wv.refl _)
      ·have e4211 := (ti (ti (ti (ti (an (decide_eq_false h4207) (an (decide_eq_false h4207) (an (decide_eq_false h4207) (an (decide_eq_false h4207) (ti (an rf (an rf (an rf (ti trivial)))))))))))))
       injection h with h; subst h
       exact fun_ok pm pn Go.Proofs.Try.func7 (r0 := vb false) (ans := [.reg (nN 3 []), .reg (.call (vb r4169) :: .n :: []), .br false, .reg (arP3_0 r4172 r4175 r4179), .br false, .reg (arP3_1 r4184 r4187 r4189 r4192 r4195), .reg (.n :: .n :: .call (vi r4199) :: .n :: .n :: []), .reg (.n :: .n :: []), .br true, .reg (nN 3 (.call (VV.tu [vi r4203.1, vi r4203.2]) :: nN 5 [])), .reg (nN 4 (nS 3 (.b false :: .n :: .skip :: .skip :: .b false :: .n :: [])))]) (fr := true) (by kernel_rfl) (an (an (ti (ti (ti trivial))) (an (an (an (nawake_ok k _ h4170) (ti trivial)) (an (not_f h4171) trivial)) (an (an e4182 (an (not_f h4183) trivial)) (an e4198 (an (ti (ti (an e4201 (ti (ti trivial))))) (an (an (ti (ti trivial)) (an (decide_eq_true h4202) e4206)) (an e4211 trivial))))))) (ti trivial)) (Wv.refl _)
     ·rcases ifs h with ⟨h4212, h⟩ | ⟨h4212, h⟩
      ·rcases ifs h with ⟨h4213, h⟩ | ⟨h4213, h⟩
       ·have e4214 := (ti (ti (ti (ti (an (an (decide_eq_true h4212) trivial) (an (an (decide_eq_true h4212) trivial) (an (an (decide_eq_true h4212) trivial) (an (decide_eq_true h4212) (ti (an (an (decide_eq_true h4213) trivial) (an (an (decide_eq_true h4213) trivial) (an (decide_eq_true h4213) (ti trivial)))))))))))))
        injection h with h; subst h
        exact fun_ok pm pn Go.Proofs.Try.func7 (r0 := vb (decide (0 <= r4195.1))) (ans := [.reg (nN 3 []), .reg (.call (vb r4169) :: .n :: []), .br false, .reg (arP3_0 r4172 r4175 r4179), .br false, .reg (arP3_1 r4184 r4187 r4189 r4192 r4195), .reg (.n :: .n :: .call (vi r4199) :: .n :: .n :: []), .reg (.n :: .n :: []), .br false, .reg (nN 7 (.b true :: nN 3 (.b true :: .n :: [])))]) (fr := true) (by kernel_rfl) (an (an (ti (ti (ti trivial))) (an (an (an (nawake_ok k _ h4170) (ti trivial)) (an (not_f h4171) trivial)) (an (an e4182 (an (not_f h4183) trivial)) (an e4198 (an (ti (ti (an e4201 (ti (ti trivial))))) (an (an (ti (ti trivial)) (an (decide_eq_false h4202) trivial)) (an e4214 trivial))))))) (ti trivial)) (Wv.refl _)
       ·have e4215 := (ti (ti (ti (ti (an (an (decide_eq_true h4212) trivial) (an (an (decide_eq_true h4212) trivial) (an (an (decide_eq_true h4212) trivial) (an (decide_eq_true h4212) (ti (an (decide_eq_false h4213) (an (decide_eq_false h4213) (an (decide_eq_false h4213) (ti trivial)))))))))))))
        injection h with h; subst h
        exact fun_ok pm pn Go.Proofs.Try.func7 (r0 := vb false) (ans := [.reg (nN 3 []), .reg (.call (vb r4169) :: .n :: []), .br false, .reg (arP3_0 r4172 r4175 r4179), .br false, .reg (arP3_1 r4184 r4187 r4189 r4192 r4195), .reg (.n :: .n :: .call (vi r4199) :: .n :: .n :: []), .reg (.n :: .n :: []), .br false, .reg (nN 7 (.b true :: .n :: .skip :: .skip :: .b false :: .n :: []))]) (fr := true) (by kernel_rfl) (an (an (ti (ti (ti trivial))) (an (an (an (nawake_ok k _ h4170) (ti trivial)) (an (not_f h4171) trivial)) (an (an e4182 (an (not_f h4183) trivial)) (an e4198 (an (ti (ti (an e4201 (ti (ti trivial))))) (an (an (ti (ti trivial)) (an (decide_eq_false h4202) trivial)) (an e4215 trivial))))))) (ti trivial)) (Wv.refl _)
      ·have e4216 := (ti (ti (ti (ti (an (decide_eq_false h4212) (an (decide_eq_false h4212) (an (decide_eq_false h4212) (an (decide_eq_false h4212) (ti (an rf (an rf (an rf (ti trivial)))))))))))))
       injection h with h; subst h
       exact fun_ok pm pn Go.Proofs.Try.func7 (r0 := vb false) (ans := [.reg (nN 3 []), .reg (.call (vb r4169) :: .n :: []), .br false, .reg (arP3_0 r4172 r4175 r4179), .br false, .reg (arP3_1 r4184 r4187 r4189 r4192 r4195), .reg (.n :: .n :: .call (vi r4199) :: .n :: .n :: []), .reg (.n :: .n :: []), .br false, .reg (nN 4 (nS 3 (.b false :: .n :: .skip :: .skip :: .b false :: .n :: [])))]) (fr := true) (by kernel_rfl) (an (an (ti (ti (ti trivial))) (an (an (an (nawake_ok k _ h4170) (ti trivial)) (an (not_f h4171) trivial)) (an (an e4182 (an (not_f h4183) trivial)) (an e4198 (an (ti (ti (an e4201 (ti (ti trivial))))) (an (an (ti (ti trivial)) (an (decide_eq_false h4202) trivial)) (an e4216 trivial))))))) (ti trivial)) (Wv.refl _)
    ·injection h with h; subst h
     exact fun_ok pm pn Go.Proofs.Try.func7 (r0 := vb true) (ans := [.reg (nN 3 []), .reg (.call (vb r4169) :: .n :: []), .br false, .reg (arP3_0 r4172 r4175 r4179), .br true, .reg (.n :: [])]) (fr := true) (by kernel_rfl) (an (an (ti (ti (ti trivial))) (an (an (an (nawake_ok k _ h4170) (ti trivial)) (an (not_f h4171) trivial)) (an e4182 (an (not_t (bool_f h4183)) (an (ti trivial) trivial))))) (ti trivial)) (Wv.refl _)
   ·have e4217 := (ti (an (nspeculumlaw04_Light_ok k a0 _ h4173) (ti (ti (an (an (not_f h4174) trivial) (an e4177 (an (an (not_f h4174) trivial) (an (not_f h4174) (ti (an (not_t (bool_f h4178)) (an (not_t (bool_f h4178)) (an (not_t (bool_f h4178)) (an (not_t (bool_f h4178)) trivial)))))))))))))
    injection h with h; subst h
    exact fun_ok pm pn Go.Proofs.Try.func7 (r0 := vb true) (ans := [.reg (nN 3 []), .reg (.call (vb r4169) :: .n :: []), .br false, .reg (arP3_2 r4172 r4175), .br true, .reg (.n :: [])]) (fr := true) (by kernel_rfl) (an (an (ti (ti (ti trivial))) (an (an (an (nawake_ok k _ h4170) (ti trivial)) (an (not_f h4171) trivial)) (an e4217 (an rt (an (ti trivial) trivial))))) (ti trivial)) (Wv.refl _)
  ·have e4218 := (ti (an (nspeculumlaw04_Light_ok k a0 _ h4173) (ti (ti (an (not_t (bool_f h4174)) (an (not_t (bool_f h4174)) (an (not_t (bool_f h4174)) (an (not_t (bool_f h4174)) (ti (an rt (an rt (an rt (an rt trivial)))))))))))))
   injection h with h; subst h
   exact fun_ok pm pn Go.Proofs.Try.func7 (r0 := vb true) (ans := [.reg (nN 3 []), .reg (.call (vb r4169) :: .n :: []), .br false, .reg (.n :: .call (vb r4172) :: .n :: .n :: nS 3 (.b true :: .n :: nS 3 (.b true :: []))), .br true, .reg (.n :: [])]) (fr := true) (by kernel_rfl) (an (an (ti (ti (ti trivial))) (an (an (an (nawake_ok k _ h4170) (ti trivial)) (an (not_f h4171) trivial)) (an e4218 (an rt (an (ti trivial) trivial))))) (ti trivial)) (Wv.refl _)
 ·injection h with h; subst h
  exact fun_ok pm pn Go.Proofs.Try.func7 (r0 := vb false) (ans := [.reg (nN 3 []), .reg (.call (vb r4169) :: .n :: []), .br true, .reg (.n :: [])]) (fr := true) (by kernel_rfl) (an (an (ti (ti (ti trivial))) (an (an (nawake_ok k _ h4170) (ti trivial)) (an (not_t (bool_f h4171)) (an (ti trivial) trivial)))) (ti trivial)) (Wv.refl _)
end Go.Proofs.Ytbaegoglpijnnab.Vg

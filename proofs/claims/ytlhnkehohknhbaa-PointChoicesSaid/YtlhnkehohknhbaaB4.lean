import Derived.Test.YtlhnkehohknhbaaB2
namespace Go.Proofs.Ytlhnkehohknhbaa.Vg
set_option maxRecDepth 100000
set_option maxHeartbeats 4000000
set_option linter.unusedVariables false
set_option linter.unusedSimpArgs false
open Go Go.Proofs.Ytlhnkehohknhbaa.Ev Go.Proofs.Ytlhnkehohknhbaa.Vv
structure STour where
 Mount : SSkyMount
 Targets : (List SSkyTarget)
 At : A23
 deriving Inhabited
def c_STour (x : STour) : List VV := [vi x.Mount.Least, vi x.Mount.Most, vi x.Mount.Low, vi x.Mount.High, vi x.Mount.Speed, VV.tr (List.flatMap c_SSkyRow x.Mount.Refraction) x.Mount.Refraction.length, VV.tr (List.flatMap c_SSkyRow x.Mount.Drift) x.Mount.Drift.length, VV.tr (List.flatMap c_SSkyTarget x.Targets) x.Targets.length, vi x.At.e0, vi x.At.e1]
def g_STour (x : STour) : List VV := [vi x.Mount.Least, vi x.Mount.Most, vi x.Mount.Low, vi x.Mount.High, vi x.Mount.Speed, VV.fr (List.flatMap c_SSkyRow x.Mount.Refraction) x.Mount.Refraction.length, VV.fr (List.flatMap c_SSkyRow x.Mount.Drift) x.Mount.Drift.length, VV.fr (List.flatMap c_SSkyTarget x.Targets) x.Targets.length, vi x.At.e0, vi x.At.e1]
theorem unfr_c_STour (xs : List STour) : (xs.flatMap c_STour).map unfr = xs.flatMap c_STour := unfr_flat2 (fun _ => rfl) xs
theorem unfr_g_STour (xs : List STour) : (xs.flatMap g_STour).map unfr = xs.flatMap c_STour := unfr_flat2 (fun _ => rfl) xs
structure Stour where
 begin : Int
 stops : (List Sstop)
 deriving Inhabited
def c_Stour (x : Stour) : List VV := [vi x.begin, VV.tr (List.flatMap c_Sstop x.stops) x.stops.length]
def g_Stour (x : Stour) : List VV := [vi x.begin, VV.fr (List.flatMap c_Sstop x.stops) x.stops.length]
theorem unfr_c_Stour (xs : List Stour) : (xs.flatMap c_Stour).map unfr = xs.flatMap c_Stour := unfr_flat2 (fun _ => rfl) xs
theorem unfr_g_Stour (xs : List Stour) : (xs.flatMap g_Stour).map unfr = xs.flatMap c_Stour := unfr_flat2 (fun _ => rfl) xs
theorem ag9 : isAggT Go.Proofs.Try.prog 9 = some false := by kernel_rfl
theorem ag83 : isAggT Go.Proofs.Try.prog 83 = some true := by kernel_rfl
theorem sz83 : szOf Go.Proofs.Try.prog 83 = some 6 := by kernel_rfl
def nspeculumlaw09_Short_l0_0_h (a0 : STour) (x3 : Int) : VS := ⟨mkA [(1, VV.pt 0 0), (3, vi x3)], [some ⟨true, 1, c_STour a0⟩], .nil⟩
def nspeculumlaw09_Short_l0_0_e0 (a0 : STour) (r : Unit) : VS := ⟨mkA [(2, vb false)], [], .nil⟩
def nspeculumlaw09_Short_l0_0_e1 (a0 : STour) (r : Unit) : VS := ⟨mkA [(1, VV.pt 0 0)], [some ⟨true, 1, c_STour a0⟩], .nil⟩
def nspeculumlaw09_Short_l0_0 (k : Nat) (a0 : STour) : Nat -> Int -> Option (Sum Unit Unit)
 | 0, _ => none
 | fuel + 1, x3 => if x3 < (a0.Targets.length : Int) then (if 0 <= x3 /\ x3 < (a0.Targets.length : Int) then (if 30 < (((a0.Targets.getD x3.toNat default).Name).size : Int) then (some (.inl ())) else (nspeculumlaw09_Short_l0_0 k a0 fuel (w64 (x3 + 1)))) else none) else (some (.inr ()))
theorem nspeculumlaw09_Short_l0_0_ok (k : Nat) (a0 : STour) : ∀ (fuel : Nat) (x3 : Int) (r : Sum Unit Unit), nspeculumlaw09_Short_l0_0 k a0 fuel x3 = some r -> (match r with | .inl r => VLoop none Go.Proofs.Try.prog (szF Go.Proofs.Try.f64) (bodyOf Go.Proofs.Try.f64 0) (nspeculumlaw09_Short_l0_0_h a0 x3) .ret (nspeculumlaw09_Short_l0_0_e0 a0 r) | .inr r => VLoop none Go.Proofs.Try.prog (szF Go.Proofs.Try.f64) (bodyOf Go.Proofs.Try.f64 0) (nspeculumlaw09_Short_l0_0_h a0 x3) (.exit 0) (nspeculumlaw09_Short_l0_0_e1 a0 r)) := by
 intro fuel
 induction fuel with
 | zero => intro x3 r h; rw [nspeculumlaw09_Short_l0_0.eq_1] at h; cases h
 | succ fuel ih =>
  intro x3 r h
  rw [nspeculumlaw09_Short_l0_0.eq_2] at h
  rcases ifs h with ⟨h1462, h⟩ | ⟨h1462, h⟩
  ·obtain ⟨h1463, h⟩ := ifn h
   have e1464 := (show loadL Go.Proofs.Try.prog 9 (x3.toNat * 6 + 0) (List.flatMap c_SSkyTarget a0.Targets) = some (vs ((a0.Targets.getD x3.toNat default).Name)) from (ld_flat ag9 c_SSkyTarget 6 0 len_c_SSkyTarget (by omega) a0.Targets default h1463 (by omega)).trans rfl)
   have e1465 := (ti (ti (ti (an h1463 (ti (an e1464 (ti (ti trivial))))))))
   rcases ifs h with ⟨h1466, h⟩ | ⟨h1466, h⟩
   ·injection h with h; subst h
    exact round_stop (c := ⟨[(2, none)], [], []⟩) (s1 := (nspeculumlaw09_Short_l0_0_e0 a0 ())) pm pn (ans := [.reg (nN 5 []), .br true, .reg (nN 5 (.v (vs ((a0.Targets.getD x3.toNat default).Name)) :: .n :: .n :: [])), .br true, .reg (.n :: [])]) (by kernel_rfl) (by intro e; cases e) (an (an (an (ti (ti (ti (ti (ti trivial))))) (an (decide_eq_true h1462) trivial)) (an e1465 (an (decide_eq_true h1466) (an (ti trivial) trivial)))) (ti trivial))
   ·have h2 := ih _ _ h
    obtain ⟨q, hv, hq⟩ := pkR (rd := none) (P := Go.Proofs.Try.prog) (fn := Go.Proofs.Try.f64) (k := 0) (s := (nspeculumlaw09_Short_l0_0_h a0 x3)) (ans := [.reg (nN 5 []), .br true, .reg (nN 5 (.v (vs ((a0.Targets.getD x3.toNat default).Name)) :: .n :: .n :: [])), .br false, .reg (nN 3 [])]) (c := ⟨[(1, none), (3, none)], [none], []⟩) (e := .normal) (s1 := (nspeculumlaw09_Short_l0_0_h a0 (w64 (x3 + 1)))) (an (an (an (ti (ti (ti (ti (ti trivial))))) (an (decide_eq_true h1462) trivial)) (an (an e1465 (an (decide_eq_false h1466) trivial)) (ti (ti (ti trivial))))) (ti trivial)) (by kernel_rfl)
    cases r with
    | inl r => exact round_next pm pn hv hq h2
    | inr r =>
     exact round_next pm pn hv hq h2
  ·injection h with h; subst h
   exact round_stop (c := ⟨[(1, none)], [none], []⟩) (s1 := (nspeculumlaw09_Short_l0_0_e1 a0 ())) pm pn (ans := [.reg (nN 5 []), .br false]) (by kernel_rfl) (by intro e; cases e) (an (an (ti (ti (ti (ti (ti trivial))))) (an (decide_eq_false h1462) trivial)) (ti trivial))
def arB4_0 (z0 : Bool) : List Ans := (.n :: .n :: .call (vb z0) :: nN 7 (.skip :: .skip :: .b false :: .b false :: .b true :: .n :: []))
def nspeculumlaw09_Short (k : Nat) (a0 : STour) : Option Bool :=
 (nspeculumlaw09_Short_l0_0 k a0 k 0).bind fun r1468 => (match r1468 with | .inl r1469 => (some false) | .inr r1470 => ((nspeculumlaw09_Light k a0.Mount).bind fun r1473 => (if r1473 = true then (if (a0.Targets.length : Int) <= 5 then (some true) else (if 20 < (a0.Targets.length : Int) then (some (decide ((a0.Targets.length : Int) <= 23))) else (some false))) else (some false))))
theorem nspeculumlaw09_Short_ok (k : Nat) (a0 : STour) (r : Bool) (h : nspeculumlaw09_Short k a0 = some r) : VC Go.Proofs.Try.prog 64 [VV.ag (c_STour a0)] (vb r) := by
 unfold nspeculumlaw09_Short at h
 obtain ⟨r1468, h1467, h⟩ := bs h
 have hph1467 := nspeculumlaw09_Short_l0_0_ok k a0 _ _ _ h1467
 cases r1468 with
 | inl r1469 =>
  dsimp only at h
  have e1471 := (an (ti trivial) (VRun.loop hph1467))
  injection h with h; subst h
  exact fun_ok pm pn Go.Proofs.Try.func64 (r0 := vb false) (ans := [.reg (.n :: .n :: []), .reg (.n :: []), .sub ⟨[(1, none), (3, none)], [none], []⟩ .ret (nspeculumlaw09_Short_l0_0_e0 a0 r1469)]) (fr := true) (by kernel_rfl) (an (an (ti (ti trivial)) (an (ti trivial) e1471)) (ti trivial)) (Wv.refl _)
 | inr r1470 =>
  dsimp only at h
  have e1472 := (an (ti trivial) (VRun.loop hph1467))
  obtain ⟨r1473, h1474, h⟩ := bs h
  have e1475 := (nspeculumlaw09_Light_ok k a0.Mount _ h1474)
  rcases ifs h with ⟨h1476, h⟩ | ⟨h1476, h⟩
  ·rcases ifs h with ⟨h1477, h⟩ | ⟨h1477, h⟩
   ·have e1478 := (ti (ti (an e1475 (ti (an (an h1476 trivial) (an (an h1476 trivial) (an (an h1476 trivial) (an (decide_eq_true h1477) (an (decide_eq_true h1477) (an (decide_eq_true h1477) (ti (ti (an (decide_eq_true h1477) (an (an h1476 (decide_eq_true h1477)) (an h1476 (ti trivial))))))))))))))))
    injection h with h; subst h
    exact fun_ok pm pn Go.Proofs.Try.func64 (r0 := vb true) (ans := [.reg (.n :: .n :: []), .reg (.n :: []), .sub ⟨[(1, none), (3, none)], [none], []⟩ (.exit 0) (nspeculumlaw09_Short_l0_0_e1 a0 r1470), .reg (nN 4 []), .reg (.n :: .n :: .call (vb r1473) :: nN 4 (nS 6 (.b true :: .b true :: .n :: [])))]) (fr := true) (by kernel_rfl) (an (an (ti (ti trivial)) (an (an (ti trivial) e1472) (an (ti (ti (ti (ti trivial)))) (an e1478 trivial)))) (ti trivial)) (Wv.refl _)
   ·rcases ifs h with ⟨h1479, h⟩ | ⟨h1479, h⟩
    ·have e1480 := (an (decide_eq_false h1477) (decide_eq_true h1479))
     have e1481 := (ti (ti (an e1475 (ti (an (an h1476 trivial) (an (an h1476 trivial) (an (an h1476 trivial) (an (an (decide_eq_false h1477) trivial) (an (an (decide_eq_false h1477) trivial) (an (an (decide_eq_false h1477) trivial) (an (an (decide_eq_true h1479) trivial) (an (an (decide_eq_true h1479) trivial) (an e1480 (an (an h1476 (decide_eq_false h1477)) (an h1476 (ti trivial))))))))))))))))
     injection h with h; subst h
     exact fun_ok pm pn Go.Proofs.Try.func64 (r0 := vb (decide ((a0.Targets.length : Int) <= 23))) (ans := [.reg (.n :: .n :: []), .reg (.n :: []), .sub ⟨[(1, none), (3, none)], [none], []⟩ (.exit 0) (nspeculumlaw09_Short_l0_0_e1 a0 r1470), .reg (nN 4 []), .reg (.n :: .n :: .call (vb r1473) :: nN 9 (.b true :: .b false :: .b true :: .n :: []))]) (fr := true) (by kernel_rfl) (an (an (ti (ti trivial)) (an (an (ti trivial) e1472) (an (ti (ti (ti (ti trivial)))) (an e1481 trivial)))) (ti trivial)) (Wv.refl _)
    ·have e1482 := (an (decide_eq_false h1477) (decide_eq_false h1479))
     have e1483 := (ti (ti (an e1475 (ti (an (an h1476 trivial) (an (an h1476 trivial) (an (an h1476 trivial) (an (an (decide_eq_false h1477) trivial) (an (an (decide_eq_false h1477) trivial) (an (an (decide_eq_false h1477) trivial) (an (decide_eq_false h1479) (an (decide_eq_false h1479) (an e1482 (an (an h1476 (decide_eq_false h1477)) (an h1476 (ti trivial))))))))))))))))
     injection h with h; subst h
     exact fun_ok pm pn Go.Proofs.Try.func64 (r0 := vb false) (ans := [.reg (.n :: .n :: []), .reg (.n :: []), .sub ⟨[(1, none), (3, none)], [none], []⟩ (.exit 0) (nspeculumlaw09_Short_l0_0_e1 a0 r1470), .reg (nN 4 []), .reg (arB4_0 r1473)]) (fr := true) (by kernel_rfl) (an (an (ti (ti trivial)) (an (an (ti trivial) e1472) (an (ti (ti (ti (ti trivial)))) (an e1483 trivial)))) (ti trivial)) (Wv.refl _)
  ·have e1484 := (ti (ti (an e1475 (ti (an (bool_f h1476) (an (bool_f h1476) (an (bool_f h1476) (ti (ti (ti (ti (ti (ti (an (bool_f h1476) (an (bool_f h1476) (ti trivial))))))))))))))))
   injection h with h; subst h
   exact fun_ok pm pn Go.Proofs.Try.func64 (r0 := vb false) (ans := [.reg (.n :: .n :: []), .reg (.n :: []), .sub ⟨[(1, none), (3, none)], [none], []⟩ (.exit 0) (nspeculumlaw09_Short_l0_0_e1 a0 r1470), .reg (nN 4 []), .reg (.n :: .n :: .call (vb r1473) :: .n :: nS 10 (.b false :: .n :: []))]) (fr := true) (by kernel_rfl) (an (an (ti (ti trivial)) (an (an (ti trivial) e1472) (an (ti (ti (ti (ti trivial)))) (an e1484 trivial)))) (ti trivial)) (Wv.refl _)
def nspeculumlaw09_targets (k : Nat) (a0 : (List SSkyTarget)) : Option (List SSkyTarget) :=
 if ([] : List SSkyTarget).length + a0.length <= 1000000000 then (some (([] : List SSkyTarget) ++ a0)) else none
theorem nspeculumlaw09_targets_ok (k : Nat) (a0 : (List SSkyTarget)) (r : (List SSkyTarget)) (h : nspeculumlaw09_targets k a0 = some r) : VC Go.Proofs.Try.prog 66 [VV.tr (List.flatMap c_SSkyTarget a0) a0.length] (VV.fw 6 (List.flatMap c_SSkyTarget r) r.length) := by
 unfold nspeculumlaw09_targets at h
 obtain ⟨h1487, h⟩ := ifn h
 have e1488 := (show List.length [] = 0 * 6 /\ List.length (List.flatMap c_SSkyTarget a0) = a0.length * 6 /\ (0 + a0.length) * 56 <= 140737488355328 /\ 0 + a0.length < 1099511627776 /\ List.all (List.flatMap c_SSkyTarget a0) VV.still = true from ⟨(by rw [show [] = List.flatMap c_SSkyTarget ([] : List SSkyTarget) from rfl]; rw [flatMap_len len_c_SSkyTarget] <;> simp), (by rw [flatMap_len len_c_SSkyTarget] <;> simp), by simp at h1487 ⊢; omega, by simp at h1487 ⊢; omega, (by exact still_c_SSkyTarget _)⟩)
 injection h with h; subst h
 exact fun_ok pm pn Go.Proofs.Try.func66 (r0 := VV.fw 6 (List.drop 0 (List.map unfr ([] ++ (List.flatMap c_SSkyTarget a0)))) (0 + a0.length)) (ans := [.reg (.n :: []), .reg (nN 4 [])]) (fr := true) (by kernel_rfl) (an (an (ti trivial) (an (ti (ti (an e1488 (ti trivial)))) trivial)) (an (show List.all ([] ++ (List.flatMap c_SSkyTarget a0)) new0 = true from (by rw [show [] ++ (List.flatMap c_SSkyTarget a0) = List.flatMap c_SSkyTarget (([] : List SSkyTarget) ++ a0) from (by rw [show [] = List.flatMap c_SSkyTarget ([] : List SSkyTarget) from rfl]; exact List.flatMap_append.symm)]; exact new0_c_SSkyTarget _)) trivial)) (Wv.of_eq (by simp only [show [] ++ (List.flatMap c_SSkyTarget a0) = List.flatMap c_SSkyTarget (([] : List SSkyTarget) ++ a0) from (by rw [show [] = List.flatMap c_SSkyTarget ([] : List SSkyTarget) from rfl]; exact List.flatMap_append.symm), drop0, unfr_vi, unfr_vb, unfr_vs, List.map_cons, List.map_nil, un_i, un_k, un_b, un_s, un_tr, un_fr, List.length_map, List.length_replicate, List.length_append, List.length_set, List.length_cons, List.length_nil, unfr_c_SSkyRow, unfr_c_SSkyMount, unfr_g_SSkyMount, unfr_c_SSkyTarget, unfr_c_A23, unfr_c_Sstop, unfr_g_Sstop, unfr_c_STour, unfr_g_STour]))
theorem eqB4_0 (z0 : Int) : [vi 0, vi 100000, VV.tr (List.map vi ([z0] : List Int)) (([z0] : List Int).length)] = [vi 0, vi 100000, VV.tr (List.drop 0 (List.map unfr [vi z0])) 1] := by first | rfl | simp only [drop0, unfr_vi, List.map_cons, List.map_nil, un_i, un_tr, List.length_map, List.length_cons, List.length_nil]
def npoint_checkDay (k : Nat) (a0 : Int) : Option Int :=
 (npoint_areWithin k 0 100000 ([a0] : List Int)).bind fun r1499 => (if r1499 = true then (some 0) else (some 2))
theorem npoint_checkDay_ok (k : Nat) (a0 : Int) (r : Int) (h : npoint_checkDay k a0 = some r) : VC Go.Proofs.Try.prog 132 [vi a0] (vi r) := by
 unfold npoint_checkDay at h
 obtain ⟨r1499, h1500, h⟩ := bs h
 have e1501 := (VC.args (npoint_areWithin_ok k 0 100000 ([a0] : List Int) _ h1500) (eqB4_0 a0))
 rcases ifs h with ⟨h1502, h⟩ | ⟨h1502, h⟩
 ·injection h with h; subst h
  exact fun_ok pm pn Go.Proofs.Try.func132 (r0 := vi 0) (ans := [.reg (.n :: []), .reg (.n :: .n :: .call (vb r1499) :: .n :: []), .br false, .reg (.n :: [])]) (fr := true) (by kernel_rfl) (an (an (ti trivial) (an (an (ti (ti (an e1501 (ti trivial)))) (an (not_f h1502) trivial)) (an (ti trivial) trivial))) (ti trivial)) (Wv.refl _)
 ·injection h with h; subst h
  exact fun_ok pm pn Go.Proofs.Try.func132 (r0 := vi 2) (ans := [.reg (.n :: []), .reg (.n :: .n :: .call (vb r1499) :: .n :: []), .br true, .reg (.n :: [])]) (fr := true) (by kernel_rfl) (an (an (ti trivial) (an (ti (ti (an e1501 (ti trivial)))) (an (not_t (bool_f h1502)) (an (ti trivial) trivial)))) (ti trivial)) (Wv.refl _)
theorem eqB4_1 (z0 : SSkyMount) (z1 : A23) : [vi z0.Least, vi z0.Most, VV.tr (List.map vi ([z1.e1] : List Int)) (([z1.e1] : List Int).length)] = [vi z0.Least, vi z0.Most, VV.tr (List.drop 0 (List.map unfr [vi z1.e1])) 1] := by first | rfl | simp only [drop0, unfr_vi, List.map_cons, List.map_nil, un_i, un_tr, List.length_map, List.length_cons, List.length_nil]
def npoint_checkBehind_1 (k : Nat) (a0 : SSkyTarget) (q0_0 : ByteArray) (q0_1 : Int) (q0_2 : Int) (q0_3 : Int) (q0_4 : Int) (q0_5 : Int) : Option Bool :=
 some (decide (a0.Name = q0_0))
theorem npoint_checkBehind_1_ok (k : Nat) (a0 : SSkyTarget) (q0_0 : ByteArray) (q0_1 : Int) (q0_2 : Int) (q0_3 : Int) (q0_4 : Int) (q0_5 : Int) (r : Bool) (h : npoint_checkBehind_1 k a0 q0_0 q0_1 q0_2 q0_3 q0_4 q0_5 = some r) : VC Go.Proofs.Try.prog 149 [VV.ag (c_SSkyTarget a0), VV.tp [vs q0_0, vi q0_1, vi q0_2, vi q0_3, vi q0_4, vi q0_5] 0] (vb r) := by
 unfold npoint_checkBehind_1 at h
 have e1526 := (show loadL Go.Proofs.Try.prog 9 0 [vs q0_0, vi q0_1, vi q0_2, vi q0_3, vi q0_4, vi q0_5] = some (vs q0_0) from (ld_one ag9 rfl))
 injection h with h; subst h
 exact fun_ok pm pn Go.Proofs.Try.func149 (r0 := vb (decide (a0.Name = q0_0))) (ans := [.reg (.n :: .n :: []), .reg (nN 3 (.v (vs q0_0) :: .n :: .n :: []))]) (fr := true) (by kernel_rfl) (an (an (ti (ti trivial)) (an (ti (ti (ti (an e1526 (ti (ti trivial)))))) trivial)) (ti trivial)) (Wv.refl _)
def nslices_IndexFunc_api_SkyTarget_api_SkyTarget__c1_149_l0_0_h (a0 : (List SSkyTarget)) (a1_0_0 : ByteArray) (a1_0_1 : Int) (a1_0_2 : Int) (a1_0_3 : Int) (a1_0_4 : Int) (a1_0_5 : Int) (x8 : Int) : VS := ⟨mkA [(0, VV.tr (List.flatMap c_SSkyTarget a0) a0.length), (1, VV.fn 149 [VV.tp [vs a1_0_0, vi a1_0_1, vi a1_0_2, vi a1_0_3, vi a1_0_4, vi a1_0_5] 0]), (7, vi (a0.length : Int)), (8, vi x8)], [], .nil⟩
def nslices_IndexFunc_api_SkyTarget_api_SkyTarget__c1_149_l0_0_e0 (a0 : (List SSkyTarget)) (a1_0_0 : ByteArray) (a1_0_1 : Int) (a1_0_2 : Int) (a1_0_3 : Int) (a1_0_4 : Int) (a1_0_5 : Int) (r : Int) : VS := ⟨mkA [(4, vi r)], [], .nil⟩
def nslices_IndexFunc_api_SkyTarget_api_SkyTarget__c1_149_l0_0_e1 (a0 : (List SSkyTarget)) (a1_0_0 : ByteArray) (a1_0_1 : Int) (a1_0_2 : Int) (a1_0_3 : Int) (a1_0_4 : Int) (a1_0_5 : Int) (r : Unit) : VS := ⟨mkA [], [], .nil⟩
def nslices_IndexFunc_api_SkyTarget_api_SkyTarget__c1_149_l0_0 (k : Nat) (a0 : (List SSkyTarget)) (a1_0_0 : ByteArray) (a1_0_1 : Int) (a1_0_2 : Int) (a1_0_3 : Int) (a1_0_4 : Int) (a1_0_5 : Int) : Nat -> Int -> Option (Sum Int Unit)
 | 0, _ => none
 | fuel + 1, x8 => if x8 < (a0.length : Int) then (if 0 <= x8 /\ x8 < (a0.length : Int) then ((npoint_checkBehind_1 k (a0.getD x8.toNat default) a1_0_0 a1_0_1 a1_0_2 a1_0_3 a1_0_4 a1_0_5).bind fun r1573 => (if r1573 = true then (some (.inl x8)) else (nslices_IndexFunc_api_SkyTarget_api_SkyTarget__c1_149_l0_0 k a0 a1_0_0 a1_0_1 a1_0_2 a1_0_3 a1_0_4 a1_0_5 fuel (w64 (x8 + 1))))) else none) else (some (.inr ()))
theorem nslices_IndexFunc_api_SkyTarget_api_SkyTarget__c1_149_l0_0_ok (k : Nat) (a0 : (List SSkyTarget)) (a1_0_0 : ByteArray) (a1_0_1 : Int) (a1_0_2 : Int) (a1_0_3 : Int) (a1_0_4 : Int) (a1_0_5 : Int) : ∀ (fuel : Nat) (x8 : Int) (r : Sum Int Unit), nslices_IndexFunc_api_SkyTarget_api_SkyTarget__c1_149_l0_0 k a0 a1_0_0 a1_0_1 a1_0_2 a1_0_3 a1_0_4 a1_0_5 fuel x8 = some r -> (match r with | .inl r => VLoop none Go.Proofs.Try.prog (szF Go.Proofs.Try.f154) (bodyOf Go.Proofs.Try.f154 0) (nslices_IndexFunc_api_SkyTarget_api_SkyTarget__c1_149_l0_0_h a0 a1_0_0 a1_0_1 a1_0_2 a1_0_3 a1_0_4 a1_0_5 x8) .ret (nslices_IndexFunc_api_SkyTarget_api_SkyTarget__c1_149_l0_0_e0 a0 a1_0_0 a1_0_1 a1_0_2 a1_0_3 a1_0_4 a1_0_5 r) | .inr r => VLoop none Go.Proofs.Try.prog (szF Go.Proofs.Try.f154) (bodyOf Go.Proofs.Try.f154 0) (nslices_IndexFunc_api_SkyTarget_api_SkyTarget__c1_149_l0_0_h a0 a1_0_0 a1_0_1 a1_0_2 a1_0_3 a1_0_4 a1_0_5 x8) (.exit 0) (nslices_IndexFunc_api_SkyTarget_api_SkyTarget__c1_149_l0_0_e1 a0 a1_0_0 a1_0_1 a1_0_2 a1_0_3 a1_0_4 a1_0_5 r)) := by
 intro fuel
 induction fuel with
 | zero => intro x8 r h; rw [nslices_IndexFunc_api_SkyTarget_api_SkyTarget__c1_149_l0_0.eq_1] at h; cases h
 | succ fuel ih =>
  intro x8 r h
  rw [nslices_IndexFunc_api_SkyTarget_api_SkyTarget__c1_149_l0_0.eq_2] at h
  rcases ifs h with ⟨h1570, h⟩ | ⟨h1570, h⟩
  ·obtain ⟨h1571, h⟩ := ifn h
   have e1572 := (show loadL Go.Proofs.Try.prog 83 (x8.toNat * 6) (List.flatMap c_SSkyTarget a0) = some (VV.ag (c_SSkyTarget (a0.getD x8.toNat default))) from ld_whole ag83 c_SSkyTarget 6 sz83 len_c_SSkyTarget a0 default h1571 (by omega))
   obtain ⟨r1573, h1574, h⟩ := bs h
   have e1575 := (npoint_checkBehind_1_ok k (a0.getD x8.toNat default) a1_0_0 a1_0_1 a1_0_2 a1_0_3 a1_0_4 a1_0_5 _ h1574)
   have e1576 := (ti (ti (ti (an h1571 (an e1572 (an e1575 trivial))))))
   rcases ifs h with ⟨h1577, h⟩ | ⟨h1577, h⟩
   ·injection h with h; subst h
    exact round_stop (c := ⟨[(4, none)], [], []⟩) (s1 := (nslices_IndexFunc_api_SkyTarget_api_SkyTarget__c1_149_l0_0_e0 a0 a1_0_0 a1_0_1 a1_0_2 a1_0_3 a1_0_4 a1_0_5 x8)) pm pn (ans := [.reg (.n :: []), .br true, .reg (.n :: .n :: []), .reg (nN 4 (.v (VV.ag (c_SSkyTarget (a0.getD x8.toNat default))) :: .call (vb r1573) :: [])), .br true, .reg (.n :: .n :: [])]) (by kernel_rfl) (by intro e; cases e) (an (an (ti trivial) (an (an (decide_eq_true h1570) trivial) (an (ti (ti trivial)) (an e1576 (an h1577 (an (ti (ti trivial)) trivial)))))) (ti trivial))
   ·have h2 := ih _ _ h
    obtain ⟨q, hv, hq⟩ := pkR (rd := none) (P := Go.Proofs.Try.prog) (fn := Go.Proofs.Try.f154) (k := 0) (s := (nslices_IndexFunc_api_SkyTarget_api_SkyTarget__c1_149_l0_0_h a0 a1_0_0 a1_0_1 a1_0_2 a1_0_3 a1_0_4 a1_0_5 x8)) (ans := [.reg (.n :: []), .br true, .reg (.n :: .n :: []), .reg (nN 4 (.v (VV.ag (c_SSkyTarget (a0.getD x8.toNat default))) :: .call (vb r1573) :: [])), .br false, .reg (.n :: .n :: [])]) (c := ⟨[(0, none), (1, none), (7, none), (8, none)], [], []⟩) (e := .normal) (s1 := (nslices_IndexFunc_api_SkyTarget_api_SkyTarget__c1_149_l0_0_h a0 a1_0_0 a1_0_1 a1_0_2 a1_0_3 a1_0_4 a1_0_5 (w64 (x8 + 1)))) (an (an (ti trivial) (an (an (decide_eq_true h1570) trivial) (an (an (ti (ti trivial)) (an e1576 (an (bool_f h1577) trivial))) (ti (ti trivial))))) (ti trivial)) (by kernel_rfl)
    cases r with
    | inl r => exact round_next pm pn hv hq h2
    | inr r =>
     exact round_next pm pn hv hq h2
  ·injection h with h; subst h
   exact round_stop (c := ⟨[], [], []⟩) (s1 := (nslices_IndexFunc_api_SkyTarget_api_SkyTarget__c1_149_l0_0_e1 a0 a1_0_0 a1_0_1 a1_0_2 a1_0_3 a1_0_4 a1_0_5 ())) pm pn (ans := [.reg (.n :: []), .br false]) (by kernel_rfl) (by intro e; cases e) (an (an (ti trivial) (an (decide_eq_false h1570) trivial)) (ti trivial))
def nslices_IndexFunc_api_SkyTarget_api_SkyTarget__c1_149 (k : Nat) (a0 : (List SSkyTarget)) (a1_0_0 : ByteArray) (a1_0_1 : Int) (a1_0_2 : Int) (a1_0_3 : Int) (a1_0_4 : Int) (a1_0_5 : Int) : Option Int :=
 (nslices_IndexFunc_api_SkyTarget_api_SkyTarget__c1_149_l0_0 k a0 a1_0_0 a1_0_1 a1_0_2 a1_0_3 a1_0_4 a1_0_5 k 0).bind fun r1579 => (match r1579 with | .inl r1580 => (some r1580) | .inr r1581 => (some (-1)))
theorem nslices_IndexFunc_api_SkyTarget_api_SkyTarget__c1_149_ok (k : Nat) (a0 : (List SSkyTarget)) (a1_0_0 : ByteArray) (a1_0_1 : Int) (a1_0_2 : Int) (a1_0_3 : Int) (a1_0_4 : Int) (a1_0_5 : Int) (r : Int) (h : nslices_IndexFunc_api_SkyTarget_api_SkyTarget__c1_149 k a0 a1_0_0 a1_0_1 a1_0_2 a1_0_3 a1_0_4 a1_0_5 = some r) : VC Go.Proofs.Try.prog 154 [VV.tr (List.flatMap c_SSkyTarget a0) a0.length, VV.fn 149 [VV.tp [vs a1_0_0, vi a1_0_1, vi a1_0_2, vi a1_0_3, vi a1_0_4, vi a1_0_5] 0]] (vi r) := by
 unfold nslices_IndexFunc_api_SkyTarget_api_SkyTarget__c1_149 at h
 obtain ⟨r1579, h1578, h⟩ := bs h
 have hph1578 := nslices_IndexFunc_api_SkyTarget_api_SkyTarget__c1_149_l0_0_ok k a0 a1_0_0 a1_0_1 a1_0_2 a1_0_3 a1_0_4 a1_0_5 _ _ _ h1578
 cases r1579 with
 | inl r1580 =>
  dsimp only at h
  have e1582 := (an (ti trivial) (VRun.loop hph1578))
  injection h with h; subst h
  exact fun_ok pm pn Go.Proofs.Try.func154 (r0 := vi r1580) (ans := [.reg (.n :: []), .reg (nN 3 []), .sub ⟨[(0, none), (1, none), (7, none), (8, none)], [], []⟩ .ret (nslices_IndexFunc_api_SkyTarget_api_SkyTarget__c1_149_l0_0_e0 a0 a1_0_0 a1_0_1 a1_0_2 a1_0_3 a1_0_4 a1_0_5 r1580)]) (fr := true) (by kernel_rfl) (an (an (ti trivial) (an (ti (ti (ti trivial))) e1582)) (ti trivial)) (Wv.refl _)
 | inr r1581 =>
  dsimp only at h
  have e1583 := (an (ti trivial) (VRun.loop hph1578))
  injection h with h; subst h
  exact fun_ok pm pn Go.Proofs.Try.func154 (r0 := vi (-1)) (ans := [.reg (.n :: []), .reg (nN 3 []), .sub ⟨[(0, none), (1, none), (7, none), (8, none)], [], []⟩ (.exit 0) (nslices_IndexFunc_api_SkyTarget_api_SkyTarget__c1_149_l0_0_e1 a0 a1_0_0 a1_0_1 a1_0_2 a1_0_3 a1_0_4 a1_0_5 r1581), .reg (.n :: [])]) (fr := true) (by kernel_rfl) (an (an (ti trivial) (an (an (ti (ti (ti trivial))) e1583) (an (ti trivial) trivial))) (ti trivial)) (Wv.refl _)
def nslices_ContainsFunc_api_SkyTarget_api_SkyTarget__c1_149 (k : Nat) (a0 : (List SSkyTarget)) (a1_0_0 : ByteArray) (a1_0_1 : Int) (a1_0_2 : Int) (a1_0_3 : Int) (a1_0_4 : Int) (a1_0_5 : Int) : Option Bool :=
 (nslices_IndexFunc_api_SkyTarget_api_SkyTarget__c1_149 k a0 a1_0_0 a1_0_1 a1_0_2 a1_0_3 a1_0_4 a1_0_5).bind fun r1587 => (some (decide (0 <= r1587)))
theorem nslices_ContainsFunc_api_SkyTarget_api_SkyTarget__c1_149_ok (k : Nat) (a0 : (List SSkyTarget)) (a1_0_0 : ByteArray) (a1_0_1 : Int) (a1_0_2 : Int) (a1_0_3 : Int) (a1_0_4 : Int) (a1_0_5 : Int) (r : Bool) (h : nslices_ContainsFunc_api_SkyTarget_api_SkyTarget__c1_149 k a0 a1_0_0 a1_0_1 a1_0_2 a1_0_3 a1_0_4 a1_0_5 = some r) : VC Go.Proofs.Try.prog 148 [VV.tr (List.flatMap c_SSkyTarget a0) a0.length, VV.fn 149 [VV.tp [vs a1_0_0, vi a1_0_1, vi a1_0_2, vi a1_0_3, vi a1_0_4, vi a1_0_5] 0]] (vb r) := by
 unfold nslices_ContainsFunc_api_SkyTarget_api_SkyTarget__c1_149 at h
 obtain ⟨r1587, h1588, h⟩ := bs h
 have e1589 := (nslices_IndexFunc_api_SkyTarget_api_SkyTarget__c1_149_ok k a0 a1_0_0 a1_0_1 a1_0_2 a1_0_3 a1_0_4 a1_0_5 _ h1588)
 injection h with h; subst h
 exact fun_ok pm pn Go.Proofs.Try.func148 (r0 := vb (decide (0 <= r1587))) (ans := [.reg (.n :: []), .reg (.n :: .n :: .call (vi r1587) :: .n :: .n :: [])]) (fr := true) (by kernel_rfl) (an (an (ti trivial) (an (ti (ti (an e1589 (ti (ti trivial))))) trivial)) (ti trivial)) (Wv.refl _)
theorem eqB4_2 (z0 : (List SSkyTarget)) (z1 : SSkyTarget) : [VV.tr (List.flatMap c_SSkyTarget z0) z0.length, VV.fn 149 [VV.tp [vs z1.Name, vi z1.Azimuth, vi z1.Height, vi z1.From, vi z1.To, vi z1.Dwell] 0]] = [VV.tr (List.flatMap c_SSkyTarget z0) z0.length, VV.fn 149 [VV.tp (List.map unfr [vs z1.Name, vi z1.Azimuth, vi z1.Height, vi z1.From, vi z1.To, vi z1.Dwell]) 0]] := by first | rfl | simp only [unfr_vi, unfr_vs, List.map_cons, List.map_nil, un_i, un_s, un_tr, List.length_map, List.length_cons, List.length_nil, unfr_c_SSkyTarget]
def npoint_checkBehind (k : Nat) (a0 : (List SSkyTarget)) (a1 : SSkyTarget) : Option Int :=
 (npoint_CheckTarget k a1).bind fun r1594 => (if r1594 = 0 then ((nslices_ContainsFunc_api_SkyTarget_api_SkyTarget__c1_149 k a0 a1.Name a1.Azimuth a1.Height a1.From a1.To a1.Dwell).bind fun r1598 => (if r1598 = true then (some 5) else (some 0))) else (some r1594))
theorem npoint_checkBehind_ok (k : Nat) (a0 : (List SSkyTarget)) (a1 : SSkyTarget) (r : Int) (h : npoint_checkBehind k a0 a1 = some r) : VC Go.Proofs.Try.prog 138 [VV.tr (List.flatMap c_SSkyTarget a0) a0.length, VV.ag (c_SSkyTarget a1)] (vi r) := by
 unfold npoint_checkBehind at h
 obtain ⟨r1594, h1595, h⟩ := bs h
 have e1596 := (ti (an (npoint_CheckTarget_ok k a1 _ h1595) (ti trivial)))
 rcases ifs h with ⟨h1597, h⟩ | ⟨h1597, h⟩
 ·obtain ⟨r1598, h1599, h⟩ := bs h
  have e1600 := (VC.args (nslices_ContainsFunc_api_SkyTarget_api_SkyTarget__c1_149_ok k a0 a1.Name a1.Azimuth a1.Height a1.From a1.To a1.Dwell _ h1599) (eqB4_2 a0 a1))
  rcases ifs h with ⟨h1601, h⟩ | ⟨h1601, h⟩
  ·injection h with h; subst h
   exact fun_ok pm pn Go.Proofs.Try.func138 (r0 := vi 5) (ans := [.reg (.n :: .n :: []), .reg (.n :: .call (vi r1594) :: .n :: []), .reg (.n :: .n :: []), .br false, .reg (.n :: .n :: .call (vb r1598) :: []), .br true, .reg (.n :: [])]) (fr := true) (by kernel_rfl) (an (an (ti (ti trivial)) (an (an e1596 (an (ti (ti trivial)) (an (not_f (decide_eq_true h1597)) trivial))) (an (ti (ti (an e1600 trivial))) (an h1601 (an (ti trivial) trivial))))) (ti trivial)) (Wv.refl _)
  ·injection h with h; subst h
   exact fun_ok pm pn Go.Proofs.Try.func138 (r0 := vi 0) (ans := [.reg (.n :: .n :: []), .reg (.n :: .call (vi r1594) :: .n :: []), .reg (.n :: .n :: []), .br false, .reg (.n :: .n :: .call (vb r1598) :: []), .br false, .reg (.n :: [])]) (fr := true) (by kernel_rfl) (an (an (ti (ti trivial)) (an (an e1596 (an (ti (ti trivial)) (an (not_f (decide_eq_true h1597)) trivial))) (an (an (ti (ti (an e1600 trivial))) (an (bool_f h1601) trivial)) (an (ti trivial) trivial)))) (ti trivial)) (Wv.refl _)
 ·injection h with h; subst h
  exact fun_ok pm pn Go.Proofs.Try.func138 (r0 := vi r1594) (ans := [.reg (.n :: .n :: []), .reg (.n :: .call (vi r1594) :: .n :: []), .reg (.n :: .n :: []), .br true, .reg (.n :: .n :: [])]) (fr := true) (by kernel_rfl) (an (an (ti (ti trivial)) (an e1596 (an (ti (ti trivial)) (an (not_t (decide_eq_false h1597)) (an (ti (ti trivial)) trivial))))) (ti trivial)) (Wv.refl _)
def arB4_1 (z0 : (List SSkyTarget)) (z1 : Int) (z2 : Int) : List Ans := (.n :: .n :: .v (VV.tr (List.flatMap c_SSkyTarget (sl z0 0 ((z1).toNat))) ((sl z0 0 ((z1).toNat)).length)) :: .n :: .call (vi z2) :: .n :: [])
theorem eqB4_3  : vi 0 = vi ((⟨0, []⟩ : Stour).begin) := by first | rfl | simp only [unfr_vi, List.map_cons, List.map_nil, un_i]
def npoint_tourOf_l0_0_h (a0 : SSkyMount) (a1 : (List SSkyTarget)) (a2 : A23) (y5 : List Sstop) (x52 : Int) : VS := ⟨mkA [(1, VV.tr (List.flatMap c_SSkyTarget a1) a1.length), (3, VV.pt 0 0), (6, VV.pt 2 0), (10, vi a2.e0), (13, VV.pt 4 0), (50, VV.tr (List.flatMap c_SSkyTarget a1) a1.length), (51, vi (a1.length : Int)), (52, vi x52)], [some ⟨true, 1, c_SSkyMount a0⟩, some ⟨true, 1, c_A23 a2⟩, some ⟨true, 1, [vi 0, VV.c (.slice none 0 0)]⟩, some ⟨false, 1, [vi a2.e1]⟩, some ⟨true, 1, [vi a2.e1, VV.rf 5 0 y5.length]⟩, some ⟨false, 8, List.flatMap g_Sstop y5⟩], .nil⟩
def npoint_tourOf_l0_0_e0 (a0 : SSkyMount) (a1 : (List SSkyTarget)) (a2 : A23) (r : Int × Int) : VS := ⟨mkA [(6, VV.pt 2 0), (7, vi r.1), (8, vi r.2)], [some ⟨true, 1, c_SSkyMount a0⟩, some ⟨true, 1, c_A23 a2⟩, some ⟨true, 1, [vi 0, VV.c (.slice none 0 0)]⟩], .nil⟩
def npoint_tourOf_l0_0_e1 (a0 : SSkyMount) (a1 : (List SSkyTarget)) (a2 : A23) (r : (List Sstop)) : VS := ⟨mkA [(6, VV.pt 2 0), (13, VV.pt 4 0)], [some ⟨true, 1, c_SSkyMount a0⟩, some ⟨true, 1, c_A23 a2⟩, some ⟨true, 1, [vi 0, VV.c (.slice none 0 0)]⟩, some ⟨false, 1, [vi a2.e1]⟩, some ⟨true, 1, [vi a2.e1, VV.rf 5 0 r.length]⟩, some ⟨false, 8, List.flatMap g_Sstop r⟩], .nil⟩
def npoint_tourOf_l0_0 (k : Nat) (a0 : SSkyMount) (a1 : (List SSkyTarget)) (a2 : A23) : Nat -> (List Sstop) -> Int -> Option (Sum (Int × Int) (List Sstop))
 | 0, _, _ => none
 | fuel + 1, y5, x52 => if x52 < (a1.length : Int) then (if 0 <= x52 /\ x52 < (a1.length : Int) then (if 0 <= (0 : Int) /\ (0 : Int) <= x52 /\ x52 <= (a1.length : Int) then ((npoint_checkBehind k (sl a1 0 ((x52).toNat)) (a1.getD x52.toNat default)).bind fun r1736 => (if r1736 = 0 then ((npoint_stopAt k a0 (a1.getD x52.toNat default) a2.e0).bind fun r1740 => (if r1740.2 = 0 then (if y5.length + ([r1740.1] : List Sstop).length <= 1000000000 then (npoint_tourOf_l0_0 k a0 a1 a2 fuel (y5 ++ ([r1740.1] : List Sstop)) (w64 (x52 + 1))) else none) else (some (.inl (x52, r1740.2))))) else (some (.inl (x52, r1736))))) else none) else none) else (some (.inr y5))
theorem npoint_tourOf_l0_0_ok (k : Nat) (a0 : SSkyMount) (a1 : (List SSkyTarget)) (a2 : A23) : ∀ (fuel : Nat) (y5 : List Sstop) (x52 : Int) (r : Sum (Int × Int) (List Sstop)), npoint_tourOf_l0_0 k a0 a1 a2 fuel y5 x52 = some r -> (match r with | .inl r => VLoop none Go.Proofs.Try.prog (szF Go.Proofs.Try.f114) (bodyOf Go.Proofs.Try.f114 0) (npoint_tourOf_l0_0_h a0 a1 a2 y5 x52) .ret (npoint_tourOf_l0_0_e0 a0 a1 a2 r) | .inr r => VLoop none Go.Proofs.Try.prog (szF Go.Proofs.Try.f114) (bodyOf Go.Proofs.Try.f114 0) (npoint_tourOf_l0_0_h a0 a1 a2 y5 x52) (.exit 0) (npoint_tourOf_l0_0_e1 a0 a1 a2 r)) := by
 intro fuel
 induction fuel with
 | zero => intro y5 x52 r h; rw [npoint_tourOf_l0_0.eq_1] at h; cases h
 | succ fuel ih =>
  intro y5 x52 r h
  rw [npoint_tourOf_l0_0.eq_2] at h
  rcases ifs h with ⟨h1731, h⟩ | ⟨h1731, h⟩
  ·obtain ⟨h1732, h⟩ := ifn h
   have e1733 := (show loadL Go.Proofs.Try.prog 83 (x52.toNat * 6) (List.flatMap c_SSkyTarget a1) = some (VV.ag (c_SSkyTarget (a1.getD x52.toNat default))) from ld_whole ag83 c_SSkyTarget 6 sz83 len_c_SSkyTarget a1 default h1732 (by omega))
   obtain ⟨h1734, h⟩ := ifn h
   have e1735 := (show (True /\ 0 <= x52 /\ 0 <= (x52).toNat /\ (x52).toNat <= a1.length /\ (x52).toNat * 6 <= List.length (List.flatMap c_SSkyTarget a1)) /\ VV.tr (List.take (((x52).toNat - 0) * 6) (List.drop (0 * 6) (List.flatMap c_SSkyTarget a1))) ((x52).toNat - 0) = VV.tr (List.flatMap c_SSkyTarget (sl a1 0 ((x52).toNat))) ((sl a1 0 ((x52).toNat)).length) from ⟨⟨trivial, (by have := h1734; omega), (by have := h1734; omega), (by have := h1734; omega), (by rw [flatMap_len len_c_SSkyTarget]; have := h1734; omega)⟩, (by exact sl_flat len_c_SSkyTarget a1 0 ((x52).toNat) (by have := h1734; omega) (by have := h1734; omega))⟩)
   obtain ⟨r1736, h1737, h⟩ := bs h
   have e1738 := (npoint_checkBehind_ok k (sl a1 0 ((x52).toNat)) (a1.getD x52.toNat default) _ h1737)
   rcases ifs h with ⟨h1739, h⟩ | ⟨h1739, h⟩
   ·obtain ⟨r1740, h1741, h⟩ := bs h
    have e1742 := (show VC Go.Proofs.Try.prog 108 [VV.ag (c_SSkyMount a0), VV.ag (c_SSkyTarget (a1.getD x52.toNat default)), vi a2.e0] (VV.tu [VV.ag (g_Sstop r1740.1), vi r1740.2]) from (VC.weak (npoint_stopAt_ok k a0 (a1.getD x52.toNat default) a2.e0 _ h1741) (Wv.tuL (.cons (Wv.agL (.cons (Wv.refl _) (.cons (Wv.refl _) (.cons (Wv.refl _) (.cons (Wv.refl _) (.cons (Wv.refl _) (.cons (Wv.refl _) (.cons (Wv.fw rfl rfl) (.cons (Wv.fw rfl rfl) .nil))))))))) (.cons (Wv.refl _) .nil)))))
    have e1743 := (ti (ti (ti (an e1742 (ti (ti (ti (ti (ti (ti trivial))))))))))
    rcases ifs h with ⟨h1744, h⟩ | ⟨h1744, h⟩
    ·obtain ⟨h1745, h⟩ := ifn h
     have e1746 := (show List.length (List.flatMap g_Sstop y5) = y5.length * 8 /\ List.length [vs r1740.1.SkyTarget.Name, vi r1740.1.SkyTarget.Azimuth, vi r1740.1.SkyTarget.Height, vi r1740.1.SkyTarget.From, vi r1740.1.SkyTarget.To, vi r1740.1.SkyTarget.Dwell, VV.fr (List.map vi r1740.1.turns) r1740.1.turns.length, VV.fr (List.map vi r1740.1.positions) r1740.1.positions.length] = 1 * 8 /\ (y5.length + 1) * 104 <= 140737488355328 /\ y5.length + 1 < 1099511627776 /\ List.all [vs r1740.1.SkyTarget.Name, vi r1740.1.SkyTarget.Azimuth, vi r1740.1.SkyTarget.Height, vi r1740.1.SkyTarget.From, vi r1740.1.SkyTarget.To, vi r1740.1.SkyTarget.Dwell, VV.fr (List.map vi r1740.1.turns) r1740.1.turns.length, VV.fr (List.map vi r1740.1.positions) r1740.1.positions.length] VV.still = true from ⟨(by rw [flatMap_len len_g_Sstop] <;> simp), (by rw [show [vs r1740.1.SkyTarget.Name, vi r1740.1.SkyTarget.Azimuth, vi r1740.1.SkyTarget.Height, vi r1740.1.SkyTarget.From, vi r1740.1.SkyTarget.To, vi r1740.1.SkyTarget.Dwell, VV.fr (List.map vi r1740.1.turns) r1740.1.turns.length, VV.fr (List.map vi r1740.1.positions) r1740.1.positions.length] = List.flatMap g_Sstop ([r1740.1] : List Sstop) from rfl]; rw [flatMap_len len_g_Sstop] <;> simp), by simp at h1745 ⊢; omega, by simp at h1745 ⊢; omega, (by rw [show [vs r1740.1.SkyTarget.Name, vi r1740.1.SkyTarget.Azimuth, vi r1740.1.SkyTarget.Height, vi r1740.1.SkyTarget.From, vi r1740.1.SkyTarget.To, vi r1740.1.SkyTarget.Dwell, VV.fr (List.map vi r1740.1.turns) r1740.1.turns.length, VV.fr (List.map vi r1740.1.positions) r1740.1.positions.length] = List.flatMap g_Sstop ([r1740.1] : List Sstop) from rfl]; exact still_g_Sstop _)⟩)
     have h2 := ih _ _ _ h
     obtain ⟨q, hv, hq⟩ := pkR (rd := none) (P := Go.Proofs.Try.prog) (fn := Go.Proofs.Try.f114) (k := 0) (s := (npoint_tourOf_l0_0_h a0 a1 a2 y5 x52)) (ans := [.reg (.n :: []), .br true, .reg (.n :: .n :: .v (VV.ag (c_SSkyTarget (a1.getD x52.toNat default))) :: nN 3 []), .reg (arB4_1 a1 x52 r1736), .reg (.n :: .n :: []), .br false, .reg (nN 3 (.call (VV.tu [VV.ag (g_Sstop r1740.1), vi r1740.2]) :: nN 6 [])), .reg (.n :: .n :: []), .br false, .reg (nN 7 []), .reg (.n :: .n :: [])]) (c := ⟨[(1, none), (3, none), (6, none), (10, none), (13, none), (50, none), (51, none), (52, none)], [none, none, none, none, some [vi a2.e1, VV.rf 5 0 ((y5 ++ ([r1740.1] : List Sstop)).length)], some (List.flatMap g_Sstop (y5 ++ ([r1740.1] : List Sstop)))], []⟩) (e := .normal) (s1 := (npoint_tourOf_l0_0_h a0 a1 a2 (y5 ++ ([r1740.1] : List Sstop)) (w64 (x52 + 1)))) (an (an (ti trivial) (an (an (decide_eq_true h1731) trivial) (an (an (ti (an h1732 (an e1733 (ti (ti (ti trivial)))))) (an (an (ti (ti (an e1735 (ti (an e1738 (ti trivial)))))) (an (ti (ti trivial)) (an (not_f (decide_eq_true h1739)) trivial))) (an e1743 (an (an (ti (ti trivial)) (an (not_f (decide_eq_true h1744)) trivial)) (ti (ti (ti (ti (an e1746 (ti (ti trivial))))))))))) (ti (ti trivial))))) (ti (an (show [vi a2.e1, VV.rf 5 0 (y5.length + 1)] = [vi a2.e1, VV.rf 5 0 ((y5 ++ ([r1740.1] : List Sstop)).length)] from (by first | rfl | simp)) (an (show (List.flatMap g_Sstop y5) ++ [vs r1740.1.SkyTarget.Name, vi r1740.1.SkyTarget.Azimuth, vi r1740.1.SkyTarget.Height, vi r1740.1.SkyTarget.From, vi r1740.1.SkyTarget.To, vi r1740.1.SkyTarget.Dwell, VV.fr (List.map vi r1740.1.turns) r1740.1.turns.length, VV.fr (List.map vi r1740.1.positions) r1740.1.positions.length] = List.flatMap g_Sstop (y5 ++ ([r1740.1] : List Sstop)) from (by rw [show [vs r1740.1.SkyTarget.Name, vi r1740.1.SkyTarget.Azimuth, vi r1740.1.SkyTarget.Height, vi r1740.1.SkyTarget.From, vi r1740.1.SkyTarget.To, vi r1740.1.SkyTarget.Dwell, VV.fr (List.map vi r1740.1.turns) r1740.1.turns.length, VV.fr (List.map vi r1740.1.positions) r1740.1.positions.length] = List.flatMap g_Sstop ([r1740.1] : List Sstop) from rfl]; exact List.flatMap_append.symm)) trivial)))) (by kernel_rfl)
     cases r with
     | inl r => exact round_next pm pn hv hq h2
     | inr r =>
      exact round_next pm pn hv hq h2
    ·injection h with h; subst h
     exact round_stop (c := ⟨[(6, none), (7, none), (8, none)], [none, none, none], []⟩) (s1 := (npoint_tourOf_l0_0_e0 a0 a1 a2 (x52, r1740.2))) pm pn (ans := [.reg (.n :: []), .br true, .reg (.n :: .n :: .v (VV.ag (c_SSkyTarget (a1.getD x52.toNat default))) :: nN 3 []), .reg (arB4_1 a1 x52 r1736), .reg (.n :: .n :: []), .br false, .reg (nN 3 (.call (VV.tu [VV.ag (g_Sstop r1740.1), vi r1740.2]) :: nN 6 [])), .reg (.n :: .n :: []), .br true, .reg (nN 6 [])]) (by kernel_rfl) (by intro e; cases e) (an (an (ti trivial) (an (an (decide_eq_true h1731) trivial) (an (ti (an h1732 (an e1733 (ti (ti (ti trivial)))))) (an (an (ti (ti (an e1735 (ti (an e1738 (ti trivial)))))) (an (ti (ti trivial)) (an (not_f (decide_eq_true h1739)) trivial))) (an e1743 (an (ti (ti trivial)) (an (not_t (decide_eq_false h1744)) (an (ti (ti (ti (ti (ti (ti trivial)))))) trivial)))))))) (ti trivial))
   ·injection h with h; subst h
    exact round_stop (c := ⟨[(6, none), (7, none), (8, none)], [none, none, none], []⟩) (s1 := (npoint_tourOf_l0_0_e0 a0 a1 a2 (x52, r1736))) pm pn (ans := [.reg (.n :: []), .br true, .reg (.n :: .n :: .v (VV.ag (c_SSkyTarget (a1.getD x52.toNat default))) :: nN 3 []), .reg (arB4_1 a1 x52 r1736), .reg (.n :: .n :: []), .br true, .reg (nN 6 [])]) (by kernel_rfl) (by intro e; cases e) (an (an (ti trivial) (an (an (decide_eq_true h1731) trivial) (an (ti (an h1732 (an e1733 (ti (ti (ti trivial)))))) (an (ti (ti (an e1735 (ti (an e1738 (ti trivial)))))) (an (ti (ti trivial)) (an (not_t (decide_eq_false h1739)) (an (ti (ti (ti (ti (ti (ti trivial)))))) trivial))))))) (ti trivial))
  ·injection h with h; subst h
   exact round_stop (c := ⟨[(6, none), (13, none)], [none, none, none, none, none, none], []⟩) (s1 := (npoint_tourOf_l0_0_e1 a0 a1 a2 y5)) pm pn (ans := [.reg (.n :: []), .br false]) (by kernel_rfl) (by intro e; cases e) (an (an (ti trivial) (an (decide_eq_false h1731) trivial)) (ti trivial))
theorem eqB4_4 (z0 : A23) (z1 : (List Sstop)) : VV.tu [VV.ag [vi z0.e1, VV.fw 8 (List.drop 0 (List.map unfr (List.flatMap g_Sstop z1))) z1.length], vi 0, vi 0] = VV.tu [VV.ag [vi ((⟨z0.e1, z1⟩ : Stour).begin), VV.fw 8 (List.flatMap c_Sstop ((⟨z0.e1, z1⟩ : Stour).stops)) (((⟨z0.e1, z1⟩ : Stour).stops).length)], vi 0, vi 0] := by first | rfl | simp only [drop0, unfr_vi, List.map_cons, List.map_nil, un_i, List.length_map, List.length_cons, List.length_nil, unfr_c_Sstop, unfr_g_Sstop]
def npoint_tourOf (k : Nat) (a0 : SSkyMount) (a1 : (List SSkyTarget)) (a2 : A23) : Option (Stour × Int × Int) :=
 (npoint_CheckMount k a0).bind fun r1667 => (if r1667 = 0 then ((npoint_checkDay k a2.e0).bind fun r1673 => (if r1673 = 0 then ((npoint_areWithin k a0.Least a0.Most ([a2.e1] : List Int)).bind fun r1677 => (if r1677 = true then (if 20 < (a1.length : Int) then (some ((⟨0, []⟩ : Stour), 0, 8)) else ((npoint_tourOf_l0_0 k a0 a1 a2 k ([] : List Sstop) 0).bind fun r1748 => (match r1748 with | .inl r1749 => (some ((⟨0, []⟩ : Stour), r1749.1, r1749.2)) | .inr r1750 => (some ((⟨a2.e1, r1750⟩ : Stour), 0, 0))))) else (some ((⟨0, []⟩ : Stour), 0, 2)))) else (some ((⟨0, []⟩ : Stour), 0, r1673)))) else (some ((⟨0, []⟩ : Stour), 0, r1667)))
theorem npoint_tourOf_ok (k : Nat) (a0 : SSkyMount) (a1 : (List SSkyTarget)) (a2 : A23) (r : (Stour × Int × Int)) (h : npoint_tourOf k a0 a1 a2 = some r) : VC Go.Proofs.Try.prog 114 [VV.ag (c_SSkyMount a0), VV.tr (List.flatMap c_SSkyTarget a1) a1.length, VV.ag (c_A23 a2)] (VV.tu [VV.ag [vi r.1.begin, VV.fw 8 (List.flatMap c_Sstop r.1.stops) r.1.stops.length], vi r.2.1, vi r.2.2]) := by
 unfold npoint_tourOf at h
 obtain ⟨r1667, h1668, h⟩ := bs h
 have e1669 := (ti (an (npoint_CheckMount_ok k a0 _ h1668) (ti trivial)))
 rcases ifs h with ⟨h1670, h⟩ | ⟨h1670, h⟩
 ·have e1671 := (show (0:Int) <= 0 /\ (0:Int) < ((2 : Nat) : Int) from ⟨by decide, by decide⟩)
  have e1672 := (show (0:Int) <= 1 /\ (1:Int) < ((2 : Nat) : Int) from ⟨by decide, by decide⟩)
  obtain ⟨r1673, h1674, h⟩ := bs h
  have e1675 := (ti (an (npoint_checkDay_ok k a2.e0 _ h1674) (ti trivial)))
  rcases ifs h with ⟨h1676, h⟩ | ⟨h1676, h⟩
  ·obtain ⟨r1677, h1678, h⟩ := bs h
   have e1679 := (VC.args (npoint_areWithin_ok k a0.Least a0.Most ([a2.e1] : List Int) _ h1678) (eqB4_1 a0 a2))
   have e1680 := (ti (ti (ti (ti (ti (ti (an e1679 (ti trivial))))))))
   rcases ifs h with ⟨h1681, h⟩ | ⟨h1681, h⟩
   ·rcases ifs h with ⟨h1682, h⟩ | ⟨h1682, h⟩
    ·injection h with h; subst h
     exact fun_ok pm pn Go.Proofs.Try.func114 (r0 := VV.tu [VV.ag [vi 0, VV.c (.slice none 0 0)], vi 0, vi 8]) (ans := [.reg (nN 5 []), .reg (.n :: .call (vi r1667) :: .n :: []), .reg (.n :: .n :: []), .br false, .reg (nN 6 []), .reg (.n :: .call (vi r1673) :: .n :: []), .reg (.n :: .n :: []), .br false, .reg (nN 6 (.call (vb r1677) :: .n :: [])), .br false, .reg (nN 3 []), .br true, .reg (nN 4 [])]) (fr := true) (by kernel_rfl) (an (an (ti (ti (ti (ti (ti trivial))))) (an (an e1669 (an (ti (ti trivial)) (an (not_f (decide_eq_true h1670)) trivial))) (an (an e1671 (ti (an e1672 (ti (ti (ti trivial)))))) (an (an e1675 (an (ti (ti trivial)) (an (not_f (decide_eq_true h1676)) trivial))) (an (an e1680 (an (not_f h1681) trivial)) (an (ti (ti (ti trivial))) (an (decide_eq_true h1682) (an (ti (ti (ti (ti trivial)))) trivial)))))))) (an (ti (ti (ti trivial))) (ti (ti trivial)))) (Wv.tuL (.cons (Wv.agL (.cons (Wv.of_eq eqB4_3) (.cons Wv.nilFw .nil))) (.cons (Wv.refl _) (.cons (Wv.refl _) .nil))))
    ·obtain ⟨r1748, h1747, h⟩ := bs h
     have hph1747 := npoint_tourOf_l0_0_ok k a0 a1 a2 _ _ _ _ h1747
     cases r1748 with
     | inl r1749 =>
      dsimp only at h
      have e1751 := (an (ti trivial) (VRun.loop hph1747))
      injection h with h; subst h
      exact fun_ok pm pn Go.Proofs.Try.func114 (r0 := VV.tu [VV.ag [vi 0, VV.c (.slice none 0 0)], vi r1749.1, vi r1749.2]) (ans := [.reg (nN 5 []), .reg (.n :: .call (vi r1667) :: .n :: []), .reg (.n :: .n :: []), .br false, .reg (nN 6 []), .reg (.n :: .call (vi r1673) :: .n :: []), .reg (.n :: .n :: []), .br false, .reg (nN 6 (.call (vb r1677) :: .n :: [])), .br false, .reg (nN 3 []), .br false, .reg (nN 4 []), .reg (nN 3 []), .sub ⟨[(1, none), (3, none), (6, none), (10, none), (13, none), (50, none), (51, none), (52, none)], [none, none, none, none, none], [.b 4 1 8]⟩ .ret (npoint_tourOf_l0_0_e0 a0 a1 a2 r1749)]) (fr := true) (by kernel_rfl) (an (an (ti (ti (ti (ti (ti trivial))))) (an (an e1669 (an (ti (ti trivial)) (an (not_f (decide_eq_true h1670)) trivial))) (an (an e1671 (ti (an e1672 (ti (ti (ti trivial)))))) (an (an e1675 (an (ti (ti trivial)) (an (not_f (decide_eq_true h1676)) trivial))) (an (an e1680 (an (not_f h1681) trivial)) (an (an (ti (ti (ti trivial))) (an (decide_eq_false h1682) trivial)) (an (ti (ti (ti (ti trivial)))) (an (ti (ti (ti trivial))) e1751)))))))) (an (ti (ti (ti trivial))) (ti (ti trivial)))) (Wv.tuL (.cons (Wv.agL (.cons (Wv.of_eq eqB4_3) (.cons Wv.nilFw .nil))) (.cons (Wv.refl _) (.cons (Wv.refl _) .nil))))
     | inr r1750 =>
      dsimp only at h
      have e1752 := (an (ti trivial) (VRun.loop hph1747))
      injection h with h; subst h
      exact fun_ok pm pn Go.Proofs.Try.func114 (r0 := VV.tu [VV.ag [vi a2.e1, VV.fw 8 (List.drop 0 (List.map unfr (List.flatMap g_Sstop r1750))) r1750.length], vi 0, vi 0]) (ans := [.reg (nN 5 []), .reg (.n :: .call (vi r1667) :: .n :: []), .reg (.n :: .n :: []), .br false, .reg (nN 6 []), .reg (.n :: .call (vi r1673) :: .n :: []), .reg (.n :: .n :: []), .br false, .reg (nN 6 (.call (vb r1677) :: .n :: [])), .br false, .reg (nN 3 []), .br false, .reg (nN 4 []), .reg (nN 3 []), .sub ⟨[(1, none), (3, none), (6, none), (10, none), (13, none), (50, none), (51, none), (52, none)], [none, none, none, none, none], [.b 4 1 8]⟩ (.exit 0) (npoint_tourOf_l0_0_e1 a0 a1 a2 r1750), .reg (nN 4 [])]) (fr := true) (by kernel_rfl) (an (an (ti (ti (ti (ti (ti trivial))))) (an (an e1669 (an (ti (ti trivial)) (an (not_f (decide_eq_true h1670)) trivial))) (an (an e1671 (ti (an e1672 (ti (ti (ti trivial)))))) (an (an e1675 (an (ti (ti trivial)) (an (not_f (decide_eq_true h1676)) trivial))) (an (an e1680 (an (not_f h1681) trivial)) (an (an (ti (ti (ti trivial))) (an (decide_eq_false h1682) trivial)) (an (ti (ti (ti (ti trivial)))) (an (an (ti (ti (ti trivial))) e1752) (an (ti (ti (ti (ti trivial)))) trivial))))))))) (an (ti (ti (an (show List.all (List.flatMap g_Sstop r1750) new0 = true from (by exact new0_g_Sstop _)) trivial))) (ti (ti trivial)))) (Wv.of_eq (eqB4_4 a2 r1750))
   ·injection h with h; subst h
    exact fun_ok pm pn Go.Proofs.Try.func114 (r0 := VV.tu [VV.ag [vi 0, VV.c (.slice none 0 0)], vi 0, vi 2]) (ans := [.reg (nN 5 []), .reg (.n :: .call (vi r1667) :: .n :: []), .reg (.n :: .n :: []), .br false, .reg (nN 6 []), .reg (.n :: .call (vi r1673) :: .n :: []), .reg (.n :: .n :: []), .br false, .reg (nN 6 (.call (vb r1677) :: .n :: [])), .br true, .reg (nN 4 [])]) (fr := true) (by kernel_rfl) (an (an (ti (ti (ti (ti (ti trivial))))) (an (an e1669 (an (ti (ti trivial)) (an (not_f (decide_eq_true h1670)) trivial))) (an (an e1671 (ti (an e1672 (ti (ti (ti trivial)))))) (an (an e1675 (an (ti (ti trivial)) (an (not_f (decide_eq_true h1676)) trivial))) (an e1680 (an (not_t (bool_f h1681)) (an (ti (ti (ti (ti trivial)))) trivial))))))) (an (ti (ti (ti trivial))) (ti (ti trivial)))) (Wv.tuL (.cons (Wv.agL (.cons (Wv.of_eq eqB4_3) (.cons Wv.nilFw .nil))) (.cons (Wv.refl _) (.cons (Wv.refl _) .nil))))
  ·injection h with h; subst h
   exact fun_ok pm pn Go.Proofs.Try.func114 (r0 := VV.tu [VV.ag [vi 0, VV.c (.slice none 0 0)], vi 0, vi r1673]) (ans := [.reg (nN 5 []), .reg (.n :: .call (vi r1667) :: .n :: []), .reg (.n :: .n :: []), .br false, .reg (nN 6 []), .reg (.n :: .call (vi r1673) :: .n :: []), .reg (.n :: .n :: []), .br true, .reg (nN 5 [])]) (fr := true) (by kernel_rfl) (an (an (ti (ti (ti (ti (ti trivial))))) (an (an e1669 (an (ti (ti trivial)) (an (not_f (decide_eq_true h1670)) trivial))) (an (an e1671 (ti (an e1672 (ti (ti (ti trivial)))))) (an e1675 (an (ti (ti trivial)) (an (not_t (decide_eq_false h1676)) (an (ti (ti (ti (ti (ti trivial))))) trivial))))))) (an (ti (ti (ti trivial))) (ti (ti trivial)))) (Wv.tuL (.cons (Wv.agL (.cons (Wv.of_eq eqB4_3) (.cons Wv.nilFw .nil))) (.cons (Wv.refl _) (.cons (Wv.refl _) .nil))))
 ·injection h with h; subst h
  exact fun_ok pm pn Go.Proofs.Try.func114 (r0 := VV.tu [VV.ag [vi 0, VV.c (.slice none 0 0)], vi 0, vi r1667]) (ans := [.reg (nN 5 []), .reg (.n :: .call (vi r1667) :: .n :: []), .reg (.n :: .n :: []), .br true, .reg (nN 5 [])]) (fr := true) (by kernel_rfl) (an (an (ti (ti (ti (ti (ti trivial))))) (an e1669 (an (ti (ti trivial)) (an (not_t (decide_eq_false h1670)) (an (ti (ti (ti (ti (ti trivial))))) trivial))))) (an (ti (ti (ti trivial))) (ti (ti trivial)))) (Wv.tuL (.cons (Wv.agL (.cons (Wv.of_eq eqB4_3) (.cons Wv.nilFw .nil))) (.cons (Wv.refl _) (.cons (Wv.refl _) .nil))))
def arB4_2 (z0 : (List SSkyTarget)) (z1 : Int) (z2 : Int) : List Ans := (nN 4 (.v (vs ((z0.getD z1.toNat default).Name)) :: nN 4 (.v (vs ((z0.getD z2.toNat default).Name)) :: .n :: [])))
def arB4_3 (z0 : (List SSkyTarget)) (z1 : Int) (z2 : Int) : List Ans := (nN 3 (.v (VV.ag (c_SSkyTarget (z0.getD z1.toNat default))) :: .call (vi z2) :: .n :: []))
def arB4_4 (z0 : (List SSkyTarget)) (z1 : Int) (z2 : ((List Int) × Int)) : List Ans := (nN 4 (.v (VV.ag (c_SSkyTarget (z0.getD z1.toNat default))) :: .n :: .n :: .call (VV.tu [VV.fr (List.map vi z2.1) z2.1.length, vi z2.2]) :: nN 5 []))
def nspeculumref09_CheckTour_l1_0_h (a0 : SSkyMount) (a1 : (List SSkyTarget)) (a2 : A23) (x9 : Int) (x11 : Int) : VS := ⟨mkA [(1, VV.tr (List.flatMap c_SSkyTarget a1) a1.length), (3, VV.pt 0 0), (5, VV.pt 1 0), (9, vi x9), (11, vi x11)], [some ⟨true, 1, c_SSkyMount a0⟩, some ⟨true, 1, c_A23 a2⟩], .nil⟩
def nspeculumref09_CheckTour_l1_0_e0 (a0 : SSkyMount) (a1 : (List SSkyTarget)) (a2 : A23) (x9 : Int) (r : Unit) : VS := ⟨mkA [(6, vi x9), (7, vi 5)], [], .nil⟩
def nspeculumref09_CheckTour_l1_0_e1 (a0 : SSkyMount) (a1 : (List SSkyTarget)) (a2 : A23) (x9 : Int) (r : Unit) : VS := ⟨mkA [(1, VV.tr (List.flatMap c_SSkyTarget a1) a1.length), (3, VV.pt 0 0), (5, VV.pt 1 0), (9, vi x9)], [some ⟨true, 1, c_SSkyMount a0⟩, some ⟨true, 1, c_A23 a2⟩], .nil⟩
def nspeculumref09_CheckTour_l1_0 (k : Nat) (a0 : SSkyMount) (a1 : (List SSkyTarget)) (a2 : A23) (x9 : Int) : Nat -> Int -> Option (Sum Unit Unit)
 | 0, _ => none
 | fuel + 1, x11 => if x11 < x9 then (if 0 <= x11 /\ x11 < (a1.length : Int) then (if 0 <= x9 /\ x9 < (a1.length : Int) then (if ((a1.getD x11.toNat default).Name) = ((a1.getD x9.toNat default).Name) then (some (.inl ())) else (nspeculumref09_CheckTour_l1_0 k a0 a1 a2 x9 fuel (w64 (x11 + 1)))) else none) else none) else (some (.inr ()))
theorem nspeculumref09_CheckTour_l1_0_ok (k : Nat) (a0 : SSkyMount) (a1 : (List SSkyTarget)) (a2 : A23) (x9 : Int) : ∀ (fuel : Nat) (x11 : Int) (r : Sum Unit Unit), nspeculumref09_CheckTour_l1_0 k a0 a1 a2 x9 fuel x11 = some r -> (match r with | .inl r => VLoop none Go.Proofs.Try.prog (szF Go.Proofs.Try.f67) (bodyOf Go.Proofs.Try.f67 1) (nspeculumref09_CheckTour_l1_0_h a0 a1 a2 x9 x11) .ret (nspeculumref09_CheckTour_l1_0_e0 a0 a1 a2 x9 r) | .inr r => VLoop none Go.Proofs.Try.prog (szF Go.Proofs.Try.f67) (bodyOf Go.Proofs.Try.f67 1) (nspeculumref09_CheckTour_l1_0_h a0 a1 a2 x9 x11) (.exit 2) (nspeculumref09_CheckTour_l1_0_e1 a0 a1 a2 x9 r)) := by
 intro fuel
 induction fuel with
 | zero => intro x11 r h; rw [nspeculumref09_CheckTour_l1_0.eq_1] at h; cases h
 | succ fuel ih =>
  intro x11 r h
  rw [nspeculumref09_CheckTour_l1_0.eq_2] at h
  rcases ifs h with ⟨h1976, h⟩ | ⟨h1976, h⟩
  ·obtain ⟨h1977, h⟩ := ifn h
   have e1978 := (show loadL Go.Proofs.Try.prog 9 (x11.toNat * 6 + 0) (List.flatMap c_SSkyTarget a1) = some (vs ((a1.getD x11.toNat default).Name)) from (ld_flat ag9 c_SSkyTarget 6 0 len_c_SSkyTarget (by omega) a1 default h1977 (by omega)).trans rfl)
   obtain ⟨h1979, h⟩ := ifn h
   have e1980 := (show loadL Go.Proofs.Try.prog 9 (x9.toNat * 6 + 0) (List.flatMap c_SSkyTarget a1) = some (vs ((a1.getD x9.toNat default).Name)) from (ld_flat ag9 c_SSkyTarget 6 0 len_c_SSkyTarget (by omega) a1 default h1979 (by omega)).trans rfl)
   have e1981 := (ti (ti (an h1977 (ti (an e1978 (ti (ti (an h1979 (ti (an e1980 (ti trivial)))))))))))
   rcases ifs h with ⟨h1982, h⟩ | ⟨h1982, h⟩
   ·injection h with h; subst h
    exact round_stop (c := ⟨[(6, none), (7, none)], [], []⟩) (s1 := (nspeculumref09_CheckTour_l1_0_e0 a0 a1 a2 x9 ())) pm pn (ans := [.reg (nN 3 []), .br true, .reg (arB4_2 a1 x11 x9), .br true, .reg (nN 3 [])]) (by kernel_rfl) (by intro e; cases e) (an (an (an (ti (ti (ti trivial))) (an (decide_eq_true h1976) trivial)) (an e1981 (an (decide_eq_true h1982) (an (ti (ti (ti trivial))) trivial)))) (ti trivial))
   ·have h2 := ih _ _ h
    obtain ⟨q, hv, hq⟩ := pkR (rd := none) (P := Go.Proofs.Try.prog) (fn := Go.Proofs.Try.f67) (k := 1) (s := (nspeculumref09_CheckTour_l1_0_h a0 a1 a2 x9 x11)) (ans := [.reg (nN 3 []), .br true, .reg (arB4_2 a1 x11 x9), .br false, .reg (nN 3 [])]) (c := ⟨[(1, none), (3, none), (5, none), (9, none), (11, none)], [none, none], []⟩) (e := .normal) (s1 := (nspeculumref09_CheckTour_l1_0_h a0 a1 a2 x9 (w64 (x11 + 1)))) (an (an (an (ti (ti (ti trivial))) (an (decide_eq_true h1976) trivial)) (an (an e1981 (an (decide_eq_false h1982) trivial)) (ti (ti (ti trivial))))) (ti trivial)) (by kernel_rfl)
    cases r with
    | inl r => exact round_next pm pn hv hq h2
    | inr r =>
     exact round_next pm pn hv hq h2
  ·injection h with h; subst h
   exact round_stop (c := ⟨[(1, none), (3, none), (5, none), (9, none)], [none, none], []⟩) (s1 := (nspeculumref09_CheckTour_l1_0_e1 a0 a1 a2 x9 ())) pm pn (ans := [.reg (nN 3 []), .br false]) (by kernel_rfl) (by intro e; cases e) (an (an (ti (ti (ti trivial))) (an (decide_eq_false h1976) trivial)) (ti trivial))
def nspeculumref09_CheckTour_l0_0_h (a0 : SSkyMount) (a1 : (List SSkyTarget)) (a2 : A23) (x9 : Int) : VS := ⟨mkA [(1, VV.tr (List.flatMap c_SSkyTarget a1) a1.length), (3, VV.pt 0 0), (5, VV.pt 1 0), (9, vi x9)], [some ⟨true, 1, c_SSkyMount a0⟩, some ⟨true, 1, c_A23 a2⟩], .nil⟩
def nspeculumref09_CheckTour_l0_0_e0 (a0 : SSkyMount) (a1 : (List SSkyTarget)) (a2 : A23) (r : Int × Int) : VS := ⟨mkA [(6, vi r.1), (7, vi r.2)], [], .nil⟩
def nspeculumref09_CheckTour_l0_0_e1 (a0 : SSkyMount) (a1 : (List SSkyTarget)) (a2 : A23) (r : Unit) : VS := ⟨mkA [], [], .nil⟩
def nspeculumref09_CheckTour_l0_0 (k : Nat) (a0 : SSkyMount) (a1 : (List SSkyTarget)) (a2 : A23) : Nat -> Int -> Option (Sum (Int × Int) Unit)
 | 0, _ => none
 | fuel + 1, x9 => if x9 < (a1.length : Int) then (if 0 <= x9 /\ x9 < (a1.length : Int) then ((nspeculumref09_CheckTarget k (a1.getD x9.toNat default)).bind fun r1957 => (if r1957 = 0 then ((nspeculumref09_CheckTour_l1_0 k a0 a1 a2 x9 k 0).bind fun r1984 => (match r1984 with | .inl r1985 => (some (.inl (x9, 5))) | .inr r1986 => ((nspeculumref09_Turns k a0 (a1.getD x9.toNat default) a2.e0).bind fun r1991 => (if r1991.2 = 0 then (nspeculumref09_CheckTour_l0_0 k a0 a1 a2 fuel (w64 (x9 + 1))) else (some (.inl (x9, r1991.2))))))) else (some (.inl (x9, r1957))))) else none) else (some (.inr ()))
theorem nspeculumref09_CheckTour_l0_0_ok (k : Nat) (a0 : SSkyMount) (a1 : (List SSkyTarget)) (a2 : A23) : ∀ (fuel : Nat) (x9 : Int) (r : Sum (Int × Int) Unit), nspeculumref09_CheckTour_l0_0 k a0 a1 a2 fuel x9 = some r -> (match r with | .inl r => VLoop none Go.Proofs.Try.prog (szF Go.Proofs.Try.f67) (bodyOf Go.Proofs.Try.f67 0) (nspeculumref09_CheckTour_l0_0_h a0 a1 a2 x9) .ret (nspeculumref09_CheckTour_l0_0_e0 a0 a1 a2 r) | .inr r => VLoop none Go.Proofs.Try.prog (szF Go.Proofs.Try.f67) (bodyOf Go.Proofs.Try.f67 0) (nspeculumref09_CheckTour_l0_0_h a0 a1 a2 x9) (.exit 0) (nspeculumref09_CheckTour_l0_0_e1 a0 a1 a2 r)) := by
 intro fuel
 induction fuel with
 | zero => intro x9 r h; rw [nspeculumref09_CheckTour_l0_0.eq_1] at h; cases h
 | succ fuel ih =>
  intro x9 r h
  rw [nspeculumref09_CheckTour_l0_0.eq_2] at h
  rcases ifs h with ⟨h1954, h⟩ | ⟨h1954, h⟩
  ·obtain ⟨h1955, h⟩ := ifn h
   have e1956 := (show loadL Go.Proofs.Try.prog 83 (x9.toNat * 6) (List.flatMap c_SSkyTarget a1) = some (VV.ag (c_SSkyTarget (a1.getD x9.toNat default))) from ld_whole ag83 c_SSkyTarget 6 sz83 len_c_SSkyTarget a1 default h1955 (by omega))
   obtain ⟨r1957, h1958, h⟩ := bs h
   have e1959 := (nspeculumref09_CheckTarget_ok k (a1.getD x9.toNat default) _ h1958)
   have e1960 := (ti (ti (an h1955 (an e1956 (an e1959 (ti trivial))))))
   rcases ifs h with ⟨h1961, h⟩ | ⟨h1961, h⟩
   ·obtain ⟨r1984, h1983, h⟩ := bs h
    have hph1983 := nspeculumref09_CheckTour_l1_0_ok k a0 a1 a2 x9 _ _ _ h1983
    cases r1984 with
    | inl r1985 =>
     dsimp only at h
     have e1987 := (an (ti trivial) (VRun.loop hph1983))
     injection h with h; subst h
     exact round_stop (c := ⟨[(6, none), (7, none)], [], []⟩) (s1 := (nspeculumref09_CheckTour_l0_0_e0 a0 a1 a2 (x9, 5))) pm pn (ans := [.reg (nN 4 []), .br true, .reg (arB4_3 a1 x9 r1957), .reg (.n :: .n :: []), .br false, .reg (.n :: []), .sub ⟨[(1, none), (3, none), (5, none), (9, none), (11, none)], [none, none], []⟩ .ret (nspeculumref09_CheckTour_l1_0_e0 a0 a1 a2 x9 r1985)]) (by kernel_rfl) (by intro e; cases e) (an (an (an (ti (ti (ti (ti trivial)))) (an (decide_eq_true h1954) trivial)) (an (an e1960 (an (ti (ti trivial)) (an (not_f (decide_eq_true h1961)) trivial))) (an (ti trivial) e1987))) (ti trivial))
    | inr r1986 =>
     dsimp only at h
     have e1988 := (an (ti trivial) (VRun.loop hph1983))
     have e1989 := (show loadL Go.Proofs.Try.prog 83 (x9.toNat * 6) (List.flatMap c_SSkyTarget a1) = some (VV.ag (c_SSkyTarget (a1.getD x9.toNat default))) from ld_whole ag83 c_SSkyTarget 6 sz83 len_c_SSkyTarget a1 default h1955 (by omega))
     have e1990 := (show (0:Int) <= 0 /\ (0:Int) < ((2 : Nat) : Int) from ⟨by decide, by decide⟩)
     obtain ⟨r1991, h1992, h⟩ := bs h
     have e1993 := (show VC Go.Proofs.Try.prog 59 [VV.ag (c_SSkyMount a0), VV.ag (c_SSkyTarget (a1.getD x9.toNat default)), vi a2.e0] (VV.tu [VV.fr (List.map vi r1991.1) r1991.1.length, vi r1991.2]) from (VC.weak (nspeculumref09_Turns_ok k a0 (a1.getD x9.toNat default) a2.e0 _ h1992) (Wv.tuL (.cons (Wv.fw rfl rfl) (.cons (Wv.refl _) .nil)))))
     have e1994 := (ti (ti (ti (an h1955 (an e1989 (an e1990 (ti (an e1993 (ti (ti (ti (ti (ti trivial)))))))))))))
     rcases ifs h with ⟨h1995, h⟩ | ⟨h1995, h⟩
     ·have h2 := ih _ _ h
      obtain ⟨q, hv, hq⟩ := pkR (rd := none) (P := Go.Proofs.Try.prog) (fn := Go.Proofs.Try.f67) (k := 0) (s := (nspeculumref09_CheckTour_l0_0_h a0 a1 a2 x9)) (ans := [.reg (nN 4 []), .br true, .reg (arB4_3 a1 x9 r1957), .reg (.n :: .n :: []), .br false, .reg (.n :: []), .sub ⟨[(1, none), (3, none), (5, none), (9, none), (11, none)], [none, none], []⟩ (.exit 2) (nspeculumref09_CheckTour_l1_0_e1 a0 a1 a2 x9 r1986), .reg (arB4_4 a1 x9 r1991), .reg (.n :: .n :: []), .br false, .reg (nN 3 [])]) (c := ⟨[(1, none), (3, none), (5, none), (9, none)], [none, none], []⟩) (e := .normal) (s1 := (nspeculumref09_CheckTour_l0_0_h a0 a1 a2 (w64 (x9 + 1)))) (an (an (an (ti (ti (ti (ti trivial)))) (an (decide_eq_true h1954) trivial)) (an (an (an e1960 (an (ti (ti trivial)) (an (not_f (decide_eq_true h1961)) trivial))) (an (an (ti trivial) e1988) (an e1994 (an (ti (ti trivial)) (an (not_f (decide_eq_true h1995)) trivial))))) (ti (ti (ti trivial))))) (ti trivial)) (by kernel_rfl)
      cases r with
      | inl r => exact round_next pm pn hv hq h2
      | inr r =>
       exact round_next pm pn hv hq h2
     ·injection h with h; subst h
      exact round_stop (c := ⟨[(6, none), (7, none)], [], []⟩) (s1 := (nspeculumref09_CheckTour_l0_0_e0 a0 a1 a2 (x9, r1991.2))) pm pn (ans := [.reg (nN 4 []), .br true, .reg (arB4_3 a1 x9 r1957), .reg (.n :: .n :: []), .br false, .reg (.n :: []), .sub ⟨[(1, none), (3, none), (5, none), (9, none), (11, none)], [none, none], []⟩ (.exit 2) (nspeculumref09_CheckTour_l1_0_e1 a0 a1 a2 x9 r1986), .reg (arB4_4 a1 x9 r1991), .reg (.n :: .n :: []), .br true, .reg (nN 4 [])]) (by kernel_rfl) (by intro e; cases e) (an (an (an (ti (ti (ti (ti trivial)))) (an (decide_eq_true h1954) trivial)) (an (an e1960 (an (ti (ti trivial)) (an (not_f (decide_eq_true h1961)) trivial))) (an (an (ti trivial) e1988) (an e1994 (an (ti (ti trivial)) (an (not_t (decide_eq_false h1995)) (an (ti (ti (ti (ti trivial)))) trivial))))))) (ti trivial))
   ·injection h with h; subst h
    exact round_stop (c := ⟨[(6, none), (7, none)], [], []⟩) (s1 := (nspeculumref09_CheckTour_l0_0_e0 a0 a1 a2 (x9, r1957))) pm pn (ans := [.reg (nN 4 []), .br true, .reg (arB4_3 a1 x9 r1957), .reg (.n :: .n :: []), .br true, .reg (nN 4 [])]) (by kernel_rfl) (by intro e; cases e) (an (an (an (ti (ti (ti (ti trivial)))) (an (decide_eq_true h1954) trivial)) (an e1960 (an (ti (ti trivial)) (an (not_t (decide_eq_false h1961)) (an (ti (ti (ti (ti trivial)))) trivial))))) (ti trivial))
  ·injection h with h; subst h
   exact round_stop (c := ⟨[], [], []⟩) (s1 := (nspeculumref09_CheckTour_l0_0_e1 a0 a1 a2 ())) pm pn (ans := [.reg (nN 4 []), .br false]) (by kernel_rfl) (by intro e; cases e) (an (an (ti (ti (ti (ti trivial)))) (an (decide_eq_false h1954) trivial)) (ti trivial))
def nspeculumref09_CheckTour (k : Nat) (a0 : SSkyMount) (a1 : (List SSkyTarget)) (a2 : A23) : Option (Int × Int) :=
 (nspeculumref09_CheckMount k a0).bind fun r1878 => (if r1878 = 0 then ((nspeculumref09_IsDay k a2.e0).bind fun r1883 => (if r1883 = true then ((nspeculumbase_Within k a2.e1 a0.Least a0.Most).bind fun r1888 => (if r1888 = true then (if 20 < (a1.length : Int) then (some (0, 8)) else ((nspeculumref09_CheckTour_l0_0 k a0 a1 a2 k 0).bind fun r1997 => (match r1997 with | .inl r1998 => (some (r1998.1, r1998.2)) | .inr r1999 => (some (0, 0))))) else (some (0, 2)))) else (some (0, 2)))) else (some (0, r1878)))
theorem nspeculumref09_CheckTour_ok (k : Nat) (a0 : SSkyMount) (a1 : (List SSkyTarget)) (a2 : A23) (r : (Int × Int)) (h : nspeculumref09_CheckTour k a0 a1 a2 = some r) : VC Go.Proofs.Try.prog 67 [VV.ag (c_SSkyMount a0), VV.tr (List.flatMap c_SSkyTarget a1) a1.length, VV.ag (c_A23 a2)] (VV.tu [vi r.1, vi r.2]) := by
 unfold nspeculumref09_CheckTour at h
 obtain ⟨r1878, h1879, h⟩ := bs h
 have e1880 := (nspeculumref09_CheckMount_ok k a0 _ h1879)
 rcases ifs h with ⟨h1881, h⟩ | ⟨h1881, h⟩
 ·have e1882 := (show (0:Int) <= 0 /\ (0:Int) < ((2 : Nat) : Int) from ⟨by decide, by decide⟩)
  obtain ⟨r1883, h1884, h⟩ := bs h
  have e1885 := (nspeculumref09_IsDay_ok k a2.e0 _ h1884)
  rcases ifs h with ⟨h1886, h⟩ | ⟨h1886, h⟩
  ·have e1887 := (an (not_f h1886) (show (0:Int) <= 1 /\ (1:Int) < ((2 : Nat) : Int) from ⟨by decide, by decide⟩))
   obtain ⟨r1888, h1889, h⟩ := bs h
   have e1890 := (an (not_f h1886) (nspeculumbase_Within_ok k a2.e1 a0.Least a0.Most _ h1889))
   have e1891 := (an e1882 (ti (an e1885 (ti (ti (an e1887 (an (an (not_f h1886) trivial) (an (an (not_f h1886) trivial) (an (an (not_f h1886) trivial) (an (an (not_f h1886) trivial) (an (an (not_f h1886) trivial) (an e1890 (an (an (not_f h1886) trivial) (an (not_f h1886) trivial))))))))))))))
   rcases ifs h with ⟨h1892, h⟩ | ⟨h1892, h⟩
   ·rcases ifs h with ⟨h1893, h⟩ | ⟨h1893, h⟩
    ·injection h with h; subst h
     exact fun_ok pm pn Go.Proofs.Try.func67 (r0 := VV.tu [vi 0, vi 8]) (ans := [.reg (nN 4 []), .reg (.n :: .call (vi r1878) :: .n :: []), .reg (.n :: .n :: []), .br false, .reg (.n :: .n :: .call (vb r1883) :: nN 8 (.call (vb r1888) :: .n :: .b false :: [])), .br false, .reg (nN 3 []), .br true, .reg (.n :: .n :: [])]) (fr := true) (by kernel_rfl) (an (an (ti (ti (ti (ti trivial)))) (an (an (ti (an e1880 (ti trivial))) (an (ti (ti trivial)) (an (not_f (decide_eq_true h1881)) trivial))) (an (an e1891 (an (not_f h1892) trivial)) (an (ti (ti (ti trivial))) (an (decide_eq_true h1893) (an (ti (ti trivial)) trivial)))))) (ti (ti trivial))) (Wv.refl _)
    ·obtain ⟨r1997, h1996, h⟩ := bs h
     have hph1996 := nspeculumref09_CheckTour_l0_0_ok k a0 a1 a2 _ _ _ h1996
     cases r1997 with
     | inl r1998 =>
      dsimp only at h
      have e2000 := (an (ti trivial) (VRun.loop hph1996))
      injection h with h; subst h
      exact fun_ok pm pn Go.Proofs.Try.func67 (r0 := VV.tu [vi r1998.1, vi r1998.2]) (ans := [.reg (nN 4 []), .reg (.n :: .call (vi r1878) :: .n :: []), .reg (.n :: .n :: []), .br false, .reg (.n :: .n :: .call (vb r1883) :: nN 8 (.call (vb r1888) :: .n :: .b false :: [])), .br false, .reg (nN 3 []), .br false, .reg (.n :: []), .sub ⟨[(1, none), (3, none), (5, none), (9, none)], [none, none], []⟩ .ret (nspeculumref09_CheckTour_l0_0_e0 a0 a1 a2 r1998)]) (fr := true) (by kernel_rfl) (an (an (ti (ti (ti (ti trivial)))) (an (an (ti (an e1880 (ti trivial))) (an (ti (ti trivial)) (an (not_f (decide_eq_true h1881)) trivial))) (an (an e1891 (an (not_f h1892) trivial)) (an (an (ti (ti (ti trivial))) (an (decide_eq_false h1893) trivial)) (an (ti trivial) e2000))))) (ti (ti trivial))) (Wv.refl _)
     | inr r1999 =>
      dsimp only at h
      have e2001 := (an (ti trivial) (VRun.loop hph1996))
      injection h with h; subst h
      exact fun_ok pm pn Go.Proofs.Try.func67 (r0 := VV.tu [vi 0, vi 0]) (ans := [.reg (nN 4 []), .reg (.n :: .call (vi r1878) :: .n :: []), .reg (.n :: .n :: []), .br false, .reg (.n :: .n :: .call (vb r1883) :: nN 8 (.call (vb r1888) :: .n :: .b false :: [])), .br false, .reg (nN 3 []), .br false, .reg (.n :: []), .sub ⟨[(1, none), (3, none), (5, none), (9, none)], [none, none], []⟩ (.exit 0) (nspeculumref09_CheckTour_l0_0_e1 a0 a1 a2 r1999), .reg (.n :: .n :: [])]) (fr := true) (by kernel_rfl) (an (an (ti (ti (ti (ti trivial)))) (an (an (ti (an e1880 (ti trivial))) (an (ti (ti trivial)) (an (not_f (decide_eq_true h1881)) trivial))) (an (an e1891 (an (not_f h1892) trivial)) (an (an (ti (ti (ti trivial))) (an (decide_eq_false h1893) trivial)) (an (an (ti trivial) e2001) (an (ti (ti trivial)) trivial)))))) (ti (ti trivial))) (Wv.refl _)
   ·injection h with h; subst h
    exact fun_ok pm pn Go.Proofs.Try.func67 (r0 := VV.tu [vi 0, vi 2]) (ans := [.reg (nN 4 []), .reg (.n :: .call (vi r1878) :: .n :: []), .reg (.n :: .n :: []), .br false, .reg (.n :: .n :: .call (vb r1883) :: nN 8 (.call (vb r1888) :: .n :: .b false :: [])), .br true, .reg (.n :: .n :: [])]) (fr := true) (by kernel_rfl) (an (an (ti (ti (ti (ti trivial)))) (an (an (ti (an e1880 (ti trivial))) (an (ti (ti trivial)) (an (not_f (decide_eq_true h1881)) trivial))) (an e1891 (an (not_t (bool_f h1892)) (an (ti (ti trivial)) trivial))))) (ti (ti trivial))) (Wv.refl _)
  ·have e2002 := (an e1882 (ti (an e1885 (ti (ti (an (not_t (bool_f h1886)) (an (not_t (bool_f h1886)) (an (not_t (bool_f h1886)) (an (not_t (bool_f h1886)) (an (not_t (bool_f h1886)) (an (not_t (bool_f h1886)) (an (not_t (bool_f h1886)) (an (not_t (bool_f h1886)) (an (not_t (bool_f h1886)) trivial))))))))))))))
   injection h with h; subst h
   exact fun_ok pm pn Go.Proofs.Try.func67 (r0 := VV.tu [vi 0, vi 2]) (ans := [.reg (nN 4 []), .reg (.n :: .call (vi r1878) :: .n :: []), .reg (.n :: .n :: []), .br false, .reg (.n :: .n :: .call (vb r1883) :: .n :: .n :: nS 8 (.b true :: [])), .br true, .reg (.n :: .n :: [])]) (fr := true) (by kernel_rfl) (an (an (ti (ti (ti (ti trivial)))) (an (an (ti (an e1880 (ti trivial))) (an (ti (ti trivial)) (an (not_f (decide_eq_true h1881)) trivial))) (an e2002 (an rt (an (ti (ti trivial)) trivial))))) (ti (ti trivial))) (Wv.refl _)
 ·injection h with h; subst h
  exact fun_ok pm pn Go.Proofs.Try.func67 (r0 := VV.tu [vi 0, vi r1878]) (ans := [.reg (nN 4 []), .reg (.n :: .call (vi r1878) :: .n :: []), .reg (.n :: .n :: []), .br true, .reg (nN 3 [])]) (fr := true) (by kernel_rfl) (an (an (ti (ti (ti (ti trivial)))) (an (ti (an e1880 (ti trivial))) (an (ti (ti trivial)) (an (not_t (decide_eq_false h1881)) (an (ti (ti (ti trivial))) trivial))))) (ti (ti trivial))) (Wv.refl _)
end Go.Proofs.Ytlhnkehohknhbaa.Vg

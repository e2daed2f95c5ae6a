/- Written by a program out of the program: what Go functions do, as plain functions, and their contracts. -/
import Derived.Test.YtlhnkehohknhbaaB2
namespace Go.Proofs.Ytlhnkehohknhbaa.Vg
set_option maxRecDepth 100000
set_option maxHeartbeats 4000000
set_option linter.unusedVariables false
set_option linter.unusedSimpArgs false
open Go Go.Proofs.Ytlhnkehohknhbaa.Ev Go.Proofs.Ytlhnkehohknhbaa.Vv
structure STour where
  Mount : SSkyMount
  Targets : (List SSkyTarget)
  At : A23
  deriving Inhabited
def c_STour (x : STour) : List VV := [vi x.Mount.Least, vi x.Mount.Most, vi x.Mount.Low, vi x.Mount.High, vi x.Mount.Speed, VV.tr (List.flatMap c_SSkyRow x.Mount.Refraction) x.Mount.Refraction.length, VV.tr (List.flatMap c_SSkyRow x.Mount.Drift) x.Mount.Drift.length, VV.tr (List.flatMap c_SSkyTarget x.Targets) x.Targets.length, vi x.At.e0, vi x.At.e1]
theorem len_c_STour (x : STour) : (c_STour x).length = 10 := rfl
def g_STour (x : STour) : List VV := [vi x.Mount.Least, vi x.Mount.Most, vi x.Mount.Low, vi x.Mount.High, vi x.Mount.Speed, VV.fr (List.flatMap c_SSkyRow x.Mount.Refraction) x.Mount.Refraction.length, VV.fr (List.flatMap c_SSkyRow x.Mount.Drift) x.Mount.Drift.length, VV.fr (List.flatMap c_SSkyTarget x.Targets) x.Targets.length, vi x.At.e0, vi x.At.e1]
theorem len_g_STour (x : STour) : (g_STour x).length = 10 := rfl
theorem still_c_STour (xs : List STour) : (xs.flatMap c_STour).all VV.still = true := all_flat (fun _ => rfl) xs
theorem still_g_STour (xs : List STour) : (xs.flatMap g_STour).all VV.still = true := all_flat (fun _ => rfl) xs
theorem unfr_c_STour (xs : List STour) : (xs.flatMap c_STour).map unfr = xs.flatMap c_STour := unfr_flat2 (fun _ => rfl) xs
theorem unfr_g_STour (xs : List STour) : (xs.flatMap g_STour).map unfr = xs.flatMap c_STour := unfr_flat2 (fun _ => rfl) xs
theorem new0_g_STour (xs : List STour) : (xs.flatMap g_STour).all new0 = true := all_flat (fun _ => rfl) xs
structure Stour where
  begin : Int
  stops : (List Sstop)
  deriving Inhabited
def c_Stour (x : Stour) : List VV := [vi x.begin, VV.tr (List.flatMap c_Sstop x.stops) x.stops.length]
theorem len_c_Stour (x : Stour) : (c_Stour x).length = 2 := rfl
def g_Stour (x : Stour) : List VV := [vi x.begin, VV.fr (List.flatMap c_Sstop x.stops) x.stops.length]
theorem len_g_Stour (x : Stour) : (g_Stour x).length = 2 := rfl
theorem still_c_Stour (xs : List Stour) : (xs.flatMap c_Stour).all VV.still = true := all_flat (fun _ => rfl) xs
theorem still_g_Stour (xs : List Stour) : (xs.flatMap g_Stour).all VV.still = true := all_flat (fun _ => rfl) xs
theorem unfr_c_Stour (xs : List Stour) : (xs.flatMap c_Stour).map unfr = xs.flatMap c_Stour := unfr_flat2 (fun _ => rfl) xs
theorem unfr_g_Stour (xs : List Stour) : (xs.flatMap g_Stour).map unfr = xs.flatMap c_Stour := unfr_flat2 (fun _ => rfl) xs
theorem new0_g_Stour (xs : List Stour) : (xs.flatMap g_Stour).all new0 = true := all_flat (fun _ => rfl) xs
theorem ag9 : isAggT Go.Proofs.Try.prog 9 = some false := by kernel_rfl
theorem ag83 : isAggT Go.Proofs.Try.prog 83 = some true := by kernel_rfl
theorem sz83 : szOf Go.Proofs.Try.prog 83 = some 6 := by kernel_rfl
def nspeculumlaw09_Short_l0_0_h (a0 : STour) (x3 : Int) : VS := ⟨mkA [(1, VV.pt 0 0), (3, vi x3)], [some ⟨true, 1, [vi a0.Mount.Least, vi a0.Mount.Most, vi a0.Mount.Low, vi a0.Mount.High, vi a0.Mount.Speed, VV.tr (List.flatMap c_SSkyRow a0.Mount.Refraction) a0.Mount.Refraction.length, VV.tr (List.flatMap c_SSkyRow a0.Mount.Drift) a0.Mount.Drift.length, VV.tr (List.flatMap c_SSkyTarget a0.Targets) a0.Targets.length, vi a0.At.e0, vi a0.At.e1]⟩], .nil⟩
def nspeculumlaw09_Short_l0_0_e0 (a0 : STour) (r : Unit) : VS := ⟨mkA [(2, vb false)], [], .nil⟩
def nspeculumlaw09_Short_l0_0_e1 (a0 : STour) (r : Unit) : VS := ⟨mkA [(1, VV.pt 0 0)], [some ⟨true, 1, [vi a0.Mount.Least, vi a0.Mount.Most, vi a0.Mount.Low, vi a0.Mount.High, vi a0.Mount.Speed, VV.tr (List.flatMap c_SSkyRow a0.Mount.Refraction) a0.Mount.Refraction.length, VV.tr (List.flatMap c_SSkyRow a0.Mount.Drift) a0.Mount.Drift.length, VV.tr (List.flatMap c_SSkyTarget a0.Targets) a0.Targets.length, vi a0.At.e0, vi a0.At.e1]⟩], .nil⟩
def nspeculumlaw09_Short_l0_0 (k : Nat) (a0 : STour) : Nat → Int → Option (Sum Unit Unit)
  | 0, _ => none
  | fuel + 1, x3 => if x3 < (a0.Targets.length : Int) then (if 0 ≤ x3 ∧ x3 < (a0.Targets.length : Int) then (if 30 < (((a0.Targets.getD x3.toNat default).Name).size : Int) then (some (.inl ())) else (nspeculumlaw09_Short_l0_0 k a0 fuel (w64 (x3 + 1)))) else none) else (some (.inr ()))
theorem nspeculumlaw09_Short_l0_0_ok (k : Nat) (a0 : STour) : ∀ (fuel : Nat) (x3 : Int) (r : Sum Unit Unit), nspeculumlaw09_Short_l0_0 k a0 fuel x3 = some r → (match r with | .inl r => VLoop none Go.Proofs.Try.prog (szF Go.Proofs.Try.f64) (bodyOf Go.Proofs.Try.f64 0) (nspeculumlaw09_Short_l0_0_h a0 x3) .ret (nspeculumlaw09_Short_l0_0_e0 a0 r) | .inr r => VLoop none Go.Proofs.Try.prog (szF Go.Proofs.Try.f64) (bodyOf Go.Proofs.Try.f64 0) (nspeculumlaw09_Short_l0_0_h a0 x3) (.exit 0) (nspeculumlaw09_Short_l0_0_e1 a0 r)) := by
 intro fuel
 induction fuel with
 | zero => intro x3 r h; rw [nspeculumlaw09_Short_l0_0.eq_1] at h; cases h
 | succ fuel ih =>
  intro x3 r h
  rw [nspeculumlaw09_Short_l0_0.eq_2] at h
  rcases ifs h with ⟨h1522, h⟩ | ⟨h1522, h⟩
  ·obtain ⟨h1523, h⟩ := ifn h
   have e1524 := (show loadL Go.Proofs.Try.prog 9 (x3.toNat * 6 + 0) (List.flatMap c_SSkyTarget a0.Targets) = some (vs ((a0.Targets.getD x3.toNat default).Name)) from (ld_flat ag9 c_SSkyTarget 6 0 len_c_SSkyTarget (by omega) a0.Targets default h1523 (by omega)).trans rfl)
   have e1525 := (ti (ti (ti (an h1523 (ti (an e1524 (ti (ti trivial))))))))
   rcases ifs h with ⟨h1526, h⟩ | ⟨h1526, h⟩
   ·injection h with h; subst h
    exact round_stop (c := ⟨[(2, none)], [], []⟩) (s1 := (nspeculumlaw09_Short_l0_0_e0 a0 ())) pm pn (ans := [.reg (nN 5 []), .br true, .reg (nN 5 (.v (vs ((a0.Targets.getD x3.toNat default).Name)) :: .n :: .n :: [])), .br true, .reg (.n :: [])]) (by kernel_rfl) (by intro e; cases e) (an (an (an (ti (ti (ti (ti (ti trivial))))) (an (decide_eq_true h1522) trivial)) (an e1525 (an (decide_eq_true h1526) (an (ti trivial) trivial)))) (ti trivial))
   ·have h2 := ih _ _ h
    obtain ⟨q, hv, hq⟩ := pkR (rd := none) (P := Go.Proofs.Try.prog) (fn := Go.Proofs.Try.f64) (k := 0) (s := (nspeculumlaw09_Short_l0_0_h a0 x3)) (ans := [.reg (nN 5 []), .br true, .reg (nN 5 (.v (vs ((a0.Targets.getD x3.toNat default).Name)) :: .n :: .n :: [])), .br false, .reg (nN 3 [])]) (c := ⟨[(1, none), (3, none)], [none], []⟩) (e := .normal) (s1 := (nspeculumlaw09_Short_l0_0_h a0 (w64 (x3 + 1)))) (an (an (an (ti (ti (ti (ti (ti trivial))))) (an (decide_eq_true h1522) trivial)) (an (an e1525 (an (decide_eq_false h1526) trivial)) (ti (ti (ti trivial))))) (ti trivial)) (by kernel_rfl)
    cases r with
    | inl r => exact round_next pm pn hv hq h2
    | inr r =>
     exact round_next pm pn hv hq h2
  ·injection h with h; subst h
   exact round_stop (c := ⟨[(1, none)], [none], []⟩) (s1 := (nspeculumlaw09_Short_l0_0_e1 a0 ())) pm pn (ans := [.reg (nN 5 []), .br false]) (by kernel_rfl) (by intro e; cases e) (an (an (ti (ti (ti (ti (ti trivial))))) (an (decide_eq_false h1522) trivial)) (ti trivial))
def nspeculumlaw09_Short (k : Nat) (a0 : STour) : Option Bool :=
  (nspeculumlaw09_Short_l0_0 k a0 k 0).bind fun r1528 => (match r1528 with | .inl r1529 => (some false) | .inr r1530 => ((nspeculumlaw09_Light k a0.Mount).bind fun r1533 => (if r1533 = true then (if (a0.Targets.length : Int) ≤ 5 then (some true) else (if 20 < (a0.Targets.length : Int) then (some (decide ((a0.Targets.length : Int) ≤ 23))) else (some false))) else (some false))))
theorem nspeculumlaw09_Short_ok (k : Nat) (a0 : STour) (r : Bool) (h : nspeculumlaw09_Short k a0 = some r) : VC Go.Proofs.Try.prog 64 [VV.ag [vi a0.Mount.Least, vi a0.Mount.Most, vi a0.Mount.Low, vi a0.Mount.High, vi a0.Mount.Speed, VV.tr (List.flatMap c_SSkyRow a0.Mount.Refraction) a0.Mount.Refraction.length, VV.tr (List.flatMap c_SSkyRow a0.Mount.Drift) a0.Mount.Drift.length, VV.tr (List.flatMap c_SSkyTarget a0.Targets) a0.Targets.length, vi a0.At.e0, vi a0.At.e1]] (vb r) := by
 unfold nspeculumlaw09_Short at h
 obtain ⟨r1528, h1527, h⟩ := bs h
 have hph1527 := nspeculumlaw09_Short_l0_0_ok k a0 _ _ _ h1527
 cases r1528 with
 | inl r1529 =>
  dsimp only at h
  have e1531 := (an (ti trivial) (VRun.loop hph1527))
  injection h with h; subst h
  exact fun_ok pm pn Go.Proofs.Try.func64 (r0 := vb false) (ans := [.reg (.n :: .n :: []), .reg (.n :: []), .sub ⟨[(1, none), (3, none)], [none], []⟩ .ret (nspeculumlaw09_Short_l0_0_e0 a0 r1529)]) (fr := true) (by kernel_rfl) (an (an (ti (ti trivial)) (an (ti trivial) e1531)) (ti trivial)) (Wv.refl _)
 | inr r1530 =>
  dsimp only at h
  have e1532 := (an (ti trivial) (VRun.loop hph1527))
  obtain ⟨r1533, h1534, h⟩ := bs h
  have e1535 := (nspeculumlaw09_Light_ok k a0.Mount _ h1534)
  rcases ifs h with ⟨h1536, h⟩ | ⟨h1536, h⟩
  ·rcases ifs h with ⟨h1537, h⟩ | ⟨h1537, h⟩
   ·have e1538 := (ti (ti (an e1535 (ti (an (an h1536 trivial) (an (an h1536 trivial) (an (an h1536 trivial) (an (decide_eq_true h1537) (an (decide_eq_true h1537) (an (decide_eq_true h1537) (ti (ti (an (decide_eq_true h1537) (an (an h1536 (decide_eq_true h1537)) (an h1536 (ti trivial))))))))))))))))
    injection h with h; subst h
    exact fun_ok pm pn Go.Proofs.Try.func64 (r0 := vb true) (ans := [.reg (.n :: .n :: []), .reg (.n :: []), .sub ⟨[(1, none), (3, none)], [none], []⟩ (.exit 0) (nspeculumlaw09_Short_l0_0_e1 a0 r1530), .reg (nN 4 []), .reg (.n :: .n :: .call (vb r1533) :: nN 4 (nS 6 (.b true :: .b true :: .n :: [])))]) (fr := true) (by kernel_rfl) (an (an (ti (ti trivial)) (an (an (ti trivial) e1532) (an (ti (ti (ti (ti trivial)))) (an e1538 trivial)))) (ti trivial)) (Wv.refl _)
   ·rcases ifs h with ⟨h1539, h⟩ | ⟨h1539, h⟩
    ·have e1540 := (an (decide_eq_false h1537) (decide_eq_true h1539))
     have e1541 := (ti (ti (an e1535 (ti (an (an h1536 trivial) (an (an h1536 trivial) (an (an h1536 trivial) (an (an (decide_eq_false h1537) trivial) (an (an (decide_eq_false h1537) trivial) (an (an (decide_eq_false h1537) trivial) (an (an (decide_eq_true h1539) trivial) (an (an (decide_eq_true h1539) trivial) (an e1540 (an (an h1536 (decide_eq_false h1537)) (an h1536 (ti trivial))))))))))))))))
     injection h with h; subst h
     exact fun_ok pm pn Go.Proofs.Try.func64 (r0 := vb (decide ((a0.Targets.length : Int) ≤ 23))) (ans := [.reg (.n :: .n :: []), .reg (.n :: []), .sub ⟨[(1, none), (3, none)], [none], []⟩ (.exit 0) (nspeculumlaw09_Short_l0_0_e1 a0 r1530), .reg (nN 4 []), .reg (.n :: .n :: .call (vb r1533) :: nN 9 (.b true :: .b false :: .b true :: .n :: []))]) (fr := true) (by kernel_rfl) (an (an (ti (ti trivial)) (an (an (ti trivial) e1532) (an (ti (ti (ti (ti trivial)))) (an e1541 trivial)))) (ti trivial)) (Wv.refl _)
    ·have e1542 := (an (decide_eq_false h1537) (decide_eq_false h1539))
     have e1543 := (ti (ti (an e1535 (ti (an (an h1536 trivial) (an (an h1536 trivial) (an (an h1536 trivial) (an (an (decide_eq_false h1537) trivial) (an (an (decide_eq_false h1537) trivial) (an (an (decide_eq_false h1537) trivial) (an (decide_eq_false h1539) (an (decide_eq_false h1539) (an e1542 (an (an h1536 (decide_eq_false h1537)) (an h1536 (ti trivial))))))))))))))))
     injection h with h; subst h
     exact fun_ok pm pn Go.Proofs.Try.func64 (r0 := vb false) (ans := [.reg (.n :: .n :: []), .reg (.n :: []), .sub ⟨[(1, none), (3, none)], [none], []⟩ (.exit 0) (nspeculumlaw09_Short_l0_0_e1 a0 r1530), .reg (nN 4 []), .reg (.n :: .n :: .call (vb r1533) :: nN 7 (.skip :: .skip :: .b false :: .b false :: .b true :: .n :: []))]) (fr := true) (by kernel_rfl) (an (an (ti (ti trivial)) (an (an (ti trivial) e1532) (an (ti (ti (ti (ti trivial)))) (an e1543 trivial)))) (ti trivial)) (Wv.refl _)
  ·have e1544 := (ti (ti (an e1535 (ti (an (bool_f h1536) (an (bool_f h1536) (an (bool_f h1536) (ti (ti (ti (ti (ti (ti (an (bool_f h1536) (an (bool_f h1536) (ti trivial))))))))))))))))
   injection h with h; subst h
   exact fun_ok pm pn Go.Proofs.Try.func64 (r0 := vb false) (ans := [.reg (.n :: .n :: []), .reg (.n :: []), .sub ⟨[(1, none), (3, none)], [none], []⟩ (.exit 0) (nspeculumlaw09_Short_l0_0_e1 a0 r1530), .reg (nN 4 []), .reg (.n :: .n :: .call (vb r1533) :: .n :: nS 10 (.b false :: .n :: []))]) (fr := true) (by kernel_rfl) (an (an (ti (ti trivial)) (an (an (ti trivial) e1532) (an (ti (ti (ti (ti trivial)))) (an e1544 trivial)))) (ti trivial)) (Wv.refl _)
def nspeculumlaw09_targets (k : Nat) (a0 : (List SSkyTarget)) : Option (List SSkyTarget) :=
  if ([] : List SSkyTarget).length + a0.length ≤ 1000000000 then (some (([] : List SSkyTarget) ++ a0)) else none
theorem nspeculumlaw09_targets_ok (k : Nat) (a0 : (List SSkyTarget)) (r : (List SSkyTarget)) (h : nspeculumlaw09_targets k a0 = some r) : VC Go.Proofs.Try.prog 66 [VV.tr (List.flatMap c_SSkyTarget a0) a0.length] (VV.fw 6 (List.flatMap c_SSkyTarget r) r.length) := by
 unfold nspeculumlaw09_targets at h
 obtain ⟨h1547, h⟩ := ifn h
 have e1548 := (show List.length [] = 0 * 6 ∧ List.length (List.flatMap c_SSkyTarget a0) = a0.length * 6 ∧ (0 + a0.length) * 56 ≤ 140737488355328 ∧ 0 + a0.length < 1099511627776 ∧ List.all (List.flatMap c_SSkyTarget a0) VV.still = true from ⟨(by rw [show [] = List.flatMap c_SSkyTarget ([] : List SSkyTarget) from rfl]; rw [flatMap_len len_c_SSkyTarget] <;> simp), (by rw [flatMap_len len_c_SSkyTarget] <;> simp), by simp at h1547 ⊢; omega, by simp at h1547 ⊢; omega, (by exact still_c_SSkyTarget _)⟩)
 injection h with h; subst h
 exact fun_ok pm pn Go.Proofs.Try.func66 (r0 := VV.fw 6 (List.drop 0 (List.map unfr ([] ++ (List.flatMap c_SSkyTarget a0)))) (0 + a0.length)) (ans := [.reg (.n :: []), .reg (nN 4 [])]) (fr := true) (by kernel_rfl) (an (an (ti trivial) (an (ti (ti (an e1548 (ti trivial)))) trivial)) (an (show List.all ([] ++ (List.flatMap c_SSkyTarget a0)) new0 = true from (by rw [show [] ++ (List.flatMap c_SSkyTarget a0) = List.flatMap c_SSkyTarget (([] : List SSkyTarget) ++ a0) from (by rw [show [] = List.flatMap c_SSkyTarget ([] : List SSkyTarget) from rfl]; exact List.flatMap_append.symm)]; exact new0_c_SSkyTarget _)) trivial)) (Wv.of_eq (by simp only [show [] ++ (List.flatMap c_SSkyTarget a0) = List.flatMap c_SSkyTarget (([] : List SSkyTarget) ++ a0) from (by rw [show [] = List.flatMap c_SSkyTarget ([] : List SSkyTarget) from rfl]; exact List.flatMap_append.symm), drop0, unfr_vi, unfr_vb, unfr_vs, List.map_cons, List.map_nil, un_i, un_k, un_b, un_s, un_tr, un_fr, List.length_map, List.length_replicate, List.length_append, List.length_set, List.length_cons, List.length_nil, unfr_c_SSkyRow, unfr_c_SSkyMount, unfr_g_SSkyMount, unfr_c_SSkyTarget, unfr_c_A23, unfr_c_Sstop, unfr_g_Sstop, unfr_c_STour, unfr_g_STour]))
theorem eqB4_0 (z0 : SSkyMount) (z1 : A23) : [vi z0.Least, vi z0.Most, VV.tr (List.map vi ([z1.e1] : List Int)) (([z1.e1] : List Int).length)] = [vi z0.Least, vi z0.Most, VV.tr (List.drop 0 (List.map unfr [vi z1.e1])) 1] := by first | rfl | simp only [drop0, unfr_vi, List.map_cons, List.map_nil, un_i, un_tr, List.length_map, List.length_cons, List.length_nil]
def npoint_checkBehind_1 (k : Nat) (a0 : SSkyTarget) (q0_0 : ByteArray) (q0_1 : Int) (q0_2 : Int) (q0_3 : Int) (q0_4 : Int) (q0_5 : Int) : Option Bool :=
  some (decide (a0.Name = q0_0))
theorem npoint_checkBehind_1_ok (k : Nat) (a0 : SSkyTarget) (q0_0 : ByteArray) (q0_1 : Int) (q0_2 : Int) (q0_3 : Int) (q0_4 : Int) (q0_5 : Int) (r : Bool) (h : npoint_checkBehind_1 k a0 q0_0 q0_1 q0_2 q0_3 q0_4 q0_5 = some r) : VC Go.Proofs.Try.prog 149 [VV.ag [vs a0.Name, vi a0.Azimuth, vi a0.Height, vi a0.From, vi a0.To, vi a0.Dwell], VV.tp [vs q0_0, vi q0_1, vi q0_2, vi q0_3, vi q0_4, vi q0_5] 0] (vb r) := by
 unfold npoint_checkBehind_1 at h
 have e1578 := (show loadL Go.Proofs.Try.prog 9 0 [vs q0_0, vi q0_1, vi q0_2, vi q0_3, vi q0_4, vi q0_5] = some (vs q0_0) from (ld_one ag9 rfl))
 injection h with h; subst h
 exact fun_ok pm pn Go.Proofs.Try.func149 (r0 := vb (decide (a0.Name = q0_0))) (ans := [.reg (.n :: .n :: []), .reg (nN 3 (.v (vs q0_0) :: .n :: .n :: []))]) (fr := true) (by kernel_rfl) (an (an (ti (ti trivial)) (an (ti (ti (ti (an e1578 (ti (ti trivial)))))) trivial)) (ti trivial)) (Wv.refl _)
def nslices_IndexFunc_api_SkyTarget_api_SkyTarget__c1_149_l0_0_h (a0 : (List SSkyTarget)) (a1_0_0 : ByteArray) (a1_0_1 : Int) (a1_0_2 : Int) (a1_0_3 : Int) (a1_0_4 : Int) (a1_0_5 : Int) (x8 : Int) : VS := ⟨mkA [(0, VV.tr (List.flatMap c_SSkyTarget a0) a0.length), (1, VV.fn 149 [VV.tp [vs a1_0_0, vi a1_0_1, vi a1_0_2, vi a1_0_3, vi a1_0_4, vi a1_0_5] 0]), (7, vi (a0.length : Int)), (8, vi x8)], [], .nil⟩
def nslices_IndexFunc_api_SkyTarget_api_SkyTarget__c1_149_l0_0_e0 (a0 : (List SSkyTarget)) (a1_0_0 : ByteArray) (a1_0_1 : Int) (a1_0_2 : Int) (a1_0_3 : Int) (a1_0_4 : Int) (a1_0_5 : Int) (r : Int) : VS := ⟨mkA [(4, vi r)], [], .nil⟩
def nslices_IndexFunc_api_SkyTarget_api_SkyTarget__c1_149_l0_0_e1 (a0 : (List SSkyTarget)) (a1_0_0 : ByteArray) (a1_0_1 : Int) (a1_0_2 : Int) (a1_0_3 : Int) (a1_0_4 : Int) (a1_0_5 : Int) (r : Unit) : VS := ⟨mkA [], [], .nil⟩
def nslices_IndexFunc_api_SkyTarget_api_SkyTarget__c1_149_l0_0 (k : Nat) (a0 : (List SSkyTarget)) (a1_0_0 : ByteArray) (a1_0_1 : Int) (a1_0_2 : Int) (a1_0_3 : Int) (a1_0_4 : Int) (a1_0_5 : Int) : Nat → Int → Option (Sum Int Unit)
  | 0, _ => none
  | fuel + 1, x8 => if x8 < (a0.length : Int) then (if 0 ≤ x8 ∧ x8 < (a0.length : Int) then ((npoint_checkBehind_1 k (a0.getD x8.toNat default) a1_0_0 a1_0_1 a1_0_2 a1_0_3 a1_0_4 a1_0_5).bind fun r1625 => (if r1625 = true then (some (.inl x8)) else (nslices_IndexFunc_api_SkyTarget_api_SkyTarget__c1_149_l0_0 k a0 a1_0_0 a1_0_1 a1_0_2 a1_0_3 a1_0_4 a1_0_5 fuel (w64 (x8 + 1))))) else none) else (some (.inr ()))
theorem nslices_IndexFunc_api_SkyTarget_api_SkyTarget__c1_149_l0_0_ok (k : Nat) (a0 : (List SSkyTarget)) (a1_0_0 : ByteArray) (a1_0_1 : Int) (a1_0_2 : Int) (a1_0_3 : Int) (a1_0_4 : Int) (a1_0_5 : Int) : ∀ (fuel : Nat) (x8 : Int) (r : Sum Int Unit), nslices_IndexFunc_api_SkyTarget_api_SkyTarget__c1_149_l0_0 k a0 a1_0_0 a1_0_1 a1_0_2 a1_0_3 a1_0_4 a1_0_5 fuel x8 = some r → (match r with | .inl r => VLoop none Go.Proofs.Try.prog (szF Go.Proofs.Try.f154) (bodyOf Go.Proofs.Try.f154 0) (nslices_IndexFunc_api_SkyTarget_api_SkyTarget__c1_149_l0_0_h a0 a1_0_0 a1_0_1 a1_0_2 a1_0_3 a1_0_4 a1_0_5 x8) .ret (nslices_IndexFunc_api_SkyTarget_api_SkyTarget__c1_149_l0_0_e0 a0 a1_0_0 a1_0_1 a1_0_2 a1_0_3 a1_0_4 a1_0_5 r) | .inr r => VLoop none Go.Proofs.Try.prog (szF Go.Proofs.Try.f154) (bodyOf Go.Proofs.Try.f154 0) (nslices_IndexFunc_api_SkyTarget_api_SkyTarget__c1_149_l0_0_h a0 a1_0_0 a1_0_1 a1_0_2 a1_0_3 a1_0_4 a1_0_5 x8) (.exit 0) (nslices_IndexFunc_api_SkyTarget_api_SkyTarget__c1_149_l0_0_e1 a0 a1_0_0 a1_0_1 a1_0_2 a1_0_3 a1_0_4 a1_0_5 r)) := by
 intro fuel
 induction fuel with
 | zero => intro x8 r h; rw [nslices_IndexFunc_api_SkyTarget_api_SkyTarget__c1_149_l0_0.eq_1] at h; cases h
 | succ fuel ih =>
  intro x8 r h
  rw [nslices_IndexFunc_api_SkyTarget_api_SkyTarget__c1_149_l0_0.eq_2] at h
  rcases ifs h with ⟨h1622, h⟩ | ⟨h1622, h⟩
  ·obtain ⟨h1623, h⟩ := ifn h
   have e1624 := (show loadL Go.Proofs.Try.prog 83 (x8.toNat * 6) (List.flatMap c_SSkyTarget a0) = some (VV.ag [vs ((a0.getD x8.toNat default).Name), vi ((a0.getD x8.toNat default).Azimuth), vi ((a0.getD x8.toNat default).Height), vi ((a0.getD x8.toNat default).From), vi ((a0.getD x8.toNat default).To), vi ((a0.getD x8.toNat default).Dwell)]) from ld_whole ag83 c_SSkyTarget 6 sz83 len_c_SSkyTarget a0 default h1623 (by omega))
   obtain ⟨r1625, h1626, h⟩ := bs h
   have e1627 := (npoint_checkBehind_1_ok k (a0.getD x8.toNat default) a1_0_0 a1_0_1 a1_0_2 a1_0_3 a1_0_4 a1_0_5 _ h1626)
   have e1628 := (ti (ti (ti (an h1623 (an e1624 (an e1627 trivial))))))
   rcases ifs h with ⟨h1629, h⟩ | ⟨h1629, h⟩
   ·injection h with h; subst h
    exact round_stop (c := ⟨[(4, none)], [], []⟩) (s1 := (nslices_IndexFunc_api_SkyTarget_api_SkyTarget__c1_149_l0_0_e0 a0 a1_0_0 a1_0_1 a1_0_2 a1_0_3 a1_0_4 a1_0_5 x8)) pm pn (ans := [.reg (.n :: []), .br true, .reg (.n :: .n :: []), .reg (nN 4 (.v (VV.ag [vs ((a0.getD x8.toNat default).Name), vi ((a0.getD x8.toNat default).Azimuth), vi ((a0.getD x8.toNat default).Height), vi ((a0.getD x8.toNat default).From), vi ((a0.getD x8.toNat default).To), vi ((a0.getD x8.toNat default).Dwell)]) :: .call (vb r1625) :: [])), .br true, .reg (.n :: .n :: [])]) (by kernel_rfl) (by intro e; cases e) (an (an (ti trivial) (an (an (decide_eq_true h1622) trivial) (an (ti (ti trivial)) (an e1628 (an h1629 (an (ti (ti trivial)) trivial)))))) (ti trivial))
   ·have h2 := ih _ _ h
    obtain ⟨q, hv, hq⟩ := pkR (rd := none) (P := Go.Proofs.Try.prog) (fn := Go.Proofs.Try.f154) (k := 0) (s := (nslices_IndexFunc_api_SkyTarget_api_SkyTarget__c1_149_l0_0_h a0 a1_0_0 a1_0_1 a1_0_2 a1_0_3 a1_0_4 a1_0_5 x8)) (ans := [.reg (.n :: []), .br true, .reg (.n :: .n :: []), .reg (nN 4 (.v (VV.ag [vs ((a0.getD x8.toNat default).Name), vi ((a0.getD x8.toNat default).Azimuth), vi ((a0.getD x8.toNat default).Height), vi ((a0.getD x8.toNat default).From), vi ((a0.getD x8.toNat default).To), vi ((a0.getD x8.toNat default).Dwell)]) :: .call (vb r1625) :: [])), .br false, .reg (.n :: .n :: [])]) (c := ⟨[(0, none), (1, none), (7, none), (8, none)], [], []⟩) (e := .normal) (s1 := (nslices_IndexFunc_api_SkyTarget_api_SkyTarget__c1_149_l0_0_h a0 a1_0_0 a1_0_1 a1_0_2 a1_0_3 a1_0_4 a1_0_5 (w64 (x8 + 1)))) (an (an (ti trivial) (an (an (decide_eq_true h1622) trivial) (an (an (ti (ti trivial)) (an e1628 (an (bool_f h1629) trivial))) (ti (ti trivial))))) (ti trivial)) (by kernel_rfl)
    cases r with
    | inl r => exact round_next pm pn hv hq h2
    | inr r =>
     exact round_next pm pn hv hq h2
  ·injection h with h; subst h
   exact round_stop (c := ⟨[], [], []⟩) (s1 := (nslices_IndexFunc_api_SkyTarget_api_SkyTarget__c1_149_l0_0_e1 a0 a1_0_0 a1_0_1 a1_0_2 a1_0_3 a1_0_4 a1_0_5 ())) pm pn (ans := [.reg (.n :: []), .br false]) (by kernel_rfl) (by intro e; cases e) (an (an (ti trivial) (an (decide_eq_false h1622) trivial)) (ti trivial))
def nslices_IndexFunc_api_SkyTarget_api_SkyTarget__c1_149 (k : Nat) (a0 : (List SSkyTarget)) (a1_0_0 : ByteArray) (a1_0_1 : Int) (a1_0_2 : Int) (a1_0_3 : Int) (a1_0_4 : Int) (a1_0_5 : Int) : Option Int :=
  (nslices_IndexFunc_api_SkyTarget_api_SkyTarget__c1_149_l0_0 k a0 a1_0_0 a1_0_1 a1_0_2 a1_0_3 a1_0_4 a1_0_5 k 0).bind fun r1631 => (match r1631 with | .inl r1632 => (some r1632) | .inr r1633 => (some (-1)))
theorem nslices_IndexFunc_api_SkyTarget_api_SkyTarget__c1_149_ok (k : Nat) (a0 : (List SSkyTarget)) (a1_0_0 : ByteArray) (a1_0_1 : Int) (a1_0_2 : Int) (a1_0_3 : Int) (a1_0_4 : Int) (a1_0_5 : Int) (r : Int) (h : nslices_IndexFunc_api_SkyTarget_api_SkyTarget__c1_149 k a0 a1_0_0 a1_0_1 a1_0_2 a1_0_3 a1_0_4 a1_0_5 = some r) : VC Go.Proofs.Try.prog 154 [VV.tr (List.flatMap c_SSkyTarget a0) a0.length, VV.fn 149 [VV.tp [vs a1_0_0, vi a1_0_1, vi a1_0_2, vi a1_0_3, vi a1_0_4, vi a1_0_5] 0]] (vi r) := by
 unfold nslices_IndexFunc_api_SkyTarget_api_SkyTarget__c1_149 at h
 obtain ⟨r1631, h1630, h⟩ := bs h
 have hph1630 := nslices_IndexFunc_api_SkyTarget_api_SkyTarget__c1_149_l0_0_ok k a0 a1_0_0 a1_0_1 a1_0_2 a1_0_3 a1_0_4 a1_0_5 _ _ _ h1630
 cases r1631 with
 | inl r1632 =>
  dsimp only at h
  have e1634 := (an (ti trivial) (VRun.loop hph1630))
  injection h with h; subst h
  exact fun_ok pm pn Go.Proofs.Try.func154 (r0 := vi r1632) (ans := [.reg (.n :: []), .reg (nN 3 []), .sub ⟨[(0, none), (1, none), (7, none), (8, none)], [], []⟩ .ret (nslices_IndexFunc_api_SkyTarget_api_SkyTarget__c1_149_l0_0_e0 a0 a1_0_0 a1_0_1 a1_0_2 a1_0_3 a1_0_4 a1_0_5 r1632)]) (fr := true) (by kernel_rfl) (an (an (ti trivial) (an (ti (ti (ti trivial))) e1634)) (ti trivial)) (Wv.refl _)
 | inr r1633 =>
  dsimp only at h
  have e1635 := (an (ti trivial) (VRun.loop hph1630))
  injection h with h; subst h
  exact fun_ok pm pn Go.Proofs.Try.func154 (r0 := vi (-1)) (ans := [.reg (.n :: []), .reg (nN 3 []), .sub ⟨[(0, none), (1, none), (7, none), (8, none)], [], []⟩ (.exit 0) (nslices_IndexFunc_api_SkyTarget_api_SkyTarget__c1_149_l0_0_e1 a0 a1_0_0 a1_0_1 a1_0_2 a1_0_3 a1_0_4 a1_0_5 r1633), .reg (.n :: [])]) (fr := true) (by kernel_rfl) (an (an (ti trivial) (an (an (ti (ti (ti trivial))) e1635) (an (ti trivial) trivial))) (ti trivial)) (Wv.refl _)
def nslices_ContainsFunc_api_SkyTarget_api_SkyTarget__c1_149 (k : Nat) (a0 : (List SSkyTarget)) (a1_0_0 : ByteArray) (a1_0_1 : Int) (a1_0_2 : Int) (a1_0_3 : Int) (a1_0_4 : Int) (a1_0_5 : Int) : Option Bool :=
  (nslices_IndexFunc_api_SkyTarget_api_SkyTarget__c1_149 k a0 a1_0_0 a1_0_1 a1_0_2 a1_0_3 a1_0_4 a1_0_5).bind fun r1639 => (some (decide (0 ≤ r1639)))
theorem nslices_ContainsFunc_api_SkyTarget_api_SkyTarget__c1_149_ok (k : Nat) (a0 : (List SSkyTarget)) (a1_0_0 : ByteArray) (a1_0_1 : Int) (a1_0_2 : Int) (a1_0_3 : Int) (a1_0_4 : Int) (a1_0_5 : Int) (r : Bool) (h : nslices_ContainsFunc_api_SkyTarget_api_SkyTarget__c1_149 k a0 a1_0_0 a1_0_1 a1_0_2 a1_0_3 a1_0_4 a1_0_5 = some r) : VC Go.Proofs.Try.prog 148 [VV.tr (List.flatMap c_SSkyTarget a0) a0.length, VV.fn 149 [VV.tp [vs a1_0_0, vi a1_0_1, vi a1_0_2, vi a1_0_3, vi a1_0_4, vi a1_0_5] 0]] (vb r) := by
 unfold nslices_ContainsFunc_api_SkyTarget_api_SkyTarget__c1_149 at h
 obtain ⟨r1639, h1640, h⟩ := bs h
 have e1641 := (nslices_IndexFunc_api_SkyTarget_api_SkyTarget__c1_149_ok k a0 a1_0_0 a1_0_1 a1_0_2 a1_0_3 a1_0_4 a1_0_5 _ h1640)
 injection h with h; subst h
 exact fun_ok pm pn Go.Proofs.Try.func148 (r0 := vb (decide (0 ≤ r1639))) (ans := [.reg (.n :: []), .reg (.n :: .n :: .call (vi r1639) :: .n :: .n :: [])]) (fr := true) (by kernel_rfl) (an (an (ti trivial) (an (ti (ti (an e1641 (ti (ti trivial))))) trivial)) (ti trivial)) (Wv.refl _)
theorem eqB4_1 (z0 : (List SSkyTarget)) (z1 : SSkyTarget) : [VV.tr (List.flatMap c_SSkyTarget z0) z0.length, VV.fn 149 [VV.tp [vs z1.Name, vi z1.Azimuth, vi z1.Height, vi z1.From, vi z1.To, vi z1.Dwell] 0]] = [VV.tr (List.flatMap c_SSkyTarget z0) z0.length, VV.fn 149 [VV.tp (List.map unfr [vs z1.Name, vi z1.Azimuth, vi z1.Height, vi z1.From, vi z1.To, vi z1.Dwell]) 0]] := by first | rfl | simp only [unfr_vi, unfr_vs, List.map_cons, List.map_nil, un_i, un_s, un_tr, List.length_map, List.length_cons, List.length_nil, unfr_c_SSkyTarget]
def npoint_checkBehind (k : Nat) (a0 : (List SSkyTarget)) (a1 : SSkyTarget) : Option Int :=
  (npoint_CheckTarget k a1).bind fun r1646 => (if r1646 = 0 then ((nslices_ContainsFunc_api_SkyTarget_api_SkyTarget__c1_149 k a0 a1.Name a1.Azimuth a1.Height a1.From a1.To a1.Dwell).bind fun r1650 => (if r1650 = true then (some 5) else (some 0))) else (some r1646))
theorem npoint_checkBehind_ok (k : Nat) (a0 : (List SSkyTarget)) (a1 : SSkyTarget) (r : Int) (h : npoint_checkBehind k a0 a1 = some r) : VC Go.Proofs.Try.prog 138 [VV.tr (List.flatMap c_SSkyTarget a0) a0.length, VV.ag [vs a1.Name, vi a1.Azimuth, vi a1.Height, vi a1.From, vi a1.To, vi a1.Dwell]] (vi r) := by
 unfold npoint_checkBehind at h
 obtain ⟨r1646, h1647, h⟩ := bs h
 have e1648 := (ti (an (npoint_CheckTarget_ok k a1 _ h1647) (ti trivial)))
 rcases ifs h with ⟨h1649, h⟩ | ⟨h1649, h⟩
 ·obtain ⟨r1650, h1651, h⟩ := bs h
  have e1652 := (VC.args (nslices_ContainsFunc_api_SkyTarget_api_SkyTarget__c1_149_ok k a0 a1.Name a1.Azimuth a1.Height a1.From a1.To a1.Dwell _ h1651) (eqB4_1 a0 a1))
  rcases ifs h with ⟨h1653, h⟩ | ⟨h1653, h⟩
  ·injection h with h; subst h
   exact fun_ok pm pn Go.Proofs.Try.func138 (r0 := vi 5) (ans := [.reg (.n :: .n :: []), .reg (.n :: .call (vi r1646) :: .n :: []), .reg (.n :: .n :: []), .br false, .reg (.n :: .n :: .call (vb r1650) :: []), .br true, .reg (.n :: [])]) (fr := true) (by kernel_rfl) (an (an (ti (ti trivial)) (an (an e1648 (an (ti (ti trivial)) (an (not_f (decide_eq_true h1649)) trivial))) (an (ti (ti (an e1652 trivial))) (an h1653 (an (ti trivial) trivial))))) (ti trivial)) (Wv.refl _)
  ·injection h with h; subst h
   exact fun_ok pm pn Go.Proofs.Try.func138 (r0 := vi 0) (ans := [.reg (.n :: .n :: []), .reg (.n :: .call (vi r1646) :: .n :: []), .reg (.n :: .n :: []), .br false, .reg (.n :: .n :: .call (vb r1650) :: []), .br false, .reg (.n :: [])]) (fr := true) (by kernel_rfl) (an (an (ti (ti trivial)) (an (an e1648 (an (ti (ti trivial)) (an (not_f (decide_eq_true h1649)) trivial))) (an (an (ti (ti (an e1652 trivial))) (an (bool_f h1653) trivial)) (an (ti trivial) trivial)))) (ti trivial)) (Wv.refl _)
 ·injection h with h; subst h
  exact fun_ok pm pn Go.Proofs.Try.func138 (r0 := vi r1646) (ans := [.reg (.n :: .n :: []), .reg (.n :: .call (vi r1646) :: .n :: []), .reg (.n :: .n :: []), .br true, .reg (.n :: .n :: [])]) (fr := true) (by kernel_rfl) (an (an (ti (ti trivial)) (an e1648 (an (ti (ti trivial)) (an (not_t (decide_eq_false h1649)) (an (ti (ti trivial)) trivial))))) (ti trivial)) (Wv.refl _)
theorem eqB4_2  : vi 0 = vi ((⟨0, []⟩ : Stour).begin) := by first | rfl | simp only [unfr_vi, List.map_cons, List.map_nil, un_i]
def npoint_tourOf_l0_0_h (a0 : SSkyMount) (a1 : (List SSkyTarget)) (a2 : A23) (y5 : List Sstop) (x52 : Int) : VS := ⟨mkA [(1, VV.tr (List.flatMap c_SSkyTarget a1) a1.length), (3, VV.pt 0 0), (6, VV.pt 2 0), (10, vi a2.e0), (13, VV.pt 4 0), (50, VV.tr (List.flatMap c_SSkyTarget a1) a1.length), (51, vi (a1.length : Int)), (52, vi x52)], [some ⟨true, 1, [vi a0.Least, vi a0.Most, vi a0.Low, vi a0.High, vi a0.Speed, VV.tr (List.flatMap c_SSkyRow a0.Refraction) a0.Refraction.length, VV.tr (List.flatMap c_SSkyRow a0.Drift) a0.Drift.length]⟩, some ⟨true, 1, [vi a2.e0, vi a2.e1]⟩, some ⟨true, 1, [vi 0, VV.c (.slice none 0 0)]⟩, some ⟨false, 1, [vi a2.e1]⟩, some ⟨true, 1, [vi a2.e1, VV.rf 5 0 y5.length]⟩, some ⟨false, 8, List.flatMap g_Sstop y5⟩], .nil⟩
def npoint_tourOf_l0_0_e0 (a0 : SSkyMount) (a1 : (List SSkyTarget)) (a2 : A23) (r : Int × Int) : VS := ⟨mkA [(6, VV.pt 2 0), (7, vi r.1), (8, vi r.2)], [some ⟨true, 1, [vi a0.Least, vi a0.Most, vi a0.Low, vi a0.High, vi a0.Speed, VV.tr (List.flatMap c_SSkyRow a0.Refraction) a0.Refraction.length, VV.tr (List.flatMap c_SSkyRow a0.Drift) a0.Drift.length]⟩, some ⟨true, 1, [vi a2.e0, vi a2.e1]⟩, some ⟨true, 1, [vi 0, VV.c (.slice none 0 0)]⟩], .nil⟩
def npoint_tourOf_l0_0_e1 (a0 : SSkyMount) (a1 : (List SSkyTarget)) (a2 : A23) (r : (List Sstop)) : VS := ⟨mkA [(6, VV.pt 2 0), (13, VV.pt 4 0)], [some ⟨true, 1, [vi a0.Least, vi a0.Most, vi a0.Low, vi a0.High, vi a0.Speed, VV.tr (List.flatMap c_SSkyRow a0.Refraction) a0.Refraction.length, VV.tr (List.flatMap c_SSkyRow a0.Drift) a0.Drift.length]⟩, some ⟨true, 1, [vi a2.e0, vi a2.e1]⟩, some ⟨true, 1, [vi 0, VV.c (.slice none 0 0)]⟩, some ⟨false, 1, [vi a2.e1]⟩, some ⟨true, 1, [vi a2.e1, VV.rf 5 0 r.length]⟩, some ⟨false, 8, List.flatMap g_Sstop r⟩], .nil⟩
def npoint_tourOf_l0_0 (k : Nat) (a0 : SSkyMount) (a1 : (List SSkyTarget)) (a2 : A23) : Nat → (List Sstop) → Int → Option (Sum (Int × Int) (List Sstop))
  | 0, _, _ => none
  | fuel + 1, y5, x52 => if x52 < (a1.length : Int) then (if 0 ≤ x52 ∧ x52 < (a1.length : Int) then (if 0 ≤ (0 : Int) ∧ (0 : Int) ≤ x52 ∧ x52 ≤ (a1.length : Int) then ((npoint_checkBehind k (sl a1 0 ((x52).toNat)) (a1.getD x52.toNat default)).bind fun r1788 => (if r1788 = 0 then ((npoint_stopAt k a0 (a1.getD x52.toNat default) a2.e0).bind fun r1792 => (if r1792.2 = 0 then (if y5.length + ([r1792.1] : List Sstop).length ≤ 1000000000 then (npoint_tourOf_l0_0 k a0 a1 a2 fuel (y5 ++ ([r1792.1] : List Sstop)) (w64 (x52 + 1))) else none) else (some (.inl (x52, r1792.2))))) else (some (.inl (x52, r1788))))) else none) else none) else (some (.inr y5))
theorem npoint_tourOf_l0_0_ok (k : Nat) (a0 : SSkyMount) (a1 : (List SSkyTarget)) (a2 : A23) : ∀ (fuel : Nat) (y5 : List Sstop) (x52 : Int) (r : Sum (Int × Int) (List Sstop)), npoint_tourOf_l0_0 k a0 a1 a2 fuel y5 x52 = some r → (match r with | .inl r => VLoop none Go.Proofs.Try.prog (szF Go.Proofs.Try.f114) (bodyOf Go.Proofs.Try.f114 0) (npoint_tourOf_l0_0_h a0 a1 a2 y5 x52) .ret (npoint_tourOf_l0_0_e0 a0 a1 a2 r) | .inr r => VLoop none Go.Proofs.Try.prog (szF Go.Proofs.Try.f114) (bodyOf Go.Proofs.Try.f114 0) (npoint_tourOf_l0_0_h a0 a1 a2 y5 x52) (.exit 0) (npoint_tourOf_l0_0_e1 a0 a1 a2 r)) := by
 intro fuel
 induction fuel with
 | zero => intro y5 x52 r h; rw [npoint_tourOf_l0_0.eq_1] at h; cases h
 | succ fuel ih =>
  intro y5 x52 r h
  rw [npoint_tourOf_l0_0.eq_2] at h
  rcases ifs h with ⟨h1783, h⟩ | ⟨h1783, h⟩
  ·obtain ⟨h1784, h⟩ := ifn h
   have e1785 := (show loadL Go.Proofs.Try.prog 83 (x52.toNat * 6) (List.flatMap c_SSkyTarget a1) = some (VV.ag [vs ((a1.getD x52.toNat default).Name), vi ((a1.getD x52.toNat default).Azimuth), vi ((a1.getD x52.toNat default).Height), vi ((a1.getD x52.toNat default).From), vi ((a1.getD x52.toNat default).To), vi ((a1.getD x52.toNat default).Dwell)]) from ld_whole ag83 c_SSkyTarget 6 sz83 len_c_SSkyTarget a1 default h1784 (by omega))
   obtain ⟨h1786, h⟩ := ifn h
   have e1787 := (show (True ∧ 0 ≤ x52 ∧ 0 ≤ (x52).toNat ∧ (x52).toNat ≤ a1.length ∧ (x52).toNat * 6 ≤ List.length (List.flatMap c_SSkyTarget a1)) ∧ VV.tr (List.take (((x52).toNat - 0) * 6) (List.drop (0 * 6) (List.flatMap c_SSkyTarget a1))) ((x52).toNat - 0) = VV.tr (List.flatMap c_SSkyTarget (sl a1 0 ((x52).toNat))) ((sl a1 0 ((x52).toNat)).length) from ⟨⟨trivial, (by have := h1786; omega), (by have := h1786; omega), (by have := h1786; omega), (by rw [flatMap_len len_c_SSkyTarget]; have := h1786; omega)⟩, (by exact sl_flat len_c_SSkyTarget a1 0 ((x52).toNat) (by have := h1786; omega) (by have := h1786; omega))⟩)
   obtain ⟨r1788, h1789, h⟩ := bs h
   have e1790 := (npoint_checkBehind_ok k (sl a1 0 ((x52).toNat)) (a1.getD x52.toNat default) _ h1789)
   rcases ifs h with ⟨h1791, h⟩ | ⟨h1791, h⟩
   ·obtain ⟨r1792, h1793, h⟩ := bs h
    have e1794 := (show VC Go.Proofs.Try.prog 108 [VV.ag [vi a0.Least, vi a0.Most, vi a0.Low, vi a0.High, vi a0.Speed, VV.tr (List.flatMap c_SSkyRow a0.Refraction) a0.Refraction.length, VV.tr (List.flatMap c_SSkyRow a0.Drift) a0.Drift.length], VV.ag [vs ((a1.getD x52.toNat default).Name), vi ((a1.getD x52.toNat default).Azimuth), vi ((a1.getD x52.toNat default).Height), vi ((a1.getD x52.toNat default).From), vi ((a1.getD x52.toNat default).To), vi ((a1.getD x52.toNat default).Dwell)], vi a2.e0] (VV.tu [VV.ag [vs r1792.1.SkyTarget.Name, vi r1792.1.SkyTarget.Azimuth, vi r1792.1.SkyTarget.Height, vi r1792.1.SkyTarget.From, vi r1792.1.SkyTarget.To, vi r1792.1.SkyTarget.Dwell, VV.fr (List.map vi r1792.1.turns) r1792.1.turns.length, VV.fr (List.map vi r1792.1.positions) r1792.1.positions.length], vi r1792.2]) from (VC.weak (npoint_stopAt_ok k a0 (a1.getD x52.toNat default) a2.e0 _ h1793) (Wv.tuL (.cons (Wv.agL (.cons (Wv.refl _) (.cons (Wv.refl _) (.cons (Wv.refl _) (.cons (Wv.refl _) (.cons (Wv.refl _) (.cons (Wv.refl _) (.cons (Wv.fw rfl rfl) (.cons (Wv.fw rfl rfl) .nil))))))))) (.cons (Wv.refl _) .nil)))))
    have e1795 := (ti (ti (ti (an e1794 (ti (ti (ti (ti (ti (ti trivial))))))))))
    rcases ifs h with ⟨h1796, h⟩ | ⟨h1796, h⟩
    ·obtain ⟨h1797, h⟩ := ifn h
     have e1798 := (show List.length (List.flatMap g_Sstop y5) = y5.length * 8 ∧ List.length [vs r1792.1.SkyTarget.Name, vi r1792.1.SkyTarget.Azimuth, vi r1792.1.SkyTarget.Height, vi r1792.1.SkyTarget.From, vi r1792.1.SkyTarget.To, vi r1792.1.SkyTarget.Dwell, VV.fr (List.map vi r1792.1.turns) r1792.1.turns.length, VV.fr (List.map vi r1792.1.positions) r1792.1.positions.length] = 1 * 8 ∧ (y5.length + 1) * 104 ≤ 140737488355328 ∧ y5.length + 1 < 1099511627776 ∧ List.all [vs r1792.1.SkyTarget.Name, vi r1792.1.SkyTarget.Azimuth, vi r1792.1.SkyTarget.Height, vi r1792.1.SkyTarget.From, vi r1792.1.SkyTarget.To, vi r1792.1.SkyTarget.Dwell, VV.fr (List.map vi r1792.1.turns) r1792.1.turns.length, VV.fr (List.map vi r1792.1.positions) r1792.1.positions.length] VV.still = true from ⟨(by rw [flatMap_len len_g_Sstop] <;> simp), (by rw [show [vs r1792.1.SkyTarget.Name, vi r1792.1.SkyTarget.Azimuth, vi r1792.1.SkyTarget.Height, vi r1792.1.SkyTarget.From, vi r1792.1.SkyTarget.To, vi r1792.1.SkyTarget.Dwell, VV.fr (List.map vi r1792.1.turns) r1792.1.turns.length, VV.fr (List.map vi r1792.1.positions) r1792.1.positions.length] = List.flatMap g_Sstop ([r1792.1] : List Sstop) from rfl]; rw [flatMap_len len_g_Sstop] <;> simp), by simp at h1797 ⊢; omega, by simp at h1797 ⊢; omega, (by rw [show [vs r1792.1.SkyTarget.Name, vi r1792.1.SkyTarget.Azimuth, vi r1792.1.SkyTarget.Height, vi r1792.1.SkyTarget.From, vi r1792.1.SkyTarget.To, vi r1792.1.SkyTarget.Dwell, VV.fr (List.map vi r1792.1.turns) r1792.1.turns.length, VV.fr (List.map vi r1792.1.positions) r1792.1.positions.length] = List.flatMap g_Sstop ([r1792.1] : List Sstop) from rfl]; exact still_g_Sstop _)⟩)
     have h2 := ih _ _ _ h
     obtain ⟨q, hv, hq⟩ := pkR (rd := none) (P := Go.Proofs.Try.prog) (fn := Go.Proofs.Try.f114) (k := 0) (s := (npoint_tourOf_l0_0_h a0 a1 a2 y5 x52)) (ans := [.reg (.n :: []), .br true, .reg (.n :: .n :: .v (VV.ag [vs ((a1.getD x52.toNat default).Name), vi ((a1.getD x52.toNat default).Azimuth), vi ((a1.getD x52.toNat default).Height), vi ((a1.getD x52.toNat default).From), vi ((a1.getD x52.toNat default).To), vi ((a1.getD x52.toNat default).Dwell)]) :: nN 3 []), .reg (.n :: .n :: .v (VV.tr (List.flatMap c_SSkyTarget (sl a1 0 ((x52).toNat))) ((sl a1 0 ((x52).toNat)).length)) :: .n :: .call (vi r1788) :: .n :: []), .reg (.n :: .n :: []), .br false, .reg (nN 3 (.call (VV.tu [VV.ag [vs r1792.1.SkyTarget.Name, vi r1792.1.SkyTarget.Azimuth, vi r1792.1.SkyTarget.Height, vi r1792.1.SkyTarget.From, vi r1792.1.SkyTarget.To, vi r1792.1.SkyTarget.Dwell, VV.fr (List.map vi r1792.1.turns) r1792.1.turns.length, VV.fr (List.map vi r1792.1.positions) r1792.1.positions.length], vi r1792.2]) :: nN 6 [])), .reg (.n :: .n :: []), .br false, .reg (nN 7 []), .reg (.n :: .n :: [])]) (c := ⟨[(1, none), (3, none), (6, none), (10, none), (13, none), (50, none), (51, none), (52, none)], [none, none, none, none, some [vi a2.e1, VV.rf 5 0 ((y5 ++ ([r1792.1] : List Sstop)).length)], some (List.flatMap g_Sstop (y5 ++ ([r1792.1] : List Sstop)))], []⟩) (e := .normal) (s1 := (npoint_tourOf_l0_0_h a0 a1 a2 (y5 ++ ([r1792.1] : List Sstop)) (w64 (x52 + 1)))) (an (an (ti trivial) (an (an (decide_eq_true h1783) trivial) (an (an (ti (an h1784 (an e1785 (ti (ti (ti trivial)))))) (an (an (ti (ti (an e1787 (ti (an e1790 (ti trivial)))))) (an (ti (ti trivial)) (an (not_f (decide_eq_true h1791)) trivial))) (an e1795 (an (an (ti (ti trivial)) (an (not_f (decide_eq_true h1796)) trivial)) (ti (ti (ti (ti (an e1798 (ti (ti trivial))))))))))) (ti (ti trivial))))) (ti (an (show [vi a2.e1, VV.rf 5 0 (y5.length + 1)] = [vi a2.e1, VV.rf 5 0 ((y5 ++ ([r1792.1] : List Sstop)).length)] from (by first | rfl | simp)) (an (show (List.flatMap g_Sstop y5) ++ [vs r1792.1.SkyTarget.Name, vi r1792.1.SkyTarget.Azimuth, vi r1792.1.SkyTarget.Height, vi r1792.1.SkyTarget.From, vi r1792.1.SkyTarget.To, vi r1792.1.SkyTarget.Dwell, VV.fr (List.map vi r1792.1.turns) r1792.1.turns.length, VV.fr (List.map vi r1792.1.positions) r1792.1.positions.length] = List.flatMap g_Sstop (y5 ++ ([r1792.1] : List Sstop)) from (by rw [show [vs r1792.1.SkyTarget.Name, vi r1792.1.SkyTarget.Azimuth, vi r1792.1.SkyTarget.Height, vi r1792.1.SkyTarget.From, vi r1792.1.SkyTarget.To, vi r1792.1.SkyTarget.Dwell, VV.fr (List.map vi r1792.1.turns) r1792.1.turns.length, VV.fr (List.map vi r1792.1.positions) r1792.1.positions.length] = List.flatMap g_Sstop ([r1792.1] : List Sstop) from rfl]; exact List.flatMap_append.symm)) trivial)))) (by kernel_rfl)
     cases r with
     | inl r => exact round_next pm pn hv hq h2
     | inr r =>
      exact round_next pm pn hv hq h2
    ·injection h with h; subst h
     exact round_stop (c := ⟨[(6, none), (7, none), (8, none)], [none, none, none], []⟩) (s1 := (npoint_tourOf_l0_0_e0 a0 a1 a2 (x52, r1792.2))) pm pn (ans := [.reg (.n :: []), .br true, .reg (.n :: .n :: .v (VV.ag [vs ((a1.getD x52.toNat default).Name), vi ((a1.getD x52.toNat default).Azimuth), vi ((a1.getD x52.toNat default).Height), vi ((a1.getD x52.toNat default).From), vi ((a1.getD x52.toNat default).To), vi ((a1.getD x52.toNat default).Dwell)]) :: nN 3 []), .reg (.n :: .n :: .v (VV.tr (List.flatMap c_SSkyTarget (sl a1 0 ((x52).toNat))) ((sl a1 0 ((x52).toNat)).length)) :: .n :: .call (vi r1788) :: .n :: []), .reg (.n :: .n :: []), .br false, .reg (nN 3 (.call (VV.tu [VV.ag [vs r1792.1.SkyTarget.Name, vi r1792.1.SkyTarget.Azimuth, vi r1792.1.SkyTarget.Height, vi r1792.1.SkyTarget.From, vi r1792.1.SkyTarget.To, vi r1792.1.SkyTarget.Dwell, VV.fr (List.map vi r1792.1.turns) r1792.1.turns.length, VV.fr (List.map vi r1792.1.positions) r1792.1.positions.length], vi r1792.2]) :: nN 6 [])), .reg (.n :: .n :: []), .br true, .reg (nN 6 [])]) (by kernel_rfl) (by intro e; cases e) (an (an (ti trivial) (an (an (decide_eq_true h1783) trivial) (an (ti (an h1784 (an e1785 (ti (ti (ti trivial)))))) (an (an (ti (ti (an e1787 (ti (an e1790 (ti trivial)))))) (an (ti (ti trivial)) (an (not_f (decide_eq_true h1791)) trivial))) (an e1795 (an (ti (ti trivial)) (an (not_t (decide_eq_false h1796)) (an (ti (ti (ti (ti (ti (ti trivial)))))) trivial)))))))) (ti trivial))
   ·injection h with h; subst h
    exact round_stop (c := ⟨[(6, none), (7, none), (8, none)], [none, none, none], []⟩) (s1 := (npoint_tourOf_l0_0_e0 a0 a1 a2 (x52, r1788))) pm pn (ans := [.reg (.n :: []), .br true, .reg (.n :: .n :: .v (VV.ag [vs ((a1.getD x52.toNat default).Name), vi ((a1.getD x52.toNat default).Azimuth), vi ((a1.getD x52.toNat default).Height), vi ((a1.getD x52.toNat default).From), vi ((a1.getD x52.toNat default).To), vi ((a1.getD x52.toNat default).Dwell)]) :: nN 3 []), .reg (.n :: .n :: .v (VV.tr (List.flatMap c_SSkyTarget (sl a1 0 ((x52).toNat))) ((sl a1 0 ((x52).toNat)).length)) :: .n :: .call (vi r1788) :: .n :: []), .reg (.n :: .n :: []), .br true, .reg (nN 6 [])]) (by kernel_rfl) (by intro e; cases e) (an (an (ti trivial) (an (an (decide_eq_true h1783) trivial) (an (ti (an h1784 (an e1785 (ti (ti (ti trivial)))))) (an (ti (ti (an e1787 (ti (an e1790 (ti trivial)))))) (an (ti (ti trivial)) (an (not_t (decide_eq_false h1791)) (an (ti (ti (ti (ti (ti (ti trivial)))))) trivial))))))) (ti trivial))
  ·injection h with h; subst h
   exact round_stop (c := ⟨[(6, none), (13, none)], [none, none, none, none, none, none], []⟩) (s1 := (npoint_tourOf_l0_0_e1 a0 a1 a2 y5)) pm pn (ans := [.reg (.n :: []), .br false]) (by kernel_rfl) (by intro e; cases e) (an (an (ti trivial) (an (decide_eq_false h1783) trivial)) (ti trivial))
theorem eqB4_3 (z0 : A23) (z1 : (List Sstop)) : VV.tu [VV.ag [vi z0.e1, VV.fw 8 (List.drop 0 (List.map unfr (List.flatMap g_Sstop z1))) z1.length], vi 0, vi 0] = VV.tu [VV.ag [vi ((⟨z0.e1, z1⟩ : Stour).begin), VV.fw 8 (List.flatMap c_Sstop ((⟨z0.e1, z1⟩ : Stour).stops)) (((⟨z0.e1, z1⟩ : Stour).stops).length)], vi 0, vi 0] := by first | rfl | simp only [drop0, unfr_vi, List.map_cons, List.map_nil, un_i, List.length_map, List.length_cons, List.length_nil, unfr_c_Sstop, unfr_g_Sstop]
def npoint_tourOf (k : Nat) (a0 : SSkyMount) (a1 : (List SSkyTarget)) (a2 : A23) : Option (Stour × Int × Int) :=
  (npoint_CheckMount k a0).bind fun r1719 => (if r1719 = 0 then ((npoint_checkDay k a2.e0).bind fun r1725 => (if r1725 = 0 then ((npoint_areWithin k a0.Least a0.Most ([a2.e1] : List Int)).bind fun r1729 => (if r1729 = true then (if 20 < (a1.length : Int) then (some ((⟨0, []⟩ : Stour), 0, 8)) else ((npoint_tourOf_l0_0 k a0 a1 a2 k ([] : List Sstop) 0).bind fun r1800 => (match r1800 with | .inl r1801 => (some ((⟨0, []⟩ : Stour), r1801.1, r1801.2)) | .inr r1802 => (some ((⟨a2.e1, r1802⟩ : Stour), 0, 0))))) else (some ((⟨0, []⟩ : Stour), 0, 2)))) else (some ((⟨0, []⟩ : Stour), 0, r1725)))) else (some ((⟨0, []⟩ : Stour), 0, r1719)))
theorem npoint_tourOf_ok (k : Nat) (a0 : SSkyMount) (a1 : (List SSkyTarget)) (a2 : A23) (r : (Stour × Int × Int)) (h : npoint_tourOf k a0 a1 a2 = some r) : VC Go.Proofs.Try.prog 114 [VV.ag [vi a0.Least, vi a0.Most, vi a0.Low, vi a0.High, vi a0.Speed, VV.tr (List.flatMap c_SSkyRow a0.Refraction) a0.Refraction.length, VV.tr (List.flatMap c_SSkyRow a0.Drift) a0.Drift.length], VV.tr (List.flatMap c_SSkyTarget a1) a1.length, VV.ag [vi a2.e0, vi a2.e1]] (VV.tu [VV.ag [vi r.1.begin, VV.fw 8 (List.flatMap c_Sstop r.1.stops) r.1.stops.length], vi r.2.1, vi r.2.2]) := by
 unfold npoint_tourOf at h
 obtain ⟨r1719, h1720, h⟩ := bs h
 have e1721 := (ti (an (npoint_CheckMount_ok k a0 _ h1720) (ti trivial)))
 rcases ifs h with ⟨h1722, h⟩ | ⟨h1722, h⟩
 ·have e1723 := (show (0:Int) ≤ 0 ∧ (0:Int) < ((2 : Nat) : Int) from ⟨by decide, by decide⟩)
  have e1724 := (show (0:Int) ≤ 1 ∧ (1:Int) < ((2 : Nat) : Int) from ⟨by decide, by decide⟩)
  obtain ⟨r1725, h1726, h⟩ := bs h
  have e1727 := (ti (an (npoint_checkDay_ok k a2.e0 _ h1726) (ti trivial)))
  rcases ifs h with ⟨h1728, h⟩ | ⟨h1728, h⟩
  ·obtain ⟨r1729, h1730, h⟩ := bs h
   have e1731 := (VC.args (npoint_areWithin_ok k a0.Least a0.Most ([a2.e1] : List Int) _ h1730) (eqB4_0 a0 a2))
   have e1732 := (ti (ti (ti (ti (ti (ti (an e1731 (ti trivial))))))))
   rcases ifs h with ⟨h1733, h⟩ | ⟨h1733, h⟩
   ·rcases ifs h with ⟨h1734, h⟩ | ⟨h1734, h⟩
    ·injection h with h; subst h
     exact fun_ok pm pn Go.Proofs.Try.func114 (r0 := VV.tu [VV.ag [vi 0, VV.c (.slice none 0 0)], vi 0, vi 8]) (ans := [.reg (nN 5 []), .reg (.n :: .call (vi r1719) :: .n :: []), .reg (.n :: .n :: []), .br false, .reg (nN 6 []), .reg (.n :: .call (vi r1725) :: .n :: []), .reg (.n :: .n :: []), .br false, .reg (nN 6 (.call (vb r1729) :: .n :: [])), .br false, .reg (nN 3 []), .br true, .reg (nN 4 [])]) (fr := true) (by kernel_rfl) (an (an (ti (ti (ti (ti (ti trivial))))) (an (an e1721 (an (ti (ti trivial)) (an (not_f (decide_eq_true h1722)) trivial))) (an (an e1723 (ti (an e1724 (ti (ti (ti trivial)))))) (an (an e1727 (an (ti (ti trivial)) (an (not_f (decide_eq_true h1728)) trivial))) (an (an e1732 (an (not_f h1733) trivial)) (an (ti (ti (ti trivial))) (an (decide_eq_true h1734) (an (ti (ti (ti (ti trivial)))) trivial)))))))) (an (ti (ti (ti trivial))) (ti (ti trivial)))) (Wv.tuL (.cons (Wv.agL (.cons (Wv.of_eq eqB4_2) (.cons Wv.nilFw .nil))) (.cons (Wv.refl _) (.cons (Wv.refl _) .nil))))
    ·obtain ⟨r1800, h1799, h⟩ := bs h
     have hph1799 := npoint_tourOf_l0_0_ok k a0 a1 a2 _ _ _ _ h1799
     cases r1800 with
     | inl r1801 =>
      dsimp only at h
      have e1803 := (an (ti trivial) (VRun.loop hph1799))
      injection h with h; subst h
      exact fun_ok pm pn Go.Proofs.Try.func114 (r0 := VV.tu [VV.ag [vi 0, VV.c (.slice none 0 0)], vi r1801.1, vi r1801.2]) (ans := [.reg (nN 5 []), .reg (.n :: .call (vi r1719) :: .n :: []), .reg (.n :: .n :: []), .br false, .reg (nN 6 []), .reg (.n :: .call (vi r1725) :: .n :: []), .reg (.n :: .n :: []), .br false, .reg (nN 6 (.call (vb r1729) :: .n :: [])), .br false, .reg (nN 3 []), .br false, .reg (nN 4 []), .reg (nN 3 []), .sub ⟨[(1, none), (3, none), (6, none), (10, none), (13, none), (50, none), (51, none), (52, none)], [none, none, none, none, none], [.b 4 1 8]⟩ .ret (npoint_tourOf_l0_0_e0 a0 a1 a2 r1801)]) (fr := true) (by kernel_rfl) (an (an (ti (ti (ti (ti (ti trivial))))) (an (an e1721 (an (ti (ti trivial)) (an (not_f (decide_eq_true h1722)) trivial))) (an (an e1723 (ti (an e1724 (ti (ti (ti trivial)))))) (an (an e1727 (an (ti (ti trivial)) (an (not_f (decide_eq_true h1728)) trivial))) (an (an e1732 (an (not_f h1733) trivial)) (an (an (ti (ti (ti trivial))) (an (decide_eq_false h1734) trivial)) (an (ti (ti (ti (ti trivial)))) (an (ti (ti (ti trivial))) e1803)))))))) (an (ti (ti (ti trivial))) (ti (ti trivial)))) (Wv.tuL (.cons (Wv.agL (.cons (Wv.of_eq eqB4_2) (.cons Wv.nilFw .nil))) (.cons (Wv.refl _) (.cons (Wv.refl _) .nil))))
     | inr r1802 =>
      dsimp only at h
      have e1804 := (an (ti trivial) (VRun.loop hph1799))
      injection h with h; subst h
      exact fun_ok pm pn Go.Proofs.Try.func114 (r0 := VV.tu [VV.ag [vi a2.e1, VV.fw 8 (List.drop 0 (List.map unfr (List.flatMap g_Sstop r1802))) r1802.length], vi 0, vi 0]) (ans := [.reg (nN 5 []), .reg (.n :: .call (vi r1719) :: .n :: []), .reg (.n :: .n :: []), .br false, .reg (nN 6 []), .reg (.n :: .call (vi r1725) :: .n :: []), .reg (.n :: .n :: []), .br false, .reg (nN 6 (.call (vb r1729) :: .n :: [])), .br false, .reg (nN 3 []), .br false, .reg (nN 4 []), .reg (nN 3 []), .sub ⟨[(1, none), (3, none), (6, none), (10, none), (13, none), (50, none), (51, none), (52, none)], [none, none, none, none, none], [.b 4 1 8]⟩ (.exit 0) (npoint_tourOf_l0_0_e1 a0 a1 a2 r1802), .reg (nN 4 [])]) (fr := true) (by kernel_rfl) (an (an (ti (ti (ti (ti (ti trivial))))) (an (an e1721 (an (ti (ti trivial)) (an (not_f (decide_eq_true h1722)) trivial))) (an (an e1723 (ti (an e1724 (ti (ti (ti trivial)))))) (an (an e1727 (an (ti (ti trivial)) (an (not_f (decide_eq_true h1728)) trivial))) (an (an e1732 (an (not_f h1733) trivial)) (an (an (ti (ti (ti trivial))) (an (decide_eq_false h1734) trivial)) (an (ti (ti (ti (ti trivial)))) (an (an (ti (ti (ti trivial))) e1804) (an (ti (ti (ti (ti trivial)))) trivial))))))))) (an (ti (ti (an (show List.all (List.flatMap g_Sstop r1802) new0 = true from (by exact new0_g_Sstop _)) trivial))) (ti (ti trivial)))) (Wv.of_eq (eqB4_3 a2 r1802))
   ·injection h with h; subst h
    exact fun_ok pm pn Go.Proofs.Try.func114 (r0 := VV.tu [VV.ag [vi 0, VV.c (.slice none 0 0)], vi 0, vi 2]) (ans := [.reg (nN 5 []), .reg (.n :: .call (vi r1719) :: .n :: []), .reg (.n :: .n :: []), .br false, .reg (nN 6 []), .reg (.n :: .call (vi r1725) :: .n :: []), .reg (.n :: .n :: []), .br false, .reg (nN 6 (.call (vb r1729) :: .n :: [])), .br true, .reg (nN 4 [])]) (fr := true) (by kernel_rfl) (an (an (ti (ti (ti (ti (ti trivial))))) (an (an e1721 (an (ti (ti trivial)) (an (not_f (decide_eq_true h1722)) trivial))) (an (an e1723 (ti (an e1724 (ti (ti (ti trivial)))))) (an (an e1727 (an (ti (ti trivial)) (an (not_f (decide_eq_true h1728)) trivial))) (an e1732 (an (not_t (bool_f h1733)) (an (ti (ti (ti (ti trivial)))) trivial))))))) (an (ti (ti (ti trivial))) (ti (ti trivial)))) (Wv.tuL (.cons (Wv.agL (.cons (Wv.of_eq eqB4_2) (.cons Wv.nilFw .nil))) (.cons (Wv.refl _) (.cons (Wv.refl _) .nil))))
  ·injection h with h; subst h
   exact fun_ok pm pn Go.Proofs.Try.func114 (r0 := VV.tu [VV.ag [vi 0, VV.c (.slice none 0 0)], vi 0, vi r1725]) (ans := [.reg (nN 5 []), .reg (.n :: .call (vi r1719) :: .n :: []), .reg (.n :: .n :: []), .br false, .reg (nN 6 []), .reg (.n :: .call (vi r1725) :: .n :: []), .reg (.n :: .n :: []), .br true, .reg (nN 5 [])]) (fr := true) (by kernel_rfl) (an (an (ti (ti (ti (ti (ti trivial))))) (an (an e1721 (an (ti (ti trivial)) (an (not_f (decide_eq_true h1722)) trivial))) (an (an e1723 (ti (an e1724 (ti (ti (ti trivial)))))) (an e1727 (an (ti (ti trivial)) (an (not_t (decide_eq_false h1728)) (an (ti (ti (ti (ti (ti trivial))))) trivial))))))) (an (ti (ti (ti trivial))) (ti (ti trivial)))) (Wv.tuL (.cons (Wv.agL (.cons (Wv.of_eq eqB4_2) (.cons Wv.nilFw .nil))) (.cons (Wv.refl _) (.cons (Wv.refl _) .nil))))
 ·injection h with h; subst h
  exact fun_ok pm pn Go.Proofs.Try.func114 (r0 := VV.tu [VV.ag [vi 0, VV.c (.slice none 0 0)], vi 0, vi r1719]) (ans := [.reg (nN 5 []), .reg (.n :: .call (vi r1719) :: .n :: []), .reg (.n :: .n :: []), .br true, .reg (nN 5 [])]) (fr := true) (by kernel_rfl) (an (an (ti (ti (ti (ti (ti trivial))))) (an e1721 (an (ti (ti trivial)) (an (not_t (decide_eq_false h1722)) (an (ti (ti (ti (ti (ti trivial))))) trivial))))) (an (ti (ti (ti trivial))) (ti (ti trivial)))) (Wv.tuL (.cons (Wv.agL (.cons (Wv.of_eq eqB4_2) (.cons Wv.nilFw .nil))) (.cons (Wv.refl _) (.cons (Wv.refl _) .nil))))
def nspeculumref09_CheckTour_l1_0_h (a0 : SSkyMount) (a1 : (List SSkyTarget)) (a2 : A23) (x9 : Int) (x11 : Int) : VS := ⟨mkA [(1, VV.tr (List.flatMap c_SSkyTarget a1) a1.length), (3, VV.pt 0 0), (5, VV.pt 1 0), (9, vi x9), (11, vi x11)], [some ⟨true, 1, [vi a0.Least, vi a0.Most, vi a0.Low, vi a0.High, vi a0.Speed, VV.tr (List.flatMap c_SSkyRow a0.Refraction) a0.Refraction.length, VV.tr (List.flatMap c_SSkyRow a0.Drift) a0.Drift.length]⟩, some ⟨true, 1, [vi a2.e0, vi a2.e1]⟩], .nil⟩
def nspeculumref09_CheckTour_l1_0_e0 (a0 : SSkyMount) (a1 : (List SSkyTarget)) (a2 : A23) (x9 : Int) (r : Unit) : VS := ⟨mkA [(6, vi x9), (7, vi 5)], [], .nil⟩
def nspeculumref09_CheckTour_l1_0_e1 (a0 : SSkyMount) (a1 : (List SSkyTarget)) (a2 : A23) (x9 : Int) (r : Unit) : VS := ⟨mkA [(1, VV.tr (List.flatMap c_SSkyTarget a1) a1.length), (3, VV.pt 0 0), (5, VV.pt 1 0), (9, vi x9)], [some ⟨true, 1, [vi a0.Least, vi a0.Most, vi a0.Low, vi a0.High, vi a0.Speed, VV.tr (List.flatMap c_SSkyRow a0.Refraction) a0.Refraction.length, VV.tr (List.flatMap c_SSkyRow a0.Drift) a0.Drift.length]⟩, some ⟨true, 1, [vi a2.e0, vi a2.e1]⟩], .nil⟩
def nspeculumref09_CheckTour_l1_0 (k : Nat) (a0 : SSkyMount) (a1 : (List SSkyTarget)) (a2 : A23) (x9 : Int) : Nat → Int → Option (Sum Unit Unit)
  | 0, _ => none
  | fuel + 1, x11 => if x11 < x9 then (if 0 ≤ x11 ∧ x11 < (a1.length : Int) then (if 0 ≤ x9 ∧ x9 < (a1.length : Int) then (if ((a1.getD x11.toNat default).Name) = ((a1.getD x9.toNat default).Name) then (some (.inl ())) else (nspeculumref09_CheckTour_l1_0 k a0 a1 a2 x9 fuel (w64 (x11 + 1)))) else none) else none) else (some (.inr ()))
theorem nspeculumref09_CheckTour_l1_0_ok (k : Nat) (a0 : SSkyMount) (a1 : (List SSkyTarget)) (a2 : A23) (x9 : Int) : ∀ (fuel : Nat) (x11 : Int) (r : Sum Unit Unit), nspeculumref09_CheckTour_l1_0 k a0 a1 a2 x9 fuel x11 = some r → (match r with | .inl r => VLoop none Go.Proofs.Try.prog (szF Go.Proofs.Try.f67) (bodyOf Go.Proofs.Try.f67 1) (nspeculumref09_CheckTour_l1_0_h a0 a1 a2 x9 x11) .ret (nspeculumref09_CheckTour_l1_0_e0 a0 a1 a2 x9 r) | .inr r => VLoop none Go.Proofs.Try.prog (szF Go.Proofs.Try.f67) (bodyOf Go.Proofs.Try.f67 1) (nspeculumref09_CheckTour_l1_0_h a0 a1 a2 x9 x11) (.exit 2) (nspeculumref09_CheckTour_l1_0_e1 a0 a1 a2 x9 r)) := by
 intro fuel
 induction fuel with
 | zero => intro x11 r h; rw [nspeculumref09_CheckTour_l1_0.eq_1] at h; cases h
 | succ fuel ih =>
  intro x11 r h
  rw [nspeculumref09_CheckTour_l1_0.eq_2] at h
  rcases ifs h with ⟨h2028, h⟩ | ⟨h2028, h⟩
  ·obtain ⟨h2029, h⟩ := ifn h
   have e2030 := (show loadL Go.Proofs.Try.prog 9 (x11.toNat * 6 + 0) (List.flatMap c_SSkyTarget a1) = some (vs ((a1.getD x11.toNat default).Name)) from (ld_flat ag9 c_SSkyTarget 6 0 len_c_SSkyTarget (by omega) a1 default h2029 (by omega)).trans rfl)
   obtain ⟨h2031, h⟩ := ifn h
   have e2032 := (show loadL Go.Proofs.Try.prog 9 (x9.toNat * 6 + 0) (List.flatMap c_SSkyTarget a1) = some (vs ((a1.getD x9.toNat default).Name)) from (ld_flat ag9 c_SSkyTarget 6 0 len_c_SSkyTarget (by omega) a1 default h2031 (by omega)).trans rfl)
   have e2033 := (ti (ti (an h2029 (ti (an e2030 (ti (ti (an h2031 (ti (an e2032 (ti trivial)))))))))))
   rcases ifs h with ⟨h2034, h⟩ | ⟨h2034, h⟩
   ·injection h with h; subst h
    exact round_stop (c := ⟨[(6, none), (7, none)], [], []⟩) (s1 := (nspeculumref09_CheckTour_l1_0_e0 a0 a1 a2 x9 ())) pm pn (ans := [.reg (nN 3 []), .br true, .reg (nN 4 (.v (vs ((a1.getD x11.toNat default).Name)) :: nN 4 (.v (vs ((a1.getD x9.toNat default).Name)) :: .n :: []))), .br true, .reg (nN 3 [])]) (by kernel_rfl) (by intro e; cases e) (an (an (an (ti (ti (ti trivial))) (an (decide_eq_true h2028) trivial)) (an e2033 (an (decide_eq_true h2034) (an (ti (ti (ti trivial))) trivial)))) (ti trivial))
   ·have h2 := ih _ _ h
    obtain ⟨q, hv, hq⟩ := pkR (rd := none) (P := Go.Proofs.Try.prog) (fn := Go.Proofs.Try.f67) (k := 1) (s := (nspeculumref09_CheckTour_l1_0_h a0 a1 a2 x9 x11)) (ans := [.reg (nN 3 []), .br true, .reg (nN 4 (.v (vs ((a1.getD x11.toNat default).Name)) :: nN 4 (.v (vs ((a1.getD x9.toNat default).Name)) :: .n :: []))), .br false, .reg (nN 3 [])]) (c := ⟨[(1, none), (3, none), (5, none), (9, none), (11, none)], [none, none], []⟩) (e := .normal) (s1 := (nspeculumref09_CheckTour_l1_0_h a0 a1 a2 x9 (w64 (x11 + 1)))) (an (an (an (ti (ti (ti trivial))) (an (decide_eq_true h2028) trivial)) (an (an e2033 (an (decide_eq_false h2034) trivial)) (ti (ti (ti trivial))))) (ti trivial)) (by kernel_rfl)
    cases r with
    | inl r => exact round_next pm pn hv hq h2
    | inr r =>
     exact round_next pm pn hv hq h2
  ·injection h with h; subst h
   exact round_stop (c := ⟨[(1, none), (3, none), (5, none), (9, none)], [none, none], []⟩) (s1 := (nspeculumref09_CheckTour_l1_0_e1 a0 a1 a2 x9 ())) pm pn (ans := [.reg (nN 3 []), .br false]) (by kernel_rfl) (by intro e; cases e) (an (an (ti (ti (ti trivial))) (an (decide_eq_false h2028) trivial)) (ti trivial))
def nspeculumref09_CheckTour_l0_0_h (a0 : SSkyMount) (a1 : (List SSkyTarget)) (a2 : A23) (x9 : Int) : VS := ⟨mkA [(1, VV.tr (List.flatMap c_SSkyTarget a1) a1.length), (3, VV.pt 0 0), (5, VV.pt 1 0), (9, vi x9)], [some ⟨true, 1, [vi a0.Least, vi a0.Most, vi a0.Low, vi a0.High, vi a0.Speed, VV.tr (List.flatMap c_SSkyRow a0.Refraction) a0.Refraction.length, VV.tr (List.flatMap c_SSkyRow a0.Drift) a0.Drift.length]⟩, some ⟨true, 1, [vi a2.e0, vi a2.e1]⟩], .nil⟩
def nspeculumref09_CheckTour_l0_0_e0 (a0 : SSkyMount) (a1 : (List SSkyTarget)) (a2 : A23) (r : Int × Int) : VS := ⟨mkA [(6, vi r.1), (7, vi r.2)], [], .nil⟩
def nspeculumref09_CheckTour_l0_0_e1 (a0 : SSkyMount) (a1 : (List SSkyTarget)) (a2 : A23) (r : Unit) : VS := ⟨mkA [], [], .nil⟩
def nspeculumref09_CheckTour_l0_0 (k : Nat) (a0 : SSkyMount) (a1 : (List SSkyTarget)) (a2 : A23) : Nat → Int → Option (Sum (Int × Int) Unit)
  | 0, _ => none
  | fuel + 1, x9 => if x9 < (a1.length : Int) then (if 0 ≤ x9 ∧ x9 < (a1.length : Int) then ((nspeculumref09_CheckTarget k (a1.getD x9.toNat default)).bind fun r2009 => (if r2009 = 0 then ((nspeculumref09_CheckTour_l1_0 k a0 a1 a2 x9 k 0).bind fun r2036 => (match r2036 with | .inl r2037 => (some (.inl (x9, 5))) | .inr r2038 => ((nspeculumref09_Turns k a0 (a1.getD x9.toNat default) a2.e0).bind fun r2043 => (if r2043.2 = 0 then (nspeculumref09_CheckTour_l0_0 k a0 a1 a2 fuel (w64 (x9 + 1))) else (some (.inl (x9, r2043.2))))))) else (some (.inl (x9, r2009))))) else none) else (some (.inr ()))
theorem nspeculumref09_CheckTour_l0_0_ok (k : Nat) (a0 : SSkyMount) (a1 : (List SSkyTarget)) (a2 : A23) : ∀ (fuel : Nat) (x9 : Int) (r : Sum (Int × Int) Unit), nspeculumref09_CheckTour_l0_0 k a0 a1 a2 fuel x9 = some r → (match r with | .inl r => VLoop none Go.Proofs.Try.prog (szF Go.Proofs.Try.f67) (bodyOf Go.Proofs.Try.f67 0) (nspeculumref09_CheckTour_l0_0_h a0 a1 a2 x9) .ret (nspeculumref09_CheckTour_l0_0_e0 a0 a1 a2 r) | .inr r => VLoop none Go.Proofs.Try.prog (szF Go.Proofs.Try.f67) (bodyOf Go.Proofs.Try.f67 0) (nspeculumref09_CheckTour_l0_0_h a0 a1 a2 x9) (.exit 0) (nspeculumref09_CheckTour_l0_0_e1 a0 a1 a2 r)) := by
 intro fuel
 induction fuel with
 | zero => intro x9 r h; rw [nspeculumref09_CheckTour_l0_0.eq_1] at h; cases h
 | succ fuel ih =>
  intro x9 r h
  rw [nspeculumref09_CheckTour_l0_0.eq_2] at h
  rcases ifs h with ⟨h2006, h⟩ | ⟨h2006, h⟩
  ·obtain ⟨h2007, h⟩ := ifn h
   have e2008 := (show loadL Go.Proofs.Try.prog 83 (x9.toNat * 6) (List.flatMap c_SSkyTarget a1) = some (VV.ag [vs ((a1.getD x9.toNat default).Name), vi ((a1.getD x9.toNat default).Azimuth), vi ((a1.getD x9.toNat default).Height), vi ((a1.getD x9.toNat default).From), vi ((a1.getD x9.toNat default).To), vi ((a1.getD x9.toNat default).Dwell)]) from ld_whole ag83 c_SSkyTarget 6 sz83 len_c_SSkyTarget a1 default h2007 (by omega))
   obtain ⟨r2009, h2010, h⟩ := bs h
   have e2011 := (nspeculumref09_CheckTarget_ok k (a1.getD x9.toNat default) _ h2010)
   have e2012 := (ti (ti (an h2007 (an e2008 (an e2011 (ti trivial))))))
   rcases ifs h with ⟨h2013, h⟩ | ⟨h2013, h⟩
   ·obtain ⟨r2036, h2035, h⟩ := bs h
    have hph2035 := nspeculumref09_CheckTour_l1_0_ok k a0 a1 a2 x9 _ _ _ h2035
    cases r2036 with
    | inl r2037 =>
     dsimp only at h
     have e2039 := (an (ti trivial) (VRun.loop hph2035))
     injection h with h; subst h
     exact round_stop (c := ⟨[(6, none), (7, none)], [], []⟩) (s1 := (nspeculumref09_CheckTour_l0_0_e0 a0 a1 a2 (x9, 5))) pm pn (ans := [.reg (nN 4 []), .br true, .reg (nN 3 (.v (VV.ag [vs ((a1.getD x9.toNat default).Name), vi ((a1.getD x9.toNat default).Azimuth), vi ((a1.getD x9.toNat default).Height), vi ((a1.getD x9.toNat default).From), vi ((a1.getD x9.toNat default).To), vi ((a1.getD x9.toNat default).Dwell)]) :: .call (vi r2009) :: .n :: [])), .reg (.n :: .n :: []), .br false, .reg (.n :: []), .sub ⟨[(1, none), (3, none), (5, none), (9, none), (11, none)], [none, none], []⟩ .ret (nspeculumref09_CheckTour_l1_0_e0 a0 a1 a2 x9 r2037)]) (by kernel_rfl) (by intro e; cases e) (an (an (an (ti (ti (ti (ti trivial)))) (an (decide_eq_true h2006) trivial)) (an (an e2012 (an (ti (ti trivial)) (an (not_f (decide_eq_true h2013)) trivial))) (an (ti trivial) e2039))) (ti trivial))
    | inr r2038 =>
     dsimp only at h
     have e2040 := (an (ti trivial) (VRun.loop hph2035))
     have e2041 := (show loadL Go.Proofs.Try.prog 83 (x9.toNat * 6) (List.flatMap c_SSkyTarget a1) = some (VV.ag [vs ((a1.getD x9.toNat default).Name), vi ((a1.getD x9.toNat default).Azimuth), vi ((a1.getD x9.toNat default).Height), vi ((a1.getD x9.toNat default).From), vi ((a1.getD x9.toNat default).To), vi ((a1.getD x9.toNat default).Dwell)]) from ld_whole ag83 c_SSkyTarget 6 sz83 len_c_SSkyTarget a1 default h2007 (by omega))
     have e2042 := (show (0:Int) ≤ 0 ∧ (0:Int) < ((2 : Nat) : Int) from ⟨by decide, by decide⟩)
     obtain ⟨r2043, h2044, h⟩ := bs h
     have e2045 := (show VC Go.Proofs.Try.prog 59 [VV.ag [vi a0.Least, vi a0.Most, vi a0.Low, vi a0.High, vi a0.Speed, VV.tr (List.flatMap c_SSkyRow a0.Refraction) a0.Refraction.length, VV.tr (List.flatMap c_SSkyRow a0.Drift) a0.Drift.length], VV.ag [vs ((a1.getD x9.toNat default).Name), vi ((a1.getD x9.toNat default).Azimuth), vi ((a1.getD x9.toNat default).Height), vi ((a1.getD x9.toNat default).From), vi ((a1.getD x9.toNat default).To), vi ((a1.getD x9.toNat default).Dwell)], vi a2.e0] (VV.tu [VV.fr (List.map vi r2043.1) r2043.1.length, vi r2043.2]) from (VC.weak (nspeculumref09_Turns_ok k a0 (a1.getD x9.toNat default) a2.e0 _ h2044) (Wv.tuL (.cons (Wv.fw rfl rfl) (.cons (Wv.refl _) .nil)))))
     have e2046 := (ti (ti (ti (an h2007 (an e2041 (an e2042 (ti (an e2045 (ti (ti (ti (ti (ti trivial)))))))))))))
     rcases ifs h with ⟨h2047, h⟩ | ⟨h2047, h⟩
     ·have h2 := ih _ _ h
      obtain ⟨q, hv, hq⟩ := pkR (rd := none) (P := Go.Proofs.Try.prog) (fn := Go.Proofs.Try.f67) (k := 0) (s := (nspeculumref09_CheckTour_l0_0_h a0 a1 a2 x9)) (ans := [.reg (nN 4 []), .br true, .reg (nN 3 (.v (VV.ag [vs ((a1.getD x9.toNat default).Name), vi ((a1.getD x9.toNat default).Azimuth), vi ((a1.getD x9.toNat default).Height), vi ((a1.getD x9.toNat default).From), vi ((a1.getD x9.toNat default).To), vi ((a1.getD x9.toNat default).Dwell)]) :: .call (vi r2009) :: .n :: [])), .reg (.n :: .n :: []), .br false, .reg (.n :: []), .sub ⟨[(1, none), (3, none), (5, none), (9, none), (11, none)], [none, none], []⟩ (.exit 2) (nspeculumref09_CheckTour_l1_0_e1 a0 a1 a2 x9 r2038), .reg (nN 4 (.v (VV.ag [vs ((a1.getD x9.toNat default).Name), vi ((a1.getD x9.toNat default).Azimuth), vi ((a1.getD x9.toNat default).Height), vi ((a1.getD x9.toNat default).From), vi ((a1.getD x9.toNat default).To), vi ((a1.getD x9.toNat default).Dwell)]) :: .n :: .n :: .call (VV.tu [VV.fr (List.map vi r2043.1) r2043.1.length, vi r2043.2]) :: nN 5 [])), .reg (.n :: .n :: []), .br false, .reg (nN 3 [])]) (c := ⟨[(1, none), (3, none), (5, none), (9, none)], [none, none], []⟩) (e := .normal) (s1 := (nspeculumref09_CheckTour_l0_0_h a0 a1 a2 (w64 (x9 + 1)))) (an (an (an (ti (ti (ti (ti trivial)))) (an (decide_eq_true h2006) trivial)) (an (an (an e2012 (an (ti (ti trivial)) (an (not_f (decide_eq_true h2013)) trivial))) (an (an (ti trivial) e2040) (an e2046 (an (ti (ti trivial)) (an (not_f (decide_eq_true h2047)) trivial))))) (ti (ti (ti trivial))))) (ti trivial)) (by kernel_rfl)
      cases r with
      | inl r => exact round_next pm pn hv hq h2
      | inr r =>
       exact round_next pm pn hv hq h2
     ·injection h with h; subst h
      exact round_stop (c := ⟨[(6, none), (7, none)], [], []⟩) (s1 := (nspeculumref09_CheckTour_l0_0_e0 a0 a1 a2 (x9, r2043.2))) pm pn (ans := [.reg (nN 4 []), .br true, .reg (nN 3 (.v (VV.ag [vs ((a1.getD x9.toNat default).Name), vi ((a1.getD x9.toNat default).Azimuth), vi ((a1.getD x9.toNat default).Height), vi ((a1.getD x9.toNat default).From), vi ((a1.getD x9.toNat default).To), vi ((a1.getD x9.toNat default).Dwell)]) :: .call (vi r2009) :: .n :: [])), .reg (.n :: .n :: []), .br false, .reg (.n :: []), .sub ⟨[(1, none), (3, none), (5, none), (9, none), (11, none)], [none, none], []⟩ (.exit 2) (nspeculumref09_CheckTour_l1_0_e1 a0 a1 a2 x9 r2038), .reg (nN 4 (.v (VV.ag [vs ((a1.getD x9.toNat default).Name), vi ((a1.getD x9.toNat default).Azimuth), vi ((a1.getD x9.toNat default).Height), vi ((a1.getD x9.toNat default).From), vi ((a1.getD x9.toNat default).To), vi ((a1.getD x9.toNat default).Dwell)]) :: .n :: .n :: .call (VV.tu [VV.fr (List.map vi r2043.1) r2043.1.length, vi r2043.2]) :: nN 5 [])), .reg (.n :: .n :: []), .br true, .reg (nN 4 [])]) (by kernel_rfl) (by intro e; cases e) (an (an (an (ti (ti (ti (ti trivial)))) (an (decide_eq_true h2006) trivial)) (an (an e2012 (an (ti (ti trivial)) (an (not_f (decide_eq_true h2013)) trivial))) (an (an (ti trivial) e2040) (an e2046 (an (ti (ti trivial)) (an (not_t (decide_eq_false h2047)) (an (ti (ti (ti (ti trivial)))) trivial))))))) (ti trivial))
   ·injection h with h; subst h
    exact round_stop (c := ⟨[(6, none), (7, none)], [], []⟩) (s1 := (nspeculumref09_CheckTour_l0_0_e0 a0 a1 a2 (x9, r2009))) pm pn (ans := [.reg (nN 4 []), .br true, .reg (nN 3 (.v (VV.ag [vs ((a1.getD x9.toNat default).Name), vi ((a1.getD x9.toNat default).Azimuth), vi ((a1.getD x9.toNat default).Height), vi ((a1.getD x9.toNat default).From), vi ((a1.getD x9.toNat default).To), vi ((a1.getD x9.toNat default).Dwell)]) :: .call (vi r2009) :: .n :: [])), .reg (.n :: .n :: []), .br true, .reg (nN 4 [])]) (by kernel_rfl) (by intro e; cases e) (an (an (an (ti (ti (ti (ti trivial)))) (an (decide_eq_true h2006) trivial)) (an e2012 (an (ti (ti trivial)) (an (not_t (decide_eq_false h2013)) (an (ti (ti (ti (ti trivial)))) trivial))))) (ti trivial))
  ·injection h with h; subst h
   exact round_stop (c := ⟨[], [], []⟩) (s1 := (nspeculumref09_CheckTour_l0_0_e1 a0 a1 a2 ())) pm pn (ans := [.reg (nN 4 []), .br false]) (by kernel_rfl) (by intro e; cases e) (an (an (ti (ti (ti (ti trivial)))) (an (decide_eq_false h2006) trivial)) (ti trivial))
def nspeculumref09_CheckTour (k : Nat) (a0 : SSkyMount) (a1 : (List SSkyTarget)) (a2 : A23) : Option (Int × Int) :=
  (nspeculumref09_CheckMount k a0).bind fun r1930 => (if r1930 = 0 then ((nspeculumref09_IsDay k a2.e0).bind fun r1935 => (if r1935 = true then ((nspeculumbase_Within k a2.e1 a0.Least a0.Most).bind fun r1940 => (if r1940 = true then (if 20 < (a1.length : Int) then (some (0, 8)) else ((nspeculumref09_CheckTour_l0_0 k a0 a1 a2 k 0).bind fun r2049 => (match r2049 with | .inl r2050 => (some (r2050.1, r2050.2)) | .inr r2051 => (some (0, 0))))) else (some (0, 2)))) else (some (0, 2)))) else (some (0, r1930)))
theorem nspeculumref09_CheckTour_ok (k : Nat) (a0 : SSkyMount) (a1 : (List SSkyTarget)) (a2 : A23) (r : (Int × Int)) (h : nspeculumref09_CheckTour k a0 a1 a2 = some r) : VC Go.Proofs.Try.prog 67 [VV.ag [vi a0.Least, vi a0.Most, vi a0.Low, vi a0.High, vi a0.Speed, VV.tr (List.flatMap c_SSkyRow a0.Refraction) a0.Refraction.length, VV.tr (List.flatMap c_SSkyRow a0.Drift) a0.Drift.length], VV.tr (List.flatMap c_SSkyTarget a1) a1.length, VV.ag [vi a2.e0, vi a2.e1]] (VV.tu [vi r.1, vi r.2]) := by
 unfold nspeculumref09_CheckTour at h
 obtain ⟨r1930, h1931, h⟩ := bs h
 have e1932 := (nspeculumref09_CheckMount_ok k a0 _ h1931)
 rcases ifs h with ⟨h1933, h⟩ | ⟨h1933, h⟩
 ·have e1934 := (show (0:Int) ≤ 0 ∧ (0:Int) < ((2 : Nat) : Int) from ⟨by decide, by decide⟩)
  obtain ⟨r1935, h1936, h⟩ := bs h
  have e1937 := (nspeculumref09_IsDay_ok k a2.e0 _ h1936)
  rcases ifs h with ⟨h1938, h⟩ | ⟨h1938, h⟩
  ·have e1939 := (an (not_f h1938) (show (0:Int) ≤ 1 ∧ (1:Int) < ((2 : Nat) : Int) from ⟨by decide, by decide⟩))
   obtain ⟨r1940, h1941, h⟩ := bs h
   have e1942 := (an (not_f h1938) (nspeculumbase_Within_ok k a2.e1 a0.Least a0.Most _ h1941))
   have e1943 := (an e1934 (ti (an e1937 (ti (ti (an e1939 (an (an (not_f h1938) trivial) (an (an (not_f h1938) trivial) (an (an (not_f h1938) trivial) (an (an (not_f h1938) trivial) (an (an (not_f h1938) trivial) (an e1942 (an (an (not_f h1938) trivial) (an (not_f h1938) trivial))))))))))))))
   rcases ifs h with ⟨h1944, h⟩ | ⟨h1944, h⟩
   ·rcases ifs h with ⟨h1945, h⟩ | ⟨h1945, h⟩
    ·injection h with h; subst h
     exact fun_ok pm pn Go.Proofs.Try.func67 (r0 := VV.tu [vi 0, vi 8]) (ans := [.reg (nN 4 []), .reg (.n :: .call (vi r1930) :: .n :: []), .reg (.n :: .n :: []), .br false, .reg (.n :: .n :: .call (vb r1935) :: nN 8 (.call (vb r1940) :: .n :: .b false :: [])), .br false, .reg (nN 3 []), .br true, .reg (.n :: .n :: [])]) (fr := true) (by kernel_rfl) (an (an (ti (ti (ti (ti trivial)))) (an (an (ti (an e1932 (ti trivial))) (an (ti (ti trivial)) (an (not_f (decide_eq_true h1933)) trivial))) (an (an e1943 (an (not_f h1944) trivial)) (an (ti (ti (ti trivial))) (an (decide_eq_true h1945) (an (ti (ti trivial)) trivial)))))) (ti (ti trivial))) (Wv.refl _)
    ·obtain ⟨r2049, h2048, h⟩ := bs h
     have hph2048 := nspeculumref09_CheckTour_l0_0_ok k a0 a1 a2 _ _ _ h2048
     cases r2049 with
     | inl r2050 =>
      dsimp only at h
      have e2052 := (an (ti trivial) (VRun.loop hph2048))
      injection h with h; subst h
      exact fun_ok pm pn Go.Proofs.Try.func67 (r0 := VV.tu [vi r2050.1, vi r2050.2]) (ans := [.reg (nN 4 []), .reg (.n :: .call (vi r1930) :: .n :: []), .reg (.n :: .n :: []), .br false, .reg (.n :: .n :: .call (vb r1935) :: nN 8 (.call (vb r1940) :: .n :: .b false :: [])), .br false, .reg (nN 3 []), .br false, .reg (.n :: []), .sub ⟨[(1, none), (3, none), (5, none), (9, none)], [none, none], []⟩ .ret (nspeculumref09_CheckTour_l0_0_e0 a0 a1 a2 r2050)]) (fr := true) (by kernel_rfl) (an (an (ti (ti (ti (ti trivial)))) (an (an (ti (an e1932 (ti trivial))) (an (ti (ti trivial)) (an (not_f (decide_eq_true h1933)) trivial))) (an (an e1943 (an (not_f h1944) trivial)) (an (an (ti (ti (ti trivial))) (an (decide_eq_false h1945) trivial)) (an (ti trivial) e2052))))) (ti (ti trivial))) (Wv.refl _)
     | inr r2051 =>
      dsimp only at h
      have e2053 := (an (ti trivial) (VRun.loop hph2048))
      injection h with h; subst h
      exact fun_ok pm pn Go.Proofs.Try.func67 (r0 := VV.tu [vi 0, vi 0]) (ans := [.reg (nN 4 []), .reg (.n :: .call (vi r1930) :: .n :: []), .reg (.n :: .n :: []), .br false, .reg (.n :: .n :: .call (vb r1935) :: nN 8 (.call (vb r1940) :: .n :: .b false :: [])), .br false, .reg (nN 3 []), .br false, .reg (.n :: []), .sub ⟨[(1, none), (3, none), (5, none), (9, none)], [none, none], []⟩ (.exit 0) (nspeculumref09_CheckTour_l0_0_e1 a0 a1 a2 r2051), .reg (.n :: .n :: [])]) (fr := true) (by kernel_rfl) (an (an (ti (ti (ti (ti trivial)))) (an (an (ti (an e1932 (ti trivial))) (an (ti (ti trivial)) (an (not_f (decide_eq_true h1933)) trivial))) (an (an e1943 (an (not_f h1944) trivial)) (an (an (ti (ti (ti trivial))) (an (decide_eq_false h1945) trivial)) (an (an (ti trivial) e2053) (an (ti (ti trivial)) trivial)))))) (ti (ti trivial))) (Wv.refl _)
   ·injection h with h; subst h
    exact fun_ok pm pn Go.Proofs.Try.func67 (r0 := VV.tu [vi 0, vi 2]) (ans := [.reg (nN 4 []), .reg (.n :: .call (vi r1930) :: .n :: []), .reg (.n :: .n :: []), .br false, .reg (.n :: .n :: .call (vb r1935) :: nN 8 (.call (vb r1940) :: .n :: .b false :: [])), .br true, .reg (.n :: .n :: [])]) (fr := true) (by kernel_rfl) (an (an (ti (ti (ti (ti trivial)))) (an (an (ti (an e1932 (ti trivial))) (an (ti (ti trivial)) (an (not_f (decide_eq_true h1933)) trivial))) (an e1943 (an (not_t (bool_f h1944)) (an (ti (ti trivial)) trivial))))) (ti (ti trivial))) (Wv.refl _)
  ·have e2054 := (an e1934 (ti (an e1937 (ti (ti (an (not_t (bool_f h1938)) (an (not_t (bool_f h1938)) (an (not_t (bool_f h1938)) (an (not_t (bool_f h1938)) (an (not_t (bool_f h1938)) (an (not_t (bool_f h1938)) (an (not_t (bool_f h1938)) (an (not_t (bool_f h1938)) (an (not_t (bool_f h1938)) trivial))))))))))))))
   injection h with h; subst h
   exact fun_ok pm pn Go.Proofs.Try.func67 (r0 := VV.tu [vi 0, vi 2]) (ans := [.reg (nN 4 []), .reg (.n :: .call (vi r1930) :: .n :: []), .reg (.n :: .n :: []), .br false, .reg (.n :: .n :: .call (vb r1935) :: .n :: .n :: nS 8 (.b true :: [])), .br true, .reg (.n :: .n :: [])]) (fr := true) (by kernel_rfl) (an (an (ti (ti (ti (ti trivial)))) (an (an (ti (an e1932 (ti trivial))) (an (ti (ti trivial)) (an (not_f (decide_eq_true h1933)) trivial))) (an e2054 (an rt (an (ti (ti trivial)) trivial))))) (ti (ti trivial))) (Wv.refl _)
 ·injection h with h; subst h
  exact fun_ok pm pn Go.Proofs.Try.func67 (r0 := VV.tu [vi 0, vi r1930]) (ans := [.reg (nN 4 []), .reg (.n :: .call (vi r1930) :: .n :: []), .reg (.n :: .n :: []), .br true, .reg (nN 3 [])]) (fr := true) (by kernel_rfl) (an (an (ti (ti (ti (ti trivial)))) (an (ti (an e1932 (ti trivial))) (an (ti (ti trivial)) (an (not_t (decide_eq_false h1933)) (an (ti (ti (ti trivial))) trivial))))) (ti (ti trivial))) (Wv.refl _)
end Go.Proofs.Ytlhnkehohknhbaa.Vg

/- Written by a program out of the program: what Go functions do, as plain functions, and their contracts. -/
import Derived.Test.YtclabanknlmneaaWa
namespace Go.Proofs.Ytclabanknlmneaa.Vg
set_option maxRecDepth 100000
set_option maxHeartbeats 4000000
set_option linter.unusedVariables false
set_option linter.unusedSimpArgs false
open Go Go.Proofs.Ytclabanknlmneaa.Ev Go.Proofs.Ytclabanknlmneaa.Vv
structure SCoolStep where
  Drop : Int
  Limit : Int
  Most : Int
  deriving Inhabited
def c_SCoolStep (x : SCoolStep) : List VV := [vi x.Drop, vi x.Limit, vi x.Most]
theorem len_c_SCoolStep (x : SCoolStep) : (c_SCoolStep x).length = 3 := rfl
theorem still_c_SCoolStep (xs : List SCoolStep) : (xs.flatMap c_SCoolStep).all VV.still = true := all_flat (fun _ => rfl) xs
theorem isC_c_SCoolStep (xs : List SCoolStep) : (xs.flatMap c_SCoolStep).all VV.isC = true := all_flat (fun _ => rfl) xs
theorem new0_c_SCoolStep (xs : List SCoolStep) : (xs.flatMap c_SCoolStep).all new0 = true := all_flat (fun _ => rfl) xs
theorem unfr_c_SCoolStep (xs : List SCoolStep) : (xs.flatMap c_SCoolStep).map unfr = xs.flatMap c_SCoolStep := unfr_flat (fun _ => rfl) xs
structure SCoolWindow where
  Level : Int
  From : Int
  To : Int
  deriving Inhabited
def c_SCoolWindow (x : SCoolWindow) : List VV := [vi x.Level, vi x.From, vi x.To]
theorem len_c_SCoolWindow (x : SCoolWindow) : (c_SCoolWindow x).length = 3 := rfl
theorem still_c_SCoolWindow (xs : List SCoolWindow) : (xs.flatMap c_SCoolWindow).all VV.still = true := all_flat (fun _ => rfl) xs
theorem isC_c_SCoolWindow (xs : List SCoolWindow) : (xs.flatMap c_SCoolWindow).all VV.isC = true := all_flat (fun _ => rfl) xs
theorem new0_c_SCoolWindow (xs : List SCoolWindow) : (xs.flatMap c_SCoolWindow).all new0 = true := all_flat (fun _ => rfl) xs
theorem unfr_c_SCoolWindow (xs : List SCoolWindow) : (xs.flatMap c_SCoolWindow).map unfr = xs.flatMap c_SCoolWindow := unfr_flat (fun _ => rfl) xs
structure SAnnealing where
  Thick : Int
  Factor : Int
  Steps : (List SCoolStep)
  Windows : (List SCoolWindow)
  deriving Inhabited
def c_SAnnealing (x : SAnnealing) : List VV := [vi x.Thick, vi x.Factor, VV.tr (List.flatMap c_SCoolStep x.Steps) x.Steps.length, VV.tr (List.flatMap c_SCoolWindow x.Windows) x.Windows.length]
theorem len_c_SAnnealing (x : SAnnealing) : (c_SAnnealing x).length = 4 := rfl
def g_SAnnealing (x : SAnnealing) : List VV := [vi x.Thick, vi x.Factor, VV.fr (List.flatMap c_SCoolStep x.Steps) x.Steps.length, VV.fr (List.flatMap c_SCoolWindow x.Windows) x.Windows.length]
theorem len_g_SAnnealing (x : SAnnealing) : (g_SAnnealing x).length = 4 := rfl
theorem still_c_SAnnealing (xs : List SAnnealing) : (xs.flatMap c_SAnnealing).all VV.still = true := all_flat (fun _ => rfl) xs
theorem still_g_SAnnealing (xs : List SAnnealing) : (xs.flatMap g_SAnnealing).all VV.still = true := all_flat (fun _ => rfl) xs
theorem unfr_c_SAnnealing (xs : List SAnnealing) : (xs.flatMap c_SAnnealing).map unfr = xs.flatMap c_SAnnealing := unfr_flat2 (fun _ => rfl) xs
theorem unfr_g_SAnnealing (xs : List SAnnealing) : (xs.flatMap g_SAnnealing).map unfr = xs.flatMap c_SAnnealing := unfr_flat2 (fun _ => rfl) xs
theorem new0_g_SAnnealing (xs : List SAnnealing) : (xs.flatMap g_SAnnealing).all new0 = true := all_flat (fun _ => rfl) xs
structure SRange where
  Lo : Int
  Hi : Int
  deriving Inhabited
def c_SRange (x : SRange) : List VV := [vi x.Lo, vi x.Hi]
theorem len_c_SRange (x : SRange) : (c_SRange x).length = 2 := rfl
theorem still_c_SRange (xs : List SRange) : (xs.flatMap c_SRange).all VV.still = true := all_flat (fun _ => rfl) xs
theorem isC_c_SRange (xs : List SRange) : (xs.flatMap c_SRange).all VV.isC = true := all_flat (fun _ => rfl) xs
theorem new0_c_SRange (xs : List SRange) : (xs.flatMap c_SRange).all new0 = true := all_flat (fun _ => rfl) xs
theorem unfr_c_SRange (xs : List SRange) : (xs.flatMap c_SRange).map unfr = xs.flatMap c_SRange := unfr_flat (fun _ => rfl) xs
theorem ag3 : isAggT Go.Proofs.Try.prog 3 = some false := by kernel_rfl
theorem ag4 : isAggT Go.Proofs.Try.prog 4 = some false := by kernel_rfl
theorem ag28 : isAggT Go.Proofs.Try.prog 28 = some false := by kernel_rfl
theorem ag45 : isAggT Go.Proofs.Try.prog 45 = some false := by kernel_rfl
theorem ag46 : isAggT Go.Proofs.Try.prog 46 = some false := by kernel_rfl
theorem ag48 : isAggT Go.Proofs.Try.prog 48 = some true := by kernel_rfl
theorem sz48 : szOf Go.Proofs.Try.prog 48 = some 4 := by kernel_rfl
theorem ag59 : isAggT Go.Proofs.Try.prog 59 = some true := by kernel_rfl
theorem sz59 : szOf Go.Proofs.Try.prog 59 = some 3 := by kernel_rfl
theorem ag85 : isAggT Go.Proofs.Try.prog 85 = some true := by kernel_rfl
theorem sz85 : szOf Go.Proofs.Try.prog 85 = some 3 := by kernel_rfl
theorem ag92 : isAggT Go.Proofs.Try.prog 92 = some false := by kernel_rfl
theorem ag106 : isAggT Go.Proofs.Try.prog 106 = some false := by kernel_rfl
theorem ag108 : isAggT Go.Proofs.Try.prog 108 = some false := by kernel_rfl
def nblank_isWithin (k : Nat) (a0 : Int) (a1 : Int) (a2 : Int) : Option Bool :=
  if a1 ≤ a0 then (some (decide (a0 ≤ a2))) else (some false)
theorem nblank_isWithin_ok (k : Nat) (a0 : Int) (a1 : Int) (a2 : Int) (r : Bool) (h : nblank_isWithin k a0 a1 a2 = some r) : VC Go.Proofs.Try.prog 68 [vi a0, vi a1, vi a2] (vb r) := by
 unfold nblank_isWithin at h
 rcases ifs h with ⟨h5, h⟩ | ⟨h5, h⟩
 ·have e6 := (ti (ti (ti (ti (an (an (decide_eq_true h5) trivial) (an (an (decide_eq_true h5) trivial) (an (an (decide_eq_true h5) trivial) (an (decide_eq_true h5) (ti trivial)))))))))
  injection h with h; subst h
  exact fun_ok pm pn Go.Proofs.Try.func68 (r0 := vb (decide (a0 ≤ a2))) (ans := [.reg (.n :: []), .reg (nN 7 (.b true :: .n :: []))]) (fr := true) (by kernel_rfl) (an (an (ti trivial) (an e6 trivial)) (ti trivial)) (Wv.refl _)
 ·have e7 := (ti (ti (ti (ti (an (decide_eq_false h5) (an (decide_eq_false h5) (an (decide_eq_false h5) (an (decide_eq_false h5) (ti trivial)))))))))
  injection h with h; subst h
  exact fun_ok pm pn Go.Proofs.Try.func68 (r0 := vb false) (ans := [.reg (.n :: []), .reg (nN 4 (nS 3 (.b false :: .n :: [])))]) (fr := true) (by kernel_rfl) (an (an (ti trivial) (an e7 trivial)) (ti trivial)) (Wv.refl _)
def nblank_need (k : Nat) (a0 : Bool) (a1 : Int) : Option (Bool × Int) :=
  some (a0, a1)
theorem nblank_need_ok (k : Nat) (a0 : Bool) (a1 : Int) (r : (Bool × Int)) (h : nblank_need k a0 a1 = some r) : VC Go.Proofs.Try.prog 55 [vb a0, vi a1] (VV.fn 85 [VV.tp [vb r.1] 0, VV.tp [vi r.2] 0]) := by
 unfold nblank_need at h
 injection h with h; subst h
 exact fun_ok pm pn Go.Proofs.Try.func55 (r0 := VV.fn 85 [VV.tp [vb a0] 0, VV.tp [vi a1] 0]) (ans := [.reg (nN 3 []), .frz 0, .frz 1, .reg (.n :: .n :: [])]) (fr := false) (by kernel_rfl) (an (an (ti (ti (ti trivial))) (an (ti (ti trivial)) trivial)) (ti trivial)) (Wv.of_eq rfl)
def arA1_0 (z0 : Bool) (z1 : (Bool × Int)) : List Ans := (nN 3 (.call (vb z0) :: .call (VV.fn 85 [VV.tp [vb z1.1] 0, VV.tp [vi z1.2] 0]) :: .n :: []))
def nblank_within (k : Nat) (a0 : Int) (a1 : Int) (a2 : Int) : Option (Bool × Int) :=
  (nblank_isWithin k a0 a1 a2).bind fun r13 => ((nblank_need k r13 2).bind fun r15 => (some r15))
theorem nblank_within_ok (k : Nat) (a0 : Int) (a1 : Int) (a2 : Int) (r : (Bool × Int)) (h : nblank_within k a0 a1 a2 = some r) : VC Go.Proofs.Try.prog 54 [vi a0, vi a1, vi a2] (VV.fn 85 [VV.tp [vb r.1] 0, VV.tp [vi r.2] 0]) := by
 unfold nblank_within at h
 obtain ⟨r13, h14, h⟩ := bs h
 obtain ⟨r15, h16, h⟩ := bs h
 have e17 := (ti (ti (ti (an (nblank_isWithin_ok k a0 a1 a2 _ h14) (an (nblank_need_ok k r13 2 _ h16) (ti trivial))))))
 injection h with h; subst h
 exact fun_ok pm pn Go.Proofs.Try.func54 (r0 := VV.fn 85 [VV.tp [vb r15.1] 0, VV.tp [vi r15.2] 0]) (ans := [.reg (.n :: []), .reg (arA1_0 r13 r15)]) (fr := false) (by kernel_rfl) (an (an (ti trivial) (an e17 trivial)) (ti trivial)) (Wv.refl _)
def nblank_each_api_CoolStep__c1_136 (k : Nat) (a0 : (List SCoolStep)) (a1 : Unit) : Option ((List SCoolStep) × Unit) :=
  some (a0, a1)
theorem nblank_each_api_CoolStep__c1_136_ok (k : Nat) (a0 : (List SCoolStep)) (a1 : Unit) (r : ((List SCoolStep) × Unit)) (h : nblank_each_api_CoolStep__c1_136 k a0 a1 = some r) : VC Go.Proofs.Try.prog 71 [VV.tr (List.flatMap c_SCoolStep a0) a0.length, VV.fn 72 []] (VV.fn 90 [VV.tp [VV.tr (List.flatMap c_SCoolStep r.1) r.1.length] 0, VV.tp [VV.fn 72 []] 0]) := by
 unfold nblank_each_api_CoolStep__c1_136 at h
 injection h with h; subst h
 exact fun_ok pm pn Go.Proofs.Try.func71 (r0 := VV.fn 90 [VV.tp [VV.tr (List.flatMap c_SCoolStep a0) a0.length] 0, VV.tp [VV.fn 72 []] 0]) (ans := [.reg (nN 3 []), .frz 0, .frz 1, .reg (.n :: .n :: [])]) (fr := false) (by kernel_rfl) (an (an (ti (ti (ti trivial))) (an (ti (ti trivial)) trivial)) (ti trivial)) (Wv.of_eq rfl)
def nblank_each_api_CoolWindow__c1_138 (k : Nat) (a0 : (List SCoolWindow)) (a1 : (Int × Int × (List SCoolStep) × (List SCoolWindow))) : Option ((List SCoolWindow) × (Int × Int × (List SCoolStep) × (List SCoolWindow))) :=
  some (a0, a1)
theorem nblank_each_api_CoolWindow__c1_138_ok (k : Nat) (a0 : (List SCoolWindow)) (a1 : (Int × Int × (List SCoolStep) × (List SCoolWindow))) (r : ((List SCoolWindow) × (Int × Int × (List SCoolStep) × (List SCoolWindow)))) (h : nblank_each_api_CoolWindow__c1_138 k a0 a1 = some r) : VC Go.Proofs.Try.prog 73 [VV.tr (List.flatMap c_SCoolWindow a0) a0.length, VV.fn 74 [VV.tp [vi a1.1, vi a1.2.1, VV.tr (List.flatMap c_SCoolStep a1.2.2.1) a1.2.2.1.length, VV.tr (List.flatMap c_SCoolWindow a1.2.2.2) a1.2.2.2.length] 0]] (VV.fn 91 [VV.tp [VV.tr (List.flatMap c_SCoolWindow r.1) r.1.length] 0, VV.tp [VV.fn 74 [VV.tp [vi r.2.1, vi r.2.2.1, VV.tr (List.flatMap c_SCoolStep r.2.2.2.1) r.2.2.2.1.length, VV.tr (List.flatMap c_SCoolWindow r.2.2.2.2) r.2.2.2.2.length] 0]] 0]) := by
 unfold nblank_each_api_CoolWindow__c1_138 at h
 injection h with h; subst h
 exact fun_ok pm pn Go.Proofs.Try.func73 (r0 := VV.fn 91 [VV.tp [VV.tr (List.flatMap c_SCoolWindow a0) a0.length] 0, VV.tp [VV.fn 74 [VV.tp [vi a1.1, vi a1.2.1, VV.tr (List.flatMap c_SCoolStep a1.2.2.1) a1.2.2.1.length, VV.tr (List.flatMap c_SCoolWindow a1.2.2.2) a1.2.2.2.length] 0]] 0]) (ans := [.reg (nN 3 []), .frz 0, .frz 1, .reg (.n :: .n :: [])]) (fr := false) (by kernel_rfl) (an (an (ti (ti (ti trivial))) (an (ti (ti trivial)) trivial)) (ti trivial)) (Wv.of_eq rfl)
theorem eqA1_0 (z0 : SAnnealing) : [VV.tr (List.flatMap c_SCoolWindow z0.Windows) z0.Windows.length, VV.fn 74 [VV.tp [vi ((z0.Thick, z0.Factor, z0.Steps, z0.Windows).1), vi ((z0.Thick, z0.Factor, z0.Steps, z0.Windows).2.1), VV.tr (List.flatMap c_SCoolStep ((z0.Thick, z0.Factor, z0.Steps, z0.Windows).2.2.1)) (((z0.Thick, z0.Factor, z0.Steps, z0.Windows).2.2.1).length), VV.tr (List.flatMap c_SCoolWindow ((z0.Thick, z0.Factor, z0.Steps, z0.Windows).2.2.2)) (((z0.Thick, z0.Factor, z0.Steps, z0.Windows).2.2.2).length)] 0]] = [VV.tr (List.flatMap c_SCoolWindow z0.Windows) z0.Windows.length, VV.fn 74 [VV.tp [vi z0.Thick, vi z0.Factor, VV.tr (List.flatMap c_SCoolStep z0.Steps) z0.Steps.length, VV.tr (List.flatMap c_SCoolWindow z0.Windows) z0.Windows.length] 0]] := by first | rfl | (simp only [unfr_vi, List.map_cons, List.map_nil, un_i, un_tr, List.length_cons, List.length_nil, unfr_c_SCoolStep, unfr_c_SCoolWindow]; try rfl)
def nblank_need_1 (k : Nat) (q0_0 : Bool) (q1_0 : Int) : Option Int :=
  if q0_0 = true then (some 0) else (some q1_0)
theorem nblank_need_1_ok (k : Nat) (q0_0 : Bool) (q1_0 : Int) (r : Int) (h : nblank_need_1 k q0_0 q1_0 = some r) : VC Go.Proofs.Try.prog 85 [VV.tp [vb q0_0] 0, VV.tp [vi q1_0] 0] (vi r) := by
 unfold nblank_need_1 at h
 have e48 := (show loadL Go.Proofs.Try.prog 4 0 [vb q0_0] = some (vb q0_0) from (ld_one ag4 rfl))
 rcases ifs h with ⟨h49, h⟩ | ⟨h49, h⟩
 ·injection h with h; subst h
  exact fun_ok pm pn Go.Proofs.Try.func85 (r0 := vi 0) (ans := [.reg (.n :: []), .reg (.v (vb q0_0) :: []), .br true, .reg (.n :: [])]) (fr := true) (by kernel_rfl) (an (an (ti trivial) (an (an e48 trivial) (an h49 (an (ti trivial) trivial)))) (ti trivial)) (Wv.refl _)
 ·have e50 := (show loadL Go.Proofs.Try.prog 28 0 [vi q1_0] = some (vi q1_0) from (ld_one ag28 rfl))
  injection h with h; subst h
  exact fun_ok pm pn Go.Proofs.Try.func85 (r0 := vi q1_0) (ans := [.reg (.n :: []), .reg (.v (vb q0_0) :: []), .br false, .reg (.v (vi q1_0) :: .n :: [])]) (fr := true) (by kernel_rfl) (an (an (ti trivial) (an (an (an e48 trivial) (an (bool_f h49) trivial)) (an (an e50 (ti trivial)) trivial))) (ti trivial)) (Wv.refl _)
def nblank_firstOf_c0_141 (k : Nat) (a0 : ((Bool × Int) × (Bool × Int) × (Bool × Int))) : Option Int :=
  (nblank_need_1 k a0.1.1 a0.1.2).bind fun r103 => (if r103 = 0 then ((nblank_need_1 k a0.2.1.1 a0.2.1.2).bind fun r109 => (if r109 = 0 then ((nblank_need_1 k a0.2.2.1 a0.2.2.2).bind fun r115 => (if r115 = 0 then (some 0) else (some r115))) else (some r109))) else (some r103))
theorem nblank_firstOf_c0_141_ok (k : Nat) (a0 : ((Bool × Int) × (Bool × Int) × (Bool × Int))) (r : Int) (h : nblank_firstOf_c0_141 k a0 = some r) : VC Go.Proofs.Try.prog 53 [VV.tr ([VV.fn 85 [VV.tp [vb a0.1.1] 0, VV.tp [vi a0.1.2] 0], VV.fn 85 [VV.tp [vb a0.2.1.1] 0, VV.tp [vi a0.2.1.2] 0], VV.fn 85 [VV.tp [vb a0.2.2.1] 0, VV.tp [vi a0.2.2.2] 0]]) 3] (vi r) := by
 unfold nblank_firstOf_c0_141 at h
 have e101 := (show (0 : Int) ≤ 0 ∧ (0 : Int) < ((3 : Nat) : Int) from ⟨by decide, by decide⟩)
 have e102 := (show loadL Go.Proofs.Try.prog 92 ((0 : Int).toNat * 1) ([VV.fn 85 [VV.tp [vb a0.1.1] 0, VV.tp [vi a0.1.2] 0], VV.fn 85 [VV.tp [vb a0.2.1.1] 0, VV.tp [vi a0.2.1.2] 0], VV.fn 85 [VV.tp [vb a0.2.2.1] 0, VV.tp [vi a0.2.2.2] 0]]) = some (VV.fn 85 [VV.tp [vb a0.1.1] 0, VV.tp [vi a0.1.2] 0]) from (ld_one ag92 rfl))
 obtain ⟨r103, h104, h⟩ := bs h
 have e105 := (nblank_need_1_ok k a0.1.1 a0.1.2 _ h104)
 rcases ifs h with ⟨h106, h⟩ | ⟨h106, h⟩
 ·have e107 := (show (0 : Int) ≤ 1 ∧ (1 : Int) < ((3 : Nat) : Int) from ⟨by decide, by decide⟩)
  have e108 := (show loadL Go.Proofs.Try.prog 92 ((1 : Int).toNat * 1) ([VV.fn 85 [VV.tp [vb a0.1.1] 0, VV.tp [vi a0.1.2] 0], VV.fn 85 [VV.tp [vb a0.2.1.1] 0, VV.tp [vi a0.2.1.2] 0], VV.fn 85 [VV.tp [vb a0.2.2.1] 0, VV.tp [vi a0.2.2.2] 0]]) = some (VV.fn 85 [VV.tp [vb a0.2.1.1] 0, VV.tp [vi a0.2.1.2] 0]) from (ld_one ag92 rfl))
  obtain ⟨r109, h110, h⟩ := bs h
  have e111 := (nblank_need_1_ok k a0.2.1.1 a0.2.1.2 _ h110)
  rcases ifs h with ⟨h112, h⟩ | ⟨h112, h⟩
  ·have e113 := (show (0 : Int) ≤ 2 ∧ (2 : Int) < ((3 : Nat) : Int) from ⟨by decide, by decide⟩)
   have e114 := (show loadL Go.Proofs.Try.prog 92 ((2 : Int).toNat * 1) ([VV.fn 85 [VV.tp [vb a0.1.1] 0, VV.tp [vi a0.1.2] 0], VV.fn 85 [VV.tp [vb a0.2.1.1] 0, VV.tp [vi a0.2.1.2] 0], VV.fn 85 [VV.tp [vb a0.2.2.1] 0, VV.tp [vi a0.2.2.2] 0]]) = some (VV.fn 85 [VV.tp [vb a0.2.2.1] 0, VV.tp [vi a0.2.2.2] 0]) from (ld_one ag92 rfl))
   obtain ⟨r115, h116, h⟩ := bs h
   have e117 := (nblank_need_1_ok k a0.2.2.1 a0.2.2.2 _ h116)
   rcases ifs h with ⟨h118, h⟩ | ⟨h118, h⟩
   ·injection h with h; subst h
    exact fun_ok pm pn Go.Proofs.Try.func53 (r0 := vi 0) (ans := [.reg (.n :: []), .reg (nN 3 []), .unr 5, .reg (.n :: []), .br true, .reg (.n :: .v (VV.fn 85 [VV.tp [vb a0.1.1] 0, VV.tp [vi a0.1.2] 0]) :: .n :: []), .reg (.n :: .call (vi r103) :: .n :: []), .reg (.n :: .n :: []), .br false, .reg (.n :: .n :: []), .reg (.n :: []), .br true, .reg (.n :: .v (VV.fn 85 [VV.tp [vb a0.2.1.1] 0, VV.tp [vi a0.2.1.2] 0]) :: .n :: []), .reg (.n :: .call (vi r109) :: .n :: []), .reg (.n :: .n :: []), .br false, .reg (.n :: .n :: []), .reg (.n :: []), .br true, .reg (.n :: .v (VV.fn 85 [VV.tp [vb a0.2.2.1] 0, VV.tp [vi a0.2.2.2] 0]) :: .n :: []), .reg (.n :: .call (vi r115) :: .n :: []), .reg (.n :: .n :: []), .br false, .reg (.n :: .n :: []), .reg (.n :: []), .br false, .reg (.n :: [])]) (fr := true) (by kernel_rfl) (an (an (ti trivial) (an (an (ti (ti (ti trivial))) (an (an (ti trivial) (an (an (show (decide ((0 : Int) < 3)) = true from (decide_eq_true (by decide))) trivial) (an (an (an e101 (an e102 (ti trivial))) (an (ti (an e105 (ti trivial))) (an (ti (ti trivial)) (an (not_f (decide_eq_true h106)) trivial)))) (ti (ti trivial))))) (an (an (ti trivial) (an (an (show (decide ((1 : Int) < 3)) = true from (decide_eq_true (by decide))) trivial) (an (an (an e107 (an e108 (ti trivial))) (an (ti (an e111 (ti trivial))) (an (ti (ti trivial)) (an (not_f (decide_eq_true h112)) trivial)))) (ti (ti trivial))))) (an (an (ti trivial) (an (an (show (decide ((2 : Int) < 3)) = true from (decide_eq_true (by decide))) trivial) (an (an (an e113 (an e114 (ti trivial))) (an (ti (an e117 (ti trivial))) (an (ti (ti trivial)) (an (not_f (decide_eq_true h118)) trivial)))) (ti (ti trivial))))) (an (ti trivial) (an (show (decide ((3 : Int) < 3)) = false from (decide_eq_false (by decide))) trivial)))))) (an (ti trivial) trivial))) (ti trivial)) (Wv.refl _)
   ·injection h with h; subst h
    exact fun_ok pm pn Go.Proofs.Try.func53 (r0 := vi r115) (ans := [.reg (.n :: []), .reg (nN 3 []), .unr 4, .reg (.n :: []), .br true, .reg (.n :: .v (VV.fn 85 [VV.tp [vb a0.1.1] 0, VV.tp [vi a0.1.2] 0]) :: .n :: []), .reg (.n :: .call (vi r103) :: .n :: []), .reg (.n :: .n :: []), .br false, .reg (.n :: .n :: []), .reg (.n :: []), .br true, .reg (.n :: .v (VV.fn 85 [VV.tp [vb a0.2.1.1] 0, VV.tp [vi a0.2.1.2] 0]) :: .n :: []), .reg (.n :: .call (vi r109) :: .n :: []), .reg (.n :: .n :: []), .br false, .reg (.n :: .n :: []), .reg (.n :: []), .br true, .reg (.n :: .v (VV.fn 85 [VV.tp [vb a0.2.2.1] 0, VV.tp [vi a0.2.2.2] 0]) :: .n :: []), .reg (.n :: .call (vi r115) :: .n :: []), .reg (.n :: .n :: []), .br true, .reg (.n :: .n :: [])]) (fr := true) (by kernel_rfl) (an (an (ti trivial) (an (ti (ti (ti trivial))) (an (an (ti trivial) (an (an (show (decide ((0 : Int) < 3)) = true from (decide_eq_true (by decide))) trivial) (an (an (an e101 (an e102 (ti trivial))) (an (ti (an e105 (ti trivial))) (an (ti (ti trivial)) (an (not_f (decide_eq_true h106)) trivial)))) (ti (ti trivial))))) (an (an (ti trivial) (an (an (show (decide ((1 : Int) < 3)) = true from (decide_eq_true (by decide))) trivial) (an (an (an e107 (an e108 (ti trivial))) (an (ti (an e111 (ti trivial))) (an (ti (ti trivial)) (an (not_f (decide_eq_true h112)) trivial)))) (ti (ti trivial))))) (an (ti trivial) (an (an (show (decide ((2 : Int) < 3)) = true from (decide_eq_true (by decide))) trivial) (an (an e113 (an e114 (ti trivial))) (an (ti (an e117 (ti trivial))) (an (ti (ti trivial)) (an (not_t (decide_eq_false h118)) (an (ti (ti trivial)) trivial))))))))))) (ti trivial)) (Wv.refl _)
  ·injection h with h; subst h
   exact fun_ok pm pn Go.Proofs.Try.func53 (r0 := vi r109) (ans := [.reg (.n :: []), .reg (nN 3 []), .unr 3, .reg (.n :: []), .br true, .reg (.n :: .v (VV.fn 85 [VV.tp [vb a0.1.1] 0, VV.tp [vi a0.1.2] 0]) :: .n :: []), .reg (.n :: .call (vi r103) :: .n :: []), .reg (.n :: .n :: []), .br false, .reg (.n :: .n :: []), .reg (.n :: []), .br true, .reg (.n :: .v (VV.fn 85 [VV.tp [vb a0.2.1.1] 0, VV.tp [vi a0.2.1.2] 0]) :: .n :: []), .reg (.n :: .call (vi r109) :: .n :: []), .reg (.n :: .n :: []), .br true, .reg (.n :: .n :: [])]) (fr := true) (by kernel_rfl) (an (an (ti trivial) (an (ti (ti (ti trivial))) (an (an (ti trivial) (an (an (show (decide ((0 : Int) < 3)) = true from (decide_eq_true (by decide))) trivial) (an (an (an e101 (an e102 (ti trivial))) (an (ti (an e105 (ti trivial))) (an (ti (ti trivial)) (an (not_f (decide_eq_true h106)) trivial)))) (ti (ti trivial))))) (an (ti trivial) (an (an (show (decide ((1 : Int) < 3)) = true from (decide_eq_true (by decide))) trivial) (an (an e107 (an e108 (ti trivial))) (an (ti (an e111 (ti trivial))) (an (ti (ti trivial)) (an (not_t (decide_eq_false h112)) (an (ti (ti trivial)) trivial)))))))))) (ti trivial)) (Wv.refl _)
 ·injection h with h; subst h
  exact fun_ok pm pn Go.Proofs.Try.func53 (r0 := vi r103) (ans := [.reg (.n :: []), .reg (nN 3 []), .unr 2, .reg (.n :: []), .br true, .reg (.n :: .v (VV.fn 85 [VV.tp [vb a0.1.1] 0, VV.tp [vi a0.1.2] 0]) :: .n :: []), .reg (.n :: .call (vi r103) :: .n :: []), .reg (.n :: .n :: []), .br true, .reg (.n :: .n :: [])]) (fr := true) (by kernel_rfl) (an (an (ti trivial) (an (ti (ti (ti trivial))) (an (ti trivial) (an (an (show (decide ((0 : Int) < 3)) = true from (decide_eq_true (by decide))) trivial) (an (an e101 (an e102 (ti trivial))) (an (ti (an e105 (ti trivial))) (an (ti (ti trivial)) (an (not_t (decide_eq_false h106)) (an (ti (ti trivial)) trivial))))))))) (ti trivial)) (Wv.refl _)
theorem eqA1_1 (z0 : (Bool × Int)) (z1 : (Bool × Int)) (z2 : (Bool × Int)) : [VV.tr ([VV.fn 85 [VV.tp [vb (((z0, z1, z2).1).1)] 0, VV.tp [vi (((z0, z1, z2).1).2)] 0], VV.fn 85 [VV.tp [vb (((z0, z1, z2).2.1).1)] 0, VV.tp [vi (((z0, z1, z2).2.1).2)] 0], VV.fn 85 [VV.tp [vb (((z0, z1, z2).2.2).1)] 0, VV.tp [vi (((z0, z1, z2).2.2).2)] 0]]) 3] = [VV.tr (List.drop 0 (List.map unfr [VV.fn 85 [VV.tp [vb z0.1] 0, VV.tp [vi z0.2] 0], VV.fn 85 [VV.tp [vb z1.1] 0, VV.tp [vi z1.2] 0], VV.fn 85 [VV.tp [vb z2.1] 0, VV.tp [vi z2.2] 0]])) 3] := by first | rfl | (simp only [drop0, unfr_vi, unfr_vb, List.map_cons, List.map_nil, un_i, un_b, un_tr]; try rfl)
def arA1_1 (z0 : (Bool × Int)) (z1 : (Bool × Int)) (z2 : (Bool × Int)) (z3 : Int) : List Ans := (.n :: .n :: .call (VV.fn 85 [VV.tp [vb z0.1] 0, VV.tp [vi z0.2] 0]) :: .n :: .n :: .call (VV.fn 85 [VV.tp [vb z1.1] 0, VV.tp [vi z1.2] 0]) :: .n :: .n :: .call (VV.fn 85 [VV.tp [vb z2.1] 0, VV.tp [vi z2.2] 0]) :: .n :: .call (vi z3) :: .n :: [])
def nblank_CheckAnnealing_1 (k : Nat) (a0 : SCoolStep) : Option Int :=
  (nblank_within k a0.Drop 1 1000).bind fun r123 => ((nblank_within k a0.Limit 1 1000000000).bind fun r126 => ((nblank_within k a0.Most 1 100000).bind fun r129 => ((nblank_firstOf_c0_141 k (r123, r126, r129)).bind fun r132 => (some r132))))
theorem nblank_CheckAnnealing_1_ok (k : Nat) (a0 : SCoolStep) (r : Int) (h : nblank_CheckAnnealing_1 k a0 = some r) : VC Go.Proofs.Try.prog 72 [VV.ag (c_SCoolStep a0)] (vi r) := by
 unfold nblank_CheckAnnealing_1 at h
 obtain ⟨r123, h124, h⟩ := bs h
 have e125 := (nblank_within_ok k a0.Drop 1 1000 _ h124)
 obtain ⟨r126, h127, h⟩ := bs h
 have e128 := (nblank_within_ok k a0.Limit 1 1000000000 _ h127)
 obtain ⟨r129, h130, h⟩ := bs h
 have e131 := (nblank_within_ok k a0.Most 1 100000 _ h130)
 obtain ⟨r132, h133, h⟩ := bs h
 have e134 := (VC.args (nblank_firstOf_c0_141_ok k (r123, r126, r129) _ h133) (eqA1_1 r123 r126 r129))
 have e135 := (ti (ti (an e125 (ti (ti (an e128 (ti (ti (an e131 (ti (an e134 (ti trivial))))))))))))
 injection h with h; subst h
 exact fun_ok pm pn Go.Proofs.Try.func72 (r0 := vi r132) (ans := [.reg (.n :: .n :: []), .reg (arA1_1 r123 r126 r129 r132)]) (fr := true) (by kernel_rfl) (an (an (ti (ti trivial)) (an e135 trivial)) (ti trivial)) (Wv.refl _)
def nblank_each_api_CoolStep_1_k45_136_l0_0_h (q0_0 : (List SCoolStep)) (x8 : Int) : VS := ⟨mkA [(1, VV.tp [VV.fn 72 []] 0), (6, VV.tr (List.flatMap c_SCoolStep q0_0) q0_0.length), (7, vi (q0_0.length : Int)), (8, vi x8)], [], .nil⟩
def nblank_each_api_CoolStep_1_k45_136_l0_0_e0 (q0_0 : (List SCoolStep)) (r : Int) : VS := ⟨mkA [(2, vi r)], [], .nil⟩
def nblank_each_api_CoolStep_1_k45_136_l0_0_e1 (q0_0 : (List SCoolStep)) (r : Unit) : VS := ⟨mkA [], [], .nil⟩
def nblank_each_api_CoolStep_1_k45_136_l0_0 (k : Nat) (q0_0 : (List SCoolStep)) : Nat → Int → Option (Sum Int Unit)
  | 0, _ => none
  | fuel + 1, x8 => if x8 < (q0_0.length : Int) then (if 0 ≤ x8 ∧ x8 < (q0_0.length : Int) then ((nblank_CheckAnnealing_1 k (q0_0.getD x8.toNat default)).bind fun r183 => (if r183 = 0 then (nblank_each_api_CoolStep_1_k45_136_l0_0 k q0_0 fuel (w64 (x8 + 1))) else (some (.inl r183)))) else none) else (some (.inr ()))
theorem nblank_each_api_CoolStep_1_k45_136_l0_0_ok (k : Nat) (q0_0 : (List SCoolStep)) : ∀ (fuel : Nat) (x8 : Int) (r : Sum Int Unit), nblank_each_api_CoolStep_1_k45_136_l0_0 k q0_0 fuel x8 = some r → (match r with | .inl r => VLoop none Go.Proofs.Try.prog (szF Go.Proofs.Try.f90) (bodyOf Go.Proofs.Try.f90 0) (nblank_each_api_CoolStep_1_k45_136_l0_0_h q0_0 x8) .ret (nblank_each_api_CoolStep_1_k45_136_l0_0_e0 q0_0 r) | .inr r => VLoop none Go.Proofs.Try.prog (szF Go.Proofs.Try.f90) (bodyOf Go.Proofs.Try.f90 0) (nblank_each_api_CoolStep_1_k45_136_l0_0_h q0_0 x8) (.exit 0) (nblank_each_api_CoolStep_1_k45_136_l0_0_e1 q0_0 r)) := by
 intro fuel
 induction fuel with
 | zero => intro x8 r h; rw [nblank_each_api_CoolStep_1_k45_136_l0_0.eq_1] at h; cases h
 | succ fuel ih =>
  intro x8 r h
  rw [nblank_each_api_CoolStep_1_k45_136_l0_0.eq_2] at h
  rcases ifs h with ⟨h179, h⟩ | ⟨h179, h⟩
  ·obtain ⟨h180, h⟩ := ifn h
   have e181 := (show loadL Go.Proofs.Try.prog 59 (x8.toNat * 3) (List.flatMap c_SCoolStep q0_0) = some (VV.ag (c_SCoolStep (q0_0.getD x8.toNat default))) from ld_whole ag59 c_SCoolStep 3 sz59 len_c_SCoolStep q0_0 default h180 (by omega))
   have e182 := (show loadL Go.Proofs.Try.prog 106 0 [VV.fn 72 []] = some (VV.fn 72 []) from (ld_one ag106 rfl))
   obtain ⟨r183, h184, h⟩ := bs h
   have e185 := (nblank_CheckAnnealing_1_ok k (q0_0.getD x8.toNat default) _ h184)
   rcases ifs h with ⟨h186, h⟩ | ⟨h186, h⟩
   ·have h2 := ih _ _ h
    obtain ⟨q, hv, hq⟩ := pkR (rd := none) (P := Go.Proofs.Try.prog) (fn := Go.Proofs.Try.f90) (k := 0) (s := (nblank_each_api_CoolStep_1_k45_136_l0_0_h q0_0 x8)) (ans := [.reg (.n :: []), .br true, .reg (.n :: .v (VV.ag (c_SCoolStep (q0_0.getD x8.toNat default))) :: .n :: .n :: []), .reg (.v (VV.fn 72 []) :: .n :: .call (vi r183) :: .n :: []), .reg (.n :: .n :: []), .br false, .reg (.n :: .n :: [])]) (c := ⟨[(1, none), (6, none), (7, none), (8, none)], [], []⟩) (e := .normal) (s1 := (nblank_each_api_CoolStep_1_k45_136_l0_0_h q0_0 (w64 (x8 + 1)))) (an (an (ti trivial) (an (an (decide_eq_true h179) trivial) (an (an (an h180 (an e181 (ti (ti trivial)))) (an (an e182 (ti (an e185 (ti trivial)))) (an (ti (ti trivial)) (an (not_f (decide_eq_true h186)) trivial)))) (ti (ti trivial))))) (ti trivial)) (by kernel_rfl)
    cases r with
    | inl r => exact round_next pm pn hv hq h2
    | inr r =>
     exact round_next pm pn hv hq h2
   ·injection h with h; subst h
    exact round_stop (c := ⟨[(2, none)], [], []⟩) (s1 := (nblank_each_api_CoolStep_1_k45_136_l0_0_e0 q0_0 r183)) pm pn (ans := [.reg (.n :: []), .br true, .reg (.n :: .v (VV.ag (c_SCoolStep (q0_0.getD x8.toNat default))) :: .n :: .n :: []), .reg (.v (VV.fn 72 []) :: .n :: .call (vi r183) :: .n :: []), .reg (.n :: .n :: []), .br true, .reg (.n :: .n :: [])]) (by kernel_rfl) (by intro e; cases e) (an (an (ti trivial) (an (an (decide_eq_true h179) trivial) (an (an h180 (an e181 (ti (ti trivial)))) (an (an e182 (ti (an e185 (ti trivial)))) (an (ti (ti trivial)) (an (not_t (decide_eq_false h186)) (an (ti (ti trivial)) trivial))))))) (ti trivial))
  ·injection h with h; subst h
   exact round_stop (c := ⟨[], [], []⟩) (s1 := (nblank_each_api_CoolStep_1_k45_136_l0_0_e1 q0_0 ())) pm pn (ans := [.reg (.n :: []), .br false]) (by kernel_rfl) (by intro e; cases e) (an (an (ti trivial) (an (decide_eq_false h179) trivial)) (ti trivial))
def nblank_each_api_CoolStep_1_k45_136 (k : Nat) (q0_0 : (List SCoolStep)) (q1_0 : Unit) : Option Int :=
  (nblank_each_api_CoolStep_1_k45_136_l0_0 k q0_0 k 0).bind fun r188 => (match r188 with | .inl r189 => (some r189) | .inr r190 => (some 0))
theorem nblank_each_api_CoolStep_1_k45_136_ok (k : Nat) (q0_0 : (List SCoolStep)) (q1_0 : Unit) (r : Int) (h : nblank_each_api_CoolStep_1_k45_136 k q0_0 q1_0 = some r) : VC Go.Proofs.Try.prog 90 [VV.tp [VV.tr (List.flatMap c_SCoolStep q0_0) q0_0.length] 0, VV.tp [VV.fn 72 []] 0] (vi r) := by
 unfold nblank_each_api_CoolStep_1_k45_136 at h
 have e162 := (show loadL Go.Proofs.Try.prog 45 0 [VV.tr (List.flatMap c_SCoolStep q0_0) q0_0.length] = some (VV.tr (List.flatMap c_SCoolStep q0_0) q0_0.length) from (ld_one ag45 rfl))
 obtain ⟨r188, h187, h⟩ := bs h
 have hph187 := nblank_each_api_CoolStep_1_k45_136_l0_0_ok k q0_0 _ _ _ h187
 cases r188 with
 | inl r189 =>
  dsimp only at h
  have e191 := (an (ti trivial) (VRun.loop hph187))
  injection h with h; subst h
  exact fun_ok pm pn Go.Proofs.Try.func90 (r0 := vi r189) (ans := [.reg (.n :: []), .reg (.v (VV.tr (List.flatMap c_SCoolStep q0_0) q0_0.length) :: .n :: .n :: []), .sub ⟨[(1, none), (6, none), (7, none), (8, none)], [], []⟩ .ret (nblank_each_api_CoolStep_1_k45_136_l0_0_e0 q0_0 r189)]) (fr := true) (by kernel_rfl) (an (an (ti trivial) (an (an e162 (ti (ti trivial))) e191)) (ti trivial)) (Wv.refl _)
 | inr r190 =>
  dsimp only at h
  have e192 := (an (ti trivial) (VRun.loop hph187))
  injection h with h; subst h
  exact fun_ok pm pn Go.Proofs.Try.func90 (r0 := vi 0) (ans := [.reg (.n :: []), .reg (.v (VV.tr (List.flatMap c_SCoolStep q0_0) q0_0.length) :: .n :: .n :: []), .sub ⟨[(1, none), (6, none), (7, none), (8, none)], [], []⟩ (.exit 0) (nblank_each_api_CoolStep_1_k45_136_l0_0_e1 q0_0 r190), .reg (.n :: [])]) (fr := true) (by kernel_rfl) (an (an (ti trivial) (an (an (an e162 (ti (ti trivial))) e192) (an (ti trivial) trivial))) (ti trivial)) (Wv.refl _)
def nblank_firstOf_c0_142 (k : Nat) (a0 : ((Bool × Int) × (Bool × Int) × (Bool × Int) × (Bool × Int))) : Option Int :=
  (nblank_need_1 k a0.1.1 a0.1.2).bind fun r251 => (if r251 = 0 then ((nblank_need_1 k a0.2.1.1 a0.2.1.2).bind fun r257 => (if r257 = 0 then ((nblank_need_1 k a0.2.2.1.1 a0.2.2.1.2).bind fun r263 => (if r263 = 0 then ((nblank_need_1 k a0.2.2.2.1 a0.2.2.2.2).bind fun r269 => (if r269 = 0 then (some 0) else (some r269))) else (some r263))) else (some r257))) else (some r251))
theorem nblank_firstOf_c0_142_ok (k : Nat) (a0 : ((Bool × Int) × (Bool × Int) × (Bool × Int) × (Bool × Int))) (r : Int) (h : nblank_firstOf_c0_142 k a0 = some r) : VC Go.Proofs.Try.prog 53 [VV.tr ([VV.fn 85 [VV.tp [vb a0.1.1] 0, VV.tp [vi a0.1.2] 0], VV.fn 85 [VV.tp [vb a0.2.1.1] 0, VV.tp [vi a0.2.1.2] 0], VV.fn 85 [VV.tp [vb a0.2.2.1.1] 0, VV.tp [vi a0.2.2.1.2] 0], VV.fn 85 [VV.tp [vb a0.2.2.2.1] 0, VV.tp [vi a0.2.2.2.2] 0]]) 4] (vi r) := by
 unfold nblank_firstOf_c0_142 at h
 have e249 := (show (0 : Int) ≤ 0 ∧ (0 : Int) < ((4 : Nat) : Int) from ⟨by decide, by decide⟩)
 have e250 := (show loadL Go.Proofs.Try.prog 92 ((0 : Int).toNat * 1) ([VV.fn 85 [VV.tp [vb a0.1.1] 0, VV.tp [vi a0.1.2] 0], VV.fn 85 [VV.tp [vb a0.2.1.1] 0, VV.tp [vi a0.2.1.2] 0], VV.fn 85 [VV.tp [vb a0.2.2.1.1] 0, VV.tp [vi a0.2.2.1.2] 0], VV.fn 85 [VV.tp [vb a0.2.2.2.1] 0, VV.tp [vi a0.2.2.2.2] 0]]) = some (VV.fn 85 [VV.tp [vb a0.1.1] 0, VV.tp [vi a0.1.2] 0]) from (ld_one ag92 rfl))
 obtain ⟨r251, h252, h⟩ := bs h
 have e253 := (nblank_need_1_ok k a0.1.1 a0.1.2 _ h252)
 rcases ifs h with ⟨h254, h⟩ | ⟨h254, h⟩
 ·have e255 := (show (0 : Int) ≤ 1 ∧ (1 : Int) < ((4 : Nat) : Int) from ⟨by decide, by decide⟩)
  have e256 := (show loadL Go.Proofs.Try.prog 92 ((1 : Int).toNat * 1) ([VV.fn 85 [VV.tp [vb a0.1.1] 0, VV.tp [vi a0.1.2] 0], VV.fn 85 [VV.tp [vb a0.2.1.1] 0, VV.tp [vi a0.2.1.2] 0], VV.fn 85 [VV.tp [vb a0.2.2.1.1] 0, VV.tp [vi a0.2.2.1.2] 0], VV.fn 85 [VV.tp [vb a0.2.2.2.1] 0, VV.tp [vi a0.2.2.2.2] 0]]) = some (VV.fn 85 [VV.tp [vb a0.2.1.1] 0, VV.tp [vi a0.2.1.2] 0]) from (ld_one ag92 rfl))
  obtain ⟨r257, h258, h⟩ := bs h
  have e259 := (nblank_need_1_ok k a0.2.1.1 a0.2.1.2 _ h258)
  rcases ifs h with ⟨h260, h⟩ | ⟨h260, h⟩
  ·have e261 := (show (0 : Int) ≤ 2 ∧ (2 : Int) < ((4 : Nat) : Int) from ⟨by decide, by decide⟩)
   have e262 := (show loadL Go.Proofs.Try.prog 92 ((2 : Int).toNat * 1) ([VV.fn 85 [VV.tp [vb a0.1.1] 0, VV.tp [vi a0.1.2] 0], VV.fn 85 [VV.tp [vb a0.2.1.1] 0, VV.tp [vi a0.2.1.2] 0], VV.fn 85 [VV.tp [vb a0.2.2.1.1] 0, VV.tp [vi a0.2.2.1.2] 0], VV.fn 85 [VV.tp [vb a0.2.2.2.1] 0, VV.tp [vi a0.2.2.2.2] 0]]) = some (VV.fn 85 [VV.tp [vb a0.2.2.1.1] 0, VV.tp [vi a0.2.2.1.2] 0]) from (ld_one ag92 rfl))
   obtain ⟨r263, h264, h⟩ := bs h
   have e265 := (nblank_need_1_ok k a0.2.2.1.1 a0.2.2.1.2 _ h264)
   rcases ifs h with ⟨h266, h⟩ | ⟨h266, h⟩
   ·have e267 := (show (0 : Int) ≤ 3 ∧ (3 : Int) < ((4 : Nat) : Int) from ⟨by decide, by decide⟩)
    have e268 := (show loadL Go.Proofs.Try.prog 92 ((3 : Int).toNat * 1) ([VV.fn 85 [VV.tp [vb a0.1.1] 0, VV.tp [vi a0.1.2] 0], VV.fn 85 [VV.tp [vb a0.2.1.1] 0, VV.tp [vi a0.2.1.2] 0], VV.fn 85 [VV.tp [vb a0.2.2.1.1] 0, VV.tp [vi a0.2.2.1.2] 0], VV.fn 85 [VV.tp [vb a0.2.2.2.1] 0, VV.tp [vi a0.2.2.2.2] 0]]) = some (VV.fn 85 [VV.tp [vb a0.2.2.2.1] 0, VV.tp [vi a0.2.2.2.2] 0]) from (ld_one ag92 rfl))
    obtain ⟨r269, h270, h⟩ := bs h
    have e271 := (nblank_need_1_ok k a0.2.2.2.1 a0.2.2.2.2 _ h270)
    rcases ifs h with ⟨h272, h⟩ | ⟨h272, h⟩
    ·injection h with h; subst h
     exact fun_ok pm pn Go.Proofs.Try.func53 (r0 := vi 0) (ans := [.reg (.n :: []), .reg (nN 3 []), .unr 6, .reg (.n :: []), .br true, .reg (.n :: .v (VV.fn 85 [VV.tp [vb a0.1.1] 0, VV.tp [vi a0.1.2] 0]) :: .n :: []), .reg (.n :: .call (vi r251) :: .n :: []), .reg (.n :: .n :: []), .br false, .reg (.n :: .n :: []), .reg (.n :: []), .br true, .reg (.n :: .v (VV.fn 85 [VV.tp [vb a0.2.1.1] 0, VV.tp [vi a0.2.1.2] 0]) :: .n :: []), .reg (.n :: .call (vi r257) :: .n :: []), .reg (.n :: .n :: []), .br false, .reg (.n :: .n :: []), .reg (.n :: []), .br true, .reg (.n :: .v (VV.fn 85 [VV.tp [vb a0.2.2.1.1] 0, VV.tp [vi a0.2.2.1.2] 0]) :: .n :: []), .reg (.n :: .call (vi r263) :: .n :: []), .reg (.n :: .n :: []), .br false, .reg (.n :: .n :: []), .reg (.n :: []), .br true, .reg (.n :: .v (VV.fn 85 [VV.tp [vb a0.2.2.2.1] 0, VV.tp [vi a0.2.2.2.2] 0]) :: .n :: []), .reg (.n :: .call (vi r269) :: .n :: []), .reg (.n :: .n :: []), .br false, .reg (.n :: .n :: []), .reg (.n :: []), .br false, .reg (.n :: [])]) (fr := true) (by kernel_rfl) (an (an (ti trivial) (an (an (ti (ti (ti trivial))) (an (an (ti trivial) (an (an (show (decide ((0 : Int) < 4)) = true from (decide_eq_true (by decide))) trivial) (an (an (an e249 (an e250 (ti trivial))) (an (ti (an e253 (ti trivial))) (an (ti (ti trivial)) (an (not_f (decide_eq_true h254)) trivial)))) (ti (ti trivial))))) (an (an (ti trivial) (an (an (show (decide ((1 : Int) < 4)) = true from (decide_eq_true (by decide))) trivial) (an (an (an e255 (an e256 (ti trivial))) (an (ti (an e259 (ti trivial))) (an (ti (ti trivial)) (an (not_f (decide_eq_true h260)) trivial)))) (ti (ti trivial))))) (an (an (ti trivial) (an (an (show (decide ((2 : Int) < 4)) = true from (decide_eq_true (by decide))) trivial) (an (an (an e261 (an e262 (ti trivial))) (an (ti (an e265 (ti trivial))) (an (ti (ti trivial)) (an (not_f (decide_eq_true h266)) trivial)))) (ti (ti trivial))))) (an (an (ti trivial) (an (an (show (decide ((3 : Int) < 4)) = true from (decide_eq_true (by decide))) trivial) (an (an (an e267 (an e268 (ti trivial))) (an (ti (an e271 (ti trivial))) (an (ti (ti trivial)) (an (not_f (decide_eq_true h272)) trivial)))) (ti (ti trivial))))) (an (ti trivial) (an (show (decide ((4 : Int) < 4)) = false from (decide_eq_false (by decide))) trivial))))))) (an (ti trivial) trivial))) (ti trivial)) (Wv.refl _)
    ·injection h with h; subst h
     exact fun_ok pm pn Go.Proofs.Try.func53 (r0 := vi r269) (ans := [.reg (.n :: []), .reg (nN 3 []), .unr 5, .reg (.n :: []), .br true, .reg (.n :: .v (VV.fn 85 [VV.tp [vb a0.1.1] 0, VV.tp [vi a0.1.2] 0]) :: .n :: []), .reg (.n :: .call (vi r251) :: .n :: []), .reg (.n :: .n :: []), .br false, .reg (.n :: .n :: []), .reg (.n :: []), .br true, .reg (.n :: .v (VV.fn 85 [VV.tp [vb a0.2.1.1] 0, VV.tp [vi a0.2.1.2] 0]) :: .n :: []), .reg (.n :: .call (vi r257) :: .n :: []), .reg (.n :: .n :: []), .br false, .reg (.n :: .n :: []), .reg (.n :: []), .br true, .reg (.n :: .v (VV.fn 85 [VV.tp [vb a0.2.2.1.1] 0, VV.tp [vi a0.2.2.1.2] 0]) :: .n :: []), .reg (.n :: .call (vi r263) :: .n :: []), .reg (.n :: .n :: []), .br false, .reg (.n :: .n :: []), .reg (.n :: []), .br true, .reg (.n :: .v (VV.fn 85 [VV.tp [vb a0.2.2.2.1] 0, VV.tp [vi a0.2.2.2.2] 0]) :: .n :: []), .reg (.n :: .call (vi r269) :: .n :: []), .reg (.n :: .n :: []), .br true, .reg (.n :: .n :: [])]) (fr := true) (by kernel_rfl) (an (an (ti trivial) (an (ti (ti (ti trivial))) (an (an (ti trivial) (an (an (show (decide ((0 : Int) < 4)) = true from (decide_eq_true (by decide))) trivial) (an (an (an e249 (an e250 (ti trivial))) (an (ti (an e253 (ti trivial))) (an (ti (ti trivial)) (an (not_f (decide_eq_true h254)) trivial)))) (ti (ti trivial))))) (an (an (ti trivial) (an (an (show (decide ((1 : Int) < 4)) = true from (decide_eq_true (by decide))) trivial) (an (an (an e255 (an e256 (ti trivial))) (an (ti (an e259 (ti trivial))) (an (ti (ti trivial)) (an (not_f (decide_eq_true h260)) trivial)))) (ti (ti trivial))))) (an (an (ti trivial) (an (an (show (decide ((2 : Int) < 4)) = true from (decide_eq_true (by decide))) trivial) (an (an (an e261 (an e262 (ti trivial))) (an (ti (an e265 (ti trivial))) (an (ti (ti trivial)) (an (not_f (decide_eq_true h266)) trivial)))) (ti (ti trivial))))) (an (ti trivial) (an (an (show (decide ((3 : Int) < 4)) = true from (decide_eq_true (by decide))) trivial) (an (an e267 (an e268 (ti trivial))) (an (ti (an e271 (ti trivial))) (an (ti (ti trivial)) (an (not_t (decide_eq_false h272)) (an (ti (ti trivial)) trivial)))))))))))) (ti trivial)) (Wv.refl _)
   ·injection h with h; subst h
    exact fun_ok pm pn Go.Proofs.Try.func53 (r0 := vi r263) (ans := [.reg (.n :: []), .reg (nN 3 []), .unr 4, .reg (.n :: []), .br true, .reg (.n :: .v (VV.fn 85 [VV.tp [vb a0.1.1] 0, VV.tp [vi a0.1.2] 0]) :: .n :: []), .reg (.n :: .call (vi r251) :: .n :: []), .reg (.n :: .n :: []), .br false, .reg (.n :: .n :: []), .reg (.n :: []), .br true, .reg (.n :: .v (VV.fn 85 [VV.tp [vb a0.2.1.1] 0, VV.tp [vi a0.2.1.2] 0]) :: .n :: []), .reg (.n :: .call (vi r257) :: .n :: []), .reg (.n :: .n :: []), .br false, .reg (.n :: .n :: []), .reg (.n :: []), .br true, .reg (.n :: .v (VV.fn 85 [VV.tp [vb a0.2.2.1.1] 0, VV.tp [vi a0.2.2.1.2] 0]) :: .n :: []), .reg (.n :: .call (vi r263) :: .n :: []), .reg (.n :: .n :: []), .br true, .reg (.n :: .n :: [])]) (fr := true) (by kernel_rfl) (an (an (ti trivial) (an (ti (ti (ti trivial))) (an (an (ti trivial) (an (an (show (decide ((0 : Int) < 4)) = true from (decide_eq_true (by decide))) trivial) (an (an (an e249 (an e250 (ti trivial))) (an (ti (an e253 (ti trivial))) (an (ti (ti trivial)) (an (not_f (decide_eq_true h254)) trivial)))) (ti (ti trivial))))) (an (an (ti trivial) (an (an (show (decide ((1 : Int) < 4)) = true from (decide_eq_true (by decide))) trivial) (an (an (an e255 (an e256 (ti trivial))) (an (ti (an e259 (ti trivial))) (an (ti (ti trivial)) (an (not_f (decide_eq_true h260)) trivial)))) (ti (ti trivial))))) (an (ti trivial) (an (an (show (decide ((2 : Int) < 4)) = true from (decide_eq_true (by decide))) trivial) (an (an e261 (an e262 (ti trivial))) (an (ti (an e265 (ti trivial))) (an (ti (ti trivial)) (an (not_t (decide_eq_false h266)) (an (ti (ti trivial)) trivial))))))))))) (ti trivial)) (Wv.refl _)
  ·injection h with h; subst h
   exact fun_ok pm pn Go.Proofs.Try.func53 (r0 := vi r257) (ans := [.reg (.n :: []), .reg (nN 3 []), .unr 3, .reg (.n :: []), .br true, .reg (.n :: .v (VV.fn 85 [VV.tp [vb a0.1.1] 0, VV.tp [vi a0.1.2] 0]) :: .n :: []), .reg (.n :: .call (vi r251) :: .n :: []), .reg (.n :: .n :: []), .br false, .reg (.n :: .n :: []), .reg (.n :: []), .br true, .reg (.n :: .v (VV.fn 85 [VV.tp [vb a0.2.1.1] 0, VV.tp [vi a0.2.1.2] 0]) :: .n :: []), .reg (.n :: .call (vi r257) :: .n :: []), .reg (.n :: .n :: []), .br true, .reg (.n :: .n :: [])]) (fr := true) (by kernel_rfl) (an (an (ti trivial) (an (ti (ti (ti trivial))) (an (an (ti trivial) (an (an (show (decide ((0 : Int) < 4)) = true from (decide_eq_true (by decide))) trivial) (an (an (an e249 (an e250 (ti trivial))) (an (ti (an e253 (ti trivial))) (an (ti (ti trivial)) (an (not_f (decide_eq_true h254)) trivial)))) (ti (ti trivial))))) (an (ti trivial) (an (an (show (decide ((1 : Int) < 4)) = true from (decide_eq_true (by decide))) trivial) (an (an e255 (an e256 (ti trivial))) (an (ti (an e259 (ti trivial))) (an (ti (ti trivial)) (an (not_t (decide_eq_false h260)) (an (ti (ti trivial)) trivial)))))))))) (ti trivial)) (Wv.refl _)
 ·injection h with h; subst h
  exact fun_ok pm pn Go.Proofs.Try.func53 (r0 := vi r251) (ans := [.reg (.n :: []), .reg (nN 3 []), .unr 2, .reg (.n :: []), .br true, .reg (.n :: .v (VV.fn 85 [VV.tp [vb a0.1.1] 0, VV.tp [vi a0.1.2] 0]) :: .n :: []), .reg (.n :: .call (vi r251) :: .n :: []), .reg (.n :: .n :: []), .br true, .reg (.n :: .n :: [])]) (fr := true) (by kernel_rfl) (an (an (ti trivial) (an (ti (ti (ti trivial))) (an (ti trivial) (an (an (show (decide ((0 : Int) < 4)) = true from (decide_eq_true (by decide))) trivial) (an (an e249 (an e250 (ti trivial))) (an (ti (an e253 (ti trivial))) (an (ti (ti trivial)) (an (not_t (decide_eq_false h254)) (an (ti (ti trivial)) trivial))))))))) (ti trivial)) (Wv.refl _)
theorem eqA1_2 (z0 : (Bool × Int)) (z1 : (Bool × Int)) (z2 : (Bool × Int)) (z3 : (Bool × Int)) : [VV.tr ([VV.fn 85 [VV.tp [vb (((z0, z1, z2, z3).1).1)] 0, VV.tp [vi (((z0, z1, z2, z3).1).2)] 0], VV.fn 85 [VV.tp [vb (((z0, z1, z2, z3).2.1).1)] 0, VV.tp [vi (((z0, z1, z2, z3).2.1).2)] 0], VV.fn 85 [VV.tp [vb (((z0, z1, z2, z3).2.2.1).1)] 0, VV.tp [vi (((z0, z1, z2, z3).2.2.1).2)] 0], VV.fn 85 [VV.tp [vb (((z0, z1, z2, z3).2.2.2).1)] 0, VV.tp [vi (((z0, z1, z2, z3).2.2.2).2)] 0]]) 4] = [VV.tr (List.drop 0 (List.map unfr [VV.fn 85 [VV.tp [vb z0.1] 0, VV.tp [vi z0.2] 0], VV.fn 85 [VV.tp [vb z1.1] 0, VV.tp [vi z1.2] 0], VV.fn 85 [VV.tp [vb z2.1] 0, VV.tp [vi z2.2] 0], VV.fn 85 [VV.tp [vb z3.1] 0, VV.tp [vi z3.2] 0]])) 4] := by first | rfl | (simp only [drop0, unfr_vi, unfr_vb, List.map_cons, List.map_nil, un_i, un_b, un_tr]; try rfl)
def arA1_2 (z0 : (List SCoolStep)) (z1 : Bool) (z2 : (Bool × Int)) (z3 : (Bool × Int)) (z4 : (Bool × Int)) (z5 : (Bool × Int)) (z6 : Int) : List Ans := (nN 3 (.v (VV.tr (List.flatMap c_SCoolStep z0) z0.length) :: .n :: .call (vb z1) :: .call (VV.fn 85 [VV.tp [vb z2.1] 0, VV.tp [vi z2.2] 0]) :: .n :: .n :: .call (VV.fn 85 [VV.tp [vb z3.1] 0, VV.tp [vi z3.2] 0]) :: .n :: .n :: .call (VV.fn 85 [VV.tp [vb z4.1] 0, VV.tp [vi z4.2] 0]) :: nN 5 (.call (VV.fn 85 [VV.tp [vb z5.1] 0, VV.tp [vi z5.2] 0]) :: .n :: .call (vi z6) :: .n :: [])))
def nblank_CheckAnnealing_2 (k : Nat) (a0 : SCoolWindow) (q0_0 : Int) (q0_1 : Int) (q0_2 : (List SCoolStep)) (q0_3 : (List SCoolWindow)) : Option Int :=
  (nblank_isWithin k a0.Level 0 (q0_2.length : Int)).bind fun r278 => ((nblank_need k r278 6).bind fun r281 => ((nblank_within k a0.From 0 1000000).bind fun r283 => ((nblank_within k a0.To 0 1000000).bind fun r286 => ((nblank_need k (decide (a0.From ≤ a0.To)) 9).bind fun r289 => ((nblank_firstOf_c0_142 k (r281, r283, r286, r289)).bind fun r292 => (some r292))))))
theorem nblank_CheckAnnealing_2_ok (k : Nat) (a0 : SCoolWindow) (q0_0 : Int) (q0_1 : Int) (q0_2 : (List SCoolStep)) (q0_3 : (List SCoolWindow)) (r : Int) (h : nblank_CheckAnnealing_2 k a0 q0_0 q0_1 q0_2 q0_3 = some r) : VC Go.Proofs.Try.prog 74 [VV.ag (c_SCoolWindow a0), VV.tp [vi q0_0, vi q0_1, VV.tr (List.flatMap c_SCoolStep q0_2) q0_2.length, VV.tr (List.flatMap c_SCoolWindow q0_3) q0_3.length] 0] (vi r) := by
 unfold nblank_CheckAnnealing_2 at h
 have e277 := (show loadL Go.Proofs.Try.prog 45 2 [vi q0_0, vi q0_1, VV.tr (List.flatMap c_SCoolStep q0_2) q0_2.length, VV.tr (List.flatMap c_SCoolWindow q0_3) q0_3.length] = some (VV.tr (List.flatMap c_SCoolStep q0_2) q0_2.length) from (ld_one ag45 rfl))
 obtain ⟨r278, h279, h⟩ := bs h
 have e280 := (nblank_isWithin_ok k a0.Level 0 (q0_2.length : Int) _ h279)
 obtain ⟨r281, h282, h⟩ := bs h
 obtain ⟨r283, h284, h⟩ := bs h
 have e285 := (nblank_within_ok k a0.From 0 1000000 _ h284)
 obtain ⟨r286, h287, h⟩ := bs h
 have e288 := (nblank_within_ok k a0.To 0 1000000 _ h287)
 obtain ⟨r289, h290, h⟩ := bs h
 have e291 := (nblank_need_ok k (decide (a0.From ≤ a0.To)) 9 _ h290)
 obtain ⟨r292, h293, h⟩ := bs h
 have e294 := (VC.args (nblank_firstOf_c0_142_ok k (r281, r283, r286, r289) _ h293) (eqA1_2 r281 r283 r286 r289))
 have e295 := (ti (ti (ti (an e277 (ti (an e280 (an (nblank_need_ok k r278 6 _ h282) (ti (ti (an e285 (ti (ti (an e288 (ti (ti (ti (ti (ti (an e291 (ti (an e294 (ti trivial))))))))))))))))))))))
 injection h with h; subst h
 exact fun_ok pm pn Go.Proofs.Try.func74 (r0 := vi r292) (ans := [.reg (.n :: .n :: []), .reg (arA1_2 q0_2 r278 r281 r283 r286 r289 r292)]) (fr := true) (by kernel_rfl) (an (an (ti (ti trivial)) (an e295 trivial)) (ti trivial)) (Wv.refl _)
def arA1_3 (z0 : (Int × Int × (List SCoolStep) × (List SCoolWindow))) (z1 : Int) : List Ans := (.v (VV.fn 74 [VV.tp [vi z0.1, vi z0.2.1, VV.tr (List.flatMap c_SCoolStep z0.2.2.1) z0.2.2.1.length, VV.tr (List.flatMap c_SCoolWindow z0.2.2.2) z0.2.2.2.length] 0]) :: .n :: .call (vi z1) :: .n :: [])
def nblank_each_api_CoolWindow_1_k46_138_l0_0_h (q0_0 : (List SCoolWindow)) (q1_0 : (Int × Int × (List SCoolStep) × (List SCoolWindow))) (x8 : Int) : VS := ⟨mkA [(1, VV.tp [VV.fn 74 [VV.tp [vi q1_0.1, vi q1_0.2.1, VV.tr (List.flatMap c_SCoolStep q1_0.2.2.1) q1_0.2.2.1.length, VV.tr (List.flatMap c_SCoolWindow q1_0.2.2.2) q1_0.2.2.2.length] 0]] 0), (6, VV.tr (List.flatMap c_SCoolWindow q0_0) q0_0.length), (7, vi (q0_0.length : Int)), (8, vi x8)], [], .nil⟩
def nblank_each_api_CoolWindow_1_k46_138_l0_0_e0 (q0_0 : (List SCoolWindow)) (q1_0 : (Int × Int × (List SCoolStep) × (List SCoolWindow))) (r : Int) : VS := ⟨mkA [(2, vi r)], [], .nil⟩
def nblank_each_api_CoolWindow_1_k46_138_l0_0_e1 (q0_0 : (List SCoolWindow)) (q1_0 : (Int × Int × (List SCoolStep) × (List SCoolWindow))) (r : Unit) : VS := ⟨mkA [], [], .nil⟩
def nblank_each_api_CoolWindow_1_k46_138_l0_0 (k : Nat) (q0_0 : (List SCoolWindow)) (q1_0 : (Int × Int × (List SCoolStep) × (List SCoolWindow))) : Nat → Int → Option (Sum Int Unit)
  | 0, _ => none
  | fuel + 1, x8 => if x8 < (q0_0.length : Int) then (if 0 ≤ x8 ∧ x8 < (q0_0.length : Int) then ((nblank_CheckAnnealing_2 k (q0_0.getD x8.toNat default) q1_0.1 q1_0.2.1 q1_0.2.2.1 q1_0.2.2.2).bind fun r343 => (if r343 = 0 then (nblank_each_api_CoolWindow_1_k46_138_l0_0 k q0_0 q1_0 fuel (w64 (x8 + 1))) else (some (.inl r343)))) else none) else (some (.inr ()))
theorem nblank_each_api_CoolWindow_1_k46_138_l0_0_ok (k : Nat) (q0_0 : (List SCoolWindow)) (q1_0 : (Int × Int × (List SCoolStep) × (List SCoolWindow))) : ∀ (fuel : Nat) (x8 : Int) (r : Sum Int Unit), nblank_each_api_CoolWindow_1_k46_138_l0_0 k q0_0 q1_0 fuel x8 = some r → (match r with | .inl r => VLoop none Go.Proofs.Try.prog (szF Go.Proofs.Try.f91) (bodyOf Go.Proofs.Try.f91 0) (nblank_each_api_CoolWindow_1_k46_138_l0_0_h q0_0 q1_0 x8) .ret (nblank_each_api_CoolWindow_1_k46_138_l0_0_e0 q0_0 q1_0 r) | .inr r => VLoop none Go.Proofs.Try.prog (szF Go.Proofs.Try.f91) (bodyOf Go.Proofs.Try.f91 0) (nblank_each_api_CoolWindow_1_k46_138_l0_0_h q0_0 q1_0 x8) (.exit 0) (nblank_each_api_CoolWindow_1_k46_138_l0_0_e1 q0_0 q1_0 r)) := by
 intro fuel
 induction fuel with
 | zero => intro x8 r h; rw [nblank_each_api_CoolWindow_1_k46_138_l0_0.eq_1] at h; cases h
 | succ fuel ih =>
  intro x8 r h
  rw [nblank_each_api_CoolWindow_1_k46_138_l0_0.eq_2] at h
  rcases ifs h with ⟨h339, h⟩ | ⟨h339, h⟩
  ·obtain ⟨h340, h⟩ := ifn h
   have e341 := (show loadL Go.Proofs.Try.prog 85 (x8.toNat * 3) (List.flatMap c_SCoolWindow q0_0) = some (VV.ag (c_SCoolWindow (q0_0.getD x8.toNat default))) from ld_whole ag85 c_SCoolWindow 3 sz85 len_c_SCoolWindow q0_0 default h340 (by omega))
   have e342 := (show loadL Go.Proofs.Try.prog 108 0 [VV.fn 74 [VV.tp [vi q1_0.1, vi q1_0.2.1, VV.tr (List.flatMap c_SCoolStep q1_0.2.2.1) q1_0.2.2.1.length, VV.tr (List.flatMap c_SCoolWindow q1_0.2.2.2) q1_0.2.2.2.length] 0]] = some (VV.fn 74 [VV.tp [vi q1_0.1, vi q1_0.2.1, VV.tr (List.flatMap c_SCoolStep q1_0.2.2.1) q1_0.2.2.1.length, VV.tr (List.flatMap c_SCoolWindow q1_0.2.2.2) q1_0.2.2.2.length] 0]) from (ld_one ag108 rfl))
   obtain ⟨r343, h344, h⟩ := bs h
   have e345 := (nblank_CheckAnnealing_2_ok k (q0_0.getD x8.toNat default) q1_0.1 q1_0.2.1 q1_0.2.2.1 q1_0.2.2.2 _ h344)
   rcases ifs h with ⟨h346, h⟩ | ⟨h346, h⟩
   ·have h2 := ih _ _ h
    obtain ⟨q, hv, hq⟩ := pkR (rd := none) (P := Go.Proofs.Try.prog) (fn := Go.Proofs.Try.f91) (k := 0) (s := (nblank_each_api_CoolWindow_1_k46_138_l0_0_h q0_0 q1_0 x8)) (ans := [.reg (.n :: []), .br true, .reg (.n :: .v (VV.ag (c_SCoolWindow (q0_0.getD x8.toNat default))) :: .n :: .n :: []), .reg (arA1_3 q1_0 r343), .reg (.n :: .n :: []), .br false, .reg (.n :: .n :: [])]) (c := ⟨[(1, none), (6, none), (7, none), (8, none)], [], []⟩) (e := .normal) (s1 := (nblank_each_api_CoolWindow_1_k46_138_l0_0_h q0_0 q1_0 (w64 (x8 + 1)))) (an (an (ti trivial) (an (an (decide_eq_true h339) trivial) (an (an (an h340 (an e341 (ti (ti trivial)))) (an (an e342 (ti (an e345 (ti trivial)))) (an (ti (ti trivial)) (an (not_f (decide_eq_true h346)) trivial)))) (ti (ti trivial))))) (ti trivial)) (by kernel_rfl)
    cases r with
    | inl r => exact round_next pm pn hv hq h2
    | inr r =>
     exact round_next pm pn hv hq h2
   ·injection h with h; subst h
    exact round_stop (c := ⟨[(2, none)], [], []⟩) (s1 := (nblank_each_api_CoolWindow_1_k46_138_l0_0_e0 q0_0 q1_0 r343)) pm pn (ans := [.reg (.n :: []), .br true, .reg (.n :: .v (VV.ag (c_SCoolWindow (q0_0.getD x8.toNat default))) :: .n :: .n :: []), .reg (arA1_3 q1_0 r343), .reg (.n :: .n :: []), .br true, .reg (.n :: .n :: [])]) (by kernel_rfl) (by intro e; cases e) (an (an (ti trivial) (an (an (decide_eq_true h339) trivial) (an (an h340 (an e341 (ti (ti trivial)))) (an (an e342 (ti (an e345 (ti trivial)))) (an (ti (ti trivial)) (an (not_t (decide_eq_false h346)) (an (ti (ti trivial)) trivial))))))) (ti trivial))
  ·injection h with h; subst h
   exact round_stop (c := ⟨[], [], []⟩) (s1 := (nblank_each_api_CoolWindow_1_k46_138_l0_0_e1 q0_0 q1_0 ())) pm pn (ans := [.reg (.n :: []), .br false]) (by kernel_rfl) (by intro e; cases e) (an (an (ti trivial) (an (decide_eq_false h339) trivial)) (ti trivial))
def nblank_each_api_CoolWindow_1_k46_138 (k : Nat) (q0_0 : (List SCoolWindow)) (q1_0 : (Int × Int × (List SCoolStep) × (List SCoolWindow))) : Option Int :=
  (nblank_each_api_CoolWindow_1_k46_138_l0_0 k q0_0 q1_0 k 0).bind fun r348 => (match r348 with | .inl r349 => (some r349) | .inr r350 => (some 0))
theorem nblank_each_api_CoolWindow_1_k46_138_ok (k : Nat) (q0_0 : (List SCoolWindow)) (q1_0 : (Int × Int × (List SCoolStep) × (List SCoolWindow))) (r : Int) (h : nblank_each_api_CoolWindow_1_k46_138 k q0_0 q1_0 = some r) : VC Go.Proofs.Try.prog 91 [VV.tp [VV.tr (List.flatMap c_SCoolWindow q0_0) q0_0.length] 0, VV.tp [VV.fn 74 [VV.tp [vi q1_0.1, vi q1_0.2.1, VV.tr (List.flatMap c_SCoolStep q1_0.2.2.1) q1_0.2.2.1.length, VV.tr (List.flatMap c_SCoolWindow q1_0.2.2.2) q1_0.2.2.2.length] 0]] 0] (vi r) := by
 unfold nblank_each_api_CoolWindow_1_k46_138 at h
 have e322 := (show loadL Go.Proofs.Try.prog 46 0 [VV.tr (List.flatMap c_SCoolWindow q0_0) q0_0.length] = some (VV.tr (List.flatMap c_SCoolWindow q0_0) q0_0.length) from (ld_one ag46 rfl))
 obtain ⟨r348, h347, h⟩ := bs h
 have hph347 := nblank_each_api_CoolWindow_1_k46_138_l0_0_ok k q0_0 q1_0 _ _ _ h347
 cases r348 with
 | inl r349 =>
  dsimp only at h
  have e351 := (an (ti trivial) (VRun.loop hph347))
  injection h with h; subst h
  exact fun_ok pm pn Go.Proofs.Try.func91 (r0 := vi r349) (ans := [.reg (.n :: []), .reg (.v (VV.tr (List.flatMap c_SCoolWindow q0_0) q0_0.length) :: .n :: .n :: []), .sub ⟨[(1, none), (6, none), (7, none), (8, none)], [], []⟩ .ret (nblank_each_api_CoolWindow_1_k46_138_l0_0_e0 q0_0 q1_0 r349)]) (fr := true) (by kernel_rfl) (an (an (ti trivial) (an (an e322 (ti (ti trivial))) e351)) (ti trivial)) (Wv.refl _)
 | inr r350 =>
  dsimp only at h
  have e352 := (an (ti trivial) (VRun.loop hph347))
  injection h with h; subst h
  exact fun_ok pm pn Go.Proofs.Try.func91 (r0 := vi 0) (ans := [.reg (.n :: []), .reg (.v (VV.tr (List.flatMap c_SCoolWindow q0_0) q0_0.length) :: .n :: .n :: []), .sub ⟨[(1, none), (6, none), (7, none), (8, none)], [], []⟩ (.exit 0) (nblank_each_api_CoolWindow_1_k46_138_l0_0_e1 q0_0 q1_0 r350), .reg (.n :: [])]) (fr := true) (by kernel_rfl) (an (an (ti trivial) (an (an (an e322 (ti (ti trivial))) e352) (an (ti trivial) trivial))) (ti trivial)) (Wv.refl _)
def arA1_4 (z0 : ((Bool × Int) × (Bool × Int) × (Bool × Int) × ((List SCoolStep) × Unit) × (Bool × Int) × ((List SCoolWindow) × (Int × Int × (List SCoolStep) × (List SCoolWindow))))) : List Ans := (.n :: .v (VV.fn 90 [VV.tp [VV.tr (List.flatMap c_SCoolStep z0.2.2.2.1.1) z0.2.2.2.1.1.length] 0, VV.tp [VV.fn 72 []] 0]) :: .n :: [])
def arA1_5 (z0 : ((Bool × Int) × (Bool × Int) × (Bool × Int) × ((List SCoolStep) × Unit) × (Bool × Int) × ((List SCoolWindow) × (Int × Int × (List SCoolStep) × (List SCoolWindow))))) : List Ans := (.n :: .v (VV.fn 85 [VV.tp [vb z0.2.2.2.2.1.1] 0, VV.tp [vi z0.2.2.2.2.1.2] 0]) :: .n :: [])
def arA1_6 (z0 : ((Bool × Int) × (Bool × Int) × (Bool × Int) × ((List SCoolStep) × Unit) × (Bool × Int) × ((List SCoolWindow) × (Int × Int × (List SCoolStep) × (List SCoolWindow))))) : List Ans := (.n :: .v (VV.fn 91 [VV.tp [VV.tr (List.flatMap c_SCoolWindow z0.2.2.2.2.2.1) z0.2.2.2.2.2.1.length] 0, VV.tp [VV.fn 74 [VV.tp [vi z0.2.2.2.2.2.2.1, vi z0.2.2.2.2.2.2.2.1, VV.tr (List.flatMap c_SCoolStep z0.2.2.2.2.2.2.2.2.1) z0.2.2.2.2.2.2.2.2.1.length, VV.tr (List.flatMap c_SCoolWindow z0.2.2.2.2.2.2.2.2.2) z0.2.2.2.2.2.2.2.2.2.length] 0]] 0]) :: .n :: [])
def nblank_firstOf_c0_140 (k : Nat) (a0 : ((Bool × Int) × (Bool × Int) × (Bool × Int) × ((List SCoolStep) × Unit) × (Bool × Int) × ((List SCoolWindow) × (Int × Int × (List SCoolStep) × (List SCoolWindow))))) : Option Int :=
  (nblank_need_1 k a0.1.1 a0.1.2).bind fun r359 => (if r359 = 0 then ((nblank_need_1 k a0.2.1.1 a0.2.1.2).bind fun r365 => (if r365 = 0 then ((nblank_need_1 k a0.2.2.1.1 a0.2.2.1.2).bind fun r371 => (if r371 = 0 then ((nblank_each_api_CoolStep_1_k45_136 k a0.2.2.2.1.1 a0.2.2.2.1.2).bind fun r377 => (if r377 = 0 then ((nblank_need_1 k a0.2.2.2.2.1.1 a0.2.2.2.2.1.2).bind fun r383 => (if r383 = 0 then ((nblank_each_api_CoolWindow_1_k46_138 k a0.2.2.2.2.2.1 a0.2.2.2.2.2.2).bind fun r389 => (if r389 = 0 then (some 0) else (some r389))) else (some r383))) else (some r377))) else (some r371))) else (some r365))) else (some r359))
theorem nblank_firstOf_c0_140_ok (k : Nat) (a0 : ((Bool × Int) × (Bool × Int) × (Bool × Int) × ((List SCoolStep) × Unit) × (Bool × Int) × ((List SCoolWindow) × (Int × Int × (List SCoolStep) × (List SCoolWindow))))) (r : Int) (h : nblank_firstOf_c0_140 k a0 = some r) : VC Go.Proofs.Try.prog 53 [VV.tr ([VV.fn 85 [VV.tp [vb a0.1.1] 0, VV.tp [vi a0.1.2] 0], VV.fn 85 [VV.tp [vb a0.2.1.1] 0, VV.tp [vi a0.2.1.2] 0], VV.fn 85 [VV.tp [vb a0.2.2.1.1] 0, VV.tp [vi a0.2.2.1.2] 0], VV.fn 90 [VV.tp [VV.tr (List.flatMap c_SCoolStep a0.2.2.2.1.1) a0.2.2.2.1.1.length] 0, VV.tp [VV.fn 72 []] 0], VV.fn 85 [VV.tp [vb a0.2.2.2.2.1.1] 0, VV.tp [vi a0.2.2.2.2.1.2] 0], VV.fn 91 [VV.tp [VV.tr (List.flatMap c_SCoolWindow a0.2.2.2.2.2.1) a0.2.2.2.2.2.1.length] 0, VV.tp [VV.fn 74 [VV.tp [vi a0.2.2.2.2.2.2.1, vi a0.2.2.2.2.2.2.2.1, VV.tr (List.flatMap c_SCoolStep a0.2.2.2.2.2.2.2.2.1) a0.2.2.2.2.2.2.2.2.1.length, VV.tr (List.flatMap c_SCoolWindow a0.2.2.2.2.2.2.2.2.2) a0.2.2.2.2.2.2.2.2.2.length] 0]] 0]]) 6] (vi r) := by
 unfold nblank_firstOf_c0_140 at h
 have e357 := (show (0 : Int) ≤ 0 ∧ (0 : Int) < ((6 : Nat) : Int) from ⟨by decide, by decide⟩)
 have e358 := (show loadL Go.Proofs.Try.prog 92 ((0 : Int).toNat * 1) ([VV.fn 85 [VV.tp [vb a0.1.1] 0, VV.tp [vi a0.1.2] 0], VV.fn 85 [VV.tp [vb a0.2.1.1] 0, VV.tp [vi a0.2.1.2] 0], VV.fn 85 [VV.tp [vb a0.2.2.1.1] 0, VV.tp [vi a0.2.2.1.2] 0], VV.fn 90 [VV.tp [VV.tr (List.flatMap c_SCoolStep a0.2.2.2.1.1) a0.2.2.2.1.1.length] 0, VV.tp [VV.fn 72 []] 0], VV.fn 85 [VV.tp [vb a0.2.2.2.2.1.1] 0, VV.tp [vi a0.2.2.2.2.1.2] 0], VV.fn 91 [VV.tp [VV.tr (List.flatMap c_SCoolWindow a0.2.2.2.2.2.1) a0.2.2.2.2.2.1.length] 0, VV.tp [VV.fn 74 [VV.tp [vi a0.2.2.2.2.2.2.1, vi a0.2.2.2.2.2.2.2.1, VV.tr (List.flatMap c_SCoolStep a0.2.2.2.2.2.2.2.2.1) a0.2.2.2.2.2.2.2.2.1.length, VV.tr (List.flatMap c_SCoolWindow a0.2.2.2.2.2.2.2.2.2) a0.2.2.2.2.2.2.2.2.2.length] 0]] 0]]) = some (VV.fn 85 [VV.tp [vb a0.1.1] 0, VV.tp [vi a0.1.2] 0]) from (ld_one ag92 rfl))
 obtain ⟨r359, h360, h⟩ := bs h
 have e361 := (nblank_need_1_ok k a0.1.1 a0.1.2 _ h360)
 rcases ifs h with ⟨h362, h⟩ | ⟨h362, h⟩
 ·have e363 := (show (0 : Int) ≤ 1 ∧ (1 : Int) < ((6 : Nat) : Int) from ⟨by decide, by decide⟩)
  have e364 := (show loadL Go.Proofs.Try.prog 92 ((1 : Int).toNat * 1) ([VV.fn 85 [VV.tp [vb a0.1.1] 0, VV.tp [vi a0.1.2] 0], VV.fn 85 [VV.tp [vb a0.2.1.1] 0, VV.tp [vi a0.2.1.2] 0], VV.fn 85 [VV.tp [vb a0.2.2.1.1] 0, VV.tp [vi a0.2.2.1.2] 0], VV.fn 90 [VV.tp [VV.tr (List.flatMap c_SCoolStep a0.2.2.2.1.1) a0.2.2.2.1.1.length] 0, VV.tp [VV.fn 72 []] 0], VV.fn 85 [VV.tp [vb a0.2.2.2.2.1.1] 0, VV.tp [vi a0.2.2.2.2.1.2] 0], VV.fn 91 [VV.tp [VV.tr (List.flatMap c_SCoolWindow a0.2.2.2.2.2.1) a0.2.2.2.2.2.1.length] 0, VV.tp [VV.fn 74 [VV.tp [vi a0.2.2.2.2.2.2.1, vi a0.2.2.2.2.2.2.2.1, VV.tr (List.flatMap c_SCoolStep a0.2.2.2.2.2.2.2.2.1) a0.2.2.2.2.2.2.2.2.1.length, VV.tr (List.flatMap c_SCoolWindow a0.2.2.2.2.2.2.2.2.2) a0.2.2.2.2.2.2.2.2.2.length] 0]] 0]]) = some (VV.fn 85 [VV.tp [vb a0.2.1.1] 0, VV.tp [vi a0.2.1.2] 0]) from (ld_one ag92 rfl))
  obtain ⟨r365, h366, h⟩ := bs h
  have e367 := (nblank_need_1_ok k a0.2.1.1 a0.2.1.2 _ h366)
  rcases ifs h with ⟨h368, h⟩ | ⟨h368, h⟩
  ·have e369 := (show (0 : Int) ≤ 2 ∧ (2 : Int) < ((6 : Nat) : Int) from ⟨by decide, by decide⟩)
   have e370 := (show loadL Go.Proofs.Try.prog 92 ((2 : Int).toNat * 1) ([VV.fn 85 [VV.tp [vb a0.1.1] 0, VV.tp [vi a0.1.2] 0], VV.fn 85 [VV.tp [vb a0.2.1.1] 0, VV.tp [vi a0.2.1.2] 0], VV.fn 85 [VV.tp [vb a0.2.2.1.1] 0, VV.tp [vi a0.2.2.1.2] 0], VV.fn 90 [VV.tp [VV.tr (List.flatMap c_SCoolStep a0.2.2.2.1.1) a0.2.2.2.1.1.length] 0, VV.tp [VV.fn 72 []] 0], VV.fn 85 [VV.tp [vb a0.2.2.2.2.1.1] 0, VV.tp [vi a0.2.2.2.2.1.2] 0], VV.fn 91 [VV.tp [VV.tr (List.flatMap c_SCoolWindow a0.2.2.2.2.2.1) a0.2.2.2.2.2.1.length] 0, VV.tp [VV.fn 74 [VV.tp [vi a0.2.2.2.2.2.2.1, vi a0.2.2.2.2.2.2.2.1, VV.tr (List.flatMap c_SCoolStep a0.2.2.2.2.2.2.2.2.1) a0.2.2.2.2.2.2.2.2.1.length, VV.tr (List.flatMap c_SCoolWindow a0.2.2.2.2.2.2.2.2.2) a0.2.2.2.2.2.2.2.2.2.length] 0]] 0]]) = some (VV.fn 85 [VV.tp [vb a0.2.2.1.1] 0, VV.tp [vi a0.2.2.1.2] 0]) from (ld_one ag92 rfl))
   obtain ⟨r371, h372, h⟩ := bs h
   have e373 := (nblank_need_1_ok k a0.2.2.1.1 a0.2.2.1.2 _ h372)
   rcases ifs h with ⟨h374, h⟩ | ⟨h374, h⟩
   ·have e375 := (show (0 : Int) ≤ 3 ∧ (3 : Int) < ((6 : Nat) : Int) from ⟨by decide, by decide⟩)
    have e376 := (show loadL Go.Proofs.Try.prog 92 ((3 : Int).toNat * 1) ([VV.fn 85 [VV.tp [vb a0.1.1] 0, VV.tp [vi a0.1.2] 0], VV.fn 85 [VV.tp [vb a0.2.1.1] 0, VV.tp [vi a0.2.1.2] 0], VV.fn 85 [VV.tp [vb a0.2.2.1.1] 0, VV.tp [vi a0.2.2.1.2] 0], VV.fn 90 [VV.tp [VV.tr (List.flatMap c_SCoolStep a0.2.2.2.1.1) a0.2.2.2.1.1.length] 0, VV.tp [VV.fn 72 []] 0], VV.fn 85 [VV.tp [vb a0.2.2.2.2.1.1] 0, VV.tp [vi a0.2.2.2.2.1.2] 0], VV.fn 91 [VV.tp [VV.tr (List.flatMap c_SCoolWindow a0.2.2.2.2.2.1) a0.2.2.2.2.2.1.length] 0, VV.tp [VV.fn 74 [VV.tp [vi a0.2.2.2.2.2.2.1, vi a0.2.2.2.2.2.2.2.1, VV.tr (List.flatMap c_SCoolStep a0.2.2.2.2.2.2.2.2.1) a0.2.2.2.2.2.2.2.2.1.length, VV.tr (List.flatMap c_SCoolWindow a0.2.2.2.2.2.2.2.2.2) a0.2.2.2.2.2.2.2.2.2.length] 0]] 0]]) = some (VV.fn 90 [VV.tp [VV.tr (List.flatMap c_SCoolStep a0.2.2.2.1.1) a0.2.2.2.1.1.length] 0, VV.tp [VV.fn 72 []] 0]) from (ld_one ag92 rfl))
    obtain ⟨r377, h378, h⟩ := bs h
    have e379 := (nblank_each_api_CoolStep_1_k45_136_ok k a0.2.2.2.1.1 a0.2.2.2.1.2 _ h378)
    rcases ifs h with ⟨h380, h⟩ | ⟨h380, h⟩
    ·have e381 := (show (0 : Int) ≤ 4 ∧ (4 : Int) < ((6 : Nat) : Int) from ⟨by decide, by decide⟩)
     have e382 := (show loadL Go.Proofs.Try.prog 92 ((4 : Int).toNat * 1) ([VV.fn 85 [VV.tp [vb a0.1.1] 0, VV.tp [vi a0.1.2] 0], VV.fn 85 [VV.tp [vb a0.2.1.1] 0, VV.tp [vi a0.2.1.2] 0], VV.fn 85 [VV.tp [vb a0.2.2.1.1] 0, VV.tp [vi a0.2.2.1.2] 0], VV.fn 90 [VV.tp [VV.tr (List.flatMap c_SCoolStep a0.2.2.2.1.1) a0.2.2.2.1.1.length] 0, VV.tp [VV.fn 72 []] 0], VV.fn 85 [VV.tp [vb a0.2.2.2.2.1.1] 0, VV.tp [vi a0.2.2.2.2.1.2] 0], VV.fn 91 [VV.tp [VV.tr (List.flatMap c_SCoolWindow a0.2.2.2.2.2.1) a0.2.2.2.2.2.1.length] 0, VV.tp [VV.fn 74 [VV.tp [vi a0.2.2.2.2.2.2.1, vi a0.2.2.2.2.2.2.2.1, VV.tr (List.flatMap c_SCoolStep a0.2.2.2.2.2.2.2.2.1) a0.2.2.2.2.2.2.2.2.1.length, VV.tr (List.flatMap c_SCoolWindow a0.2.2.2.2.2.2.2.2.2) a0.2.2.2.2.2.2.2.2.2.length] 0]] 0]]) = some (VV.fn 85 [VV.tp [vb a0.2.2.2.2.1.1] 0, VV.tp [vi a0.2.2.2.2.1.2] 0]) from (ld_one ag92 rfl))
     obtain ⟨r383, h384, h⟩ := bs h
     have e385 := (nblank_need_1_ok k a0.2.2.2.2.1.1 a0.2.2.2.2.1.2 _ h384)
     rcases ifs h with ⟨h386, h⟩ | ⟨h386, h⟩
     ·have e387 := (show (0 : Int) ≤ 5 ∧ (5 : Int) < ((6 : Nat) : Int) from ⟨by decide, by decide⟩)
      have e388 := (show loadL Go.Proofs.Try.prog 92 ((5 : Int).toNat * 1) ([VV.fn 85 [VV.tp [vb a0.1.1] 0, VV.tp [vi a0.1.2] 0], VV.fn 85 [VV.tp [vb a0.2.1.1] 0, VV.tp [vi a0.2.1.2] 0], VV.fn 85 [VV.tp [vb a0.2.2.1.1] 0, VV.tp [vi a0.2.2.1.2] 0], VV.fn 90 [VV.tp [VV.tr (List.flatMap c_SCoolStep a0.2.2.2.1.1) a0.2.2.2.1.1.length] 0, VV.tp [VV.fn 72 []] 0], VV.fn 85 [VV.tp [vb a0.2.2.2.2.1.1] 0, VV.tp [vi a0.2.2.2.2.1.2] 0], VV.fn 91 [VV.tp [VV.tr (List.flatMap c_SCoolWindow a0.2.2.2.2.2.1) a0.2.2.2.2.2.1.length] 0, VV.tp [VV.fn 74 [VV.tp [vi a0.2.2.2.2.2.2.1, vi a0.2.2.2.2.2.2.2.1, VV.tr (List.flatMap c_SCoolStep a0.2.2.2.2.2.2.2.2.1) a0.2.2.2.2.2.2.2.2.1.length, VV.tr (List.flatMap c_SCoolWindow a0.2.2.2.2.2.2.2.2.2) a0.2.2.2.2.2.2.2.2.2.length] 0]] 0]]) = some (VV.fn 91 [VV.tp [VV.tr (List.flatMap c_SCoolWindow a0.2.2.2.2.2.1) a0.2.2.2.2.2.1.length] 0, VV.tp [VV.fn 74 [VV.tp [vi a0.2.2.2.2.2.2.1, vi a0.2.2.2.2.2.2.2.1, VV.tr (List.flatMap c_SCoolStep a0.2.2.2.2.2.2.2.2.1) a0.2.2.2.2.2.2.2.2.1.length, VV.tr (List.flatMap c_SCoolWindow a0.2.2.2.2.2.2.2.2.2) a0.2.2.2.2.2.2.2.2.2.length] 0]] 0]) from (ld_one ag92 rfl))
      obtain ⟨r389, h390, h⟩ := bs h
      have e391 := (nblank_each_api_CoolWindow_1_k46_138_ok k a0.2.2.2.2.2.1 a0.2.2.2.2.2.2 _ h390)
      rcases ifs h with ⟨h392, h⟩ | ⟨h392, h⟩
      ·injection h with h; subst h
       exact fun_ok pm pn Go.Proofs.Try.func53 (r0 := vi 0) (ans := [.reg (.n :: []), .reg (nN 3 []), .unr 8, .reg (.n :: []), .br true, .reg (.n :: .v (VV.fn 85 [VV.tp [vb a0.1.1] 0, VV.tp [vi a0.1.2] 0]) :: .n :: []), .reg (.n :: .call (vi r359) :: .n :: []), .reg (.n :: .n :: []), .br false, .reg (.n :: .n :: []), .reg (.n :: []), .br true, .reg (.n :: .v (VV.fn 85 [VV.tp [vb a0.2.1.1] 0, VV.tp [vi a0.2.1.2] 0]) :: .n :: []), .reg (.n :: .call (vi r365) :: .n :: []), .reg (.n :: .n :: []), .br false, .reg (.n :: .n :: []), .reg (.n :: []), .br true, .reg (.n :: .v (VV.fn 85 [VV.tp [vb a0.2.2.1.1] 0, VV.tp [vi a0.2.2.1.2] 0]) :: .n :: []), .reg (.n :: .call (vi r371) :: .n :: []), .reg (.n :: .n :: []), .br false, .reg (.n :: .n :: []), .reg (.n :: []), .br true, .reg (arA1_4 a0), .reg (.n :: .call (vi r377) :: .n :: []), .reg (.n :: .n :: []), .br false, .reg (.n :: .n :: []), .reg (.n :: []), .br true, .reg (arA1_5 a0), .reg (.n :: .call (vi r383) :: .n :: []), .reg (.n :: .n :: []), .br false, .reg (.n :: .n :: []), .reg (.n :: []), .br true, .reg (arA1_6 a0), .reg (.n :: .call (vi r389) :: .n :: []), .reg (.n :: .n :: []), .br false, .reg (.n :: .n :: []), .reg (.n :: []), .br false, .reg (.n :: [])]) (fr := true) (by kernel_rfl) (an (an (ti trivial) (an (an (ti (ti (ti trivial))) (an (an (ti trivial) (an (an (show (decide ((0 : Int) < 6)) = true from (decide_eq_true (by decide))) trivial) (an (an (an e357 (an e358 (ti trivial))) (an (ti (an e361 (ti trivial))) (an (ti (ti trivial)) (an (not_f (decide_eq_true h362)) trivial)))) (ti (ti trivial))))) (an (an (ti trivial) (an (an (show (decide ((1 : Int) < 6)) = true from (decide_eq_true (by decide))) trivial) (an (an (an e363 (an e364 (ti trivial))) (an (ti (an e367 (ti trivial))) (an (ti (ti trivial)) (an (not_f (decide_eq_true h368)) trivial)))) (ti (ti trivial))))) (an (an (ti trivial) (an (an (show (decide ((2 : Int) < 6)) = true from (decide_eq_true (by decide))) trivial) (an (an (an e369 (an e370 (ti trivial))) (an (ti (an e373 (ti trivial))) (an (ti (ti trivial)) (an (not_f (decide_eq_true h374)) trivial)))) (ti (ti trivial))))) (an (an (ti trivial) (an (an (show (decide ((3 : Int) < 6)) = true from (decide_eq_true (by decide))) trivial) (an (an (an e375 (an e376 (ti trivial))) (an (ti (an e379 (ti trivial))) (an (ti (ti trivial)) (an (not_f (decide_eq_true h380)) trivial)))) (ti (ti trivial))))) (an (an (ti trivial) (an (an (show (decide ((4 : Int) < 6)) = true from (decide_eq_true (by decide))) trivial) (an (an (an e381 (an e382 (ti trivial))) (an (ti (an e385 (ti trivial))) (an (ti (ti trivial)) (an (not_f (decide_eq_true h386)) trivial)))) (ti (ti trivial))))) (an (an (ti trivial) (an (an (show (decide ((5 : Int) < 6)) = true from (decide_eq_true (by decide))) trivial) (an (an (an e387 (an e388 (ti trivial))) (an (ti (an e391 (ti trivial))) (an (ti (ti trivial)) (an (not_f (decide_eq_true h392)) trivial)))) (ti (ti trivial))))) (an (ti trivial) (an (show (decide ((6 : Int) < 6)) = false from (decide_eq_false (by decide))) trivial))))))))) (an (ti trivial) trivial))) (ti trivial)) (Wv.refl _)
      ·injection h with h; subst h
       exact fun_ok pm pn Go.Proofs.Try.func53 (r0 := vi r389) (ans := [.reg (.n :: []), .reg (nN 3 []), .unr 7, .reg (.n :: []), .br true, .reg (.n :: .v (VV.fn 85 [VV.tp [vb a0.1.1] 0, VV.tp [vi a0.1.2] 0]) :: .n :: []), .reg (.n :: .call (vi r359) :: .n :: []), .reg (.n :: .n :: []), .br false, .reg (.n :: .n :: []), .reg (.n :: []), .br true, .reg (.n :: .v (VV.fn 85 [VV.tp [vb a0.2.1.1] 0, VV.tp [vi a0.2.1.2] 0]) :: .n :: []), .reg (.n :: .call (vi r365) :: .n :: []), .reg (.n :: .n :: []), .br false, .reg (.n :: .n :: []), .reg (.n :: []), .br true, .reg (.n :: .v (VV.fn 85 [VV.tp [vb a0.2.2.1.1] 0, VV.tp [vi a0.2.2.1.2] 0]) :: .n :: []), .reg (.n :: .call (vi r371) :: .n :: []), .reg (.n :: .n :: []), .br false, .reg (.n :: .n :: []), .reg (.n :: []), .br true, .reg (arA1_4 a0), .reg (.n :: .call (vi r377) :: .n :: []), .reg (.n :: .n :: []), .br false, .reg (.n :: .n :: []), .reg (.n :: []), .br true, .reg (arA1_5 a0), .reg (.n :: .call (vi r383) :: .n :: []), .reg (.n :: .n :: []), .br false, .reg (.n :: .n :: []), .reg (.n :: []), .br true, .reg (arA1_6 a0), .reg (.n :: .call (vi r389) :: .n :: []), .reg (.n :: .n :: []), .br true, .reg (.n :: .n :: [])]) (fr := true) (by kernel_rfl) (an (an (ti trivial) (an (ti (ti (ti trivial))) (an (an (ti trivial) (an (an (show (decide ((0 : Int) < 6)) = true from (decide_eq_true (by decide))) trivial) (an (an (an e357 (an e358 (ti trivial))) (an (ti (an e361 (ti trivial))) (an (ti (ti trivial)) (an (not_f (decide_eq_true h362)) trivial)))) (ti (ti trivial))))) (an (an (ti trivial) (an (an (show (decide ((1 : Int) < 6)) = true from (decide_eq_true (by decide))) trivial) (an (an (an e363 (an e364 (ti trivial))) (an (ti (an e367 (ti trivial))) (an (ti (ti trivial)) (an (not_f (decide_eq_true h368)) trivial)))) (ti (ti trivial))))) (an (an (ti trivial) (an (an (show (decide ((2 : Int) < 6)) = true from (decide_eq_true (by decide))) trivial) (an (an (an e369 (an e370 (ti trivial))) (an (ti (an e373 (ti trivial))) (an (ti (ti trivial)) (an (not_f (decide_eq_true h374)) trivial)))) (ti (ti trivial))))) (an (an (ti trivial) (an (an (show (decide ((3 : Int) < 6)) = true from (decide_eq_true (by decide))) trivial) (an (an (an e375 (an e376 (ti trivial))) (an (ti (an e379 (ti trivial))) (an (ti (ti trivial)) (an (not_f (decide_eq_true h380)) trivial)))) (ti (ti trivial))))) (an (an (ti trivial) (an (an (show (decide ((4 : Int) < 6)) = true from (decide_eq_true (by decide))) trivial) (an (an (an e381 (an e382 (ti trivial))) (an (ti (an e385 (ti trivial))) (an (ti (ti trivial)) (an (not_f (decide_eq_true h386)) trivial)))) (ti (ti trivial))))) (an (ti trivial) (an (an (show (decide ((5 : Int) < 6)) = true from (decide_eq_true (by decide))) trivial) (an (an e387 (an e388 (ti trivial))) (an (ti (an e391 (ti trivial))) (an (ti (ti trivial)) (an (not_t (decide_eq_false h392)) (an (ti (ti trivial)) trivial)))))))))))))) (ti trivial)) (Wv.refl _)
     ·injection h with h; subst h
      exact fun_ok pm pn Go.Proofs.Try.func53 (r0 := vi r383) (ans := [.reg (.n :: []), .reg (nN 3 []), .unr 6, .reg (.n :: []), .br true, .reg (.n :: .v (VV.fn 85 [VV.tp [vb a0.1.1] 0, VV.tp [vi a0.1.2] 0]) :: .n :: []), .reg (.n :: .call (vi r359) :: .n :: []), .reg (.n :: .n :: []), .br false, .reg (.n :: .n :: []), .reg (.n :: []), .br true, .reg (.n :: .v (VV.fn 85 [VV.tp [vb a0.2.1.1] 0, VV.tp [vi a0.2.1.2] 0]) :: .n :: []), .reg (.n :: .call (vi r365) :: .n :: []), .reg (.n :: .n :: []), .br false, .reg (.n :: .n :: []), .reg (.n :: []), .br true, .reg (.n :: .v (VV.fn 85 [VV.tp [vb a0.2.2.1.1] 0, VV.tp [vi a0.2.2.1.2] 0]) :: .n :: []), .reg (.n :: .call (vi r371) :: .n :: []), .reg (.n :: .n :: []), .br false, .reg (.n :: .n :: []), .reg (.n :: []), .br true, .reg (arA1_4 a0), .reg (.n :: .call (vi r377) :: .n :: []), .reg (.n :: .n :: []), .br false, .reg (.n :: .n :: []), .reg (.n :: []), .br true, .reg (arA1_5 a0), .reg (.n :: .call (vi r383) :: .n :: []), .reg (.n :: .n :: []), .br true, .reg (.n :: .n :: [])]) (fr := true) (by kernel_rfl) (an (an (ti trivial) (an (ti (ti (ti trivial))) (an (an (ti trivial) (an (an (show (decide ((0 : Int) < 6)) = true from (decide_eq_true (by decide))) trivial) (an (an (an e357 (an e358 (ti trivial))) (an (ti (an e361 (ti trivial))) (an (ti (ti trivial)) (an (not_f (decide_eq_true h362)) trivial)))) (ti (ti trivial))))) (an (an (ti trivial) (an (an (show (decide ((1 : Int) < 6)) = true from (decide_eq_true (by decide))) trivial) (an (an (an e363 (an e364 (ti trivial))) (an (ti (an e367 (ti trivial))) (an (ti (ti trivial)) (an (not_f (decide_eq_true h368)) trivial)))) (ti (ti trivial))))) (an (an (ti trivial) (an (an (show (decide ((2 : Int) < 6)) = true from (decide_eq_true (by decide))) trivial) (an (an (an e369 (an e370 (ti trivial))) (an (ti (an e373 (ti trivial))) (an (ti (ti trivial)) (an (not_f (decide_eq_true h374)) trivial)))) (ti (ti trivial))))) (an (an (ti trivial) (an (an (show (decide ((3 : Int) < 6)) = true from (decide_eq_true (by decide))) trivial) (an (an (an e375 (an e376 (ti trivial))) (an (ti (an e379 (ti trivial))) (an (ti (ti trivial)) (an (not_f (decide_eq_true h380)) trivial)))) (ti (ti trivial))))) (an (ti trivial) (an (an (show (decide ((4 : Int) < 6)) = true from (decide_eq_true (by decide))) trivial) (an (an e381 (an e382 (ti trivial))) (an (ti (an e385 (ti trivial))) (an (ti (ti trivial)) (an (not_t (decide_eq_false h386)) (an (ti (ti trivial)) trivial))))))))))))) (ti trivial)) (Wv.refl _)
    ·injection h with h; subst h
     exact fun_ok pm pn Go.Proofs.Try.func53 (r0 := vi r377) (ans := [.reg (.n :: []), .reg (nN 3 []), .unr 5, .reg (.n :: []), .br true, .reg (.n :: .v (VV.fn 85 [VV.tp [vb a0.1.1] 0, VV.tp [vi a0.1.2] 0]) :: .n :: []), .reg (.n :: .call (vi r359) :: .n :: []), .reg (.n :: .n :: []), .br false, .reg (.n :: .n :: []), .reg (.n :: []), .br true, .reg (.n :: .v (VV.fn 85 [VV.tp [vb a0.2.1.1] 0, VV.tp [vi a0.2.1.2] 0]) :: .n :: []), .reg (.n :: .call (vi r365) :: .n :: []), .reg (.n :: .n :: []), .br false, .reg (.n :: .n :: []), .reg (.n :: []), .br true, .reg (.n :: .v (VV.fn 85 [VV.tp [vb a0.2.2.1.1] 0, VV.tp [vi a0.2.2.1.2] 0]) :: .n :: []), .reg (.n :: .call (vi r371) :: .n :: []), .reg (.n :: .n :: []), .br false, .reg (.n :: .n :: []), .reg (.n :: []), .br true, .reg (arA1_4 a0), .reg (.n :: .call (vi r377) :: .n :: []), .reg (.n :: .n :: []), .br true, .reg (.n :: .n :: [])]) (fr := true) (by kernel_rfl) (an (an (ti trivial) (an (ti (ti (ti trivial))) (an (an (ti trivial) (an (an (show (decide ((0 : Int) < 6)) = true from (decide_eq_true (by decide))) trivial) (an (an (an e357 (an e358 (ti trivial))) (an (ti (an e361 (ti trivial))) (an (ti (ti trivial)) (an (not_f (decide_eq_true h362)) trivial)))) (ti (ti trivial))))) (an (an (ti trivial) (an (an (show (decide ((1 : Int) < 6)) = true from (decide_eq_true (by decide))) trivial) (an (an (an e363 (an e364 (ti trivial))) (an (ti (an e367 (ti trivial))) (an (ti (ti trivial)) (an (not_f (decide_eq_true h368)) trivial)))) (ti (ti trivial))))) (an (an (ti trivial) (an (an (show (decide ((2 : Int) < 6)) = true from (decide_eq_true (by decide))) trivial) (an (an (an e369 (an e370 (ti trivial))) (an (ti (an e373 (ti trivial))) (an (ti (ti trivial)) (an (not_f (decide_eq_true h374)) trivial)))) (ti (ti trivial))))) (an (ti trivial) (an (an (show (decide ((3 : Int) < 6)) = true from (decide_eq_true (by decide))) trivial) (an (an e375 (an e376 (ti trivial))) (an (ti (an e379 (ti trivial))) (an (ti (ti trivial)) (an (not_t (decide_eq_false h380)) (an (ti (ti trivial)) trivial)))))))))))) (ti trivial)) (Wv.refl _)
   ·injection h with h; subst h
    exact fun_ok pm pn Go.Proofs.Try.func53 (r0 := vi r371) (ans := [.reg (.n :: []), .reg (nN 3 []), .unr 4, .reg (.n :: []), .br true, .reg (.n :: .v (VV.fn 85 [VV.tp [vb a0.1.1] 0, VV.tp [vi a0.1.2] 0]) :: .n :: []), .reg (.n :: .call (vi r359) :: .n :: []), .reg (.n :: .n :: []), .br false, .reg (.n :: .n :: []), .reg (.n :: []), .br true, .reg (.n :: .v (VV.fn 85 [VV.tp [vb a0.2.1.1] 0, VV.tp [vi a0.2.1.2] 0]) :: .n :: []), .reg (.n :: .call (vi r365) :: .n :: []), .reg (.n :: .n :: []), .br false, .reg (.n :: .n :: []), .reg (.n :: []), .br true, .reg (.n :: .v (VV.fn 85 [VV.tp [vb a0.2.2.1.1] 0, VV.tp [vi a0.2.2.1.2] 0]) :: .n :: []), .reg (.n :: .call (vi r371) :: .n :: []), .reg (.n :: .n :: []), .br true, .reg (.n :: .n :: [])]) (fr := true) (by kernel_rfl) (an (an (ti trivial) (an (ti (ti (ti trivial))) (an (an (ti trivial) (an (an (show (decide ((0 : Int) < 6)) = true from (decide_eq_true (by decide))) trivial) (an (an (an e357 (an e358 (ti trivial))) (an (ti (an e361 (ti trivial))) (an (ti (ti trivial)) (an (not_f (decide_eq_true h362)) trivial)))) (ti (ti trivial))))) (an (an (ti trivial) (an (an (show (decide ((1 : Int) < 6)) = true from (decide_eq_true (by decide))) trivial) (an (an (an e363 (an e364 (ti trivial))) (an (ti (an e367 (ti trivial))) (an (ti (ti trivial)) (an (not_f (decide_eq_true h368)) trivial)))) (ti (ti trivial))))) (an (ti trivial) (an (an (show (decide ((2 : Int) < 6)) = true from (decide_eq_true (by decide))) trivial) (an (an e369 (an e370 (ti trivial))) (an (ti (an e373 (ti trivial))) (an (ti (ti trivial)) (an (not_t (decide_eq_false h374)) (an (ti (ti trivial)) trivial))))))))))) (ti trivial)) (Wv.refl _)
  ·injection h with h; subst h
   exact fun_ok pm pn Go.Proofs.Try.func53 (r0 := vi r365) (ans := [.reg (.n :: []), .reg (nN 3 []), .unr 3, .reg (.n :: []), .br true, .reg (.n :: .v (VV.fn 85 [VV.tp [vb a0.1.1] 0, VV.tp [vi a0.1.2] 0]) :: .n :: []), .reg (.n :: .call (vi r359) :: .n :: []), .reg (.n :: .n :: []), .br false, .reg (.n :: .n :: []), .reg (.n :: []), .br true, .reg (.n :: .v (VV.fn 85 [VV.tp [vb a0.2.1.1] 0, VV.tp [vi a0.2.1.2] 0]) :: .n :: []), .reg (.n :: .call (vi r365) :: .n :: []), .reg (.n :: .n :: []), .br true, .reg (.n :: .n :: [])]) (fr := true) (by kernel_rfl) (an (an (ti trivial) (an (ti (ti (ti trivial))) (an (an (ti trivial) (an (an (show (decide ((0 : Int) < 6)) = true from (decide_eq_true (by decide))) trivial) (an (an (an e357 (an e358 (ti trivial))) (an (ti (an e361 (ti trivial))) (an (ti (ti trivial)) (an (not_f (decide_eq_true h362)) trivial)))) (ti (ti trivial))))) (an (ti trivial) (an (an (show (decide ((1 : Int) < 6)) = true from (decide_eq_true (by decide))) trivial) (an (an e363 (an e364 (ti trivial))) (an (ti (an e367 (ti trivial))) (an (ti (ti trivial)) (an (not_t (decide_eq_false h368)) (an (ti (ti trivial)) trivial)))))))))) (ti trivial)) (Wv.refl _)
 ·injection h with h; subst h
  exact fun_ok pm pn Go.Proofs.Try.func53 (r0 := vi r359) (ans := [.reg (.n :: []), .reg (nN 3 []), .unr 2, .reg (.n :: []), .br true, .reg (.n :: .v (VV.fn 85 [VV.tp [vb a0.1.1] 0, VV.tp [vi a0.1.2] 0]) :: .n :: []), .reg (.n :: .call (vi r359) :: .n :: []), .reg (.n :: .n :: []), .br true, .reg (.n :: .n :: [])]) (fr := true) (by kernel_rfl) (an (an (ti trivial) (an (ti (ti (ti trivial))) (an (ti trivial) (an (an (show (decide ((0 : Int) < 6)) = true from (decide_eq_true (by decide))) trivial) (an (an e357 (an e358 (ti trivial))) (an (ti (an e361 (ti trivial))) (an (ti (ti trivial)) (an (not_t (decide_eq_false h362)) (an (ti (ti trivial)) trivial))))))))) (ti trivial)) (Wv.refl _)
theorem eqA1_3 (z0 : (Bool × Int)) (z1 : (Bool × Int)) (z2 : (Bool × Int)) (z3 : ((List SCoolStep) × Unit)) (z4 : (Bool × Int)) (z5 : ((List SCoolWindow) × (Int × Int × (List SCoolStep) × (List SCoolWindow)))) : [VV.tr ([VV.fn 85 [VV.tp [vb (((z0, z1, z2, z3, z4, z5).1).1)] 0, VV.tp [vi (((z0, z1, z2, z3, z4, z5).1).2)] 0], VV.fn 85 [VV.tp [vb (((z0, z1, z2, z3, z4, z5).2.1).1)] 0, VV.tp [vi (((z0, z1, z2, z3, z4, z5).2.1).2)] 0], VV.fn 85 [VV.tp [vb (((z0, z1, z2, z3, z4, z5).2.2.1).1)] 0, VV.tp [vi (((z0, z1, z2, z3, z4, z5).2.2.1).2)] 0], VV.fn 90 [VV.tp [VV.tr (List.flatMap c_SCoolStep (((z0, z1, z2, z3, z4, z5).2.2.2.1).1)) ((((z0, z1, z2, z3, z4, z5).2.2.2.1).1).length)] 0, VV.tp [VV.fn 72 []] 0], VV.fn 85 [VV.tp [vb (((z0, z1, z2, z3, z4, z5).2.2.2.2.1).1)] 0, VV.tp [vi (((z0, z1, z2, z3, z4, z5).2.2.2.2.1).2)] 0], VV.fn 91 [VV.tp [VV.tr (List.flatMap c_SCoolWindow (((z0, z1, z2, z3, z4, z5).2.2.2.2.2).1)) ((((z0, z1, z2, z3, z4, z5).2.2.2.2.2).1).length)] 0, VV.tp [VV.fn 74 [VV.tp [vi ((((z0, z1, z2, z3, z4, z5).2.2.2.2.2).2).1), vi ((((z0, z1, z2, z3, z4, z5).2.2.2.2.2).2).2.1), VV.tr (List.flatMap c_SCoolStep ((((z0, z1, z2, z3, z4, z5).2.2.2.2.2).2).2.2.1)) (((((z0, z1, z2, z3, z4, z5).2.2.2.2.2).2).2.2.1).length), VV.tr (List.flatMap c_SCoolWindow ((((z0, z1, z2, z3, z4, z5).2.2.2.2.2).2).2.2.2)) (((((z0, z1, z2, z3, z4, z5).2.2.2.2.2).2).2.2.2).length)] 0]] 0]]) 6] = [VV.tr (List.drop 0 (List.map unfr [VV.fn 85 [VV.tp [vb z0.1] 0, VV.tp [vi z0.2] 0], VV.fn 85 [VV.tp [vb z1.1] 0, VV.tp [vi z1.2] 0], VV.fn 85 [VV.tp [vb z2.1] 0, VV.tp [vi z2.2] 0], VV.fn 90 [VV.tp [VV.tr (List.flatMap c_SCoolStep z3.1) z3.1.length] 0, VV.tp [VV.fn 72 []] 0], VV.fn 85 [VV.tp [vb z4.1] 0, VV.tp [vi z4.2] 0], VV.fn 91 [VV.tp [VV.tr (List.flatMap c_SCoolWindow z5.1) z5.1.length] 0, VV.tp [VV.fn 74 [VV.tp [vi z5.2.1, vi z5.2.2.1, VV.tr (List.flatMap c_SCoolStep z5.2.2.2.1) z5.2.2.2.1.length, VV.tr (List.flatMap c_SCoolWindow z5.2.2.2.2) z5.2.2.2.2.length] 0]] 0]])) 6] := by first | rfl | (simp only [drop0, unfr_vi, unfr_vb, List.map_cons, List.map_nil, un_i, un_b, un_tr, List.length_map, List.length_cons, List.length_nil, unfr_c_SCoolStep, unfr_c_SCoolWindow]; try rfl)
def arA1_7 (z0 : SAnnealing) (z1 : (Bool × Int)) (z2 : (Bool × Int)) (z3 : Bool) (z4 : (Bool × Int)) (z5 : ((List SCoolStep) × Unit)) (z6 : (Bool × Int)) (z7 : ((List SCoolWindow) × (Int × Int × (List SCoolStep) × (List SCoolWindow)))) (z8 : Int) : List Ans := (.n :: .v (vi z0.Thick) :: .call (VV.fn 85 [VV.tp [vb z1.1] 0, VV.tp [vi z1.2] 0]) :: .n :: .v (vi z0.Factor) :: .call (VV.fn 85 [VV.tp [vb z2.1] 0, VV.tp [vi z2.2] 0]) :: .n :: .v (VV.tr (List.flatMap c_SCoolStep z0.Steps) z0.Steps.length) :: .n :: .call (vb z3) :: .call (VV.fn 85 [VV.tp [vb z4.1] 0, VV.tp [vi z4.2] 0]) :: .n :: .v (VV.tr (List.flatMap c_SCoolStep z0.Steps) z0.Steps.length) :: .call (VV.fn 90 [VV.tp [VV.tr (List.flatMap c_SCoolStep z5.1) z5.1.length] 0, VV.tp [VV.fn 72 []] 0]) :: .n :: .v (VV.tr (List.flatMap c_SCoolWindow z0.Windows) z0.Windows.length) :: .n :: .n :: .call (VV.fn 85 [VV.tp [vb z6.1] 0, VV.tp [vi z6.2] 0]) :: .n :: .v (VV.tr (List.flatMap c_SCoolWindow z0.Windows) z0.Windows.length) :: .n :: .call (VV.fn 91 [VV.tp [VV.tr (List.flatMap c_SCoolWindow z7.1) z7.1.length] 0, VV.tp [VV.fn 74 [VV.tp [vi z7.2.1, vi z7.2.2.1, VV.tr (List.flatMap c_SCoolStep z7.2.2.2.1) z7.2.2.2.1.length, VV.tr (List.flatMap c_SCoolWindow z7.2.2.2.2) z7.2.2.2.2.length] 0]] 0]) :: .n :: .call (vi z8) :: .n :: [])
def nblank_CheckAnnealing (k : Nat) (a0 : SAnnealing) : Option Int :=
  (nblank_within k a0.Thick 1 500).bind fun r398 => ((nblank_within k a0.Factor 0 1000).bind fun r402 => ((nblank_isWithin k (a0.Steps.length : Int) 1 30).bind fun r406 => ((nblank_need k r406 10).bind fun r409 => ((nblank_each_api_CoolStep__c1_136 k a0.Steps ()).bind fun r412 => ((nblank_need k (decide ((a0.Windows.length : Int) ≤ 60)) 8).bind fun r416 => ((nblank_each_api_CoolWindow__c1_138 k a0.Windows (a0.Thick, a0.Factor, a0.Steps, a0.Windows)).bind fun r420 => ((nblank_firstOf_c0_140 k (r398, r402, r409, r412, r416, r420)).bind fun r423 => (some r423))))))))
theorem nblank_CheckAnnealing_ok (k : Nat) (a0 : SAnnealing) (r : Int) (h : nblank_CheckAnnealing k a0 = some r) : VC Go.Proofs.Try.prog 29 [VV.ag (c_SAnnealing a0)] (vi r) := by
 unfold nblank_CheckAnnealing at h
 have e397 := (show loadL Go.Proofs.Try.prog 3 0 [vi a0.Thick, vi a0.Factor, VV.tr (List.flatMap c_SCoolStep a0.Steps) a0.Steps.length, VV.tr (List.flatMap c_SCoolWindow a0.Windows) a0.Windows.length] = some (vi a0.Thick) from (ld_one ag3 rfl))
 obtain ⟨r398, h399, h⟩ := bs h
 have e400 := (nblank_within_ok k a0.Thick 1 500 _ h399)
 have e401 := (show loadL Go.Proofs.Try.prog 3 1 [vi a0.Thick, vi a0.Factor, VV.tr (List.flatMap c_SCoolStep a0.Steps) a0.Steps.length, VV.tr (List.flatMap c_SCoolWindow a0.Windows) a0.Windows.length] = some (vi a0.Factor) from (ld_one ag3 rfl))
 obtain ⟨r402, h403, h⟩ := bs h
 have e404 := (nblank_within_ok k a0.Factor 0 1000 _ h403)
 have e405 := (show loadL Go.Proofs.Try.prog 45 2 [vi a0.Thick, vi a0.Factor, VV.tr (List.flatMap c_SCoolStep a0.Steps) a0.Steps.length, VV.tr (List.flatMap c_SCoolWindow a0.Windows) a0.Windows.length] = some (VV.tr (List.flatMap c_SCoolStep a0.Steps) a0.Steps.length) from (ld_one ag45 rfl))
 obtain ⟨r406, h407, h⟩ := bs h
 have e408 := (nblank_isWithin_ok k (a0.Steps.length : Int) 1 30 _ h407)
 obtain ⟨r409, h410, h⟩ := bs h
 have e411 := (show loadL Go.Proofs.Try.prog 45 2 [vi a0.Thick, vi a0.Factor, VV.tr (List.flatMap c_SCoolStep a0.Steps) a0.Steps.length, VV.tr (List.flatMap c_SCoolWindow a0.Windows) a0.Windows.length] = some (VV.tr (List.flatMap c_SCoolStep a0.Steps) a0.Steps.length) from (ld_one ag45 rfl))
 obtain ⟨r412, h413, h⟩ := bs h
 have e414 := (nblank_each_api_CoolStep__c1_136_ok k a0.Steps () _ h413)
 have e415 := (show loadL Go.Proofs.Try.prog 46 3 [vi a0.Thick, vi a0.Factor, VV.tr (List.flatMap c_SCoolStep a0.Steps) a0.Steps.length, VV.tr (List.flatMap c_SCoolWindow a0.Windows) a0.Windows.length] = some (VV.tr (List.flatMap c_SCoolWindow a0.Windows) a0.Windows.length) from (ld_one ag46 rfl))
 obtain ⟨r416, h417, h⟩ := bs h
 have e418 := (nblank_need_ok k (decide ((a0.Windows.length : Int) ≤ 60)) 8 _ h417)
 have e419 := (show loadL Go.Proofs.Try.prog 46 3 [vi a0.Thick, vi a0.Factor, VV.tr (List.flatMap c_SCoolStep a0.Steps) a0.Steps.length, VV.tr (List.flatMap c_SCoolWindow a0.Windows) a0.Windows.length] = some (VV.tr (List.flatMap c_SCoolWindow a0.Windows) a0.Windows.length) from (ld_one ag46 rfl))
 obtain ⟨r420, h421, h⟩ := bs h
 have e422 := (VC.args (nblank_each_api_CoolWindow__c1_138_ok k a0.Windows (a0.Thick, a0.Factor, a0.Steps, a0.Windows) _ h421) (eqA1_0 a0))
 obtain ⟨r423, h424, h⟩ := bs h
 have e425 := (VC.args (nblank_firstOf_c0_140_ok k (r398, r402, r409, r412, r416, r420) _ h424) (eqA1_3 r398 r402 r409 r412 r416 r420))
 have e426 := (ti (an e397 (an e400 (ti (an e401 (an e404 (ti (an e405 (ti (an e408 (an (nblank_need_ok k r406 10 _ h410) (ti (an e411 (an e414 (ti (an e415 (ti (ti (an e418 (ti (an e419 (ti (an e422 (ti (an e425 (ti trivial))))))))))))))))))))))))))
 injection h with h; subst h
 exact fun_ok pm pn Go.Proofs.Try.func29 (r0 := vi r423) (ans := [.reg (.n :: .n :: []), .frz 0, .reg (arA1_7 a0 r398 r402 r406 r409 r412 r416 r420 r423)]) (fr := true) (by kernel_rfl) (an (an (ti (ti trivial)) (an e426 trivial)) (ti trivial)) (Wv.refl _)
def nspeculumbase_Within (k : Nat) (a0 : Int) (a1 : Int) (a2 : Int) : Option Bool :=
  if a1 ≤ a0 then (some (decide (a0 ≤ a2))) else (some false)
theorem nspeculumbase_Within_ok (k : Nat) (a0 : Int) (a1 : Int) (a2 : Int) (r : Bool) (h : nspeculumbase_Within k a0 a1 a2 = some r) : VC Go.Proofs.Try.prog 30 [vi a0, vi a1, vi a2] (vb r) := by
 unfold nspeculumbase_Within at h
 rcases ifs h with ⟨h430, h⟩ | ⟨h430, h⟩
 ·have e431 := (ti (ti (ti (ti (an (an (decide_eq_true h430) trivial) (an (an (decide_eq_true h430) trivial) (an (an (decide_eq_true h430) trivial) (an (decide_eq_true h430) (ti trivial)))))))))
  injection h with h; subst h
  exact fun_ok pm pn Go.Proofs.Try.func30 (r0 := vb (decide (a0 ≤ a2))) (ans := [.reg (.n :: []), .reg (nN 7 (.b true :: .n :: []))]) (fr := true) (by kernel_rfl) (an (an (ti trivial) (an e431 trivial)) (ti trivial)) (Wv.refl _)
 ·have e432 := (ti (ti (ti (ti (an (decide_eq_false h430) (an (decide_eq_false h430) (an (decide_eq_false h430) (an (decide_eq_false h430) (ti trivial)))))))))
  injection h with h; subst h
  exact fun_ok pm pn Go.Proofs.Try.func30 (r0 := vb false) (ans := [.reg (.n :: []), .reg (nN 4 (nS 3 (.b false :: .n :: [])))]) (fr := true) (by kernel_rfl) (an (an (ti trivial) (an e432 trivial)) (ti trivial)) (Wv.refl _)
def arA1_8 (z0 : Bool) (z1 : Bool) (z2 : Bool) : List Ans := (.n :: .n :: .call (vb z0) :: nN 4 (.call (vb z1) :: .n :: .b false :: nN 3 (.call (vb z2) :: .n :: .b false :: [])))
def arA1_9 (z0 : Bool) (z1 : Bool) : List Ans := (.n :: .n :: .call (vb z0) :: nN 4 (.call (vb z1) :: .n :: .b false :: .n :: nS 4 (.b true :: [])))
def nspeculumref03_CheckAnnealing_l0_0_h (a0 : SAnnealing) (x3 : Int) : VS := ⟨mkA [(1, VV.pt 0 0), (3, vi x3)], [some ⟨true, 1, c_SAnnealing a0⟩], .nil⟩
def nspeculumref03_CheckAnnealing_l0_0_e0 (a0 : SAnnealing) (r : Unit) : VS := ⟨mkA [(2, vi 2)], [], .nil⟩
def nspeculumref03_CheckAnnealing_l0_0_e1 (a0 : SAnnealing) (r : Unit) : VS := ⟨mkA [(1, VV.pt 0 0)], [some ⟨true, 1, c_SAnnealing a0⟩], .nil⟩
def nspeculumref03_CheckAnnealing_l0_0 (k : Nat) (a0 : SAnnealing) : Nat → Int → Option (Sum Unit Unit)
  | 0, _ => none
  | fuel + 1, x3 => if x3 < (a0.Steps.length : Int) then (if 0 ≤ x3 ∧ x3 < (a0.Steps.length : Int) then ((nspeculumbase_Within k ((a0.Steps.getD x3.toNat default).Drop) 1 1000).bind fun r629 => (if r629 = true then ((nspeculumbase_Within k ((a0.Steps.getD x3.toNat default).Limit) 1 1000000000).bind fun r633 => (if r633 = true then ((nspeculumbase_Within k ((a0.Steps.getD x3.toNat default).Most) 1 100000).bind fun r637 => (if r637 = true then (nspeculumref03_CheckAnnealing_l0_0 k a0 fuel (w64 (x3 + 1))) else (some (.inl ())))) else (some (.inl ())))) else (some (.inl ())))) else none) else (some (.inr ()))
theorem nspeculumref03_CheckAnnealing_l0_0_ok (k : Nat) (a0 : SAnnealing) : ∀ (fuel : Nat) (x3 : Int) (r : Sum Unit Unit), nspeculumref03_CheckAnnealing_l0_0 k a0 fuel x3 = some r → (match r with | .inl r => VLoop none Go.Proofs.Try.prog (szF Go.Proofs.Try.f28) (bodyOf Go.Proofs.Try.f28 0) (nspeculumref03_CheckAnnealing_l0_0_h a0 x3) .ret (nspeculumref03_CheckAnnealing_l0_0_e0 a0 r) | .inr r => VLoop none Go.Proofs.Try.prog (szF Go.Proofs.Try.f28) (bodyOf Go.Proofs.Try.f28 0) (nspeculumref03_CheckAnnealing_l0_0_h a0 x3) (.exit 0) (nspeculumref03_CheckAnnealing_l0_0_e1 a0 r)) := by
 intro fuel
 induction fuel with
 | zero => intro x3 r h; rw [nspeculumref03_CheckAnnealing_l0_0.eq_1] at h; cases h
 | succ fuel ih =>
  intro x3 r h
  rw [nspeculumref03_CheckAnnealing_l0_0.eq_2] at h
  rcases ifs h with ⟨h625, h⟩ | ⟨h625, h⟩
  ·obtain ⟨h626, h⟩ := ifn h
   have e627 := (show loadL Go.Proofs.Try.prog 59 (x3.toNat * 3) (List.flatMap c_SCoolStep a0.Steps) = some (VV.ag (c_SCoolStep (a0.Steps.getD x3.toNat default))) from ld_whole ag59 c_SCoolStep 3 sz59 len_c_SCoolStep a0.Steps default h626 (by omega))
   have e628 := (ti (ti (ti (an h626 (an e627 (ti (ti trivial)))))))
   obtain ⟨r629, h630, h⟩ := bs h
   have e631 := (nspeculumbase_Within_ok k ((a0.Steps.getD x3.toNat default).Drop) 1 1000 _ h630)
   rcases ifs h with ⟨h632, h⟩ | ⟨h632, h⟩
   ·obtain ⟨r633, h634, h⟩ := bs h
    have e635 := (an (not_f h632) (nspeculumbase_Within_ok k ((a0.Steps.getD x3.toNat default).Limit) 1 1000000000 _ h634))
    rcases ifs h with ⟨h636, h⟩ | ⟨h636, h⟩
    ·obtain ⟨r637, h638, h⟩ := bs h
     have e639 := (an (not_f h636) (nspeculumbase_Within_ok k ((a0.Steps.getD x3.toNat default).Most) 1 100000 _ h638))
     have e640 := (ti (ti (an e631 (ti (ti (an (an (not_f h632) trivial) (an (an (not_f h632) trivial) (an e635 (an (an (not_f h632) trivial) (an (not_f h632) (ti (an (an (not_f h636) trivial) (an (an (not_f h636) trivial) (an e639 (an (an (not_f h636) trivial) (an (not_f h636) trivial))))))))))))))))
     rcases ifs h with ⟨h641, h⟩ | ⟨h641, h⟩
     ·have h2 := ih _ _ h
      obtain ⟨q, hv, hq⟩ := pkR (rd := none) (P := Go.Proofs.Try.prog) (fn := Go.Proofs.Try.f28) (k := 0) (s := (nspeculumref03_CheckAnnealing_l0_0_h a0 x3)) (ans := [.reg (nN 5 []), .br true, .reg (nN 4 (.v (VV.ag (c_SCoolStep (a0.Steps.getD x3.toNat default))) :: .n :: .n :: [])), .reg (arA1_8 r629 r633 r637), .br false, .reg (nN 3 [])]) (c := ⟨[(1, none), (3, none)], [none], []⟩) (e := .normal) (s1 := (nspeculumref03_CheckAnnealing_l0_0_h a0 (w64 (x3 + 1)))) (an (an (an (ti (ti (ti (ti (ti trivial))))) (an (decide_eq_true h625) trivial)) (an (an e628 (an e640 (an (not_f h641) trivial))) (ti (ti (ti trivial))))) (ti trivial)) (by kernel_rfl)
      cases r with
      | inl r => exact round_next pm pn hv hq h2
      | inr r =>
       exact round_next pm pn hv hq h2
     ·injection h with h; subst h
      exact round_stop (c := ⟨[(2, none)], [], []⟩) (s1 := (nspeculumref03_CheckAnnealing_l0_0_e0 a0 ())) pm pn (ans := [.reg (nN 5 []), .br true, .reg (nN 4 (.v (VV.ag (c_SCoolStep (a0.Steps.getD x3.toNat default))) :: .n :: .n :: [])), .reg (arA1_8 r629 r633 r637), .br true, .reg (.n :: [])]) (by kernel_rfl) (by intro e; cases e) (an (an (an (ti (ti (ti (ti (ti trivial))))) (an (decide_eq_true h625) trivial)) (an e628 (an e640 (an (not_t (bool_f h641)) (an (ti trivial) trivial))))) (ti trivial))
    ·have e642 := (ti (ti (an e631 (ti (ti (an (an (not_f h632) trivial) (an (an (not_f h632) trivial) (an e635 (an (an (not_f h632) trivial) (an (not_f h632) (ti (an (not_t (bool_f h636)) (an (not_t (bool_f h636)) (an (not_t (bool_f h636)) (an (not_t (bool_f h636)) (an (not_t (bool_f h636)) trivial))))))))))))))))
     injection h with h; subst h
     exact round_stop (c := ⟨[(2, none)], [], []⟩) (s1 := (nspeculumref03_CheckAnnealing_l0_0_e0 a0 ())) pm pn (ans := [.reg (nN 5 []), .br true, .reg (nN 4 (.v (VV.ag (c_SCoolStep (a0.Steps.getD x3.toNat default))) :: .n :: .n :: [])), .reg (arA1_9 r629 r633), .br true, .reg (.n :: [])]) (by kernel_rfl) (by intro e; cases e) (an (an (an (ti (ti (ti (ti (ti trivial))))) (an (decide_eq_true h625) trivial)) (an e628 (an e642 (an rt (an (ti trivial) trivial))))) (ti trivial))
   ·have e643 := (ti (ti (an e631 (ti (ti (an (not_t (bool_f h632)) (an (not_t (bool_f h632)) (an (not_t (bool_f h632)) (an (not_t (bool_f h632)) (an (not_t (bool_f h632)) (ti (an rt (an rt (an rt (an rt (an rt trivial))))))))))))))))
    injection h with h; subst h
    exact round_stop (c := ⟨[(2, none)], [], []⟩) (s1 := (nspeculumref03_CheckAnnealing_l0_0_e0 a0 ())) pm pn (ans := [.reg (nN 5 []), .br true, .reg (nN 4 (.v (VV.ag (c_SCoolStep (a0.Steps.getD x3.toNat default))) :: .n :: .n :: [])), .reg (.n :: .n :: .call (vb r629) :: .n :: .n :: nS 4 (.b true :: .n :: nS 4 (.b true :: []))), .br true, .reg (.n :: [])]) (by kernel_rfl) (by intro e; cases e) (an (an (an (ti (ti (ti (ti (ti trivial))))) (an (decide_eq_true h625) trivial)) (an e628 (an e643 (an rt (an (ti trivial) trivial))))) (ti trivial))
  ·injection h with h; subst h
   exact round_stop (c := ⟨[(1, none)], [none], []⟩) (s1 := (nspeculumref03_CheckAnnealing_l0_0_e1 a0 ())) pm pn (ans := [.reg (nN 5 []), .br false]) (by kernel_rfl) (by intro e; cases e) (an (an (ti (ti (ti (ti (ti trivial))))) (an (decide_eq_false h625) trivial)) (ti trivial))
def nspeculumref03_CheckAnnealing_l1_0_h (a0 : SAnnealing) (x5 : Int) : VS := ⟨mkA [(1, VV.pt 0 0), (5, vi x5)], [some ⟨true, 1, c_SAnnealing a0⟩], .nil⟩
def nspeculumref03_CheckAnnealing_l1_0_e0 (a0 : SAnnealing) (r : Int) : VS := ⟨mkA [(2, vi r)], [], .nil⟩
def nspeculumref03_CheckAnnealing_l1_0_e1 (a0 : SAnnealing) (r : Unit) : VS := ⟨mkA [], [], .nil⟩
def nspeculumref03_CheckAnnealing_l1_0 (k : Nat) (a0 : SAnnealing) : Nat → Int → Option (Sum Int Unit)
  | 0, _ => none
  | fuel + 1, x5 => if x5 < (a0.Windows.length : Int) then (if 0 ≤ x5 ∧ x5 < (a0.Windows.length : Int) then ((nspeculumbase_Within k ((a0.Windows.getD x5.toNat default).Level) 0 (a0.Steps.length : Int)).bind fun r693 => (if r693 = true then ((nspeculumbase_Within k ((a0.Windows.getD x5.toNat default).From) 0 1000000).bind fun r697 => (if r697 = true then ((nspeculumbase_Within k ((a0.Windows.getD x5.toNat default).To) 0 1000000).bind fun r701 => (if r701 = true then (if ((a0.Windows.getD x5.toNat default).To) < ((a0.Windows.getD x5.toNat default).From) then (some (.inl 9)) else (nspeculumref03_CheckAnnealing_l1_0 k a0 fuel (w64 (x5 + 1)))) else (some (.inl 2)))) else (some (.inl 2)))) else (some (.inl 6)))) else none) else (some (.inr ()))
theorem nspeculumref03_CheckAnnealing_l1_0_ok (k : Nat) (a0 : SAnnealing) : ∀ (fuel : Nat) (x5 : Int) (r : Sum Int Unit), nspeculumref03_CheckAnnealing_l1_0 k a0 fuel x5 = some r → (match r with | .inl r => VLoop none Go.Proofs.Try.prog (szF Go.Proofs.Try.f28) (bodyOf Go.Proofs.Try.f28 1) (nspeculumref03_CheckAnnealing_l1_0_h a0 x5) .ret (nspeculumref03_CheckAnnealing_l1_0_e0 a0 r) | .inr r => VLoop none Go.Proofs.Try.prog (szF Go.Proofs.Try.f28) (bodyOf Go.Proofs.Try.f28 1) (nspeculumref03_CheckAnnealing_l1_0_h a0 x5) (.exit 2) (nspeculumref03_CheckAnnealing_l1_0_e1 a0 r)) := by
 intro fuel
 induction fuel with
 | zero => intro x5 r h; rw [nspeculumref03_CheckAnnealing_l1_0.eq_1] at h; cases h
 | succ fuel ih =>
  intro x5 r h
  rw [nspeculumref03_CheckAnnealing_l1_0.eq_2] at h
  rcases ifs h with ⟨h689, h⟩ | ⟨h689, h⟩
  ·obtain ⟨h690, h⟩ := ifn h
   have e691 := (show loadL Go.Proofs.Try.prog 85 (x5.toNat * 3) (List.flatMap c_SCoolWindow a0.Windows) = some (VV.ag (c_SCoolWindow (a0.Windows.getD x5.toNat default))) from ld_whole ag85 c_SCoolWindow 3 sz85 len_c_SCoolWindow a0.Windows default h690 (by omega))
   have e692 := (ti (ti (ti (an h690 (an e691 (ti (ti trivial)))))))
   obtain ⟨r693, h694, h⟩ := bs h
   have e695 := (nspeculumbase_Within_ok k ((a0.Windows.getD x5.toNat default).Level) 0 (a0.Steps.length : Int) _ h694)
   rcases ifs h with ⟨h696, h⟩ | ⟨h696, h⟩
   ·obtain ⟨r697, h698, h⟩ := bs h
    have e699 := (nspeculumbase_Within_ok k ((a0.Windows.getD x5.toNat default).From) 0 1000000 _ h698)
    rcases ifs h with ⟨h700, h⟩ | ⟨h700, h⟩
    ·obtain ⟨r701, h702, h⟩ := bs h
     have e703 := (an (not_f h700) (nspeculumbase_Within_ok k ((a0.Windows.getD x5.toNat default).To) 0 1000000 _ h702))
     have e704 := (ti (ti (an e699 (ti (ti (an (an (not_f h700) trivial) (an (an (not_f h700) trivial) (an e703 (an (an (not_f h700) trivial) (an (not_f h700) trivial))))))))))
     rcases ifs h with ⟨h705, h⟩ | ⟨h705, h⟩
     ·rcases ifs h with ⟨h706, h⟩ | ⟨h706, h⟩
      ·injection h with h; subst h
       exact round_stop (c := ⟨[(2, none)], [], []⟩) (s1 := (nspeculumref03_CheckAnnealing_l1_0_e0 a0 9)) pm pn (ans := [.reg (nN 5 []), .br true, .reg (nN 4 (.v (VV.ag (c_SCoolWindow (a0.Windows.getD x5.toNat default))) :: .n :: .n :: [])), .reg (nN 5 (.call (vb r693) :: .n :: [])), .br false, .reg (.n :: .n :: .call (vb r697) :: nN 4 (.call (vb r701) :: .n :: .b false :: [])), .br false, .reg (nN 5 []), .br true, .reg (.n :: [])]) (by kernel_rfl) (by intro e; cases e) (an (an (an (ti (ti (ti (ti (ti trivial))))) (an (decide_eq_true h689) trivial)) (an e692 (an (an (ti (ti (ti (ti (ti (an e695 (ti trivial))))))) (an (not_f h696) trivial)) (an (an e704 (an (not_f h705) trivial)) (an (ti (ti (ti (ti (ti trivial))))) (an (decide_eq_true h706) (an (ti trivial) trivial))))))) (ti trivial))
      ·have h2 := ih _ _ h
       obtain ⟨q, hv, hq⟩ := pkR (rd := none) (P := Go.Proofs.Try.prog) (fn := Go.Proofs.Try.f28) (k := 1) (s := (nspeculumref03_CheckAnnealing_l1_0_h a0 x5)) (ans := [.reg (nN 5 []), .br true, .reg (nN 4 (.v (VV.ag (c_SCoolWindow (a0.Windows.getD x5.toNat default))) :: .n :: .n :: [])), .reg (nN 5 (.call (vb r693) :: .n :: [])), .br false, .reg (.n :: .n :: .call (vb r697) :: nN 4 (.call (vb r701) :: .n :: .b false :: [])), .br false, .reg (nN 5 []), .br false, .reg (nN 3 [])]) (c := ⟨[(1, none), (5, none)], [none], []⟩) (e := .normal) (s1 := (nspeculumref03_CheckAnnealing_l1_0_h a0 (w64 (x5 + 1)))) (an (an (an (ti (ti (ti (ti (ti trivial))))) (an (decide_eq_true h689) trivial)) (an (an e692 (an (an (ti (ti (ti (ti (ti (an e695 (ti trivial))))))) (an (not_f h696) trivial)) (an (an e704 (an (not_f h705) trivial)) (an (ti (ti (ti (ti (ti trivial))))) (an (decide_eq_false h706) trivial))))) (ti (ti (ti trivial))))) (ti trivial)) (by kernel_rfl)
       cases r with
       | inl r => exact round_next pm pn hv hq h2
       | inr r =>
        exact round_next pm pn hv hq h2
     ·injection h with h; subst h
      exact round_stop (c := ⟨[(2, none)], [], []⟩) (s1 := (nspeculumref03_CheckAnnealing_l1_0_e0 a0 2)) pm pn (ans := [.reg (nN 5 []), .br true, .reg (nN 4 (.v (VV.ag (c_SCoolWindow (a0.Windows.getD x5.toNat default))) :: .n :: .n :: [])), .reg (nN 5 (.call (vb r693) :: .n :: [])), .br false, .reg (.n :: .n :: .call (vb r697) :: nN 4 (.call (vb r701) :: .n :: .b false :: [])), .br true, .reg (.n :: [])]) (by kernel_rfl) (by intro e; cases e) (an (an (an (ti (ti (ti (ti (ti trivial))))) (an (decide_eq_true h689) trivial)) (an e692 (an (an (ti (ti (ti (ti (ti (an e695 (ti trivial))))))) (an (not_f h696) trivial)) (an e704 (an (not_t (bool_f h705)) (an (ti trivial) trivial)))))) (ti trivial))
    ·have e707 := (ti (ti (an e699 (ti (ti (an (not_t (bool_f h700)) (an (not_t (bool_f h700)) (an (not_t (bool_f h700)) (an (not_t (bool_f h700)) (an (not_t (bool_f h700)) trivial))))))))))
     injection h with h; subst h
     exact round_stop (c := ⟨[(2, none)], [], []⟩) (s1 := (nspeculumref03_CheckAnnealing_l1_0_e0 a0 2)) pm pn (ans := [.reg (nN 5 []), .br true, .reg (nN 4 (.v (VV.ag (c_SCoolWindow (a0.Windows.getD x5.toNat default))) :: .n :: .n :: [])), .reg (nN 5 (.call (vb r693) :: .n :: [])), .br false, .reg (.n :: .n :: .call (vb r697) :: .n :: .n :: nS 4 (.b true :: [])), .br true, .reg (.n :: [])]) (by kernel_rfl) (by intro e; cases e) (an (an (an (ti (ti (ti (ti (ti trivial))))) (an (decide_eq_true h689) trivial)) (an e692 (an (an (ti (ti (ti (ti (ti (an e695 (ti trivial))))))) (an (not_f h696) trivial)) (an e707 (an rt (an (ti trivial) trivial)))))) (ti trivial))
   ·injection h with h; subst h
    exact round_stop (c := ⟨[(2, none)], [], []⟩) (s1 := (nspeculumref03_CheckAnnealing_l1_0_e0 a0 6)) pm pn (ans := [.reg (nN 5 []), .br true, .reg (nN 4 (.v (VV.ag (c_SCoolWindow (a0.Windows.getD x5.toNat default))) :: .n :: .n :: [])), .reg (nN 5 (.call (vb r693) :: .n :: [])), .br true, .reg (.n :: [])]) (by kernel_rfl) (by intro e; cases e) (an (an (an (ti (ti (ti (ti (ti trivial))))) (an (decide_eq_true h689) trivial)) (an e692 (an (ti (ti (ti (ti (ti (an e695 (ti trivial))))))) (an (not_t (bool_f h696)) (an (ti trivial) trivial))))) (ti trivial))
  ·injection h with h; subst h
   exact round_stop (c := ⟨[], [], []⟩) (s1 := (nspeculumref03_CheckAnnealing_l1_0_e1 a0 ())) pm pn (ans := [.reg (nN 5 []), .br false]) (by kernel_rfl) (by intro e; cases e) (an (an (ti (ti (ti (ti (ti trivial))))) (an (decide_eq_false h689) trivial)) (ti trivial))
def nspeculumref03_CheckAnnealing (k : Nat) (a0 : SAnnealing) : Option Int :=
  (nspeculumbase_Within k a0.Thick 1 500).bind fun r574 => (if r574 = true then ((nspeculumbase_Within k a0.Factor 0 1000).bind fun r578 => (if r578 = true then ((nspeculumbase_Within k (a0.Steps.length : Int) 1 30).bind fun r583 => (if r583 = true then ((nspeculumref03_CheckAnnealing_l0_0 k a0 k 0).bind fun r645 => (match r645 with | .inl r646 => (some 2) | .inr r647 => (if 60 < (a0.Windows.length : Int) then (some 8) else ((nspeculumref03_CheckAnnealing_l1_0 k a0 k 0).bind fun r709 => (match r709 with | .inl r710 => (some r710) | .inr r711 => (some 0)))))) else (some 10))) else (some 2))) else (some 2))
theorem nspeculumref03_CheckAnnealing_ok (k : Nat) (a0 : SAnnealing) (r : Int) (h : nspeculumref03_CheckAnnealing k a0 = some r) : VC Go.Proofs.Try.prog 28 [VV.ag (c_SAnnealing a0)] (vi r) := by
 unfold nspeculumref03_CheckAnnealing at h
 obtain ⟨r574, h575, h⟩ := bs h
 have e576 := (nspeculumbase_Within_ok k a0.Thick 1 500 _ h575)
 rcases ifs h with ⟨h577, h⟩ | ⟨h577, h⟩
 ·obtain ⟨r578, h579, h⟩ := bs h
  have e580 := (an (not_f h577) (nspeculumbase_Within_ok k a0.Factor 0 1000 _ h579))
  have e581 := (ti (ti (an e576 (ti (ti (an (an (not_f h577) trivial) (an (an (not_f h577) trivial) (an e580 (an (an (not_f h577) trivial) (an (not_f h577) trivial))))))))))
  rcases ifs h with ⟨h582, h⟩ | ⟨h582, h⟩
  ·obtain ⟨r583, h584, h⟩ := bs h
   have e585 := (nspeculumbase_Within_ok k (a0.Steps.length : Int) 1 30 _ h584)
   rcases ifs h with ⟨h586, h⟩ | ⟨h586, h⟩
   ·obtain ⟨r645, h644, h⟩ := bs h
    have hph644 := nspeculumref03_CheckAnnealing_l0_0_ok k a0 _ _ _ h644
    cases r645 with
    | inl r646 =>
     dsimp only at h
     have e648 := (an (ti trivial) (VRun.loop hph644))
     injection h with h; subst h
     exact fun_ok pm pn Go.Proofs.Try.func28 (r0 := vi 2) (ans := [.reg (.n :: .n :: []), .reg (.n :: .n :: .call (vb r574) :: nN 4 (.call (vb r578) :: .n :: .b false :: [])), .br false, .reg (nN 3 (.call (vb r583) :: .n :: [])), .br false, .reg (.n :: []), .sub ⟨[(1, none), (3, none)], [none], []⟩ .ret (nspeculumref03_CheckAnnealing_l0_0_e0 a0 r646)]) (fr := true) (by kernel_rfl) (an (an (ti (ti trivial)) (an (an e581 (an (not_f h582) trivial)) (an (an (ti (ti (ti (an e585 (ti trivial))))) (an (not_f h586) trivial)) (an (ti trivial) e648)))) (ti trivial)) (Wv.refl _)
    | inr r647 =>
     dsimp only at h
     have e649 := (an (ti trivial) (VRun.loop hph644))
     rcases ifs h with ⟨h650, h⟩ | ⟨h650, h⟩
     ·injection h with h; subst h
      exact fun_ok pm pn Go.Proofs.Try.func28 (r0 := vi 8) (ans := [.reg (.n :: .n :: []), .reg (.n :: .n :: .call (vb r574) :: nN 4 (.call (vb r578) :: .n :: .b false :: [])), .br false, .reg (nN 3 (.call (vb r583) :: .n :: [])), .br false, .reg (.n :: []), .sub ⟨[(1, none), (3, none)], [none], []⟩ (.exit 0) (nspeculumref03_CheckAnnealing_l0_0_e1 a0 r647), .reg (nN 4 []), .br true, .reg (.n :: [])]) (fr := true) (by kernel_rfl) (an (an (ti (ti trivial)) (an (an e581 (an (not_f h582) trivial)) (an (an (ti (ti (ti (an e585 (ti trivial))))) (an (not_f h586) trivial)) (an (an (ti trivial) e649) (an (ti (ti (ti (ti trivial)))) (an (decide_eq_true h650) (an (ti trivial) trivial))))))) (ti trivial)) (Wv.refl _)
     ·obtain ⟨r709, h708, h⟩ := bs h
      have hph708 := nspeculumref03_CheckAnnealing_l1_0_ok k a0 _ _ _ h708
      cases r709 with
      | inl r710 =>
       dsimp only at h
       have e712 := (an (ti trivial) (VRun.loop hph708))
       injection h with h; subst h
       exact fun_ok pm pn Go.Proofs.Try.func28 (r0 := vi r710) (ans := [.reg (.n :: .n :: []), .reg (.n :: .n :: .call (vb r574) :: nN 4 (.call (vb r578) :: .n :: .b false :: [])), .br false, .reg (nN 3 (.call (vb r583) :: .n :: [])), .br false, .reg (.n :: []), .sub ⟨[(1, none), (3, none)], [none], []⟩ (.exit 0) (nspeculumref03_CheckAnnealing_l0_0_e1 a0 r647), .reg (nN 4 []), .br false, .reg (.n :: []), .sub ⟨[(1, none), (5, none)], [none], []⟩ .ret (nspeculumref03_CheckAnnealing_l1_0_e0 a0 r710)]) (fr := true) (by kernel_rfl) (an (an (ti (ti trivial)) (an (an e581 (an (not_f h582) trivial)) (an (an (ti (ti (ti (an e585 (ti trivial))))) (an (not_f h586) trivial)) (an (an (ti trivial) e649) (an (an (ti (ti (ti (ti trivial)))) (an (decide_eq_false h650) trivial)) (an (ti trivial) e712)))))) (ti trivial)) (Wv.refl _)
      | inr r711 =>
       dsimp only at h
       have e713 := (an (ti trivial) (VRun.loop hph708))
       injection h with h; subst h
       exact fun_ok pm pn Go.Proofs.Try.func28 (r0 := vi 0) (ans := [.reg (.n :: .n :: []), .reg (.n :: .n :: .call (vb r574) :: nN 4 (.call (vb r578) :: .n :: .b false :: [])), .br false, .reg (nN 3 (.call (vb r583) :: .n :: [])), .br false, .reg (.n :: []), .sub ⟨[(1, none), (3, none)], [none], []⟩ (.exit 0) (nspeculumref03_CheckAnnealing_l0_0_e1 a0 r647), .reg (nN 4 []), .br false, .reg (.n :: []), .sub ⟨[(1, none), (5, none)], [none], []⟩ (.exit 2) (nspeculumref03_CheckAnnealing_l1_0_e1 a0 r711), .reg (.n :: [])]) (fr := true) (by kernel_rfl) (an (an (ti (ti trivial)) (an (an e581 (an (not_f h582) trivial)) (an (an (ti (ti (ti (an e585 (ti trivial))))) (an (not_f h586) trivial)) (an (an (ti trivial) e649) (an (an (ti (ti (ti (ti trivial)))) (an (decide_eq_false h650) trivial)) (an (an (ti trivial) e713) (an (ti trivial) trivial))))))) (ti trivial)) (Wv.refl _)
   ·injection h with h; subst h
    exact fun_ok pm pn Go.Proofs.Try.func28 (r0 := vi 10) (ans := [.reg (.n :: .n :: []), .reg (.n :: .n :: .call (vb r574) :: nN 4 (.call (vb r578) :: .n :: .b false :: [])), .br false, .reg (nN 3 (.call (vb r583) :: .n :: [])), .br true, .reg (.n :: [])]) (fr := true) (by kernel_rfl) (an (an (ti (ti trivial)) (an (an e581 (an (not_f h582) trivial)) (an (ti (ti (ti (an e585 (ti trivial))))) (an (not_t (bool_f h586)) (an (ti trivial) trivial))))) (ti trivial)) (Wv.refl _)
  ·injection h with h; subst h
   exact fun_ok pm pn Go.Proofs.Try.func28 (r0 := vi 2) (ans := [.reg (.n :: .n :: []), .reg (.n :: .n :: .call (vb r574) :: nN 4 (.call (vb r578) :: .n :: .b false :: [])), .br true, .reg (.n :: [])]) (fr := true) (by kernel_rfl) (an (an (ti (ti trivial)) (an e581 (an (not_t (bool_f h582)) (an (ti trivial) trivial)))) (ti trivial)) (Wv.refl _)
 ·have e714 := (ti (ti (an e576 (ti (ti (an (not_t (bool_f h577)) (an (not_t (bool_f h577)) (an (not_t (bool_f h577)) (an (not_t (bool_f h577)) (an (not_t (bool_f h577)) trivial))))))))))
  injection h with h; subst h
  exact fun_ok pm pn Go.Proofs.Try.func28 (r0 := vi 2) (ans := [.reg (.n :: .n :: []), .reg (.n :: .n :: .call (vb r574) :: .n :: .n :: nS 4 (.b true :: [])), .br true, .reg (.n :: [])]) (fr := true) (by kernel_rfl) (an (an (ti (ti trivial)) (an e714 (an rt (an (ti trivial) trivial)))) (ti trivial)) (Wv.refl _)
def arA1_10  : List Ans := (nN 14 (.b true :: .b false :: nN 11 (nS 4 (.b false :: .b false :: .b true :: .n :: []))))
def nspeculumlaw03_Light (k : Nat) (a0 : SAnnealing) : Option Bool :=
  if (a0.Steps.length : Int) ≤ 8 then (if (a0.Windows.length : Int) ≤ 8 then (some true) else (if 60 < (a0.Windows.length : Int) then (some (decide ((a0.Windows.length : Int) ≤ 63))) else (some false))) else (if 30 < (a0.Steps.length : Int) then (if (a0.Steps.length : Int) ≤ 33 then (if (a0.Windows.length : Int) ≤ 8 then (some true) else (if 60 < (a0.Windows.length : Int) then (some (decide ((a0.Windows.length : Int) ≤ 63))) else (some false))) else (some false)) else (some false))
theorem nspeculumlaw03_Light_ok (k : Nat) (a0 : SAnnealing) (r : Bool) (h : nspeculumlaw03_Light k a0 = some r) : VC Go.Proofs.Try.prog 24 [VV.ag (c_SAnnealing a0)] (vb r) := by
 unfold nspeculumlaw03_Light at h
 rcases ifs h with ⟨h739, h⟩ | ⟨h739, h⟩
 ·rcases ifs h with ⟨h740, h⟩ | ⟨h740, h⟩
  ·have e741 := (ti (ti (ti (ti (ti (an (decide_eq_true h739) (an (decide_eq_true h739) (an (decide_eq_true h739) (an (decide_eq_true h739) (an (decide_eq_true h739) (ti (ti (ti (ti (an (decide_eq_true h739) (an (decide_eq_true h739) (ti (an (an rt trivial) (an (an rt trivial) (an (an rt trivial) (an (an rt trivial) (an (an rt trivial) (an (decide_eq_true h740) (an (decide_eq_true h740) (an (decide_eq_true h740) (an (decide_eq_true h740) (an (decide_eq_true h740) (ti (ti (ti (ti (an (decide_eq_true h740) (an (an rt (decide_eq_true h740)) (an rt (ti trivial)))))))))))))))))))))))))))))))))))
   injection h with h; subst h
   exact fun_ok pm pn Go.Proofs.Try.func24 (r0 := vb true) (ans := [.reg (.n :: .n :: []), .reg (nN 5 (nS 10 (.b true :: nN 6 (nS 10 (.b true :: .b true :: .n :: [])))))]) (fr := true) (by kernel_rfl) (an (an (ti (ti trivial)) (an e741 trivial)) (ti trivial)) (Wv.refl _)
  ·rcases ifs h with ⟨h742, h⟩ | ⟨h742, h⟩
   ·have e743 := (an (decide_eq_false h740) (decide_eq_true h742))
    have e744 := (ti (ti (ti (ti (ti (an (decide_eq_true h739) (an (decide_eq_true h739) (an (decide_eq_true h739) (an (decide_eq_true h739) (an (decide_eq_true h739) (ti (ti (ti (ti (an (decide_eq_true h739) (an (decide_eq_true h739) (ti (an (an rt trivial) (an (an rt trivial) (an (an rt trivial) (an (an rt trivial) (an (an rt trivial) (an (an (decide_eq_false h740) trivial) (an (an (decide_eq_false h740) trivial) (an (an (decide_eq_false h740) trivial) (an (an (decide_eq_false h740) trivial) (an (an (decide_eq_false h740) trivial) (an (an (decide_eq_true h742) trivial) (an (an (decide_eq_true h742) trivial) (an (an (decide_eq_true h742) trivial) (an (an (decide_eq_true h742) trivial) (an e743 (an (an rt (decide_eq_false h740)) (an rt (ti trivial)))))))))))))))))))))))))))))))))))
    injection h with h; subst h
    exact fun_ok pm pn Go.Proofs.Try.func24 (r0 := vb (decide ((a0.Windows.length : Int) ≤ 63))) (ans := [.reg (.n :: .n :: []), .reg (nN 5 (nS 10 (.b true :: nN 15 (.b true :: .b false :: .b true :: .n :: []))))]) (fr := true) (by kernel_rfl) (an (an (ti (ti trivial)) (an e744 trivial)) (ti trivial)) (Wv.refl _)
   ·have e745 := (an (decide_eq_false h740) (decide_eq_false h742))
    have e746 := (ti (ti (ti (ti (ti (an (decide_eq_true h739) (an (decide_eq_true h739) (an (decide_eq_true h739) (an (decide_eq_true h739) (an (decide_eq_true h739) (ti (ti (ti (ti (an (decide_eq_true h739) (an (decide_eq_true h739) (ti (an (an rt trivial) (an (an rt trivial) (an (an rt trivial) (an (an rt trivial) (an (an rt trivial) (an (an (decide_eq_false h740) trivial) (an (an (decide_eq_false h740) trivial) (an (an (decide_eq_false h740) trivial) (an (an (decide_eq_false h740) trivial) (an (an (decide_eq_false h740) trivial) (an (decide_eq_false h742) (an (decide_eq_false h742) (an (decide_eq_false h742) (an (decide_eq_false h742) (an e745 (an (an rt (decide_eq_false h740)) (an rt (ti trivial)))))))))))))))))))))))))))))))))))
    injection h with h; subst h
    exact fun_ok pm pn Go.Proofs.Try.func24 (r0 := vb false) (ans := [.reg (.n :: .n :: []), .reg (nN 5 (nS 10 (.b true :: nN 11 (nS 4 (.b false :: .b false :: .b true :: .n :: [])))))]) (fr := true) (by kernel_rfl) (an (an (ti (ti trivial)) (an e746 trivial)) (ti trivial)) (Wv.refl _)
 ·rcases ifs h with ⟨h747, h⟩ | ⟨h747, h⟩
  ·have e748 := (an (decide_eq_false h739) (decide_eq_true h747))
   rcases ifs h with ⟨h749, h⟩ | ⟨h749, h⟩
   ·rcases ifs h with ⟨h750, h⟩ | ⟨h750, h⟩
    ·have e751 := (an (decide_eq_true h749) (decide_eq_true h750))
     have e752 := (ti (ti (ti (ti (ti (an (an (decide_eq_false h739) trivial) (an (an (decide_eq_false h739) trivial) (an (an (decide_eq_false h739) trivial) (an (an (decide_eq_false h739) trivial) (an (an (decide_eq_false h739) trivial) (an (an (decide_eq_true h747) trivial) (an (an (decide_eq_true h747) trivial) (an (an (decide_eq_true h747) trivial) (an (an (decide_eq_true h747) trivial) (an e748 (an (decide_eq_false h739) (ti (an (an (decide_eq_true h749) trivial) (an (an (decide_eq_true h749) trivial) (an (an (decide_eq_true h749) trivial) (an (an (decide_eq_true h749) trivial) (an (an (decide_eq_true h749) trivial) (an (decide_eq_true h750) (an (decide_eq_true h750) (an (decide_eq_true h750) (an (decide_eq_true h750) (an (decide_eq_true h750) (ti (ti (ti (ti (an (decide_eq_true h750) (an e751 (an (decide_eq_true h749) (ti trivial)))))))))))))))))))))))))))))))))))
     injection h with h; subst h
     exact fun_ok pm pn Go.Proofs.Try.func24 (r0 := vb true) (ans := [.reg (.n :: .n :: []), .reg (nN 14 (.b true :: .b false :: nN 6 (nS 10 (.b true :: .b true :: .n :: []))))]) (fr := true) (by kernel_rfl) (an (an (ti (ti trivial)) (an e752 trivial)) (ti trivial)) (Wv.refl _)
    ·rcases ifs h with ⟨h753, h⟩ | ⟨h753, h⟩
     ·have e754 := (an (decide_eq_false h750) (decide_eq_true h753))
      have e755 := (an (decide_eq_true h749) (decide_eq_false h750))
      have e756 := (ti (ti (ti (ti (ti (an (an (decide_eq_false h739) trivial) (an (an (decide_eq_false h739) trivial) (an (an (decide_eq_false h739) trivial) (an (an (decide_eq_false h739) trivial) (an (an (decide_eq_false h739) trivial) (an (an (decide_eq_true h747) trivial) (an (an (decide_eq_true h747) trivial) (an (an (decide_eq_true h747) trivial) (an (an (decide_eq_true h747) trivial) (an e748 (an (decide_eq_false h739) (ti (an (an (decide_eq_true h749) trivial) (an (an (decide_eq_true h749) trivial) (an (an (decide_eq_true h749) trivial) (an (an (decide_eq_true h749) trivial) (an (an (decide_eq_true h749) trivial) (an (an (decide_eq_false h750) trivial) (an (an (decide_eq_false h750) trivial) (an (an (decide_eq_false h750) trivial) (an (an (decide_eq_false h750) trivial) (an (an (decide_eq_false h750) trivial) (an (an (decide_eq_true h753) trivial) (an (an (decide_eq_true h753) trivial) (an (an (decide_eq_true h753) trivial) (an (an (decide_eq_true h753) trivial) (an e754 (an e755 (an (decide_eq_true h749) (ti trivial)))))))))))))))))))))))))))))))))))
      injection h with h; subst h
      exact fun_ok pm pn Go.Proofs.Try.func24 (r0 := vb (decide ((a0.Windows.length : Int) ≤ 63))) (ans := [.reg (.n :: .n :: []), .reg (nN 14 (.b true :: .b false :: nN 15 (.b true :: .b false :: .b true :: .n :: [])))]) (fr := true) (by kernel_rfl) (an (an (ti (ti trivial)) (an e756 trivial)) (ti trivial)) (Wv.refl _)
     ·have e757 := (an (decide_eq_false h750) (decide_eq_false h753))
      have e758 := (an (decide_eq_true h749) (decide_eq_false h750))
      have e759 := (ti (ti (ti (ti (ti (an (an (decide_eq_false h739) trivial) (an (an (decide_eq_false h739) trivial) (an (an (decide_eq_false h739) trivial) (an (an (decide_eq_false h739) trivial) (an (an (decide_eq_false h739) trivial) (an (an (decide_eq_true h747) trivial) (an (an (decide_eq_true h747) trivial) (an (an (decide_eq_true h747) trivial) (an (an (decide_eq_true h747) trivial) (an e748 (an (decide_eq_false h739) (ti (an (an (decide_eq_true h749) trivial) (an (an (decide_eq_true h749) trivial) (an (an (decide_eq_true h749) trivial) (an (an (decide_eq_true h749) trivial) (an (an (decide_eq_true h749) trivial) (an (an (decide_eq_false h750) trivial) (an (an (decide_eq_false h750) trivial) (an (an (decide_eq_false h750) trivial) (an (an (decide_eq_false h750) trivial) (an (an (decide_eq_false h750) trivial) (an (decide_eq_false h753) (an (decide_eq_false h753) (an (decide_eq_false h753) (an (decide_eq_false h753) (an e757 (an e758 (an (decide_eq_true h749) (ti trivial)))))))))))))))))))))))))))))))))))
      injection h with h; subst h
      exact fun_ok pm pn Go.Proofs.Try.func24 (r0 := vb false) (ans := [.reg (.n :: .n :: []), .reg arA1_10]) (fr := true) (by kernel_rfl) (an (an (ti (ti trivial)) (an e759 trivial)) (ti trivial)) (Wv.refl _)
   ·have e760 := (ti (ti (ti (ti (ti (an (an (decide_eq_false h739) trivial) (an (an (decide_eq_false h739) trivial) (an (an (decide_eq_false h739) trivial) (an (an (decide_eq_false h739) trivial) (an (an (decide_eq_false h739) trivial) (an (an (decide_eq_true h747) trivial) (an (an (decide_eq_true h747) trivial) (an (an (decide_eq_true h747) trivial) (an (an (decide_eq_true h747) trivial) (an e748 (an (decide_eq_false h739) (ti (an (decide_eq_false h749) (an (decide_eq_false h749) (an (decide_eq_false h749) (an (decide_eq_false h749) (an (decide_eq_false h749) (ti (ti (ti (ti (ti (ti (ti (ti (ti (ti (an (decide_eq_false h749) (an (decide_eq_false h749) (ti trivial)))))))))))))))))))))))))))))))))))
    injection h with h; subst h
    exact fun_ok pm pn Go.Proofs.Try.func24 (r0 := vb false) (ans := [.reg (.n :: .n :: []), .reg (nN 14 (.b true :: .b false :: .n :: nS 16 (.b false :: .n :: [])))]) (fr := true) (by kernel_rfl) (an (an (ti (ti trivial)) (an e760 trivial)) (ti trivial)) (Wv.refl _)
  ·have e761 := (an (decide_eq_false h739) (decide_eq_false h747))
   have e762 := (ti (ti (ti (ti (ti (an (an (decide_eq_false h739) trivial) (an (an (decide_eq_false h739) trivial) (an (an (decide_eq_false h739) trivial) (an (an (decide_eq_false h739) trivial) (an (an (decide_eq_false h739) trivial) (an (decide_eq_false h747) (an (decide_eq_false h747) (an (decide_eq_false h747) (an (decide_eq_false h747) (an e761 (an (decide_eq_false h739) (ti (an rf (an rf (an rf (an rf (an rf (ti (ti (ti (ti (ti (ti (ti (ti (ti (ti (an rf (an rf (ti trivial)))))))))))))))))))))))))))))))))))
   injection h with h; subst h
   exact fun_ok pm pn Go.Proofs.Try.func24 (r0 := vb false) (ans := [.reg (.n :: .n :: []), .reg (nN 10 (nS 4 (.b false :: .b false :: .n :: nS 16 (.b false :: .n :: []))))]) (fr := true) (by kernel_rfl) (an (an (ti (ti trivial)) (an e762 trivial)) (ti trivial)) (Wv.refl _)
theorem eqA1_4 (z0 : SAnnealing) : VV.ag [vi z0.Thick, vi z0.Factor, VV.fw 3 (List.drop 0 (List.map unfr (List.flatMap c_SCoolStep z0.Steps))) z0.Steps.length, VV.fw 3 (List.drop 0 (List.map unfr (List.flatMap c_SCoolWindow z0.Windows))) z0.Windows.length] = VV.ag [vi z0.Thick, vi z0.Factor, VV.fw 3 (List.flatMap c_SCoolStep z0.Steps) z0.Steps.length, VV.fw 3 (List.flatMap c_SCoolWindow z0.Windows) z0.Windows.length] := by first | rfl | (simp only [drop0, unfr_vi, List.map_cons, List.map_nil, un_i, List.length_map, List.length_cons, List.length_nil, unfr_c_SCoolStep, unfr_c_SCoolWindow]; try rfl)
def nspeculumlaw03_own (k : Nat) (a0 : SAnnealing) : Option SAnnealing :=
  if a0.Steps.length ≤ 1000000000 then (if a0.Windows.length ≤ 1000000000 then (some a0) else none) else none
theorem nspeculumlaw03_own_ok (k : Nat) (a0 : SAnnealing) (r : SAnnealing) (h : nspeculumlaw03_own k a0 = some r) : VC Go.Proofs.Try.prog 26 [VV.ag (c_SAnnealing a0)] (VV.ag [vi r.Thick, vi r.Factor, VV.fw 3 (List.flatMap c_SCoolStep r.Steps) r.Steps.length, VV.fw 3 (List.flatMap c_SCoolWindow r.Windows) r.Windows.length]) := by
 unfold nspeculumlaw03_own at h
 obtain ⟨h768, h⟩ := ifn h
 have e769 := (show List.length (List.flatMap c_SCoolStep a0.Steps) = a0.Steps.length * 3 ∧ a0.Steps.length * 24 ≤ 140737488355328 ∧ a0.Steps.length < 1099511627776 ∧ List.all (List.flatMap c_SCoolStep a0.Steps) VV.still = true from ⟨(by rw [flatMap_len len_c_SCoolStep] <;> simp), (by first | omega | (simp at h768 ⊢; omega)), (by first | omega | (simp at h768 ⊢; omega)), (by exact still_c_SCoolStep _)⟩)
 obtain ⟨h770, h⟩ := ifn h
 have e771 := (show List.length (List.flatMap c_SCoolWindow a0.Windows) = a0.Windows.length * 3 ∧ a0.Windows.length * 24 ≤ 140737488355328 ∧ a0.Windows.length < 1099511627776 ∧ List.all (List.flatMap c_SCoolWindow a0.Windows) VV.still = true from ⟨(by rw [flatMap_len len_c_SCoolWindow] <;> simp), (by first | omega | (simp at h770 ⊢; omega)), (by first | omega | (simp at h770 ⊢; omega)), (by exact still_c_SCoolWindow _)⟩)
 have e772 := (ti (ti (ti (an e769 (ti (ti (ti (an e771 (ti (ti (ti (ti trivial))))))))))))
 injection h with h; subst h
 exact fun_ok pm pn Go.Proofs.Try.func26 (r0 := VV.ag [vi a0.Thick, vi a0.Factor, VV.fw 3 (List.drop 0 (List.map unfr (List.flatMap c_SCoolStep a0.Steps))) a0.Steps.length, VV.fw 3 (List.drop 0 (List.map unfr (List.flatMap c_SCoolWindow a0.Windows))) a0.Windows.length]) (ans := [.reg (.n :: .n :: []), .reg (.b true :: nN 3 (.b true :: nN 7 [])), .reg (.n :: .n :: [])]) (fr := true) (by kernel_rfl) (an (an (ti (ti trivial)) (an e772 (an (ti (ti trivial)) trivial))) (an (ti (ti (ti (an (show List.all (List.flatMap c_SCoolStep a0.Steps) new0 = true from (by exact new0_c_SCoolStep _)) (an (show List.all (List.flatMap c_SCoolWindow a0.Windows) new0 = true from (by exact new0_c_SCoolWindow _)) trivial))))) trivial)) (Wv.of_eq (eqA1_4 a0))
theorem eqA1_5 (z0 : Int) (z1 : Int) (z2 : (List SCoolStep)) (z3 : (List SCoolWindow)) : [VV.ag (c_SAnnealing (⟨z0, z1, z2, z3⟩ : SAnnealing))] = [VV.ag [vi z0, vi z1, VV.tr (List.flatMap c_SCoolStep z2) z2.length, VV.tr (List.flatMap c_SCoolWindow z3) z3.length]] := by first | rfl | (simp only [unfr_vi, List.map_cons, List.map_nil, un_i, un_tr, List.length_cons, List.length_nil, unfr_c_SAnnealing, unfr_c_SCoolStep, unfr_c_SCoolWindow]; try rfl)
def arA1_11 (z0 : Int) (z1 : Int) (z2 : (List SCoolStep)) (z3 : (List SCoolWindow)) (z4 : Int) : List Ans := (.v (VV.ag [vi z0, vi z1, VV.tr (List.flatMap c_SCoolStep z2) z2.length, VV.tr (List.flatMap c_SCoolWindow z3) z3.length]) :: .call (vi z4) :: .n :: [])
def nblank_checkStep_1 (k : Nat) (q0_0 : Int) (q0_1 : Int) (q0_2 : (List SCoolStep)) (q0_3 : (List SCoolWindow)) : Option Int :=
  (nblank_CheckAnnealing k (⟨q0_0, q0_1, q0_2, q0_3⟩ : SAnnealing)).bind fun r786 => (some r786)
theorem nblank_checkStep_1_ok (k : Nat) (q0_0 : Int) (q0_1 : Int) (q0_2 : (List SCoolStep)) (q0_3 : (List SCoolWindow)) (r : Int) (h : nblank_checkStep_1 k q0_0 q0_1 q0_2 q0_3 = some r) : VC Go.Proofs.Try.prog 89 [VV.tp [vi q0_0, vi q0_1, VV.tr (List.flatMap c_SCoolStep q0_2) q0_2.length, VV.tr (List.flatMap c_SCoolWindow q0_3) q0_3.length] 0] (vi r) := by
 unfold nblank_checkStep_1 at h
 have e785 := (show loadL Go.Proofs.Try.prog 48 0 [vi q0_0, vi q0_1, VV.tr (List.flatMap c_SCoolStep q0_2) q0_2.length, VV.tr (List.flatMap c_SCoolWindow q0_3) q0_3.length] = some (VV.ag [vi q0_0, vi q0_1, VV.tr (List.flatMap c_SCoolStep q0_2) q0_2.length, VV.tr (List.flatMap c_SCoolWindow q0_3) q0_3.length]) from (ld_all ag48 sz48 rfl))
 obtain ⟨r786, h787, h⟩ := bs h
 have e788 := (VC.args (nblank_CheckAnnealing_ok k (⟨q0_0, q0_1, q0_2, q0_3⟩ : SAnnealing) _ h787) (eqA1_5 q0_0 q0_1 q0_2 q0_3))
 injection h with h; subst h
 exact fun_ok pm pn Go.Proofs.Try.func89 (r0 := vi r786) (ans := [.reg (.n :: []), .reg (arA1_11 q0_0 q0_1 q0_2 q0_3 r786)]) (fr := true) (by kernel_rfl) (an (an (ti trivial) (an (an e785 (an e788 (ti trivial))) trivial)) (ti trivial)) (Wv.refl _)
def arA1_12 (z0 : ((Int × Int × (List SCoolStep) × (List SCoolWindow)) × (Bool × Int))) : List Ans := (.n :: .v (VV.fn 89 [VV.tp [vi z0.1.1, vi z0.1.2.1, VV.tr (List.flatMap c_SCoolStep z0.1.2.2.1) z0.1.2.2.1.length, VV.tr (List.flatMap c_SCoolWindow z0.1.2.2.2) z0.1.2.2.2.length] 0]) :: .n :: [])
def nblank_firstOf_c0_144 (k : Nat) (a0 : ((Int × Int × (List SCoolStep) × (List SCoolWindow)) × (Bool × Int))) : Option Int :=
  (nblank_checkStep_1 k a0.1.1 a0.1.2.1 a0.1.2.2.1 a0.1.2.2.2).bind fun r801 => (if r801 = 0 then ((nblank_need_1 k a0.2.1 a0.2.2).bind fun r807 => (if r807 = 0 then (some 0) else (some r807))) else (some r801))
theorem nblank_firstOf_c0_144_ok (k : Nat) (a0 : ((Int × Int × (List SCoolStep) × (List SCoolWindow)) × (Bool × Int))) (r : Int) (h : nblank_firstOf_c0_144 k a0 = some r) : VC Go.Proofs.Try.prog 53 [VV.tr ([VV.fn 89 [VV.tp [vi a0.1.1, vi a0.1.2.1, VV.tr (List.flatMap c_SCoolStep a0.1.2.2.1) a0.1.2.2.1.length, VV.tr (List.flatMap c_SCoolWindow a0.1.2.2.2) a0.1.2.2.2.length] 0], VV.fn 85 [VV.tp [vb a0.2.1] 0, VV.tp [vi a0.2.2] 0]]) 2] (vi r) := by
 unfold nblank_firstOf_c0_144 at h
 have e799 := (show (0 : Int) ≤ 0 ∧ (0 : Int) < ((2 : Nat) : Int) from ⟨by decide, by decide⟩)
 have e800 := (show loadL Go.Proofs.Try.prog 92 ((0 : Int).toNat * 1) ([VV.fn 89 [VV.tp [vi a0.1.1, vi a0.1.2.1, VV.tr (List.flatMap c_SCoolStep a0.1.2.2.1) a0.1.2.2.1.length, VV.tr (List.flatMap c_SCoolWindow a0.1.2.2.2) a0.1.2.2.2.length] 0], VV.fn 85 [VV.tp [vb a0.2.1] 0, VV.tp [vi a0.2.2] 0]]) = some (VV.fn 89 [VV.tp [vi a0.1.1, vi a0.1.2.1, VV.tr (List.flatMap c_SCoolStep a0.1.2.2.1) a0.1.2.2.1.length, VV.tr (List.flatMap c_SCoolWindow a0.1.2.2.2) a0.1.2.2.2.length] 0]) from (ld_one ag92 rfl))
 obtain ⟨r801, h802, h⟩ := bs h
 have e803 := (nblank_checkStep_1_ok k a0.1.1 a0.1.2.1 a0.1.2.2.1 a0.1.2.2.2 _ h802)
 rcases ifs h with ⟨h804, h⟩ | ⟨h804, h⟩
 ·have e805 := (show (0 : Int) ≤ 1 ∧ (1 : Int) < ((2 : Nat) : Int) from ⟨by decide, by decide⟩)
  have e806 := (show loadL Go.Proofs.Try.prog 92 ((1 : Int).toNat * 1) ([VV.fn 89 [VV.tp [vi a0.1.1, vi a0.1.2.1, VV.tr (List.flatMap c_SCoolStep a0.1.2.2.1) a0.1.2.2.1.length, VV.tr (List.flatMap c_SCoolWindow a0.1.2.2.2) a0.1.2.2.2.length] 0], VV.fn 85 [VV.tp [vb a0.2.1] 0, VV.tp [vi a0.2.2] 0]]) = some (VV.fn 85 [VV.tp [vb a0.2.1] 0, VV.tp [vi a0.2.2] 0]) from (ld_one ag92 rfl))
  obtain ⟨r807, h808, h⟩ := bs h
  have e809 := (nblank_need_1_ok k a0.2.1 a0.2.2 _ h808)
  rcases ifs h with ⟨h810, h⟩ | ⟨h810, h⟩
  ·injection h with h; subst h
   exact fun_ok pm pn Go.Proofs.Try.func53 (r0 := vi 0) (ans := [.reg (.n :: []), .reg (nN 3 []), .unr 4, .reg (.n :: []), .br true, .reg (arA1_12 a0), .reg (.n :: .call (vi r801) :: .n :: []), .reg (.n :: .n :: []), .br false, .reg (.n :: .n :: []), .reg (.n :: []), .br true, .reg (.n :: .v (VV.fn 85 [VV.tp [vb a0.2.1] 0, VV.tp [vi a0.2.2] 0]) :: .n :: []), .reg (.n :: .call (vi r807) :: .n :: []), .reg (.n :: .n :: []), .br false, .reg (.n :: .n :: []), .reg (.n :: []), .br false, .reg (.n :: [])]) (fr := true) (by kernel_rfl) (an (an (ti trivial) (an (an (ti (ti (ti trivial))) (an (an (ti trivial) (an (an (show (decide ((0 : Int) < 2)) = true from (decide_eq_true (by decide))) trivial) (an (an (an e799 (an e800 (ti trivial))) (an (ti (an e803 (ti trivial))) (an (ti (ti trivial)) (an (not_f (decide_eq_true h804)) trivial)))) (ti (ti trivial))))) (an (an (ti trivial) (an (an (show (decide ((1 : Int) < 2)) = true from (decide_eq_true (by decide))) trivial) (an (an (an e805 (an e806 (ti trivial))) (an (ti (an e809 (ti trivial))) (an (ti (ti trivial)) (an (not_f (decide_eq_true h810)) trivial)))) (ti (ti trivial))))) (an (ti trivial) (an (show (decide ((2 : Int) < 2)) = false from (decide_eq_false (by decide))) trivial))))) (an (ti trivial) trivial))) (ti trivial)) (Wv.refl _)
  ·injection h with h; subst h
   exact fun_ok pm pn Go.Proofs.Try.func53 (r0 := vi r807) (ans := [.reg (.n :: []), .reg (nN 3 []), .unr 3, .reg (.n :: []), .br true, .reg (arA1_12 a0), .reg (.n :: .call (vi r801) :: .n :: []), .reg (.n :: .n :: []), .br false, .reg (.n :: .n :: []), .reg (.n :: []), .br true, .reg (.n :: .v (VV.fn 85 [VV.tp [vb a0.2.1] 0, VV.tp [vi a0.2.2] 0]) :: .n :: []), .reg (.n :: .call (vi r807) :: .n :: []), .reg (.n :: .n :: []), .br true, .reg (.n :: .n :: [])]) (fr := true) (by kernel_rfl) (an (an (ti trivial) (an (ti (ti (ti trivial))) (an (an (ti trivial) (an (an (show (decide ((0 : Int) < 2)) = true from (decide_eq_true (by decide))) trivial) (an (an (an e799 (an e800 (ti trivial))) (an (ti (an e803 (ti trivial))) (an (ti (ti trivial)) (an (not_f (decide_eq_true h804)) trivial)))) (ti (ti trivial))))) (an (ti trivial) (an (an (show (decide ((1 : Int) < 2)) = true from (decide_eq_true (by decide))) trivial) (an (an e805 (an e806 (ti trivial))) (an (ti (an e809 (ti trivial))) (an (ti (ti trivial)) (an (not_t (decide_eq_false h810)) (an (ti (ti trivial)) trivial)))))))))) (ti trivial)) (Wv.refl _)
 ·injection h with h; subst h
  exact fun_ok pm pn Go.Proofs.Try.func53 (r0 := vi r801) (ans := [.reg (.n :: []), .reg (nN 3 []), .unr 2, .reg (.n :: []), .br true, .reg (arA1_12 a0), .reg (.n :: .call (vi r801) :: .n :: []), .reg (.n :: .n :: []), .br true, .reg (.n :: .n :: [])]) (fr := true) (by kernel_rfl) (an (an (ti trivial) (an (ti (ti (ti trivial))) (an (ti trivial) (an (an (show (decide ((0 : Int) < 2)) = true from (decide_eq_true (by decide))) trivial) (an (an e799 (an e800 (ti trivial))) (an (ti (an e803 (ti trivial))) (an (ti (ti trivial)) (an (not_t (decide_eq_false h804)) (an (ti (ti trivial)) trivial))))))))) (ti trivial)) (Wv.refl _)
theorem eqA1_6 (z0 : SAnnealing) (z1 : (Bool × Int)) : [VV.tr ([VV.fn 89 [VV.tp [vi ((((z0.Thick, z0.Factor, z0.Steps, z0.Windows), z1).1).1), vi ((((z0.Thick, z0.Factor, z0.Steps, z0.Windows), z1).1).2.1), VV.tr (List.flatMap c_SCoolStep ((((z0.Thick, z0.Factor, z0.Steps, z0.Windows), z1).1).2.2.1)) (((((z0.Thick, z0.Factor, z0.Steps, z0.Windows), z1).1).2.2.1).length), VV.tr (List.flatMap c_SCoolWindow ((((z0.Thick, z0.Factor, z0.Steps, z0.Windows), z1).1).2.2.2)) (((((z0.Thick, z0.Factor, z0.Steps, z0.Windows), z1).1).2.2.2).length)] 0], VV.fn 85 [VV.tp [vb ((((z0.Thick, z0.Factor, z0.Steps, z0.Windows), z1).2).1)] 0, VV.tp [vi ((((z0.Thick, z0.Factor, z0.Steps, z0.Windows), z1).2).2)] 0]]) 2] = [VV.tr (List.drop 0 (List.map unfr [VV.fn 89 [VV.tp [vi z0.Thick, vi z0.Factor, VV.tr (List.flatMap c_SCoolStep z0.Steps) z0.Steps.length, VV.tr (List.flatMap c_SCoolWindow z0.Windows) z0.Windows.length] 0], VV.fn 85 [VV.tp [vb z1.1] 0, VV.tp [vi z1.2] 0]])) 2] := by first | rfl | (simp only [drop0, unfr_vi, unfr_vb, List.map_cons, List.map_nil, un_i, un_b, un_tr, List.length_map, List.length_cons, List.length_nil, unfr_c_SCoolStep, unfr_c_SCoolWindow]; try rfl)
def arA1_13 (z0 : SAnnealing) (z1 : Bool) (z2 : (Bool × Int)) (z3 : Int) : List Ans := (nN 3 (.v (VV.tr (List.flatMap c_SCoolStep z0.Steps) z0.Steps.length) :: .n :: .n :: .call (vb z1) :: .call (VV.fn 85 [VV.tp [vb z2.1] 0, VV.tp [vi z2.2] 0]) :: .n :: .call (vi z3) :: .n :: []))
def nblank_checkStep (k : Nat) (a0 : SAnnealing) (a1 : Int) : Option Int :=
  (nblank_isWithin k a1 0 (w64 ((a0.Steps.length : Int) - 1))).bind fun r816 => ((nblank_need k r816 6).bind fun r819 => ((nblank_firstOf_c0_144 k ((a0.Thick, a0.Factor, a0.Steps, a0.Windows), r819)).bind fun r821 => (some r821)))
theorem nblank_checkStep_ok (k : Nat) (a0 : SAnnealing) (a1 : Int) (r : Int) (h : nblank_checkStep k a0 a1 = some r) : VC Go.Proofs.Try.prog 67 [VV.ag (c_SAnnealing a0), vi a1] (vi r) := by
 unfold nblank_checkStep at h
 have e815 := (show loadL Go.Proofs.Try.prog 45 2 [vi a0.Thick, vi a0.Factor, VV.tr (List.flatMap c_SCoolStep a0.Steps) a0.Steps.length, VV.tr (List.flatMap c_SCoolWindow a0.Windows) a0.Windows.length] = some (VV.tr (List.flatMap c_SCoolStep a0.Steps) a0.Steps.length) from (ld_one ag45 rfl))
 obtain ⟨r816, h817, h⟩ := bs h
 have e818 := (nblank_isWithin_ok k a1 0 (w64 ((a0.Steps.length : Int) - 1)) _ h817)
 obtain ⟨r819, h820, h⟩ := bs h
 obtain ⟨r821, h822, h⟩ := bs h
 have e823 := (VC.args (nblank_firstOf_c0_144_ok k ((a0.Thick, a0.Factor, a0.Steps, a0.Windows), r819) _ h822) (eqA1_6 a0 r819))
 have e824 := (ti (ti (ti (an e815 (ti (ti (an e818 (an (nblank_need_ok k r816 6 _ h820) (ti (an e823 (ti trivial)))))))))))
 injection h with h; subst h
 exact fun_ok pm pn Go.Proofs.Try.func67 (r0 := vi r821) (ans := [.reg (.n :: .n :: []), .frz 0, .reg (arA1_13 a0 r816 r819 r821)]) (fr := true) (by kernel_rfl) (an (an (ti (ti trivial)) (an e824 trivial)) (ti trivial)) (Wv.refl _)
def nblank_minuteStress (k : Nat) (a0 : SAnnealing) (a1 : Int) : Option Int :=
  if 0 ≤ a1 ∧ a1 < (a0.Steps.length : Int) then (some (w64 ((w64 ((w64 (a0.Factor * a0.Thick)) * a0.Thick)) * ((a0.Steps.getD a1.toNat default).Drop)))) else none
theorem nblank_minuteStress_ok (k : Nat) (a0 : SAnnealing) (a1 : Int) (r : Int) (h : nblank_minuteStress k a0 a1 = some r) : VC Go.Proofs.Try.prog 69 [VV.ag (c_SAnnealing a0), vi a1] (vi r) := by
 unfold nblank_minuteStress at h
 obtain ⟨h828, h⟩ := ifn h
 have e829 := (show loadL Go.Proofs.Try.prog 3 (a1.toNat * 3 + 0) (List.flatMap c_SCoolStep a0.Steps) = some (vi ((a0.Steps.getD a1.toNat default).Drop)) from (ld_flat ag3 c_SCoolStep 3 0 len_c_SCoolStep (by omega) a0.Steps default h828 (by omega)).trans rfl)
 have e830 := (ti (ti (ti (ti (ti (ti (ti (ti (ti (ti (ti (an h828 (ti (an e829 (ti (ti trivial))))))))))))))))
 injection h with h; subst h
 exact fun_ok pm pn Go.Proofs.Try.func69 (r0 := vi (w64 ((w64 ((w64 (a0.Factor * a0.Thick)) * a0.Thick)) * ((a0.Steps.getD a1.toNat default).Drop)))) (ans := [.reg (.n :: .n :: []), .reg (nN 13 (.v (vi ((a0.Steps.getD a1.toNat default).Drop)) :: .n :: .n :: []))]) (fr := true) (by kernel_rfl) (an (an (ti (ti trivial)) (an e830 trivial)) (ti trivial)) (Wv.refl _)
theorem eqA1_7 (z0 : Int) (z1 : Int) : VV.ag [vi (w64 ((w64 (z0.tdiv z1)) - 1)), vi (w64 ((w64 (z0.tdiv z1)) + 1))] = VV.ag (c_SRange (⟨w64 ((w64 (z0.tdiv z1)) - 1), w64 ((w64 (z0.tdiv z1)) + 1)⟩ : SRange)) := by first | rfl | (simp only [unfr_vi, List.map_cons, List.map_nil, un_i, unfr_c_SRange]; try rfl)
theorem eqA1_8 (z0 : Int) (z1 : Int) : VV.ag [vi (w64 ((w64 (z0.tdiv z1)) - 1)), vi (w64 (z0.tdiv z1))] = VV.ag (c_SRange (⟨w64 ((w64 (z0.tdiv z1)) - 1), w64 (z0.tdiv z1)⟩ : SRange)) := by first | rfl | (simp only [unfr_vi, List.map_cons, List.map_nil, un_i, unfr_c_SRange]; try rfl)
theorem eqA1_9 (z0 : Int) (z1 : Int) : VV.ag [vi (w64 (z0.tdiv z1)), vi (w64 ((w64 (z0.tdiv z1)) + 1))] = VV.ag (c_SRange (⟨w64 (z0.tdiv z1), w64 ((w64 (z0.tdiv z1)) + 1)⟩ : SRange)) := by first | rfl | (simp only [unfr_vi, List.map_cons, List.map_nil, un_i, unfr_c_SRange]; try rfl)
theorem eqA1_10 (z0 : Int) (z1 : Int) : VV.ag [vi (w64 (z0.tdiv z1)), vi (w64 (z0.tdiv z1))] = VV.ag (c_SRange (⟨w64 (z0.tdiv z1), w64 (z0.tdiv z1)⟩ : SRange)) := by first | rfl | (simp only [unfr_vi, List.map_cons, List.map_nil, un_i, unfr_c_SRange]; try rfl)
def nblank_enclose (k : Nat) (a0 : Int) (a1 : Int) : Option SRange :=
  if a1 ≠ 0 then (if (a0.tmod a1) < 0 then (if 0 < (a0.tmod a1) then (some (⟨w64 ((w64 (a0.tdiv a1)) - 1), w64 ((w64 (a0.tdiv a1)) + 1)⟩ : SRange)) else (some (⟨w64 ((w64 (a0.tdiv a1)) - 1), w64 (a0.tdiv a1)⟩ : SRange))) else (if 0 < (a0.tmod a1) then (some (⟨w64 (a0.tdiv a1), w64 ((w64 (a0.tdiv a1)) + 1)⟩ : SRange)) else (some (⟨w64 (a0.tdiv a1), w64 (a0.tdiv a1)⟩ : SRange)))) else none
theorem nblank_enclose_ok (k : Nat) (a0 : Int) (a1 : Int) (r : SRange) (h : nblank_enclose k a0 a1 = some r) : VC Go.Proofs.Try.prog 49 [vi a0, vi a1] (VV.ag (c_SRange r)) := by
 unfold nblank_enclose at h
 obtain ⟨h840, h⟩ := ifn h
 have e841 := (ti (ti (an h840 (ti (ti (an h840 (ti (ti (ti trivial)))))))))
 rcases ifs h with ⟨h842, h⟩ | ⟨h842, h⟩
 ·rcases ifs h with ⟨h843, h⟩ | ⟨h843, h⟩
  ·injection h with h; subst h
   exact fun_ok pm pn Go.Proofs.Try.func49 (r0 := VV.ag [vi (w64 ((w64 (a0.tdiv a1)) - 1)), vi (w64 ((w64 (a0.tdiv a1)) + 1))]) (ans := [.reg (.n :: []), .reg (nN 9 []), .reg (nN 4 []), .br true, .reg (nN 5 []), .reg (nN 4 []), .br true, .reg (nN 5 []), .reg (.n :: .n :: [])]) (fr := true) (by kernel_rfl) (an (an (ti trivial) (an e841 (an (an (ti (ti (an h840 (ti trivial)))) (an (decide_eq_true h842) (ti (ti (ti (ti (ti trivial))))))) (an (an (ti (ti (an h840 (ti trivial)))) (an (decide_eq_true h843) (ti (ti (ti (ti (ti trivial))))))) (an (ti (ti trivial)) trivial))))) (an (ti (ti (ti trivial))) trivial)) (Wv.of_eq (eqA1_7 a0 a1))
  ·injection h with h; subst h
   exact fun_ok pm pn Go.Proofs.Try.func49 (r0 := VV.ag [vi (w64 ((w64 (a0.tdiv a1)) - 1)), vi (w64 (a0.tdiv a1))]) (ans := [.reg (.n :: []), .reg (nN 9 []), .reg (nN 4 []), .br true, .reg (nN 5 []), .reg (nN 4 []), .br false, .reg (.n :: .n :: [])]) (fr := true) (by kernel_rfl) (an (an (ti trivial) (an e841 (an (an (ti (ti (an h840 (ti trivial)))) (an (decide_eq_true h842) (ti (ti (ti (ti (ti trivial))))))) (an (an (ti (ti (an h840 (ti trivial)))) (an (decide_eq_false h843) trivial)) (an (ti (ti trivial)) trivial))))) (an (ti (ti (ti trivial))) trivial)) (Wv.of_eq (eqA1_8 a0 a1))
 ·rcases ifs h with ⟨h844, h⟩ | ⟨h844, h⟩
  ·injection h with h; subst h
   exact fun_ok pm pn Go.Proofs.Try.func49 (r0 := VV.ag [vi (w64 (a0.tdiv a1)), vi (w64 ((w64 (a0.tdiv a1)) + 1))]) (ans := [.reg (.n :: []), .reg (nN 9 []), .reg (nN 4 []), .br false, .reg (nN 4 []), .br true, .reg (nN 5 []), .reg (.n :: .n :: [])]) (fr := true) (by kernel_rfl) (an (an (ti trivial) (an e841 (an (an (ti (ti (an h840 (ti trivial)))) (an (decide_eq_false h842) trivial)) (an (an (ti (ti (an h840 (ti trivial)))) (an (decide_eq_true h844) (ti (ti (ti (ti (ti trivial))))))) (an (ti (ti trivial)) trivial))))) (an (ti (ti (ti trivial))) trivial)) (Wv.of_eq (eqA1_9 a0 a1))
  ·injection h with h; subst h
   exact fun_ok pm pn Go.Proofs.Try.func49 (r0 := VV.ag [vi (w64 (a0.tdiv a1)), vi (w64 (a0.tdiv a1))]) (ans := [.reg (.n :: []), .reg (nN 9 []), .reg (nN 4 []), .br false, .reg (nN 4 []), .br false, .reg (.n :: .n :: [])]) (fr := true) (by kernel_rfl) (an (an (ti trivial) (an e841 (an (an (ti (ti (an h840 (ti trivial)))) (an (decide_eq_false h842) trivial)) (an (an (ti (ti (an h840 (ti trivial)))) (an (decide_eq_false h844) trivial)) (an (ti (ti trivial)) trivial))))) (an (ti (ti (ti trivial))) trivial)) (Wv.of_eq (eqA1_10 a0 a1))
def arA1_14 (z0 : Int) (z1 : SAnnealing) (z2 : Int) (z3 : SRange) : List Ans := (.n :: .n :: .call (vi z0) :: nN 5 (.v (vi ((z1.Steps.getD z2.toNat default).Limit)) :: .call (VV.ag (c_SRange z3)) :: nN 3 []))
def nblank_leastMinutes (k : Nat) (a0 : SAnnealing) (a1 : Int) : Option Int :=
  (nblank_minuteStress k a0 a1).bind fun r849 => (if 0 ≤ a1 ∧ a1 < (a0.Steps.length : Int) then ((nblank_enclose k r849 ((a0.Steps.getD a1.toNat default).Limit)).bind fun r853 => (some (maxI r853.Hi 1))) else none)
theorem nblank_leastMinutes_ok (k : Nat) (a0 : SAnnealing) (a1 : Int) (r : Int) (h : nblank_leastMinutes k a0 a1 = some r) : VC Go.Proofs.Try.prog 70 [VV.ag (c_SAnnealing a0), vi a1] (vi r) := by
 unfold nblank_leastMinutes at h
 obtain ⟨r849, h850, h⟩ := bs h
 obtain ⟨h851, h⟩ := ifn h
 have e852 := (show loadL Go.Proofs.Try.prog 3 (a1.toNat * 3 + 1) (List.flatMap c_SCoolStep a0.Steps) = some (vi ((a0.Steps.getD a1.toNat default).Limit)) from (ld_flat ag3 c_SCoolStep 3 1 len_c_SCoolStep (by omega) a0.Steps default h851 (by omega)).trans rfl)
 obtain ⟨r853, h854, h⟩ := bs h
 have e855 := (nblank_enclose_ok k r849 ((a0.Steps.getD a1.toNat default).Limit) _ h854)
 have e856 := (ti (ti (an (nblank_minuteStress_ok k a0 a1 _ h850) (ti (ti (ti (an h851 (ti (an e852 (an e855 (ti (ti (ti trivial)))))))))))))
 injection h with h; subst h
 exact fun_ok pm pn Go.Proofs.Try.func70 (r0 := vi (maxI r853.Hi 1)) (ans := [.reg (.n :: .n :: []), .reg (arA1_14 r849 a0 a1 r853)]) (fr := true) (by kernel_rfl) (an (an (ti (ti trivial)) (an e856 trivial)) (ti trivial)) (Wv.refl _)
def nspeculumbase_Floor (k : Nat) (a0 : Int) (a1 : Int) : Option Int :=
  if a1 ≠ 0 then (if (a0.tmod a1) < 0 then (some (w64 ((w64 (a0.tdiv a1)) - 1))) else (some (w64 (a0.tdiv a1)))) else none
theorem nspeculumbase_Floor_ok (k : Nat) (a0 : Int) (a1 : Int) (r : Int) (h : nspeculumbase_Floor k a0 a1 = some r) : VC Go.Proofs.Try.prog 76 [vi a0, vi a1] (vi r) := by
 unfold nspeculumbase_Floor at h
 obtain ⟨h859, h⟩ := ifn h
 rcases ifs h with ⟨h860, h⟩ | ⟨h860, h⟩
 ·injection h with h; subst h
  exact fun_ok pm pn Go.Proofs.Try.func76 (r0 := vi (w64 ((w64 (a0.tdiv a1)) - 1))) (ans := [.reg (.n :: []), .reg (nN 4 []), .reg (nN 4 []), .br true, .reg (nN 3 []), .reg (.n :: .n :: [])]) (fr := true) (by kernel_rfl) (an (an (ti trivial) (an (ti (ti (an h859 (ti trivial)))) (an (an (ti (ti (an h859 (ti trivial)))) (an (decide_eq_true h860) (ti (ti (ti trivial))))) (an (ti (ti trivial)) trivial)))) (ti trivial)) (Wv.refl _)
 ·injection h with h; subst h
  exact fun_ok pm pn Go.Proofs.Try.func76 (r0 := vi (w64 (a0.tdiv a1))) (ans := [.reg (.n :: []), .reg (nN 4 []), .reg (nN 4 []), .br false, .reg (.n :: .n :: [])]) (fr := true) (by kernel_rfl) (an (an (ti trivial) (an (ti (ti (an h859 (ti trivial)))) (an (an (ti (ti (an h859 (ti trivial)))) (an (decide_eq_false h860) trivial)) (an (ti (ti trivial)) trivial)))) (ti trivial)) (Wv.refl _)
def nspeculumbase_Ceil (k : Nat) (a0 : Int) (a1 : Int) : Option Int :=
  (nspeculumbase_Floor k (w64 (0 - a0)) a1).bind fun r866 => (some (w64 (0 - r866)))
theorem nspeculumbase_Ceil_ok (k : Nat) (a0 : Int) (a1 : Int) (r : Int) (h : nspeculumbase_Ceil k a0 a1 = some r) : VC Go.Proofs.Try.prog 75 [vi a0, vi a1] (vi r) := by
 unfold nspeculumbase_Ceil at h
 obtain ⟨r866, h867, h⟩ := bs h
 have e868 := (nspeculumbase_Floor_ok k (w64 (0 - a0)) a1 _ h867)
 injection h with h; subst h
 exact fun_ok pm pn Go.Proofs.Try.func75 (r0 := vi (w64 (0 - r866))) (ans := [.reg (.n :: []), .reg (nN 3 (.call (vi r866) :: .n :: .n :: []))]) (fr := true) (by kernel_rfl) (an (an (ti trivial) (an (ti (ti (ti (an e868 (ti (ti trivial)))))) trivial)) (ti trivial)) (Wv.refl _)
theorem eqA1_11 (z0 : Int) (z1 : Int) : VV.ag [vi z0, vi z1] = VV.ag (c_SRange (⟨z0, z1⟩ : SRange)) := by first | rfl | (simp only [unfr_vi, List.map_cons, List.map_nil, un_i, unfr_c_SRange]; try rfl)
def nspeculumref03_Rounded (k : Nat) (a0 : Int) (a1 : Int) : Option SRange :=
  (nspeculumbase_Floor k a0 a1).bind fun r872 => ((nspeculumbase_Ceil k a0 a1).bind fun r874 => (some (⟨r872, r874⟩ : SRange)))
theorem nspeculumref03_Rounded_ok (k : Nat) (a0 : Int) (a1 : Int) (r : SRange) (h : nspeculumref03_Rounded k a0 a1 = some r) : VC Go.Proofs.Try.prog 32 [vi a0, vi a1] (VV.ag (c_SRange r)) := by
 unfold nspeculumref03_Rounded at h
 obtain ⟨r872, h873, h⟩ := bs h
 obtain ⟨r874, h875, h⟩ := bs h
 have e876 := (ti (ti (an (nspeculumbase_Floor_ok k a0 a1 _ h873) (ti (ti (an (nspeculumbase_Ceil_ok k a0 a1 _ h875) (ti (ti trivial))))))))
 injection h with h; subst h
 exact fun_ok pm pn Go.Proofs.Try.func32 (r0 := VV.ag [vi r872, vi r874]) (ans := [.reg (.n :: []), .reg (.n :: .n :: .call (vi r872) :: .n :: .n :: .call (vi r874) :: .n :: .n :: [])]) (fr := true) (by kernel_rfl) (an (an (ti trivial) (an e876 trivial)) (an (ti (ti (ti trivial))) trivial)) (Wv.of_eq (eqA1_11 r872 r874))
def nspeculumref03_Work (k : Nat) (a0 : SAnnealing) (a1 : Int) : Option Int :=
  if 0 ≤ a1 ∧ a1 < (a0.Steps.length : Int) then (some (w64 ((w64 ((w64 (a0.Factor * a0.Thick)) * a0.Thick)) * ((a0.Steps.getD a1.toNat default).Drop)))) else none
theorem nspeculumref03_Work_ok (k : Nat) (a0 : SAnnealing) (a1 : Int) (r : Int) (h : nspeculumref03_Work k a0 a1 = some r) : VC Go.Proofs.Try.prog 33 [VV.ag (c_SAnnealing a0), vi a1] (vi r) := by
 unfold nspeculumref03_Work at h
 obtain ⟨h880, h⟩ := ifn h
 have e881 := (show loadL Go.Proofs.Try.prog 3 (a1.toNat * 3 + 0) (List.flatMap c_SCoolStep a0.Steps) = some (vi ((a0.Steps.getD a1.toNat default).Drop)) from (ld_flat ag3 c_SCoolStep 3 0 len_c_SCoolStep (by omega) a0.Steps default h880 (by omega)).trans rfl)
 have e882 := (ti (ti (ti (ti (ti (ti (ti (ti (ti (ti (ti (an h880 (ti (an e881 (ti (ti trivial))))))))))))))))
 injection h with h; subst h
 exact fun_ok pm pn Go.Proofs.Try.func33 (r0 := vi (w64 ((w64 ((w64 (a0.Factor * a0.Thick)) * a0.Thick)) * ((a0.Steps.getD a1.toNat default).Drop)))) (ans := [.reg (.n :: .n :: []), .reg (nN 13 (.v (vi ((a0.Steps.getD a1.toNat default).Drop)) :: .n :: .n :: []))]) (fr := true) (by kernel_rfl) (an (an (ti (ti trivial)) (an e882 trivial)) (ti trivial)) (Wv.refl _)
def arA1_15 (z0 : Int) (z1 : SAnnealing) (z2 : Int) (z3 : Int) : List Ans := (.n :: .n :: .call (vi z0) :: nN 5 (.v (vi ((z1.Steps.getD z2.toNat default).Limit)) :: .call (vi z3) :: .n :: .n :: []))
def nspeculumref03_LeastMinutes (k : Nat) (a0 : SAnnealing) (a1 : Int) : Option Int :=
  (nspeculumref03_Work k a0 a1).bind fun r891 => (if 0 ≤ a1 ∧ a1 < (a0.Steps.length : Int) then ((nspeculumbase_Ceil k r891 ((a0.Steps.getD a1.toNat default).Limit)).bind fun r895 => (some (maxI 1 r895))) else none)
theorem nspeculumref03_LeastMinutes_ok (k : Nat) (a0 : SAnnealing) (a1 : Int) (r : Int) (h : nspeculumref03_LeastMinutes k a0 a1 = some r) : VC Go.Proofs.Try.prog 31 [VV.ag (c_SAnnealing a0), vi a1] (vi r) := by
 unfold nspeculumref03_LeastMinutes at h
 obtain ⟨r891, h892, h⟩ := bs h
 obtain ⟨h893, h⟩ := ifn h
 have e894 := (show loadL Go.Proofs.Try.prog 3 (a1.toNat * 3 + 1) (List.flatMap c_SCoolStep a0.Steps) = some (vi ((a0.Steps.getD a1.toNat default).Limit)) from (ld_flat ag3 c_SCoolStep 3 1 len_c_SCoolStep (by omega) a0.Steps default h893 (by omega)).trans rfl)
 obtain ⟨r895, h896, h⟩ := bs h
 have e897 := (nspeculumbase_Ceil_ok k r891 ((a0.Steps.getD a1.toNat default).Limit) _ h896)
 have e898 := (ti (ti (an (nspeculumref03_Work_ok k a0 a1 _ h892) (ti (ti (ti (an h893 (ti (an e894 (an e897 (ti (ti trivial))))))))))))
 injection h with h; subst h
 exact fun_ok pm pn Go.Proofs.Try.func31 (r0 := vi (maxI 1 r895)) (ans := [.reg (.n :: .n :: []), .reg (arA1_15 r891 a0 a1 r895)]) (fr := true) (by kernel_rfl) (an (an (ti (ti trivial)) (an e898 trivial)) (ti trivial)) (Wv.refl _)
end Go.Proofs.Ytclabanknlmneaa.Vg

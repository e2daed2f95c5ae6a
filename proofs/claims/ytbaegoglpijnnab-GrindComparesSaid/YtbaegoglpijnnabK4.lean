import Derived.Test.YtbaegoglpijnnabK0
namespace Go.Proofs.Ytbaegoglpijnnab.Vg
set_option maxRecDepth 100000
set_option maxHeartbeats 4000000
set_option linter.unusedVariables false
set_option linter.unusedSimpArgs false
open Go Go.Proofs.Ytbaegoglpijnnab.Ev Go.Proofs.Ytbaegoglpijnnab.Vv
structure SStroke where
 Name : ByteArray
 Wear : (List Int)
 deriving Inhabited
def c_SStroke (x : SStroke) : List VV := [vs x.Name, VV.tr (List.map vi x.Wear) x.Wear.length]
theorem len_c_SStroke (x : SStroke) : (c_SStroke x).length = 2 := rfl
def g_SStroke (x : SStroke) : List VV := [vs x.Name, VV.fr (List.map vi x.Wear) x.Wear.length]
theorem len_g_SStroke (x : SStroke) : (g_SStroke x).length = 2 := rfl
theorem still_g_SStroke (xs : List SStroke) : (xs.flatMap g_SStroke).all VV.still = true := all_flat (fun _ => rfl) xs
theorem unfr_c_SStroke (xs : List SStroke) : (xs.flatMap c_SStroke).map unfr = xs.flatMap c_SStroke := unfr_flat2 (fun _ => rfl) xs
theorem unfr_g_SStroke (xs : List SStroke) : (xs.flatMap g_SStroke).map unfr = xs.flatMap c_SStroke := unfr_flat2 (fun _ => rfl) xs
theorem new0_g_SStroke (xs : List SStroke) : (xs.flatMap g_SStroke).all new0 = true := all_flat (fun _ => rfl) xs
theorem ag3 : isAggT Go.Proofs.Try.prog 3 = some false := by kernel_rfl
theorem ag4 : isAggT Go.Proofs.Try.prog 4 = some false := by kernel_rfl
theorem ag9 : isAggT Go.Proofs.Try.prog 9 = some false := by kernel_rfl
theorem ag22 : isAggT Go.Proofs.Try.prog 22 = some false := by kernel_rfl
theorem ag23 : isAggT Go.Proofs.Try.prog 23 = some false := by kernel_rfl
theorem ag35 : isAggT Go.Proofs.Try.prog 35 = some false := by kernel_rfl
theorem ag98 : isAggT Go.Proofs.Try.prog 98 = some false := by kernel_rfl
def arK4_0 (z0 : (List SStroke)) (z1 : Int) : List Ans := (nN 4 (.v (vs ((z0.getD z1.toNat default).Name)) :: nN 3 (nS 16 (.b true :: .n :: nS 7 (.b true :: [])))))
def arK4_1 (z0 : (List SStroke)) (z1 : Int) : List Ans := (nN 4 (.v (vs ((z0.getD z1.toNat default).Name)) :: nN 7 (.v (VV.tr (List.map vi ((z0.getD z1.toNat default).Wear)) (((z0.getD z1.toNat default).Wear).length)) :: nN 7 (.v (VV.tr (List.map vi ((z0.getD z1.toNat default).Wear)) (((z0.getD z1.toNat default).Wear).length)) :: .n :: .n :: .b true :: .b false :: .n :: nS 7 (.b true :: [])))))
def arK4_2 (z0 : (List SStroke)) (z1 : Int) : List Ans := (nN 4 (.v (vs ((z0.getD z1.toNat default).Name)) :: nN 7 (.v (VV.tr (List.map vi ((z0.getD z1.toNat default).Wear)) (((z0.getD z1.toNat default).Wear).length)) :: nN 7 (.v (VV.tr (List.map vi ((z0.getD z1.toNat default).Wear)) (((z0.getD z1.toNat default).Wear).length)) :: .n :: .n :: .b true :: .b false :: nN 5 (.v (VV.tr (List.map vi ((z0.getD z1.toNat default).Wear)) (((z0.getD z1.toNat default).Wear).length)) :: .n :: .n :: .b false :: [])))))
def arK4_3 (z0 : (List SStroke)) (z1 : Int) : List Ans := (nN 4 (.v (vs ((z0.getD z1.toNat default).Name)) :: nN 7 (.v (VV.tr (List.map vi ((z0.getD z1.toNat default).Wear)) (((z0.getD z1.toNat default).Wear).length)) :: nN 3 (nS 7 (.b false :: .b false :: nN 5 (.v (VV.tr (List.map vi ((z0.getD z1.toNat default).Wear)) (((z0.getD z1.toNat default).Wear).length)) :: .n :: .n :: .b false :: []))))))
def nspeculumlaw04_Light_l0_0_h (a0 : (List SStroke)) (x3 : Int) : VS := ⟨mkA [(0, VV.tr (List.flatMap c_SStroke a0) a0.length), (3, vi x3)], [], .nil⟩
def nspeculumlaw04_Light_l0_0_e0 (a0 : (List SStroke)) (r : Unit) : VS := ⟨mkA [(2, vb false)], [], .nil⟩
def nspeculumlaw04_Light_l0_0_e1 (a0 : (List SStroke)) (r : Unit) : VS := ⟨mkA [], [], .nil⟩
def nspeculumlaw04_Light_l0_0 (k : Nat) (a0 : (List SStroke)) : Nat -> Int -> Option (Sum Unit Unit)
 | 0, _ => none
 | fuel + 1, x3 => if x3 < (a0.length : Int) then (if 0 <= x3 /\ x3 < (a0.length : Int) then (if 30 < (((a0.getD x3.toNat default).Name).size : Int) then (some (.inl ())) else (if 10 < (((a0.getD x3.toNat default).Wear).length : Int) then (if (((a0.getD x3.toNat default).Wear).length : Int) <= 40 then (some (.inl ())) else (if 43 < (((a0.getD x3.toNat default).Wear).length : Int) then (some (.inl ())) else (nspeculumlaw04_Light_l0_0 k a0 fuel (w64 (x3 + 1))))) else (if 43 < (((a0.getD x3.toNat default).Wear).length : Int) then (some (.inl ())) else (nspeculumlaw04_Light_l0_0 k a0 fuel (w64 (x3 + 1)))))) else none) else (some (.inr ()))
theorem nspeculumlaw04_Light_l0_0_ok (k : Nat) (a0 : (List SStroke)) : ∀ (fuel : Nat) (x3 : Int) (r : Sum Unit Unit), nspeculumlaw04_Light_l0_0 k a0 fuel x3 = some r -> (match r with | .inl r => VLoop none Go.Proofs.Try.prog (szF Go.Proofs.Try.f10) (bodyOf Go.Proofs.Try.f10 0) (nspeculumlaw04_Light_l0_0_h a0 x3) .ret (nspeculumlaw04_Light_l0_0_e0 a0 r) | .inr r => VLoop none Go.Proofs.Try.prog (szF Go.Proofs.Try.f10) (bodyOf Go.Proofs.Try.f10 0) (nspeculumlaw04_Light_l0_0_h a0 x3) (.exit 0) (nspeculumlaw04_Light_l0_0_e1 a0 r)) := by
 intro fuel
 induction fuel with
 | zero => intro x3 r h; rw [nspeculumlaw04_Light_l0_0.eq_1] at h; cases h
 | succ fuel ih =>
  intro x3 r h
  rw [nspeculumlaw04_Light_l0_0.eq_2] at h
  rcases ifs h with ⟨h579, h⟩ | ⟨h579, h⟩
  ·obtain ⟨h580, h⟩ := ifn h
   have e581 := (show loadL Go.Proofs.Try.prog 9 (x3.toNat * 2 + 0) (List.flatMap c_SStroke a0) = some (vs ((a0.getD x3.toNat default).Name)) from (ld_flat ag9 c_SStroke 2 0 len_c_SStroke (by omega) a0 default h580 (by omega)).trans rfl)
   rcases ifs h with ⟨h582, h⟩ | ⟨h582, h⟩
   ·have e583 := (ti (ti (an h580 (ti (an e581 (ti (ti (ti (an (decide_eq_true h582) (an (decide_eq_true h582) (an (decide_eq_true h582) (an (decide_eq_true h582) (an (decide_eq_true h582) (an (decide_eq_true h582) (an (decide_eq_true h582) (an (decide_eq_true h582) (ti (ti (ti (ti (ti (ti (ti (an (decide_eq_true h582) (an (decide_eq_true h582) (ti (an rt (an rt (an rt (an rt (an rt (an rt (an rt (an rt trivial))))))))))))))))))))))))))))))))))
    injection h with h; subst h
    exact round_stop (c := ⟨[(2, none)], [], []⟩) (s1 := (nspeculumlaw04_Light_l0_0_e0 a0 ())) pm pn (ans := [.reg (nN 4 []), .br true, .reg (arK4_0 a0 x3), .br true, .reg (.n :: [])]) (by kernel_rfl) (by intro e; cases e) (an (an (an (ti (ti (ti (ti trivial)))) (an (decide_eq_true h579) trivial)) (an e583 (an rt (an (ti trivial) trivial)))) (ti trivial))
   ·have e584 := (an (decide_eq_false h582) (show loadL Go.Proofs.Try.prog 23 (x3.toNat * 2 + 1) (List.flatMap c_SStroke a0) = some (VV.tr (List.map vi ((a0.getD x3.toNat default).Wear)) (((a0.getD x3.toNat default).Wear).length)) from (ld_flat ag23 c_SStroke 2 1 len_c_SStroke (by omega) a0 default h580 (by omega)).trans rfl))
    rcases ifs h with ⟨h585, h⟩ | ⟨h585, h⟩
    ·have e586 := (an (decide_eq_true h585) (show loadL Go.Proofs.Try.prog 23 (x3.toNat * 2 + 1) (List.flatMap c_SStroke a0) = some (VV.tr (List.map vi ((a0.getD x3.toNat default).Wear)) (((a0.getD x3.toNat default).Wear).length)) from (ld_flat ag23 c_SStroke 2 1 len_c_SStroke (by omega) a0 default h580 (by omega)).trans rfl))
     have e587 := (an (decide_eq_false h582) (decide_eq_true h585))
     rcases ifs h with ⟨h588, h⟩ | ⟨h588, h⟩
     ·have e589 := (ti (ti (an h580 (ti (an e581 (ti (ti (ti (an (an (decide_eq_false h582) trivial) (an (an (decide_eq_false h582) trivial) (an (an (decide_eq_false h582) h580) (an (an (decide_eq_false h582) trivial) (an e584 (an (an (decide_eq_false h582) trivial) (an (an (decide_eq_false h582) trivial) (an (an (decide_eq_false h582) trivial) (an (an (decide_eq_true h585) trivial) (an (an (decide_eq_true h585) trivial) (an (an (decide_eq_true h585) h580) (an (an (decide_eq_true h585) trivial) (an e586 (an (an (decide_eq_true h585) trivial) (an (an (decide_eq_true h585) trivial) (an e587 (an (decide_eq_false h582) (ti (an (decide_eq_true h588) (an (decide_eq_true h588) (an (decide_eq_true h588) (an (decide_eq_true h588) (an (decide_eq_true h588) (an (decide_eq_true h588) (an (decide_eq_true h588) (an (decide_eq_true h588) trivial))))))))))))))))))))))))))))))))))
      injection h with h; subst h
      exact round_stop (c := ⟨[(2, none)], [], []⟩) (s1 := (nspeculumlaw04_Light_l0_0_e0 a0 ())) pm pn (ans := [.reg (nN 4 []), .br true, .reg (arK4_1 a0 x3), .br true, .reg (.n :: [])]) (by kernel_rfl) (by intro e; cases e) (an (an (an (ti (ti (ti (ti trivial)))) (an (decide_eq_true h579) trivial)) (an e589 (an rt (an (ti trivial) trivial)))) (ti trivial))
     ·have e590 := (an (decide_eq_false h588) (show loadL Go.Proofs.Try.prog 23 (x3.toNat * 2 + 1) (List.flatMap c_SStroke a0) = some (VV.tr (List.map vi ((a0.getD x3.toNat default).Wear)) (((a0.getD x3.toNat default).Wear).length)) from (ld_flat ag23 c_SStroke 2 1 len_c_SStroke (by omega) a0 default h580 (by omega)).trans rfl))
      have e591 := (ti (ti (an h580 (ti (an e581 (ti (ti (ti (an (an (decide_eq_false h582) trivial) (an (an (decide_eq_false h582) trivial) (an (an (decide_eq_false h582) h580) (an (an (decide_eq_false h582) trivial) (an e584 (an (an (decide_eq_false h582) trivial) (an (an (decide_eq_false h582) trivial) (an (an (decide_eq_false h582) trivial) (an (an (decide_eq_true h585) trivial) (an (an (decide_eq_true h585) trivial) (an (an (decide_eq_true h585) h580) (an (an (decide_eq_true h585) trivial) (an e586 (an (an (decide_eq_true h585) trivial) (an (an (decide_eq_true h585) trivial) (an e587 (an (decide_eq_false h582) (ti (an (an (decide_eq_false h588) trivial) (an (an (decide_eq_false h588) trivial) (an (an (decide_eq_false h588) h580) (an (an (decide_eq_false h588) trivial) (an e590 (an (an (decide_eq_false h588) trivial) (an (an (decide_eq_false h588) trivial) (an (decide_eq_false h588) trivial))))))))))))))))))))))))))))))))))
      rcases ifs h with ⟨h592, h⟩ | ⟨h592, h⟩
      ·injection h with h; subst h
       exact round_stop (c := ⟨[(2, none)], [], []⟩) (s1 := (nspeculumlaw04_Light_l0_0_e0 a0 ())) pm pn (ans := [.reg (nN 4 []), .br true, .reg (arK4_2 a0 x3), .br true, .reg (.n :: [])]) (by kernel_rfl) (by intro e; cases e) (an (an (an (ti (ti (ti (ti trivial)))) (an (decide_eq_true h579) trivial)) (an e591 (an (decide_eq_true h592) (an (ti trivial) trivial)))) (ti trivial))
      ·have h2 := ih _ _ h
       obtain ⟨q, hv, hq⟩ := pkR (rd := none) (P := Go.Proofs.Try.prog) (fn := Go.Proofs.Try.f10) (k := 0) (s := (nspeculumlaw04_Light_l0_0_h a0 x3)) (ans := [.reg (nN 4 []), .br true, .reg (arK4_2 a0 x3), .br false, .reg (nN 3 [])]) (c := ⟨[(0, none), (3, none)], [], []⟩) (e := .normal) (s1 := (nspeculumlaw04_Light_l0_0_h a0 (w64 (x3 + 1)))) (an (an (an (ti (ti (ti (ti trivial)))) (an (decide_eq_true h579) trivial)) (an (an e591 (an (decide_eq_false h592) trivial)) (ti (ti (ti trivial))))) (ti trivial)) (by kernel_rfl)
       cases r with
       | inl r => exact round_next pm pn hv hq h2
       | inr r =>
        exact round_next pm pn hv hq h2
    ·have e593 := (an (decide_eq_false h582) (decide_eq_false h585))
     have e594 := (an rf (show loadL Go.Proofs.Try.prog 23 (x3.toNat * 2 + 1) (List.flatMap c_SStroke a0) = some (VV.tr (List.map vi ((a0.getD x3.toNat default).Wear)) (((a0.getD x3.toNat default).Wear).length)) from (ld_flat ag23 c_SStroke 2 1 len_c_SStroke (by omega) a0 default h580 (by omega)).trans rfl))
     have e595 := (ti (ti (an h580 (ti (an e581 (ti (ti (ti (an (an (decide_eq_false h582) trivial) (an (an (decide_eq_false h582) trivial) (an (an (decide_eq_false h582) h580) (an (an (decide_eq_false h582) trivial) (an e584 (an (an (decide_eq_false h582) trivial) (an (an (decide_eq_false h582) trivial) (an (an (decide_eq_false h582) trivial) (an (decide_eq_false h585) (an (decide_eq_false h585) (an (decide_eq_false h585) (an (decide_eq_false h585) (an (decide_eq_false h585) (an (decide_eq_false h585) (an (decide_eq_false h585) (an e593 (an (decide_eq_false h582) (ti (an (an rf trivial) (an (an rf trivial) (an (an rf h580) (an (an rf trivial) (an e594 (an (an rf trivial) (an (an rf trivial) (an rf trivial))))))))))))))))))))))))))))))))))
     rcases ifs h with ⟨h596, h⟩ | ⟨h596, h⟩
     ·injection h with h; subst h
      exact round_stop (c := ⟨[(2, none)], [], []⟩) (s1 := (nspeculumlaw04_Light_l0_0_e0 a0 ())) pm pn (ans := [.reg (nN 4 []), .br true, .reg (arK4_3 a0 x3), .br true, .reg (.n :: [])]) (by kernel_rfl) (by intro e; cases e) (an (an (an (ti (ti (ti (ti trivial)))) (an (decide_eq_true h579) trivial)) (an e595 (an (decide_eq_true h596) (an (ti trivial) trivial)))) (ti trivial))
     ·have h2 := ih _ _ h
      obtain ⟨q, hv, hq⟩ := pkR (rd := none) (P := Go.Proofs.Try.prog) (fn := Go.Proofs.Try.f10) (k := 0) (s := (nspeculumlaw04_Light_l0_0_h a0 x3)) (ans := [.reg (nN 4 []), .br true, .reg (arK4_3 a0 x3), .br false, .reg (nN 3 [])]) (c := ⟨[(0, none), (3, none)], [], []⟩) (e := .normal) (s1 := (nspeculumlaw04_Light_l0_0_h a0 (w64 (x3 + 1)))) (an (an (an (ti (ti (ti (ti trivial)))) (an (decide_eq_true h579) trivial)) (an (an e595 (an (decide_eq_false h596) trivial)) (ti (ti (ti trivial))))) (ti trivial)) (by kernel_rfl)
      cases r with
      | inl r => exact round_next pm pn hv hq h2
      | inr r =>
       exact round_next pm pn hv hq h2
  ·injection h with h; subst h
   exact round_stop (c := ⟨[], [], []⟩) (s1 := (nspeculumlaw04_Light_l0_0_e1 a0 ())) pm pn (ans := [.reg (nN 4 []), .br false]) (by kernel_rfl) (by intro e; cases e) (an (an (ti (ti (ti (ti trivial)))) (an (decide_eq_false h579) trivial)) (ti trivial))
def nspeculumlaw04_Light_l0_1_h (a0 : (List SStroke)) (x3 : Int) : VS := ⟨mkA [(0, VV.tr (List.flatMap c_SStroke a0) a0.length), (3, vi x3)], [], .nil⟩
def nspeculumlaw04_Light_l0_1_e0 (a0 : (List SStroke)) (r : Unit) : VS := ⟨mkA [(2, vb false)], [], .nil⟩
def nspeculumlaw04_Light_l0_1_e1 (a0 : (List SStroke)) (r : Unit) : VS := ⟨mkA [], [], .nil⟩
def nspeculumlaw04_Light_l0_1 (k : Nat) (a0 : (List SStroke)) : Nat -> Int -> Option (Sum Unit Unit)
 | 0, _ => none
 | fuel + 1, x3 => if x3 < (a0.length : Int) then (if 0 <= x3 /\ x3 < (a0.length : Int) then (if 30 < (((a0.getD x3.toNat default).Name).size : Int) then (some (.inl ())) else (if 10 < (((a0.getD x3.toNat default).Wear).length : Int) then (if (((a0.getD x3.toNat default).Wear).length : Int) <= 40 then (some (.inl ())) else (if 43 < (((a0.getD x3.toNat default).Wear).length : Int) then (some (.inl ())) else (nspeculumlaw04_Light_l0_1 k a0 fuel (w64 (x3 + 1))))) else (if 43 < (((a0.getD x3.toNat default).Wear).length : Int) then (some (.inl ())) else (nspeculumlaw04_Light_l0_1 k a0 fuel (w64 (x3 + 1)))))) else none) else (some (.inr ()))
theorem nspeculumlaw04_Light_l0_1_ok (k : Nat) (a0 : (List SStroke)) : ∀ (fuel : Nat) (x3 : Int) (r : Sum Unit Unit), nspeculumlaw04_Light_l0_1 k a0 fuel x3 = some r -> (match r with | .inl r => VLoop none Go.Proofs.Try.prog (szF Go.Proofs.Try.f10) (bodyOf Go.Proofs.Try.f10 0) (nspeculumlaw04_Light_l0_1_h a0 x3) .ret (nspeculumlaw04_Light_l0_1_e0 a0 r) | .inr r => VLoop none Go.Proofs.Try.prog (szF Go.Proofs.Try.f10) (bodyOf Go.Proofs.Try.f10 0) (nspeculumlaw04_Light_l0_1_h a0 x3) (.exit 0) (nspeculumlaw04_Light_l0_1_e1 a0 r)) := by
 intro fuel
 induction fuel with
 | zero => intro x3 r h; rw [nspeculumlaw04_Light_l0_1.eq_1] at h; cases h
 | succ fuel ih =>
  intro x3 r h
  rw [nspeculumlaw04_Light_l0_1.eq_2] at h
  rcases ifs h with ⟨h641, h⟩ | ⟨h641, h⟩
  ·obtain ⟨h642, h⟩ := ifn h
   have e643 := (show loadL Go.Proofs.Try.prog 9 (x3.toNat * 2 + 0) (List.flatMap c_SStroke a0) = some (vs ((a0.getD x3.toNat default).Name)) from (ld_flat ag9 c_SStroke 2 0 len_c_SStroke (by omega) a0 default h642 (by omega)).trans rfl)
   rcases ifs h with ⟨h644, h⟩ | ⟨h644, h⟩
   ·have e645 := (ti (ti (an h642 (ti (an e643 (ti (ti (ti (an (decide_eq_true h644) (an (decide_eq_true h644) (an (decide_eq_true h644) (an (decide_eq_true h644) (an (decide_eq_true h644) (an (decide_eq_true h644) (an (decide_eq_true h644) (an (decide_eq_true h644) (ti (ti (ti (ti (ti (ti (ti (an (decide_eq_true h644) (an (decide_eq_true h644) (ti (an rt (an rt (an rt (an rt (an rt (an rt (an rt (an rt trivial))))))))))))))))))))))))))))))))))
    injection h with h; subst h
    exact round_stop (c := ⟨[(2, none)], [], []⟩) (s1 := (nspeculumlaw04_Light_l0_1_e0 a0 ())) pm pn (ans := [.reg (nN 4 []), .br true, .reg (arK4_0 a0 x3), .br true, .reg (.n :: [])]) (by kernel_rfl) (by intro e; cases e) (an (an (an (ti (ti (ti (ti trivial)))) (an (decide_eq_true h641) trivial)) (an e645 (an rt (an (ti trivial) trivial)))) (ti trivial))
   ·have e646 := (an (decide_eq_false h644) (show loadL Go.Proofs.Try.prog 23 (x3.toNat * 2 + 1) (List.flatMap c_SStroke a0) = some (VV.tr (List.map vi ((a0.getD x3.toNat default).Wear)) (((a0.getD x3.toNat default).Wear).length)) from (ld_flat ag23 c_SStroke 2 1 len_c_SStroke (by omega) a0 default h642 (by omega)).trans rfl))
    rcases ifs h with ⟨h647, h⟩ | ⟨h647, h⟩
    ·have e648 := (an (decide_eq_true h647) (show loadL Go.Proofs.Try.prog 23 (x3.toNat * 2 + 1) (List.flatMap c_SStroke a0) = some (VV.tr (List.map vi ((a0.getD x3.toNat default).Wear)) (((a0.getD x3.toNat default).Wear).length)) from (ld_flat ag23 c_SStroke 2 1 len_c_SStroke (by omega) a0 default h642 (by omega)).trans rfl))
     have e649 := (an (decide_eq_false h644) (decide_eq_true h647))
     rcases ifs h with ⟨h650, h⟩ | ⟨h650, h⟩
     ·have e651 := (ti (ti (an h642 (ti (an e643 (ti (ti (ti (an (an (decide_eq_false h644) trivial) (an (an (decide_eq_false h644) trivial) (an (an (decide_eq_false h644) h642) (an (an (decide_eq_false h644) trivial) (an e646 (an (an (decide_eq_false h644) trivial) (an (an (decide_eq_false h644) trivial) (an (an (decide_eq_false h644) trivial) (an (an (decide_eq_true h647) trivial) (an (an (decide_eq_true h647) trivial) (an (an (decide_eq_true h647) h642) (an (an (decide_eq_true h647) trivial) (an e648 (an (an (decide_eq_true h647) trivial) (an (an (decide_eq_true h647) trivial) (an e649 (an (decide_eq_false h644) (ti (an (decide_eq_true h650) (an (decide_eq_true h650) (an (decide_eq_true h650) (an (decide_eq_true h650) (an (decide_eq_true h650) (an (decide_eq_true h650) (an (decide_eq_true h650) (an (decide_eq_true h650) trivial))))))))))))))))))))))))))))))))))
      injection h with h; subst h
      exact round_stop (c := ⟨[(2, none)], [], []⟩) (s1 := (nspeculumlaw04_Light_l0_1_e0 a0 ())) pm pn (ans := [.reg (nN 4 []), .br true, .reg (arK4_1 a0 x3), .br true, .reg (.n :: [])]) (by kernel_rfl) (by intro e; cases e) (an (an (an (ti (ti (ti (ti trivial)))) (an (decide_eq_true h641) trivial)) (an e651 (an rt (an (ti trivial) trivial)))) (ti trivial))
     ·have e652 := (an (decide_eq_false h650) (show loadL Go.Proofs.Try.prog 23 (x3.toNat * 2 + 1) (List.flatMap c_SStroke a0) = some (VV.tr (List.map vi ((a0.getD x3.toNat default).Wear)) (((a0.getD x3.toNat default).Wear).length)) from (ld_flat ag23 c_SStroke 2 1 len_c_SStroke (by omega) a0 default h642 (by omega)).trans rfl))
      have e653 := (ti (ti (an h642 (ti (an e643 (ti (ti (ti (an (an (decide_eq_false h644) trivial) (an (an (decide_eq_false h644) trivial) (an (an (decide_eq_false h644) h642) (an (an (decide_eq_false h644) trivial) (an e646 (an (an (decide_eq_false h644) trivial) (an (an (decide_eq_false h644) trivial) (an (an (decide_eq_false h644) trivial) (an (an (decide_eq_true h647) trivial) (an (an (decide_eq_true h647) trivial) (an (an (decide_eq_true h647) h642) (an (an (decide_eq_true h647) trivial) (an e648 (an (an (decide_eq_true h647) trivial) (an (an (decide_eq_true h647) trivial) (an e649 (an (decide_eq_false h644) (ti (an (an (decide_eq_false h650) trivial) (an (an (decide_eq_false h650) trivial) (an (an (decide_eq_false h650) h642) (an (an (decide_eq_false h650) trivial) (an e652 (an (an (decide_eq_false h650) trivial) (an (an (decide_eq_false h650) trivial) (an (decide_eq_false h650) trivial))))))))))))))))))))))))))))))))))
      rcases ifs h with ⟨h654, h⟩ | ⟨h654, h⟩
      ·injection h with h; subst h
       exact round_stop (c := ⟨[(2, none)], [], []⟩) (s1 := (nspeculumlaw04_Light_l0_1_e0 a0 ())) pm pn (ans := [.reg (nN 4 []), .br true, .reg (arK4_2 a0 x3), .br true, .reg (.n :: [])]) (by kernel_rfl) (by intro e; cases e) (an (an (an (ti (ti (ti (ti trivial)))) (an (decide_eq_true h641) trivial)) (an e653 (an (decide_eq_true h654) (an (ti trivial) trivial)))) (ti trivial))
      ·have h2 := ih _ _ h
       obtain ⟨q, hv, hq⟩ := pkR (rd := none) (P := Go.Proofs.Try.prog) (fn := Go.Proofs.Try.f10) (k := 0) (s := (nspeculumlaw04_Light_l0_1_h a0 x3)) (ans := [.reg (nN 4 []), .br true, .reg (arK4_2 a0 x3), .br false, .reg (nN 3 [])]) (c := ⟨[(0, none), (3, none)], [], []⟩) (e := .normal) (s1 := (nspeculumlaw04_Light_l0_1_h a0 (w64 (x3 + 1)))) (an (an (an (ti (ti (ti (ti trivial)))) (an (decide_eq_true h641) trivial)) (an (an e653 (an (decide_eq_false h654) trivial)) (ti (ti (ti trivial))))) (ti trivial)) (by kernel_rfl)
       cases r with
       | inl r => exact round_next pm pn hv hq h2
       | inr r =>
        exact round_next pm pn hv hq h2
    ·have e655 := (an (decide_eq_false h644) (decide_eq_false h647))
     have e656 := (an rf (show loadL Go.Proofs.Try.prog 23 (x3.toNat * 2 + 1) (List.flatMap c_SStroke a0) = some (VV.tr (List.map vi ((a0.getD x3.toNat default).Wear)) (((a0.getD x3.toNat default).Wear).length)) from (ld_flat ag23 c_SStroke 2 1 len_c_SStroke (by omega) a0 default h642 (by omega)).trans rfl))
     have e657 := (ti (ti (an h642 (ti (an e643 (ti (ti (ti (an (an (decide_eq_false h644) trivial) (an (an (decide_eq_false h644) trivial) (an (an (decide_eq_false h644) h642) (an (an (decide_eq_false h644) trivial) (an e646 (an (an (decide_eq_false h644) trivial) (an (an (decide_eq_false h644) trivial) (an (an (decide_eq_false h644) trivial) (an (decide_eq_false h647) (an (decide_eq_false h647) (an (decide_eq_false h647) (an (decide_eq_false h647) (an (decide_eq_false h647) (an (decide_eq_false h647) (an (decide_eq_false h647) (an e655 (an (decide_eq_false h644) (ti (an (an rf trivial) (an (an rf trivial) (an (an rf h642) (an (an rf trivial) (an e656 (an (an rf trivial) (an (an rf trivial) (an rf trivial))))))))))))))))))))))))))))))))))
     rcases ifs h with ⟨h658, h⟩ | ⟨h658, h⟩
     ·injection h with h; subst h
      exact round_stop (c := ⟨[(2, none)], [], []⟩) (s1 := (nspeculumlaw04_Light_l0_1_e0 a0 ())) pm pn (ans := [.reg (nN 4 []), .br true, .reg (arK4_3 a0 x3), .br true, .reg (.n :: [])]) (by kernel_rfl) (by intro e; cases e) (an (an (an (ti (ti (ti (ti trivial)))) (an (decide_eq_true h641) trivial)) (an e657 (an (decide_eq_true h658) (an (ti trivial) trivial)))) (ti trivial))
     ·have h2 := ih _ _ h
      obtain ⟨q, hv, hq⟩ := pkR (rd := none) (P := Go.Proofs.Try.prog) (fn := Go.Proofs.Try.f10) (k := 0) (s := (nspeculumlaw04_Light_l0_1_h a0 x3)) (ans := [.reg (nN 4 []), .br true, .reg (arK4_3 a0 x3), .br false, .reg (nN 3 [])]) (c := ⟨[(0, none), (3, none)], [], []⟩) (e := .normal) (s1 := (nspeculumlaw04_Light_l0_1_h a0 (w64 (x3 + 1)))) (an (an (an (ti (ti (ti (ti trivial)))) (an (decide_eq_true h641) trivial)) (an (an e657 (an (decide_eq_false h658) trivial)) (ti (ti (ti trivial))))) (ti trivial)) (by kernel_rfl)
      cases r with
      | inl r => exact round_next pm pn hv hq h2
      | inr r =>
       exact round_next pm pn hv hq h2
  ·injection h with h; subst h
   exact round_stop (c := ⟨[], [], []⟩) (s1 := (nspeculumlaw04_Light_l0_1_e1 a0 ())) pm pn (ans := [.reg (nN 4 []), .br false]) (by kernel_rfl) (by intro e; cases e) (an (an (ti (ti (ti (ti trivial)))) (an (decide_eq_false h641) trivial)) (ti trivial))
def nspeculumlaw04_Light (k : Nat) (a0 : (List SStroke)) : Option Bool :=
 if 4 < (a0.length : Int) then (if (a0.length : Int) <= 12 then (some false) else (if 15 < (a0.length : Int) then (some false) else ((nspeculumlaw04_Light_l0_0 k a0 k 0).bind fun r598 => (match r598 with | .inl r599 => (some false) | .inr r600 => (some true))))) else (if 15 < (a0.length : Int) then (some false) else ((nspeculumlaw04_Light_l0_1 k a0 k 0).bind fun r660 => (match r660 with | .inl r661 => (some false) | .inr r662 => (some true))))
theorem nspeculumlaw04_Light_ok (k : Nat) (a0 : (List SStroke)) (r : Bool) (h : nspeculumlaw04_Light k a0 = some r) : VC Go.Proofs.Try.prog 10 [VV.tr (List.flatMap c_SStroke a0) a0.length] (vb r) := by
 unfold nspeculumlaw04_Light at h
 rcases ifs h with ⟨h538, h⟩ | ⟨h538, h⟩
 ·rcases ifs h with ⟨h539, h⟩ | ⟨h539, h⟩
  ·have e540 := (ti (ti (ti (ti (an (an (decide_eq_true h538) trivial) (an (an (decide_eq_true h538) trivial) (an (an (decide_eq_true h538) trivial) (an (decide_eq_true h538) (ti (an (decide_eq_true h539) (an (decide_eq_true h539) (an (decide_eq_true h539) (an (decide_eq_true h539) trivial)))))))))))))
   injection h with h; subst h
   exact fun_ok pm pn Go.Proofs.Try.func10 (r0 := vb false) (ans := [.reg (.n :: []), .reg (nN 7 (.b true :: .n :: nS 3 (.b true :: []))), .br true, .reg (.n :: [])]) (fr := true) (by kernel_rfl) (an (an (ti trivial) (an e540 (an rt (an (ti trivial) trivial)))) (ti trivial)) (Wv.refl _)
  ·have e541 := (ti (ti (ti (ti (an (an (decide_eq_true h538) trivial) (an (an (decide_eq_true h538) trivial) (an (an (decide_eq_true h538) trivial) (an (decide_eq_true h538) (ti (an (an (decide_eq_false h539) trivial) (an (an (decide_eq_false h539) trivial) (an (an (decide_eq_false h539) trivial) (an (decide_eq_false h539) trivial)))))))))))))
   rcases ifs h with ⟨h542, h⟩ | ⟨h542, h⟩
   ·injection h with h; subst h
    exact fun_ok pm pn Go.Proofs.Try.func10 (r0 := vb false) (ans := [.reg (.n :: []), .reg (nN 7 (.b true :: nN 4 (.b false :: []))), .br true, .reg (.n :: [])]) (fr := true) (by kernel_rfl) (an (an (ti trivial) (an e541 (an (decide_eq_true h542) (an (ti trivial) trivial)))) (ti trivial)) (Wv.refl _)
   ·obtain ⟨r598, h597, h⟩ := bs h
    have hph597 := nspeculumlaw04_Light_l0_0_ok k a0 _ _ _ h597
    cases r598 with
    | inl r599 =>
     dsimp only at h
     have e601 := (an (ti trivial) (VRun.loop hph597))
     injection h with h; subst h
     exact fun_ok pm pn Go.Proofs.Try.func10 (r0 := vb false) (ans := [.reg (.n :: []), .reg (nN 7 (.b true :: nN 4 (.b false :: []))), .br false, .reg (.n :: []), .sub ⟨[(0, none), (3, none)], [], []⟩ .ret (nspeculumlaw04_Light_l0_0_e0 a0 r599)]) (fr := true) (by kernel_rfl) (an (an (ti trivial) (an (an e541 (an (decide_eq_false h542) trivial)) (an (ti trivial) e601))) (ti trivial)) (Wv.refl _)
    | inr r600 =>
     dsimp only at h
     have e602 := (an (ti trivial) (VRun.loop hph597))
     injection h with h; subst h
     exact fun_ok pm pn Go.Proofs.Try.func10 (r0 := vb true) (ans := [.reg (.n :: []), .reg (nN 7 (.b true :: nN 4 (.b false :: []))), .br false, .reg (.n :: []), .sub ⟨[(0, none), (3, none)], [], []⟩ (.exit 0) (nspeculumlaw04_Light_l0_0_e1 a0 r600), .reg (.n :: [])]) (fr := true) (by kernel_rfl) (an (an (ti trivial) (an (an e541 (an (decide_eq_false h542) trivial)) (an (an (ti trivial) e602) (an (ti trivial) trivial)))) (ti trivial)) (Wv.refl _)
 ·have e603 := (ti (ti (ti (ti (an (decide_eq_false h538) (an (decide_eq_false h538) (an (decide_eq_false h538) (an (decide_eq_false h538) (ti (an (an rf trivial) (an (an rf trivial) (an (an rf trivial) (an rf trivial)))))))))))))
  rcases ifs h with ⟨h604, h⟩ | ⟨h604, h⟩
  ·injection h with h; subst h
   exact fun_ok pm pn Go.Proofs.Try.func10 (r0 := vb false) (ans := [.reg (.n :: []), .reg (nN 4 (nS 3 (.b false :: nN 4 (.b false :: [])))), .br true, .reg (.n :: [])]) (fr := true) (by kernel_rfl) (an (an (ti trivial) (an e603 (an (decide_eq_true h604) (an (ti trivial) trivial)))) (ti trivial)) (Wv.refl _)
  ·obtain ⟨r660, h659, h⟩ := bs h
   have hph659 := nspeculumlaw04_Light_l0_1_ok k a0 _ _ _ h659
   cases r660 with
   | inl r661 =>
    dsimp only at h
    have e663 := (an (ti trivial) (VRun.loop hph659))
    injection h with h; subst h
    exact fun_ok pm pn Go.Proofs.Try.func10 (r0 := vb false) (ans := [.reg (.n :: []), .reg (nN 4 (nS 3 (.b false :: nN 4 (.b false :: [])))), .br false, .reg (.n :: []), .sub ⟨[(0, none), (3, none)], [], []⟩ .ret (nspeculumlaw04_Light_l0_1_e0 a0 r661)]) (fr := true) (by kernel_rfl) (an (an (ti trivial) (an (an e603 (an (decide_eq_false h604) trivial)) (an (ti trivial) e663))) (ti trivial)) (Wv.refl _)
   | inr r662 =>
    dsimp only at h
    have e664 := (an (ti trivial) (VRun.loop hph659))
    injection h with h; subst h
    exact fun_ok pm pn Go.Proofs.Try.func10 (r0 := vb true) (ans := [.reg (.n :: []), .reg (nN 4 (nS 3 (.b false :: nN 4 (.b false :: [])))), .br false, .reg (.n :: []), .sub ⟨[(0, none), (3, none)], [], []⟩ (.exit 0) (nspeculumlaw04_Light_l0_1_e1 a0 r662), .reg (.n :: [])]) (fr := true) (by kernel_rfl) (an (an (ti trivial) (an (an e603 (an (decide_eq_false h604) trivial)) (an (an (ti trivial) e664) (an (ti trivial) trivial)))) (ti trivial)) (Wv.refl _)
def nspeculumbase_CopyInts (k : Nat) (a0 : (List Int)) : Option (List Int) :=
 if ([] : List Int).length + a0.length <= 1000000000 then (some (([] : List Int) ++ a0)) else none
theorem nspeculumbase_CopyInts_ok (k : Nat) (a0 : (List Int)) (r : (List Int)) (h : nspeculumbase_CopyInts k a0 = some r) : VC Go.Proofs.Try.prog 55 [VV.tr (List.map vi a0) a0.length] (VV.fw 1 (List.map vi r) r.length) := by
 unfold nspeculumbase_CopyInts at h
 obtain ⟨h671, h⟩ := ifn h
 have e672 := (show List.length [] = 0 * 1 /\ List.length (List.map vi a0) = a0.length * 1 /\ (0 + a0.length) * 8 <= 140737488355328 /\ 0 + a0.length < 1099511627776 /\ List.all (List.map vi a0) VV.still = true from ⟨(by rw [show [] = List.map vi ([] : List Int) from rfl]; simp), (by simp), (by first | omega | (simp at h671 ⊢; omega)), (by first | omega | (simp at h671 ⊢; omega)), (by exact still_vi _)⟩)
 injection h with h; subst h
 exact fun_ok pm pn Go.Proofs.Try.func55 (r0 := VV.fw 1 (List.drop 0 (List.map unfr ([] ++ (List.map vi a0)))) (0 + a0.length)) (ans := [.reg (.n :: []), .reg (nN 4 [])]) (fr := true) (by kernel_rfl) (an (an (ti trivial) (an (ti (ti (an e672 (ti trivial)))) trivial)) (an (show List.all ([] ++ (List.map vi a0)) new0 = true from (by rw [show [] ++ (List.map vi a0) = List.map vi (([] : List Int) ++ a0) from (by rw [show [] = List.map vi ([] : List Int) from rfl]; exact List.map_append.symm)]; exact new0_vi _)) trivial)) (Wv.of_eq (by simp only [show [] ++ (List.map vi a0) = List.map vi (([] : List Int) ++ a0) from (by rw [show [] = List.map vi ([] : List Int) from rfl]; exact List.map_append.symm), drop0, unfr_vi, unfr_vb, unfr_vs, List.map_cons, List.map_nil, un_i, un_k, un_b, un_s, un_tr, un_fr, List.length_map, List.length_replicate, List.length_append, List.length_set, List.length_cons, List.length_nil, unfr_c_SStroke, unfr_g_SStroke]))
def arK4_4 (z0 : (List SStroke)) (z1 : Int) (z2 : (List Int)) : List Ans := (nN 5 (.v (vs ((z0.getD z1.toNat default).Name)) :: nN 4 (.v (VV.tr (List.map vi ((z0.getD z1.toNat default).Wear)) (((z0.getD z1.toNat default).Wear).length)) :: .call (VV.fr (List.map vi z2) z2.length) :: nN 4 [])))
def nspeculumref04_Copy_l0_0_h (a0 : (List SStroke)) (y0 : List SStroke) (x4 : Int) : VS := ⟨mkA [(0, VV.tr (List.flatMap c_SStroke a0) a0.length), (3, VV.rf 0 0 y0.length), (4, vi x4)], [some ⟨false, 2, List.flatMap g_SStroke y0⟩], .nil⟩
def nspeculumref04_Copy_l0_0_e0 (a0 : (List SStroke)) (r : (List SStroke)) : VS := ⟨mkA [(3, VV.rf 0 0 r.length)], [some ⟨false, 2, List.flatMap g_SStroke r⟩], .nil⟩
def nspeculumref04_Copy_l0_0 (k : Nat) (a0 : (List SStroke)) : Nat -> (List SStroke) -> Int -> Option ((List SStroke))
 | 0, _, _ => none
 | fuel + 1, y0, x4 => if x4 < (a0.length : Int) then (if 0 <= x4 /\ x4 < (a0.length : Int) then ((nspeculumbase_CopyInts k ((a0.getD x4.toNat default).Wear)).bind fun r746 => (if y0.length + ([(⟨(a0.getD x4.toNat default).Name, r746⟩ : SStroke)] : List SStroke).length <= 1000000000 then (nspeculumref04_Copy_l0_0 k a0 fuel (y0 ++ ([(⟨(a0.getD x4.toNat default).Name, r746⟩ : SStroke)] : List SStroke)) (w64 (x4 + 1))) else none)) else none) else (some y0)
theorem nspeculumref04_Copy_l0_0_ok (k : Nat) (a0 : (List SStroke)) : ∀ (fuel : Nat) (y0 : List SStroke) (x4 : Int) (r : (List SStroke)), nspeculumref04_Copy_l0_0 k a0 fuel y0 x4 = some r -> (VLoop none Go.Proofs.Try.prog (szF Go.Proofs.Try.f14) (bodyOf Go.Proofs.Try.f14 0) (nspeculumref04_Copy_l0_0_h a0 y0 x4) (.exit 0) (nspeculumref04_Copy_l0_0_e0 a0 r)) := by
 intro fuel
 induction fuel with
 | zero => intro y0 x4 r h; rw [nspeculumref04_Copy_l0_0.eq_1] at h; cases h
 | succ fuel ih =>
  intro y0 x4 r h
  rw [nspeculumref04_Copy_l0_0.eq_2] at h
  rcases ifs h with ⟨h742, h⟩ | ⟨h742, h⟩
  ·obtain ⟨h743, h⟩ := ifn h
   have e744 := (show loadL Go.Proofs.Try.prog 9 (x4.toNat * 2 + 0) (List.flatMap c_SStroke a0) = some (vs ((a0.getD x4.toNat default).Name)) from (ld_flat ag9 c_SStroke 2 0 len_c_SStroke (by omega) a0 default h743 (by omega)).trans rfl)
   have e745 := (show loadL Go.Proofs.Try.prog 23 (x4.toNat * 2 + 1) (List.flatMap c_SStroke a0) = some (VV.tr (List.map vi ((a0.getD x4.toNat default).Wear)) (((a0.getD x4.toNat default).Wear).length)) from (ld_flat ag23 c_SStroke 2 1 len_c_SStroke (by omega) a0 default h743 (by omega)).trans rfl)
   obtain ⟨r746, h747, h⟩ := bs h
   have e748 := (show VC Go.Proofs.Try.prog 55 [VV.tr (List.map vi ((a0.getD x4.toNat default).Wear)) (((a0.getD x4.toNat default).Wear).length)] (VV.fr (List.map vi r746) r746.length) from (VC.weak (nspeculumbase_CopyInts_ok k ((a0.getD x4.toNat default).Wear) _ h747) (Wv.fw rfl rfl)))
   obtain ⟨h749, h⟩ := ifn h
   have e750 := (show List.length (List.flatMap g_SStroke y0) = y0.length * 2 /\ List.length [vs ((a0.getD x4.toNat default).Name), VV.fr (List.map vi r746) r746.length] = 1 * 2 /\ (y0.length + 1) * 40 <= 140737488355328 /\ y0.length + 1 < 1099511627776 /\ List.all [vs ((a0.getD x4.toNat default).Name), VV.fr (List.map vi r746) r746.length] VV.still = true from ⟨(by rw [flatMap_len len_g_SStroke] <;> simp), (by rw [show [vs ((a0.getD x4.toNat default).Name), VV.fr (List.map vi r746) r746.length] = List.flatMap g_SStroke ([(⟨(a0.getD x4.toNat default).Name, r746⟩ : SStroke)] : List SStroke) from rfl]; rw [flatMap_len len_g_SStroke] <;> simp), (by first | omega | (simp at h749 ⊢; omega)), (by first | omega | (simp at h749 ⊢; omega)), (by rw [show [vs ((a0.getD x4.toNat default).Name), VV.fr (List.map vi r746) r746.length] = List.flatMap g_SStroke ([(⟨(a0.getD x4.toNat default).Name, r746⟩ : SStroke)] : List SStroke) from rfl]; exact still_g_SStroke _)⟩)
   have e751 := (ti (ti (ti (an h743 (ti (an e744 (ti (ti (an h743 (ti (an e745 (an e748 (ti (ti (an e750 (ti trivial))))))))))))))))
   have h2 := ih _ _ _ h
   obtain ⟨q, hv, hq⟩ := pkR (rd := none) (P := Go.Proofs.Try.prog) (fn := Go.Proofs.Try.f14) (k := 0) (s := (nspeculumref04_Copy_l0_0_h a0 y0 x4)) (ans := [.reg (nN 4 []), .br true, .reg (arK4_4 a0 x4 r746), .reg (nN 3 [])]) (c := ⟨[(0, none), (3, some (VV.rf 0 0 ((y0 ++ ([(⟨(a0.getD x4.toNat default).Name, r746⟩ : SStroke)] : List SStroke)).length))), (4, none)], [some (List.flatMap g_SStroke (y0 ++ ([(⟨(a0.getD x4.toNat default).Name, r746⟩ : SStroke)] : List SStroke)))], []⟩) (e := .normal) (s1 := (nspeculumref04_Copy_l0_0_h a0 (y0 ++ ([(⟨(a0.getD x4.toNat default).Name, r746⟩ : SStroke)] : List SStroke)) (w64 (x4 + 1)))) (an (an (an (ti (ti (ti (ti trivial)))) (an (decide_eq_true h742) trivial)) (an e751 (ti (ti (ti trivial))))) (an (an (show Wv (VV.rf 0 0 (y0.length + 1)) (VV.rf 0 0 ((y0 ++ ([(⟨(a0.getD x4.toNat default).Name, r746⟩ : SStroke)] : List SStroke)).length)) from (Wv.of_eq (by simp))) trivial) (an (show (List.flatMap g_SStroke y0) ++ [vs ((a0.getD x4.toNat default).Name), VV.fr (List.map vi r746) r746.length] = List.flatMap g_SStroke (y0 ++ ([(⟨(a0.getD x4.toNat default).Name, r746⟩ : SStroke)] : List SStroke)) from (by rw [show [vs ((a0.getD x4.toNat default).Name), VV.fr (List.map vi r746) r746.length] = List.flatMap g_SStroke ([(⟨(a0.getD x4.toNat default).Name, r746⟩ : SStroke)] : List SStroke) from rfl]; exact List.flatMap_append.symm)) trivial))) (by kernel_rfl)
   exact round_next pm pn hv hq h2
  ·injection h with h; subst h
   exact round_stop (c := ⟨[(3, none)], [none], []⟩) (s1 := (nspeculumref04_Copy_l0_0_e0 a0 y0)) pm pn (ans := [.reg (nN 4 []), .br false]) (by kernel_rfl) (by intro e; cases e) (an (an (ti (ti (ti (ti trivial)))) (an (decide_eq_false h742) trivial)) (ti trivial))
theorem eqK4_0 (z0 : (List SStroke)) : VV.fw 2 (List.drop 0 (List.map unfr (List.flatMap g_SStroke z0))) z0.length = VV.fw 2 (List.flatMap c_SStroke z0) z0.length := by first | rfl | (simp only [drop0, List.map_cons, List.map_nil, List.length_map, unfr_c_SStroke, unfr_g_SStroke]; done) | (simp only [drop0, List.map_cons, List.map_nil, List.length_map, unfr_c_SStroke, unfr_g_SStroke]; rfl) | (simp only [drop0, List.map_cons, List.map_nil, List.length_map, unfr_c_SStroke, unfr_g_SStroke, g_SStroke, c_SStroke, List.length_cons, List.length_nil, List.length_append]; done)
def nspeculumref04_Copy (k : Nat) (a0 : (List SStroke)) : Option (List SStroke) :=
 (nspeculumref04_Copy_l0_0 k a0 k ([] : List SStroke) 0).bind fun r753 => (some r753)
theorem nspeculumref04_Copy_ok (k : Nat) (a0 : (List SStroke)) (r : (List SStroke)) (h : nspeculumref04_Copy k a0 = some r) : VC Go.Proofs.Try.prog 14 [VV.tr (List.flatMap c_SStroke a0) a0.length] (VV.fw 2 (List.flatMap c_SStroke r) r.length) := by
 unfold nspeculumref04_Copy at h
 obtain ⟨r753, h752, h⟩ := bs h
 have hph752 := nspeculumref04_Copy_l0_0_ok k a0 _ _ _ _ h752
 have e754 := (an (ti trivial) (VRun.loop hph752))
 injection h with h; subst h
 exact fun_ok pm pn Go.Proofs.Try.func14 (r0 := VV.fw 2 (List.drop 0 (List.map unfr (List.flatMap g_SStroke r753))) r753.length) (ans := [.reg (.n :: []), .reg (.n :: []), .reg (.n :: []), .sub ⟨[(0, none), (3, none), (4, none)], [], [.t 3 2]⟩ (.exit 0) (nspeculumref04_Copy_l0_0_e0 a0 r753), .reg (.n :: .n :: [])]) (fr := true) (by kernel_rfl) (an (an (ti trivial) (an (ti trivial) (an (an (ti trivial) e754) (an (ti (ti trivial)) trivial)))) (an (show List.all (List.flatMap g_SStroke r753) new0 = true from (by exact new0_g_SStroke _)) trivial)) (Wv.of_eq (eqK4_0 r753))
def ngrind_need (k : Nat) (a0 : Bool) (a1 : Int) : Option (Bool × Int) :=
 some (a0, a1)
theorem ngrind_need_ok (k : Nat) (a0 : Bool) (a1 : Int) (r : (Bool × Int)) (h : ngrind_need k a0 a1 = some r) : VC Go.Proofs.Try.prog 76 [vb a0, vi a1] (VV.fn 102 [VV.tp [vb r.1] 0, VV.tp [vi r.2] 0]) := by
 unfold ngrind_need at h
 injection h with h; subst h
 exact fun_ok pm pn Go.Proofs.Try.func76 (r0 := VV.fn 102 [VV.tp [vb a0] 0, VV.tp [vi a1] 0]) (ans := [.reg (nN 3 []), .frz 0, .frz 1, .reg (.n :: .n :: [])]) (fr := false) (by kernel_rfl) (an (an (ti (ti (ti trivial))) (an (ti (ti trivial)) trivial)) (ti trivial)) (Wv.of_eq rfl)
def ngrind_need_1 (k : Nat) (q0_0 : Bool) (q1_0 : Int) : Option Int :=
 if q0_0 = true then (some 0) else (some q1_0)
theorem ngrind_need_1_ok (k : Nat) (q0_0 : Bool) (q1_0 : Int) (r : Int) (h : ngrind_need_1 k q0_0 q1_0 = some r) : VC Go.Proofs.Try.prog 102 [VV.tp [vb q0_0] 0, VV.tp [vi q1_0] 0] (vi r) := by
 unfold ngrind_need_1 at h
 have e769 := (show loadL Go.Proofs.Try.prog 4 0 [vb q0_0] = some (vb q0_0) from (ld_one ag4 rfl))
 rcases ifs h with ⟨h770, h⟩ | ⟨h770, h⟩
 ·injection h with h; subst h
  exact fun_ok pm pn Go.Proofs.Try.func102 (r0 := vi 0) (ans := [.reg (.n :: []), .reg (.v (vb q0_0) :: []), .br true, .reg (.n :: [])]) (fr := true) (by kernel_rfl) (an (an (ti trivial) (an (an e769 trivial) (an h770 (an (ti trivial) trivial)))) (ti trivial)) (Wv.refl _)
 ·have e771 := (show loadL Go.Proofs.Try.prog 35 0 [vi q1_0] = some (vi q1_0) from (ld_one ag35 rfl))
  injection h with h; subst h
  exact fun_ok pm pn Go.Proofs.Try.func102 (r0 := vi q1_0) (ans := [.reg (.n :: []), .reg (.v (vb q0_0) :: []), .br false, .reg (.v (vi q1_0) :: .n :: [])]) (fr := true) (by kernel_rfl) (an (an (ti trivial) (an (an (an e769 trivial) (an (bool_f h770) trivial)) (an (an e771 (ti trivial)) trivial))) (ti trivial)) (Wv.refl _)
def arK4_5 (z0 : Bool) (z1 : (Bool × Int)) : List Ans := (.n :: .call (vb z0) :: .call (VV.fn 102 [VV.tp [vb z1.1] 0, VV.tp [vi z1.2] 0]) :: .n :: [])
def ngrind_named (k : Nat) (a0 : ByteArray) : Option (Bool × Int) :=
 (ngrind_isName k a0).bind fun r803 => ((ngrind_need k r803 4).bind fun r805 => (some r805))
theorem ngrind_named_ok (k : Nat) (a0 : ByteArray) (r : (Bool × Int)) (h : ngrind_named k a0 = some r) : VC Go.Proofs.Try.prog 58 [vs a0] (VV.fn 102 [VV.tp [vb r.1] 0, VV.tp [vi r.2] 0]) := by
 unfold ngrind_named at h
 obtain ⟨r803, h804, h⟩ := bs h
 obtain ⟨r805, h806, h⟩ := bs h
 have e807 := (ti (an (ngrind_isName_ok k a0 _ h804) (an (ngrind_need_ok k r803 4 _ h806) (ti trivial))))
 injection h with h; subst h
 exact fun_ok pm pn Go.Proofs.Try.func58 (r0 := VV.fn 102 [VV.tp [vb r805.1] 0, VV.tp [vi r805.2] 0]) (ans := [.reg (.n :: []), .reg (arK4_5 r803 r805)]) (fr := false) (by kernel_rfl) (an (an (ti trivial) (an e807 trivial)) (ti trivial)) (Wv.refl _)
def ngrind_within (k : Nat) (a0 : Int) (a1 : Int) (a2 : (List Int)) : Option ((List Int) × Int × Int) :=
 some (a2, a0, a1)
theorem ngrind_within_ok (k : Nat) (a0 : Int) (a1 : Int) (a2 : (List Int)) (r : ((List Int) × Int × Int)) (h : ngrind_within k a0 a1 a2 = some r) : VC Go.Proofs.Try.prog 87 [vi a0, vi a1, VV.tr (List.map vi a2) a2.length] (VV.fn 114 [VV.tp [VV.tr (List.map vi r.1) r.1.length] 0, VV.tp [vi r.2.1] 0, VV.tp [vi r.2.2] 0]) := by
 unfold ngrind_within at h
 injection h with h; subst h
 exact fun_ok pm pn Go.Proofs.Try.func87 (r0 := VV.fn 114 [VV.tp [VV.tr (List.map vi a2) a2.length] 0, VV.tp [vi a0] 0, VV.tp [vi a1] 0]) (ans := [.reg (nN 4 []), .frz 0, .frz 1, .frz 2, .reg (.n :: .n :: [])]) (fr := false) (by kernel_rfl) (an (an (ti (ti (ti (ti trivial)))) (an (ti (ti trivial)) trivial)) (ti trivial)) (Wv.of_eq rfl)
def ngrind_within_1_l0_0_h (q0_0 : (List Int)) (q1_0 : Int) (q2_0 : Int) (x8 : Int) : VS := ⟨mkA [(1, VV.tp [vi q1_0] 0), (2, VV.tp [vi q2_0] 0), (6, VV.tr (List.map vi q0_0) q0_0.length), (7, vi (q0_0.length : Int)), (8, vi x8)], [], .nil⟩
def ngrind_within_1_l0_0_e0 (q0_0 : (List Int)) (q1_0 : Int) (q2_0 : Int) (r : Unit) : VS := ⟨mkA [(3, vi 2)], [], .nil⟩
def ngrind_within_1_l0_0_e1 (q0_0 : (List Int)) (q1_0 : Int) (q2_0 : Int) (r : Unit) : VS := ⟨mkA [], [], .nil⟩
def ngrind_within_1_l0_0 (k : Nat) (q0_0 : (List Int)) (q1_0 : Int) (q2_0 : Int) : Nat -> Int -> Option (Sum Unit Unit)
 | 0, _ => none
 | fuel + 1, x8 => if x8 < (q0_0.length : Int) then (if 0 <= x8 /\ x8 < (q0_0.length : Int) then ((ngrind_isWithin k (q0_0.getD x8.toNat 0) q1_0 q2_0).bind fun r905 => (if r905 = true then (ngrind_within_1_l0_0 k q0_0 q1_0 q2_0 fuel (w64 (x8 + 1))) else (some (.inl ())))) else none) else (some (.inr ()))
theorem ngrind_within_1_l0_0_ok (k : Nat) (q0_0 : (List Int)) (q1_0 : Int) (q2_0 : Int) : ∀ (fuel : Nat) (x8 : Int) (r : Sum Unit Unit), ngrind_within_1_l0_0 k q0_0 q1_0 q2_0 fuel x8 = some r -> (match r with | .inl r => VLoop none Go.Proofs.Try.prog (szF Go.Proofs.Try.f114) (bodyOf Go.Proofs.Try.f114 0) (ngrind_within_1_l0_0_h q0_0 q1_0 q2_0 x8) .ret (ngrind_within_1_l0_0_e0 q0_0 q1_0 q2_0 r) | .inr r => VLoop none Go.Proofs.Try.prog (szF Go.Proofs.Try.f114) (bodyOf Go.Proofs.Try.f114 0) (ngrind_within_1_l0_0_h q0_0 q1_0 q2_0 x8) (.exit 0) (ngrind_within_1_l0_0_e1 q0_0 q1_0 q2_0 r)) := by
 intro fuel
 induction fuel with
 | zero => intro x8 r h; rw [ngrind_within_1_l0_0.eq_1] at h; cases h
 | succ fuel ih =>
  intro x8 r h
  rw [ngrind_within_1_l0_0.eq_2] at h
  rcases ifs h with ⟨h900, h⟩ | ⟨h900, h⟩
  ·obtain ⟨h901, h⟩ := ifn h
   have e902 := (show loadL Go.Proofs.Try.prog 3 (x8.toNat * 1) (List.map vi q0_0) = some (vi (q0_0.getD x8.toNat 0)) from ld_map ag3 vi q0_0 0 h901 (by omega))
   have e903 := (show loadL Go.Proofs.Try.prog 3 0 [vi q1_0] = some (vi q1_0) from (ld_one ag3 rfl))
   have e904 := (show loadL Go.Proofs.Try.prog 3 0 [vi q2_0] = some (vi q2_0) from (ld_one ag3 rfl))
   obtain ⟨r905, h906, h⟩ := bs h
   have e907 := (ngrind_isWithin_ok k (q0_0.getD x8.toNat 0) q1_0 q2_0 _ h906)
   rcases ifs h with ⟨h908, h⟩ | ⟨h908, h⟩
   ·have h2 := ih _ _ h
    obtain ⟨q, hv, hq⟩ := pkR (rd := none) (P := Go.Proofs.Try.prog) (fn := Go.Proofs.Try.f114) (k := 0) (s := (ngrind_within_1_l0_0_h q0_0 q1_0 q2_0 x8)) (ans := [.reg (.n :: []), .br true, .reg (.n :: .v (vi (q0_0.getD x8.toNat 0)) :: .n :: []), .reg (.n :: .v (vi q1_0) :: .v (vi q2_0) :: .call (vb r905) :: .n :: []), .br false, .reg (.n :: .n :: [])]) (c := ⟨[(1, none), (2, none), (6, none), (7, none), (8, none)], [], []⟩) (e := .normal) (s1 := (ngrind_within_1_l0_0_h q0_0 q1_0 q2_0 (w64 (x8 + 1)))) (an (an (ti trivial) (an (an (decide_eq_true h900) trivial) (an (an (an h901 (an e902 (ti trivial))) (an (ti (an e903 (an e904 (an e907 (ti trivial))))) (an (not_f h908) trivial))) (ti (ti trivial))))) (ti trivial)) (by kernel_rfl)
    cases r with
    | inl r => exact round_next pm pn hv hq h2
    | inr r =>
     exact round_next pm pn hv hq h2
   ·injection h with h; subst h
    exact round_stop (c := ⟨[(3, none)], [], []⟩) (s1 := (ngrind_within_1_l0_0_e0 q0_0 q1_0 q2_0 ())) pm pn (ans := [.reg (.n :: []), .br true, .reg (.n :: .v (vi (q0_0.getD x8.toNat 0)) :: .n :: []), .reg (.n :: .v (vi q1_0) :: .v (vi q2_0) :: .call (vb r905) :: .n :: []), .br true, .reg (.n :: [])]) (by kernel_rfl) (by intro e; cases e) (an (an (ti trivial) (an (an (decide_eq_true h900) trivial) (an (an h901 (an e902 (ti trivial))) (an (ti (an e903 (an e904 (an e907 (ti trivial))))) (an (not_t (bool_f h908)) (an (ti trivial) trivial)))))) (ti trivial))
  ·injection h with h; subst h
   exact round_stop (c := ⟨[], [], []⟩) (s1 := (ngrind_within_1_l0_0_e1 q0_0 q1_0 q2_0 ())) pm pn (ans := [.reg (.n :: []), .br false]) (by kernel_rfl) (by intro e; cases e) (an (an (ti trivial) (an (decide_eq_false h900) trivial)) (ti trivial))
def ngrind_within_1 (k : Nat) (q0_0 : (List Int)) (q1_0 : Int) (q2_0 : Int) : Option Int :=
 (ngrind_within_1_l0_0 k q0_0 q1_0 q2_0 k 0).bind fun r910 => (match r910 with | .inl r911 => (some 2) | .inr r912 => (some 0))
theorem ngrind_within_1_ok (k : Nat) (q0_0 : (List Int)) (q1_0 : Int) (q2_0 : Int) (r : Int) (h : ngrind_within_1 k q0_0 q1_0 q2_0 = some r) : VC Go.Proofs.Try.prog 114 [VV.tp [VV.tr (List.map vi q0_0) q0_0.length] 0, VV.tp [vi q1_0] 0, VV.tp [vi q2_0] 0] (vi r) := by
 unfold ngrind_within_1 at h
 have e881 := (show loadL Go.Proofs.Try.prog 23 0 [VV.tr (List.map vi q0_0) q0_0.length] = some (VV.tr (List.map vi q0_0) q0_0.length) from (ld_one ag23 rfl))
 obtain ⟨r910, h909, h⟩ := bs h
 have hph909 := ngrind_within_1_l0_0_ok k q0_0 q1_0 q2_0 _ _ _ h909
 cases r910 with
 | inl r911 =>
  dsimp only at h
  have e913 := (an (ti trivial) (VRun.loop hph909))
  injection h with h; subst h
  exact fun_ok pm pn Go.Proofs.Try.func114 (r0 := vi 2) (ans := [.reg (.n :: []), .reg (.v (VV.tr (List.map vi q0_0) q0_0.length) :: .n :: .n :: []), .sub ⟨[(1, none), (2, none), (6, none), (7, none), (8, none)], [], []⟩ .ret (ngrind_within_1_l0_0_e0 q0_0 q1_0 q2_0 r911)]) (fr := true) (by kernel_rfl) (an (an (ti trivial) (an (an e881 (ti (ti trivial))) e913)) (ti trivial)) (Wv.refl _)
 | inr r912 =>
  dsimp only at h
  have e914 := (an (ti trivial) (VRun.loop hph909))
  injection h with h; subst h
  exact fun_ok pm pn Go.Proofs.Try.func114 (r0 := vi 0) (ans := [.reg (.n :: []), .reg (.v (VV.tr (List.map vi q0_0) q0_0.length) :: .n :: .n :: []), .sub ⟨[(1, none), (2, none), (6, none), (7, none), (8, none)], [], []⟩ (.exit 0) (ngrind_within_1_l0_0_e1 q0_0 q1_0 q2_0 r912), .reg (.n :: [])]) (fr := true) (by kernel_rfl) (an (an (ti trivial) (an (an (an e881 (ti (ti trivial))) e914) (an (ti trivial) trivial))) (ti trivial)) (Wv.refl _)
def arK4_6 (z0 : ((Bool × Int) × (Bool × Int) × (Bool × Int) × ((List Int) × Int × Int))) : List Ans := (.n :: .v (VV.fn 114 [VV.tp [VV.tr (List.map vi z0.2.2.2.1) z0.2.2.2.1.length] 0, VV.tp [vi z0.2.2.2.2.1] 0, VV.tp [vi z0.2.2.2.2.2] 0]) :: .n :: [])
def ngrind_firstOf_c0_Lgrind_need_1_grind_need_1_grind_need_1_grind_within_1 (k : Nat) (a0 : ((Bool × Int) × (Bool × Int) × (Bool × Int) × ((List Int) × Int × Int))) : Option Int :=
 (ngrind_need_1 k a0.1.1 a0.1.2).bind fun r921 => (if r921 = 0 then ((ngrind_need_1 k a0.2.1.1 a0.2.1.2).bind fun r927 => (if r927 = 0 then ((ngrind_need_1 k a0.2.2.1.1 a0.2.2.1.2).bind fun r933 => (if r933 = 0 then ((ngrind_within_1 k a0.2.2.2.1 a0.2.2.2.2.1 a0.2.2.2.2.2).bind fun r939 => (if r939 = 0 then (some 0) else (some r939))) else (some r933))) else (some r927))) else (some r921))
theorem ngrind_firstOf_c0_Lgrind_need_1_grind_need_1_grind_need_1_grind_within_1_ok (k : Nat) (a0 : ((Bool × Int) × (Bool × Int) × (Bool × Int) × ((List Int) × Int × Int))) (r : Int) (h : ngrind_firstOf_c0_Lgrind_need_1_grind_need_1_grind_need_1_grind_within_1 k a0 = some r) : VC Go.Proofs.Try.prog 49 [VV.tr ([VV.fn 102 [VV.tp [vb a0.1.1] 0, VV.tp [vi a0.1.2] 0], VV.fn 102 [VV.tp [vb a0.2.1.1] 0, VV.tp [vi a0.2.1.2] 0], VV.fn 102 [VV.tp [vb a0.2.2.1.1] 0, VV.tp [vi a0.2.2.1.2] 0], VV.fn 114 [VV.tp [VV.tr (List.map vi a0.2.2.2.1) a0.2.2.2.1.length] 0, VV.tp [vi a0.2.2.2.2.1] 0, VV.tp [vi a0.2.2.2.2.2] 0]]) 4] (vi r) := by
 unfold ngrind_firstOf_c0_Lgrind_need_1_grind_need_1_grind_need_1_grind_within_1 at h
 have e919 := (show (0 : Int) <= 0 /\ (0 : Int) < ((4 : Nat) : Int) from ⟨by decide, by decide⟩)
 have e920 := (show loadL Go.Proofs.Try.prog 98 ((0 : Int).toNat * 1) ([VV.fn 102 [VV.tp [vb a0.1.1] 0, VV.tp [vi a0.1.2] 0], VV.fn 102 [VV.tp [vb a0.2.1.1] 0, VV.tp [vi a0.2.1.2] 0], VV.fn 102 [VV.tp [vb a0.2.2.1.1] 0, VV.tp [vi a0.2.2.1.2] 0], VV.fn 114 [VV.tp [VV.tr (List.map vi a0.2.2.2.1) a0.2.2.2.1.length] 0, VV.tp [vi a0.2.2.2.2.1] 0, VV.tp [vi a0.2.2.2.2.2] 0]]) = some (VV.fn 102 [VV.tp [vb a0.1.1] 0, VV.tp [vi a0.1.2] 0]) from (ld_one ag98 rfl))
 obtain ⟨r921, h922, h⟩ := bs h
 have e923 := (ngrind_need_1_ok k a0.1.1 a0.1.2 _ h922)
 rcases ifs h with ⟨h924, h⟩ | ⟨h924, h⟩
 ·have e925 := (show (0 : Int) <= 1 /\ (1 : Int) < ((4 : Nat) : Int) from ⟨by decide, by decide⟩)
  have e926 := (show loadL Go.Proofs.Try.prog 98 ((1 : Int).toNat * 1) ([VV.fn 102 [VV.tp [vb a0.1.1] 0, VV.tp [vi a0.1.2] 0], VV.fn 102 [VV.tp [vb a0.2.1.1] 0, VV.tp [vi a0.2.1.2] 0], VV.fn 102 [VV.tp [vb a0.2.2.1.1] 0, VV.tp [vi a0.2.2.1.2] 0], VV.fn 114 [VV.tp [VV.tr (List.map vi a0.2.2.2.1) a0.2.2.2.1.length] 0, VV.tp [vi a0.2.2.2.2.1] 0, VV.tp [vi a0.2.2.2.2.2] 0]]) = some (VV.fn 102 [VV.tp [vb a0.2.1.1] 0, VV.tp [vi a0.2.1.2] 0]) from (ld_one ag98 rfl))
  obtain ⟨r927, h928, h⟩ := bs h
  have e929 := (ngrind_need_1_ok k a0.2.1.1 a0.2.1.2 _ h928)
  rcases ifs h with ⟨h930, h⟩ | ⟨h930, h⟩
  ·have e931 := (show (0 : Int) <= 2 /\ (2 : Int) < ((4 : Nat) : Int) from ⟨by decide, by decide⟩)
   have e932 := (show loadL Go.Proofs.Try.prog 98 ((2 : Int).toNat * 1) ([VV.fn 102 [VV.tp [vb a0.1.1] 0, VV.tp [vi a0.1.2] 0], VV.fn 102 [VV.tp [vb a0.2.1.1] 0, VV.tp [vi a0.2.1.2] 0], VV.fn 102 [VV.tp [vb a0.2.2.1.1] 0, VV.tp [vi a0.2.2.1.2] 0], VV.fn 114 [VV.tp [VV.tr (List.map vi a0.2.2.2.1) a0.2.2.2.1.length] 0, VV.tp [vi a0.2.2.2.2.1] 0, VV.tp [vi a0.2.2.2.2.2] 0]]) = some (VV.fn 102 [VV.tp [vb a0.2.2.1.1] 0, VV.tp [vi a0.2.2.1.2] 0]) from (ld_one ag98 rfl))
   obtain ⟨r933, h934, h⟩ := bs h
   have e935 := (ngrind_need_1_ok k a0.2.2.1.1 a0.2.2.1.2 _ h934)
   rcases ifs h with ⟨h936, h⟩ | ⟨h936, h⟩
   ·have e937 := (show (0 : Int) <= 3 /\ (3 : Int) < ((4 : Nat) : Int) from ⟨by decide, by decide⟩)
    have e938 := (show loadL Go.Proofs.Try.prog 98 ((3 : Int).toNat * 1) ([VV.fn 102 [VV.tp [vb a0.1.1] 0, VV.tp [vi a0.1.2] 0], VV.fn 102 [VV.tp [vb a0.2.1.1] 0, VV.tp [vi a0.2.1.2] 0], VV.fn 102 [VV.tp [vb a0.2.2.1.1] 0, VV.tp [vi a0.2.2.1.2] 0], VV.fn 114 [VV.tp [VV.tr (List.map vi a0.2.2.2.1) a0.2.2.2.1.length] 0, VV.tp [vi a0.2.2.2.2.1] 0, VV.tp [vi a0.2.2.2.2.2] 0]]) = some (VV.fn 114 [VV.tp [VV.tr (List.map vi a0.2.2.2.1) a0.2.2.2.1.length] 0, VV.tp [vi a0.2.2.2.2.1] 0, VV.tp [vi a0.2.2.2.2.2] 0]) from (ld_one ag98 rfl))
    obtain ⟨r939, h940, h⟩ := bs h
    have e941 := (ngrind_within_1_ok k a0.2.2.2.1 a0.2.2.2.2.1 a0.2.2.2.2.2 _ h940)
    rcases ifs h with ⟨h942, h⟩ | ⟨h942, h⟩
    ·injection h with h; subst h
     exact fun_ok pm pn Go.Proofs.Try.func49 (r0 := vi 0) (ans := [.reg (.n :: []), .reg (nN 3 []), .unr 6, .reg (.n :: []), .br true, .reg (.n :: .v (VV.fn 102 [VV.tp [vb a0.1.1] 0, VV.tp [vi a0.1.2] 0]) :: .n :: []), .reg (.n :: .call (vi r921) :: .n :: []), .reg (.n :: .n :: []), .br false, .reg (.n :: .n :: []), .reg (.n :: []), .br true, .reg (.n :: .v (VV.fn 102 [VV.tp [vb a0.2.1.1] 0, VV.tp [vi a0.2.1.2] 0]) :: .n :: []), .reg (.n :: .call (vi r927) :: .n :: []), .reg (.n :: .n :: []), .br false, .reg (.n :: .n :: []), .reg (.n :: []), .br true, .reg (.n :: .v (VV.fn 102 [VV.tp [vb a0.2.2.1.1] 0, VV.tp [vi a0.2.2.1.2] 0]) :: .n :: []), .reg (.n :: .call (vi r933) :: .n :: []), .reg (.n :: .n :: []), .br false, .reg (.n :: .n :: []), .reg (.n :: []), .br true, .reg (arK4_6 a0), .reg (.n :: .call (vi r939) :: .n :: []), .reg (.n :: .n :: []), .br false, .reg (.n :: .n :: []), .reg (.n :: []), .br false, .reg (.n :: [])]) (fr := true) (by kernel_rfl) (an (an (ti trivial) (an (an (ti (ti (ti trivial))) (an (an (ti trivial) (an (an (show (decide ((0 : Int) < 4)) = true from (decide_eq_true (by decide))) trivial) (an (an (an e919 (an e920 (ti trivial))) (an (ti (an e923 (ti trivial))) (an (ti (ti trivial)) (an (not_f (decide_eq_true h924)) trivial)))) (ti (ti trivial))))) (an (an (ti trivial) (an (an (show (decide ((1 : Int) < 4)) = true from (decide_eq_true (by decide))) trivial) (an (an (an e925 (an e926 (ti trivial))) (an (ti (an e929 (ti trivial))) (an (ti (ti trivial)) (an (not_f (decide_eq_true h930)) trivial)))) (ti (ti trivial))))) (an (an (ti trivial) (an (an (show (decide ((2 : Int) < 4)) = true from (decide_eq_true (by decide))) trivial) (an (an (an e931 (an e932 (ti trivial))) (an (ti (an e935 (ti trivial))) (an (ti (ti trivial)) (an (not_f (decide_eq_true h936)) trivial)))) (ti (ti trivial))))) (an (an (ti trivial) (an (an (show (decide ((3 : Int) < 4)) = true from (decide_eq_true (by decide))) trivial) (an (an (an e937 (an e938 (ti trivial))) (an (ti (an e941 (ti trivial))) (an (ti (ti trivial)) (an (not_f (decide_eq_true h942)) trivial)))) (ti (ti trivial))))) (an (ti trivial) (an (show (decide ((4 : Int) < 4)) = false from (decide_eq_false (by decide))) trivial))))))) (an (ti trivial) trivial))) (ti trivial)) (Wv.refl _)
    ·injection h with h; subst h
     exact fun_ok pm pn Go.Proofs.Try.func49 (r0 := vi r939) (ans := [.reg (.n :: []), .reg (nN 3 []), .unr 5, .reg (.n :: []), .br true, .reg (.n :: .v (VV.fn 102 [VV.tp [vb a0.1.1] 0, VV.tp [vi a0.1.2] 0]) :: .n :: []), .reg (.n :: .call (vi r921) :: .n :: []), .reg (.n :: .n :: []), .br false, .reg (.n :: .n :: []), .reg (.n :: []), .br true, .reg (.n :: .v (VV.fn 102 [VV.tp [vb a0.2.1.1] 0, VV.tp [vi a0.2.1.2] 0]) :: .n :: []), .reg (.n :: .call (vi r927) :: .n :: []), .reg (.n :: .n :: []), .br false, .reg (.n :: .n :: []), .reg (.n :: []), .br true, .reg (.n :: .v (VV.fn 102 [VV.tp [vb a0.2.2.1.1] 0, VV.tp [vi a0.2.2.1.2] 0]) :: .n :: []), .reg (.n :: .call (vi r933) :: .n :: []), .reg (.n :: .n :: []), .br false, .reg (.n :: .n :: []), .reg (.n :: []), .br true, .reg (arK4_6 a0), .reg (.n :: .call (vi r939) :: .n :: []), .reg (.n :: .n :: []), .br true, .reg (.n :: .n :: [])]) (fr := true) (by kernel_rfl) (an (an (ti trivial) (an (ti (ti (ti trivial))) (an (an (ti trivial) (an (an (show (decide ((0 : Int) < 4)) = true from (decide_eq_true (by decide))) trivial) (an (an (an e919 (an e920 (ti trivial))) (an (ti (an e923 (ti trivial))) (an (ti (ti trivial)) (an (not_f (decide_eq_true h924)) trivial)))) (ti (ti trivial))))) (an (an (ti trivial) (an (an (show (decide ((1 : Int) < 4)) = true from (decide_eq_true (by decide))) trivial) (an (an (an e925 (an e926 (ti trivial))) (an (ti (an e929 (ti trivial))) (an (ti (ti trivial)) (an (not_f (decide_eq_true h930)) trivial)))) (ti (ti trivial))))) (an (an (ti trivial) (an (an (show (decide ((2 : Int) < 4)) = true from (decide_eq_true (by decide))) trivial) (an (an (an e931 (an e932 (ti trivial))) (an (ti (an e935 (ti trivial))) (an (ti (ti trivial)) (an (not_f (decide_eq_true h936)) trivial)))) (ti (ti trivial))))) (an (ti trivial) (an (an (show (decide ((3 : Int) < 4)) = true from (decide_eq_true (by decide))) trivial) (an (an e937 (an e938 (ti trivial))) (an (ti (an e941 (ti trivial))) (an (ti (ti trivial)) (an (not_t (decide_eq_false h942)) (an (ti (ti trivial)) trivial)))))))))))) (ti trivial)) (Wv.refl _)
   ·injection h with h; subst h
    exact fun_ok pm pn Go.Proofs.Try.func49 (r0 := vi r933) (ans := [.reg (.n :: []), .reg (nN 3 []), .unr 4, .reg (.n :: []), .br true, .reg (.n :: .v (VV.fn 102 [VV.tp [vb a0.1.1] 0, VV.tp [vi a0.1.2] 0]) :: .n :: []), .reg (.n :: .call (vi r921) :: .n :: []), .reg (.n :: .n :: []), .br false, .reg (.n :: .n :: []), .reg (.n :: []), .br true, .reg (.n :: .v (VV.fn 102 [VV.tp [vb a0.2.1.1] 0, VV.tp [vi a0.2.1.2] 0]) :: .n :: []), .reg (.n :: .call (vi r927) :: .n :: []), .reg (.n :: .n :: []), .br false, .reg (.n :: .n :: []), .reg (.n :: []), .br true, .reg (.n :: .v (VV.fn 102 [VV.tp [vb a0.2.2.1.1] 0, VV.tp [vi a0.2.2.1.2] 0]) :: .n :: []), .reg (.n :: .call (vi r933) :: .n :: []), .reg (.n :: .n :: []), .br true, .reg (.n :: .n :: [])]) (fr := true) (by kernel_rfl) (an (an (ti trivial) (an (ti (ti (ti trivial))) (an (an (ti trivial) (an (an (show (decide ((0 : Int) < 4)) = true from (decide_eq_true (by decide))) trivial) (an (an (an e919 (an e920 (ti trivial))) (an (ti (an e923 (ti trivial))) (an (ti (ti trivial)) (an (not_f (decide_eq_true h924)) trivial)))) (ti (ti trivial))))) (an (an (ti trivial) (an (an (show (decide ((1 : Int) < 4)) = true from (decide_eq_true (by decide))) trivial) (an (an (an e925 (an e926 (ti trivial))) (an (ti (an e929 (ti trivial))) (an (ti (ti trivial)) (an (not_f (decide_eq_true h930)) trivial)))) (ti (ti trivial))))) (an (ti trivial) (an (an (show (decide ((2 : Int) < 4)) = true from (decide_eq_true (by decide))) trivial) (an (an e931 (an e932 (ti trivial))) (an (ti (an e935 (ti trivial))) (an (ti (ti trivial)) (an (not_t (decide_eq_false h936)) (an (ti (ti trivial)) trivial))))))))))) (ti trivial)) (Wv.refl _)
  ·injection h with h; subst h
   exact fun_ok pm pn Go.Proofs.Try.func49 (r0 := vi r927) (ans := [.reg (.n :: []), .reg (nN 3 []), .unr 3, .reg (.n :: []), .br true, .reg (.n :: .v (VV.fn 102 [VV.tp [vb a0.1.1] 0, VV.tp [vi a0.1.2] 0]) :: .n :: []), .reg (.n :: .call (vi r921) :: .n :: []), .reg (.n :: .n :: []), .br false, .reg (.n :: .n :: []), .reg (.n :: []), .br true, .reg (.n :: .v (VV.fn 102 [VV.tp [vb a0.2.1.1] 0, VV.tp [vi a0.2.1.2] 0]) :: .n :: []), .reg (.n :: .call (vi r927) :: .n :: []), .reg (.n :: .n :: []), .br true, .reg (.n :: .n :: [])]) (fr := true) (by kernel_rfl) (an (an (ti trivial) (an (ti (ti (ti trivial))) (an (an (ti trivial) (an (an (show (decide ((0 : Int) < 4)) = true from (decide_eq_true (by decide))) trivial) (an (an (an e919 (an e920 (ti trivial))) (an (ti (an e923 (ti trivial))) (an (ti (ti trivial)) (an (not_f (decide_eq_true h924)) trivial)))) (ti (ti trivial))))) (an (ti trivial) (an (an (show (decide ((1 : Int) < 4)) = true from (decide_eq_true (by decide))) trivial) (an (an e925 (an e926 (ti trivial))) (an (ti (an e929 (ti trivial))) (an (ti (ti trivial)) (an (not_t (decide_eq_false h930)) (an (ti (ti trivial)) trivial)))))))))) (ti trivial)) (Wv.refl _)
 ·injection h with h; subst h
  exact fun_ok pm pn Go.Proofs.Try.func49 (r0 := vi r921) (ans := [.reg (.n :: []), .reg (nN 3 []), .unr 2, .reg (.n :: []), .br true, .reg (.n :: .v (VV.fn 102 [VV.tp [vb a0.1.1] 0, VV.tp [vi a0.1.2] 0]) :: .n :: []), .reg (.n :: .call (vi r921) :: .n :: []), .reg (.n :: .n :: []), .br true, .reg (.n :: .n :: [])]) (fr := true) (by kernel_rfl) (an (an (ti trivial) (an (ti (ti (ti trivial))) (an (ti trivial) (an (an (show (decide ((0 : Int) < 4)) = true from (decide_eq_true (by decide))) trivial) (an (an e919 (an e920 (ti trivial))) (an (ti (an e923 (ti trivial))) (an (ti (ti trivial)) (an (not_t (decide_eq_false h924)) (an (ti (ti trivial)) trivial))))))))) (ti trivial)) (Wv.refl _)
theorem eqK4_1 (z0 : (Bool × Int)) (z1 : (Bool × Int)) (z2 : (Bool × Int)) (z3 : ((List Int) × Int × Int)) : [VV.tr ([VV.fn 102 [VV.tp [vb (((z0, z1, z2, z3).1).1)] 0, VV.tp [vi (((z0, z1, z2, z3).1).2)] 0], VV.fn 102 [VV.tp [vb (((z0, z1, z2, z3).2.1).1)] 0, VV.tp [vi (((z0, z1, z2, z3).2.1).2)] 0], VV.fn 102 [VV.tp [vb (((z0, z1, z2, z3).2.2.1).1)] 0, VV.tp [vi (((z0, z1, z2, z3).2.2.1).2)] 0], VV.fn 114 [VV.tp [VV.tr (List.map vi (((z0, z1, z2, z3).2.2.2).1)) ((((z0, z1, z2, z3).2.2.2).1).length)] 0, VV.tp [vi (((z0, z1, z2, z3).2.2.2).2.1)] 0, VV.tp [vi (((z0, z1, z2, z3).2.2.2).2.2)] 0]]) 4] = [VV.tr (List.drop 0 (List.map unfr [VV.fn 102 [VV.tp [vb z0.1] 0, VV.tp [vi z0.2] 0], VV.fn 102 [VV.tp [vb z1.1] 0, VV.tp [vi z1.2] 0], VV.fn 102 [VV.tp [vb z2.1] 0, VV.tp [vi z2.2] 0], VV.fn 114 [VV.tp [VV.tr (List.map vi z3.1) z3.1.length] 0, VV.tp [vi z3.2.1] 0, VV.tp [vi z3.2.2] 0]])) 4] := by first | rfl | (simp only [drop0, unfr_vi, unfr_vb, List.map_cons, List.map_nil, un_i, un_b, un_tr, List.length_map, List.length_cons, List.length_nil]; done) | (simp only [drop0, unfr_vi, unfr_vb, List.map_cons, List.map_nil, un_i, un_b, un_tr, List.length_map, List.length_cons, List.length_nil]; rfl) | (simp only [drop0, unfr_vi, unfr_vb, List.map_cons, List.map_nil, un_i, un_b, un_tr, List.length_map, List.length_cons, List.length_nil, List.length_cons, List.length_nil, List.length_append]; done)
def arK4_12 (z0 : (List SStroke)) (z1 : Int) (z2 : List (ByteArray × Bool)) : List Ans := (.n :: .v (VV.tr (List.flatMap c_SStroke z0) z0.length) :: nN 3 (.v (vs ((z0.getD z1.toNat default).Name)) :: .v (vb (mget z2 ((z0.getD z1.toNat default).Name))) :: .v (VV.tr (List.flatMap c_SStroke z0) z0.length) :: nN 3 (.v (VV.tr (List.map vi ((z0.getD z1.toNat default).Wear)) (((z0.getD z1.toNat default).Wear).length)) :: nN 3 [])))
def arK4_13 (z0 : (List SStroke)) (z1 : Int) : List Ans := (.n :: .v (VV.tr (List.flatMap c_SStroke z0) z0.length) :: nN 3 (.v (vs ((z0.getD z1.toNat default).Name)) :: .n :: []))
def arK4_14 (z0 : (List SStroke)) (z1 : Int) (z2 : (Bool × Int)) (z3 : (Bool × Int)) (z4 : Bool) (z5 : (Bool × Int)) (z6 : ((List Int) × Int × Int)) (z7 : Int) : List Ans := (.v (VV.tr (List.flatMap c_SStroke z0) z0.length) :: nN 3 (.v (vs ((z0.getD z1.toNat default).Name)) :: .call (VV.fn 102 [VV.tp [vb z2.1] 0, VV.tp [vi z2.2] 0]) :: .n :: .n :: .call (VV.fn 102 [VV.tp [vb z3.1] 0, VV.tp [vi z3.2] 0]) :: .n :: .v (VV.tr (List.flatMap c_SStroke z0) z0.length) :: .n :: .n :: .v (VV.tr (List.map vi ((z0.getD ((0 : Int)).toNat default).Wear)) (((z0.getD ((0 : Int)).toNat default).Wear).length)) :: nN 4 (.call (vb z4) :: .b true :: .call (VV.fn 102 [VV.tp [vb z5.1] 0, VV.tp [vi z5.2] 0]) :: .v (VV.tr (List.flatMap c_SStroke z0) z0.length) :: nN 3 (.v (VV.tr (List.map vi ((z0.getD z1.toNat default).Wear)) (((z0.getD z1.toNat default).Wear).length)) :: .call (VV.fn 114 [VV.tp [VV.tr (List.map vi z6.1) z6.1.length] 0, VV.tp [vi z6.2.1] 0, VV.tp [vi z6.2.2] 0]) :: .n :: .call (vi z7) :: .n :: []))))
def arK4_15 (z0 : (List SStroke)) (z1 : Int) (z2 : (Bool × Int)) (z3 : (Bool × Int)) (z4 : (Bool × Int)) (z5 : ((List Int) × Int × Int)) (z6 : Int) : List Ans := (.v (VV.tr (List.flatMap c_SStroke z0) z0.length) :: nN 3 (.v (vs ((z0.getD z1.toNat default).Name)) :: .call (VV.fn 102 [VV.tp [vb z2.1] 0, VV.tp [vi z2.2] 0]) :: .n :: .n :: .call (VV.fn 102 [VV.tp [vb z3.1] 0, VV.tp [vi z3.2] 0]) :: .n :: .v (VV.tr (List.flatMap c_SStroke z0) z0.length) :: .n :: .n :: .v (VV.tr (List.map vi ((z0.getD ((0 : Int)).toNat default).Wear)) (((z0.getD ((0 : Int)).toNat default).Wear).length)) :: nN 3 (.skip :: .skip :: .b false :: .call (VV.fn 102 [VV.tp [vb z4.1] 0, VV.tp [vi z4.2] 0]) :: .v (VV.tr (List.flatMap c_SStroke z0) z0.length) :: nN 3 (.v (VV.tr (List.map vi ((z0.getD z1.toNat default).Wear)) (((z0.getD z1.toNat default).Wear).length)) :: .call (VV.fn 114 [VV.tp [VV.tr (List.map vi z5.1) z5.1.length] 0, VV.tp [vi z5.2.1] 0, VV.tp [vi z5.2.2] 0]) :: .n :: .call (vi z6) :: .n :: []))))
def arK4_16 (z0 : (List SStroke)) (z1 : Int) : List Ans := (.n :: .v (VV.tr (List.flatMap c_SStroke z0) z0.length) :: nN 3 (.v (vs ((z0.getD z1.toNat default).Name)) :: .b false :: .v (VV.tr (List.flatMap c_SStroke z0) z0.length) :: nN 3 (.v (VV.tr (List.map vi ((z0.getD z1.toNat default).Wear)) (((z0.getD z1.toNat default).Wear).length)) :: nN 3 [])))
noncomputable def arK4_17 (z0 : (List SStroke)) (z1 : Int) (z2 : List (ByteArray × Bool)) (z3 : (Bool × Int)) (z4 : (Bool × Int)) (z5 : Bool) (z6 : (Bool × Int)) (z7 : ((List Int) × Int × Int)) (z8 : Int) : List Ans := (.n :: .n :: .inl (inlF Go.Proofs.Try.f116 [.reg (.n :: []), .reg (arK4_12 z0 z1 z2), .reg (arK4_13 z0 z1), .reg (arK4_14 z0 z1 z3 z4 z5 z6 z7 z8)]) :: .n :: [])
noncomputable def arK4_18 (z0 : (List SStroke)) (z1 : Int) (z2 : List (ByteArray × Bool)) (z3 : (Bool × Int)) (z4 : (Bool × Int)) (z5 : (Bool × Int)) (z6 : ((List Int) × Int × Int)) (z7 : Int) : List Ans := (.n :: .n :: .inl (inlF Go.Proofs.Try.f116 [.reg (.n :: []), .reg (arK4_12 z0 z1 z2), .reg (arK4_13 z0 z1), .reg (arK4_15 z0 z1 z3 z4 z5 z6 z7)]) :: .n :: [])
noncomputable def arK4_19 (z0 : (List SStroke)) (z1 : Int) (z2 : (Bool × Int)) (z3 : (Bool × Int)) (z4 : Bool) (z5 : (Bool × Int)) (z6 : ((List Int) × Int × Int)) (z7 : Int) : List Ans := (.n :: .n :: .inl (inlF Go.Proofs.Try.f116 [.reg (.n :: []), .reg (arK4_16 z0 z1), .reg (arK4_13 z0 z1), .reg (arK4_14 z0 z1 z2 z3 z4 z5 z6 z7)]) :: .n :: [])
noncomputable def arK4_20 (z0 : (List SStroke)) (z1 : Int) (z2 : (Bool × Int)) (z3 : (Bool × Int)) (z4 : (Bool × Int)) (z5 : ((List Int) × Int × Int)) (z6 : Int) : List Ans := (.n :: .n :: .inl (inlF Go.Proofs.Try.f116 [.reg (.n :: []), .reg (arK4_16 z0 z1), .reg (arK4_13 z0 z1), .reg (arK4_15 z0 z1 z2 z3 z4 z5 z6)]) :: .n :: [])
def arK4_21 (z0 : (List SStroke)) : List Ans := (nN 3 (.v (VV.tr (List.map vi ((z0.getD ((0 : Int)).toNat default).Wear)) (((z0.getD ((0 : Int)).toNat default).Wear).length)) :: .n :: .n :: []))
def ngrind_zonesOf (k : Nat) (a0 : (List SStroke)) : Option Int :=
 if (0 : Int) <= 0 /\ 0 < (a0.length : Int) then (some (((a0.getD ((0 : Int)).toNat default).Wear).length : Int)) else none
theorem ngrind_zonesOf_ok (k : Nat) (a0 : (List SStroke)) (r : Int) (h : ngrind_zonesOf k a0 = some r) : VC Go.Proofs.Try.prog 68 [VV.tr (List.flatMap c_SStroke a0) a0.length] (vi r) := by
 unfold ngrind_zonesOf at h
 obtain ⟨h1225, h⟩ := ifn h
 have e1226 := (show loadL Go.Proofs.Try.prog 23 (((0 : Int)).toNat * 2 + 1) (List.flatMap c_SStroke a0) = some (VV.tr (List.map vi ((a0.getD ((0 : Int)).toNat default).Wear)) (((a0.getD ((0 : Int)).toNat default).Wear).length)) from (ld_flat ag23 c_SStroke 2 1 len_c_SStroke (by omega) a0 default h1225 (by omega)).trans rfl)
 injection h with h; subst h
 exact fun_ok pm pn Go.Proofs.Try.func68 (r0 := vi (((a0.getD ((0 : Int)).toNat default).Wear).length : Int)) (ans := [.reg (.n :: []), .reg (arK4_21 a0)]) (fr := true) (by kernel_rfl) (an (an (ti trivial) (an (ti (an h1225 (ti (an e1226 (ti (ti trivial)))))) trivial)) (ti trivial)) (Wv.refl _)
def ngrind_CheckStrokes_i49_i117_l0_0_h (a0 : (List SStroke)) (r1245 : (Bool × Int)) (r1249 : (Bool × Int)) (r1260 : Int) (y1 : List (ByteArray × Bool)) (x6 : Int) : VS := ⟨mkA [(1, VV.pt 4 0), (5, vi (a0.length : Int)), (6, vi x6)], [none, some ⟨true, bigX + 1, List.flatMap (mpE vb) y1⟩, some ⟨true, 1, [VV.mp 1]⟩, none, some ⟨true, 1, [VV.fn 116 [VV.pt 2 0, VV.tp [VV.tr (List.flatMap c_SStroke a0) a0.length] 0]]⟩, some ⟨true, 1, [VV.fn 102 [VV.tp [vb r1245.1] 0, VV.tp [vi r1245.2] 0], VV.fn 102 [VV.tp [vb r1249.1] 0, VV.tp [vi r1249.2] 0], VV.fn 117 [VV.tp [vi (a0.length : Int)] 0, VV.pt 4 0]]⟩], (.node none (mkA [(0, VV.rf 5 0 3), (2, vi 0), (4, VV.fn 117 [VV.tp [vi (a0.length : Int)] 0, VV.pt 4 0]), (5, vi r1260), (6, VV.rf 5 0 3), (7, vi 3), (8, vi 2), (9, vb (decide ((2 : Int) < 3))), (10, VV.pt 5 2), (11, VV.fn 117 [VV.tp [vi (a0.length : Int)] 0, VV.pt 4 0]), (12, VV.fn 117 [VV.tp [vi (a0.length : Int)] 0, VV.pt 4 0]), (13, vi r1260), (14, vi r1260), (15, vb (!(decide (r1260 = 0)))), (17, vi 2)]) (.node none (mkA [(0, VV.tr (List.flatMap c_SStroke a0) a0.length), (1, VV.tp [VV.tr (List.flatMap c_SStroke a0) a0.length] 0), (2, vi 0), (3, vi 0), (4, VV.pt 2 0), (6, VV.mp 1), (7, VV.tr (List.flatMap c_SStroke a0) a0.length), (8, vi (a0.length : Int)), (9, vb (decide (0 < (a0.length : Int)))), (10, VV.fn 102 [VV.tp [vb r1245.1] 0, VV.tp [vi r1245.2] 0]), (11, VV.tr (List.flatMap c_SStroke a0) a0.length), (12, vi (a0.length : Int)), (13, vb (decide ((a0.length : Int) <= 12))), (14, VV.fn 102 [VV.tp [vb r1249.1] 0, VV.tp [vi r1249.2] 0]), (15, VV.tr (List.flatMap c_SStroke a0) a0.length), (16, vi (a0.length : Int)), (17, VV.fn 116 [VV.pt 2 0, VV.tp [VV.tr (List.flatMap c_SStroke a0) a0.length] 0]), (18, VV.fn 117 [VV.tp [vi (a0.length : Int)] 0, VV.pt 4 0]), (19, VV.rf 5 0 3)]) .nil))⟩
def ngrind_CheckStrokes_i49_i117_l0_0_e0 (a0 : (List SStroke)) (r1245 : (Bool × Int)) (r1249 : (Bool × Int)) (r1260 : Int) (r : Int × (List (ByteArray × Bool))) : VS := ⟨mkA [(2, vi r.1)], [none, some ⟨true, bigX + 1, List.flatMap (mpE vb) r.2⟩, some ⟨true, 1, [VV.mp 1]⟩, none, some ⟨true, 1, [VV.fn 116 [VV.pt 2 0, VV.tp [VV.tr (List.flatMap c_SStroke a0) a0.length] 0]]⟩, some ⟨true, 1, [VV.fn 102 [VV.tp [vb r1245.1] 0, VV.tp [vi r1245.2] 0], VV.fn 102 [VV.tp [vb r1249.1] 0, VV.tp [vi r1249.2] 0], VV.fn 117 [VV.tp [vi (a0.length : Int)] 0, VV.pt 4 0]]⟩], (.node none (mkA [(0, VV.rf 5 0 3), (2, vi 0), (4, VV.fn 117 [VV.tp [vi (a0.length : Int)] 0, VV.pt 4 0]), (5, vi r1260), (6, VV.rf 5 0 3), (7, vi 3), (8, vi 2), (9, vb (decide ((2 : Int) < 3))), (10, VV.pt 5 2), (11, VV.fn 117 [VV.tp [vi (a0.length : Int)] 0, VV.pt 4 0]), (12, VV.fn 117 [VV.tp [vi (a0.length : Int)] 0, VV.pt 4 0]), (13, vi r1260), (14, vi r1260), (15, vb (!(decide (r1260 = 0)))), (17, vi 2)]) (.node none (mkA [(0, VV.tr (List.flatMap c_SStroke a0) a0.length), (1, VV.tp [VV.tr (List.flatMap c_SStroke a0) a0.length] 0), (2, vi 0), (3, vi 0), (4, VV.pt 2 0), (6, VV.mp 1), (7, VV.tr (List.flatMap c_SStroke a0) a0.length), (8, vi (a0.length : Int)), (9, vb (decide (0 < (a0.length : Int)))), (10, VV.fn 102 [VV.tp [vb r1245.1] 0, VV.tp [vi r1245.2] 0]), (11, VV.tr (List.flatMap c_SStroke a0) a0.length), (12, vi (a0.length : Int)), (13, vb (decide ((a0.length : Int) <= 12))), (14, VV.fn 102 [VV.tp [vb r1249.1] 0, VV.tp [vi r1249.2] 0]), (15, VV.tr (List.flatMap c_SStroke a0) a0.length), (16, vi (a0.length : Int)), (17, VV.fn 116 [VV.pt 2 0, VV.tp [VV.tr (List.flatMap c_SStroke a0) a0.length] 0]), (18, VV.fn 117 [VV.tp [vi (a0.length : Int)] 0, VV.pt 4 0]), (19, VV.rf 5 0 3)]) .nil))⟩
def ngrind_CheckStrokes_i49_i117_l0_0_e1 (a0 : (List SStroke)) (r1245 : (Bool × Int)) (r1249 : (Bool × Int)) (r1260 : Int) (r : (List (ByteArray × Bool))) : VS := ⟨mkA [], [none, some ⟨true, bigX + 1, List.flatMap (mpE vb) r⟩, some ⟨true, 1, [VV.mp 1]⟩, none, some ⟨true, 1, [VV.fn 116 [VV.pt 2 0, VV.tp [VV.tr (List.flatMap c_SStroke a0) a0.length] 0]]⟩, some ⟨true, 1, [VV.fn 102 [VV.tp [vb r1245.1] 0, VV.tp [vi r1245.2] 0], VV.fn 102 [VV.tp [vb r1249.1] 0, VV.tp [vi r1249.2] 0], VV.fn 117 [VV.tp [vi (a0.length : Int)] 0, VV.pt 4 0]]⟩], (.node none (mkA [(0, VV.rf 5 0 3), (2, vi 0), (4, VV.fn 117 [VV.tp [vi (a0.length : Int)] 0, VV.pt 4 0]), (5, vi r1260), (6, VV.rf 5 0 3), (7, vi 3), (8, vi 2), (9, vb (decide ((2 : Int) < 3))), (10, VV.pt 5 2), (11, VV.fn 117 [VV.tp [vi (a0.length : Int)] 0, VV.pt 4 0]), (12, VV.fn 117 [VV.tp [vi (a0.length : Int)] 0, VV.pt 4 0]), (13, vi r1260), (14, vi r1260), (15, vb (!(decide (r1260 = 0)))), (17, vi 2)]) (.node none (mkA [(0, VV.tr (List.flatMap c_SStroke a0) a0.length), (1, VV.tp [VV.tr (List.flatMap c_SStroke a0) a0.length] 0), (2, vi 0), (3, vi 0), (4, VV.pt 2 0), (6, VV.mp 1), (7, VV.tr (List.flatMap c_SStroke a0) a0.length), (8, vi (a0.length : Int)), (9, vb (decide (0 < (a0.length : Int)))), (10, VV.fn 102 [VV.tp [vb r1245.1] 0, VV.tp [vi r1245.2] 0]), (11, VV.tr (List.flatMap c_SStroke a0) a0.length), (12, vi (a0.length : Int)), (13, vb (decide ((a0.length : Int) <= 12))), (14, VV.fn 102 [VV.tp [vb r1249.1] 0, VV.tp [vi r1249.2] 0]), (15, VV.tr (List.flatMap c_SStroke a0) a0.length), (16, vi (a0.length : Int)), (17, VV.fn 116 [VV.pt 2 0, VV.tp [VV.tr (List.flatMap c_SStroke a0) a0.length] 0]), (18, VV.fn 117 [VV.tp [vi (a0.length : Int)] 0, VV.pt 4 0]), (19, VV.rf 5 0 3)]) .nil))⟩
def ngrind_CheckStrokes_i49_i117_l0_0 (k : Nat) (a0 : (List SStroke)) (r1245 : (Bool × Int)) (r1249 : (Bool × Int)) (r1260 : Int) : Nat -> (List (ByteArray × Bool)) -> Int -> Option (Sum (Int × (List (ByteArray × Bool))) (List (ByteArray × Bool)))
 | 0, _, _ => none
 | fuel + 1, y1, x6 => if x6 < (a0.length : Int) then (if 0 <= x6 /\ x6 < (a0.length : Int) then (if mhas y1 ((a0.getD x6.toNat default).Name) = true then ((ngrind_named k ((a0.getD x6.toNat default).Name)).bind fun r1483 => ((ngrind_need k (!(mget y1 ((a0.getD x6.toNat default).Name))) 5).bind fun r1486 => (if (0 : Int) <= 0 /\ 0 < (a0.length : Int) then (if (((a0.getD x6.toNat default).Wear).length : Int) = (((a0.getD ((0 : Int)).toNat default).Wear).length : Int) then ((ngrind_isWithin k (((a0.getD x6.toNat default).Wear).length : Int) 1 40).bind fun r1493 => ((ngrind_need k r1493 10).bind fun r1496 => ((ngrind_within k 0 100 ((a0.getD x6.toNat default).Wear)).bind fun r1500 => ((ngrind_firstOf_c0_Lgrind_need_1_grind_need_1_grind_need_1_grind_within_1 k (r1483, r1486, r1496, r1500)).bind fun r1503 => (if r1503 = 0 then (ngrind_CheckStrokes_i49_i117_l0_0 k a0 r1245 r1249 r1260 fuel (mset y1 ((a0.getD x6.toNat default).Name) true) (w64 (x6 + 1))) else (some (.inl (r1503, mset y1 ((a0.getD x6.toNat default).Name) true)))))))) else ((ngrind_need k false 10).bind fun r1509 => ((ngrind_within k 0 100 ((a0.getD x6.toNat default).Wear)).bind fun r1513 => ((ngrind_firstOf_c0_Lgrind_need_1_grind_need_1_grind_need_1_grind_within_1 k (r1483, r1486, r1509, r1513)).bind fun r1516 => (if r1516 = 0 then (ngrind_CheckStrokes_i49_i117_l0_0 k a0 r1245 r1249 r1260 fuel (mset y1 ((a0.getD x6.toNat default).Name) true) (w64 (x6 + 1))) else (some (.inl (r1516, mset y1 ((a0.getD x6.toNat default).Name) true)))))))) else none))) else ((ngrind_named k ((a0.getD x6.toNat default).Name)).bind fun r1532 => ((ngrind_need k (!false) 5).bind fun r1535 => (if (0 : Int) <= 0 /\ 0 < (a0.length : Int) then (if (((a0.getD x6.toNat default).Wear).length : Int) = (((a0.getD ((0 : Int)).toNat default).Wear).length : Int) then ((ngrind_isWithin k (((a0.getD x6.toNat default).Wear).length : Int) 1 40).bind fun r1541 => ((ngrind_need k r1541 10).bind fun r1544 => ((ngrind_within k 0 100 ((a0.getD x6.toNat default).Wear)).bind fun r1548 => ((ngrind_firstOf_c0_Lgrind_need_1_grind_need_1_grind_need_1_grind_within_1 k (r1532, r1535, r1544, r1548)).bind fun r1551 => (if r1551 = 0 then (ngrind_CheckStrokes_i49_i117_l0_0 k a0 r1245 r1249 r1260 fuel (mset y1 ((a0.getD x6.toNat default).Name) true) (w64 (x6 + 1))) else (some (.inl (r1551, mset y1 ((a0.getD x6.toNat default).Name) true)))))))) else ((ngrind_need k false 10).bind fun r1557 => ((ngrind_within k 0 100 ((a0.getD x6.toNat default).Wear)).bind fun r1561 => ((ngrind_firstOf_c0_Lgrind_need_1_grind_need_1_grind_need_1_grind_within_1 k (r1532, r1535, r1557, r1561)).bind fun r1564 => (if r1564 = 0 then (ngrind_CheckStrokes_i49_i117_l0_0 k a0 r1245 r1249 r1260 fuel (mset y1 ((a0.getD x6.toNat default).Name) true) (w64 (x6 + 1))) else (some (.inl (r1564, mset y1 ((a0.getD x6.toNat default).Name) true)))))))) else none)))) else none) else (some (.inr y1))
theorem ngrind_CheckStrokes_i49_i117_l0_0_ok (k : Nat) (a0 : (List SStroke)) (r1245 : (Bool × Int)) (r1249 : (Bool × Int)) (r1260 : Int) : ∀ (fuel : Nat) (y1 : List (ByteArray × Bool)) (x6 : Int) (r : Sum (Int × (List (ByteArray × Bool))) (List (ByteArray × Bool))), ngrind_CheckStrokes_i49_i117_l0_0 k a0 r1245 r1249 r1260 fuel y1 x6 = some r -> (match r with | .inl r => VLoop none Go.Proofs.Try.prog (szF Go.Proofs.Try.f117) (bodyOf Go.Proofs.Try.f117 0) (ngrind_CheckStrokes_i49_i117_l0_0_h a0 r1245 r1249 r1260 y1 x6) .ret (ngrind_CheckStrokes_i49_i117_l0_0_e0 a0 r1245 r1249 r1260 r) | .inr r => VLoop none Go.Proofs.Try.prog (szF Go.Proofs.Try.f117) (bodyOf Go.Proofs.Try.f117 0) (ngrind_CheckStrokes_i49_i117_l0_0_h a0 r1245 r1249 r1260 y1 x6) (.exit 0) (ngrind_CheckStrokes_i49_i117_l0_0_e1 a0 r1245 r1249 r1260 r)) := by
 intro fuel
 induction fuel with
 | zero => intro y1 x6 r h; rw [ngrind_CheckStrokes_i49_i117_l0_0.eq_1] at h; cases h
 | succ fuel ih =>
  intro y1 x6 r h
  rw [ngrind_CheckStrokes_i49_i117_l0_0.eq_2] at h
  rcases ifs h with ⟨h1468, h⟩ | ⟨h1468, h⟩
  ·have e1469 := (show loadL Go.Proofs.Try.prog 22 0 [VV.tr (List.flatMap c_SStroke a0) a0.length] = some (VV.tr (List.flatMap c_SStroke a0) a0.length) from (ld_one ag22 rfl))
   obtain ⟨h1470, h⟩ := ifn h
   have e1471 := (show loadL Go.Proofs.Try.prog 9 (x6.toNat * 2 + 0) (List.flatMap c_SStroke a0) = some (vs ((a0.getD x6.toNat default).Name)) from (ld_flat ag9 c_SStroke 2 0 len_c_SStroke (by omega) a0 default h1470 (by omega)).trans rfl)
   rcases ifs h with ⟨h1472, h⟩ | ⟨h1472, h⟩
   ·have e1473 := (show keysM (kdV (.string ((a0.getD x6.toNat default).Name))) (List.flatMap (mpE vb) y1) = true /\ lkM (.string ((a0.getD x6.toNat default).Name)) (List.flatMap (mpE vb) y1) = some (vb (mget y1 ((a0.getD x6.toNat default).Name))) from ⟨(keysM_mp vb ((a0.getD x6.toNat default).Name) y1), (lkM_has vb ((a0.getD x6.toNat default).Name) y1 h1472)⟩)
    have e1474 := (show loadL Go.Proofs.Try.prog 22 0 [VV.tr (List.flatMap c_SStroke a0) a0.length] = some (VV.tr (List.flatMap c_SStroke a0) a0.length) from (ld_one ag22 rfl))
    have e1475 := (show loadL Go.Proofs.Try.prog 23 (x6.toNat * 2 + 1) (List.flatMap c_SStroke a0) = some (VV.tr (List.map vi ((a0.getD x6.toNat default).Wear)) (((a0.getD x6.toNat default).Wear).length)) from (ld_flat ag23 c_SStroke 2 1 len_c_SStroke (by omega) a0 default h1470 (by omega)).trans rfl)
    have e1476 := (ti (an e1469 (ti (an h1470 (ti (an e1471 (an e1473 (an e1474 (ti (an h1470 (ti (an e1475 (ti (ti (ti trivial)))))))))))))))
    have e1477 := (show loadL Go.Proofs.Try.prog 22 0 [VV.tr (List.flatMap c_SStroke a0) a0.length] = some (VV.tr (List.flatMap c_SStroke a0) a0.length) from (ld_one ag22 rfl))
    have e1478 := (show loadL Go.Proofs.Try.prog 9 (x6.toNat * 2 + 0) (List.flatMap c_SStroke a0) = some (vs ((a0.getD x6.toNat default).Name)) from (ld_flat ag9 c_SStroke 2 0 len_c_SStroke (by omega) a0 default h1470 (by omega)).trans rfl)
    have e1479 := (show keysM (kdV (.string ((a0.getD x6.toNat default).Name))) (List.flatMap (mpE vb) y1) = true from (keysM_mp vb ((a0.getD x6.toNat default).Name) y1))
    have e1480 := (ti (an e1477 (ti (an h1470 (ti (an e1478 (an e1479 trivial)))))))
    have e1481 := (show loadL Go.Proofs.Try.prog 22 0 [VV.tr (List.flatMap c_SStroke a0) a0.length] = some (VV.tr (List.flatMap c_SStroke a0) a0.length) from (ld_one ag22 rfl))
    have e1482 := (show loadL Go.Proofs.Try.prog 9 (x6.toNat * 2 + 0) (List.flatMap c_SStroke a0) = some (vs ((a0.getD x6.toNat default).Name)) from (ld_flat ag9 c_SStroke 2 0 len_c_SStroke (by omega) a0 default h1470 (by omega)).trans rfl)
    obtain ⟨r1483, h1484, h⟩ := bs h
    have e1485 := (ngrind_named_ok k ((a0.getD x6.toNat default).Name) _ h1484)
    obtain ⟨r1486, h1487, h⟩ := bs h
    have e1488 := (ngrind_need_ok k (!(mget y1 ((a0.getD x6.toNat default).Name))) 5 _ h1487)
    have e1489 := (show loadL Go.Proofs.Try.prog 22 0 [VV.tr (List.flatMap c_SStroke a0) a0.length] = some (VV.tr (List.flatMap c_SStroke a0) a0.length) from (ld_one ag22 rfl))
    obtain ⟨h1490, h⟩ := ifn h
    have e1491 := (show loadL Go.Proofs.Try.prog 23 (((0 : Int)).toNat * 2 + 1) (List.flatMap c_SStroke a0) = some (VV.tr (List.map vi ((a0.getD ((0 : Int)).toNat default).Wear)) (((a0.getD ((0 : Int)).toNat default).Wear).length)) from (ld_flat ag23 c_SStroke 2 1 len_c_SStroke (by omega) a0 default h1490 (by omega)).trans rfl)
    rcases ifs h with ⟨h1492, h⟩ | ⟨h1492, h⟩
    ·obtain ⟨r1493, h1494, h⟩ := bs h
     have e1495 := (an (decide_eq_true h1492) (ngrind_isWithin_ok k (((a0.getD x6.toNat default).Wear).length : Int) 1 40 _ h1494))
     obtain ⟨r1496, h1497, h⟩ := bs h
     have e1498 := (show loadL Go.Proofs.Try.prog 22 0 [VV.tr (List.flatMap c_SStroke a0) a0.length] = some (VV.tr (List.flatMap c_SStroke a0) a0.length) from (ld_one ag22 rfl))
     have e1499 := (show loadL Go.Proofs.Try.prog 23 (x6.toNat * 2 + 1) (List.flatMap c_SStroke a0) = some (VV.tr (List.map vi ((a0.getD x6.toNat default).Wear)) (((a0.getD x6.toNat default).Wear).length)) from (ld_flat ag23 c_SStroke 2 1 len_c_SStroke (by omega) a0 default h1470 (by omega)).trans rfl)
     obtain ⟨r1500, h1501, h⟩ := bs h
     have e1502 := (ngrind_within_ok k 0 100 ((a0.getD x6.toNat default).Wear) _ h1501)
     obtain ⟨r1503, h1504, h⟩ := bs h
     have e1505 := (VC.args (ngrind_firstOf_c0_Lgrind_need_1_grind_need_1_grind_need_1_grind_within_1_ok k (r1483, r1486, r1496, r1500) _ h1504) (eqK4_1 r1483 r1486 r1496 r1500))
     have e1506 := (an e1481 (ti (an h1470 (ti (an e1482 (an e1485 (ti (ti (an e1488 (ti (an e1489 (an h1490 (ti (an e1491 (ti (ti (ti (an (an (decide_eq_true h1492) trivial) (an e1495 (an (decide_eq_true h1492) (an (ngrind_need_ok k r1493 10 _ h1497) (an e1498 (ti (an h1470 (ti (an e1499 (an e1502 (ti (an e1505 (ti trivial))))))))))))))))))))))))))))))
     have e1507 := (an (an Go.Proofs.Try.func116 (an (ti trivial) (an e1476 (an e1480 (an e1506 trivial))))) (ti trivial))
     rcases ifs h with ⟨h1508, h⟩ | ⟨h1508, h⟩
     ·have h2 := ih _ _ _ h
      obtain ⟨q, hv, hq⟩ := pkR (rd := none) (P := Go.Proofs.Try.prog) (fn := Go.Proofs.Try.f117) (k := 0) (s := (ngrind_CheckStrokes_i49_i117_l0_0_h a0 r1245 r1249 r1260 y1 x6)) (ans := [.reg (.n :: []), .br true, .reg (.n :: .n :: []), .reg (arK4_17 a0 x6 y1 r1483 r1486 r1493 r1496 r1500 r1503), .reg (.n :: .n :: []), .br false, .reg (.n :: .n :: [])]) (c := ⟨[(1, none), (5, none), (6, none)], [none, some (List.flatMap (mpE vb) (mset y1 ((a0.getD x6.toNat default).Name) true)), none, none, none, none], []⟩) (e := .normal) (s1 := (ngrind_CheckStrokes_i49_i117_l0_0_h a0 r1245 r1249 r1260 (mset y1 ((a0.getD x6.toNat default).Name) true) (w64 (x6 + 1)))) (an (an (ti trivial) (an (an (decide_eq_true h1468) trivial) (an (an (ti (ti trivial)) (an (ti (ti (an e1507 (ti trivial)))) (an (ti (ti trivial)) (an (not_f (decide_eq_true h1508)) trivial)))) (ti (ti trivial))))) (ti (an (show upM (.string ((a0.getD x6.toNat default).Name)) (vb true) (List.flatMap (mpE vb) y1) = List.flatMap (mpE vb) (mset y1 ((a0.getD x6.toNat default).Name) true) from (by exact upM_mp vb ((a0.getD x6.toNat default).Name) true y1)) trivial))) (by kernel_rfl)
      cases r with
      | inl r => exact round_next pm pn hv hq h2
      | inr r =>
       exact round_next pm pn hv hq h2
     ·injection h with h; subst h
      exact round_stop (c := ⟨[(2, none)], [none, some (List.flatMap (mpE vb) (mset y1 ((a0.getD x6.toNat default).Name) true)), none, none, none, none], []⟩) (s1 := (ngrind_CheckStrokes_i49_i117_l0_0_e0 a0 r1245 r1249 r1260 (r1503, mset y1 ((a0.getD x6.toNat default).Name) true))) pm pn (ans := [.reg (.n :: []), .br true, .reg (.n :: .n :: []), .reg (arK4_17 a0 x6 y1 r1483 r1486 r1493 r1496 r1500 r1503), .reg (.n :: .n :: []), .br true, .reg (.n :: .n :: [])]) (by kernel_rfl) (by intro e; cases e) (an (an (ti trivial) (an (an (decide_eq_true h1468) trivial) (an (ti (ti trivial)) (an (ti (ti (an e1507 (ti trivial)))) (an (ti (ti trivial)) (an (not_t (decide_eq_false h1508)) (an (ti (ti trivial)) trivial))))))) (ti (an (show upM (.string ((a0.getD x6.toNat default).Name)) (vb true) (List.flatMap (mpE vb) y1) = List.flatMap (mpE vb) (mset y1 ((a0.getD x6.toNat default).Name) true) from (by exact upM_mp vb ((a0.getD x6.toNat default).Name) true y1)) trivial)))
    ·obtain ⟨r1509, h1510, h⟩ := bs h
     have e1511 := (show loadL Go.Proofs.Try.prog 22 0 [VV.tr (List.flatMap c_SStroke a0) a0.length] = some (VV.tr (List.flatMap c_SStroke a0) a0.length) from (ld_one ag22 rfl))
     have e1512 := (show loadL Go.Proofs.Try.prog 23 (x6.toNat * 2 + 1) (List.flatMap c_SStroke a0) = some (VV.tr (List.map vi ((a0.getD x6.toNat default).Wear)) (((a0.getD x6.toNat default).Wear).length)) from (ld_flat ag23 c_SStroke 2 1 len_c_SStroke (by omega) a0 default h1470 (by omega)).trans rfl)
     obtain ⟨r1513, h1514, h⟩ := bs h
     have e1515 := (ngrind_within_ok k 0 100 ((a0.getD x6.toNat default).Wear) _ h1514)
     obtain ⟨r1516, h1517, h⟩ := bs h
     have e1518 := (VC.args (ngrind_firstOf_c0_Lgrind_need_1_grind_need_1_grind_need_1_grind_within_1_ok k (r1483, r1486, r1509, r1513) _ h1517) (eqK4_1 r1483 r1486 r1509 r1513))
     have e1519 := (an e1481 (ti (an h1470 (ti (an e1482 (an e1485 (ti (ti (an e1488 (ti (an e1489 (an h1490 (ti (an e1491 (ti (ti (ti (an (decide_eq_false h1492) (an (decide_eq_false h1492) (an (decide_eq_false h1492) (an (ngrind_need_ok k false 10 _ h1510) (an e1511 (ti (an h1470 (ti (an e1512 (an e1515 (ti (an e1518 (ti trivial))))))))))))))))))))))))))))))
     have e1520 := (an (an Go.Proofs.Try.func116 (an (ti trivial) (an e1476 (an e1480 (an e1519 trivial))))) (ti trivial))
     rcases ifs h with ⟨h1521, h⟩ | ⟨h1521, h⟩
     ·have h2 := ih _ _ _ h
      obtain ⟨q, hv, hq⟩ := pkR (rd := none) (P := Go.Proofs.Try.prog) (fn := Go.Proofs.Try.f117) (k := 0) (s := (ngrind_CheckStrokes_i49_i117_l0_0_h a0 r1245 r1249 r1260 y1 x6)) (ans := [.reg (.n :: []), .br true, .reg (.n :: .n :: []), .reg (arK4_18 a0 x6 y1 r1483 r1486 r1509 r1513 r1516), .reg (.n :: .n :: []), .br false, .reg (.n :: .n :: [])]) (c := ⟨[(1, none), (5, none), (6, none)], [none, some (List.flatMap (mpE vb) (mset y1 ((a0.getD x6.toNat default).Name) true)), none, none, none, none], []⟩) (e := .normal) (s1 := (ngrind_CheckStrokes_i49_i117_l0_0_h a0 r1245 r1249 r1260 (mset y1 ((a0.getD x6.toNat default).Name) true) (w64 (x6 + 1)))) (an (an (ti trivial) (an (an (decide_eq_true h1468) trivial) (an (an (ti (ti trivial)) (an (ti (ti (an e1520 (ti trivial)))) (an (ti (ti trivial)) (an (not_f (decide_eq_true h1521)) trivial)))) (ti (ti trivial))))) (ti (an (show upM (.string ((a0.getD x6.toNat default).Name)) (vb true) (List.flatMap (mpE vb) y1) = List.flatMap (mpE vb) (mset y1 ((a0.getD x6.toNat default).Name) true) from (by exact upM_mp vb ((a0.getD x6.toNat default).Name) true y1)) trivial))) (by kernel_rfl)
      cases r with
      | inl r => exact round_next pm pn hv hq h2
      | inr r =>
       exact round_next pm pn hv hq h2
     ·injection h with h; subst h
      exact round_stop (c := ⟨[(2, none)], [none, some (List.flatMap (mpE vb) (mset y1 ((a0.getD x6.toNat default).Name) true)), none, none, none, none], []⟩) (s1 := (ngrind_CheckStrokes_i49_i117_l0_0_e0 a0 r1245 r1249 r1260 (r1516, mset y1 ((a0.getD x6.toNat default).Name) true))) pm pn (ans := [.reg (.n :: []), .br true, .reg (.n :: .n :: []), .reg (arK4_18 a0 x6 y1 r1483 r1486 r1509 r1513 r1516), .reg (.n :: .n :: []), .br true, .reg (.n :: .n :: [])]) (by kernel_rfl) (by intro e; cases e) (an (an (ti trivial) (an (an (decide_eq_true h1468) trivial) (an (ti (ti trivial)) (an (ti (ti (an e1520 (ti trivial)))) (an (ti (ti trivial)) (an (not_t (decide_eq_false h1521)) (an (ti (ti trivial)) trivial))))))) (ti (an (show upM (.string ((a0.getD x6.toNat default).Name)) (vb true) (List.flatMap (mpE vb) y1) = List.flatMap (mpE vb) (mset y1 ((a0.getD x6.toNat default).Name) true) from (by exact upM_mp vb ((a0.getD x6.toNat default).Name) true y1)) trivial)))
   ·have e1522 := (show keysM (kdV (.string ((a0.getD x6.toNat default).Name))) (List.flatMap (mpE vb) y1) = true /\ lkM (.string ((a0.getD x6.toNat default).Name)) (List.flatMap (mpE vb) y1) = none from ⟨(keysM_mp vb ((a0.getD x6.toNat default).Name) y1), (lkM_no vb ((a0.getD x6.toNat default).Name) y1 (bool_f h1472))⟩)
    have e1523 := (show loadL Go.Proofs.Try.prog 22 0 [VV.tr (List.flatMap c_SStroke a0) a0.length] = some (VV.tr (List.flatMap c_SStroke a0) a0.length) from (ld_one ag22 rfl))
    have e1524 := (show loadL Go.Proofs.Try.prog 23 (x6.toNat * 2 + 1) (List.flatMap c_SStroke a0) = some (VV.tr (List.map vi ((a0.getD x6.toNat default).Wear)) (((a0.getD x6.toNat default).Wear).length)) from (ld_flat ag23 c_SStroke 2 1 len_c_SStroke (by omega) a0 default h1470 (by omega)).trans rfl)
    have e1525 := (ti (an e1469 (ti (an h1470 (ti (an e1471 (an e1522 (an e1523 (ti (an h1470 (ti (an e1524 (ti (ti (ti trivial)))))))))))))))
    have e1526 := (show loadL Go.Proofs.Try.prog 22 0 [VV.tr (List.flatMap c_SStroke a0) a0.length] = some (VV.tr (List.flatMap c_SStroke a0) a0.length) from (ld_one ag22 rfl))
    have e1527 := (show loadL Go.Proofs.Try.prog 9 (x6.toNat * 2 + 0) (List.flatMap c_SStroke a0) = some (vs ((a0.getD x6.toNat default).Name)) from (ld_flat ag9 c_SStroke 2 0 len_c_SStroke (by omega) a0 default h1470 (by omega)).trans rfl)
    have e1528 := (show keysM (kdV (.string ((a0.getD x6.toNat default).Name))) (List.flatMap (mpE vb) y1) = true from (keysM_mp vb ((a0.getD x6.toNat default).Name) y1))
    have e1529 := (ti (an e1526 (ti (an h1470 (ti (an e1527 (an e1528 trivial)))))))
    have e1530 := (show loadL Go.Proofs.Try.prog 22 0 [VV.tr (List.flatMap c_SStroke a0) a0.length] = some (VV.tr (List.flatMap c_SStroke a0) a0.length) from (ld_one ag22 rfl))
    have e1531 := (show loadL Go.Proofs.Try.prog 9 (x6.toNat * 2 + 0) (List.flatMap c_SStroke a0) = some (vs ((a0.getD x6.toNat default).Name)) from (ld_flat ag9 c_SStroke 2 0 len_c_SStroke (by omega) a0 default h1470 (by omega)).trans rfl)
    obtain ⟨r1532, h1533, h⟩ := bs h
    have e1534 := (ngrind_named_ok k ((a0.getD x6.toNat default).Name) _ h1533)
    obtain ⟨r1535, h1536, h⟩ := bs h
    have e1537 := (show loadL Go.Proofs.Try.prog 22 0 [VV.tr (List.flatMap c_SStroke a0) a0.length] = some (VV.tr (List.flatMap c_SStroke a0) a0.length) from (ld_one ag22 rfl))
    obtain ⟨h1538, h⟩ := ifn h
    have e1539 := (show loadL Go.Proofs.Try.prog 23 (((0 : Int)).toNat * 2 + 1) (List.flatMap c_SStroke a0) = some (VV.tr (List.map vi ((a0.getD ((0 : Int)).toNat default).Wear)) (((a0.getD ((0 : Int)).toNat default).Wear).length)) from (ld_flat ag23 c_SStroke 2 1 len_c_SStroke (by omega) a0 default h1538 (by omega)).trans rfl)
    rcases ifs h with ⟨h1540, h⟩ | ⟨h1540, h⟩
    ·obtain ⟨r1541, h1542, h⟩ := bs h
     have e1543 := (an (decide_eq_true h1540) (ngrind_isWithin_ok k (((a0.getD x6.toNat default).Wear).length : Int) 1 40 _ h1542))
     obtain ⟨r1544, h1545, h⟩ := bs h
     have e1546 := (show loadL Go.Proofs.Try.prog 22 0 [VV.tr (List.flatMap c_SStroke a0) a0.length] = some (VV.tr (List.flatMap c_SStroke a0) a0.length) from (ld_one ag22 rfl))
     have e1547 := (show loadL Go.Proofs.Try.prog 23 (x6.toNat * 2 + 1) (List.flatMap c_SStroke a0) = some (VV.tr (List.map vi ((a0.getD x6.toNat default).Wear)) (((a0.getD x6.toNat default).Wear).length)) from (ld_flat ag23 c_SStroke 2 1 len_c_SStroke (by omega) a0 default h1470 (by omega)).trans rfl)
     obtain ⟨r1548, h1549, h⟩ := bs h
     have e1550 := (ngrind_within_ok k 0 100 ((a0.getD x6.toNat default).Wear) _ h1549)
     obtain ⟨r1551, h1552, h⟩ := bs h
     have e1553 := (VC.args (ngrind_firstOf_c0_Lgrind_need_1_grind_need_1_grind_need_1_grind_within_1_ok k (r1532, r1535, r1544, r1548) _ h1552) (eqK4_1 r1532 r1535 r1544 r1548))
     have e1554 := (an e1530 (ti (an h1470 (ti (an e1531 (an e1534 (ti (ti (an (ngrind_need_ok k (!false) 5 _ h1536) (ti (an e1537 (an h1538 (ti (an e1539 (ti (ti (ti (an (an (decide_eq_true h1540) trivial) (an e1543 (an (decide_eq_true h1540) (an (ngrind_need_ok k r1541 10 _ h1545) (an e1546 (ti (an h1470 (ti (an e1547 (an e1550 (ti (an e1553 (ti trivial))))))))))))))))))))))))))))))
     have e1555 := (an (an Go.Proofs.Try.func116 (an (ti trivial) (an e1525 (an e1529 (an e1554 trivial))))) (ti trivial))
     rcases ifs h with ⟨h1556, h⟩ | ⟨h1556, h⟩
     ·have h2 := ih _ _ _ h
      obtain ⟨q, hv, hq⟩ := pkR (rd := none) (P := Go.Proofs.Try.prog) (fn := Go.Proofs.Try.f117) (k := 0) (s := (ngrind_CheckStrokes_i49_i117_l0_0_h a0 r1245 r1249 r1260 y1 x6)) (ans := [.reg (.n :: []), .br true, .reg (.n :: .n :: []), .reg (arK4_19 a0 x6 r1532 r1535 r1541 r1544 r1548 r1551), .reg (.n :: .n :: []), .br false, .reg (.n :: .n :: [])]) (c := ⟨[(1, none), (5, none), (6, none)], [none, some (List.flatMap (mpE vb) (mset y1 ((a0.getD x6.toNat default).Name) true)), none, none, none, none], []⟩) (e := .normal) (s1 := (ngrind_CheckStrokes_i49_i117_l0_0_h a0 r1245 r1249 r1260 (mset y1 ((a0.getD x6.toNat default).Name) true) (w64 (x6 + 1)))) (an (an (ti trivial) (an (an (decide_eq_true h1468) trivial) (an (an (ti (ti trivial)) (an (ti (ti (an e1555 (ti trivial)))) (an (ti (ti trivial)) (an (not_f (decide_eq_true h1556)) trivial)))) (ti (ti trivial))))) (ti (an (show upM (.string ((a0.getD x6.toNat default).Name)) (vb true) (List.flatMap (mpE vb) y1) = List.flatMap (mpE vb) (mset y1 ((a0.getD x6.toNat default).Name) true) from (by exact upM_mp vb ((a0.getD x6.toNat default).Name) true y1)) trivial))) (by kernel_rfl)
      cases r with
      | inl r => exact round_next pm pn hv hq h2
      | inr r =>
       exact round_next pm pn hv hq h2
     ·injection h with h; subst h
      exact round_stop (c := ⟨[(2, none)], [none, some (List.flatMap (mpE vb) (mset y1 ((a0.getD x6.toNat default).Name) true)), none, none, none, none], []⟩) (s1 := (ngrind_CheckStrokes_i49_i117_l0_0_e0 a0 r1245 r1249 r1260 (r1551, mset y1 ((a0.getD x6.toNat default).Name) true))) pm pn (ans := [.reg (.n :: []), .br true, .reg (.n :: .n :: []), .reg (arK4_19 a0 x6 r1532 r1535 r1541 r1544 r1548 r1551), .reg (.n :: .n :: []), .br true, .reg (.n :: .n :: [])]) (by kernel_rfl) (by intro e; cases e) (an (an (ti trivial) (an (an (decide_eq_true h1468) trivial) (an (ti (ti trivial)) (an (ti (ti (an e1555 (ti trivial)))) (an (ti (ti trivial)) (an (not_t (decide_eq_false h1556)) (an (ti (ti trivial)) trivial))))))) (ti (an (show upM (.string ((a0.getD x6.toNat default).Name)) (vb true) (List.flatMap (mpE vb) y1) = List.flatMap (mpE vb) (mset y1 ((a0.getD x6.toNat default).Name) true) from (by exact upM_mp vb ((a0.getD x6.toNat default).Name) true y1)) trivial)))
    ·obtain ⟨r1557, h1558, h⟩ := bs h
     have e1559 := (show loadL Go.Proofs.Try.prog 22 0 [VV.tr (List.flatMap c_SStroke a0) a0.length] = some (VV.tr (List.flatMap c_SStroke a0) a0.length) from (ld_one ag22 rfl))
     have e1560 := (show loadL Go.Proofs.Try.prog 23 (x6.toNat * 2 + 1) (List.flatMap c_SStroke a0) = some (VV.tr (List.map vi ((a0.getD x6.toNat default).Wear)) (((a0.getD x6.toNat default).Wear).length)) from (ld_flat ag23 c_SStroke 2 1 len_c_SStroke (by omega) a0 default h1470 (by omega)).trans rfl)
     obtain ⟨r1561, h1562, h⟩ := bs h
     have e1563 := (ngrind_within_ok k 0 100 ((a0.getD x6.toNat default).Wear) _ h1562)
     obtain ⟨r1564, h1565, h⟩ := bs h
     have e1566 := (VC.args (ngrind_firstOf_c0_Lgrind_need_1_grind_need_1_grind_need_1_grind_within_1_ok k (r1532, r1535, r1557, r1561) _ h1565) (eqK4_1 r1532 r1535 r1557 r1561))
     have e1567 := (an e1530 (ti (an h1470 (ti (an e1531 (an e1534 (ti (ti (an (ngrind_need_ok k (!false) 5 _ h1536) (ti (an e1537 (an h1538 (ti (an e1539 (ti (ti (ti (an (decide_eq_false h1540) (an (decide_eq_false h1540) (an (decide_eq_false h1540) (an (ngrind_need_ok k false 10 _ h1558) (an e1559 (ti (an h1470 (ti (an e1560 (an e1563 (ti (an e1566 (ti trivial))))))))))))))))))))))))))))))
     have e1568 := (an (an Go.Proofs.Try.func116 (an (ti trivial) (an e1525 (an e1529 (an e1567 trivial))))) (ti trivial))
     rcases ifs h with ⟨h1569, h⟩ | ⟨h1569, h⟩
     ·have h2 := ih _ _ _ h
      obtain ⟨q, hv, hq⟩ := pkR (rd := none) (P := Go.Proofs.Try.prog) (fn := Go.Proofs.Try.f117) (k := 0) (s := (ngrind_CheckStrokes_i49_i117_l0_0_h a0 r1245 r1249 r1260 y1 x6)) (ans := [.reg (.n :: []), .br true, .reg (.n :: .n :: []), .reg (arK4_20 a0 x6 r1532 r1535 r1557 r1561 r1564), .reg (.n :: .n :: []), .br false, .reg (.n :: .n :: [])]) (c := ⟨[(1, none), (5, none), (6, none)], [none, some (List.flatMap (mpE vb) (mset y1 ((a0.getD x6.toNat default).Name) true)), none, none, none, none], []⟩) (e := .normal) (s1 := (ngrind_CheckStrokes_i49_i117_l0_0_h a0 r1245 r1249 r1260 (mset y1 ((a0.getD x6.toNat default).Name) true) (w64 (x6 + 1)))) (an (an (ti trivial) (an (an (decide_eq_true h1468) trivial) (an (an (ti (ti trivial)) (an (ti (ti (an e1568 (ti trivial)))) (an (ti (ti trivial)) (an (not_f (decide_eq_true h1569)) trivial)))) (ti (ti trivial))))) (ti (an (show upM (.string ((a0.getD x6.toNat default).Name)) (vb true) (List.flatMap (mpE vb) y1) = List.flatMap (mpE vb) (mset y1 ((a0.getD x6.toNat default).Name) true) from (by exact upM_mp vb ((a0.getD x6.toNat default).Name) true y1)) trivial))) (by kernel_rfl)
      cases r with
      | inl r => exact round_next pm pn hv hq h2
      | inr r =>
       exact round_next pm pn hv hq h2
     ·injection h with h; subst h
      exact round_stop (c := ⟨[(2, none)], [none, some (List.flatMap (mpE vb) (mset y1 ((a0.getD x6.toNat default).Name) true)), none, none, none, none], []⟩) (s1 := (ngrind_CheckStrokes_i49_i117_l0_0_e0 a0 r1245 r1249 r1260 (r1564, mset y1 ((a0.getD x6.toNat default).Name) true))) pm pn (ans := [.reg (.n :: []), .br true, .reg (.n :: .n :: []), .reg (arK4_20 a0 x6 r1532 r1535 r1557 r1561 r1564), .reg (.n :: .n :: []), .br true, .reg (.n :: .n :: [])]) (by kernel_rfl) (by intro e; cases e) (an (an (ti trivial) (an (an (decide_eq_true h1468) trivial) (an (ti (ti trivial)) (an (ti (ti (an e1568 (ti trivial)))) (an (ti (ti trivial)) (an (not_t (decide_eq_false h1569)) (an (ti (ti trivial)) trivial))))))) (ti (an (show upM (.string ((a0.getD x6.toNat default).Name)) (vb true) (List.flatMap (mpE vb) y1) = List.flatMap (mpE vb) (mset y1 ((a0.getD x6.toNat default).Name) true) from (by exact upM_mp vb ((a0.getD x6.toNat default).Name) true y1)) trivial)))
  ·injection h with h; subst h
   exact round_stop (c := ⟨[], [none, none, none, none, none, none], []⟩) (s1 := (ngrind_CheckStrokes_i49_i117_l0_0_e1 a0 r1245 r1249 r1260 y1)) pm pn (ans := [.reg (.n :: []), .br false]) (by kernel_rfl) (by intro e; cases e) (an (an (ti trivial) (an (decide_eq_false h1468) trivial)) (ti trivial))
noncomputable def arK4_22 (z0 : (List SStroke)) (z1 : (Bool × Int)) (z2 : (Bool × Int)) (z3 : Int) (z4 : Int) : List Ans := (.v (VV.tr (List.flatMap c_SStroke z0) z0.length) :: .n :: .n :: .call (VV.fn 102 [VV.tp [vb z1.1] 0, VV.tp [vi z1.2] 0]) :: .v (VV.tr (List.flatMap c_SStroke z0) z0.length) :: .n :: .n :: .call (VV.fn 102 [VV.tp [vb z2.1] 0, VV.tp [vi z2.2] 0]) :: .v (VV.tr (List.flatMap c_SStroke z0) z0.length) :: .n :: .n :: .inl (inlF Go.Proofs.Try.f92 [.reg (nN 3 []), .frz 3, .reg (.n :: .n :: [])]) :: .n :: .inl (inlF Go.Proofs.Try.f49 [.reg (.n :: []), .reg (nN 3 []), .unr 3, .reg (.n :: []), .br true, .reg (.v (VV.pt 5 0) :: .n :: .n :: []), .reg (.n :: .call (vi z3) :: .n :: []), .reg (.n :: .n :: []), .br false, .reg (.n :: .n :: []), .reg (.n :: []), .br true, .reg (.v (VV.pt 5 1) :: .n :: .n :: []), .reg (.n :: .call (vi z4) :: .n :: []), .reg (.n :: .n :: []), .br true, .reg (.n :: .n :: [])]) :: .n :: [])
noncomputable def arK4_23 (z0 : (List SStroke)) (z1 : (Bool × Int)) (z2 : (Bool × Int)) (z3 : Int) : List Ans := (.v (VV.tr (List.flatMap c_SStroke z0) z0.length) :: .n :: .n :: .call (VV.fn 102 [VV.tp [vb z1.1] 0, VV.tp [vi z1.2] 0]) :: .v (VV.tr (List.flatMap c_SStroke z0) z0.length) :: .n :: .n :: .call (VV.fn 102 [VV.tp [vb z2.1] 0, VV.tp [vi z2.2] 0]) :: .v (VV.tr (List.flatMap c_SStroke z0) z0.length) :: .n :: .n :: .inl (inlF Go.Proofs.Try.f92 [.reg (nN 3 []), .frz 3, .reg (.n :: .n :: [])]) :: .n :: .inl (inlF Go.Proofs.Try.f49 [.reg (.n :: []), .reg (nN 3 []), .unr 2, .reg (.n :: []), .br true, .reg (.v (VV.pt 5 0) :: .n :: .n :: []), .reg (.n :: .call (vi z3) :: .n :: []), .reg (.n :: .n :: []), .br true, .reg (.n :: .n :: [])]) :: .n :: [])
def ngrind_CheckStrokes (k : Nat) (a0 : (List SStroke)) : Option (Int × Int) :=
 (ngrind_need k (decide (0 < (a0.length : Int))) 10).bind fun r1245 => ((ngrind_need k (decide ((a0.length : Int) <= 12)) 8).bind fun r1249 => ((ngrind_need_1 k r1245.1 r1245.2).bind fun r1255 => (if r1255 = 0 then ((ngrind_need_1 k r1249.1 r1249.2).bind fun r1260 => (if r1260 = 0 then ((ngrind_CheckStrokes_i49_i117_l0_0 k a0 r1245 r1249 r1260 k ([] : List (ByteArray × Bool)) 0).bind fun r1571 => (match r1571 with | .inl r1572 => (if r1572.1 = 0 then ((ngrind_zonesOf k a0).bind fun r1580 => (some (r1580, 0))) else (some (0, r1572.1))) | .inr r1573 => ((ngrind_zonesOf k a0).bind fun r1590 => (some (r1590, 0))))) else (some (0, r1260)))) else (some (0, r1255)))))
theorem ngrind_CheckStrokes_ok (k : Nat) (a0 : (List SStroke)) (r : (Int × Int)) (h : ngrind_CheckStrokes k a0 = some r) : VC Go.Proofs.Try.prog 90 [VV.tr (List.flatMap c_SStroke a0) a0.length] (VV.tu [vi r.1, vi r.2]) := by
 unfold ngrind_CheckStrokes at h
 have e1244 := (show loadL Go.Proofs.Try.prog 22 0 [VV.tr (List.flatMap c_SStroke a0) a0.length] = some (VV.tr (List.flatMap c_SStroke a0) a0.length) from (ld_one ag22 rfl))
 obtain ⟨r1245, h1246, h⟩ := bs h
 have e1247 := (ngrind_need_ok k (decide (0 < (a0.length : Int))) 10 _ h1246)
 have e1248 := (show loadL Go.Proofs.Try.prog 22 0 [VV.tr (List.flatMap c_SStroke a0) a0.length] = some (VV.tr (List.flatMap c_SStroke a0) a0.length) from (ld_one ag22 rfl))
 obtain ⟨r1249, h1250, h⟩ := bs h
 have e1251 := (ngrind_need_ok k (decide ((a0.length : Int) <= 12)) 8 _ h1250)
 have e1252 := (show loadL Go.Proofs.Try.prog 22 0 [VV.tr (List.flatMap c_SStroke a0) a0.length] = some (VV.tr (List.flatMap c_SStroke a0) a0.length) from (ld_one ag22 rfl))
 have e1253 := (an (an Go.Proofs.Try.func92 (an (ti (ti (ti trivial))) (an (ti (ti trivial)) trivial))) (ti trivial))
 have e1254 := (show ((0 : Int) <= 0 /\ (0 : Int) < ((3 : Nat) : Int)) /\ VV.pt 5 (0 + (0 : Int).toNat * 1) = VV.pt 5 0 from ⟨⟨by decide, by decide⟩, rfl⟩)
 obtain ⟨r1255, h1256, h⟩ := bs h
 have e1257 := (ngrind_need_1_ok k r1245.1 r1245.2 _ h1256)
 rcases ifs h with ⟨h1258, h⟩ | ⟨h1258, h⟩
 ·have e1259 := (show ((0 : Int) <= 1 /\ (1 : Int) < ((3 : Nat) : Int)) /\ VV.pt 5 (0 + (1 : Int).toNat * 1) = VV.pt 5 1 from ⟨⟨by decide, by decide⟩, rfl⟩)
  obtain ⟨r1260, h1261, h⟩ := bs h
  have e1262 := (ngrind_need_1_ok k r1249.1 r1249.2 _ h1261)
  rcases ifs h with ⟨h1263, h⟩ | ⟨h1263, h⟩
  ·have e1264 := (show ((0 : Int) <= 2 /\ (2 : Int) < ((3 : Nat) : Int)) /\ VV.pt 5 (0 + (2 : Int).toNat * 1) = VV.pt 5 2 from ⟨⟨by decide, by decide⟩, rfl⟩)
   have e1265 := (show loadL Go.Proofs.Try.prog 3 0 [vi (a0.length : Int)] = some (vi (a0.length : Int)) from (ld_one ag3 rfl))
   obtain ⟨r1571, h1570, h⟩ := bs h
   have hph1570 := ngrind_CheckStrokes_i49_i117_l0_0_ok k a0 r1245 r1249 r1260 _ _ _ _ h1570
   cases r1571 with
   | inl r1572 =>
    dsimp only at h
    have e1574 := (an (ti (an (show [] = List.flatMap (mpE vb) ([] : List (ByteArray × Bool)) from rfl) trivial)) (VRun.loop hph1570))
    have e1575 := (an (an Go.Proofs.Try.func117 (an (ti trivial) (an (an e1265 (ti trivial)) e1574))) (ti trivial))
    rcases ifs h with ⟨h1576, h⟩ | ⟨h1576, h⟩
    ·have e1577 := (an (an Go.Proofs.Try.func49 (an (ti trivial) (an (an (ti (ti (ti trivial))) (an (an (ti trivial) (an (an (show (decide ((0 : Int) < 3)) = true from (decide_eq_true (by decide))) trivial) (an (an (an e1254 (ti (ti trivial))) (an (ti (an e1257 (ti trivial))) (an (ti (ti trivial)) (an (not_f (decide_eq_true h1258)) trivial)))) (ti (ti trivial))))) (an (an (ti trivial) (an (an (show (decide ((1 : Int) < 3)) = true from (decide_eq_true (by decide))) trivial) (an (an (an e1259 (ti (ti trivial))) (an (ti (an e1262 (ti trivial))) (an (ti (ti trivial)) (an (not_f (decide_eq_true h1263)) trivial)))) (ti (ti trivial))))) (an (an (ti trivial) (an (an (show (decide ((2 : Int) < 3)) = true from (decide_eq_true (by decide))) trivial) (an (an (an e1264 (ti (ti trivial))) (an (ti (an e1575 (ti trivial))) (an (ti (ti trivial)) (an (not_f (decide_eq_true h1576)) trivial)))) (ti (ti trivial))))) (an (ti trivial) (an (show (decide ((3 : Int) < 3)) = false from (decide_eq_false (by decide))) trivial)))))) (an (ti trivial) trivial)))) (ti trivial))
     have e1578 := (an e1244 (ti (ti (an e1247 (an e1248 (ti (ti (an e1251 (an e1252 (ti (ti (an e1253 (ti (an e1577 (ti trivial)))))))))))))))
     have e1579 := (show loadL Go.Proofs.Try.prog 22 0 [VV.tr (List.flatMap c_SStroke a0) a0.length] = some (VV.tr (List.flatMap c_SStroke a0) a0.length) from (ld_one ag22 rfl))
     obtain ⟨r1580, h1581, h⟩ := bs h
     have e1582 := (an e1579 (an (ngrind_zonesOf_ok k a0 _ h1581) (ti (ti trivial))))
     injection h with h; subst h
     exact fun_ok pm pn Go.Proofs.Try.func90 (r0 := VV.tu [vi r1580, vi 0]) (ans := [.reg (nN 3 []), .frz 0, .reg (nN 3 []), .reg (.v (VV.tr (List.flatMap c_SStroke a0) a0.length) :: .n :: .n :: .call (VV.fn 102 [VV.tp [vb r1245.1] 0, VV.tp [vi r1245.2] 0]) :: .v (VV.tr (List.flatMap c_SStroke a0) a0.length) :: .n :: .n :: .call (VV.fn 102 [VV.tp [vb r1249.1] 0, VV.tp [vi r1249.2] 0]) :: .v (VV.tr (List.flatMap c_SStroke a0) a0.length) :: .n :: .n :: .inl (inlF Go.Proofs.Try.f92 [.reg (nN 3 []), .frz 3, .reg (.n :: .n :: [])]) :: .n :: .inl (inlF Go.Proofs.Try.f49 [.reg (.n :: []), .reg (nN 3 []), .unr 5, .reg (.n :: []), .br true, .reg (.v (VV.pt 5 0) :: .n :: .n :: []), .reg (.n :: .call (vi r1255) :: .n :: []), .reg (.n :: .n :: []), .br false, .reg (.n :: .n :: []), .reg (.n :: []), .br true, .reg (.v (VV.pt 5 1) :: .n :: .n :: []), .reg (.n :: .call (vi r1260) :: .n :: []), .reg (.n :: .n :: []), .br false, .reg (.n :: .n :: []), .reg (.n :: []), .br true, .reg (.v (VV.pt 5 2) :: .n :: .n :: []), .reg (.n :: .inl (inlF Go.Proofs.Try.f117 [.reg (.n :: []), .reg (.v (vi (a0.length : Int)) :: .n :: []), .sub ⟨[(1, none), (5, none), (6, none)], [none, some (List.flatMap (mpE vb) ([] : List (ByteArray × Bool))), none, none, none, none], []⟩ .ret (ngrind_CheckStrokes_i49_i117_l0_0_e0 a0 r1245 r1249 r1260 r1572)]) :: .n :: []), .reg (.n :: .n :: []), .br false, .reg (.n :: .n :: []), .reg (.n :: []), .br false, .reg (.n :: [])]) :: .n :: []), .reg (.n :: .n :: []), .br false, .reg (.v (VV.tr (List.flatMap c_SStroke a0) a0.length) :: .call (vi r1580) :: .n :: .n :: [])]) (fr := true) (by kernel_rfl) (an (an (ti (ti (ti trivial))) (an (ti (ti (ti trivial))) (an e1578 (an (an (ti (ti trivial)) (an (show (!(decide ((0 : Int) = 0))) = false from (not_f (decide_eq_true (by decide)))) trivial)) (an e1582 trivial))))) (ti (ti trivial))) (Wv.refl _)
    ·have e1583 := (an (an Go.Proofs.Try.func49 (an (ti trivial) (an (ti (ti (ti trivial))) (an (an (ti trivial) (an (an (show (decide ((0 : Int) < 3)) = true from (decide_eq_true (by decide))) trivial) (an (an (an e1254 (ti (ti trivial))) (an (ti (an e1257 (ti trivial))) (an (ti (ti trivial)) (an (not_f (decide_eq_true h1258)) trivial)))) (ti (ti trivial))))) (an (an (ti trivial) (an (an (show (decide ((1 : Int) < 3)) = true from (decide_eq_true (by decide))) trivial) (an (an (an e1259 (ti (ti trivial))) (an (ti (an e1262 (ti trivial))) (an (ti (ti trivial)) (an (not_f (decide_eq_true h1263)) trivial)))) (ti (ti trivial))))) (an (ti trivial) (an (an (show (decide ((2 : Int) < 3)) = true from (decide_eq_true (by decide))) trivial) (an (an e1264 (ti (ti trivial))) (an (ti (an e1575 (ti trivial))) (an (ti (ti trivial)) (an (not_t (decide_eq_false h1576)) (an (ti (ti trivial)) trivial)))))))))))) (ti trivial))
     have e1584 := (an e1244 (ti (ti (an e1247 (an e1248 (ti (ti (an e1251 (an e1252 (ti (ti (an e1253 (ti (an e1583 (ti trivial)))))))))))))))
     injection h with h; subst h
     exact fun_ok pm pn Go.Proofs.Try.func90 (r0 := VV.tu [vi 0, vi r1572.1]) (ans := [.reg (nN 3 []), .frz 0, .reg (nN 3 []), .reg (.v (VV.tr (List.flatMap c_SStroke a0) a0.length) :: .n :: .n :: .call (VV.fn 102 [VV.tp [vb r1245.1] 0, VV.tp [vi r1245.2] 0]) :: .v (VV.tr (List.flatMap c_SStroke a0) a0.length) :: .n :: .n :: .call (VV.fn 102 [VV.tp [vb r1249.1] 0, VV.tp [vi r1249.2] 0]) :: .v (VV.tr (List.flatMap c_SStroke a0) a0.length) :: .n :: .n :: .inl (inlF Go.Proofs.Try.f92 [.reg (nN 3 []), .frz 3, .reg (.n :: .n :: [])]) :: .n :: .inl (inlF Go.Proofs.Try.f49 [.reg (.n :: []), .reg (nN 3 []), .unr 4, .reg (.n :: []), .br true, .reg (.v (VV.pt 5 0) :: .n :: .n :: []), .reg (.n :: .call (vi r1255) :: .n :: []), .reg (.n :: .n :: []), .br false, .reg (.n :: .n :: []), .reg (.n :: []), .br true, .reg (.v (VV.pt 5 1) :: .n :: .n :: []), .reg (.n :: .call (vi r1260) :: .n :: []), .reg (.n :: .n :: []), .br false, .reg (.n :: .n :: []), .reg (.n :: []), .br true, .reg (.v (VV.pt 5 2) :: .n :: .n :: []), .reg (.n :: .inl (inlF Go.Proofs.Try.f117 [.reg (.n :: []), .reg (.v (vi (a0.length : Int)) :: .n :: []), .sub ⟨[(1, none), (5, none), (6, none)], [none, some (List.flatMap (mpE vb) ([] : List (ByteArray × Bool))), none, none, none, none], []⟩ .ret (ngrind_CheckStrokes_i49_i117_l0_0_e0 a0 r1245 r1249 r1260 r1572)]) :: .n :: []), .reg (.n :: .n :: []), .br true, .reg (.n :: .n :: [])]) :: .n :: []), .reg (.n :: .n :: []), .br true, .reg (nN 3 [])]) (fr := true) (by kernel_rfl) (an (an (ti (ti (ti trivial))) (an (ti (ti (ti trivial))) (an e1584 (an (ti (ti trivial)) (an (not_t (decide_eq_false h1576)) (an (ti (ti (ti trivial))) trivial)))))) (ti (ti trivial))) (Wv.refl _)
   | inr r1573 =>
    dsimp only at h
    have e1585 := (an (ti (an (show [] = List.flatMap (mpE vb) ([] : List (ByteArray × Bool)) from rfl) trivial)) (VRun.loop hph1570))
    have e1586 := (an (an Go.Proofs.Try.func117 (an (ti trivial) (an (an (an e1265 (ti trivial)) e1585) (an (ti trivial) trivial)))) (ti trivial))
    have e1587 := (an (an Go.Proofs.Try.func49 (an (ti trivial) (an (an (ti (ti (ti trivial))) (an (an (ti trivial) (an (an (show (decide ((0 : Int) < 3)) = true from (decide_eq_true (by decide))) trivial) (an (an (an e1254 (ti (ti trivial))) (an (ti (an e1257 (ti trivial))) (an (ti (ti trivial)) (an (not_f (decide_eq_true h1258)) trivial)))) (ti (ti trivial))))) (an (an (ti trivial) (an (an (show (decide ((1 : Int) < 3)) = true from (decide_eq_true (by decide))) trivial) (an (an (an e1259 (ti (ti trivial))) (an (ti (an e1262 (ti trivial))) (an (ti (ti trivial)) (an (not_f (decide_eq_true h1263)) trivial)))) (ti (ti trivial))))) (an (an (ti trivial) (an (an (show (decide ((2 : Int) < 3)) = true from (decide_eq_true (by decide))) trivial) (an (an (an e1264 (ti (ti trivial))) (an (ti (an e1586 (ti trivial))) (an (ti (ti trivial)) (an (show (!(decide ((0 : Int) = 0))) = false from (not_f (decide_eq_true (by decide)))) trivial)))) (ti (ti trivial))))) (an (ti trivial) (an (show (decide ((3 : Int) < 3)) = false from (decide_eq_false (by decide))) trivial)))))) (an (ti trivial) trivial)))) (ti trivial))
    have e1588 := (an e1244 (ti (ti (an e1247 (an e1248 (ti (ti (an e1251 (an e1252 (ti (ti (an e1253 (ti (an e1587 (ti trivial)))))))))))))))
    have e1589 := (show loadL Go.Proofs.Try.prog 22 0 [VV.tr (List.flatMap c_SStroke a0) a0.length] = some (VV.tr (List.flatMap c_SStroke a0) a0.length) from (ld_one ag22 rfl))
    obtain ⟨r1590, h1591, h⟩ := bs h
    have e1592 := (an e1589 (an (ngrind_zonesOf_ok k a0 _ h1591) (ti (ti trivial))))
    injection h with h; subst h
    exact fun_ok pm pn Go.Proofs.Try.func90 (r0 := VV.tu [vi r1590, vi 0]) (ans := [.reg (nN 3 []), .frz 0, .reg (nN 3 []), .reg (.v (VV.tr (List.flatMap c_SStroke a0) a0.length) :: .n :: .n :: .call (VV.fn 102 [VV.tp [vb r1245.1] 0, VV.tp [vi r1245.2] 0]) :: .v (VV.tr (List.flatMap c_SStroke a0) a0.length) :: .n :: .n :: .call (VV.fn 102 [VV.tp [vb r1249.1] 0, VV.tp [vi r1249.2] 0]) :: .v (VV.tr (List.flatMap c_SStroke a0) a0.length) :: .n :: .n :: .inl (inlF Go.Proofs.Try.f92 [.reg (nN 3 []), .frz 3, .reg (.n :: .n :: [])]) :: .n :: .inl (inlF Go.Proofs.Try.f49 [.reg (.n :: []), .reg (nN 3 []), .unr 5, .reg (.n :: []), .br true, .reg (.v (VV.pt 5 0) :: .n :: .n :: []), .reg (.n :: .call (vi r1255) :: .n :: []), .reg (.n :: .n :: []), .br false, .reg (.n :: .n :: []), .reg (.n :: []), .br true, .reg (.v (VV.pt 5 1) :: .n :: .n :: []), .reg (.n :: .call (vi r1260) :: .n :: []), .reg (.n :: .n :: []), .br false, .reg (.n :: .n :: []), .reg (.n :: []), .br true, .reg (.v (VV.pt 5 2) :: .n :: .n :: []), .reg (.n :: .inl (inlF Go.Proofs.Try.f117 [.reg (.n :: []), .reg (.v (vi (a0.length : Int)) :: .n :: []), .sub ⟨[(1, none), (5, none), (6, none)], [none, some (List.flatMap (mpE vb) ([] : List (ByteArray × Bool))), none, none, none, none], []⟩ (.exit 0) (ngrind_CheckStrokes_i49_i117_l0_0_e1 a0 r1245 r1249 r1260 r1573), .reg (.n :: [])]) :: .n :: []), .reg (.n :: .n :: []), .br false, .reg (.n :: .n :: []), .reg (.n :: []), .br false, .reg (.n :: [])]) :: .n :: []), .reg (.n :: .n :: []), .br false, .reg (.v (VV.tr (List.flatMap c_SStroke a0) a0.length) :: .call (vi r1590) :: .n :: .n :: [])]) (fr := true) (by kernel_rfl) (an (an (ti (ti (ti trivial))) (an (ti (ti (ti trivial))) (an e1588 (an (an (ti (ti trivial)) (an (show (!(decide ((0 : Int) = 0))) = false from (not_f (decide_eq_true (by decide)))) trivial)) (an e1592 trivial))))) (ti (ti trivial))) (Wv.refl _)
  ·have e1593 := (an (an Go.Proofs.Try.func49 (an (ti trivial) (an (ti (ti (ti trivial))) (an (an (ti trivial) (an (an (show (decide ((0 : Int) < 3)) = true from (decide_eq_true (by decide))) trivial) (an (an (an e1254 (ti (ti trivial))) (an (ti (an e1257 (ti trivial))) (an (ti (ti trivial)) (an (not_f (decide_eq_true h1258)) trivial)))) (ti (ti trivial))))) (an (ti trivial) (an (an (show (decide ((1 : Int) < 3)) = true from (decide_eq_true (by decide))) trivial) (an (an e1259 (ti (ti trivial))) (an (ti (an e1262 (ti trivial))) (an (ti (ti trivial)) (an (not_t (decide_eq_false h1263)) (an (ti (ti trivial)) trivial))))))))))) (ti trivial))
   have e1594 := (an e1244 (ti (ti (an e1247 (an e1248 (ti (ti (an e1251 (an e1252 (ti (ti (an e1253 (ti (an e1593 (ti trivial)))))))))))))))
   injection h with h; subst h
   exact fun_ok pm pn Go.Proofs.Try.func90 (r0 := VV.tu [vi 0, vi r1260]) (ans := [.reg (nN 3 []), .frz 0, .reg (nN 3 []), .reg (arK4_22 a0 r1245 r1249 r1255 r1260), .reg (.n :: .n :: []), .br true, .reg (nN 3 [])]) (fr := true) (by kernel_rfl) (an (an (ti (ti (ti trivial))) (an (ti (ti (ti trivial))) (an e1594 (an (ti (ti trivial)) (an (not_t (decide_eq_false h1263)) (an (ti (ti (ti trivial))) trivial)))))) (ti (ti trivial))) (Wv.refl _)
 ·have e1595 := (an (an Go.Proofs.Try.func49 (an (ti trivial) (an (ti (ti (ti trivial))) (an (ti trivial) (an (an (show (decide ((0 : Int) < 3)) = true from (decide_eq_true (by decide))) trivial) (an (an e1254 (ti (ti trivial))) (an (ti (an e1257 (ti trivial))) (an (ti (ti trivial)) (an (not_t (decide_eq_false h1258)) (an (ti (ti trivial)) trivial)))))))))) (ti trivial))
  have e1596 := (an e1244 (ti (ti (an e1247 (an e1248 (ti (ti (an e1251 (an e1252 (ti (ti (an e1253 (ti (an e1595 (ti trivial)))))))))))))))
  injection h with h; subst h
  exact fun_ok pm pn Go.Proofs.Try.func90 (r0 := VV.tu [vi 0, vi r1255]) (ans := [.reg (nN 3 []), .frz 0, .reg (nN 3 []), .reg (arK4_23 a0 r1245 r1249 r1255), .reg (.n :: .n :: []), .br true, .reg (nN 3 [])]) (fr := true) (by kernel_rfl) (an (an (ti (ti (ti trivial))) (an (ti (ti (ti trivial))) (an e1596 (an (ti (ti trivial)) (an (not_t (decide_eq_false h1258)) (an (ti (ti (ti trivial))) trivial)))))) (ti (ti trivial))) (Wv.refl _)
def nspeculumref04_StrokeAt_l0_0_h (a0 : (List SStroke)) (a1 : ByteArray) (x5 : Int) : VS := ⟨mkA [(0, VV.tr (List.flatMap c_SStroke a0) a0.length), (1, vs a1), (5, vi x5)], [], .nil⟩
def nspeculumref04_StrokeAt_l0_0_e0 (a0 : (List SStroke)) (a1 : ByteArray) (r : Int) : VS := ⟨mkA [(4, vi r)], [], .nil⟩
def nspeculumref04_StrokeAt_l0_0_e1 (a0 : (List SStroke)) (a1 : ByteArray) (r : Unit) : VS := ⟨mkA [], [], .nil⟩
def nspeculumref04_StrokeAt_l0_0 (k : Nat) (a0 : (List SStroke)) (a1 : ByteArray) : Nat -> Int -> Option (Sum Int Unit)
 | 0, _ => none
 | fuel + 1, x5 => if x5 < (a0.length : Int) then (if 0 <= x5 /\ x5 < (a0.length : Int) then (if ((a0.getD x5.toNat default).Name) = a1 then (some (.inl x5)) else (nspeculumref04_StrokeAt_l0_0 k a0 a1 fuel (w64 (x5 + 1)))) else none) else (some (.inr ()))
theorem nspeculumref04_StrokeAt_l0_0_ok (k : Nat) (a0 : (List SStroke)) (a1 : ByteArray) : ∀ (fuel : Nat) (x5 : Int) (r : Sum Int Unit), nspeculumref04_StrokeAt_l0_0 k a0 a1 fuel x5 = some r -> (match r with | .inl r => VLoop none Go.Proofs.Try.prog (szF Go.Proofs.Try.f62) (bodyOf Go.Proofs.Try.f62 0) (nspeculumref04_StrokeAt_l0_0_h a0 a1 x5) .ret (nspeculumref04_StrokeAt_l0_0_e0 a0 a1 r) | .inr r => VLoop none Go.Proofs.Try.prog (szF Go.Proofs.Try.f62) (bodyOf Go.Proofs.Try.f62 0) (nspeculumref04_StrokeAt_l0_0_h a0 a1 x5) (.exit 0) (nspeculumref04_StrokeAt_l0_0_e1 a0 a1 r)) := by
 intro fuel
 induction fuel with
 | zero => intro x5 r h; rw [nspeculumref04_StrokeAt_l0_0.eq_1] at h; cases h
 | succ fuel ih =>
  intro x5 r h
  rw [nspeculumref04_StrokeAt_l0_0.eq_2] at h
  rcases ifs h with ⟨h1639, h⟩ | ⟨h1639, h⟩
  ·obtain ⟨h1640, h⟩ := ifn h
   have e1641 := (show loadL Go.Proofs.Try.prog 9 (x5.toNat * 2 + 0) (List.flatMap c_SStroke a0) = some (vs ((a0.getD x5.toNat default).Name)) from (ld_flat ag9 c_SStroke 2 0 len_c_SStroke (by omega) a0 default h1640 (by omega)).trans rfl)
   have e1642 := (ti (ti (an h1640 (ti (an e1641 (ti (ti trivial)))))))
   rcases ifs h with ⟨h1643, h⟩ | ⟨h1643, h⟩
   ·injection h with h; subst h
    exact round_stop (c := ⟨[(4, none)], [], []⟩) (s1 := (nspeculumref04_StrokeAt_l0_0_e0 a0 a1 x5)) pm pn (ans := [.reg (nN 4 []), .br true, .reg (nN 4 (.v (vs ((a0.getD x5.toNat default).Name)) :: .n :: .n :: [])), .br true, .reg (.n :: .n :: [])]) (by kernel_rfl) (by intro e; cases e) (an (an (an (ti (ti (ti (ti trivial)))) (an (decide_eq_true h1639) trivial)) (an e1642 (an (decide_eq_true h1643) (an (ti (ti trivial)) trivial)))) (ti trivial))
   ·have h2 := ih _ _ h
    obtain ⟨q, hv, hq⟩ := pkR (rd := none) (P := Go.Proofs.Try.prog) (fn := Go.Proofs.Try.f62) (k := 0) (s := (nspeculumref04_StrokeAt_l0_0_h a0 a1 x5)) (ans := [.reg (nN 4 []), .br true, .reg (nN 4 (.v (vs ((a0.getD x5.toNat default).Name)) :: .n :: .n :: [])), .br false, .reg (nN 3 [])]) (c := ⟨[(0, none), (1, none), (5, none)], [], []⟩) (e := .normal) (s1 := (nspeculumref04_StrokeAt_l0_0_h a0 a1 (w64 (x5 + 1)))) (an (an (an (ti (ti (ti (ti trivial)))) (an (decide_eq_true h1639) trivial)) (an (an e1642 (an (decide_eq_false h1643) trivial)) (ti (ti (ti trivial))))) (ti trivial)) (by kernel_rfl)
    cases r with
    | inl r => exact round_next pm pn hv hq h2
    | inr r =>
     exact round_next pm pn hv hq h2
  ·injection h with h; subst h
   exact round_stop (c := ⟨[], [], []⟩) (s1 := (nspeculumref04_StrokeAt_l0_0_e1 a0 a1 ())) pm pn (ans := [.reg (nN 4 []), .br false]) (by kernel_rfl) (by intro e; cases e) (an (an (ti (ti (ti (ti trivial)))) (an (decide_eq_false h1639) trivial)) (ti trivial))
def nspeculumref04_StrokeAt (k : Nat) (a0 : (List SStroke)) (a1 : ByteArray) : Option Int :=
 (nspeculumref04_StrokeAt_l0_0 k a0 a1 k 0).bind fun r1645 => (match r1645 with | .inl r1646 => (some r1646) | .inr r1647 => (some (-1)))
theorem nspeculumref04_StrokeAt_ok (k : Nat) (a0 : (List SStroke)) (a1 : ByteArray) (r : Int) (h : nspeculumref04_StrokeAt k a0 a1 = some r) : VC Go.Proofs.Try.prog 62 [VV.tr (List.flatMap c_SStroke a0) a0.length, vs a1] (vi r) := by
 unfold nspeculumref04_StrokeAt at h
 obtain ⟨r1645, h1644, h⟩ := bs h
 have hph1644 := nspeculumref04_StrokeAt_l0_0_ok k a0 a1 _ _ _ h1644
 cases r1645 with
 | inl r1646 =>
  dsimp only at h
  have e1648 := (an (ti trivial) (VRun.loop hph1644))
  injection h with h; subst h
  exact fun_ok pm pn Go.Proofs.Try.func62 (r0 := vi r1646) (ans := [.reg (.n :: []), .reg (.n :: []), .sub ⟨[(0, none), (1, none), (5, none)], [], []⟩ .ret (nspeculumref04_StrokeAt_l0_0_e0 a0 a1 r1646)]) (fr := true) (by kernel_rfl) (an (an (ti trivial) (an (ti trivial) e1648)) (ti trivial)) (Wv.refl _)
 | inr r1647 =>
  dsimp only at h
  have e1649 := (an (ti trivial) (VRun.loop hph1644))
  injection h with h; subst h
  exact fun_ok pm pn Go.Proofs.Try.func62 (r0 := vi (-1)) (ans := [.reg (.n :: []), .reg (.n :: []), .sub ⟨[(0, none), (1, none), (5, none)], [], []⟩ (.exit 0) (nspeculumref04_StrokeAt_l0_0_e1 a0 a1 r1647), .reg (.n :: [])]) (fr := true) (by kernel_rfl) (an (an (ti trivial) (an (an (ti trivial) e1649) (an (ti trivial) trivial))) (ti trivial)) (Wv.refl _)
def arK4_26 (z0 : (List SStroke)) (z1 : Int) : List Ans := (nN 5 (.v (VV.tr (List.map vi ((z0.getD z1.toNat default).Wear)) (((z0.getD z1.toNat default).Wear).length)) :: .n :: .n :: []))
def arK4_27 (z0 : (List SStroke)) (z1 : Int) (z2 : Int) (z3 : Bool) : List Ans := (nN 4 (.v (VV.tr (List.map vi ((z0.getD z1.toNat default).Wear)) (((z0.getD z1.toNat default).Wear).length)) :: .n :: .n :: .v (vi (((z0.getD z1.toNat default).Wear).getD z2.toNat 0)) :: .call (vb z3) :: .n :: []))
def arK4_28 (z0 : (List SStroke)) (z1 : Int) (z2 : Bool) : List Ans := (nN 4 (.v (VV.tr (List.map vi ((z0.getD z1.toNat default).Wear)) (((z0.getD z1.toNat default).Wear).length)) :: nN 4 (.v (VV.tr (List.map vi ((z0.getD ((0 : Int)).toNat default).Wear)) (((z0.getD ((0 : Int)).toNat default).Wear).length)) :: nN 7 (.v (VV.tr (List.map vi ((z0.getD z1.toNat default).Wear)) (((z0.getD z1.toNat default).Wear).length)) :: .n :: .call (vb z2) :: .n :: .b false :: []))))
def arK4_29 (z0 : (List SStroke)) (z1 : Int) : List Ans := (nN 4 (.v (VV.tr (List.map vi ((z0.getD z1.toNat default).Wear)) (((z0.getD z1.toNat default).Wear).length)) :: nN 4 (.v (VV.tr (List.map vi ((z0.getD ((0 : Int)).toNat default).Wear)) (((z0.getD ((0 : Int)).toNat default).Wear).length)) :: nN 3 (nS 8 (.b true :: [])))))
def nspeculumref04_CheckStrokes_l1_0_h (a0 : (List SStroke)) (x4 : Int) (x5 : Int) : VS := ⟨mkA [(0, VV.tr (List.flatMap c_SStroke a0) a0.length), (4, vi x4), (5, vi x5)], [], .nil⟩
def nspeculumref04_CheckStrokes_l1_0_e0 (a0 : (List SStroke)) (x4 : Int) (r : Unit) : VS := ⟨mkA [(2, vi 0), (3, vi 2)], [], .nil⟩
def nspeculumref04_CheckStrokes_l1_0_e1 (a0 : (List SStroke)) (x4 : Int) (r : Unit) : VS := ⟨mkA [(0, VV.tr (List.flatMap c_SStroke a0) a0.length), (4, vi x4)], [], .nil⟩
def nspeculumref04_CheckStrokes_l1_0 (k : Nat) (a0 : (List SStroke)) (x4 : Int) : Nat -> Int -> Option (Sum Unit Unit)
 | 0, _ => none
 | fuel + 1, x5 => if 0 <= x4 /\ x4 < (a0.length : Int) then (if x5 < (((a0.getD x4.toNat default).Wear).length : Int) then (if 0 <= x5 /\ x5 < (((a0.getD x4.toNat default).Wear).length : Int) then ((nspeculumbase_Within k (((a0.getD x4.toNat default).Wear).getD x5.toNat 0) 0 100).bind fun r2076 => (if r2076 = true then (nspeculumref04_CheckStrokes_l1_0 k a0 x4 fuel (w64 (x5 + 1))) else (some (.inl ())))) else none) else (some (.inr ()))) else none
theorem nspeculumref04_CheckStrokes_l1_0_ok (k : Nat) (a0 : (List SStroke)) (x4 : Int) : ∀ (fuel : Nat) (x5 : Int) (r : Sum Unit Unit), nspeculumref04_CheckStrokes_l1_0 k a0 x4 fuel x5 = some r -> (match r with | .inl r => VLoop none Go.Proofs.Try.prog (szF Go.Proofs.Try.f29) (bodyOf Go.Proofs.Try.f29 1) (nspeculumref04_CheckStrokes_l1_0_h a0 x4 x5) .ret (nspeculumref04_CheckStrokes_l1_0_e0 a0 x4 r) | .inr r => VLoop none Go.Proofs.Try.prog (szF Go.Proofs.Try.f29) (bodyOf Go.Proofs.Try.f29 1) (nspeculumref04_CheckStrokes_l1_0_h a0 x4 x5) (.exit 2) (nspeculumref04_CheckStrokes_l1_0_e1 a0 x4 r)) := by
 intro fuel
 induction fuel with
 | zero => intro x5 r h; rw [nspeculumref04_CheckStrokes_l1_0.eq_1] at h; cases h
 | succ fuel ih =>
  intro x5 r h
  rw [nspeculumref04_CheckStrokes_l1_0.eq_2] at h
  obtain ⟨h2069, h⟩ := ifn h
  have e2070 := (show loadL Go.Proofs.Try.prog 23 (x4.toNat * 2 + 1) (List.flatMap c_SStroke a0) = some (VV.tr (List.map vi ((a0.getD x4.toNat default).Wear)) (((a0.getD x4.toNat default).Wear).length)) from (ld_flat ag23 c_SStroke 2 1 len_c_SStroke (by omega) a0 default h2069 (by omega)).trans rfl)
  have e2071 := (ti (ti (ti (an h2069 (ti (an e2070 (ti (ti trivial))))))))
  rcases ifs h with ⟨h2072, h⟩ | ⟨h2072, h⟩
  ·have e2073 := (show loadL Go.Proofs.Try.prog 23 (x4.toNat * 2 + 1) (List.flatMap c_SStroke a0) = some (VV.tr (List.map vi ((a0.getD x4.toNat default).Wear)) (((a0.getD x4.toNat default).Wear).length)) from (ld_flat ag23 c_SStroke 2 1 len_c_SStroke (by omega) a0 default h2069 (by omega)).trans rfl)
   obtain ⟨h2074, h⟩ := ifn h
   have e2075 := (show loadL Go.Proofs.Try.prog 3 (x5.toNat * 1) (List.map vi ((a0.getD x4.toNat default).Wear)) = some (vi (((a0.getD x4.toNat default).Wear).getD x5.toNat 0)) from ld_map ag3 vi ((a0.getD x4.toNat default).Wear) 0 h2074 (by omega))
   obtain ⟨r2076, h2077, h⟩ := bs h
   have e2078 := (nspeculumbase_Within_ok k (((a0.getD x4.toNat default).Wear).getD x5.toNat 0) 0 100 _ h2077)
   have e2079 := (ti (ti (an h2069 (ti (an e2073 (ti (an h2074 (an e2075 (an e2078 (ti trivial))))))))))
   rcases ifs h with ⟨h2080, h⟩ | ⟨h2080, h⟩
   ·have h2 := ih _ _ h
    obtain ⟨q, hv, hq⟩ := pkR (rd := none) (P := Go.Proofs.Try.prog) (fn := Go.Proofs.Try.f29) (k := 1) (s := (nspeculumref04_CheckStrokes_l1_0_h a0 x4 x5)) (ans := [.reg (arK4_26 a0 x4), .br true, .reg (arK4_27 a0 x4 x5 r2076), .br false, .reg (nN 3 [])]) (c := ⟨[(0, none), (4, none), (5, none)], [], []⟩) (e := .normal) (s1 := (nspeculumref04_CheckStrokes_l1_0_h a0 x4 (w64 (x5 + 1)))) (an (an (an e2071 (an (decide_eq_true h2072) trivial)) (an (an e2079 (an (not_f h2080) trivial)) (ti (ti (ti trivial))))) (ti trivial)) (by kernel_rfl)
    cases r with
    | inl r => exact round_next pm pn hv hq h2
    | inr r =>
     exact round_next pm pn hv hq h2
   ·injection h with h; subst h
    exact round_stop (c := ⟨[(2, none), (3, none)], [], []⟩) (s1 := (nspeculumref04_CheckStrokes_l1_0_e0 a0 x4 ())) pm pn (ans := [.reg (arK4_26 a0 x4), .br true, .reg (arK4_27 a0 x4 x5 r2076), .br true, .reg (.n :: .n :: [])]) (by kernel_rfl) (by intro e; cases e) (an (an (an e2071 (an (decide_eq_true h2072) trivial)) (an e2079 (an (not_t (bool_f h2080)) (an (ti (ti trivial)) trivial)))) (ti trivial))
  ·injection h with h; subst h
   exact round_stop (c := ⟨[(0, none), (4, none)], [], []⟩) (s1 := (nspeculumref04_CheckStrokes_l1_0_e1 a0 x4 ())) pm pn (ans := [.reg (arK4_26 a0 x4), .br false]) (by kernel_rfl) (by intro e; cases e) (an (an e2071 (an (decide_eq_false h2072) trivial)) (ti trivial))
def nspeculumref04_CheckStrokes_l0_0_h (a0 : (List SStroke)) (x4 : Int) : VS := ⟨mkA [(0, VV.tr (List.flatMap c_SStroke a0) a0.length), (4, vi x4)], [], .nil⟩
def nspeculumref04_CheckStrokes_l0_0_e0 (a0 : (List SStroke)) (r : Int) : VS := ⟨mkA [(2, vi 0), (3, vi r)], [], .nil⟩
def nspeculumref04_CheckStrokes_l0_0_e1 (a0 : (List SStroke)) (r : Unit) : VS := ⟨mkA [(0, VV.tr (List.flatMap c_SStroke a0) a0.length)], [], .nil⟩
def nspeculumref04_CheckStrokes_l0_0 (k : Nat) (a0 : (List SStroke)) : Nat -> Int -> Option (Sum Int Unit)
 | 0, _ => none
 | fuel + 1, x4 => if x4 < (a0.length : Int) then (if 0 <= x4 /\ x4 < (a0.length : Int) then ((nspeculumbase_IsName k ((a0.getD x4.toNat default).Name)).bind fun r2018 => (if r2018 = true then ((nspeculumref04_StrokeAt k a0 ((a0.getD x4.toNat default).Name)).bind fun r2024 => (if r2024 < x4 then (some (.inl 5)) else (if (0 : Int) <= 0 /\ 0 < (a0.length : Int) then (if (((a0.getD x4.toNat default).Wear).length : Int) = (((a0.getD ((0 : Int)).toNat default).Wear).length : Int) then ((nspeculumbase_Within k (((a0.getD x4.toNat default).Wear).length : Int) 1 40).bind fun r2039 => (if r2039 = true then ((nspeculumref04_CheckStrokes_l1_0 k a0 x4 k 0).bind fun r2082 => (match r2082 with | .inl r2083 => (some (.inl 2)) | .inr r2084 => (nspeculumref04_CheckStrokes_l0_0 k a0 fuel (w64 (x4 + 1))))) else (some (.inl 10)))) else (some (.inl 10))) else none))) else (some (.inl 4)))) else none) else (some (.inr ()))
theorem nspeculumref04_CheckStrokes_l0_0_ok (k : Nat) (a0 : (List SStroke)) : ∀ (fuel : Nat) (x4 : Int) (r : Sum Int Unit), nspeculumref04_CheckStrokes_l0_0 k a0 fuel x4 = some r -> (match r with | .inl r => VLoop none Go.Proofs.Try.prog (szF Go.Proofs.Try.f29) (bodyOf Go.Proofs.Try.f29 0) (nspeculumref04_CheckStrokes_l0_0_h a0 x4) .ret (nspeculumref04_CheckStrokes_l0_0_e0 a0 r) | .inr r => VLoop none Go.Proofs.Try.prog (szF Go.Proofs.Try.f29) (bodyOf Go.Proofs.Try.f29 0) (nspeculumref04_CheckStrokes_l0_0_h a0 x4) (.exit 0) (nspeculumref04_CheckStrokes_l0_0_e1 a0 r)) := by
 intro fuel
 induction fuel with
 | zero => intro x4 r h; rw [nspeculumref04_CheckStrokes_l0_0.eq_1] at h; cases h
 | succ fuel ih =>
  intro x4 r h
  rw [nspeculumref04_CheckStrokes_l0_0.eq_2] at h
  rcases ifs h with ⟨h2015, h⟩ | ⟨h2015, h⟩
  ·obtain ⟨h2016, h⟩ := ifn h
   have e2017 := (show loadL Go.Proofs.Try.prog 9 (x4.toNat * 2 + 0) (List.flatMap c_SStroke a0) = some (vs ((a0.getD x4.toNat default).Name)) from (ld_flat ag9 c_SStroke 2 0 len_c_SStroke (by omega) a0 default h2016 (by omega)).trans rfl)
   obtain ⟨r2018, h2019, h⟩ := bs h
   have e2020 := (nspeculumbase_IsName_ok k ((a0.getD x4.toNat default).Name) _ h2019)
   have e2021 := (ti (ti (an h2016 (ti (an e2017 (an e2020 (ti trivial)))))))
   rcases ifs h with ⟨h2022, h⟩ | ⟨h2022, h⟩
   ·have e2023 := (show loadL Go.Proofs.Try.prog 9 (x4.toNat * 2 + 0) (List.flatMap c_SStroke a0) = some (vs ((a0.getD x4.toNat default).Name)) from (ld_flat ag9 c_SStroke 2 0 len_c_SStroke (by omega) a0 default h2016 (by omega)).trans rfl)
    obtain ⟨r2024, h2025, h⟩ := bs h
    have e2026 := (nspeculumref04_StrokeAt_ok k a0 ((a0.getD x4.toNat default).Name) _ h2025)
    have e2027 := (ti (ti (ti (an h2016 (ti (an e2023 (an e2026 (ti (ti trivial)))))))))
    rcases ifs h with ⟨h2028, h⟩ | ⟨h2028, h⟩
    ·injection h with h; subst h
     exact round_stop (c := ⟨[(2, none), (3, none)], [], []⟩) (s1 := (nspeculumref04_CheckStrokes_l0_0_e0 a0 5)) pm pn (ans := [.reg (nN 4 []), .br true, .reg (nN 4 (.v (vs ((a0.getD x4.toNat default).Name)) :: .call (vb r2018) :: .n :: [])), .br false, .reg (nN 5 (.v (vs ((a0.getD x4.toNat default).Name)) :: .call (vi r2024) :: .n :: .n :: [])), .br true, .reg (.n :: .n :: [])]) (by kernel_rfl) (by intro e; cases e) (an (an (an (ti (ti (ti (ti trivial)))) (an (decide_eq_true h2015) trivial)) (an (an e2021 (an (not_f h2022) trivial)) (an e2027 (an (decide_eq_true h2028) (an (ti (ti trivial)) trivial))))) (ti trivial))
    ·have e2029 := (show loadL Go.Proofs.Try.prog 23 (x4.toNat * 2 + 1) (List.flatMap c_SStroke a0) = some (VV.tr (List.map vi ((a0.getD x4.toNat default).Wear)) (((a0.getD x4.toNat default).Wear).length)) from (ld_flat ag23 c_SStroke 2 1 len_c_SStroke (by omega) a0 default h2016 (by omega)).trans rfl)
     obtain ⟨h2030, h⟩ := ifn h
     have e2031 := (show loadL Go.Proofs.Try.prog 23 (((0 : Int)).toNat * 2 + 1) (List.flatMap c_SStroke a0) = some (VV.tr (List.map vi ((a0.getD ((0 : Int)).toNat default).Wear)) (((a0.getD ((0 : Int)).toNat default).Wear).length)) from (ld_flat ag23 c_SStroke 2 1 len_c_SStroke (by omega) a0 default h2030 (by omega)).trans rfl)
     rcases ifs h with ⟨h2032, h⟩ | ⟨h2032, h⟩
     ·have e2033 := (an (not_f (decide_eq_true h2032)) trivial)
      have e2034 := (an (not_f (decide_eq_true h2032)) trivial)
      have e2035 := (an (not_f (decide_eq_true h2032)) h2016)
      have e2036 := (an (not_f (decide_eq_true h2032)) trivial)
      have e2037 := (an (not_f (decide_eq_true h2032)) (show loadL Go.Proofs.Try.prog 23 (x4.toNat * 2 + 1) (List.flatMap c_SStroke a0) = some (VV.tr (List.map vi ((a0.getD x4.toNat default).Wear)) (((a0.getD x4.toNat default).Wear).length)) from (ld_flat ag23 c_SStroke 2 1 len_c_SStroke (by omega) a0 default h2016 (by omega)).trans rfl))
      have e2038 := (an (not_f (decide_eq_true h2032)) trivial)
      obtain ⟨r2039, h2040, h⟩ := bs h
      have e2041 := (an (not_f (decide_eq_true h2032)) (nspeculumbase_Within_ok k (((a0.getD x4.toNat default).Wear).length : Int) 1 40 _ h2040))
      have e2042 := (an (not_f (decide_eq_true h2032)) trivial)
      have e2043 := (ti (ti (an h2016 (ti (an e2029 (ti (ti (an h2030 (ti (an e2031 (ti (ti (ti (an e2033 (an e2034 (an e2035 (an e2036 (an e2037 (an e2038 (an e2041 (an e2042 (an (not_f (decide_eq_true h2032)) trivial))))))))))))))))))))))
      rcases ifs h with ⟨h2044, h⟩ | ⟨h2044, h⟩
      ·obtain ⟨r2082, h2081, h⟩ := bs h
       have hph2081 := nspeculumref04_CheckStrokes_l1_0_ok k a0 x4 _ _ _ h2081
       cases r2082 with
       | inl r2083 =>
        dsimp only at h
        have e2085 := (an (ti trivial) (VRun.loop hph2081))
        injection h with h; subst h
        exact round_stop (c := ⟨[(2, none), (3, none)], [], []⟩) (s1 := (nspeculumref04_CheckStrokes_l0_0_e0 a0 2)) pm pn (ans := [.reg (nN 4 []), .br true, .reg (nN 4 (.v (vs ((a0.getD x4.toNat default).Name)) :: .call (vb r2018) :: .n :: [])), .br false, .reg (nN 5 (.v (vs ((a0.getD x4.toNat default).Name)) :: .call (vi r2024) :: .n :: .n :: [])), .br false, .reg (arK4_28 a0 x4 r2039), .br false, .reg (.n :: []), .sub ⟨[(0, none), (4, none), (5, none)], [], []⟩ .ret (nspeculumref04_CheckStrokes_l1_0_e0 a0 x4 r2083)]) (by kernel_rfl) (by intro e; cases e) (an (an (an (ti (ti (ti (ti trivial)))) (an (decide_eq_true h2015) trivial)) (an (an e2021 (an (not_f h2022) trivial)) (an (an e2027 (an (decide_eq_false h2028) trivial)) (an (an e2043 (an (not_f h2044) trivial)) (an (ti trivial) e2085))))) (ti trivial))
       | inr r2084 =>
        dsimp only at h
        have e2086 := (an (ti trivial) (VRun.loop hph2081))
        have h2 := ih _ _ h
        obtain ⟨q, hv, hq⟩ := pkR (rd := none) (P := Go.Proofs.Try.prog) (fn := Go.Proofs.Try.f29) (k := 0) (s := (nspeculumref04_CheckStrokes_l0_0_h a0 x4)) (ans := [.reg (nN 4 []), .br true, .reg (nN 4 (.v (vs ((a0.getD x4.toNat default).Name)) :: .call (vb r2018) :: .n :: [])), .br false, .reg (nN 5 (.v (vs ((a0.getD x4.toNat default).Name)) :: .call (vi r2024) :: .n :: .n :: [])), .br false, .reg (arK4_28 a0 x4 r2039), .br false, .reg (.n :: []), .sub ⟨[(0, none), (4, none), (5, none)], [], []⟩ (.exit 2) (nspeculumref04_CheckStrokes_l1_0_e1 a0 x4 r2084), .reg (nN 3 [])]) (c := ⟨[(0, none), (4, none)], [], []⟩) (e := .normal) (s1 := (nspeculumref04_CheckStrokes_l0_0_h a0 (w64 (x4 + 1)))) (an (an (an (ti (ti (ti (ti trivial)))) (an (decide_eq_true h2015) trivial)) (an (an (an e2021 (an (not_f h2022) trivial)) (an (an e2027 (an (decide_eq_false h2028) trivial)) (an (an e2043 (an (not_f h2044) trivial)) (an (ti trivial) e2086)))) (ti (ti (ti trivial))))) (ti trivial)) (by kernel_rfl)
        cases r with
        | inl r => exact round_next pm pn hv hq h2
        | inr r =>
         exact round_next pm pn hv hq h2
      ·injection h with h; subst h
       exact round_stop (c := ⟨[(2, none), (3, none)], [], []⟩) (s1 := (nspeculumref04_CheckStrokes_l0_0_e0 a0 10)) pm pn (ans := [.reg (nN 4 []), .br true, .reg (nN 4 (.v (vs ((a0.getD x4.toNat default).Name)) :: .call (vb r2018) :: .n :: [])), .br false, .reg (nN 5 (.v (vs ((a0.getD x4.toNat default).Name)) :: .call (vi r2024) :: .n :: .n :: [])), .br false, .reg (arK4_28 a0 x4 r2039), .br true, .reg (.n :: .n :: [])]) (by kernel_rfl) (by intro e; cases e) (an (an (an (ti (ti (ti (ti trivial)))) (an (decide_eq_true h2015) trivial)) (an (an e2021 (an (not_f h2022) trivial)) (an (an e2027 (an (decide_eq_false h2028) trivial)) (an e2043 (an (not_t (bool_f h2044)) (an (ti (ti trivial)) trivial)))))) (ti trivial))
     ·have e2087 := (ti (ti (an h2016 (ti (an e2029 (ti (ti (an h2030 (ti (an e2031 (ti (ti (ti (an (not_t (decide_eq_false h2032)) (an (not_t (decide_eq_false h2032)) (an (not_t (decide_eq_false h2032)) (an (not_t (decide_eq_false h2032)) (an (not_t (decide_eq_false h2032)) (an (not_t (decide_eq_false h2032)) (an (not_t (decide_eq_false h2032)) (an (not_t (decide_eq_false h2032)) (an (not_t (decide_eq_false h2032)) trivial))))))))))))))))))))))
      injection h with h; subst h
      exact round_stop (c := ⟨[(2, none), (3, none)], [], []⟩) (s1 := (nspeculumref04_CheckStrokes_l0_0_e0 a0 10)) pm pn (ans := [.reg (nN 4 []), .br true, .reg (nN 4 (.v (vs ((a0.getD x4.toNat default).Name)) :: .call (vb r2018) :: .n :: [])), .br false, .reg (nN 5 (.v (vs ((a0.getD x4.toNat default).Name)) :: .call (vi r2024) :: .n :: .n :: [])), .br false, .reg (arK4_29 a0 x4), .br true, .reg (.n :: .n :: [])]) (by kernel_rfl) (by intro e; cases e) (an (an (an (ti (ti (ti (ti trivial)))) (an (decide_eq_true h2015) trivial)) (an (an e2021 (an (not_f h2022) trivial)) (an (an e2027 (an (decide_eq_false h2028) trivial)) (an e2087 (an rt (an (ti (ti trivial)) trivial)))))) (ti trivial))
   ·injection h with h; subst h
    exact round_stop (c := ⟨[(2, none), (3, none)], [], []⟩) (s1 := (nspeculumref04_CheckStrokes_l0_0_e0 a0 4)) pm pn (ans := [.reg (nN 4 []), .br true, .reg (nN 4 (.v (vs ((a0.getD x4.toNat default).Name)) :: .call (vb r2018) :: .n :: [])), .br true, .reg (.n :: .n :: [])]) (by kernel_rfl) (by intro e; cases e) (an (an (an (ti (ti (ti (ti trivial)))) (an (decide_eq_true h2015) trivial)) (an e2021 (an (not_t (bool_f h2022)) (an (ti (ti trivial)) trivial)))) (ti trivial))
  ·injection h with h; subst h
   exact round_stop (c := ⟨[(0, none)], [], []⟩) (s1 := (nspeculumref04_CheckStrokes_l0_0_e1 a0 ())) pm pn (ans := [.reg (nN 4 []), .br false]) (by kernel_rfl) (by intro e; cases e) (an (an (ti (ti (ti (ti trivial)))) (an (decide_eq_false h2015) trivial)) (ti trivial))
def arK4_30 (z0 : (List SStroke)) : List Ans := (nN 3 (.v (VV.tr (List.map vi ((z0.getD ((0 : Int)).toNat default).Wear)) (((z0.getD ((0 : Int)).toNat default).Wear).length)) :: nN 3 []))
def nspeculumref04_CheckStrokes (k : Nat) (a0 : (List SStroke)) : Option (Int × Int) :=
 if (a0.length : Int) = 0 then (some (0, 10)) else (if 12 < (a0.length : Int) then (some (0, 8)) else ((nspeculumref04_CheckStrokes_l0_0 k a0 k 0).bind fun r2089 => (match r2089 with | .inl r2090 => (some (0, r2090)) | .inr r2091 => (if (0 : Int) <= 0 /\ 0 < (a0.length : Int) then (some ((((a0.getD ((0 : Int)).toNat default).Wear).length : Int), 0)) else none))))
theorem nspeculumref04_CheckStrokes_ok (k : Nat) (a0 : (List SStroke)) (r : (Int × Int)) (h : nspeculumref04_CheckStrokes k a0 = some r) : VC Go.Proofs.Try.prog 29 [VV.tr (List.flatMap c_SStroke a0) a0.length] (VV.tu [vi r.1, vi r.2]) := by
 unfold nspeculumref04_CheckStrokes at h
 rcases ifs h with ⟨h1868, h⟩ | ⟨h1868, h⟩
 ·injection h with h; subst h
  exact fun_ok pm pn Go.Proofs.Try.func29 (r0 := VV.tu [vi 0, vi 10]) (ans := [.reg (.n :: .n :: []), .reg (nN 3 []), .br true, .reg (.n :: .n :: [])]) (fr := true) (by kernel_rfl) (an (an (ti (ti trivial)) (an (ti (ti (ti trivial))) (an (decide_eq_true h1868) (an (ti (ti trivial)) trivial)))) (ti (ti trivial))) (Wv.refl _)
 ·rcases ifs h with ⟨h1869, h⟩ | ⟨h1869, h⟩
  ·injection h with h; subst h
   exact fun_ok pm pn Go.Proofs.Try.func29 (r0 := VV.tu [vi 0, vi 8]) (ans := [.reg (.n :: .n :: []), .reg (nN 3 []), .br false, .reg (nN 3 []), .br true, .reg (.n :: .n :: [])]) (fr := true) (by kernel_rfl) (an (an (ti (ti trivial)) (an (an (ti (ti (ti trivial))) (an (decide_eq_false h1868) trivial)) (an (ti (ti (ti trivial))) (an (decide_eq_true h1869) (an (ti (ti trivial)) trivial))))) (ti (ti trivial))) (Wv.refl _)
  ·obtain ⟨r2089, h2088, h⟩ := bs h
   have hph2088 := nspeculumref04_CheckStrokes_l0_0_ok k a0 _ _ _ h2088
   cases r2089 with
   | inl r2090 =>
    dsimp only at h
    have e2092 := (an (ti trivial) (VRun.loop hph2088))
    injection h with h; subst h
    exact fun_ok pm pn Go.Proofs.Try.func29 (r0 := VV.tu [vi 0, vi r2090]) (ans := [.reg (.n :: .n :: []), .reg (nN 3 []), .br false, .reg (nN 3 []), .br false, .reg (.n :: []), .sub ⟨[(0, none), (4, none)], [], []⟩ .ret (nspeculumref04_CheckStrokes_l0_0_e0 a0 r2090)]) (fr := true) (by kernel_rfl) (an (an (ti (ti trivial)) (an (an (ti (ti (ti trivial))) (an (decide_eq_false h1868) trivial)) (an (an (ti (ti (ti trivial))) (an (decide_eq_false h1869) trivial)) (an (ti trivial) e2092)))) (ti (ti trivial))) (Wv.refl _)
   | inr r2091 =>
    dsimp only at h
    have e2093 := (an (ti trivial) (VRun.loop hph2088))
    obtain ⟨h2094, h⟩ := ifn h
    have e2095 := (show loadL Go.Proofs.Try.prog 23 (((0 : Int)).toNat * 2 + 1) (List.flatMap c_SStroke a0) = some (VV.tr (List.map vi ((a0.getD ((0 : Int)).toNat default).Wear)) (((a0.getD ((0 : Int)).toNat default).Wear).length)) from (ld_flat ag23 c_SStroke 2 1 len_c_SStroke (by omega) a0 default h2094 (by omega)).trans rfl)
    have e2096 := (ti (an h2094 (ti (an e2095 (ti (ti (ti trivial)))))))
    injection h with h; subst h
    exact fun_ok pm pn Go.Proofs.Try.func29 (r0 := VV.tu [vi (((a0.getD ((0 : Int)).toNat default).Wear).length : Int), vi 0]) (ans := [.reg (.n :: .n :: []), .reg (nN 3 []), .br false, .reg (nN 3 []), .br false, .reg (.n :: []), .sub ⟨[(0, none), (4, none)], [], []⟩ (.exit 0) (nspeculumref04_CheckStrokes_l0_0_e1 a0 r2091), .reg (arK4_30 a0)]) (fr := true) (by kernel_rfl) (an (an (ti (ti trivial)) (an (an (ti (ti (ti trivial))) (an (decide_eq_false h1868) trivial)) (an (an (ti (ti (ti trivial))) (an (decide_eq_false h1869) trivial)) (an (an (ti trivial) e2093) (an e2096 trivial))))) (ti (ti trivial))) (Wv.refl _)
end Go.Proofs.Ytbaegoglpijnnab.Vg

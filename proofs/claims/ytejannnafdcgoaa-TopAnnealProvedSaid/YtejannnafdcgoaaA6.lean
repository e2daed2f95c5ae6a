/- Written by a program out of the program: what Go functions do, as plain functions, and their contracts. -/
import Derived.Test.YtejannnafdcgoaaA5
namespace Go.Proofs.Ytejannnafdcgoaa.Vg
set_option maxRecDepth 100000
set_option maxHeartbeats 4000000
set_option linter.unusedVariables false
set_option linter.unusedSimpArgs false
open Go Go.Proofs.Ytejannnafdcgoaa.Ev Go.Proofs.Ytejannnafdcgoaa.Vv
theorem ag26 : isAggT Go.Proofs.Try.prog 26 = some false := by kernel_rfl
def nawake (k : Nat) : Option Bool := some true
theorem nawake_ok (k : Nat) (r : Bool) (h : nawake k = some r) : VC Go.Proofs.Try.prog 5 [] (vb r) := by
  injection h with h; subst h
  exact vc_awake
def arA6_0 (z0 : (List Int)) (z1 : Int) : List Ans := (nN 4 (.v (vi (z0.getD (w64 (z1 + 1)).toNat 0)) :: nN 3 (.v (vi (z0.getD z1.toNat 0)) :: .n :: .n :: [])))
def arA6_1 (z0 : (List Int)) (z1 : SAnnealing) (z2 : Int) (z3 : Bool) : List Ans := (nN 4 (.v (vi (z0.getD ((z1.Windows.getD z2.toNat default).Level).toNat 0)) :: nN 4 (.call (vb z3) :: .n :: [])))
def nblank_CheckTimes_l0_0_h (a0 : SAnnealing) (a1 : (List Int)) (x28 : Int) : VS := ⟨mkA [(1, VV.tr (List.map vi a1) a1.length), (2, VV.pt 0 0), (26, VV.tr (List.map vi a1) a1.length), (27, vi (a1.length : Int)), (28, vi x28)], [some ⟨true, 1, c_SAnnealing a0⟩], .nil⟩
def nblank_CheckTimes_l0_0_e0 (a0 : SAnnealing) (a1 : (List Int)) (r : Int) : VS := ⟨mkA [(4, vi r), (5, vi 2)], [], .nil⟩
def nblank_CheckTimes_l0_0_e1 (a0 : SAnnealing) (a1 : (List Int)) (r : Unit) : VS := ⟨mkA [(1, VV.tr (List.map vi a1) a1.length), (2, VV.pt 0 0)], [some ⟨true, 1, c_SAnnealing a0⟩], .nil⟩
def nblank_CheckTimes_l0_0 (k : Nat) (a0 : SAnnealing) (a1 : (List Int)) : Nat → Int → Option (Sum Int Unit)
  | 0, _ => none
  | fuel + 1, x28 => if x28 < (a1.length : Int) then (if 0 ≤ x28 ∧ x28 < (a1.length : Int) then ((nblank_isWithin k (a1.getD x28.toNat 0) 0 10000000).bind fun r1644 => (if r1644 = true then (nblank_CheckTimes_l0_0 k a0 a1 fuel (w64 (x28 + 1))) else (some (.inl x28)))) else none) else (some (.inr ()))
theorem nblank_CheckTimes_l0_0_ok (k : Nat) (a0 : SAnnealing) (a1 : (List Int)) : ∀ (fuel : Nat) (x28 : Int) (r : Sum Int Unit), nblank_CheckTimes_l0_0 k a0 a1 fuel x28 = some r → (match r with | .inl r => VLoop none Go.Proofs.Try.prog (szF Go.Proofs.Try.f9) (bodyOf Go.Proofs.Try.f9 0) (nblank_CheckTimes_l0_0_h a0 a1 x28) .ret (nblank_CheckTimes_l0_0_e0 a0 a1 r) | .inr r => VLoop none Go.Proofs.Try.prog (szF Go.Proofs.Try.f9) (bodyOf Go.Proofs.Try.f9 0) (nblank_CheckTimes_l0_0_h a0 a1 x28) (.exit 0) (nblank_CheckTimes_l0_0_e1 a0 a1 r)) := by
 intro fuel
 induction fuel with
 | zero => intro x28 r h; rw [nblank_CheckTimes_l0_0.eq_1] at h; cases h
 | succ fuel ih =>
  intro x28 r h
  rw [nblank_CheckTimes_l0_0.eq_2] at h
  rcases ifs h with ⟨h1641, h⟩ | ⟨h1641, h⟩
  ·obtain ⟨h1642, h⟩ := ifn h
   have e1643 := (show loadL Go.Proofs.Try.prog 3 (x28.toNat * 1) (List.map vi a1) = some (vi (a1.getD x28.toNat 0)) from ld_map ag3 vi a1 0 h1642 (by omega))
   obtain ⟨r1644, h1645, h⟩ := bs h
   have e1646 := (nblank_isWithin_ok k (a1.getD x28.toNat 0) 0 10000000 _ h1645)
   rcases ifs h with ⟨h1647, h⟩ | ⟨h1647, h⟩
   ·have h2 := ih _ _ h
    obtain ⟨q, hv, hq⟩ := pkR (rd := none) (P := Go.Proofs.Try.prog) (fn := Go.Proofs.Try.f9) (k := 0) (s := (nblank_CheckTimes_l0_0_h a0 a1 x28)) (ans := [.reg (.n :: []), .br true, .reg (.n :: .n :: .v (vi (a1.getD x28.toNat 0)) :: .n :: .n :: []), .reg (.n :: .call (vb r1644) :: .n :: []), .br false, .reg (.n :: .n :: [])]) (c := ⟨[(1, none), (2, none), (26, none), (27, none), (28, none)], [none], []⟩) (e := .normal) (s1 := (nblank_CheckTimes_l0_0_h a0 a1 (w64 (x28 + 1)))) (an (an (ti trivial) (an (an (decide_eq_true h1641) trivial) (an (an (ti (an h1642 (an e1643 (ti (ti trivial))))) (an (ti (an e1646 (ti trivial))) (an (not_f h1647) trivial))) (ti (ti trivial))))) (ti trivial)) (by kernel_rfl)
    cases r with
    | inl r => exact round_next pm pn hv hq h2
    | inr r =>
     exact round_next pm pn hv hq h2
   ·injection h with h; subst h
    exact round_stop (c := ⟨[(4, none), (5, none)], [], []⟩) (s1 := (nblank_CheckTimes_l0_0_e0 a0 a1 x28)) pm pn (ans := [.reg (.n :: []), .br true, .reg (.n :: .n :: .v (vi (a1.getD x28.toNat 0)) :: .n :: .n :: []), .reg (.n :: .call (vb r1644) :: .n :: []), .br true, .reg (nN 3 [])]) (by kernel_rfl) (by intro e; cases e) (an (an (ti trivial) (an (an (decide_eq_true h1641) trivial) (an (ti (an h1642 (an e1643 (ti (ti trivial))))) (an (ti (an e1646 (ti trivial))) (an (not_t (bool_f h1647)) (an (ti (ti (ti trivial))) trivial)))))) (ti trivial))
  ·injection h with h; subst h
   exact round_stop (c := ⟨[(1, none), (2, none)], [none], []⟩) (s1 := (nblank_CheckTimes_l0_0_e1 a0 a1 ())) pm pn (ans := [.reg (.n :: []), .br false]) (by kernel_rfl) (by intro e; cases e) (an (an (ti trivial) (an (decide_eq_false h1641) trivial)) (ti trivial))
def nblank_CheckTimes_l1_0_h (a0 : SAnnealing) (a1 : (List Int)) (x41 : Int) : VS := ⟨mkA [(1, VV.tr (List.map vi a1) a1.length), (2, VV.pt 0 0), (39, VV.tr (List.flatMap c_SCoolStep a0.Steps) a0.Steps.length), (40, vi (a0.Steps.length : Int)), (41, vi x41)], [some ⟨true, 1, c_SAnnealing a0⟩], .nil⟩
def nblank_CheckTimes_l1_0_e0 (a0 : SAnnealing) (a1 : (List Int)) (r : Int × Int) : VS := ⟨mkA [(4, vi r.1), (5, vi r.2)], [], .nil⟩
def nblank_CheckTimes_l1_0_e1 (a0 : SAnnealing) (a1 : (List Int)) (r : Unit) : VS := ⟨mkA [(1, VV.tr (List.map vi a1) a1.length), (2, VV.pt 0 0)], [some ⟨true, 1, c_SAnnealing a0⟩], .nil⟩
def nblank_CheckTimes_l1_0 (k : Nat) (a0 : SAnnealing) (a1 : (List Int)) : Nat → Int → Option (Sum (Int × Int) Unit)
  | 0, _ => none
  | fuel + 1, x41 => if x41 < (a0.Steps.length : Int) then (if 0 ≤ x41 ∧ x41 < (a0.Steps.length : Int) then (if 0 ≤ w64 (x41 + 1) ∧ w64 (x41 + 1) < (a1.length : Int) then (if 0 ≤ x41 ∧ x41 < (a1.length : Int) then ((nblank_leastMinutes k a0 x41).bind fun r1688 => (if (w64 ((a1.getD (w64 (x41 + 1)).toNat 0) - (a1.getD x41.toNat 0))) < r1688 then (some (.inl (x41, 19))) else (if ((a0.Steps.getD x41.toNat default).Most) < (w64 ((a1.getD (w64 (x41 + 1)).toNat 0) - (a1.getD x41.toNat 0))) then (some (.inl (x41, 18))) else (nblank_CheckTimes_l1_0 k a0 a1 fuel (w64 (x41 + 1)))))) else none) else none) else none) else (some (.inr ()))
theorem nblank_CheckTimes_l1_0_ok (k : Nat) (a0 : SAnnealing) (a1 : (List Int)) : ∀ (fuel : Nat) (x41 : Int) (r : Sum (Int × Int) Unit), nblank_CheckTimes_l1_0 k a0 a1 fuel x41 = some r → (match r with | .inl r => VLoop none Go.Proofs.Try.prog (szF Go.Proofs.Try.f9) (bodyOf Go.Proofs.Try.f9 1) (nblank_CheckTimes_l1_0_h a0 a1 x41) .ret (nblank_CheckTimes_l1_0_e0 a0 a1 r) | .inr r => VLoop none Go.Proofs.Try.prog (szF Go.Proofs.Try.f9) (bodyOf Go.Proofs.Try.f9 1) (nblank_CheckTimes_l1_0_h a0 a1 x41) (.exit 2) (nblank_CheckTimes_l1_0_e1 a0 a1 r)) := by
 intro fuel
 induction fuel with
 | zero => intro x41 r h; rw [nblank_CheckTimes_l1_0.eq_1] at h; cases h
 | succ fuel ih =>
  intro x41 r h
  rw [nblank_CheckTimes_l1_0.eq_2] at h
  rcases ifs h with ⟨h1680, h⟩ | ⟨h1680, h⟩
  ·obtain ⟨h1681, h⟩ := ifn h
   have e1682 := (show loadL Go.Proofs.Try.prog 42 (x41.toNat * 3) (List.flatMap c_SCoolStep a0.Steps) = some (VV.ag (c_SCoolStep (a0.Steps.getD x41.toNat default))) from ld_whole ag42 c_SCoolStep 3 sz42 len_c_SCoolStep a0.Steps default h1681 (by omega))
   obtain ⟨h1683, h⟩ := ifn h
   have e1684 := (show loadL Go.Proofs.Try.prog 3 ((w64 (x41 + 1)).toNat * 1) (List.map vi a1) = some (vi (a1.getD (w64 (x41 + 1)).toNat 0)) from ld_map ag3 vi a1 0 h1683 (by omega))
   obtain ⟨h1685, h⟩ := ifn h
   have e1686 := (show loadL Go.Proofs.Try.prog 3 (x41.toNat * 1) (List.map vi a1) = some (vi (a1.getD x41.toNat 0)) from ld_map ag3 vi a1 0 h1685 (by omega))
   have e1687 := (ti (ti (ti (an h1683 (an e1684 (ti (ti (an h1685 (an e1686 (ti (ti trivial)))))))))))
   obtain ⟨r1688, h1689, h⟩ := bs h
   have e1690 := (nblank_leastMinutes_ok k a0 x41 _ h1689)
   rcases ifs h with ⟨h1691, h⟩ | ⟨h1691, h⟩
   ·injection h with h; subst h
    exact round_stop (c := ⟨[(4, none), (5, none)], [], []⟩) (s1 := (nblank_CheckTimes_l1_0_e0 a0 a1 (x41, 19))) pm pn (ans := [.reg (.n :: []), .br true, .reg (.n :: .n :: .v (VV.ag (c_SCoolStep (a0.Steps.getD x41.toNat default))) :: nN 3 []), .reg (arA6_0 a1 x41), .reg (nN 3 (.call (vi r1688) :: .n :: [])), .br true, .reg (nN 3 [])]) (by kernel_rfl) (by intro e; cases e) (an (an (ti trivial) (an (an (decide_eq_true h1680) trivial) (an (ti (an h1681 (an e1682 (ti (ti (ti trivial)))))) (an e1687 (an (ti (ti (ti (an e1690 (ti trivial))))) (an (decide_eq_true h1691) (an (ti (ti (ti trivial))) trivial))))))) (ti trivial))
   ·rcases ifs h with ⟨h1692, h⟩ | ⟨h1692, h⟩
    ·injection h with h; subst h
     exact round_stop (c := ⟨[(4, none), (5, none)], [], []⟩) (s1 := (nblank_CheckTimes_l1_0_e0 a0 a1 (x41, 18))) pm pn (ans := [.reg (.n :: []), .br true, .reg (.n :: .n :: .v (VV.ag (c_SCoolStep (a0.Steps.getD x41.toNat default))) :: nN 3 []), .reg (arA6_0 a1 x41), .reg (nN 3 (.call (vi r1688) :: .n :: [])), .br false, .reg (nN 4 []), .br true, .reg (nN 3 [])]) (by kernel_rfl) (by intro e; cases e) (an (an (ti trivial) (an (an (decide_eq_true h1680) trivial) (an (ti (an h1681 (an e1682 (ti (ti (ti trivial)))))) (an e1687 (an (an (ti (ti (ti (an e1690 (ti trivial))))) (an (decide_eq_false h1691) trivial)) (an (ti (ti (ti (ti trivial)))) (an (decide_eq_true h1692) (an (ti (ti (ti trivial))) trivial)))))))) (ti trivial))
    ·have h2 := ih _ _ h
     obtain ⟨q, hv, hq⟩ := pkR (rd := none) (P := Go.Proofs.Try.prog) (fn := Go.Proofs.Try.f9) (k := 1) (s := (nblank_CheckTimes_l1_0_h a0 a1 x41)) (ans := [.reg (.n :: []), .br true, .reg (.n :: .n :: .v (VV.ag (c_SCoolStep (a0.Steps.getD x41.toNat default))) :: nN 3 []), .reg (arA6_0 a1 x41), .reg (nN 3 (.call (vi r1688) :: .n :: [])), .br false, .reg (nN 4 []), .br false, .reg (.n :: .n :: [])]) (c := ⟨[(1, none), (2, none), (39, none), (40, none), (41, none)], [none], []⟩) (e := .normal) (s1 := (nblank_CheckTimes_l1_0_h a0 a1 (w64 (x41 + 1)))) (an (an (ti trivial) (an (an (decide_eq_true h1680) trivial) (an (an (ti (an h1681 (an e1682 (ti (ti (ti trivial)))))) (an e1687 (an (an (ti (ti (ti (an e1690 (ti trivial))))) (an (decide_eq_false h1691) trivial)) (an (ti (ti (ti (ti trivial)))) (an (decide_eq_false h1692) trivial))))) (ti (ti trivial))))) (ti trivial)) (by kernel_rfl)
     cases r with
     | inl r => exact round_next pm pn hv hq h2
     | inr r =>
      exact round_next pm pn hv hq h2
  ·injection h with h; subst h
   exact round_stop (c := ⟨[(1, none), (2, none)], [none], []⟩) (s1 := (nblank_CheckTimes_l1_0_e1 a0 a1 ())) pm pn (ans := [.reg (.n :: []), .br false]) (by kernel_rfl) (by intro e; cases e) (an (an (ti trivial) (an (decide_eq_false h1680) trivial)) (ti trivial))
def nblank_CheckTimes_l2_0_h (a0 : SAnnealing) (a1 : (List Int)) (x71 : Int) : VS := ⟨mkA [(1, VV.tr (List.map vi a1) a1.length), (69, VV.tr (List.flatMap c_SCoolWindow a0.Windows) a0.Windows.length), (70, vi (a0.Windows.length : Int)), (71, vi x71)], [], .nil⟩
def nblank_CheckTimes_l2_0_e0 (a0 : SAnnealing) (a1 : (List Int)) (r : Int) : VS := ⟨mkA [(4, vi r), (5, vi 26)], [], .nil⟩
def nblank_CheckTimes_l2_0_e1 (a0 : SAnnealing) (a1 : (List Int)) (r : Unit) : VS := ⟨mkA [], [], .nil⟩
def nblank_CheckTimes_l2_0 (k : Nat) (a0 : SAnnealing) (a1 : (List Int)) : Nat → Int → Option (Sum Int Unit)
  | 0, _ => none
  | fuel + 1, x71 => if x71 < (a0.Windows.length : Int) then (if 0 ≤ x71 ∧ x71 < (a0.Windows.length : Int) then (if 0 ≤ (a0.Windows.getD x71.toNat default).Level ∧ (a0.Windows.getD x71.toNat default).Level < (a1.length : Int) then ((nblank_isWithin k (a1.getD ((a0.Windows.getD x71.toNat default).Level).toNat 0) ((a0.Windows.getD x71.toNat default).From) ((a0.Windows.getD x71.toNat default).To)).bind fun r1724 => (if r1724 = true then (nblank_CheckTimes_l2_0 k a0 a1 fuel (w64 (x71 + 1))) else (some (.inl x71)))) else none) else none) else (some (.inr ()))
theorem nblank_CheckTimes_l2_0_ok (k : Nat) (a0 : SAnnealing) (a1 : (List Int)) : ∀ (fuel : Nat) (x71 : Int) (r : Sum Int Unit), nblank_CheckTimes_l2_0 k a0 a1 fuel x71 = some r → (match r with | .inl r => VLoop none Go.Proofs.Try.prog (szF Go.Proofs.Try.f9) (bodyOf Go.Proofs.Try.f9 2) (nblank_CheckTimes_l2_0_h a0 a1 x71) .ret (nblank_CheckTimes_l2_0_e0 a0 a1 r) | .inr r => VLoop none Go.Proofs.Try.prog (szF Go.Proofs.Try.f9) (bodyOf Go.Proofs.Try.f9 2) (nblank_CheckTimes_l2_0_h a0 a1 x71) (.exit 4) (nblank_CheckTimes_l2_0_e1 a0 a1 r)) := by
 intro fuel
 induction fuel with
 | zero => intro x71 r h; rw [nblank_CheckTimes_l2_0.eq_1] at h; cases h
 | succ fuel ih =>
  intro x71 r h
  rw [nblank_CheckTimes_l2_0.eq_2] at h
  rcases ifs h with ⟨h1719, h⟩ | ⟨h1719, h⟩
  ·obtain ⟨h1720, h⟩ := ifn h
   have e1721 := (show loadL Go.Proofs.Try.prog 72 (x71.toNat * 3) (List.flatMap c_SCoolWindow a0.Windows) = some (VV.ag (c_SCoolWindow (a0.Windows.getD x71.toNat default))) from ld_whole ag72 c_SCoolWindow 3 sz72 len_c_SCoolWindow a0.Windows default h1720 (by omega))
   obtain ⟨h1722, h⟩ := ifn h
   have e1723 := (show loadL Go.Proofs.Try.prog 3 (((a0.Windows.getD x71.toNat default).Level).toNat * 1) (List.map vi a1) = some (vi (a1.getD ((a0.Windows.getD x71.toNat default).Level).toNat 0)) from ld_map ag3 vi a1 0 h1722 (by omega))
   obtain ⟨r1724, h1725, h⟩ := bs h
   have e1726 := (nblank_isWithin_ok k (a1.getD ((a0.Windows.getD x71.toNat default).Level).toNat 0) ((a0.Windows.getD x71.toNat default).From) ((a0.Windows.getD x71.toNat default).To) _ h1725)
   have e1727 := (ti (ti (ti (an h1722 (an e1723 (ti (ti (ti (ti (an e1726 (ti trivial)))))))))))
   rcases ifs h with ⟨h1728, h⟩ | ⟨h1728, h⟩
   ·have h2 := ih _ _ h
    obtain ⟨q, hv, hq⟩ := pkR (rd := none) (P := Go.Proofs.Try.prog) (fn := Go.Proofs.Try.f9) (k := 2) (s := (nblank_CheckTimes_l2_0_h a0 a1 x71)) (ans := [.reg (.n :: []), .br true, .reg (.n :: .n :: .v (VV.ag (c_SCoolWindow (a0.Windows.getD x71.toNat default))) :: nN 3 []), .reg (arA6_1 a1 a0 x71 r1724), .br false, .reg (.n :: .n :: [])]) (c := ⟨[(1, none), (69, none), (70, none), (71, none)], [], []⟩) (e := .normal) (s1 := (nblank_CheckTimes_l2_0_h a0 a1 (w64 (x71 + 1)))) (an (an (ti trivial) (an (an (decide_eq_true h1719) trivial) (an (an (ti (an h1720 (an e1721 (ti (ti (ti trivial)))))) (an e1727 (an (not_f h1728) trivial))) (ti (ti trivial))))) (ti trivial)) (by kernel_rfl)
    cases r with
    | inl r => exact round_next pm pn hv hq h2
    | inr r =>
     exact round_next pm pn hv hq h2
   ·injection h with h; subst h
    exact round_stop (c := ⟨[(4, none), (5, none)], [], []⟩) (s1 := (nblank_CheckTimes_l2_0_e0 a0 a1 x71)) pm pn (ans := [.reg (.n :: []), .br true, .reg (.n :: .n :: .v (VV.ag (c_SCoolWindow (a0.Windows.getD x71.toNat default))) :: nN 3 []), .reg (arA6_1 a1 a0 x71 r1724), .br true, .reg (nN 3 [])]) (by kernel_rfl) (by intro e; cases e) (an (an (ti trivial) (an (an (decide_eq_true h1719) trivial) (an (ti (an h1720 (an e1721 (ti (ti (ti trivial)))))) (an e1727 (an (not_t (bool_f h1728)) (an (ti (ti (ti trivial))) trivial)))))) (ti trivial))
  ·injection h with h; subst h
   exact round_stop (c := ⟨[], [], []⟩) (s1 := (nblank_CheckTimes_l2_0_e1 a0 a1 ())) pm pn (ans := [.reg (.n :: []), .br false]) (by kernel_rfl) (by intro e; cases e) (an (an (ti trivial) (an (decide_eq_false h1719) trivial)) (ti trivial))
def nblank_CheckTimes (k : Nat) (a0 : SAnnealing) (a1 : (List Int)) : Option (Int × Int) :=
  (nblank_CheckAnnealing k a0).bind fun r1622 => (if r1622 = 0 then (if (a1.length : Int) = (w64 ((a0.Steps.length : Int) + 1)) then ((nblank_CheckTimes_l0_0 k a0 a1 k 0).bind fun r1649 => (match r1649 with | .inl r1650 => (some (r1650, 2)) | .inr r1651 => ((nblank_CheckTimes_l1_0 k a0 a1 k 0).bind fun r1694 => (match r1694 with | .inl r1695 => (some (r1695.1, r1695.2)) | .inr r1696 => ((nblank_CheckTimes_l2_0 k a0 a1 k 0).bind fun r1730 => (match r1730 with | .inl r1731 => (some (r1731, 26)) | .inr r1732 => (some (0, 0)))))))) else (some (0, 10))) else (some (0, r1622)))
theorem nblank_CheckTimes_ok (k : Nat) (a0 : SAnnealing) (a1 : (List Int)) (r : (Int × Int)) (h : nblank_CheckTimes k a0 a1 = some r) : VC Go.Proofs.Try.prog 9 [VV.ag (c_SAnnealing a0), VV.tr (List.map vi a1) a1.length] (VV.tu [vi r.1, vi r.2]) := by
 unfold nblank_CheckTimes at h
 obtain ⟨r1622, h1623, h⟩ := bs h
 have e1624 := (ti (an (nblank_CheckAnnealing_ok k a0 _ h1623) (ti trivial)))
 rcases ifs h with ⟨h1625, h⟩ | ⟨h1625, h⟩
 ·rcases ifs h with ⟨h1626, h⟩ | ⟨h1626, h⟩
  ·obtain ⟨r1649, h1648, h⟩ := bs h
   have hph1648 := nblank_CheckTimes_l0_0_ok k a0 a1 _ _ _ h1648
   cases r1649 with
   | inl r1650 =>
    dsimp only at h
    have e1652 := (an (ti trivial) (VRun.loop hph1648))
    injection h with h; subst h
    exact fun_ok pm pn Go.Proofs.Try.func9 (r0 := VV.tu [vi r1650, vi 2]) (ans := [.reg (nN 3 []), .reg (.n :: .call (vi r1622) :: .n :: []), .reg (.n :: .n :: []), .br false, .reg (nN 7 []), .br false, .reg (nN 3 []), .sub ⟨[(1, none), (2, none), (26, none), (27, none), (28, none)], [none], []⟩ .ret (nblank_CheckTimes_l0_0_e0 a0 a1 r1650)]) (fr := true) (by kernel_rfl) (an (an (ti (ti (ti trivial))) (an (an e1624 (an (ti (ti trivial)) (an (not_f (decide_eq_true h1625)) trivial))) (an (an (ti (ti (ti (ti (ti (ti (ti trivial))))))) (an (not_f (decide_eq_true h1626)) trivial)) (an (ti (ti (ti trivial))) e1652)))) (ti (ti trivial))) (Wv.refl _)
   | inr r1651 =>
    dsimp only at h
    have e1653 := (an (ti trivial) (VRun.loop hph1648))
    obtain ⟨r1694, h1693, h⟩ := bs h
    have hph1693 := nblank_CheckTimes_l1_0_ok k a0 a1 _ _ _ h1693
    cases r1694 with
    | inl r1695 =>
     dsimp only at h
     have e1697 := (an (ti trivial) (VRun.loop hph1693))
     injection h with h; subst h
     exact fun_ok pm pn Go.Proofs.Try.func9 (r0 := VV.tu [vi r1695.1, vi r1695.2]) (ans := [.reg (nN 3 []), .reg (.n :: .call (vi r1622) :: .n :: []), .reg (.n :: .n :: []), .br false, .reg (nN 7 []), .br false, .reg (nN 3 []), .sub ⟨[(1, none), (2, none), (26, none), (27, none), (28, none)], [none], []⟩ (.exit 0) (nblank_CheckTimes_l0_0_e1 a0 a1 r1651), .reg (nN 4 []), .sub ⟨[(1, none), (2, none), (39, none), (40, none), (41, none)], [none], []⟩ .ret (nblank_CheckTimes_l1_0_e0 a0 a1 r1695)]) (fr := true) (by kernel_rfl) (an (an (ti (ti (ti trivial))) (an (an e1624 (an (ti (ti trivial)) (an (not_f (decide_eq_true h1625)) trivial))) (an (an (ti (ti (ti (ti (ti (ti (ti trivial))))))) (an (not_f (decide_eq_true h1626)) trivial)) (an (an (ti (ti (ti trivial))) e1653) (an (ti (ti (ti (ti trivial)))) e1697))))) (ti (ti trivial))) (Wv.refl _)
    | inr r1696 =>
     dsimp only at h
     have e1698 := (an (ti trivial) (VRun.loop hph1693))
     obtain ⟨r1730, h1729, h⟩ := bs h
     have hph1729 := nblank_CheckTimes_l2_0_ok k a0 a1 _ _ _ h1729
     cases r1730 with
     | inl r1731 =>
      dsimp only at h
      have e1733 := (an (ti trivial) (VRun.loop hph1729))
      injection h with h; subst h
      exact fun_ok pm pn Go.Proofs.Try.func9 (r0 := VV.tu [vi r1731, vi 26]) (ans := [.reg (nN 3 []), .reg (.n :: .call (vi r1622) :: .n :: []), .reg (.n :: .n :: []), .br false, .reg (nN 7 []), .br false, .reg (nN 3 []), .sub ⟨[(1, none), (2, none), (26, none), (27, none), (28, none)], [none], []⟩ (.exit 0) (nblank_CheckTimes_l0_0_e1 a0 a1 r1651), .reg (nN 4 []), .sub ⟨[(1, none), (2, none), (39, none), (40, none), (41, none)], [none], []⟩ (.exit 2) (nblank_CheckTimes_l1_0_e1 a0 a1 r1696), .reg (nN 4 []), .sub ⟨[(1, none), (69, none), (70, none), (71, none)], [], []⟩ .ret (nblank_CheckTimes_l2_0_e0 a0 a1 r1731)]) (fr := true) (by kernel_rfl) (an (an (ti (ti (ti trivial))) (an (an e1624 (an (ti (ti trivial)) (an (not_f (decide_eq_true h1625)) trivial))) (an (an (ti (ti (ti (ti (ti (ti (ti trivial))))))) (an (not_f (decide_eq_true h1626)) trivial)) (an (an (ti (ti (ti trivial))) e1653) (an (an (ti (ti (ti (ti trivial)))) e1698) (an (ti (ti (ti (ti trivial)))) e1733)))))) (ti (ti trivial))) (Wv.refl _)
     | inr r1732 =>
      dsimp only at h
      have e1734 := (an (ti trivial) (VRun.loop hph1729))
      injection h with h; subst h
      exact fun_ok pm pn Go.Proofs.Try.func9 (r0 := VV.tu [vi 0, vi 0]) (ans := [.reg (nN 3 []), .reg (.n :: .call (vi r1622) :: .n :: []), .reg (.n :: .n :: []), .br false, .reg (nN 7 []), .br false, .reg (nN 3 []), .sub ⟨[(1, none), (2, none), (26, none), (27, none), (28, none)], [none], []⟩ (.exit 0) (nblank_CheckTimes_l0_0_e1 a0 a1 r1651), .reg (nN 4 []), .sub ⟨[(1, none), (2, none), (39, none), (40, none), (41, none)], [none], []⟩ (.exit 2) (nblank_CheckTimes_l1_0_e1 a0 a1 r1696), .reg (nN 4 []), .sub ⟨[(1, none), (69, none), (70, none), (71, none)], [], []⟩ (.exit 4) (nblank_CheckTimes_l2_0_e1 a0 a1 r1732), .reg (.n :: .n :: [])]) (fr := true) (by kernel_rfl) (an (an (ti (ti (ti trivial))) (an (an e1624 (an (ti (ti trivial)) (an (not_f (decide_eq_true h1625)) trivial))) (an (an (ti (ti (ti (ti (ti (ti (ti trivial))))))) (an (not_f (decide_eq_true h1626)) trivial)) (an (an (ti (ti (ti trivial))) e1653) (an (an (ti (ti (ti (ti trivial)))) e1698) (an (an (ti (ti (ti (ti trivial)))) e1734) (an (ti (ti trivial)) trivial))))))) (ti (ti trivial))) (Wv.refl _)
  ·injection h with h; subst h
   exact fun_ok pm pn Go.Proofs.Try.func9 (r0 := VV.tu [vi 0, vi 10]) (ans := [.reg (nN 3 []), .reg (.n :: .call (vi r1622) :: .n :: []), .reg (.n :: .n :: []), .br false, .reg (nN 7 []), .br true, .reg (.n :: .n :: [])]) (fr := true) (by kernel_rfl) (an (an (ti (ti (ti trivial))) (an (an e1624 (an (ti (ti trivial)) (an (not_f (decide_eq_true h1625)) trivial))) (an (ti (ti (ti (ti (ti (ti (ti trivial))))))) (an (not_t (decide_eq_false h1626)) (an (ti (ti trivial)) trivial))))) (ti (ti trivial))) (Wv.refl _)
 ·injection h with h; subst h
  exact fun_ok pm pn Go.Proofs.Try.func9 (r0 := VV.tu [vi 0, vi r1622]) (ans := [.reg (nN 3 []), .reg (.n :: .call (vi r1622) :: .n :: []), .reg (.n :: .n :: []), .br true, .reg (nN 3 [])]) (fr := true) (by kernel_rfl) (an (an (ti (ti (ti trivial))) (an e1624 (an (ti (ti trivial)) (an (not_t (decide_eq_false h1625)) (an (ti (ti (ti trivial))) trivial))))) (ti (ti trivial))) (Wv.refl _)
def arA6_2 (z0 : ((List SCoolBound) × Int)) (z1 : (List Int)) (z2 : Int) : List Ans := (nN 4 (.v (vi ((z0.1.getD (z1.getD z2.toNat 0).toNat default).From)) :: .n :: .n :: []))
def arA6_3 (z0 : ((List SCoolBound) × Int)) (z1 : (List Int)) (z2 : Int) : List Ans := (nN 5 (.v (vi ((z0.1.getD (z1.getD z2.toNat 0).toNat default).Most)) :: nN 5 (.v (vi ((z0.1.getD (z1.getD z2.toNat 0).toNat default).To)) :: .n :: .n :: [])))
def nblank_CheckCircle_l0_0_h (a1 : (List Int)) (r1815 : ((List SCoolBound) × Int)) (x28 : Int) : VS := ⟨mkA [(1, VV.tr (List.map vi a1) a1.length), (6, VV.fr (List.flatMap c_SCoolBound r1815.1) r1815.1.length), (26, VV.tr (List.map vi a1) a1.length), (27, vi (a1.length : Int)), (28, vi x28)], [], .nil⟩
def nblank_CheckCircle_l0_0_e0 (a1 : (List Int)) (r1815 : ((List SCoolBound) × Int)) (r : Unit) : VS := ⟨mkA [(4, vi 0), (5, vi 6)], [], .nil⟩
def nblank_CheckCircle_l0_0_e1 (a1 : (List Int)) (r1815 : ((List SCoolBound) × Int)) (r : Unit) : VS := ⟨mkA [(1, VV.tr (List.map vi a1) a1.length), (6, VV.fr (List.flatMap c_SCoolBound r1815.1) r1815.1.length)], [], .nil⟩
def nblank_CheckCircle_l0_0 (k : Nat) (a1 : (List Int)) (r1815 : ((List SCoolBound) × Int)) : Nat → Int → Option (Sum Unit Unit)
  | 0, _ => none
  | fuel + 1, x28 => if x28 < (a1.length : Int) then (if 0 ≤ x28 ∧ x28 < (a1.length : Int) then ((nblank_isWithin k (a1.getD x28.toNat 0) 0 (w64 ((r1815.1.length : Int) - 1))).bind fun r1840 => (if r1840 = true then (nblank_CheckCircle_l0_0 k a1 r1815 fuel (w64 (x28 + 1))) else (some (.inl ())))) else none) else (some (.inr ()))
theorem nblank_CheckCircle_l0_0_ok (k : Nat) (a1 : (List Int)) (r1815 : ((List SCoolBound) × Int)) : ∀ (fuel : Nat) (x28 : Int) (r : Sum Unit Unit), nblank_CheckCircle_l0_0 k a1 r1815 fuel x28 = some r → (match r with | .inl r => VLoop none Go.Proofs.Try.prog (szF Go.Proofs.Try.f10) (bodyOf Go.Proofs.Try.f10 0) (nblank_CheckCircle_l0_0_h a1 r1815 x28) .ret (nblank_CheckCircle_l0_0_e0 a1 r1815 r) | .inr r => VLoop none Go.Proofs.Try.prog (szF Go.Proofs.Try.f10) (bodyOf Go.Proofs.Try.f10 0) (nblank_CheckCircle_l0_0_h a1 r1815 x28) (.exit 0) (nblank_CheckCircle_l0_0_e1 a1 r1815 r)) := by
 intro fuel
 induction fuel with
 | zero => intro x28 r h; rw [nblank_CheckCircle_l0_0.eq_1] at h; cases h
 | succ fuel ih =>
  intro x28 r h
  rw [nblank_CheckCircle_l0_0.eq_2] at h
  rcases ifs h with ⟨h1837, h⟩ | ⟨h1837, h⟩
  ·obtain ⟨h1838, h⟩ := ifn h
   have e1839 := (show loadL Go.Proofs.Try.prog 3 (x28.toNat * 1) (List.map vi a1) = some (vi (a1.getD x28.toNat 0)) from ld_map ag3 vi a1 0 h1838 (by omega))
   obtain ⟨r1840, h1841, h⟩ := bs h
   have e1842 := (nblank_isWithin_ok k (a1.getD x28.toNat 0) 0 (w64 ((r1815.1.length : Int) - 1)) _ h1841)
   rcases ifs h with ⟨h1843, h⟩ | ⟨h1843, h⟩
   ·have h2 := ih _ _ h
    obtain ⟨q, hv, hq⟩ := pkR (rd := none) (P := Go.Proofs.Try.prog) (fn := Go.Proofs.Try.f10) (k := 0) (s := (nblank_CheckCircle_l0_0_h a1 r1815 x28)) (ans := [.reg (.n :: []), .br true, .reg (.n :: .v (vi (a1.getD x28.toNat 0)) :: .n :: []), .reg (nN 4 (.call (vb r1840) :: .n :: [])), .br false, .reg (.n :: .n :: [])]) (c := ⟨[(1, none), (6, none), (26, none), (27, none), (28, none)], [], []⟩) (e := .normal) (s1 := (nblank_CheckCircle_l0_0_h a1 r1815 (w64 (x28 + 1)))) (an (an (ti trivial) (an (an (decide_eq_true h1837) trivial) (an (an (an h1838 (an e1839 (ti trivial))) (an (ti (ti (ti (ti (an e1842 (ti trivial)))))) (an (not_f h1843) trivial))) (ti (ti trivial))))) (ti trivial)) (by kernel_rfl)
    cases r with
    | inl r => exact round_next pm pn hv hq h2
    | inr r =>
     exact round_next pm pn hv hq h2
   ·injection h with h; subst h
    exact round_stop (c := ⟨[(4, none), (5, none)], [], []⟩) (s1 := (nblank_CheckCircle_l0_0_e0 a1 r1815 ())) pm pn (ans := [.reg (.n :: []), .br true, .reg (.n :: .v (vi (a1.getD x28.toNat 0)) :: .n :: []), .reg (nN 4 (.call (vb r1840) :: .n :: [])), .br true, .reg (.n :: .n :: [])]) (by kernel_rfl) (by intro e; cases e) (an (an (ti trivial) (an (an (decide_eq_true h1837) trivial) (an (an h1838 (an e1839 (ti trivial))) (an (ti (ti (ti (ti (an e1842 (ti trivial)))))) (an (not_t (bool_f h1843)) (an (ti (ti trivial)) trivial)))))) (ti trivial))
  ·injection h with h; subst h
   exact round_stop (c := ⟨[(1, none), (6, none)], [], []⟩) (s1 := (nblank_CheckCircle_l0_0_e1 a1 r1815 ())) pm pn (ans := [.reg (.n :: []), .br false]) (by kernel_rfl) (by intro e; cases e) (an (an (ti trivial) (an (decide_eq_false h1837) trivial)) (ti trivial))
def arA6_4 (z0 : ((List SCoolBound) × Int)) : List Ans := (.n :: .call (VV.tu [VV.fr (List.flatMap c_SCoolBound z0.1) z0.1.length, vi z0.2]) :: nN 5 [])
def nblank_CheckCircle_l1_0_h (a1 : (List Int)) (r1815 : ((List SCoolBound) × Int)) (x10 : Int) (x11 : Int) (x51 : Int) : VS := ⟨mkA [(6, VV.fr (List.flatMap c_SCoolBound r1815.1) r1815.1.length), (10, vi x10), (11, vi x11), (49, VV.tr (List.map vi a1) a1.length), (50, vi (a1.length : Int)), (51, vi x51)], [], .nil⟩
def nblank_CheckCircle_l1_0_e0 (a1 : (List Int)) (r1815 : ((List SCoolBound) × Int)) (r : Unit) : VS := ⟨mkA [(4, vi 0), (5, vi 25)], [], .nil⟩
def nblank_CheckCircle_l1_0_e1 (a1 : (List Int)) (r1815 : ((List SCoolBound) × Int)) (r : Int) : VS := ⟨mkA [(10, vi r)], [], .nil⟩
def nblank_CheckCircle_l1_0 (k : Nat) (a1 : (List Int)) (r1815 : ((List SCoolBound) × Int)) : Nat → Int → Int → Int → Option (Sum Unit Int)
  | 0, _, _, _ => none
  | fuel + 1, x10, x11, x51 => if x51 < (a1.length : Int) then (if 0 ≤ x51 ∧ x51 < (a1.length : Int) then (if 0 ≤ (a1.getD x51.toNat 0) ∧ (a1.getD x51.toNat 0) < (r1815.1.length : Int) then (if ((r1815.1.getD (a1.getD x51.toNat 0).toNat default).From) = x11 then (nblank_CheckCircle_l1_0 k a1 r1815 fuel (w64 (x10 + ((r1815.1.getD (a1.getD x51.toNat 0).toNat default).Most))) ((r1815.1.getD (a1.getD x51.toNat 0).toNat default).To) (w64 (x51 + 1))) else (some (.inl ()))) else none) else none) else (some (.inr x10))
theorem nblank_CheckCircle_l1_0_ok (k : Nat) (a1 : (List Int)) (r1815 : ((List SCoolBound) × Int)) : ∀ (fuel : Nat) (x10 : Int) (x11 : Int) (x51 : Int) (r : Sum Unit Int), nblank_CheckCircle_l1_0 k a1 r1815 fuel x10 x11 x51 = some r → (match r with | .inl r => VLoop none Go.Proofs.Try.prog (szF Go.Proofs.Try.f10) (bodyOf Go.Proofs.Try.f10 1) (nblank_CheckCircle_l1_0_h a1 r1815 x10 x11 x51) .ret (nblank_CheckCircle_l1_0_e0 a1 r1815 r) | .inr r => VLoop none Go.Proofs.Try.prog (szF Go.Proofs.Try.f10) (bodyOf Go.Proofs.Try.f10 1) (nblank_CheckCircle_l1_0_h a1 r1815 x10 x11 x51) (.exit 2) (nblank_CheckCircle_l1_0_e1 a1 r1815 r)) := by
 intro fuel
 induction fuel with
 | zero => intro x10 x11 x51 r h; rw [nblank_CheckCircle_l1_0.eq_1] at h; cases h
 | succ fuel ih =>
  intro x10 x11 x51 r h
  rw [nblank_CheckCircle_l1_0.eq_2] at h
  rcases ifs h with ⟨h1875, h⟩ | ⟨h1875, h⟩
  ·obtain ⟨h1876, h⟩ := ifn h
   have e1877 := (show loadL Go.Proofs.Try.prog 3 (x51.toNat * 1) (List.map vi a1) = some (vi (a1.getD x51.toNat 0)) from ld_map ag3 vi a1 0 h1876 (by omega))
   obtain ⟨h1878, h⟩ := ifn h
   have e1879 := (show loadL Go.Proofs.Try.prog 3 ((a1.getD x51.toNat 0).toNat * 3 + 0) (List.flatMap c_SCoolBound r1815.1) = some (vi ((r1815.1.getD (a1.getD x51.toNat 0).toNat default).From)) from (ld_flat ag3 c_SCoolBound 3 0 len_c_SCoolBound (by omega) r1815.1 default h1878 (by omega)).trans rfl)
   have e1880 := (ti (ti (an h1878 (ti (an e1879 (ti (ti trivial)))))))
   rcases ifs h with ⟨h1881, h⟩ | ⟨h1881, h⟩
   ·have e1882 := (show loadL Go.Proofs.Try.prog 3 ((a1.getD x51.toNat 0).toNat * 3 + 2) (List.flatMap c_SCoolBound r1815.1) = some (vi ((r1815.1.getD (a1.getD x51.toNat 0).toNat default).Most)) from (ld_flat ag3 c_SCoolBound 3 2 len_c_SCoolBound (by omega) r1815.1 default h1878 (by omega)).trans rfl)
    have e1883 := (show loadL Go.Proofs.Try.prog 3 ((a1.getD x51.toNat 0).toNat * 3 + 1) (List.flatMap c_SCoolBound r1815.1) = some (vi ((r1815.1.getD (a1.getD x51.toNat 0).toNat default).To)) from (ld_flat ag3 c_SCoolBound 3 1 len_c_SCoolBound (by omega) r1815.1 default h1878 (by omega)).trans rfl)
    have e1884 := (ti (ti (ti (an h1878 (ti (an e1882 (ti (ti (ti (an h1878 (ti (an e1883 (ti (ti trivial))))))))))))))
    have h2 := ih _ _ _ _ h
    obtain ⟨q, hv, hq⟩ := pkR (rd := none) (P := Go.Proofs.Try.prog) (fn := Go.Proofs.Try.f10) (k := 1) (s := (nblank_CheckCircle_l1_0_h a1 r1815 x10 x11 x51)) (ans := [.reg (.n :: []), .br true, .reg (.n :: .v (vi (a1.getD x51.toNat 0)) :: .n :: []), .reg (arA6_2 r1815 a1 x51), .br false, .reg (arA6_3 r1815 a1 x51), .reg (.n :: .n :: [])]) (c := ⟨[(6, none), (10, none), (11, none), (49, none), (50, none), (51, none)], [], []⟩) (e := .normal) (s1 := (nblank_CheckCircle_l1_0_h a1 r1815 (w64 (x10 + ((r1815.1.getD (a1.getD x51.toNat 0).toNat default).Most))) ((r1815.1.getD (a1.getD x51.toNat 0).toNat default).To) (w64 (x51 + 1)))) (an (an (ti trivial) (an (an (decide_eq_true h1875) trivial) (an (an (an h1876 (an e1877 (ti trivial))) (an (an e1880 (an (not_f (decide_eq_true h1881)) trivial)) e1884)) (ti (ti trivial))))) (ti trivial)) (by kernel_rfl)
    cases r with
    | inl r => exact round_next pm pn hv hq h2
    | inr r =>
     exact round_next pm pn hv hq h2
   ·injection h with h; subst h
    exact round_stop (c := ⟨[(4, none), (5, none)], [], []⟩) (s1 := (nblank_CheckCircle_l1_0_e0 a1 r1815 ())) pm pn (ans := [.reg (.n :: []), .br true, .reg (.n :: .v (vi (a1.getD x51.toNat 0)) :: .n :: []), .reg (arA6_2 r1815 a1 x51), .br true, .reg (.n :: .n :: [])]) (by kernel_rfl) (by intro e; cases e) (an (an (ti trivial) (an (an (decide_eq_true h1875) trivial) (an (an h1876 (an e1877 (ti trivial))) (an e1880 (an (not_t (decide_eq_false h1881)) (an (ti (ti trivial)) trivial)))))) (ti trivial))
  ·injection h with h; subst h
   exact round_stop (c := ⟨[(10, none)], [], []⟩) (s1 := (nblank_CheckCircle_l1_0_e1 a1 r1815 x10)) pm pn (ans := [.reg (.n :: []), .br false]) (by kernel_rfl) (by intro e; cases e) (an (an (ti trivial) (an (decide_eq_false h1875) trivial)) (ti trivial))
def arA6_5 (z0 : (List Int)) (z1 : ((List SCoolBound) × Int)) : List Ans := (nN 6 (.v (vi (z0.getD (w64 ((z0.length : Int) - 1)).toNat 0)) :: .n :: .n :: .v (vi ((z1.1.getD (z0.getD (w64 ((z0.length : Int) - 1)).toNat 0).toNat default).To)) :: .n :: .n :: []))
def nblank_CheckCircle (k : Nat) (a0 : SAnnealing) (a1 : (List Int)) : Option (Int × Int) :=
  (nblank_CoolSystem k a0).bind fun r1815 => (if r1815.2 = 0 then ((nblank_isWithin k (a1.length : Int) 1 200).bind fun r1819 => (if r1819 = true then ((nblank_CheckCircle_l0_0 k a1 r1815 k 0).bind fun r1845 => (match r1845 with | .inl r1846 => (some (0, 6)) | .inr r1847 => (if 0 ≤ w64 ((a1.length : Int) - 1) ∧ w64 ((a1.length : Int) - 1) < (a1.length : Int) then (if 0 ≤ (a1.getD (w64 ((a1.length : Int) - 1)).toNat 0) ∧ (a1.getD (w64 ((a1.length : Int) - 1)).toNat 0) < (r1815.1.length : Int) then ((nblank_CheckCircle_l1_0 k a1 r1815 k 0 ((r1815.1.getD (a1.getD (w64 ((a1.length : Int) - 1)).toNat 0).toNat default).To) 0).bind fun r1886 => (match r1886 with | .inl r1887 => (some (0, 25)) | .inr r1888 => (if 0 ≤ r1888 then (some (0, 22)) else (some (r1888, 0))))) else none) else none))) else (some (0, 10)))) else (some (0, r1815.2)))
theorem nblank_CheckCircle_ok (k : Nat) (a0 : SAnnealing) (a1 : (List Int)) (r : (Int × Int)) (h : nblank_CheckCircle k a0 a1 = some r) : VC Go.Proofs.Try.prog 10 [VV.ag (c_SAnnealing a0), VV.tr (List.map vi a1) a1.length] (VV.tu [vi r.1, vi r.2]) := by
 unfold nblank_CheckCircle at h
 obtain ⟨r1815, h1816, h⟩ := bs h
 have e1817 := (show VC Go.Proofs.Try.prog 24 [VV.ag (c_SAnnealing a0)] (VV.tu [VV.fr (List.flatMap c_SCoolBound r1815.1) r1815.1.length, vi r1815.2]) from (VC.weak (nblank_CoolSystem_ok k a0 _ h1816) (Wv.tuL (.cons (Wv.fw rfl rfl) (.cons (Wv.refl _) .nil)))))
 rcases ifs h with ⟨h1818, h⟩ | ⟨h1818, h⟩
 ·obtain ⟨r1819, h1820, h⟩ := bs h
  have e1821 := (nblank_isWithin_ok k (a1.length : Int) 1 200 _ h1820)
  rcases ifs h with ⟨h1822, h⟩ | ⟨h1822, h⟩
  ·obtain ⟨r1845, h1844, h⟩ := bs h
   have hph1844 := nblank_CheckCircle_l0_0_ok k a1 r1815 _ _ _ h1844
   cases r1845 with
   | inl r1846 =>
    dsimp only at h
    have e1848 := (an (ti trivial) (VRun.loop hph1844))
    injection h with h; subst h
    exact fun_ok pm pn Go.Proofs.Try.func10 (r0 := VV.tu [vi 0, vi 6]) (ans := [.reg (nN 3 []), .reg (arA6_4 r1815), .reg (.n :: .n :: []), .br false, .reg (.n :: .n :: .call (vb r1819) :: .n :: []), .br false, .reg (nN 3 []), .sub ⟨[(1, none), (6, none), (26, none), (27, none), (28, none)], [], []⟩ .ret (nblank_CheckCircle_l0_0_e0 a1 r1815 r1846)]) (fr := true) (by kernel_rfl) (an (an (ti (ti (ti trivial))) (an (ti (an e1817 (ti (ti (ti (ti (ti trivial))))))) (an (an (ti (ti trivial)) (an (not_f (decide_eq_true h1818)) trivial)) (an (an (ti (ti (an e1821 (ti trivial)))) (an (not_f h1822) trivial)) (an (ti (ti (ti trivial))) e1848))))) (ti (ti trivial))) (Wv.refl _)
   | inr r1847 =>
    dsimp only at h
    have e1849 := (an (ti trivial) (VRun.loop hph1844))
    obtain ⟨h1850, h⟩ := ifn h
    have e1851 := (show loadL Go.Proofs.Try.prog 3 ((w64 ((a1.length : Int) - 1)).toNat * 1) (List.map vi a1) = some (vi (a1.getD (w64 ((a1.length : Int) - 1)).toNat 0)) from ld_map ag3 vi a1 0 h1850 (by omega))
    obtain ⟨h1852, h⟩ := ifn h
    have e1853 := (show loadL Go.Proofs.Try.prog 3 ((a1.getD (w64 ((a1.length : Int) - 1)).toNat 0).toNat * 3 + 1) (List.flatMap c_SCoolBound r1815.1) = some (vi ((r1815.1.getD (a1.getD (w64 ((a1.length : Int) - 1)).toNat 0).toNat default).To)) from (ld_flat ag3 c_SCoolBound 3 1 len_c_SCoolBound (by omega) r1815.1 default h1852 (by omega)).trans rfl)
    have e1854 := (ti (ti (ti (ti (ti (an h1850 (an e1851 (an h1852 (ti (an e1853 (ti (ti trivial))))))))))))
    obtain ⟨r1886, h1885, h⟩ := bs h
    have hph1885 := nblank_CheckCircle_l1_0_ok k a1 r1815 _ _ _ _ _ h1885
    cases r1886 with
    | inl r1887 =>
     dsimp only at h
     have e1889 := (an (ti trivial) (VRun.loop hph1885))
     injection h with h; subst h
     exact fun_ok pm pn Go.Proofs.Try.func10 (r0 := VV.tu [vi 0, vi 25]) (ans := [.reg (nN 3 []), .reg (arA6_4 r1815), .reg (.n :: .n :: []), .br false, .reg (.n :: .n :: .call (vb r1819) :: .n :: []), .br false, .reg (nN 3 []), .sub ⟨[(1, none), (6, none), (26, none), (27, none), (28, none)], [], []⟩ (.exit 0) (nblank_CheckCircle_l0_0_e1 a1 r1815 r1847), .reg (arA6_5 a1 r1815), .reg (nN 3 []), .sub ⟨[(6, none), (10, none), (11, none), (49, none), (50, none), (51, none)], [], []⟩ .ret (nblank_CheckCircle_l1_0_e0 a1 r1815 r1887)]) (fr := true) (by kernel_rfl) (an (an (ti (ti (ti trivial))) (an (ti (an e1817 (ti (ti (ti (ti (ti trivial))))))) (an (an (ti (ti trivial)) (an (not_f (decide_eq_true h1818)) trivial)) (an (an (ti (ti (an e1821 (ti trivial)))) (an (not_f h1822) trivial)) (an (an (ti (ti (ti trivial))) e1849) (an e1854 (an (ti (ti (ti trivial))) e1889))))))) (ti (ti trivial))) (Wv.refl _)
    | inr r1888 =>
     dsimp only at h
     have e1890 := (an (ti trivial) (VRun.loop hph1885))
     rcases ifs h with ⟨h1891, h⟩ | ⟨h1891, h⟩
     ·injection h with h; subst h
      exact fun_ok pm pn Go.Proofs.Try.func10 (r0 := VV.tu [vi 0, vi 22]) (ans := [.reg (nN 3 []), .reg (arA6_4 r1815), .reg (.n :: .n :: []), .br false, .reg (.n :: .n :: .call (vb r1819) :: .n :: []), .br false, .reg (nN 3 []), .sub ⟨[(1, none), (6, none), (26, none), (27, none), (28, none)], [], []⟩ (.exit 0) (nblank_CheckCircle_l0_0_e1 a1 r1815 r1847), .reg (arA6_5 a1 r1815), .reg (nN 3 []), .sub ⟨[(6, none), (10, none), (11, none), (49, none), (50, none), (51, none)], [], []⟩ (.exit 2) (nblank_CheckCircle_l1_0_e1 a1 r1815 r1888), .reg (.n :: .n :: []), .br true, .reg (.n :: .n :: [])]) (fr := true) (by kernel_rfl) (an (an (ti (ti (ti trivial))) (an (ti (an e1817 (ti (ti (ti (ti (ti trivial))))))) (an (an (ti (ti trivial)) (an (not_f (decide_eq_true h1818)) trivial)) (an (an (ti (ti (an e1821 (ti trivial)))) (an (not_f h1822) trivial)) (an (an (ti (ti (ti trivial))) e1849) (an e1854 (an (an (ti (ti (ti trivial))) e1890) (an (ti (ti trivial)) (an (decide_eq_true h1891) (an (ti (ti trivial)) trivial)))))))))) (ti (ti trivial))) (Wv.refl _)
     ·injection h with h; subst h
      exact fun_ok pm pn Go.Proofs.Try.func10 (r0 := VV.tu [vi r1888, vi 0]) (ans := [.reg (nN 3 []), .reg (arA6_4 r1815), .reg (.n :: .n :: []), .br false, .reg (.n :: .n :: .call (vb r1819) :: .n :: []), .br false, .reg (nN 3 []), .sub ⟨[(1, none), (6, none), (26, none), (27, none), (28, none)], [], []⟩ (.exit 0) (nblank_CheckCircle_l0_0_e1 a1 r1815 r1847), .reg (arA6_5 a1 r1815), .reg (nN 3 []), .sub ⟨[(6, none), (10, none), (11, none), (49, none), (50, none), (51, none)], [], []⟩ (.exit 2) (nblank_CheckCircle_l1_0_e1 a1 r1815 r1888), .reg (.n :: .n :: []), .br false, .reg (nN 3 [])]) (fr := true) (by kernel_rfl) (an (an (ti (ti (ti trivial))) (an (ti (an e1817 (ti (ti (ti (ti (ti trivial))))))) (an (an (ti (ti trivial)) (an (not_f (decide_eq_true h1818)) trivial)) (an (an (ti (ti (an e1821 (ti trivial)))) (an (not_f h1822) trivial)) (an (an (ti (ti (ti trivial))) e1849) (an e1854 (an (an (ti (ti (ti trivial))) e1890) (an (an (ti (ti trivial)) (an (decide_eq_false h1891) trivial)) (an (ti (ti (ti trivial))) trivial))))))))) (ti (ti trivial))) (Wv.refl _)
  ·injection h with h; subst h
   exact fun_ok pm pn Go.Proofs.Try.func10 (r0 := VV.tu [vi 0, vi 10]) (ans := [.reg (nN 3 []), .reg (arA6_4 r1815), .reg (.n :: .n :: []), .br false, .reg (.n :: .n :: .call (vb r1819) :: .n :: []), .br true, .reg (.n :: .n :: [])]) (fr := true) (by kernel_rfl) (an (an (ti (ti (ti trivial))) (an (ti (an e1817 (ti (ti (ti (ti (ti trivial))))))) (an (an (ti (ti trivial)) (an (not_f (decide_eq_true h1818)) trivial)) (an (ti (ti (an e1821 (ti trivial)))) (an (not_t (bool_f h1822)) (an (ti (ti trivial)) trivial)))))) (ti (ti trivial))) (Wv.refl _)
 ·injection h with h; subst h
  exact fun_ok pm pn Go.Proofs.Try.func10 (r0 := VV.tu [vi 0, vi r1815.2]) (ans := [.reg (nN 3 []), .reg (arA6_4 r1815), .reg (.n :: .n :: []), .br true, .reg (nN 3 [])]) (fr := true) (by kernel_rfl) (an (an (ti (ti (ti trivial))) (an (ti (an e1817 (ti (ti (ti (ti (ti trivial))))))) (an (ti (ti trivial)) (an (not_t (decide_eq_false h1818)) (an (ti (ti (ti trivial))) trivial))))) (ti (ti trivial))) (Wv.refl _)
def arA6_6 (z0 : (List Int)) (z1 : Int) : List Ans := (.v (VV.tr (List.map vi z0) z0.length) :: nN 3 (.v (vi (z0.getD (w64 (z1 + 1)).toNat 0)) :: .v (VV.tr (List.map vi z0) z0.length) :: .n :: .n :: .v (vi (z0.getD z1.toNat 0)) :: .n :: .n :: []))
def nblank_Worst_1 (k : Nat) (a0 : Int) (q0_0 : (List Int)) : Option Int :=
  if 0 ≤ w64 (a0 + 1) ∧ w64 (a0 + 1) < (q0_0.length : Int) then (if 0 ≤ a0 ∧ a0 < (q0_0.length : Int) then (some (w64 ((q0_0.getD (w64 (a0 + 1)).toNat 0) - (q0_0.getD a0.toNat 0)))) else none) else none
theorem nblank_Worst_1_ok (k : Nat) (a0 : Int) (q0_0 : (List Int)) (r : Int) (h : nblank_Worst_1 k a0 q0_0 = some r) : VC Go.Proofs.Try.prog 31 [vi a0, VV.tp [VV.tr (List.map vi q0_0) q0_0.length] 0] (vi r) := by
 unfold nblank_Worst_1 at h
 have e1926 := (show loadL Go.Proofs.Try.prog 26 0 [VV.tr (List.map vi q0_0) q0_0.length] = some (VV.tr (List.map vi q0_0) q0_0.length) from (ld_one ag26 rfl))
 obtain ⟨h1927, h⟩ := ifn h
 have e1928 := (show loadL Go.Proofs.Try.prog 3 ((w64 (a0 + 1)).toNat * 1) (List.map vi q0_0) = some (vi (q0_0.getD (w64 (a0 + 1)).toNat 0)) from ld_map ag3 vi q0_0 0 h1927 (by omega))
 have e1929 := (show loadL Go.Proofs.Try.prog 26 0 [VV.tr (List.map vi q0_0) q0_0.length] = some (VV.tr (List.map vi q0_0) q0_0.length) from (ld_one ag26 rfl))
 obtain ⟨h1930, h⟩ := ifn h
 have e1931 := (show loadL Go.Proofs.Try.prog 3 (a0.toNat * 1) (List.map vi q0_0) = some (vi (q0_0.getD a0.toNat 0)) from ld_map ag3 vi q0_0 0 h1930 (by omega))
 have e1932 := (an e1926 (ti (ti (an h1927 (an e1928 (an e1929 (ti (an h1930 (an e1931 (ti (ti trivial)))))))))))
 injection h with h; subst h
 exact fun_ok pm pn Go.Proofs.Try.func31 (r0 := vi (w64 ((q0_0.getD (w64 (a0 + 1)).toNat 0) - (q0_0.getD a0.toNat 0)))) (ans := [.reg (.n :: []), .reg (arA6_6 q0_0 a0)]) (fr := true) (by kernel_rfl) (an (an (ti trivial) (an e1932 trivial)) (ti trivial)) (Wv.refl _)
def arA6_7 (z0 : Int) (z1 : Int) (z2 : Int) (z3 : Int) : List Ans := (.n :: .n :: .call (vi z0) :: .n :: .n :: .call (vi z1) :: nN 3 (.call (vi z2) :: .n :: .n :: .call (vi z3) :: .n :: .n :: []))
def nblank_Worst_l0_0_h (a0 : SAnnealing) (a1 : (List Int)) (x10 : Int) (x26 : Int) : VS := ⟨mkA [(2, VV.pt 0 0), (5, VV.pt 2 0), (9, VV.fn 31 [VV.tp [VV.tr (List.map vi a1) a1.length] 0]), (10, vi x10), (25, vi (a0.Steps.length : Int)), (26, vi x26)], [some ⟨true, 1, c_SAnnealing a0⟩, none, some ⟨true, 1, [vi 0, vi 0]⟩], .nil⟩
def nblank_Worst_l0_0_e0 (a0 : SAnnealing) (a1 : (List Int)) (r : Int) : VS := ⟨mkA [(2, VV.pt 0 0), (5, VV.pt 2 0), (9, VV.fn 31 [VV.tp [VV.tr (List.map vi a1) a1.length] 0]), (10, vi r)], [some ⟨true, 1, c_SAnnealing a0⟩, none, some ⟨true, 1, [vi 0, vi 0]⟩], .nil⟩
def nblank_Worst_l0_0 (k : Nat) (a0 : SAnnealing) (a1 : (List Int)) : Nat → Int → Int → Option (Int)
  | 0, _, _ => none
  | fuel + 1, x10, x26 => if x26 < (a0.Steps.length : Int) then ((nblank_minuteStress k a0 x26).bind fun r2029 => ((nblank_Worst_1 k x10 a1).bind fun r2032 => ((nblank_minuteStress k a0 x10).bind fun r2034 => ((nblank_Worst_1 k x26 a1).bind fun r2037 => (if (w64 (r2034 * r2037)) < (w64 (r2029 * r2032)) then (nblank_Worst_l0_0 k a0 a1 fuel x26 (w64 (x26 + 1))) else (nblank_Worst_l0_0 k a0 a1 fuel x10 (w64 (x26 + 1)))))))) else (some x10)
theorem nblank_Worst_l0_0_ok (k : Nat) (a0 : SAnnealing) (a1 : (List Int)) : ∀ (fuel : Nat) (x10 : Int) (x26 : Int) (r : Int), nblank_Worst_l0_0 k a0 a1 fuel x10 x26 = some r → (VLoop none Go.Proofs.Try.prog (szF Go.Proofs.Try.f11) (bodyOf Go.Proofs.Try.f11 0) (nblank_Worst_l0_0_h a0 a1 x10 x26) (.exit 0) (nblank_Worst_l0_0_e0 a0 a1 r)) := by
 intro fuel
 induction fuel with
 | zero => intro x10 x26 r h; rw [nblank_Worst_l0_0.eq_1] at h; cases h
 | succ fuel ih =>
  intro x10 x26 r h
  rw [nblank_Worst_l0_0.eq_2] at h
  rcases ifs h with ⟨h2028, h⟩ | ⟨h2028, h⟩
  ·obtain ⟨r2029, h2030, h⟩ := bs h
   have e2031 := (nblank_minuteStress_ok k a0 x26 _ h2030)
   obtain ⟨r2032, h2033, h⟩ := bs h
   obtain ⟨r2034, h2035, h⟩ := bs h
   have e2036 := (nblank_minuteStress_ok k a0 x10 _ h2035)
   obtain ⟨r2037, h2038, h⟩ := bs h
   have e2039 := (ti (ti (an e2031 (ti (ti (an (nblank_Worst_1_ok k x10 a1 _ h2033) (ti (ti (ti (an e2036 (ti (ti (an (nblank_Worst_1_ok k x26 a1 _ h2038) (ti (ti trivial)))))))))))))))
   rcases ifs h with ⟨h2040, h⟩ | ⟨h2040, h⟩
   ·have h2 := ih _ _ _ h
    obtain ⟨q, hv, hq⟩ := pkR (rd := none) (P := Go.Proofs.Try.prog) (fn := Go.Proofs.Try.f11) (k := 0) (s := (nblank_Worst_l0_0_h a0 a1 x10 x26)) (ans := [.reg (.n :: []), .br true, .reg (.n :: .n :: []), .reg (arA6_7 r2029 r2032 r2034 r2037), .br true, .reg (.n :: .n :: []), .reg (.n :: .n :: [])]) (c := ⟨[(2, none), (5, none), (9, none), (10, none), (25, none), (26, none)], [none, none, none], []⟩) (e := .normal) (s1 := (nblank_Worst_l0_0_h a0 a1 x26 (w64 (x26 + 1)))) (an (an (ti trivial) (an (an (decide_eq_true h2028) trivial) (an (an (ti (ti trivial)) (an e2039 (an (decide_eq_true h2040) (ti (ti trivial))))) (ti (ti trivial))))) (ti trivial)) (by kernel_rfl)
    exact round_next pm pn hv hq h2
   ·have h2 := ih _ _ _ h
    obtain ⟨q, hv, hq⟩ := pkR (rd := none) (P := Go.Proofs.Try.prog) (fn := Go.Proofs.Try.f11) (k := 0) (s := (nblank_Worst_l0_0_h a0 a1 x10 x26)) (ans := [.reg (.n :: []), .br true, .reg (.n :: .n :: []), .reg (arA6_7 r2029 r2032 r2034 r2037), .br false, .reg (.n :: .n :: [])]) (c := ⟨[(2, none), (5, none), (9, none), (10, none), (25, none), (26, none)], [none, none, none], []⟩) (e := .normal) (s1 := (nblank_Worst_l0_0_h a0 a1 x10 (w64 (x26 + 1)))) (an (an (ti trivial) (an (an (decide_eq_true h2028) trivial) (an (an (ti (ti trivial)) (an e2039 (an (decide_eq_false h2040) trivial))) (ti (ti trivial))))) (ti trivial)) (by kernel_rfl)
    exact round_next pm pn hv hq h2
  ·injection h with h; subst h
   exact round_stop (c := ⟨[(2, none), (5, none), (9, none), (10, none)], [none, none, none], []⟩) (s1 := (nblank_Worst_l0_0_e0 a0 a1 x10)) pm pn (ans := [.reg (.n :: []), .br false]) (by kernel_rfl) (by intro e; cases e) (an (an (ti trivial) (an (decide_eq_false h2028) trivial)) (ti trivial))
def arA6_8 (z0 : (List Int)) (z1 : (Int × Int)) : List Ans := (.n :: .v (VV.tr (List.map vi z0) z0.length) :: .call (VV.tu [vi z1.1, vi z1.2]) :: nN 5 [])
def arA6_9 (z0 : Int) (z1 : Int) (z2 : SRange) : List Ans := (nN 3 (.call (vi z0) :: .n :: .n :: .call (vi z1) :: .call (VV.ag (c_SRange z2)) :: nN 3 []))
theorem eqA6_0 (z0 : (Int × Int)) : VV.tu [vi 0, VV.ag [vi 0, vi 0], vi z0.2] = VV.tu [vi 0, VV.ag (c_SRange (⟨0, 0⟩ : SRange)), vi z0.2] := by first | rfl | (simp only [unfr_vi, List.map_cons, List.map_nil, un_i, unfr_c_SRange]; done) | (simp only [unfr_vi, List.map_cons, List.map_nil, un_i, unfr_c_SRange]; rfl) | (simp only [unfr_vi, List.map_cons, List.map_nil, un_i, unfr_c_SRange, c_SRange, List.length_cons, List.length_nil, List.length_append]; done)
def nblank_Worst (k : Nat) (a0 : SAnnealing) (a1 : (List Int)) : Option (Int × SRange × Int) :=
  (nblank_CheckTimes k a0 a1).bind fun r1990 => (if r1990.2 = 0 then ((nblank_Worst_l0_0 k a0 a1 k 0 0).bind fun r2042 => ((nblank_minuteStress k a0 r2042).bind fun r2044 => ((nblank_Worst_1 k r2042 a1).bind fun r2047 => ((nblank_enclose k r2044 r2047).bind fun r2049 => (some (r2042, r2049, 0)))))) else (some (0, (⟨0, 0⟩ : SRange), r1990.2)))
theorem nblank_Worst_ok (k : Nat) (a0 : SAnnealing) (a1 : (List Int)) (r : (Int × SRange × Int)) (h : nblank_Worst k a0 a1 = some r) : VC Go.Proofs.Try.prog 11 [VV.ag (c_SAnnealing a0), VV.tr (List.map vi a1) a1.length] (VV.tu [vi r.1, VV.ag (c_SRange r.2.1), vi r.2.2]) := by
 unfold nblank_Worst at h
 have e1989 := (show loadL Go.Proofs.Try.prog 26 0 [VV.tr (List.map vi a1) a1.length] = some (VV.tr (List.map vi a1) a1.length) from (ld_one ag26 rfl))
 obtain ⟨r1990, h1991, h⟩ := bs h
 have e1992 := (ti (an e1989 (an (nblank_CheckTimes_ok k a0 a1 _ h1991) (ti (ti (ti (ti (ti trivial))))))))
 rcases ifs h with ⟨h1993, h⟩ | ⟨h1993, h⟩
 ·obtain ⟨r2042, h2041, h⟩ := bs h
  have hph2041 := nblank_Worst_l0_0_ok k a0 a1 _ _ _ _ h2041
  have e2043 := (an (ti trivial) (VRun.loop hph2041))
  obtain ⟨r2044, h2045, h⟩ := bs h
  have e2046 := (nblank_minuteStress_ok k a0 r2042 _ h2045)
  obtain ⟨r2047, h2048, h⟩ := bs h
  obtain ⟨r2049, h2050, h⟩ := bs h
  have e2051 := (nblank_enclose_ok k r2044 r2047 _ h2050)
  have e2052 := (ti (ti (ti (an e2046 (ti (ti (an (nblank_Worst_1_ok k r2042 a1 _ h2048) (an e2051 (ti (ti (ti trivial)))))))))))
  injection h with h; subst h
  exact fun_ok pm pn Go.Proofs.Try.func11 (r0 := VV.tu [vi r2042, VV.ag (c_SRange r2049), vi 0]) (ans := [.reg (nN 5 []), .frz 1, .reg (arA6_8 a1 r1990), .reg (.n :: .n :: []), .br false, .reg (.n :: .n :: []), .reg (.n :: []), .reg (nN 4 []), .sub ⟨[(2, none), (5, none), (9, none), (10, none), (25, none), (26, none)], [none, none, none], []⟩ (.exit 0) (nblank_Worst_l0_0_e0 a0 a1 r2042), .reg (arA6_9 r2044 r2047 r2049)]) (fr := true) (by kernel_rfl) (an (an (ti (ti (ti (ti (ti trivial))))) (an (an e1992 (an (ti (ti trivial)) (an (not_f (decide_eq_true h1993)) trivial))) (an (ti (ti trivial)) (an (ti trivial) (an (an (ti (ti (ti (ti trivial)))) e2043) (an e2052 trivial)))))) (ti (an (ti (ti (ti trivial))) (ti trivial)))) (Wv.refl _)
 ·injection h with h; subst h
  exact fun_ok pm pn Go.Proofs.Try.func11 (r0 := VV.tu [vi 0, VV.ag [vi 0, vi 0], vi r1990.2]) (ans := [.reg (nN 5 []), .frz 1, .reg (arA6_8 a1 r1990), .reg (.n :: .n :: []), .br true, .reg (nN 5 [])]) (fr := true) (by kernel_rfl) (an (an (ti (ti (ti (ti (ti trivial))))) (an e1992 (an (ti (ti trivial)) (an (not_t (decide_eq_false h1993)) (an (ti (ti (ti (ti (ti trivial))))) trivial))))) (ti (an (ti (ti (ti trivial))) (ti trivial)))) (Wv.of_eq (eqA6_0 r1990))
theorem eqA6_1  : VV.tu [VV.ag [vi 0, vi 0], vi 2] = VV.tu [VV.ag (c_SRange (⟨0, 0⟩ : SRange)), vi 2] := by first | rfl | (simp only [unfr_vi, List.map_cons, List.map_nil, un_i, unfr_c_SRange]; done) | (simp only [unfr_vi, List.map_cons, List.map_nil, un_i, unfr_c_SRange]; rfl) | (simp only [unfr_vi, List.map_cons, List.map_nil, un_i, unfr_c_SRange, c_SRange, List.length_cons, List.length_nil, List.length_append]; done)
theorem eqA6_2 (z0 : Int) : VV.tu [VV.ag [vi 0, vi 0], vi z0] = VV.tu [VV.ag (c_SRange (⟨0, 0⟩ : SRange)), vi z0] := by first | rfl | (simp only [unfr_vi, List.map_cons, List.map_nil, un_i, unfr_c_SRange]; done) | (simp only [unfr_vi, List.map_cons, List.map_nil, un_i, unfr_c_SRange]; rfl) | (simp only [unfr_vi, List.map_cons, List.map_nil, un_i, unfr_c_SRange, c_SRange, List.length_cons, List.length_nil, List.length_append]; done)
def nblank_StressOf (k : Nat) (a0 : SAnnealing) (a1 : Int) (a2 : Int) : Option (SRange × Int) :=
  (nblank_checkStep k a0 a1).bind fun r2076 => (if r2076 = 0 then ((nblank_isWithin k a2 1 10000000).bind fun r2080 => (if r2080 = true then ((nblank_minuteStress k a0 a1).bind fun r2084 => ((nblank_enclose k r2084 a2).bind fun r2087 => (some (r2087, 0)))) else (some ((⟨0, 0⟩ : SRange), 2)))) else (some ((⟨0, 0⟩ : SRange), r2076)))
theorem nblank_StressOf_ok (k : Nat) (a0 : SAnnealing) (a1 : Int) (a2 : Int) (r : (SRange × Int)) (h : nblank_StressOf k a0 a1 a2 = some r) : VC Go.Proofs.Try.prog 12 [VV.ag (c_SAnnealing a0), vi a1, vi a2] (VV.tu [VV.ag (c_SRange r.1), vi r.2]) := by
 unfold nblank_StressOf at h
 obtain ⟨r2076, h2077, h⟩ := bs h
 have e2078 := (ti (ti (an (nblank_checkStep_ok k a0 a1 _ h2077) (ti trivial))))
 rcases ifs h with ⟨h2079, h⟩ | ⟨h2079, h⟩
 ·obtain ⟨r2080, h2081, h⟩ := bs h
  have e2082 := (nblank_isWithin_ok k a2 1 10000000 _ h2081)
  rcases ifs h with ⟨h2083, h⟩ | ⟨h2083, h⟩
  ·obtain ⟨r2084, h2085, h⟩ := bs h
   have e2086 := (nblank_minuteStress_ok k a0 a1 _ h2085)
   obtain ⟨r2087, h2088, h⟩ := bs h
   have e2089 := (ti (ti (an e2086 (ti (an (nblank_enclose_ok k r2084 a2 _ h2088) (ti (ti trivial)))))))
   injection h with h; subst h
   exact fun_ok pm pn Go.Proofs.Try.func12 (r0 := VV.tu [VV.ag (c_SRange r2087), vi 0]) (ans := [.reg (nN 3 []), .reg (.n :: .n :: .call (vi r2076) :: .n :: []), .reg (.n :: .n :: []), .br false, .reg (.n :: .call (vb r2080) :: .n :: []), .br false, .reg (.n :: .n :: .call (vi r2084) :: .n :: .call (VV.ag (c_SRange r2087)) :: .n :: .n :: [])]) (fr := true) (by kernel_rfl) (an (an (ti (ti (ti trivial))) (an (an e2078 (an (ti (ti trivial)) (an (not_f (decide_eq_true h2079)) trivial))) (an (an (ti (an e2082 (ti trivial))) (an (not_f h2083) trivial)) (an e2089 trivial)))) (an (ti (ti (ti trivial))) (ti trivial))) (Wv.refl _)
  ·injection h with h; subst h
   exact fun_ok pm pn Go.Proofs.Try.func12 (r0 := VV.tu [VV.ag [vi 0, vi 0], vi 2]) (ans := [.reg (nN 3 []), .reg (.n :: .n :: .call (vi r2076) :: .n :: []), .reg (.n :: .n :: []), .br false, .reg (.n :: .call (vb r2080) :: .n :: []), .br true, .reg (nN 3 [])]) (fr := true) (by kernel_rfl) (an (an (ti (ti (ti trivial))) (an (an e2078 (an (ti (ti trivial)) (an (not_f (decide_eq_true h2079)) trivial))) (an (ti (an e2082 (ti trivial))) (an (not_t (bool_f h2083)) (an (ti (ti (ti trivial))) trivial))))) (an (ti (ti (ti trivial))) (ti trivial))) (Wv.of_eq eqA6_1)
 ·injection h with h; subst h
  exact fun_ok pm pn Go.Proofs.Try.func12 (r0 := VV.tu [VV.ag [vi 0, vi 0], vi r2076]) (ans := [.reg (nN 3 []), .reg (.n :: .n :: .call (vi r2076) :: .n :: []), .reg (.n :: .n :: []), .br true, .reg (nN 4 [])]) (fr := true) (by kernel_rfl) (an (an (ti (ti (ti trivial))) (an e2078 (an (ti (ti trivial)) (an (not_t (decide_eq_false h2079)) (an (ti (ti (ti (ti trivial)))) trivial))))) (an (ti (ti (ti trivial))) (ti trivial))) (Wv.of_eq (eqA6_2 r2076))
def arA6_10 (z0 : ((List Int) × (List Int) × Int)) (z1 : Int) (z2 : (SRange × Int)) : List Ans := (nN 6 (.v (vi (z0.1.getD (w64 (z1 + 1)).toNat 0)) :: nN 3 (.v (vi (z0.1.getD z1.toNat 0)) :: .n :: .call (VV.tu [VV.ag (c_SRange z2.1), vi z2.2]) :: nN 6 [])))
def arA6_11 (z0 : Bool) : List Ans := (.n :: .call (vb z0) :: nN 5 (.b false :: .n :: nS 3 (.b true :: .n :: nS 3 (.b true :: []))))
def arA6_12 (z0 : Bool) : List Ans := (.n :: .call (vb z0) :: nN 5 (.b false :: nN 4 (.b false :: .n :: nS 3 (.b true :: []))))
def arA6_13 (z0 : Bool) (z1 : Int) : List Ans := (.n :: .call (vb z0) :: nN 5 (.b false :: nN 4 (.b false :: .n :: .n :: .call (vi z1) :: .n :: .b false :: [])))
def arA6_14 (z0 : ((List Int) × (List Int) × Int)) : List Ans := (.n :: .call (VV.tu [VV.fr (List.map vi z0.1) z0.1.length, VV.fr (List.map vi z0.2.1) z0.2.1.length, vi z0.2.2]) :: nN 7 [])
def nspeculumtop_TopAnnealProved_l0_0_h (a0 : SAnnealing) (r2281 : ((List Int) × (List Int) × Int)) (r2306 : (Int × SRange × Int)) (x21 : Int) (x22 : Int) : VS := ⟨mkA [(3, VV.pt 0 0), (7, VV.fr (List.map vi r2281.1) r2281.1.length), (19, VV.pt 1 0), (21, vi x21), (22, vi x22)], [some ⟨true, 1, c_SAnnealing a0⟩, some ⟨true, 1, c_SRange r2306.2.1⟩], .nil⟩
def nspeculumtop_TopAnnealProved_l0_0_e0 (a0 : SAnnealing) (r2281 : ((List Int) × (List Int) × Int)) (r2306 : (Int × SRange × Int)) (r : Unit) : VS := ⟨mkA [(6, vb false)], [], .nil⟩
def nspeculumtop_TopAnnealProved_l0_0_e1 (a0 : SAnnealing) (r2281 : ((List Int) × (List Int) × Int)) (r2306 : (Int × SRange × Int)) (r : Int) : VS := ⟨mkA [(19, VV.pt 1 0), (21, vi r)], [some ⟨true, 1, c_SAnnealing a0⟩, some ⟨true, 1, c_SRange r2306.2.1⟩], .nil⟩
def nspeculumtop_TopAnnealProved_l0_0 (k : Nat) (a0 : SAnnealing) (r2281 : ((List Int) × (List Int) × Int)) (r2306 : (Int × SRange × Int)) : Nat → Int → Int → Option (Sum Unit Int)
  | 0, _, _ => none
  | fuel + 1, x21, x22 => if x22 < (a0.Steps.length : Int) then (if 0 ≤ w64 (x22 + 1) ∧ w64 (x22 + 1) < (r2281.1.length : Int) then (if 0 ≤ x22 ∧ x22 < (r2281.1.length : Int) then ((nblank_StressOf k a0 x22 (w64 ((r2281.1.getD (w64 (x22 + 1)).toNat 0) - (r2281.1.getD x22.toNat 0)))).bind fun r2361 => (if r2361.2 = 0 then (if 0 ≤ x22 ∧ x22 < (a0.Steps.length : Int) then (if ((a0.Steps.getD x22.toNat default).Limit) < r2361.1.Hi then (some (.inl ())) else (nspeculumtop_TopAnnealProved_l0_0 k a0 r2281 r2306 fuel (maxI x21 r2361.1.Hi) (w64 (x22 + 1)))) else none) else (some (.inl ())))) else none) else none) else (some (.inr x21))
theorem nspeculumtop_TopAnnealProved_l0_0_ok (k : Nat) (a0 : SAnnealing) (r2281 : ((List Int) × (List Int) × Int)) (r2306 : (Int × SRange × Int)) : ∀ (fuel : Nat) (x21 : Int) (x22 : Int) (r : Sum Unit Int), nspeculumtop_TopAnnealProved_l0_0 k a0 r2281 r2306 fuel x21 x22 = some r → (match r with | .inl r => VLoop none Go.Proofs.Try.prog (szF Go.Proofs.Try.f3) (bodyOf Go.Proofs.Try.f3 0) (nspeculumtop_TopAnnealProved_l0_0_h a0 r2281 r2306 x21 x22) .ret (nspeculumtop_TopAnnealProved_l0_0_e0 a0 r2281 r2306 r) | .inr r => VLoop none Go.Proofs.Try.prog (szF Go.Proofs.Try.f3) (bodyOf Go.Proofs.Try.f3 0) (nspeculumtop_TopAnnealProved_l0_0_h a0 r2281 r2306 x21 x22) (.exit 0) (nspeculumtop_TopAnnealProved_l0_0_e1 a0 r2281 r2306 r)) := by
 intro fuel
 induction fuel with
 | zero => intro x21 x22 r h; rw [nspeculumtop_TopAnnealProved_l0_0.eq_1] at h; cases h
 | succ fuel ih =>
  intro x21 x22 r h
  rw [nspeculumtop_TopAnnealProved_l0_0.eq_2] at h
  rcases ifs h with ⟨h2356, h⟩ | ⟨h2356, h⟩
  ·obtain ⟨h2357, h⟩ := ifn h
   have e2358 := (show loadL Go.Proofs.Try.prog 3 ((w64 (x22 + 1)).toNat * 1) (List.map vi r2281.1) = some (vi (r2281.1.getD (w64 (x22 + 1)).toNat 0)) from ld_map ag3 vi r2281.1 0 h2357 (by omega))
   obtain ⟨h2359, h⟩ := ifn h
   have e2360 := (show loadL Go.Proofs.Try.prog 3 (x22.toNat * 1) (List.map vi r2281.1) = some (vi (r2281.1.getD x22.toNat 0)) from ld_map ag3 vi r2281.1 0 h2359 (by omega))
   obtain ⟨r2361, h2362, h⟩ := bs h
   have e2363 := (nblank_StressOf_ok k a0 x22 (w64 ((r2281.1.getD (w64 (x22 + 1)).toNat 0) - (r2281.1.getD x22.toNat 0))) _ h2362)
   have e2364 := (ti (ti (ti (ti (ti (an h2357 (an e2358 (ti (ti (an h2359 (an e2360 (ti (an e2363 (ti (ti (ti (ti (ti (ti trivial)))))))))))))))))))
   rcases ifs h with ⟨h2365, h⟩ | ⟨h2365, h⟩
   ·have e2366 := (an (not_f (decide_eq_true h2365)) trivial)
    have e2367 := (an (not_f (decide_eq_true h2365)) trivial)
    have e2368 := (an (not_f (decide_eq_true h2365)) trivial)
    have e2369 := (an (not_f (decide_eq_true h2365)) trivial)
    have e2370 := (an (not_f (decide_eq_true h2365)) trivial)
    obtain ⟨h2371, h⟩ := ifn h
    have e2372 := (an (not_f (decide_eq_true h2365)) h2371)
    have e2373 := (an (not_f (decide_eq_true h2365)) trivial)
    have e2374 := (an (not_f (decide_eq_true h2365)) (show loadL Go.Proofs.Try.prog 3 (x22.toNat * 3 + 1) (List.flatMap c_SCoolStep a0.Steps) = some (vi ((a0.Steps.getD x22.toNat default).Limit)) from (ld_flat ag3 c_SCoolStep 3 1 len_c_SCoolStep (by omega) a0.Steps default h2371 (by omega)).trans rfl))
    have e2375 := (an (not_f (decide_eq_true h2365)) trivial)
    have e2376 := (ti (ti (ti (an e2366 (an e2367 (an e2368 (an e2369 (an e2370 (an e2372 (an e2373 (an e2374 (an e2375 (an (not_f (decide_eq_true h2365)) trivial)))))))))))))
    rcases ifs h with ⟨h2377, h⟩ | ⟨h2377, h⟩
    ·injection h with h; subst h
     exact round_stop (c := ⟨[(6, none)], [], []⟩) (s1 := (nspeculumtop_TopAnnealProved_l0_0_e0 a0 r2281 r2306 ())) pm pn (ans := [.reg (nN 5 []), .br true, .reg (arA6_10 r2281 x22 r2361), .reg (nN 10 (.v (vi ((a0.Steps.getD x22.toNat default).Limit)) :: .n :: .b false :: [])), .br true, .reg (.n :: [])]) (by kernel_rfl) (by intro e; cases e) (an (an (an (ti (ti (ti (ti (ti trivial))))) (an (decide_eq_true h2356) trivial)) (an e2364 (an e2376 (an (decide_eq_true h2377) (an (ti trivial) trivial))))) (ti trivial))
    ·have h2 := ih _ _ _ h
     obtain ⟨q, hv, hq⟩ := pkR (rd := none) (P := Go.Proofs.Try.prog) (fn := Go.Proofs.Try.f3) (k := 0) (s := (nspeculumtop_TopAnnealProved_l0_0_h a0 r2281 r2306 x21 x22)) (ans := [.reg (nN 5 []), .br true, .reg (arA6_10 r2281 x22 r2361), .reg (nN 10 (.v (vi ((a0.Steps.getD x22.toNat default).Limit)) :: .n :: .b false :: [])), .br false, .reg (nN 5 []), .reg (nN 3 [])]) (c := ⟨[(3, none), (7, none), (19, none), (21, none), (22, none)], [none, none], []⟩) (e := .normal) (s1 := (nspeculumtop_TopAnnealProved_l0_0_h a0 r2281 r2306 (maxI x21 r2361.1.Hi) (w64 (x22 + 1)))) (an (an (an (ti (ti (ti (ti (ti trivial))))) (an (decide_eq_true h2356) trivial)) (an (an e2364 (an (an e2376 (an (decide_eq_false h2377) trivial)) (ti (ti (ti (ti (ti trivial))))))) (ti (ti (ti trivial))))) (ti trivial)) (by kernel_rfl)
     cases r with
     | inl r => exact round_next pm pn hv hq h2
     | inr r =>
      exact round_next pm pn hv hq h2
   ·have e2378 := (ti (ti (ti (an (not_t (decide_eq_false h2365)) (an (not_t (decide_eq_false h2365)) (an (not_t (decide_eq_false h2365)) (an (not_t (decide_eq_false h2365)) (an (not_t (decide_eq_false h2365)) (an (not_t (decide_eq_false h2365)) (an (not_t (decide_eq_false h2365)) (an (not_t (decide_eq_false h2365)) (an (not_t (decide_eq_false h2365)) (an (not_t (decide_eq_false h2365)) trivial)))))))))))))
    injection h with h; subst h
    exact round_stop (c := ⟨[(6, none)], [], []⟩) (s1 := (nspeculumtop_TopAnnealProved_l0_0_e0 a0 r2281 r2306 ())) pm pn (ans := [.reg (nN 5 []), .br true, .reg (arA6_10 r2281 x22 r2361), .reg (nN 3 (nS 9 (.b true :: []))), .br true, .reg (.n :: [])]) (by kernel_rfl) (by intro e; cases e) (an (an (an (ti (ti (ti (ti (ti trivial))))) (an (decide_eq_true h2356) trivial)) (an e2364 (an e2378 (an rt (an (ti trivial) trivial))))) (ti trivial))
  ·injection h with h; subst h
   exact round_stop (c := ⟨[(19, none), (21, none)], [none, none], []⟩) (s1 := (nspeculumtop_TopAnnealProved_l0_0_e1 a0 r2281 r2306 x21)) pm pn (ans := [.reg (nN 5 []), .br false]) (by kernel_rfl) (by intro e; cases e) (an (an (ti (ti (ti (ti (ti trivial))))) (an (decide_eq_false h2356) trivial)) (ti trivial))
def arA6_15 (z0 : (Int × SRange × Int)) : List Ans := (.n :: .n :: .call (VV.tu [vi z0.1, VV.ag (c_SRange z0.2.1), vi z0.2.2]) :: nN 8 [])
def nspeculumtop_TopAnnealProved_l0_1_h (a0 : SAnnealing) (r2281 : ((List Int) × (List Int) × Int)) (r2399 : (Int × SRange × Int)) (x21 : Int) (x22 : Int) : VS := ⟨mkA [(3, VV.pt 0 0), (7, VV.fr (List.map vi r2281.1) r2281.1.length), (19, VV.pt 1 0), (21, vi x21), (22, vi x22)], [some ⟨true, 1, c_SAnnealing a0⟩, some ⟨true, 1, c_SRange r2399.2.1⟩], .nil⟩
def nspeculumtop_TopAnnealProved_l0_1_e0 (a0 : SAnnealing) (r2281 : ((List Int) × (List Int) × Int)) (r2399 : (Int × SRange × Int)) (r : Unit) : VS := ⟨mkA [(6, vb false)], [], .nil⟩
def nspeculumtop_TopAnnealProved_l0_1_e1 (a0 : SAnnealing) (r2281 : ((List Int) × (List Int) × Int)) (r2399 : (Int × SRange × Int)) (r : Int) : VS := ⟨mkA [(19, VV.pt 1 0), (21, vi r)], [some ⟨true, 1, c_SAnnealing a0⟩, some ⟨true, 1, c_SRange r2399.2.1⟩], .nil⟩
def nspeculumtop_TopAnnealProved_l0_1 (k : Nat) (a0 : SAnnealing) (r2281 : ((List Int) × (List Int) × Int)) (r2399 : (Int × SRange × Int)) : Nat → Int → Int → Option (Sum Unit Int)
  | 0, _, _ => none
  | fuel + 1, x21, x22 => if x22 < (a0.Steps.length : Int) then (if 0 ≤ w64 (x22 + 1) ∧ w64 (x22 + 1) < (r2281.1.length : Int) then (if 0 ≤ x22 ∧ x22 < (r2281.1.length : Int) then ((nblank_StressOf k a0 x22 (w64 ((r2281.1.getD (w64 (x22 + 1)).toNat 0) - (r2281.1.getD x22.toNat 0)))).bind fun r2454 => (if r2454.2 = 0 then (if 0 ≤ x22 ∧ x22 < (a0.Steps.length : Int) then (if ((a0.Steps.getD x22.toNat default).Limit) < r2454.1.Hi then (some (.inl ())) else (nspeculumtop_TopAnnealProved_l0_1 k a0 r2281 r2399 fuel (maxI x21 r2454.1.Hi) (w64 (x22 + 1)))) else none) else (some (.inl ())))) else none) else none) else (some (.inr x21))
theorem nspeculumtop_TopAnnealProved_l0_1_ok (k : Nat) (a0 : SAnnealing) (r2281 : ((List Int) × (List Int) × Int)) (r2399 : (Int × SRange × Int)) : ∀ (fuel : Nat) (x21 : Int) (x22 : Int) (r : Sum Unit Int), nspeculumtop_TopAnnealProved_l0_1 k a0 r2281 r2399 fuel x21 x22 = some r → (match r with | .inl r => VLoop none Go.Proofs.Try.prog (szF Go.Proofs.Try.f3) (bodyOf Go.Proofs.Try.f3 0) (nspeculumtop_TopAnnealProved_l0_1_h a0 r2281 r2399 x21 x22) .ret (nspeculumtop_TopAnnealProved_l0_1_e0 a0 r2281 r2399 r) | .inr r => VLoop none Go.Proofs.Try.prog (szF Go.Proofs.Try.f3) (bodyOf Go.Proofs.Try.f3 0) (nspeculumtop_TopAnnealProved_l0_1_h a0 r2281 r2399 x21 x22) (.exit 0) (nspeculumtop_TopAnnealProved_l0_1_e1 a0 r2281 r2399 r)) := by
 intro fuel
 induction fuel with
 | zero => intro x21 x22 r h; rw [nspeculumtop_TopAnnealProved_l0_1.eq_1] at h; cases h
 | succ fuel ih =>
  intro x21 x22 r h
  rw [nspeculumtop_TopAnnealProved_l0_1.eq_2] at h
  rcases ifs h with ⟨h2449, h⟩ | ⟨h2449, h⟩
  ·obtain ⟨h2450, h⟩ := ifn h
   have e2451 := (show loadL Go.Proofs.Try.prog 3 ((w64 (x22 + 1)).toNat * 1) (List.map vi r2281.1) = some (vi (r2281.1.getD (w64 (x22 + 1)).toNat 0)) from ld_map ag3 vi r2281.1 0 h2450 (by omega))
   obtain ⟨h2452, h⟩ := ifn h
   have e2453 := (show loadL Go.Proofs.Try.prog 3 (x22.toNat * 1) (List.map vi r2281.1) = some (vi (r2281.1.getD x22.toNat 0)) from ld_map ag3 vi r2281.1 0 h2452 (by omega))
   obtain ⟨r2454, h2455, h⟩ := bs h
   have e2456 := (nblank_StressOf_ok k a0 x22 (w64 ((r2281.1.getD (w64 (x22 + 1)).toNat 0) - (r2281.1.getD x22.toNat 0))) _ h2455)
   have e2457 := (ti (ti (ti (ti (ti (an h2450 (an e2451 (ti (ti (an h2452 (an e2453 (ti (an e2456 (ti (ti (ti (ti (ti (ti trivial)))))))))))))))))))
   rcases ifs h with ⟨h2458, h⟩ | ⟨h2458, h⟩
   ·have e2459 := (an (not_f (decide_eq_true h2458)) trivial)
    have e2460 := (an (not_f (decide_eq_true h2458)) trivial)
    have e2461 := (an (not_f (decide_eq_true h2458)) trivial)
    have e2462 := (an (not_f (decide_eq_true h2458)) trivial)
    have e2463 := (an (not_f (decide_eq_true h2458)) trivial)
    obtain ⟨h2464, h⟩ := ifn h
    have e2465 := (an (not_f (decide_eq_true h2458)) h2464)
    have e2466 := (an (not_f (decide_eq_true h2458)) trivial)
    have e2467 := (an (not_f (decide_eq_true h2458)) (show loadL Go.Proofs.Try.prog 3 (x22.toNat * 3 + 1) (List.flatMap c_SCoolStep a0.Steps) = some (vi ((a0.Steps.getD x22.toNat default).Limit)) from (ld_flat ag3 c_SCoolStep 3 1 len_c_SCoolStep (by omega) a0.Steps default h2464 (by omega)).trans rfl))
    have e2468 := (an (not_f (decide_eq_true h2458)) trivial)
    have e2469 := (ti (ti (ti (an e2459 (an e2460 (an e2461 (an e2462 (an e2463 (an e2465 (an e2466 (an e2467 (an e2468 (an (not_f (decide_eq_true h2458)) trivial)))))))))))))
    rcases ifs h with ⟨h2470, h⟩ | ⟨h2470, h⟩
    ·injection h with h; subst h
     exact round_stop (c := ⟨[(6, none)], [], []⟩) (s1 := (nspeculumtop_TopAnnealProved_l0_1_e0 a0 r2281 r2399 ())) pm pn (ans := [.reg (nN 5 []), .br true, .reg (arA6_10 r2281 x22 r2454), .reg (nN 10 (.v (vi ((a0.Steps.getD x22.toNat default).Limit)) :: .n :: .b false :: [])), .br true, .reg (.n :: [])]) (by kernel_rfl) (by intro e; cases e) (an (an (an (ti (ti (ti (ti (ti trivial))))) (an (decide_eq_true h2449) trivial)) (an e2457 (an e2469 (an (decide_eq_true h2470) (an (ti trivial) trivial))))) (ti trivial))
    ·have h2 := ih _ _ _ h
     obtain ⟨q, hv, hq⟩ := pkR (rd := none) (P := Go.Proofs.Try.prog) (fn := Go.Proofs.Try.f3) (k := 0) (s := (nspeculumtop_TopAnnealProved_l0_1_h a0 r2281 r2399 x21 x22)) (ans := [.reg (nN 5 []), .br true, .reg (arA6_10 r2281 x22 r2454), .reg (nN 10 (.v (vi ((a0.Steps.getD x22.toNat default).Limit)) :: .n :: .b false :: [])), .br false, .reg (nN 5 []), .reg (nN 3 [])]) (c := ⟨[(3, none), (7, none), (19, none), (21, none), (22, none)], [none, none], []⟩) (e := .normal) (s1 := (nspeculumtop_TopAnnealProved_l0_1_h a0 r2281 r2399 (maxI x21 r2454.1.Hi) (w64 (x22 + 1)))) (an (an (an (ti (ti (ti (ti (ti trivial))))) (an (decide_eq_true h2449) trivial)) (an (an e2457 (an (an e2469 (an (decide_eq_false h2470) trivial)) (ti (ti (ti (ti (ti trivial))))))) (ti (ti (ti trivial))))) (ti trivial)) (by kernel_rfl)
     cases r with
     | inl r => exact round_next pm pn hv hq h2
     | inr r =>
      exact round_next pm pn hv hq h2
   ·have e2471 := (ti (ti (ti (an (not_t (decide_eq_false h2458)) (an (not_t (decide_eq_false h2458)) (an (not_t (decide_eq_false h2458)) (an (not_t (decide_eq_false h2458)) (an (not_t (decide_eq_false h2458)) (an (not_t (decide_eq_false h2458)) (an (not_t (decide_eq_false h2458)) (an (not_t (decide_eq_false h2458)) (an (not_t (decide_eq_false h2458)) (an (not_t (decide_eq_false h2458)) trivial)))))))))))))
    injection h with h; subst h
    exact round_stop (c := ⟨[(6, none)], [], []⟩) (s1 := (nspeculumtop_TopAnnealProved_l0_1_e0 a0 r2281 r2399 ())) pm pn (ans := [.reg (nN 5 []), .br true, .reg (arA6_10 r2281 x22 r2454), .reg (nN 3 (nS 9 (.b true :: []))), .br true, .reg (.n :: [])]) (by kernel_rfl) (by intro e; cases e) (an (an (an (ti (ti (ti (ti (ti trivial))))) (an (decide_eq_true h2449) trivial)) (an e2457 (an e2471 (an rt (an (ti trivial) trivial))))) (ti trivial))
  ·injection h with h; subst h
   exact round_stop (c := ⟨[(19, none), (21, none)], [none, none], []⟩) (s1 := (nspeculumtop_TopAnnealProved_l0_1_e1 a0 r2281 r2399 x21)) pm pn (ans := [.reg (nN 5 []), .br false]) (by kernel_rfl) (by intro e; cases e) (an (an (ti (ti (ti (ti (ti trivial))))) (an (decide_eq_false h2449) trivial)) (ti trivial))
def arA6_16  : List Ans := (nN 6 (.b true :: .n :: .skip :: .skip :: .b false :: .n :: .skip :: .skip :: .b false :: .n :: []))
def arA6_17  : List Ans := (nN 3 (nS 3 (.b false :: .n :: .skip :: .skip :: .b false :: .n :: .skip :: .skip :: .b false :: .n :: [])))
def arA6_18 (z0 : Bool) : List Ans := (.n :: .call (vb z0) :: .n :: .n :: nS 3 (.b true :: .n :: nS 3 (.b true :: .n :: nS 3 (.b true :: []))))
def nspeculumtop_TopAnnealProved (k : Nat) (a0 : SAnnealing) (a1 : (List Int)) (a2 : (List Int)) : Option Bool :=
  (nawake k).bind fun r2266 => (if r2266 = true then ((nspeculumlaw03_Light k a0).bind fun r2269 => (if r2269 = true then (if 12 < (a1.length : Int) then (some true) else (if 30 < (a2.length : Int) then (some true) else ((nspeculumref03_CheckAnnealing k a0).bind fun r2276 => (if r2276 = 0 then ((nblank_Earliest k a0).bind fun r2281 => ((nblank_CheckTimes k a0 a1).bind fun r2284 => ((nblank_CheckCircle k a0 a2).bind fun r2287 => (if r2284.2 = 0 then (if r2287.2 = 0 then (some false) else (if r2281.2.2 = 0 then ((nblank_CheckTimes k a0 r2281.1).bind fun r2297 => (if r2297.2 = 0 then (if (r2281.1.length : Int) = (w64 ((a0.Steps.length : Int) + 1)) then ((nblank_Worst k a0 r2281.1).bind fun r2306 => (if r2306.2.2 = 0 then ((nspeculumtop_TopAnnealProved_l0_0 k a0 r2281 r2306 k 0 0).bind fun r2380 => (match r2380 with | .inl r2381 => (some false) | .inr r2382 => (some (decide (r2306.2.1.Hi = r2382))))) else (some false))) else (some false)) else (some false))) else (some false))) else (if r2281.2.2 = 0 then ((nblank_CheckTimes k a0 r2281.1).bind fun r2388 => (if r2388.2 = 0 then (if r2287.2 = 0 then (some false) else (if (r2281.1.length : Int) = (w64 ((a0.Steps.length : Int) + 1)) then ((nblank_Worst k a0 r2281.1).bind fun r2399 => (if r2399.2.2 = 0 then ((nspeculumtop_TopAnnealProved_l0_1 k a0 r2281 r2399 k 0 0).bind fun r2473 => (match r2473 with | .inl r2474 => (some false) | .inr r2475 => (some (decide (r2399.2.1.Hi = r2475))))) else (some false))) else (some false))) else (some false))) else ((nblank_CheckCircle k a0 r2281.2.1).bind fun r2479 => (if r2281.2.2 = 21 then (if (r2281.1.length : Int) = 0 then (if r2479.2 = 0 then (some (decide (r2479.1 < 0))) else (some false)) else (some false)) else (some false)))))))) else (some true))))) else (some true))) else (some false))
theorem nspeculumtop_TopAnnealProved_ok (k : Nat) (a0 : SAnnealing) (a1 : (List Int)) (a2 : (List Int)) (r : Bool) (h : nspeculumtop_TopAnnealProved k a0 a1 a2 = some r) : VC Go.Proofs.Try.prog 3 [VV.ag (c_SAnnealing a0), VV.tr (List.map vi a1) a1.length, VV.tr (List.map vi a2) a2.length] (vb r) := by
 unfold nspeculumtop_TopAnnealProved at h
 obtain ⟨r2266, h2267, h⟩ := bs h
 rcases ifs h with ⟨h2268, h⟩ | ⟨h2268, h⟩
 ·obtain ⟨r2269, h2270, h⟩ := bs h
  rcases ifs h with ⟨h2271, h⟩ | ⟨h2271, h⟩
  ·rcases ifs h with ⟨h2272, h⟩ | ⟨h2272, h⟩
   ·have e2273 := (ti (an (nspeculumlaw03_Light_ok k a0 _ h2270) (ti (ti (an (an (not_f h2271) trivial) (an (an (not_f h2271) trivial) (an (an (not_f h2271) trivial) (an (not_f h2271) (ti (an (decide_eq_true h2272) (an (decide_eq_true h2272) (an (decide_eq_true h2272) (an (decide_eq_true h2272) (ti (an rt (an rt (an rt (an rt trivial))))))))))))))))))
    injection h with h; subst h
    exact fun_ok pm pn Go.Proofs.Try.func3 (r0 := vb true) (ans := [.reg (.n :: .n :: []), .reg (.call (vb r2266) :: .n :: []), .br false, .reg (arA6_11 r2269), .br true, .reg (.n :: [])]) (fr := true) (by kernel_rfl) (an (an (ti (ti trivial)) (an (an (an (nawake_ok k _ h2267) (ti trivial)) (an (not_f h2268) trivial)) (an e2273 (an rt (an (ti trivial) trivial))))) (ti trivial)) (Wv.refl _)
   ·rcases ifs h with ⟨h2274, h⟩ | ⟨h2274, h⟩
    ·have e2275 := (ti (an (nspeculumlaw03_Light_ok k a0 _ h2270) (ti (ti (an (an (not_f h2271) trivial) (an (an (not_f h2271) trivial) (an (an (not_f h2271) trivial) (an (not_f h2271) (ti (an (an (decide_eq_false h2272) trivial) (an (an (decide_eq_false h2272) trivial) (an (an (decide_eq_false h2272) trivial) (an (decide_eq_false h2272) (ti (an (decide_eq_true h2274) (an (decide_eq_true h2274) (an (decide_eq_true h2274) (an (decide_eq_true h2274) trivial))))))))))))))))))
     injection h with h; subst h
     exact fun_ok pm pn Go.Proofs.Try.func3 (r0 := vb true) (ans := [.reg (.n :: .n :: []), .reg (.call (vb r2266) :: .n :: []), .br false, .reg (arA6_12 r2269), .br true, .reg (.n :: [])]) (fr := true) (by kernel_rfl) (an (an (ti (ti trivial)) (an (an (an (nawake_ok k _ h2267) (ti trivial)) (an (not_f h2268) trivial)) (an e2275 (an rt (an (ti trivial) trivial))))) (ti trivial)) (Wv.refl _)
    ·obtain ⟨r2276, h2277, h⟩ := bs h
     have e2278 := (an (decide_eq_false h2274) (nspeculumref03_CheckAnnealing_ok k a0 _ h2277))
     have e2279 := (ti (an (nspeculumlaw03_Light_ok k a0 _ h2270) (ti (ti (an (an (not_f h2271) trivial) (an (an (not_f h2271) trivial) (an (an (not_f h2271) trivial) (an (not_f h2271) (ti (an (an (decide_eq_false h2272) trivial) (an (an (decide_eq_false h2272) trivial) (an (an (decide_eq_false h2272) trivial) (an (decide_eq_false h2272) (ti (an (an (decide_eq_false h2274) trivial) (an e2278 (an (an (decide_eq_false h2274) trivial) (an (decide_eq_false h2274) trivial))))))))))))))))))
     rcases ifs h with ⟨h2280, h⟩ | ⟨h2280, h⟩
     ·obtain ⟨r2281, h2282, h⟩ := bs h
      have e2283 := (ti (an (nblank_Earliest_ok k a0 _ h2282) (ti (ti (ti (ti (ti (ti (ti trivial)))))))))
      obtain ⟨r2284, h2285, h⟩ := bs h
      have e2286 := (ti (ti (an (nblank_CheckTimes_ok k a0 a1 _ h2285) (ti (ti (ti (ti (ti trivial))))))))
      obtain ⟨r2287, h2288, h⟩ := bs h
      have e2289 := (ti (ti (an (nblank_CheckCircle_ok k a0 a2 _ h2288) (ti (ti (ti (ti (ti trivial))))))))
      rcases ifs h with ⟨h2290, h⟩ | ⟨h2290, h⟩
      ·rcases ifs h with ⟨h2291, h⟩ | ⟨h2291, h⟩
       ·have e2292 := (an (decide_eq_true h2290) (decide_eq_true h2291))
        have e2293 := (ti (ti (ti (an (an (decide_eq_true h2290) trivial) (an (an (decide_eq_true h2290) trivial) (an (an (decide_eq_true h2290) trivial) (an (decide_eq_true h2291) (an (decide_eq_true h2291) (an e2292 (an (decide_eq_true h2290) trivial))))))))))
        injection h with h; subst h
        exact fun_ok pm pn Go.Proofs.Try.func3 (r0 := vb false) (ans := [.reg (.n :: .n :: []), .reg (.call (vb r2266) :: .n :: []), .br false, .reg (arA6_13 r2269 r2276), .br false, .reg (arA6_14 r2281), .reg (.n :: .n :: .call (VV.tu [vi r2284.1, vi r2284.2]) :: nN 5 []), .reg (.n :: .n :: .call (VV.tu [vi r2287.1, vi r2287.2]) :: nN 5 []), .reg (nN 6 (.skip :: .skip :: .b true :: .b true :: [])), .br true, .reg (.n :: [])]) (fr := true) (by kernel_rfl) (an (an (ti (ti trivial)) (an (an (an (nawake_ok k _ h2267) (ti trivial)) (an (not_f h2268) trivial)) (an (an e2279 (an (not_f (decide_eq_true h2280)) trivial)) (an e2283 (an e2286 (an e2289 (an e2293 (an rt (an (ti trivial) trivial))))))))) (ti trivial)) (Wv.refl _)
       ·have e2294 := (an (decide_eq_true h2290) (decide_eq_false h2291))
        have e2295 := (ti (ti (ti (an (an (decide_eq_true h2290) trivial) (an (an (decide_eq_true h2290) trivial) (an (an (decide_eq_true h2290) trivial) (an (an (decide_eq_false h2291) trivial) (an (an (decide_eq_false h2291) trivial) (an e2294 (an (decide_eq_true h2290) trivial))))))))))
        rcases ifs h with ⟨h2296, h⟩ | ⟨h2296, h⟩
        ·obtain ⟨r2297, h2298, h⟩ := bs h
         have e2299 := (nblank_CheckTimes_ok k a0 r2281.1 _ h2298)
         have e2300 := (ti (ti (an e2299 (ti (ti (ti (ti (ti trivial))))))))
         rcases ifs h with ⟨h2301, h⟩ | ⟨h2301, h⟩
         ·have e2302 := (an (not_f (decide_eq_true h2301)) trivial)
          have e2303 := (an (not_f (decide_eq_true h2301)) trivial)
          have e2304 := (ti (ti (ti (an e2302 (an e2303 (an (not_f (decide_eq_true h2301)) (ti (an (an (decide_eq_false h2291) trivial) (an (an (decide_eq_false h2291) trivial) (an (an (decide_eq_false h2291) trivial) (an (an (decide_eq_false h2291) trivial) (an (an (decide_eq_false h2291) trivial) (an (an (decide_eq_false h2291) trivial) (an (an (decide_eq_false h2291) trivial) (an (decide_eq_false h2291) trivial)))))))))))))))
          rcases ifs h with ⟨h2305, h⟩ | ⟨h2305, h⟩
          ·obtain ⟨r2306, h2307, h⟩ := bs h
           have e2308 := (ti (ti (an (nblank_Worst_ok k a0 r2281.1 _ h2307) (ti (ti (ti (ti (ti (ti (ti (ti trivial)))))))))))
           rcases ifs h with ⟨h2309, h⟩ | ⟨h2309, h⟩
           ·obtain ⟨r2380, h2379, h⟩ := bs h
            have hph2379 := nspeculumtop_TopAnnealProved_l0_0_ok k a0 r2281 r2306 _ _ _ _ h2379
            cases r2380 with
            | inl r2381 =>
             dsimp only at h
             have e2383 := (an (ti trivial) (VRun.loop hph2379))
             injection h with h; subst h
             exact fun_ok pm pn Go.Proofs.Try.func3 (r0 := vb false) (ans := [.reg (.n :: .n :: []), .reg (.call (vb r2266) :: .n :: []), .br false, .reg (arA6_13 r2269 r2276), .br false, .reg (arA6_14 r2281), .reg (.n :: .n :: .call (VV.tu [vi r2284.1, vi r2284.2]) :: nN 5 []), .reg (.n :: .n :: .call (VV.tu [vi r2287.1, vi r2287.2]) :: nN 5 []), .reg (nN 8 (.b false :: .b true :: [])), .br false, .reg (.n :: .n :: []), .br false, .reg (.n :: .n :: .call (VV.tu [vi r2297.1, vi r2297.2]) :: nN 5 []), .reg (nN 5 (.b false :: nN 8 (.b false :: []))), .br false, .reg (arA6_15 r2306), .reg (.n :: .n :: []), .br false, .reg (.n :: []), .reg (.n :: []), .sub ⟨[(3, none), (7, none), (19, none), (21, none), (22, none)], [none, none], []⟩ .ret (nspeculumtop_TopAnnealProved_l0_0_e0 a0 r2281 r2306 r2381)]) (fr := true) (by kernel_rfl) (an (an (ti (ti trivial)) (an (an (an (nawake_ok k _ h2267) (ti trivial)) (an (not_f h2268) trivial)) (an (an e2279 (an (not_f (decide_eq_true h2280)) trivial)) (an e2283 (an e2286 (an e2289 (an (an e2295 (an (not_f (decide_eq_true h2296)) trivial)) (an (an (ti (ti trivial)) (an (not_f (decide_eq_true h2296)) trivial)) (an (an e2300 (an e2304 (an (not_f (decide_eq_true h2305)) trivial))) (an e2308 (an (an (ti (ti trivial)) (an (not_f (decide_eq_true h2309)) trivial)) (an (ti trivial) (an (ti trivial) e2383))))))))))))) (ti trivial)) (Wv.refl _)
            | inr r2382 =>
             dsimp only at h
             have e2384 := (an (ti trivial) (VRun.loop hph2379))
             injection h with h; subst h
             exact fun_ok pm pn Go.Proofs.Try.func3 (r0 := vb (decide (r2306.2.1.Hi = r2382))) (ans := [.reg (.n :: .n :: []), .reg (.call (vb r2266) :: .n :: []), .br false, .reg (arA6_13 r2269 r2276), .br false, .reg (arA6_14 r2281), .reg (.n :: .n :: .call (VV.tu [vi r2284.1, vi r2284.2]) :: nN 5 []), .reg (.n :: .n :: .call (VV.tu [vi r2287.1, vi r2287.2]) :: nN 5 []), .reg (nN 8 (.b false :: .b true :: [])), .br false, .reg (.n :: .n :: []), .br false, .reg (.n :: .n :: .call (VV.tu [vi r2297.1, vi r2297.2]) :: nN 5 []), .reg (nN 5 (.b false :: nN 8 (.b false :: []))), .br false, .reg (arA6_15 r2306), .reg (.n :: .n :: []), .br false, .reg (.n :: []), .reg (.n :: []), .sub ⟨[(3, none), (7, none), (19, none), (21, none), (22, none)], [none, none], []⟩ (.exit 0) (nspeculumtop_TopAnnealProved_l0_0_e1 a0 r2281 r2306 r2382), .reg (nN 5 [])]) (fr := true) (by kernel_rfl) (an (an (ti (ti trivial)) (an (an (an (nawake_ok k _ h2267) (ti trivial)) (an (not_f h2268) trivial)) (an (an e2279 (an (not_f (decide_eq_true h2280)) trivial)) (an e2283 (an e2286 (an e2289 (an (an e2295 (an (not_f (decide_eq_true h2296)) trivial)) (an (an (ti (ti trivial)) (an (not_f (decide_eq_true h2296)) trivial)) (an (an e2300 (an e2304 (an (not_f (decide_eq_true h2305)) trivial))) (an e2308 (an (an (ti (ti trivial)) (an (not_f (decide_eq_true h2309)) trivial)) (an (ti trivial) (an (an (ti trivial) e2384) (an (ti (ti (ti (ti (ti trivial))))) trivial)))))))))))))) (ti trivial)) (Wv.refl _)
           ·injection h with h; subst h
            exact fun_ok pm pn Go.Proofs.Try.func3 (r0 := vb false) (ans := [.reg (.n :: .n :: []), .reg (.call (vb r2266) :: .n :: []), .br false, .reg (arA6_13 r2269 r2276), .br false, .reg (arA6_14 r2281), .reg (.n :: .n :: .call (VV.tu [vi r2284.1, vi r2284.2]) :: nN 5 []), .reg (.n :: .n :: .call (VV.tu [vi r2287.1, vi r2287.2]) :: nN 5 []), .reg (nN 8 (.b false :: .b true :: [])), .br false, .reg (.n :: .n :: []), .br false, .reg (.n :: .n :: .call (VV.tu [vi r2297.1, vi r2297.2]) :: nN 5 []), .reg (nN 5 (.b false :: nN 8 (.b false :: []))), .br false, .reg (arA6_15 r2306), .reg (.n :: .n :: []), .br true, .reg (.n :: [])]) (fr := true) (by kernel_rfl) (an (an (ti (ti trivial)) (an (an (an (nawake_ok k _ h2267) (ti trivial)) (an (not_f h2268) trivial)) (an (an e2279 (an (not_f (decide_eq_true h2280)) trivial)) (an e2283 (an e2286 (an e2289 (an (an e2295 (an (not_f (decide_eq_true h2296)) trivial)) (an (an (ti (ti trivial)) (an (not_f (decide_eq_true h2296)) trivial)) (an (an e2300 (an e2304 (an (not_f (decide_eq_true h2305)) trivial))) (an e2308 (an (ti (ti trivial)) (an (not_t (decide_eq_false h2309)) (an (ti trivial) trivial))))))))))))) (ti trivial)) (Wv.refl _)
          ·injection h with h; subst h
           exact fun_ok pm pn Go.Proofs.Try.func3 (r0 := vb false) (ans := [.reg (.n :: .n :: []), .reg (.call (vb r2266) :: .n :: []), .br false, .reg (arA6_13 r2269 r2276), .br false, .reg (arA6_14 r2281), .reg (.n :: .n :: .call (VV.tu [vi r2284.1, vi r2284.2]) :: nN 5 []), .reg (.n :: .n :: .call (VV.tu [vi r2287.1, vi r2287.2]) :: nN 5 []), .reg (nN 8 (.b false :: .b true :: [])), .br false, .reg (.n :: .n :: []), .br false, .reg (.n :: .n :: .call (VV.tu [vi r2297.1, vi r2297.2]) :: nN 5 []), .reg (nN 5 (.b false :: nN 8 (.b false :: []))), .br true, .reg (.n :: [])]) (fr := true) (by kernel_rfl) (an (an (ti (ti trivial)) (an (an (an (nawake_ok k _ h2267) (ti trivial)) (an (not_f h2268) trivial)) (an (an e2279 (an (not_f (decide_eq_true h2280)) trivial)) (an e2283 (an e2286 (an e2289 (an (an e2295 (an (not_f (decide_eq_true h2296)) trivial)) (an (an (ti (ti trivial)) (an (not_f (decide_eq_true h2296)) trivial)) (an e2300 (an e2304 (an (not_t (decide_eq_false h2305)) (an (ti trivial) trivial)))))))))))) (ti trivial)) (Wv.refl _)
         ·have e2385 := (ti (ti (ti (an (not_t (decide_eq_false h2301)) (an (not_t (decide_eq_false h2301)) (an (not_t (decide_eq_false h2301)) (ti (an rt (an rt (an rt (an rt (an rt (an rt (an rt (an rt trivial)))))))))))))))
          injection h with h; subst h
          exact fun_ok pm pn Go.Proofs.Try.func3 (r0 := vb false) (ans := [.reg (.n :: .n :: []), .reg (.call (vb r2266) :: .n :: []), .br false, .reg (arA6_13 r2269 r2276), .br false, .reg (arA6_14 r2281), .reg (.n :: .n :: .call (VV.tu [vi r2284.1, vi r2284.2]) :: nN 5 []), .reg (.n :: .n :: .call (VV.tu [vi r2287.1, vi r2287.2]) :: nN 5 []), .reg (nN 8 (.b false :: .b true :: [])), .br false, .reg (.n :: .n :: []), .br false, .reg (.n :: .n :: .call (VV.tu [vi r2297.1, vi r2297.2]) :: nN 5 []), .reg (nN 3 (.skip :: .skip :: .b true :: .n :: nS 7 (.b true :: []))), .br true, .reg (.n :: [])]) (fr := true) (by kernel_rfl) (an (an (ti (ti trivial)) (an (an (an (nawake_ok k _ h2267) (ti trivial)) (an (not_f h2268) trivial)) (an (an e2279 (an (not_f (decide_eq_true h2280)) trivial)) (an e2283 (an e2286 (an e2289 (an (an e2295 (an (not_f (decide_eq_true h2296)) trivial)) (an (an (ti (ti trivial)) (an (not_f (decide_eq_true h2296)) trivial)) (an e2300 (an e2385 (an rt (an (ti trivial) trivial)))))))))))) (ti trivial)) (Wv.refl _)
        ·injection h with h; subst h
         exact fun_ok pm pn Go.Proofs.Try.func3 (r0 := vb false) (ans := [.reg (.n :: .n :: []), .reg (.call (vb r2266) :: .n :: []), .br false, .reg (arA6_13 r2269 r2276), .br false, .reg (arA6_14 r2281), .reg (.n :: .n :: .call (VV.tu [vi r2284.1, vi r2284.2]) :: nN 5 []), .reg (.n :: .n :: .call (VV.tu [vi r2287.1, vi r2287.2]) :: nN 5 []), .reg (nN 8 (.b false :: .b true :: [])), .br true, .reg (.n :: [])]) (fr := true) (by kernel_rfl) (an (an (ti (ti trivial)) (an (an (an (nawake_ok k _ h2267) (ti trivial)) (an (not_f h2268) trivial)) (an (an e2279 (an (not_f (decide_eq_true h2280)) trivial)) (an e2283 (an e2286 (an e2289 (an e2295 (an (not_t (decide_eq_false h2296)) (an (ti trivial) trivial))))))))) (ti trivial)) (Wv.refl _)
      ·have e2386 := (ti (ti (ti (an (decide_eq_false h2290) (an (decide_eq_false h2290) (an (decide_eq_false h2290) (ti (ti (an (decide_eq_false h2290) (an (decide_eq_false h2290) trivial))))))))))
       rcases ifs h with ⟨h2387, h⟩ | ⟨h2387, h⟩
       ·obtain ⟨r2388, h2389, h⟩ := bs h
        have e2390 := (nblank_CheckTimes_ok k a0 r2281.1 _ h2389)
        have e2391 := (ti (ti (an e2390 (ti (ti (ti (ti (ti trivial))))))))
        rcases ifs h with ⟨h2392, h⟩ | ⟨h2392, h⟩
        ·have e2393 := (an (not_f (decide_eq_true h2392)) trivial)
         have e2394 := (an (not_f (decide_eq_true h2392)) trivial)
         rcases ifs h with ⟨h2395, h⟩ | ⟨h2395, h⟩
         ·have e2396 := (ti (ti (ti (an e2393 (an e2394 (an (not_f (decide_eq_true h2392)) (ti (an (decide_eq_true h2395) (an (decide_eq_true h2395) (an (decide_eq_true h2395) (an (decide_eq_true h2395) (an (decide_eq_true h2395) (an (decide_eq_true h2395) (an (decide_eq_true h2395) (an (decide_eq_true h2395) trivial)))))))))))))))
          injection h with h; subst h
          exact fun_ok pm pn Go.Proofs.Try.func3 (r0 := vb false) (ans := [.reg (.n :: .n :: []), .reg (.call (vb r2266) :: .n :: []), .br false, .reg (arA6_13 r2269 r2276), .br false, .reg (arA6_14 r2281), .reg (.n :: .n :: .call (VV.tu [vi r2284.1, vi r2284.2]) :: nN 5 []), .reg (.n :: .n :: .call (VV.tu [vi r2287.1, vi r2287.2]) :: nN 5 []), .reg (nN 3 (nS 6 (.b false :: []))), .br false, .reg (.n :: .n :: []), .br false, .reg (.n :: .n :: .call (VV.tu [vi r2388.1, vi r2388.2]) :: nN 5 []), .reg (nN 5 (.b false :: .n :: nS 7 (.b true :: []))), .br true, .reg (.n :: [])]) (fr := true) (by kernel_rfl) (an (an (ti (ti trivial)) (an (an (an (nawake_ok k _ h2267) (ti trivial)) (an (not_f h2268) trivial)) (an (an e2279 (an (not_f (decide_eq_true h2280)) trivial)) (an e2283 (an e2286 (an e2289 (an (an e2386 (an rf trivial)) (an (an (ti (ti trivial)) (an (not_f (decide_eq_true h2387)) trivial)) (an e2391 (an e2396 (an rt (an (ti trivial) trivial)))))))))))) (ti trivial)) (Wv.refl _)
         ·have e2397 := (ti (ti (ti (an e2393 (an e2394 (an (not_f (decide_eq_true h2392)) (ti (an (an (decide_eq_false h2395) trivial) (an (an (decide_eq_false h2395) trivial) (an (an (decide_eq_false h2395) trivial) (an (an (decide_eq_false h2395) trivial) (an (an (decide_eq_false h2395) trivial) (an (an (decide_eq_false h2395) trivial) (an (an (decide_eq_false h2395) trivial) (an (decide_eq_false h2395) trivial)))))))))))))))
          rcases ifs h with ⟨h2398, h⟩ | ⟨h2398, h⟩
          ·obtain ⟨r2399, h2400, h⟩ := bs h
           have e2401 := (ti (ti (an (nblank_Worst_ok k a0 r2281.1 _ h2400) (ti (ti (ti (ti (ti (ti (ti (ti trivial)))))))))))
           rcases ifs h with ⟨h2402, h⟩ | ⟨h2402, h⟩
           ·obtain ⟨r2473, h2472, h⟩ := bs h
            have hph2472 := nspeculumtop_TopAnnealProved_l0_1_ok k a0 r2281 r2399 _ _ _ _ h2472
            cases r2473 with
            | inl r2474 =>
             dsimp only at h
             have e2476 := (an (ti trivial) (VRun.loop hph2472))
             injection h with h; subst h
             exact fun_ok pm pn Go.Proofs.Try.func3 (r0 := vb false) (ans := [.reg (.n :: .n :: []), .reg (.call (vb r2266) :: .n :: []), .br false, .reg (arA6_13 r2269 r2276), .br false, .reg (arA6_14 r2281), .reg (.n :: .n :: .call (VV.tu [vi r2284.1, vi r2284.2]) :: nN 5 []), .reg (.n :: .n :: .call (VV.tu [vi r2287.1, vi r2287.2]) :: nN 5 []), .reg (nN 3 (nS 6 (.b false :: []))), .br false, .reg (.n :: .n :: []), .br false, .reg (.n :: .n :: .call (VV.tu [vi r2388.1, vi r2388.2]) :: nN 5 []), .reg (nN 5 (.b false :: nN 8 (.b false :: []))), .br false, .reg (arA6_15 r2399), .reg (.n :: .n :: []), .br false, .reg (.n :: []), .reg (.n :: []), .sub ⟨[(3, none), (7, none), (19, none), (21, none), (22, none)], [none, none], []⟩ .ret (nspeculumtop_TopAnnealProved_l0_1_e0 a0 r2281 r2399 r2474)]) (fr := true) (by kernel_rfl) (an (an (ti (ti trivial)) (an (an (an (nawake_ok k _ h2267) (ti trivial)) (an (not_f h2268) trivial)) (an (an e2279 (an (not_f (decide_eq_true h2280)) trivial)) (an e2283 (an e2286 (an e2289 (an (an e2386 (an rf trivial)) (an (an (ti (ti trivial)) (an (not_f (decide_eq_true h2387)) trivial)) (an (an e2391 (an e2397 (an (not_f (decide_eq_true h2398)) trivial))) (an e2401 (an (an (ti (ti trivial)) (an (not_f (decide_eq_true h2402)) trivial)) (an (ti trivial) (an (ti trivial) e2476))))))))))))) (ti trivial)) (Wv.refl _)
            | inr r2475 =>
             dsimp only at h
             have e2477 := (an (ti trivial) (VRun.loop hph2472))
             injection h with h; subst h
             exact fun_ok pm pn Go.Proofs.Try.func3 (r0 := vb (decide (r2399.2.1.Hi = r2475))) (ans := [.reg (.n :: .n :: []), .reg (.call (vb r2266) :: .n :: []), .br false, .reg (arA6_13 r2269 r2276), .br false, .reg (arA6_14 r2281), .reg (.n :: .n :: .call (VV.tu [vi r2284.1, vi r2284.2]) :: nN 5 []), .reg (.n :: .n :: .call (VV.tu [vi r2287.1, vi r2287.2]) :: nN 5 []), .reg (nN 3 (nS 6 (.b false :: []))), .br false, .reg (.n :: .n :: []), .br false, .reg (.n :: .n :: .call (VV.tu [vi r2388.1, vi r2388.2]) :: nN 5 []), .reg (nN 5 (.b false :: nN 8 (.b false :: []))), .br false, .reg (arA6_15 r2399), .reg (.n :: .n :: []), .br false, .reg (.n :: []), .reg (.n :: []), .sub ⟨[(3, none), (7, none), (19, none), (21, none), (22, none)], [none, none], []⟩ (.exit 0) (nspeculumtop_TopAnnealProved_l0_1_e1 a0 r2281 r2399 r2475), .reg (nN 5 [])]) (fr := true) (by kernel_rfl) (an (an (ti (ti trivial)) (an (an (an (nawake_ok k _ h2267) (ti trivial)) (an (not_f h2268) trivial)) (an (an e2279 (an (not_f (decide_eq_true h2280)) trivial)) (an e2283 (an e2286 (an e2289 (an (an e2386 (an rf trivial)) (an (an (ti (ti trivial)) (an (not_f (decide_eq_true h2387)) trivial)) (an (an e2391 (an e2397 (an (not_f (decide_eq_true h2398)) trivial))) (an e2401 (an (an (ti (ti trivial)) (an (not_f (decide_eq_true h2402)) trivial)) (an (ti trivial) (an (an (ti trivial) e2477) (an (ti (ti (ti (ti (ti trivial))))) trivial)))))))))))))) (ti trivial)) (Wv.refl _)
           ·injection h with h; subst h
            exact fun_ok pm pn Go.Proofs.Try.func3 (r0 := vb false) (ans := [.reg (.n :: .n :: []), .reg (.call (vb r2266) :: .n :: []), .br false, .reg (arA6_13 r2269 r2276), .br false, .reg (arA6_14 r2281), .reg (.n :: .n :: .call (VV.tu [vi r2284.1, vi r2284.2]) :: nN 5 []), .reg (.n :: .n :: .call (VV.tu [vi r2287.1, vi r2287.2]) :: nN 5 []), .reg (nN 3 (nS 6 (.b false :: []))), .br false, .reg (.n :: .n :: []), .br false, .reg (.n :: .n :: .call (VV.tu [vi r2388.1, vi r2388.2]) :: nN 5 []), .reg (nN 5 (.b false :: nN 8 (.b false :: []))), .br false, .reg (arA6_15 r2399), .reg (.n :: .n :: []), .br true, .reg (.n :: [])]) (fr := true) (by kernel_rfl) (an (an (ti (ti trivial)) (an (an (an (nawake_ok k _ h2267) (ti trivial)) (an (not_f h2268) trivial)) (an (an e2279 (an (not_f (decide_eq_true h2280)) trivial)) (an e2283 (an e2286 (an e2289 (an (an e2386 (an rf trivial)) (an (an (ti (ti trivial)) (an (not_f (decide_eq_true h2387)) trivial)) (an (an e2391 (an e2397 (an (not_f (decide_eq_true h2398)) trivial))) (an e2401 (an (ti (ti trivial)) (an (not_t (decide_eq_false h2402)) (an (ti trivial) trivial))))))))))))) (ti trivial)) (Wv.refl _)
          ·injection h with h; subst h
           exact fun_ok pm pn Go.Proofs.Try.func3 (r0 := vb false) (ans := [.reg (.n :: .n :: []), .reg (.call (vb r2266) :: .n :: []), .br false, .reg (arA6_13 r2269 r2276), .br false, .reg (arA6_14 r2281), .reg (.n :: .n :: .call (VV.tu [vi r2284.1, vi r2284.2]) :: nN 5 []), .reg (.n :: .n :: .call (VV.tu [vi r2287.1, vi r2287.2]) :: nN 5 []), .reg (nN 3 (nS 6 (.b false :: []))), .br false, .reg (.n :: .n :: []), .br false, .reg (.n :: .n :: .call (VV.tu [vi r2388.1, vi r2388.2]) :: nN 5 []), .reg (nN 5 (.b false :: nN 8 (.b false :: []))), .br true, .reg (.n :: [])]) (fr := true) (by kernel_rfl) (an (an (ti (ti trivial)) (an (an (an (nawake_ok k _ h2267) (ti trivial)) (an (not_f h2268) trivial)) (an (an e2279 (an (not_f (decide_eq_true h2280)) trivial)) (an e2283 (an e2286 (an e2289 (an (an e2386 (an rf trivial)) (an (an (ti (ti trivial)) (an (not_f (decide_eq_true h2387)) trivial)) (an e2391 (an e2397 (an (not_t (decide_eq_false h2398)) (an (ti trivial) trivial)))))))))))) (ti trivial)) (Wv.refl _)
        ·have e2478 := (ti (ti (ti (an (not_t (decide_eq_false h2392)) (an (not_t (decide_eq_false h2392)) (an (not_t (decide_eq_false h2392)) (ti (an rt (an rt (an rt (an rt (an rt (an rt (an rt (an rt trivial)))))))))))))))
         injection h with h; subst h
         exact fun_ok pm pn Go.Proofs.Try.func3 (r0 := vb false) (ans := [.reg (.n :: .n :: []), .reg (.call (vb r2266) :: .n :: []), .br false, .reg (arA6_13 r2269 r2276), .br false, .reg (arA6_14 r2281), .reg (.n :: .n :: .call (VV.tu [vi r2284.1, vi r2284.2]) :: nN 5 []), .reg (.n :: .n :: .call (VV.tu [vi r2287.1, vi r2287.2]) :: nN 5 []), .reg (nN 3 (nS 6 (.b false :: []))), .br false, .reg (.n :: .n :: []), .br false, .reg (.n :: .n :: .call (VV.tu [vi r2388.1, vi r2388.2]) :: nN 5 []), .reg (nN 3 (.skip :: .skip :: .b true :: .n :: nS 7 (.b true :: []))), .br true, .reg (.n :: [])]) (fr := true) (by kernel_rfl) (an (an (ti (ti trivial)) (an (an (an (nawake_ok k _ h2267) (ti trivial)) (an (not_f h2268) trivial)) (an (an e2279 (an (not_f (decide_eq_true h2280)) trivial)) (an e2283 (an e2286 (an e2289 (an (an e2386 (an rf trivial)) (an (an (ti (ti trivial)) (an (not_f (decide_eq_true h2387)) trivial)) (an e2391 (an e2478 (an rt (an (ti trivial) trivial)))))))))))) (ti trivial)) (Wv.refl _)
       ·obtain ⟨r2479, h2480, h⟩ := bs h
        have e2481 := (nblank_CheckCircle_ok k a0 r2281.2.1 _ h2480)
        have e2482 := (ti (ti (an e2481 (ti (ti (ti (ti (ti trivial))))))))
        rcases ifs h with ⟨h2483, h⟩ | ⟨h2483, h⟩
        ·rcases ifs h with ⟨h2484, h⟩ | ⟨h2484, h⟩
         ·rcases ifs h with ⟨h2485, h⟩ | ⟨h2485, h⟩
          ·have e2486 := (ti (ti (ti (an (an (decide_eq_true h2483) trivial) (an (an (decide_eq_true h2483) trivial) (an (an (decide_eq_true h2483) trivial) (an (decide_eq_true h2483) (ti (an (an (decide_eq_true h2484) trivial) (an (an (decide_eq_true h2484) trivial) (an (decide_eq_true h2484) (ti (an (an (decide_eq_true h2485) trivial) (an (an (decide_eq_true h2485) trivial) (an (decide_eq_true h2485) (ti trivial))))))))))))))))
           injection h with h; subst h
           exact fun_ok pm pn Go.Proofs.Try.func3 (r0 := vb (decide (r2479.1 < 0))) (ans := [.reg (.n :: .n :: []), .reg (.call (vb r2266) :: .n :: []), .br false, .reg (arA6_13 r2269 r2276), .br false, .reg (arA6_14 r2281), .reg (.n :: .n :: .call (VV.tu [vi r2284.1, vi r2284.2]) :: nN 5 []), .reg (.n :: .n :: .call (VV.tu [vi r2287.1, vi r2287.2]) :: nN 5 []), .reg (nN 3 (nS 6 (.b false :: []))), .br false, .reg (.n :: .n :: []), .br true, .reg (.n :: .n :: .call (VV.tu [vi r2479.1, vi r2479.2]) :: nN 5 []), .reg (nN 6 (.b true :: nN 3 (.b true :: nN 3 (.b true :: .n :: []))))]) (fr := true) (by kernel_rfl) (an (an (ti (ti trivial)) (an (an (an (nawake_ok k _ h2267) (ti trivial)) (an (not_f h2268) trivial)) (an (an e2279 (an (not_f (decide_eq_true h2280)) trivial)) (an e2283 (an e2286 (an e2289 (an (an e2386 (an rf trivial)) (an (ti (ti trivial)) (an (not_t (decide_eq_false h2387)) (an e2482 (an e2486 trivial))))))))))) (ti trivial)) (Wv.refl _)
          ·have e2487 := (ti (ti (ti (an (an (decide_eq_true h2483) trivial) (an (an (decide_eq_true h2483) trivial) (an (an (decide_eq_true h2483) trivial) (an (decide_eq_true h2483) (ti (an (an (decide_eq_true h2484) trivial) (an (an (decide_eq_true h2484) trivial) (an (decide_eq_true h2484) (ti (an (decide_eq_false h2485) (an (decide_eq_false h2485) (an (decide_eq_false h2485) (ti trivial))))))))))))))))
           injection h with h; subst h
           exact fun_ok pm pn Go.Proofs.Try.func3 (r0 := vb false) (ans := [.reg (.n :: .n :: []), .reg (.call (vb r2266) :: .n :: []), .br false, .reg (arA6_13 r2269 r2276), .br false, .reg (arA6_14 r2281), .reg (.n :: .n :: .call (VV.tu [vi r2284.1, vi r2284.2]) :: nN 5 []), .reg (.n :: .n :: .call (VV.tu [vi r2287.1, vi r2287.2]) :: nN 5 []), .reg (nN 3 (nS 6 (.b false :: []))), .br false, .reg (.n :: .n :: []), .br true, .reg (.n :: .n :: .call (VV.tu [vi r2479.1, vi r2479.2]) :: nN 5 []), .reg (nN 6 (.b true :: nN 3 (.b true :: .n :: .skip :: .skip :: .b false :: .n :: [])))]) (fr := true) (by kernel_rfl) (an (an (ti (ti trivial)) (an (an (an (nawake_ok k _ h2267) (ti trivial)) (an (not_f h2268) trivial)) (an (an e2279 (an (not_f (decide_eq_true h2280)) trivial)) (an e2283 (an e2286 (an e2289 (an (an e2386 (an rf trivial)) (an (ti (ti trivial)) (an (not_t (decide_eq_false h2387)) (an e2482 (an e2487 trivial))))))))))) (ti trivial)) (Wv.refl _)
         ·have e2488 := (ti (ti (ti (an (an (decide_eq_true h2483) trivial) (an (an (decide_eq_true h2483) trivial) (an (an (decide_eq_true h2483) trivial) (an (decide_eq_true h2483) (ti (an (decide_eq_false h2484) (an (decide_eq_false h2484) (an (decide_eq_false h2484) (ti (an rf (an rf (an rf (ti trivial))))))))))))))))
          injection h with h; subst h
          exact fun_ok pm pn Go.Proofs.Try.func3 (r0 := vb false) (ans := [.reg (.n :: .n :: []), .reg (.call (vb r2266) :: .n :: []), .br false, .reg (arA6_13 r2269 r2276), .br false, .reg (arA6_14 r2281), .reg (.n :: .n :: .call (VV.tu [vi r2284.1, vi r2284.2]) :: nN 5 []), .reg (.n :: .n :: .call (VV.tu [vi r2287.1, vi r2287.2]) :: nN 5 []), .reg (nN 3 (nS 6 (.b false :: []))), .br false, .reg (.n :: .n :: []), .br true, .reg (.n :: .n :: .call (VV.tu [vi r2479.1, vi r2479.2]) :: nN 5 []), .reg arA6_16]) (fr := true) (by kernel_rfl) (an (an (ti (ti trivial)) (an (an (an (nawake_ok k _ h2267) (ti trivial)) (an (not_f h2268) trivial)) (an (an e2279 (an (not_f (decide_eq_true h2280)) trivial)) (an e2283 (an e2286 (an e2289 (an (an e2386 (an rf trivial)) (an (ti (ti trivial)) (an (not_t (decide_eq_false h2387)) (an e2482 (an e2488 trivial))))))))))) (ti trivial)) (Wv.refl _)
        ·have e2489 := (ti (ti (ti (an (decide_eq_false h2483) (an (decide_eq_false h2483) (an (decide_eq_false h2483) (an (decide_eq_false h2483) (ti (an rf (an rf (an rf (ti (an rf (an rf (an rf (ti trivial))))))))))))))))
         injection h with h; subst h
         exact fun_ok pm pn Go.Proofs.Try.func3 (r0 := vb false) (ans := [.reg (.n :: .n :: []), .reg (.call (vb r2266) :: .n :: []), .br false, .reg (arA6_13 r2269 r2276), .br false, .reg (arA6_14 r2281), .reg (.n :: .n :: .call (VV.tu [vi r2284.1, vi r2284.2]) :: nN 5 []), .reg (.n :: .n :: .call (VV.tu [vi r2287.1, vi r2287.2]) :: nN 5 []), .reg (nN 3 (nS 6 (.b false :: []))), .br false, .reg (.n :: .n :: []), .br true, .reg (.n :: .n :: .call (VV.tu [vi r2479.1, vi r2479.2]) :: nN 5 []), .reg arA6_17]) (fr := true) (by kernel_rfl) (an (an (ti (ti trivial)) (an (an (an (nawake_ok k _ h2267) (ti trivial)) (an (not_f h2268) trivial)) (an (an e2279 (an (not_f (decide_eq_true h2280)) trivial)) (an e2283 (an e2286 (an e2289 (an (an e2386 (an rf trivial)) (an (ti (ti trivial)) (an (not_t (decide_eq_false h2387)) (an e2482 (an e2489 trivial))))))))))) (ti trivial)) (Wv.refl _)
     ·injection h with h; subst h
      exact fun_ok pm pn Go.Proofs.Try.func3 (r0 := vb true) (ans := [.reg (.n :: .n :: []), .reg (.call (vb r2266) :: .n :: []), .br false, .reg (arA6_13 r2269 r2276), .br true, .reg (.n :: [])]) (fr := true) (by kernel_rfl) (an (an (ti (ti trivial)) (an (an (an (nawake_ok k _ h2267) (ti trivial)) (an (not_f h2268) trivial)) (an e2279 (an (not_t (decide_eq_false h2280)) (an (ti trivial) trivial))))) (ti trivial)) (Wv.refl _)
  ·have e2490 := (ti (an (nspeculumlaw03_Light_ok k a0 _ h2270) (ti (ti (an (not_t (bool_f h2271)) (an (not_t (bool_f h2271)) (an (not_t (bool_f h2271)) (an (not_t (bool_f h2271)) (ti (an rt (an rt (an rt (an rt (ti (an rt (an rt (an rt (an rt trivial))))))))))))))))))
   injection h with h; subst h
   exact fun_ok pm pn Go.Proofs.Try.func3 (r0 := vb true) (ans := [.reg (.n :: .n :: []), .reg (.call (vb r2266) :: .n :: []), .br false, .reg (arA6_18 r2269), .br true, .reg (.n :: [])]) (fr := true) (by kernel_rfl) (an (an (ti (ti trivial)) (an (an (an (nawake_ok k _ h2267) (ti trivial)) (an (not_f h2268) trivial)) (an e2490 (an rt (an (ti trivial) trivial))))) (ti trivial)) (Wv.refl _)
 ·injection h with h; subst h
  exact fun_ok pm pn Go.Proofs.Try.func3 (r0 := vb false) (ans := [.reg (.n :: .n :: []), .reg (.call (vb r2266) :: .n :: []), .br true, .reg (.n :: [])]) (fr := true) (by kernel_rfl) (an (an (ti (ti trivial)) (an (an (nawake_ok k _ h2267) (ti trivial)) (an (not_t (bool_f h2268)) (an (ti trivial) trivial)))) (ti trivial)) (Wv.refl _)
end Go.Proofs.Ytejannnafdcgoaa.Vg

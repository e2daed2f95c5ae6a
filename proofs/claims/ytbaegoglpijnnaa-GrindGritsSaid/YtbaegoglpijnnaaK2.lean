/- Written by a program out of the program: what Go functions do, as plain functions, and their contracts. -/
import Derived.Test.YtbaegoglpijnnaaK1
namespace Go.Proofs.Ytbaegoglpijnnaa.Vg
set_option maxRecDepth 100000
set_option maxHeartbeats 4000000
set_option linter.unusedVariables false
set_option linter.unusedSimpArgs false
open Go Go.Proofs.Ytbaegoglpijnnaa.Ev Go.Proofs.Ytbaegoglpijnnaa.Vv
def nawake (k : Nat) : Option Bool := some true
theorem nawake_ok (k : Nat) (r : Bool) (h : nawake k = some r) : VC Go.Proofs.Try.prog 8 [] (vb r) := by
  injection h with h; subst h
  exact vc_awake
def ngrind_validGrits (k : Nat) (a0 : (List SGrit)) : Option (List SGrit) :=
  some a0
theorem ngrind_validGrits_ok (k : Nat) (a0 : (List SGrit)) (r : (List SGrit)) (h : ngrind_validGrits k a0 = some r) : VC Go.Proofs.Try.prog 37 [VV.tr (List.flatMap c_SGrit a0) a0.length] (VV.fn 60 [VV.tp [VV.tr (List.flatMap c_SGrit r) r.length] 0]) := by
 unfold ngrind_validGrits at h
 injection h with h; subst h
 exact fun_ok pm pn Go.Proofs.Try.func37 (r0 := VV.fn 60 [VV.tp [VV.tr (List.flatMap c_SGrit a0) a0.length] 0]) (ans := [.reg (.n :: .n :: []), .frz 0, .reg (.n :: .n :: [])]) (fr := false) (by kernel_rfl) (an (an (ti (ti trivial)) (an (ti (ti trivial)) trivial)) (ti trivial)) (Wv.refl _)
theorem eqK2_0 (z0 : Int) : [vi 0, vi 1000000, VV.tr (List.map vi ([z0] : List Int)) (([z0] : List Int).length)] = [vi 0, vi 1000000, VV.tr [vi z0] 1] := by first | rfl | (simp only [unfr_vi, List.map_cons, List.map_nil, un_i, un_tr, List.length_map, List.length_cons, List.length_nil]; done) | (simp only [unfr_vi, List.map_cons, List.map_nil, un_i, un_tr, List.length_map, List.length_cons, List.length_nil]; rfl) | (simp only [unfr_vi, List.map_cons, List.map_nil, un_i, un_tr, List.length_map, List.length_cons, List.length_nil, List.length_cons, List.length_nil, List.length_append]; done)
def ngrind_validGrits_1 (k : Nat) (q0_0 : (List SGrit)) : Option Int :=
  (ngrind_CheckGrits k q0_0).bind fun r1634 => (some r1634)
theorem ngrind_validGrits_1_ok (k : Nat) (q0_0 : (List SGrit)) (r : Int) (h : ngrind_validGrits_1 k q0_0 = some r) : VC Go.Proofs.Try.prog 60 [VV.tp [VV.tr (List.flatMap c_SGrit q0_0) q0_0.length] 0] (vi r) := by
 unfold ngrind_validGrits_1 at h
 have e1633 := (show loadL Go.Proofs.Try.prog 22 0 [VV.tr (List.flatMap c_SGrit q0_0) q0_0.length] = some (VV.tr (List.flatMap c_SGrit q0_0) q0_0.length) from (ld_one ag22 rfl))
 obtain ⟨r1634, h1635, h⟩ := bs h
 have e1636 := (an e1633 (an (ngrind_CheckGrits_ok k q0_0 _ h1635) (ti trivial)))
 injection h with h; subst h
 exact fun_ok pm pn Go.Proofs.Try.func60 (r0 := vi r1634) (ans := [.reg (.n :: []), .reg (.v (VV.tr (List.flatMap c_SGrit q0_0) q0_0.length) :: .call (vi r1634) :: .n :: [])]) (fr := true) (by kernel_rfl) (an (an (ti trivial) (an e1636 trivial)) (ti trivial)) (Wv.refl _)
def arK2_0 (z0 : (List SGrit)) : List Ans := (.n :: .v (VV.fn 60 [VV.tp [VV.tr (List.flatMap c_SGrit z0) z0.length] 0]) :: .n :: [])
def arK2_1 (z0 : ((List Int) × Int × Int)) : List Ans := (.n :: .v (VV.fn 62 [VV.tp [VV.tr (List.map vi z0.1) z0.1.length] 0, VV.tp [vi z0.2.1] 0, VV.tp [vi z0.2.2] 0]) :: .n :: [])
def ngrind_up (k : Nat) (a0 : Int) (a1 : Int) : Option Int :=
  if a1 ≠ 0 then (some (w64 ((w64 ((w64 (a0 + a1)) - 1)).tdiv a1))) else none
theorem ngrind_up_ok (k : Nat) (a0 : Int) (a1 : Int) (r : Int) (h : ngrind_up k a0 a1 = some r) : VC Go.Proofs.Try.prog 41 [vi a0, vi a1] (vi r) := by
 unfold ngrind_up at h
 obtain ⟨h1658, h⟩ := ifn h
 injection h with h; subst h
 exact fun_ok pm pn Go.Proofs.Try.func41 (r0 := vi (w64 ((w64 ((w64 (a0 + a1)) - 1)).tdiv a1))) (ans := [.reg (.n :: []), .reg (nN 7 [])]) (fr := true) (by kernel_rfl) (an (an (ti trivial) (an (ti (ti (ti (ti (ti (an h1658 (ti trivial))))))) trivial)) (ti trivial)) (Wv.refl _)
noncomputable def arK2_2 (z0 : (List SGrit)) (z1 : Bool) (z2 : (Bool × Int)) (z3 : ((List Int) × Int × Int)) (z4 : Int) (z5 : Int) (z6 : Int) : List Ans := (.n :: .call (VV.fn 60 [VV.tp [VV.tr (List.flatMap c_SGrit z0) z0.length] 0]) :: nN 4 (.call (vb z1) :: .call (VV.fn 61 [VV.tp [vb z2.1] 0, VV.tp [vi z2.2] 0]) :: .n :: .v VV.any :: .call (VV.fn 62 [VV.tp [VV.tr (List.map vi z3.1) z3.1.length] 0, VV.tp [vi z3.2.1] 0, VV.tp [vi z3.2.2] 0]) :: .n :: .inl (inlF Go.Proofs.Try.f36 [.reg (.n :: []), .reg (nN 3 []), .unr 5, .reg (.n :: []), .br true, .reg (arK2_0 z0), .reg (.n :: .call (vi z4) :: .n :: []), .reg (.n :: .n :: []), .br false, .reg (.n :: .n :: []), .reg (.n :: []), .br true, .reg (.n :: .v (VV.fn 61 [VV.tp [vb z2.1] 0, VV.tp [vi z2.2] 0]) :: .n :: []), .reg (.n :: .call (vi z5) :: .n :: []), .reg (.n :: .n :: []), .br false, .reg (.n :: .n :: []), .reg (.n :: []), .br true, .reg (arK2_1 z3), .reg (.n :: .call (vi z6) :: .n :: []), .reg (.n :: .n :: []), .br false, .reg (.n :: .n :: []), .reg (.n :: []), .br false, .reg (.n :: [])]) :: .n :: []))
noncomputable def arK2_3 (z0 : (List SGrit)) (z1 : Bool) (z2 : (Bool × Int)) (z3 : ((List Int) × Int × Int)) (z4 : Int) (z5 : Int) (z6 : Int) : List Ans := (.n :: .call (VV.fn 60 [VV.tp [VV.tr (List.flatMap c_SGrit z0) z0.length] 0]) :: nN 4 (.call (vb z1) :: .call (VV.fn 61 [VV.tp [vb z2.1] 0, VV.tp [vi z2.2] 0]) :: .n :: .v VV.any :: .call (VV.fn 62 [VV.tp [VV.tr (List.map vi z3.1) z3.1.length] 0, VV.tp [vi z3.2.1] 0, VV.tp [vi z3.2.2] 0]) :: .n :: .inl (inlF Go.Proofs.Try.f36 [.reg (.n :: []), .reg (nN 3 []), .unr 4, .reg (.n :: []), .br true, .reg (arK2_0 z0), .reg (.n :: .call (vi z4) :: .n :: []), .reg (.n :: .n :: []), .br false, .reg (.n :: .n :: []), .reg (.n :: []), .br true, .reg (.n :: .v (VV.fn 61 [VV.tp [vb z2.1] 0, VV.tp [vi z2.2] 0]) :: .n :: []), .reg (.n :: .call (vi z5) :: .n :: []), .reg (.n :: .n :: []), .br false, .reg (.n :: .n :: []), .reg (.n :: []), .br true, .reg (arK2_1 z3), .reg (.n :: .call (vi z6) :: .n :: []), .reg (.n :: .n :: []), .br true, .reg (.n :: .n :: [])]) :: .n :: []))
noncomputable def arK2_4 (z0 : (List SGrit)) (z1 : Bool) (z2 : (Bool × Int)) (z3 : ((List Int) × Int × Int)) (z4 : Int) (z5 : Int) : List Ans := (.n :: .call (VV.fn 60 [VV.tp [VV.tr (List.flatMap c_SGrit z0) z0.length] 0]) :: nN 4 (.call (vb z1) :: .call (VV.fn 61 [VV.tp [vb z2.1] 0, VV.tp [vi z2.2] 0]) :: .n :: .v VV.any :: .call (VV.fn 62 [VV.tp [VV.tr (List.map vi z3.1) z3.1.length] 0, VV.tp [vi z3.2.1] 0, VV.tp [vi z3.2.2] 0]) :: .n :: .inl (inlF Go.Proofs.Try.f36 [.reg (.n :: []), .reg (nN 3 []), .unr 3, .reg (.n :: []), .br true, .reg (arK2_0 z0), .reg (.n :: .call (vi z4) :: .n :: []), .reg (.n :: .n :: []), .br false, .reg (.n :: .n :: []), .reg (.n :: []), .br true, .reg (.n :: .v (VV.fn 61 [VV.tp [vb z2.1] 0, VV.tp [vi z2.2] 0]) :: .n :: []), .reg (.n :: .call (vi z5) :: .n :: []), .reg (.n :: .n :: []), .br true, .reg (.n :: .n :: [])]) :: .n :: []))
noncomputable def arK2_5 (z0 : (List SGrit)) (z1 : Bool) (z2 : (Bool × Int)) (z3 : ((List Int) × Int × Int)) (z4 : Int) : List Ans := (.n :: .call (VV.fn 60 [VV.tp [VV.tr (List.flatMap c_SGrit z0) z0.length] 0]) :: nN 4 (.call (vb z1) :: .call (VV.fn 61 [VV.tp [vb z2.1] 0, VV.tp [vi z2.2] 0]) :: .n :: .v VV.any :: .call (VV.fn 62 [VV.tp [VV.tr (List.map vi z3.1) z3.1.length] 0, VV.tp [vi z3.2.1] 0, VV.tp [vi z3.2.2] 0]) :: .n :: .inl (inlF Go.Proofs.Try.f36 [.reg (.n :: []), .reg (nN 3 []), .unr 2, .reg (.n :: []), .br true, .reg (arK2_0 z0), .reg (.n :: .call (vi z4) :: .n :: []), .reg (.n :: .n :: []), .br true, .reg (.n :: .n :: [])]) :: .n :: []))
def ngrind_StepMinutes (k : Nat) (a0 : (List SGrit)) (a1 : Int) (a2 : Int) : Option (Int × Int) :=
  (ngrind_validGrits k a0).bind fun r1669 => ((ngrind_isWithin k a1 0 (w64 ((a0.length : Int) - 1))).bind fun r1671 => ((ngrind_need k r1671 6).bind fun r1674 => ((ngrind_within k 0 1000000 ([a2] : List Int)).bind fun r1676 => ((ngrind_validGrits_1 k r1669).bind fun r1681 => (if r1681 = 0 then ((ngrind_need_1 k r1674.1 r1674.2).bind fun r1687 => (if r1687 = 0 then ((ngrind_within_1 k r1676.1 r1676.2.1 r1676.2.2).bind fun r1693 => (if r1693 = 0 then (if 0 ≤ a1 ∧ a1 < (a0.length : Int) then ((ngrind_up k a2 ((a0.getD a1.toNat default).Rate)).bind fun r1701 => (some (r1701, 0))) else none) else (some (0, r1693)))) else (some (0, r1687)))) else (some (0, r1681)))))))
theorem ngrind_StepMinutes_ok (k : Nat) (a0 : (List SGrit)) (a1 : Int) (a2 : Int) (r : (Int × Int)) (h : ngrind_StepMinutes k a0 a1 a2 = some r) : VC Go.Proofs.Try.prog 10 [VV.tr (List.flatMap c_SGrit a0) a0.length, vi a1, vi a2] (VV.tu [vi r.1, vi r.2]) := by
 unfold ngrind_StepMinutes at h
 obtain ⟨r1669, h1670, h⟩ := bs h
 obtain ⟨r1671, h1672, h⟩ := bs h
 have e1673 := (ngrind_isWithin_ok k a1 0 (w64 ((a0.length : Int) - 1)) _ h1672)
 obtain ⟨r1674, h1675, h⟩ := bs h
 obtain ⟨r1676, h1677, h⟩ := bs h
 have e1678 := (VC.args (ngrind_within_ok k 0 1000000 ([a2] : List Int) _ h1677) (eqK2_0 a2))
 have e1679 := (show (0 : Int) ≤ 0 ∧ (0 : Int) < ((3 : Nat) : Int) from ⟨by decide, by decide⟩)
 have e1680 := (show loadL Go.Proofs.Try.prog 80 (0 + (0 : Int).toNat * 1) ([VV.fn 60 [VV.tp [VV.tr (List.flatMap c_SGrit r1669) r1669.length] 0], VV.fn 61 [VV.tp [vb r1674.1] 0, VV.tp [vi r1674.2] 0], VV.fn 62 [VV.tp [VV.tr (List.map vi r1676.1) r1676.1.length] 0, VV.tp [vi r1676.2.1] 0, VV.tp [vi r1676.2.2] 0]]) = some (VV.fn 60 [VV.tp [VV.tr (List.flatMap c_SGrit r1669) r1669.length] 0]) from (ld_one ag80 rfl))
 obtain ⟨r1681, h1682, h⟩ := bs h
 have e1683 := (ngrind_validGrits_1_ok k r1669 _ h1682)
 rcases ifs h with ⟨h1684, h⟩ | ⟨h1684, h⟩
 ·have e1685 := (show (0 : Int) ≤ 1 ∧ (1 : Int) < ((3 : Nat) : Int) from ⟨by decide, by decide⟩)
  have e1686 := (show loadL Go.Proofs.Try.prog 80 (0 + (1 : Int).toNat * 1) ([VV.fn 60 [VV.tp [VV.tr (List.flatMap c_SGrit r1669) r1669.length] 0], VV.fn 61 [VV.tp [vb r1674.1] 0, VV.tp [vi r1674.2] 0], VV.fn 62 [VV.tp [VV.tr (List.map vi r1676.1) r1676.1.length] 0, VV.tp [vi r1676.2.1] 0, VV.tp [vi r1676.2.2] 0]]) = some (VV.fn 61 [VV.tp [vb r1674.1] 0, VV.tp [vi r1674.2] 0]) from (ld_one ag80 rfl))
  obtain ⟨r1687, h1688, h⟩ := bs h
  have e1689 := (ngrind_need_1_ok k r1674.1 r1674.2 _ h1688)
  rcases ifs h with ⟨h1690, h⟩ | ⟨h1690, h⟩
  ·have e1691 := (show (0 : Int) ≤ 2 ∧ (2 : Int) < ((3 : Nat) : Int) from ⟨by decide, by decide⟩)
   have e1692 := (show loadL Go.Proofs.Try.prog 80 (0 + (2 : Int).toNat * 1) ([VV.fn 60 [VV.tp [VV.tr (List.flatMap c_SGrit r1669) r1669.length] 0], VV.fn 61 [VV.tp [vb r1674.1] 0, VV.tp [vi r1674.2] 0], VV.fn 62 [VV.tp [VV.tr (List.map vi r1676.1) r1676.1.length] 0, VV.tp [vi r1676.2.1] 0, VV.tp [vi r1676.2.2] 0]]) = some (VV.fn 62 [VV.tp [VV.tr (List.map vi r1676.1) r1676.1.length] 0, VV.tp [vi r1676.2.1] 0, VV.tp [vi r1676.2.2] 0]) from (ld_one ag80 rfl))
   obtain ⟨r1693, h1694, h⟩ := bs h
   have e1695 := (ngrind_within_1_ok k r1676.1 r1676.2.1 r1676.2.2 _ h1694)
   rcases ifs h with ⟨h1696, h⟩ | ⟨h1696, h⟩
   ·have e1697 := (an (an Go.Proofs.Try.func36 (an (ti trivial) (an (an (ti (ti (ti trivial))) (an (an (ti trivial) (an (an (show (decide ((0 : Int) < 3)) = true from (decide_eq_true (by decide))) trivial) (an (an (an e1679 (an e1680 (ti trivial))) (an (ti (an e1683 (ti trivial))) (an (ti (ti trivial)) (an (not_f (decide_eq_true h1684)) trivial)))) (ti (ti trivial))))) (an (an (ti trivial) (an (an (show (decide ((1 : Int) < 3)) = true from (decide_eq_true (by decide))) trivial) (an (an (an e1685 (an e1686 (ti trivial))) (an (ti (an e1689 (ti trivial))) (an (ti (ti trivial)) (an (not_f (decide_eq_true h1690)) trivial)))) (ti (ti trivial))))) (an (an (ti trivial) (an (an (show (decide ((2 : Int) < 3)) = true from (decide_eq_true (by decide))) trivial) (an (an (an e1691 (an e1692 (ti trivial))) (an (ti (an e1695 (ti trivial))) (an (ti (ti trivial)) (an (not_f (decide_eq_true h1696)) trivial)))) (ti (ti trivial))))) (an (ti trivial) (an (show (decide ((3 : Int) < 3)) = false from (decide_eq_false (by decide))) trivial)))))) (an (ti trivial) trivial)))) (ti trivial))
    have e1698 := (ti (an (ngrind_validGrits_ok k a0 _ h1670) (ti (ti (ti (ti (an e1673 (an (ngrind_need_ok k r1671 6 _ h1675) (ti (ti (an e1678 (ti (an e1697 (ti trivial))))))))))))))
    obtain ⟨h1699, h⟩ := ifn h
    have e1700 := (show loadL Go.Proofs.Try.prog 3 (a1.toNat * 3 + 2) (List.flatMap c_SGrit a0) = some (vi ((a0.getD a1.toNat default).Rate)) from (ld_flat ag3 c_SGrit 3 2 len_c_SGrit (by omega) a0 default h1699 (by omega)).trans rfl)
    obtain ⟨r1701, h1702, h⟩ := bs h
    have e1703 := (ngrind_up_ok k a2 ((a0.getD a1.toNat default).Rate) _ h1702)
    have e1704 := (ti (ti (ti (an h1699 (ti (an e1700 (an e1703 (ti (ti trivial)))))))))
    injection h with h; subst h
    exact fun_ok pm pn Go.Proofs.Try.func10 (r0 := VV.tu [vi r1701, vi 0]) (ans := [.reg (.n :: .n :: []), .reg (arK2_2 r1669 r1671 r1674 r1676 r1681 r1687 r1693), .reg (.n :: .n :: []), .br false, .reg (nN 5 (.v (vi ((a0.getD a1.toNat default).Rate)) :: .call (vi r1701) :: .n :: .n :: []))]) (fr := true) (by kernel_rfl) (an (an (ti (ti trivial)) (an e1698 (an (an (ti (ti trivial)) (an (show (!(decide ((0 : Int) = 0))) = false from (not_f (decide_eq_true (by decide)))) trivial)) (an e1704 trivial)))) (ti (ti trivial))) (Wv.refl _)
   ·have e1705 := (an (an Go.Proofs.Try.func36 (an (ti trivial) (an (ti (ti (ti trivial))) (an (an (ti trivial) (an (an (show (decide ((0 : Int) < 3)) = true from (decide_eq_true (by decide))) trivial) (an (an (an e1679 (an e1680 (ti trivial))) (an (ti (an e1683 (ti trivial))) (an (ti (ti trivial)) (an (not_f (decide_eq_true h1684)) trivial)))) (ti (ti trivial))))) (an (an (ti trivial) (an (an (show (decide ((1 : Int) < 3)) = true from (decide_eq_true (by decide))) trivial) (an (an (an e1685 (an e1686 (ti trivial))) (an (ti (an e1689 (ti trivial))) (an (ti (ti trivial)) (an (not_f (decide_eq_true h1690)) trivial)))) (ti (ti trivial))))) (an (ti trivial) (an (an (show (decide ((2 : Int) < 3)) = true from (decide_eq_true (by decide))) trivial) (an (an e1691 (an e1692 (ti trivial))) (an (ti (an e1695 (ti trivial))) (an (ti (ti trivial)) (an (not_t (decide_eq_false h1696)) (an (ti (ti trivial)) trivial)))))))))))) (ti trivial))
    have e1706 := (ti (an (ngrind_validGrits_ok k a0 _ h1670) (ti (ti (ti (ti (an e1673 (an (ngrind_need_ok k r1671 6 _ h1675) (ti (ti (an e1678 (ti (an e1705 (ti trivial))))))))))))))
    injection h with h; subst h
    exact fun_ok pm pn Go.Proofs.Try.func10 (r0 := VV.tu [vi 0, vi r1693]) (ans := [.reg (.n :: .n :: []), .reg (arK2_3 r1669 r1671 r1674 r1676 r1681 r1687 r1693), .reg (.n :: .n :: []), .br true, .reg (nN 3 [])]) (fr := true) (by kernel_rfl) (an (an (ti (ti trivial)) (an e1706 (an (ti (ti trivial)) (an (not_t (decide_eq_false h1696)) (an (ti (ti (ti trivial))) trivial))))) (ti (ti trivial))) (Wv.refl _)
  ·have e1707 := (an (an Go.Proofs.Try.func36 (an (ti trivial) (an (ti (ti (ti trivial))) (an (an (ti trivial) (an (an (show (decide ((0 : Int) < 3)) = true from (decide_eq_true (by decide))) trivial) (an (an (an e1679 (an e1680 (ti trivial))) (an (ti (an e1683 (ti trivial))) (an (ti (ti trivial)) (an (not_f (decide_eq_true h1684)) trivial)))) (ti (ti trivial))))) (an (ti trivial) (an (an (show (decide ((1 : Int) < 3)) = true from (decide_eq_true (by decide))) trivial) (an (an e1685 (an e1686 (ti trivial))) (an (ti (an e1689 (ti trivial))) (an (ti (ti trivial)) (an (not_t (decide_eq_false h1690)) (an (ti (ti trivial)) trivial))))))))))) (ti trivial))
   have e1708 := (ti (an (ngrind_validGrits_ok k a0 _ h1670) (ti (ti (ti (ti (an e1673 (an (ngrind_need_ok k r1671 6 _ h1675) (ti (ti (an e1678 (ti (an e1707 (ti trivial))))))))))))))
   injection h with h; subst h
   exact fun_ok pm pn Go.Proofs.Try.func10 (r0 := VV.tu [vi 0, vi r1687]) (ans := [.reg (.n :: .n :: []), .reg (arK2_4 r1669 r1671 r1674 r1676 r1681 r1687), .reg (.n :: .n :: []), .br true, .reg (nN 3 [])]) (fr := true) (by kernel_rfl) (an (an (ti (ti trivial)) (an e1708 (an (ti (ti trivial)) (an (not_t (decide_eq_false h1690)) (an (ti (ti (ti trivial))) trivial))))) (ti (ti trivial))) (Wv.refl _)
 ·have e1709 := (an (an Go.Proofs.Try.func36 (an (ti trivial) (an (ti (ti (ti trivial))) (an (ti trivial) (an (an (show (decide ((0 : Int) < 3)) = true from (decide_eq_true (by decide))) trivial) (an (an e1679 (an e1680 (ti trivial))) (an (ti (an e1683 (ti trivial))) (an (ti (ti trivial)) (an (not_t (decide_eq_false h1684)) (an (ti (ti trivial)) trivial)))))))))) (ti trivial))
  have e1710 := (ti (an (ngrind_validGrits_ok k a0 _ h1670) (ti (ti (ti (ti (an e1673 (an (ngrind_need_ok k r1671 6 _ h1675) (ti (ti (an e1678 (ti (an e1709 (ti trivial))))))))))))))
  injection h with h; subst h
  exact fun_ok pm pn Go.Proofs.Try.func10 (r0 := VV.tu [vi 0, vi r1681]) (ans := [.reg (.n :: .n :: []), .reg (arK2_5 r1669 r1671 r1674 r1676 r1681), .reg (.n :: .n :: []), .br true, .reg (nN 3 [])]) (fr := true) (by kernel_rfl) (an (an (ti (ti trivial)) (an e1710 (an (ti (ti trivial)) (an (not_t (decide_eq_false h1684)) (an (ti (ti (ti trivial))) trivial))))) (ti (ti trivial))) (Wv.refl _)
def nspeculumref04_IsDepth (k : Nat) (a0 : Int) : Option Bool :=
  (nspeculumbase_Within k a0 0 1000000).bind fun r1733 => (some r1733)
theorem nspeculumref04_IsDepth_ok (k : Nat) (a0 : Int) (r : Bool) (h : nspeculumref04_IsDepth k a0 = some r) : VC Go.Proofs.Try.prog 15 [vi a0] (vb r) := by
 unfold nspeculumref04_IsDepth at h
 obtain ⟨r1733, h1734, h⟩ := bs h
 have e1735 := (nspeculumbase_Within_ok k a0 0 1000000 _ h1734)
 injection h with h; subst h
 exact fun_ok pm pn Go.Proofs.Try.func15 (r0 := vb r1733) (ans := [.reg (.n :: []), .reg (.n :: .call (vb r1733) :: .n :: [])]) (fr := true) (by kernel_rfl) (an (an (ti trivial) (an (ti (an e1735 (ti trivial))) trivial)) (ti trivial)) (Wv.refl _)
def nspeculumbase_Floor (k : Nat) (a0 : Int) (a1 : Int) : Option Int :=
  if a1 ≠ 0 then (if (a0.tmod a1) < 0 then (some (w64 ((w64 (a0.tdiv a1)) - 1))) else (some (w64 (a0.tdiv a1)))) else none
theorem nspeculumbase_Floor_ok (k : Nat) (a0 : Int) (a1 : Int) (r : Int) (h : nspeculumbase_Floor k a0 a1 = some r) : VC Go.Proofs.Try.prog 46 [vi a0, vi a1] (vi r) := by
 unfold nspeculumbase_Floor at h
 obtain ⟨h1746, h⟩ := ifn h
 rcases ifs h with ⟨h1747, h⟩ | ⟨h1747, h⟩
 ·injection h with h; subst h
  exact fun_ok pm pn Go.Proofs.Try.func46 (r0 := vi (w64 ((w64 (a0.tdiv a1)) - 1))) (ans := [.reg (.n :: []), .reg (nN 4 []), .reg (nN 4 []), .br true, .reg (nN 3 []), .reg (.n :: .n :: [])]) (fr := true) (by kernel_rfl) (an (an (ti trivial) (an (ti (ti (an h1746 (ti trivial)))) (an (an (ti (ti (an h1746 (ti trivial)))) (an (decide_eq_true h1747) (ti (ti (ti trivial))))) (an (ti (ti trivial)) trivial)))) (ti trivial)) (Wv.refl _)
 ·injection h with h; subst h
  exact fun_ok pm pn Go.Proofs.Try.func46 (r0 := vi (w64 (a0.tdiv a1))) (ans := [.reg (.n :: []), .reg (nN 4 []), .reg (nN 4 []), .br false, .reg (.n :: .n :: [])]) (fr := true) (by kernel_rfl) (an (an (ti trivial) (an (ti (ti (an h1746 (ti trivial)))) (an (an (ti (ti (an h1746 (ti trivial)))) (an (decide_eq_false h1747) trivial)) (an (ti (ti trivial)) trivial)))) (ti trivial)) (Wv.refl _)
def nspeculumbase_Ceil (k : Nat) (a0 : Int) (a1 : Int) : Option Int :=
  (nspeculumbase_Floor k (w64 (0 - a0)) a1).bind fun r1751 => (some (w64 (0 - r1751)))
theorem nspeculumbase_Ceil_ok (k : Nat) (a0 : Int) (a1 : Int) (r : Int) (h : nspeculumbase_Ceil k a0 a1 = some r) : VC Go.Proofs.Try.prog 16 [vi a0, vi a1] (vi r) := by
 unfold nspeculumbase_Ceil at h
 obtain ⟨r1751, h1752, h⟩ := bs h
 have e1753 := (nspeculumbase_Floor_ok k (w64 (0 - a0)) a1 _ h1752)
 injection h with h; subst h
 exact fun_ok pm pn Go.Proofs.Try.func16 (r0 := vi (w64 (0 - r1751))) (ans := [.reg (.n :: []), .reg (nN 3 (.call (vi r1751) :: .n :: .n :: []))]) (fr := true) (by kernel_rfl) (an (an (ti trivial) (an (ti (ti (ti (an e1753 (ti (ti trivial)))))) trivial)) (ti trivial)) (Wv.refl _)
def arK2_6 (z0 : (List SGrit)) (z1 : (Int × Int)) : List Ans := (.n :: .call (VV.fr (List.flatMap c_SGrit z0) z0.length) :: .n :: .n :: .call (VV.tu [vi z1.1, vi z1.2]) :: nN 5 [])
def arK2_7 (z0 : (List SGrit)) (z1 : Int) : List Ans := (.n :: .call (VV.fr (List.flatMap c_SGrit z0) z0.length) :: .call (vi z1) :: .n :: .n :: [])
def arK2_8 (z0 : (List SGrit)) (z1 : Int) (z2 : Int) : List Ans := (nN 9 (.v (vi ((z0.getD z1.toNat default).Rate)) :: .call (vi z2) :: .n :: .b true :: .n :: []))
def nspeculumlaw04_GrindGrits (k : Nat) (a0 : (List SGrit)) (a1 : Int) (a2 : Int) : Option Bool :=
  (nawake k).bind fun r1772 => (if r1772 = true then ((nspeculumlaw04_gritty k a0).bind fun r1775 => (if r1775 = true then ((nspeculumlaw04_grits k a0).bind fun r1779 => ((ngrind_StepMinutes k r1779 a1 a2).bind fun r1782 => ((nspeculumref04_CheckGrits k a0).bind fun r1786 => ((ngrind_CheckGrits k r1779).bind fun r1791 => (if r1791 = r1786 then (if r1786 = 0 then ((nspeculumbase_Within k a1 0 (w64 ((a0.length : Int) - 1))).bind fun r1796 => (if r1796 = true then ((nspeculumref04_IsDepth k a2).bind fun r1801 => (if r1801 = true then (if r1782.2 = 0 then (if 0 ≤ a1 ∧ a1 < (a0.length : Int) then ((nspeculumbase_Ceil k a2 ((a0.getD a1.toNat default).Rate)).bind fun r1809 => (some (decide (r1782.1 = r1809)))) else none) else (some false)) else (if r1782.2 = 2 then (some (decide (r1782.1 = 0))) else (some false)))) else (if r1782.2 = 6 then (some (decide (r1782.1 = 0))) else (some false)))) else (if r1782.2 = r1786 then (some (decide (r1782.1 = 0))) else (some false))) else (some false)))))) else (some true))) else (some false))
theorem nspeculumlaw04_GrindGrits_ok (k : Nat) (a0 : (List SGrit)) (a1 : Int) (a2 : Int) (r : Bool) (h : nspeculumlaw04_GrindGrits k a0 a1 a2 = some r) : VC Go.Proofs.Try.prog 3 [VV.tr (List.flatMap c_SGrit a0) a0.length, vi a1, vi a2] (vb r) := by
 unfold nspeculumlaw04_GrindGrits at h
 obtain ⟨r1772, h1773, h⟩ := bs h
 rcases ifs h with ⟨h1774, h⟩ | ⟨h1774, h⟩
 ·obtain ⟨r1775, h1776, h⟩ := bs h
  have e1777 := (ti (an (nspeculumlaw04_gritty_ok k a0 _ h1776) (ti trivial)))
  rcases ifs h with ⟨h1778, h⟩ | ⟨h1778, h⟩
  ·obtain ⟨r1779, h1780, h⟩ := bs h
   have e1781 := (show VC Go.Proofs.Try.prog 11 [VV.tr (List.flatMap c_SGrit a0) a0.length] (VV.fr (List.flatMap c_SGrit r1779) r1779.length) from (VC.weak (nspeculumlaw04_grits_ok k a0 _ h1780) (Wv.fw rfl rfl)))
   obtain ⟨r1782, h1783, h⟩ := bs h
   have e1784 := (ngrind_StepMinutes_ok k r1779 a1 a2 _ h1783)
   have e1785 := (ti (an e1781 (ti (ti (an e1784 (ti (ti (ti (ti (ti trivial))))))))))
   obtain ⟨r1786, h1787, h⟩ := bs h
   have e1788 := (nspeculumref04_CheckGrits_ok k a0 _ h1787)
   have e1790 := (show VC Go.Proofs.Try.prog 11 [VV.tr (List.flatMap c_SGrit a0) a0.length] (VV.fr (List.flatMap c_SGrit r1779) r1779.length) from (VC.weak (nspeculumlaw04_grits_ok k a0 _ h1780) (Wv.fw rfl rfl)))
   obtain ⟨r1791, h1792, h⟩ := bs h
   have e1793 := (ti (an e1790 (an (ngrind_CheckGrits_ok k r1779 _ h1792) (ti (ti trivial)))))
   rcases ifs h with ⟨h1794, h⟩ | ⟨h1794, h⟩
   ·rcases ifs h with ⟨h1795, h⟩ | ⟨h1795, h⟩
    ·obtain ⟨r1796, h1797, h⟩ := bs h
     have e1798 := (an (decide_eq_true h1795) (nspeculumbase_Within_ok k a1 0 (w64 ((a0.length : Int) - 1)) _ h1797))
     have e1799 := (ti (ti (ti (an (an (decide_eq_true h1795) trivial) (an (an (decide_eq_true h1795) trivial) (an (an (decide_eq_true h1795) trivial) (an (an (decide_eq_true h1795) trivial) (an e1798 (an (an (decide_eq_true h1795) trivial) (an (decide_eq_true h1795) trivial))))))))))
     rcases ifs h with ⟨h1800, h⟩ | ⟨h1800, h⟩
     ·obtain ⟨r1801, h1802, h⟩ := bs h
      have e1803 := (an (decide_eq_true h1795) (nspeculumref04_IsDepth_ok k a2 _ h1802))
      have e1804 := (ti (ti (ti (an (an (decide_eq_true h1795) trivial) (an e1803 (an (an (decide_eq_true h1795) trivial) (an (decide_eq_true h1795) trivial)))))))
      rcases ifs h with ⟨h1805, h⟩ | ⟨h1805, h⟩
      ·rcases ifs h with ⟨h1806, h⟩ | ⟨h1806, h⟩
       ·obtain ⟨h1807, h⟩ := ifn h
        have e1808 := (an (decide_eq_true h1806) (show loadL Go.Proofs.Try.prog 3 (a1.toNat * 3 + 2) (List.flatMap c_SGrit a0) = some (vi ((a0.getD a1.toNat default).Rate)) from (ld_flat ag3 c_SGrit 3 2 len_c_SGrit (by omega) a0 default h1807 (by omega)).trans rfl))
        obtain ⟨r1809, h1810, h⟩ := bs h
        have e1811 := (an (decide_eq_true h1806) (nspeculumbase_Ceil_ok k a2 ((a0.getD a1.toNat default).Rate) _ h1810))
        have e1812 := (ti (ti (ti (an (an (decide_eq_true h1806) trivial) (an (an (decide_eq_true h1806) trivial) (an (an (decide_eq_true h1806) trivial) (an (an (decide_eq_true h1806) trivial) (an (an (decide_eq_true h1806) h1807) (an (an (decide_eq_true h1806) trivial) (an e1808 (an e1811 (an (an (decide_eq_true h1806) trivial) (an (decide_eq_true h1806) (ti trivial))))))))))))))
        injection h with h; subst h
        exact fun_ok pm pn Go.Proofs.Try.func3 (r0 := vb (decide (r1782.1 = r1809))) (ans := [.reg (.n :: []), .reg (.call (vb r1772) :: .n :: []), .br false, .reg (.n :: .call (vb r1775) :: .n :: []), .br false, .reg (arK2_6 r1779 r1782), .reg (.n :: .call (vi r1786) :: .n :: []), .reg (arK2_7 r1779 r1791), .br false, .reg (nN 7 (.call (vb r1796) :: .n :: .b true :: [])), .br false, .reg (nN 4 (.call (vb r1801) :: .n :: .b true :: [])), .br false, .reg (.n :: .n :: []), .br false, .reg (arK2_8 a0 a1 r1809)]) (fr := true) (by kernel_rfl) (an (an (ti trivial) (an (an (an (nawake_ok k _ h1773) (ti trivial)) (an (not_f h1774) trivial)) (an (an e1777 (an (not_f h1778) trivial)) (an e1785 (an (ti (an e1788 (ti trivial))) (an (an e1793 (an (not_f (decide_eq_true h1794)) trivial)) (an (an e1799 (an (not_f h1800) trivial)) (an (an e1804 (an (not_f h1805) trivial)) (an (an (ti (ti trivial)) (an (not_f (decide_eq_true h1795)) trivial)) (an e1812 trivial)))))))))) (ti trivial)) (Wv.refl _)
       ·have e1813 := (ti (ti (ti (an (decide_eq_false h1806) (an (decide_eq_false h1806) (an (decide_eq_false h1806) (an (decide_eq_false h1806) (an (decide_eq_false h1806) (an (decide_eq_false h1806) (an (decide_eq_false h1806) (an (decide_eq_false h1806) (an (decide_eq_false h1806) (an (decide_eq_false h1806) (ti trivial))))))))))))))
        injection h with h; subst h
        exact fun_ok pm pn Go.Proofs.Try.func3 (r0 := vb false) (ans := [.reg (.n :: []), .reg (.call (vb r1772) :: .n :: []), .br false, .reg (.n :: .call (vb r1775) :: .n :: []), .br false, .reg (arK2_6 r1779 r1782), .reg (.n :: .call (vi r1786) :: .n :: []), .reg (arK2_7 r1779 r1791), .br false, .reg (nN 7 (.call (vb r1796) :: .n :: .b true :: [])), .br false, .reg (nN 4 (.call (vb r1801) :: .n :: .b true :: [])), .br false, .reg (.n :: .n :: []), .br false, .reg (nN 3 (nS 9 (.b false :: .n :: [])))]) (fr := true) (by kernel_rfl) (an (an (ti trivial) (an (an (an (nawake_ok k _ h1773) (ti trivial)) (an (not_f h1774) trivial)) (an (an e1777 (an (not_f h1778) trivial)) (an e1785 (an (ti (an e1788 (ti trivial))) (an (an e1793 (an (not_f (decide_eq_true h1794)) trivial)) (an (an e1799 (an (not_f h1800) trivial)) (an (an e1804 (an (not_f h1805) trivial)) (an (an (ti (ti trivial)) (an (not_f (decide_eq_true h1795)) trivial)) (an e1813 trivial)))))))))) (ti trivial)) (Wv.refl _)
      ·rcases ifs h with ⟨h1814, h⟩ | ⟨h1814, h⟩
       ·have e1815 := (ti (ti (ti (ti (an (an (decide_eq_true h1814) trivial) (an (an (decide_eq_true h1814) trivial) (an (decide_eq_true h1814) (ti trivial))))))))
        injection h with h; subst h
        exact fun_ok pm pn Go.Proofs.Try.func3 (r0 := vb (decide (r1782.1 = 0))) (ans := [.reg (.n :: []), .reg (.call (vb r1772) :: .n :: []), .br false, .reg (.n :: .call (vb r1775) :: .n :: []), .br false, .reg (arK2_6 r1779 r1782), .reg (.n :: .call (vi r1786) :: .n :: []), .reg (arK2_7 r1779 r1791), .br false, .reg (nN 7 (.call (vb r1796) :: .n :: .b true :: [])), .br false, .reg (nN 4 (.call (vb r1801) :: .n :: .b true :: [])), .br true, .reg (.n :: []), .reg (.n :: .n :: []), .br true, .reg (nN 6 (.b true :: .n :: []))]) (fr := true) (by kernel_rfl) (an (an (ti trivial) (an (an (an (nawake_ok k _ h1773) (ti trivial)) (an (not_f h1774) trivial)) (an (an e1777 (an (not_f h1778) trivial)) (an e1785 (an (ti (an e1788 (ti trivial))) (an (an e1793 (an (not_f (decide_eq_true h1794)) trivial)) (an (an e1799 (an (not_f h1800) trivial)) (an (an e1804 (an (not_t (bool_f h1805)) (ti trivial))) (an (ti (ti trivial)) (an (show (!(decide ((2 : Int) = 0))) = true from (not_t (decide_eq_false (by decide)))) (an e1815 trivial))))))))))) (ti trivial)) (Wv.refl _)
       ·have e1816 := (ti (ti (ti (ti (an (decide_eq_false h1814) (an (decide_eq_false h1814) (an (decide_eq_false h1814) (ti trivial))))))))
        injection h with h; subst h
        exact fun_ok pm pn Go.Proofs.Try.func3 (r0 := vb false) (ans := [.reg (.n :: []), .reg (.call (vb r1772) :: .n :: []), .br false, .reg (.n :: .call (vb r1775) :: .n :: []), .br false, .reg (arK2_6 r1779 r1782), .reg (.n :: .call (vi r1786) :: .n :: []), .reg (arK2_7 r1779 r1791), .br false, .reg (nN 7 (.call (vb r1796) :: .n :: .b true :: [])), .br false, .reg (nN 4 (.call (vb r1801) :: .n :: .b true :: [])), .br true, .reg (.n :: []), .reg (.n :: .n :: []), .br true, .reg (nN 4 (.skip :: .skip :: .b false :: .n :: []))]) (fr := true) (by kernel_rfl) (an (an (ti trivial) (an (an (an (nawake_ok k _ h1773) (ti trivial)) (an (not_f h1774) trivial)) (an (an e1777 (an (not_f h1778) trivial)) (an e1785 (an (ti (an e1788 (ti trivial))) (an (an e1793 (an (not_f (decide_eq_true h1794)) trivial)) (an (an e1799 (an (not_f h1800) trivial)) (an (an e1804 (an (not_t (bool_f h1805)) (ti trivial))) (an (ti (ti trivial)) (an (show (!(decide ((2 : Int) = 0))) = true from (not_t (decide_eq_false (by decide)))) (an e1816 trivial))))))))))) (ti trivial)) (Wv.refl _)
     ·have e1817 := (show (decide ((6 : Int) = 0)) = false from (decide_eq_false (by decide)))
      have e1818 := (ti (ti (ti (an (show (decide ((6 : Int) = 0)) = !true from (decide_eq_false (by decide))) (an (show (decide ((6 : Int) = 0)) = !true from (decide_eq_false (by decide))) (an (show (decide ((6 : Int) = 0)) = !true from (decide_eq_false (by decide))) (an e1817 trivial)))))))
      rcases ifs h with ⟨h1819, h⟩ | ⟨h1819, h⟩
      ·have e1820 := (ti (ti (ti (ti (an (an (decide_eq_true h1819) trivial) (an (an (decide_eq_true h1819) trivial) (an (decide_eq_true h1819) (ti trivial))))))))
       injection h with h; subst h
       exact fun_ok pm pn Go.Proofs.Try.func3 (r0 := vb (decide (r1782.1 = 0))) (ans := [.reg (.n :: []), .reg (.call (vb r1772) :: .n :: []), .br false, .reg (.n :: .call (vb r1775) :: .n :: []), .br false, .reg (arK2_6 r1779 r1782), .reg (.n :: .call (vi r1786) :: .n :: []), .reg (arK2_7 r1779 r1791), .br false, .reg (nN 7 (.call (vb r1796) :: .n :: .b true :: [])), .br true, .reg (.n :: []), .reg (nN 3 (nS 3 (.b false :: []))), .br false, .reg (.n :: .n :: []), .br true, .reg (nN 6 (.b true :: .n :: []))]) (fr := true) (by kernel_rfl) (an (an (ti trivial) (an (an (an (nawake_ok k _ h1773) (ti trivial)) (an (not_f h1774) trivial)) (an (an e1777 (an (not_f h1778) trivial)) (an e1785 (an (ti (an e1788 (ti trivial))) (an (an e1793 (an (not_f (decide_eq_true h1794)) trivial)) (an (an e1799 (an (not_t (bool_f h1800)) (ti trivial))) (an (an e1818 (an rf trivial)) (an (ti (ti trivial)) (an (show (!(decide ((6 : Int) = 0))) = true from (not_t (decide_eq_false (by decide)))) (an e1820 trivial))))))))))) (ti trivial)) (Wv.refl _)
      ·have e1821 := (ti (ti (ti (ti (an (decide_eq_false h1819) (an (decide_eq_false h1819) (an (decide_eq_false h1819) (ti trivial))))))))
       injection h with h; subst h
       exact fun_ok pm pn Go.Proofs.Try.func3 (r0 := vb false) (ans := [.reg (.n :: []), .reg (.call (vb r1772) :: .n :: []), .br false, .reg (.n :: .call (vb r1775) :: .n :: []), .br false, .reg (arK2_6 r1779 r1782), .reg (.n :: .call (vi r1786) :: .n :: []), .reg (arK2_7 r1779 r1791), .br false, .reg (nN 7 (.call (vb r1796) :: .n :: .b true :: [])), .br true, .reg (.n :: []), .reg (nN 3 (nS 3 (.b false :: []))), .br false, .reg (.n :: .n :: []), .br true, .reg (nN 4 (.skip :: .skip :: .b false :: .n :: []))]) (fr := true) (by kernel_rfl) (an (an (ti trivial) (an (an (an (nawake_ok k _ h1773) (ti trivial)) (an (not_f h1774) trivial)) (an (an e1777 (an (not_f h1778) trivial)) (an e1785 (an (ti (an e1788 (ti trivial))) (an (an e1793 (an (not_f (decide_eq_true h1794)) trivial)) (an (an e1799 (an (not_t (bool_f h1800)) (ti trivial))) (an (an e1818 (an rf trivial)) (an (ti (ti trivial)) (an (show (!(decide ((6 : Int) = 0))) = true from (not_t (decide_eq_false (by decide)))) (an e1821 trivial))))))))))) (ti trivial)) (Wv.refl _)
    ·have e1822 := (ti (ti (ti (an (decide_eq_false h1795) (an (decide_eq_false h1795) (an (decide_eq_false h1795) (an (decide_eq_false h1795) (an (decide_eq_false h1795) (an (decide_eq_false h1795) (an (decide_eq_false h1795) trivial))))))))))
     have e1823 := (ti (ti (ti (an (decide_eq_false h1795) (an (decide_eq_false h1795) (an (decide_eq_false h1795) (an (decide_eq_false h1795) trivial)))))))
     rcases ifs h with ⟨h1824, h⟩ | ⟨h1824, h⟩
     ·have e1825 := (ti (ti (ti (ti (an (an (decide_eq_true h1824) trivial) (an (an (decide_eq_true h1824) trivial) (an (decide_eq_true h1824) (ti trivial))))))))
      injection h with h; subst h
      exact fun_ok pm pn Go.Proofs.Try.func3 (r0 := vb (decide (r1782.1 = 0))) (ans := [.reg (.n :: []), .reg (.call (vb r1772) :: .n :: []), .br false, .reg (.n :: .call (vb r1775) :: .n :: []), .br false, .reg (arK2_6 r1779 r1782), .reg (.n :: .call (vi r1786) :: .n :: []), .reg (arK2_7 r1779 r1791), .br false, .reg (nN 3 (nS 6 (.b false :: []))), .br false, .reg (nN 3 (nS 3 (.b false :: []))), .br false, .reg (.n :: .n :: []), .br true, .reg (nN 6 (.b true :: .n :: []))]) (fr := true) (by kernel_rfl) (an (an (ti trivial) (an (an (an (nawake_ok k _ h1773) (ti trivial)) (an (not_f h1774) trivial)) (an (an e1777 (an (not_f h1778) trivial)) (an e1785 (an (ti (an e1788 (ti trivial))) (an (an e1793 (an (not_f (decide_eq_true h1794)) trivial)) (an (an e1822 (an rf trivial)) (an (an e1823 (an rf trivial)) (an (ti (ti trivial)) (an (not_t (decide_eq_false h1795)) (an e1825 trivial))))))))))) (ti trivial)) (Wv.refl _)
     ·have e1826 := (ti (ti (ti (ti (an (decide_eq_false h1824) (an (decide_eq_false h1824) (an (decide_eq_false h1824) (ti trivial))))))))
      injection h with h; subst h
      exact fun_ok pm pn Go.Proofs.Try.func3 (r0 := vb false) (ans := [.reg (.n :: []), .reg (.call (vb r1772) :: .n :: []), .br false, .reg (.n :: .call (vb r1775) :: .n :: []), .br false, .reg (arK2_6 r1779 r1782), .reg (.n :: .call (vi r1786) :: .n :: []), .reg (arK2_7 r1779 r1791), .br false, .reg (nN 3 (nS 6 (.b false :: []))), .br false, .reg (nN 3 (nS 3 (.b false :: []))), .br false, .reg (.n :: .n :: []), .br true, .reg (nN 4 (.skip :: .skip :: .b false :: .n :: []))]) (fr := true) (by kernel_rfl) (an (an (ti trivial) (an (an (an (nawake_ok k _ h1773) (ti trivial)) (an (not_f h1774) trivial)) (an (an e1777 (an (not_f h1778) trivial)) (an e1785 (an (ti (an e1788 (ti trivial))) (an (an e1793 (an (not_f (decide_eq_true h1794)) trivial)) (an (an e1822 (an rf trivial)) (an (an e1823 (an rf trivial)) (an (ti (ti trivial)) (an (not_t (decide_eq_false h1795)) (an e1826 trivial))))))))))) (ti trivial)) (Wv.refl _)
   ·injection h with h; subst h
    exact fun_ok pm pn Go.Proofs.Try.func3 (r0 := vb false) (ans := [.reg (.n :: []), .reg (.call (vb r1772) :: .n :: []), .br false, .reg (.n :: .call (vb r1775) :: .n :: []), .br false, .reg (arK2_6 r1779 r1782), .reg (.n :: .call (vi r1786) :: .n :: []), .reg (arK2_7 r1779 r1791), .br true, .reg (.n :: [])]) (fr := true) (by kernel_rfl) (an (an (ti trivial) (an (an (an (nawake_ok k _ h1773) (ti trivial)) (an (not_f h1774) trivial)) (an (an e1777 (an (not_f h1778) trivial)) (an e1785 (an (ti (an e1788 (ti trivial))) (an e1793 (an (not_t (decide_eq_false h1794)) (an (ti trivial) trivial)))))))) (ti trivial)) (Wv.refl _)
  ·injection h with h; subst h
   exact fun_ok pm pn Go.Proofs.Try.func3 (r0 := vb true) (ans := [.reg (.n :: []), .reg (.call (vb r1772) :: .n :: []), .br false, .reg (.n :: .call (vb r1775) :: .n :: []), .br true, .reg (.n :: [])]) (fr := true) (by kernel_rfl) (an (an (ti trivial) (an (an (an (nawake_ok k _ h1773) (ti trivial)) (an (not_f h1774) trivial)) (an e1777 (an (not_t (bool_f h1778)) (an (ti trivial) trivial))))) (ti trivial)) (Wv.refl _)
 ·injection h with h; subst h
  exact fun_ok pm pn Go.Proofs.Try.func3 (r0 := vb false) (ans := [.reg (.n :: []), .reg (.call (vb r1772) :: .n :: []), .br true, .reg (.n :: [])]) (fr := true) (by kernel_rfl) (an (an (ti trivial) (an (an (nawake_ok k _ h1773) (ti trivial)) (an (not_t (bool_f h1774)) (an (ti trivial) trivial)))) (ti trivial)) (Wv.refl _)
end Go.Proofs.Ytbaegoglpijnnaa.Vg

/- Written by a program out of the program: what Go functions do, as plain functions, and their contracts. -/
import Derived.Test.YtgaopkhkabbcfaaO1
namespace Go.Proofs.Ytgaopkhkabbcfaa.Vg
set_option maxRecDepth 100000
set_option maxHeartbeats 4000000
set_option linter.unusedVariables false
set_option linter.unusedSimpArgs false
open Go Go.Proofs.Ytgaopkhkabbcfaa.Ev Go.Proofs.Ytgaopkhkabbcfaa.Vv
theorem eqO2_0 (z0 : Int) (z1 : Int) : [VV.ag (c_SRange (⟨z0, z1⟩ : SRange))] = [VV.ag [vi z0, vi z1]] := by first | rfl | (simp only [unfr_vi, List.map_cons, List.map_nil, un_i, unfr_c_SRange]; done) | (simp only [unfr_vi, List.map_cons, List.map_nil, un_i, unfr_c_SRange]; rfl) | (simp only [unfr_vi, List.map_cons, List.map_nil, un_i, unfr_c_SRange, c_SRange, List.length_cons, List.length_nil, List.length_append]; done)
theorem eqO2_1  : VV.tu [VV.ag [vi 0, vi 0], vi 11] = VV.tu [VV.ag (c_SRange (⟨0, 0⟩ : SRange)), vi 11] := by first | rfl | (simp only [unfr_vi, List.map_cons, List.map_nil, un_i, unfr_c_SRange]; done) | (simp only [unfr_vi, List.map_cons, List.map_nil, un_i, unfr_c_SRange]; rfl) | (simp only [unfr_vi, List.map_cons, List.map_nil, un_i, unfr_c_SRange, c_SRange, List.length_cons, List.length_nil, List.length_append]; done)
theorem eqO2_2 (z0 : Int) (z1 : Int) : VV.tu [VV.ag [vi z0, vi z1], vi 0] = VV.tu [VV.ag (c_SRange (⟨z0, z1⟩ : SRange)), vi 0] := by first | rfl | (simp only [unfr_vi, List.map_cons, List.map_nil, un_i, unfr_c_SRange]; done) | (simp only [unfr_vi, List.map_cons, List.map_nil, un_i, unfr_c_SRange]; rfl) | (simp only [unfr_vi, List.map_cons, List.map_nil, un_i, unfr_c_SRange, c_SRange, List.length_cons, List.length_nil, List.length_append]; done)
theorem eqO2_3 (z0 : Int) : VV.tu [VV.ag [vi 0, vi 0], vi z0] = VV.tu [VV.ag (c_SRange (⟨0, 0⟩ : SRange)), vi z0] := by first | rfl | (simp only [unfr_vi, List.map_cons, List.map_nil, un_i, unfr_c_SRange]; done) | (simp only [unfr_vi, List.map_cons, List.map_nil, un_i, unfr_c_SRange]; rfl) | (simp only [unfr_vi, List.map_cons, List.map_nil, un_i, unfr_c_SRange, c_SRange, List.length_cons, List.length_nil, List.length_append]; done)
def noptics_Slope (k : Nat) (a0 : SConic) (a1 : Int) : Option (SRange × Int) :=
  (noptics_checkPlace k a0 a1).bind fun r1688 => (if r1688 = 0 then ((noptics_rootOfRadicand k a0 a1).bind fun r1692 => (if r1692.Lo = 0 then (some ((⟨0, 0⟩ : SRange), 11)) else ((noptics_down k (w64 (100000000 * a1)) r1692.Hi).bind fun r1697 => ((noptics_up k (w64 (100000000 * a1)) r1692.Lo).bind fun r1700 => (if a0.Radius < 0 then ((noptics_opposite k (⟨r1697, r1700⟩ : SRange)).bind fun r1705 => (some (r1705, 0))) else (some ((⟨r1697, r1700⟩ : SRange), 0))))))) else (some ((⟨0, 0⟩ : SRange), r1688)))
theorem noptics_Slope_ok (k : Nat) (a0 : SConic) (a1 : Int) (r : (SRange × Int)) (h : noptics_Slope k a0 a1 = some r) : VC Go.Proofs.Try.prog 15 [VV.ag (c_SConic a0), vi a1] (VV.tu [VV.ag (c_SRange r.1), vi r.2]) := by
 unfold noptics_Slope at h
 obtain ⟨r1688, h1689, h⟩ := bs h
 have e1690 := (ti (ti (an (noptics_checkPlace_ok k a0 a1 _ h1689) (ti trivial))))
 rcases ifs h with ⟨h1691, h⟩ | ⟨h1691, h⟩
 ·obtain ⟨r1692, h1693, h⟩ := bs h
  have e1694 := (noptics_rootOfRadicand_ok k a0 a1 _ h1693)
  have e1695 := (ti (ti (an e1694 (ti (ti (ti (ti (ti trivial))))))))
  rcases ifs h with ⟨h1696, h⟩ | ⟨h1696, h⟩
  ·injection h with h; subst h
   exact fun_ok pm pn Go.Proofs.Try.func15 (r0 := VV.tu [VV.ag [vi 0, vi 0], vi 11]) (ans := [.reg (nN 3 []), .reg (.n :: .n :: .call (vi r1688) :: .n :: []), .reg (.n :: .n :: []), .br false, .reg (.n :: .n :: .call (VV.ag (c_SRange r1692)) :: nN 5 []), .reg (nN 3 []), .br true, .reg (nN 3 [])]) (fr := true) (by kernel_rfl) (an (an (ti (ti (ti trivial))) (an (an e1690 (an (ti (ti trivial)) (an (not_f (decide_eq_true h1691)) trivial))) (an e1695 (an (ti (ti (ti trivial))) (an (decide_eq_true h1696) (an (ti (ti (ti trivial))) trivial)))))) (an (ti (ti (ti trivial))) (ti trivial))) (Wv.of_eq eqO2_1)
  ·obtain ⟨r1697, h1698, h⟩ := bs h
   have e1699 := (noptics_down_ok k (w64 (100000000 * a1)) r1692.Hi _ h1698)
   obtain ⟨r1700, h1701, h⟩ := bs h
   have e1702 := (noptics_up_ok k (w64 (100000000 * a1)) r1692.Lo _ h1701)
   have e1703 := (ti (ti (ti (an e1699 (ti (ti (ti (an e1702 (ti (ti (ti trivial)))))))))))
   rcases ifs h with ⟨h1704, h⟩ | ⟨h1704, h⟩
   ·obtain ⟨r1705, h1706, h⟩ := bs h
    have e1707 := (VC.args (noptics_opposite_ok k (⟨r1697, r1700⟩ : SRange) _ h1706) (eqO2_0 r1697 r1700))
    injection h with h; subst h
    exact fun_ok pm pn Go.Proofs.Try.func15 (r0 := VV.tu [VV.ag (c_SRange r1705), vi 0]) (ans := [.reg (nN 3 []), .reg (.n :: .n :: .call (vi r1688) :: .n :: []), .reg (.n :: .n :: []), .br false, .reg (.n :: .n :: .call (VV.ag (c_SRange r1692)) :: nN 5 []), .reg (nN 3 []), .br false, .reg (nN 3 (.call (vi r1697) :: nN 3 (.call (vi r1700) :: nN 3 []))), .reg (nN 3 []), .br true, .reg (.n :: .call (VV.ag (c_SRange r1705)) :: .n :: []), .reg (nN 3 [])]) (fr := true) (by kernel_rfl) (an (an (ti (ti (ti trivial))) (an (an e1690 (an (ti (ti trivial)) (an (not_f (decide_eq_true h1691)) trivial))) (an e1695 (an (an (ti (ti (ti trivial))) (an (decide_eq_false h1696) trivial)) (an e1703 (an (an (ti (ti (ti trivial))) (an (decide_eq_true h1704) (ti (an e1707 (ti trivial))))) (an (ti (ti (ti trivial))) trivial))))))) (an (ti (ti (ti trivial))) (ti trivial))) (Wv.refl _)
   ·injection h with h; subst h
    exact fun_ok pm pn Go.Proofs.Try.func15 (r0 := VV.tu [VV.ag [vi r1697, vi r1700], vi 0]) (ans := [.reg (nN 3 []), .reg (.n :: .n :: .call (vi r1688) :: .n :: []), .reg (.n :: .n :: []), .br false, .reg (.n :: .n :: .call (VV.ag (c_SRange r1692)) :: nN 5 []), .reg (nN 3 []), .br false, .reg (nN 3 (.call (vi r1697) :: nN 3 (.call (vi r1700) :: nN 3 []))), .reg (nN 3 []), .br false, .reg (nN 3 [])]) (fr := true) (by kernel_rfl) (an (an (ti (ti (ti trivial))) (an (an e1690 (an (ti (ti trivial)) (an (not_f (decide_eq_true h1691)) trivial))) (an e1695 (an (an (ti (ti (ti trivial))) (an (decide_eq_false h1696) trivial)) (an e1703 (an (an (ti (ti (ti trivial))) (an (decide_eq_false h1704) trivial)) (an (ti (ti (ti trivial))) trivial))))))) (an (ti (ti (ti trivial))) (ti trivial))) (Wv.of_eq (eqO2_2 r1697 r1700))
 ·injection h with h; subst h
  exact fun_ok pm pn Go.Proofs.Try.func15 (r0 := VV.tu [VV.ag [vi 0, vi 0], vi r1688]) (ans := [.reg (nN 3 []), .reg (.n :: .n :: .call (vi r1688) :: .n :: []), .reg (.n :: .n :: []), .br true, .reg (nN 4 [])]) (fr := true) (by kernel_rfl) (an (an (ti (ti (ti trivial))) (an e1690 (an (ti (ti trivial)) (an (not_t (decide_eq_false h1691)) (an (ti (ti (ti (ti trivial)))) trivial))))) (an (ti (ti (ti trivial))) (ti trivial))) (Wv.of_eq (eqO2_3 r1688))
def nspeculumbase_Within (k : Nat) (a0 : Int) (a1 : Int) (a2 : Int) : Option Bool :=
  if a1 ≤ a0 then (some (decide (a0 ≤ a2))) else (some false)
theorem nspeculumbase_Within_ok (k : Nat) (a0 : Int) (a1 : Int) (a2 : Int) (r : Bool) (h : nspeculumbase_Within k a0 a1 a2 = some r) : VC Go.Proofs.Try.prog 24 [vi a0, vi a1, vi a2] (vb r) := by
 unfold nspeculumbase_Within at h
 rcases ifs h with ⟨h1713, h⟩ | ⟨h1713, h⟩
 ·have e1714 := (ti (ti (ti (ti (an (an (decide_eq_true h1713) trivial) (an (an (decide_eq_true h1713) trivial) (an (an (decide_eq_true h1713) trivial) (an (decide_eq_true h1713) (ti trivial)))))))))
  injection h with h; subst h
  exact fun_ok pm pn Go.Proofs.Try.func24 (r0 := vb (decide (a0 ≤ a2))) (ans := [.reg (.n :: []), .reg (nN 7 (.b true :: .n :: []))]) (fr := true) (by kernel_rfl) (an (an (ti trivial) (an e1714 trivial)) (ti trivial)) (Wv.refl _)
 ·have e1715 := (ti (ti (ti (ti (an (decide_eq_false h1713) (an (decide_eq_false h1713) (an (decide_eq_false h1713) (an (decide_eq_false h1713) (ti trivial)))))))))
  injection h with h; subst h
  exact fun_ok pm pn Go.Proofs.Try.func24 (r0 := vb false) (ans := [.reg (.n :: []), .reg (nN 4 (nS 3 (.b false :: .n :: [])))]) (fr := true) (by kernel_rfl) (an (an (ti trivial) (an e1715 trivial)) (ti trivial)) (Wv.refl _)
def nspeculumbase_Abs (k : Nat) (a0 : Int) : Option Int :=
  if a0 < 0 then (some (w64 (0 - a0))) else (some a0)
theorem nspeculumbase_Abs_ok (k : Nat) (a0 : Int) (r : Int) (h : nspeculumbase_Abs k a0 = some r) : VC Go.Proofs.Try.prog 81 [vi a0] (vi r) := by
 unfold nspeculumbase_Abs at h
 rcases ifs h with ⟨h1732, h⟩ | ⟨h1732, h⟩
 ·injection h with h; subst h
  exact fun_ok pm pn Go.Proofs.Try.func81 (r0 := vi (w64 (0 - a0))) (ans := [.reg (.n :: []), .reg (.n :: .n :: []), .br true, .reg (nN 3 [])]) (fr := true) (by kernel_rfl) (an (an (ti trivial) (an (ti (ti trivial)) (an (decide_eq_true h1732) (an (ti (ti (ti trivial))) trivial)))) (ti trivial)) (Wv.refl _)
 ·injection h with h; subst h
  exact fun_ok pm pn Go.Proofs.Try.func81 (r0 := vi a0) (ans := [.reg (.n :: []), .reg (.n :: .n :: []), .br false, .reg (.n :: .n :: [])]) (fr := true) (by kernel_rfl) (an (an (ti trivial) (an (an (ti (ti trivial)) (an (decide_eq_false h1732) trivial)) (an (ti (ti trivial)) trivial))) (ti trivial)) (Wv.refl _)
def nspeculumbase_Gcd_l0_0_h  (x0 : Int) (x1 : Int) : VS := ⟨mkA [(0, vi x0), (1, vi x1)], [], .nil⟩
def nspeculumbase_Gcd_l0_0_e0  (r : Int) : VS := ⟨mkA [(0, vi r)], [], .nil⟩
def nspeculumbase_Gcd_l0_0 (k : Nat)  : Nat → Int → Int → Option (Int)
  | 0, _, _ => none
  | fuel + 1, x0, x1 => if x1 = 0 then (some x0) else (if x1 ≠ 0 then (nspeculumbase_Gcd_l0_0 k  fuel x1 (x0.tmod x1)) else none)
theorem nspeculumbase_Gcd_l0_0_ok (k : Nat)  : ∀ (fuel : Nat) (x0 : Int) (x1 : Int) (r : Int), nspeculumbase_Gcd_l0_0 k  fuel x0 x1 = some r → (VLoop none Go.Proofs.Try.prog (szF Go.Proofs.Try.f54) (bodyOf Go.Proofs.Try.f54 0) (nspeculumbase_Gcd_l0_0_h  x0 x1) (.exit 0) (nspeculumbase_Gcd_l0_0_e0  r)) := by
 intro fuel
 induction fuel with
 | zero => intro x0 x1 r h; rw [nspeculumbase_Gcd_l0_0.eq_1] at h; cases h
 | succ fuel ih =>
  intro x0 x1 r h
  rw [nspeculumbase_Gcd_l0_0.eq_2] at h
  rcases ifs h with ⟨h1740, h⟩ | ⟨h1740, h⟩
  ·injection h with h; subst h
   exact round_stop (c := ⟨[(0, none)], [], []⟩) (s1 := (nspeculumbase_Gcd_l0_0_e0  x0)) pm pn (ans := [.reg (.n :: .n :: []), .br false]) (by kernel_rfl) (by intro e; cases e) (an (an (ti (ti trivial)) (an (not_f (decide_eq_true h1740)) trivial)) (ti trivial))
  ·obtain ⟨h1741, h⟩ := ifn h
   have h2 := ih _ _ _ h
   obtain ⟨q, hv, hq⟩ := pkR (rd := none) (P := Go.Proofs.Try.prog) (fn := Go.Proofs.Try.f54) (k := 0) (s := (nspeculumbase_Gcd_l0_0_h  x0 x1)) (ans := [.reg (.n :: .n :: []), .br true, .reg (nN 6 [])]) (c := ⟨[(0, none), (1, none)], [], []⟩) (e := .normal) (s1 := (nspeculumbase_Gcd_l0_0_h  x1 (x0.tmod x1))) (an (an (an (ti (ti trivial)) (an (not_t (decide_eq_false h1740)) trivial)) (ti (ti (ti (an h1741 (ti (ti trivial))))))) (ti trivial)) (by kernel_rfl)
   exact round_next pm pn hv hq h2
def nspeculumbase_Gcd (k : Nat) (a0 : Int) (a1 : Int) : Option Int :=
  (nspeculumbase_Gcd_l0_0 k k a0 a1).bind fun r1743 => ((nspeculumbase_Abs k r1743).bind fun r1745 => (some r1745))
theorem nspeculumbase_Gcd_ok (k : Nat) (a0 : Int) (a1 : Int) (r : Int) (h : nspeculumbase_Gcd k a0 a1 = some r) : VC Go.Proofs.Try.prog 54 [vi a0, vi a1] (vi r) := by
 unfold nspeculumbase_Gcd at h
 obtain ⟨r1743, h1742, h⟩ := bs h
 have hph1742 := nspeculumbase_Gcd_l0_0_ok k  _ _ _ _ h1742
 have e1744 := (an (ti trivial) (VRun.loop hph1742))
 obtain ⟨r1745, h1746, h⟩ := bs h
 have e1747 := (ti (an (nspeculumbase_Abs_ok k r1743 _ h1746) (ti trivial)))
 injection h with h; subst h
 exact fun_ok pm pn Go.Proofs.Try.func54 (r0 := vi r1745) (ans := [.reg (.n :: []), .sub ⟨[(0, none), (1, none)], [], []⟩ (.exit 0) (nspeculumbase_Gcd_l0_0_e0  r1743), .reg (.n :: .call (vi r1745) :: .n :: [])]) (fr := true) (by kernel_rfl) (an (an (ti trivial) (an e1744 (an e1747 trivial))) (ti trivial)) (Wv.refl _)
def nspeculumbase_IsLowest (k : Nat) (a0 : SFrac) : Option Bool :=
  if 0 < a0.Den then ((nspeculumbase_Gcd k a0.Num a0.Den).bind fun r1754 => (some (decide (r1754 = 1)))) else (some false)
theorem nspeculumbase_IsLowest_ok (k : Nat) (a0 : SFrac) (r : Bool) (h : nspeculumbase_IsLowest k a0 = some r) : VC Go.Proofs.Try.prog 40 [VV.ag (c_SFrac a0)] (vb r) := by
 unfold nspeculumbase_IsLowest at h
 rcases ifs h with ⟨h1753, h⟩ | ⟨h1753, h⟩
 ·obtain ⟨r1754, h1755, h⟩ := bs h
  have e1756 := (an (decide_eq_true h1753) (nspeculumbase_Gcd_ok k a0.Num a0.Den _ h1755))
  have e1757 := (ti (ti (ti (ti (an (an (decide_eq_true h1753) trivial) (an (an (decide_eq_true h1753) trivial) (an (an (decide_eq_true h1753) trivial) (an (an (decide_eq_true h1753) trivial) (an e1756 (an (an (decide_eq_true h1753) trivial) (an (decide_eq_true h1753) (ti trivial))))))))))))
  injection h with h; subst h
  exact fun_ok pm pn Go.Proofs.Try.func40 (r0 := vb (decide (r1754 = 1))) (ans := [.reg (.n :: .n :: []), .reg (nN 8 (.call (vi r1754) :: .n :: .b true :: .n :: []))]) (fr := true) (by kernel_rfl) (an (an (ti (ti trivial)) (an e1757 trivial)) (ti trivial)) (Wv.refl _)
 ·have e1758 := (ti (ti (ti (ti (an (decide_eq_false h1753) (an (decide_eq_false h1753) (an (decide_eq_false h1753) (an (decide_eq_false h1753) (an (decide_eq_false h1753) (an (decide_eq_false h1753) (an (decide_eq_false h1753) (ti trivial))))))))))))
  injection h with h; subst h
  exact fun_ok pm pn Go.Proofs.Try.func40 (r0 := vb false) (ans := [.reg (.n :: .n :: []), .reg (nN 4 (nS 6 (.b false :: .n :: [])))]) (fr := true) (by kernel_rfl) (an (an (ti (ti trivial)) (an e1758 trivial)) (ti trivial)) (Wv.refl _)
def nspeculumref02_CheckConic (k : Nat) (a0 : SConic) : Option Int :=
  if a0.Radius = 0 then (some 2) else ((nspeculumbase_Within k a0.Radius (-10000000) 10000000).bind fun r1772 => (if r1772 = true then ((nspeculumbase_IsLowest k a0.K).bind fun r1777 => (if r1777 = true then ((nspeculumbase_Within k a0.K.Num (-100) 100).bind fun r1781 => (if r1781 = true then (if 100 < a0.K.Den then (some 2) else (some 0)) else (some 2))) else (some 3))) else (some 2)))
theorem nspeculumref02_CheckConic_ok (k : Nat) (a0 : SConic) (r : Int) (h : nspeculumref02_CheckConic k a0 = some r) : VC Go.Proofs.Try.prog 11 [VV.ag (c_SConic a0)] (vi r) := by
 unfold nspeculumref02_CheckConic at h
 rcases ifs h with ⟨h1770, h⟩ | ⟨h1770, h⟩
 ·have e1771 := (ti (ti (ti (ti (an (decide_eq_true h1770) (an (decide_eq_true h1770) (an (decide_eq_true h1770) (an (decide_eq_true h1770) (an (decide_eq_true h1770) trivial)))))))))
  injection h with h; subst h
  exact fun_ok pm pn Go.Proofs.Try.func11 (r0 := vi 2) (ans := [.reg (.n :: .n :: []), .reg (nN 4 (nS 4 (.b true :: []))), .br true, .reg (.n :: [])]) (fr := true) (by kernel_rfl) (an (an (ti (ti trivial)) (an e1771 (an rt (an (ti trivial) trivial)))) (ti trivial)) (Wv.refl _)
 ·obtain ⟨r1772, h1773, h⟩ := bs h
  have e1774 := (an (decide_eq_false h1770) (nspeculumbase_Within_ok k a0.Radius (-10000000) 10000000 _ h1773))
  have e1775 := (ti (ti (ti (ti (an (an (decide_eq_false h1770) trivial) (an (an (decide_eq_false h1770) trivial) (an e1774 (an (an (decide_eq_false h1770) trivial) (an (decide_eq_false h1770) trivial)))))))))
  rcases ifs h with ⟨h1776, h⟩ | ⟨h1776, h⟩
  ·obtain ⟨r1777, h1778, h⟩ := bs h
   have e1779 := (nspeculumbase_IsLowest_ok k a0.K _ h1778)
   rcases ifs h with ⟨h1780, h⟩ | ⟨h1780, h⟩
   ·obtain ⟨r1781, h1782, h⟩ := bs h
    have e1783 := (nspeculumbase_Within_ok k a0.K.Num (-100) 100 _ h1782)
    rcases ifs h with ⟨h1784, h⟩ | ⟨h1784, h⟩
    ·have e1785 := (ti (ti (ti (an e1783 (ti (ti (an (an (not_f h1784) trivial) (an (an (not_f h1784) trivial) (an (an (not_f h1784) trivial) (an (an (not_f h1784) trivial) (an (not_f h1784) trivial)))))))))))
     rcases ifs h with ⟨h1786, h⟩ | ⟨h1786, h⟩
     ·injection h with h; subst h
      exact fun_ok pm pn Go.Proofs.Try.func11 (r0 := vi 2) (ans := [.reg (.n :: .n :: []), .reg (nN 6 (.call (vb r1772) :: .n :: .b false :: [])), .br false, .reg (.n :: .n :: .call (vb r1777) :: .n :: []), .br false, .reg (nN 3 (.call (vb r1781) :: nN 6 (.b false :: []))), .br true, .reg (.n :: [])]) (fr := true) (by kernel_rfl) (an (an (ti (ti trivial)) (an (an e1775 (an (not_f h1776) trivial)) (an (an (ti (ti (an e1779 (ti trivial)))) (an (not_f h1780) trivial)) (an e1785 (an (decide_eq_true h1786) (an (ti trivial) trivial)))))) (ti trivial)) (Wv.refl _)
     ·injection h with h; subst h
      exact fun_ok pm pn Go.Proofs.Try.func11 (r0 := vi 0) (ans := [.reg (.n :: .n :: []), .reg (nN 6 (.call (vb r1772) :: .n :: .b false :: [])), .br false, .reg (.n :: .n :: .call (vb r1777) :: .n :: []), .br false, .reg (nN 3 (.call (vb r1781) :: nN 6 (.b false :: []))), .br false, .reg (.n :: [])]) (fr := true) (by kernel_rfl) (an (an (ti (ti trivial)) (an (an e1775 (an (not_f h1776) trivial)) (an (an (ti (ti (an e1779 (ti trivial)))) (an (not_f h1780) trivial)) (an (an e1785 (an (decide_eq_false h1786) trivial)) (an (ti trivial) trivial))))) (ti trivial)) (Wv.refl _)
    ·have e1787 := (ti (ti (ti (an e1783 (ti (ti (an (not_t (bool_f h1784)) (an (not_t (bool_f h1784)) (an (not_t (bool_f h1784)) (an (not_t (bool_f h1784)) (an (not_t (bool_f h1784)) trivial)))))))))))
     injection h with h; subst h
     exact fun_ok pm pn Go.Proofs.Try.func11 (r0 := vi 2) (ans := [.reg (.n :: .n :: []), .reg (nN 6 (.call (vb r1772) :: .n :: .b false :: [])), .br false, .reg (.n :: .n :: .call (vb r1777) :: .n :: []), .br false, .reg (nN 3 (.call (vb r1781) :: .n :: .n :: nS 4 (.b true :: []))), .br true, .reg (.n :: [])]) (fr := true) (by kernel_rfl) (an (an (ti (ti trivial)) (an (an e1775 (an (not_f h1776) trivial)) (an (an (ti (ti (an e1779 (ti trivial)))) (an (not_f h1780) trivial)) (an e1787 (an rt (an (ti trivial) trivial)))))) (ti trivial)) (Wv.refl _)
   ·injection h with h; subst h
    exact fun_ok pm pn Go.Proofs.Try.func11 (r0 := vi 3) (ans := [.reg (.n :: .n :: []), .reg (nN 6 (.call (vb r1772) :: .n :: .b false :: [])), .br false, .reg (.n :: .n :: .call (vb r1777) :: .n :: []), .br true, .reg (.n :: [])]) (fr := true) (by kernel_rfl) (an (an (ti (ti trivial)) (an (an e1775 (an (not_f h1776) trivial)) (an (ti (ti (an e1779 (ti trivial)))) (an (not_t (bool_f h1780)) (an (ti trivial) trivial))))) (ti trivial)) (Wv.refl _)
  ·injection h with h; subst h
   exact fun_ok pm pn Go.Proofs.Try.func11 (r0 := vi 2) (ans := [.reg (.n :: .n :: []), .reg (nN 6 (.call (vb r1772) :: .n :: .b false :: [])), .br true, .reg (.n :: [])]) (fr := true) (by kernel_rfl) (an (an (ti (ti trivial)) (an e1775 (an (not_t (bool_f h1776)) (an (ti trivial) trivial)))) (ti trivial)) (Wv.refl _)
def nspeculumref02_OnePlus (k : Nat) (a0 : SConic) : Option (Int × Int) :=
  some (w64 (a0.K.Num + a0.K.Den), a0.K.Den)
theorem nspeculumref02_OnePlus_ok (k : Nat) (a0 : SConic) (r : (Int × Int)) (h : nspeculumref02_OnePlus k a0 = some r) : VC Go.Proofs.Try.prog 53 [VV.ag (c_SConic a0)] (VV.tu [vi r.1, vi r.2]) := by
 unfold nspeculumref02_OnePlus at h
 have e1793 := (ti (ti (ti (ti (ti (ti (ti (ti (ti (ti (ti (ti trivial))))))))))))
 injection h with h; subst h
 exact fun_ok pm pn Go.Proofs.Try.func53 (r0 := VV.tu [vi (w64 (a0.K.Num + a0.K.Den)), vi a0.K.Den]) (ans := [.reg (nN 3 []), .reg (nN 12 [])]) (fr := true) (by kernel_rfl) (an (an (ti (ti (ti trivial))) (an e1793 trivial)) (ti (ti trivial))) (Wv.refl _)
def nspeculumref02_Beyond (k : Nat) (a0 : SConic) (a1 : Int) : Option Bool :=
  (nspeculumref02_OnePlus k a0).bind fun r1798 => (some (decide ((w64 ((w64 (r1798.2 * a0.Radius)) * a0.Radius)) < (w64 ((w64 (r1798.1 * a1)) * a1)))))
theorem nspeculumref02_Beyond_ok (k : Nat) (a0 : SConic) (a1 : Int) (r : Bool) (h : nspeculumref02_Beyond k a0 a1 = some r) : VC Go.Proofs.Try.prog 28 [VV.ag (c_SConic a0), vi a1] (vb r) := by
 unfold nspeculumref02_Beyond at h
 obtain ⟨r1798, h1799, h⟩ := bs h
 have e1800 := (nspeculumref02_OnePlus_ok k a0 _ h1799)
 have e1801 := (ti (ti (ti (ti (ti (ti (ti (ti (ti (ti (ti (ti (ti (ti trivial))))))))))))))
 injection h with h; subst h
 exact fun_ok pm pn Go.Proofs.Try.func28 (r0 := vb (decide ((w64 ((w64 (r1798.2 * a0.Radius)) * a0.Radius)) < (w64 ((w64 (r1798.1 * a1)) * a1))))) (ans := [.reg (.n :: .n :: []), .reg (.n :: .call (VV.tu [vi r1798.1, vi r1798.2]) :: nN 5 []), .reg (nN 14 [])]) (fr := true) (by kernel_rfl) (an (an (ti (ti trivial)) (an (ti (an e1800 (ti (ti (ti (ti (ti trivial))))))) (an e1801 trivial))) (ti trivial)) (Wv.refl _)
def nspeculumref02_place (k : Nat) (a0 : SConic) (a1 : Int) : Option Int :=
  (nspeculumbase_Within k a1 0 1000000).bind fun r1806 => (if r1806 = true then ((nspeculumref02_Beyond k a0 a1).bind fun r1810 => (if r1810 = true then (some 12) else (some 0))) else (some 2))
theorem nspeculumref02_place_ok (k : Nat) (a0 : SConic) (a1 : Int) (r : Int) (h : nspeculumref02_place k a0 a1 = some r) : VC Go.Proofs.Try.prog 48 [VV.ag (c_SConic a0), vi a1] (vi r) := by
 unfold nspeculumref02_place at h
 obtain ⟨r1806, h1807, h⟩ := bs h
 have e1808 := (nspeculumbase_Within_ok k a1 0 1000000 _ h1807)
 rcases ifs h with ⟨h1809, h⟩ | ⟨h1809, h⟩
 ·obtain ⟨r1810, h1811, h⟩ := bs h
  have e1812 := (nspeculumref02_Beyond_ok k a0 a1 _ h1811)
  rcases ifs h with ⟨h1813, h⟩ | ⟨h1813, h⟩
  ·injection h with h; subst h
   exact fun_ok pm pn Go.Proofs.Try.func48 (r0 := vi 12) (ans := [.reg (.n :: .n :: []), .reg (.n :: .call (vb r1806) :: .n :: []), .br false, .reg (.n :: .n :: .call (vb r1810) :: []), .br true, .reg (.n :: [])]) (fr := true) (by kernel_rfl) (an (an (ti (ti trivial)) (an (an (ti (an e1808 (ti trivial))) (an (not_f h1809) trivial)) (an (ti (ti (an e1812 trivial))) (an h1813 (an (ti trivial) trivial))))) (ti trivial)) (Wv.refl _)
  ·injection h with h; subst h
   exact fun_ok pm pn Go.Proofs.Try.func48 (r0 := vi 0) (ans := [.reg (.n :: .n :: []), .reg (.n :: .call (vb r1806) :: .n :: []), .br false, .reg (.n :: .n :: .call (vb r1810) :: []), .br false, .reg (.n :: [])]) (fr := true) (by kernel_rfl) (an (an (ti (ti trivial)) (an (an (ti (an e1808 (ti trivial))) (an (not_f h1809) trivial)) (an (an (ti (ti (an e1812 trivial))) (an (bool_f h1813) trivial)) (an (ti trivial) trivial)))) (ti trivial)) (Wv.refl _)
 ·injection h with h; subst h
  exact fun_ok pm pn Go.Proofs.Try.func48 (r0 := vi 2) (ans := [.reg (.n :: .n :: []), .reg (.n :: .call (vb r1806) :: .n :: []), .br true, .reg (.n :: [])]) (fr := true) (by kernel_rfl) (an (an (ti (ti trivial)) (an (ti (an e1808 (ti trivial))) (an (not_t (bool_f h1809)) (an (ti trivial) trivial)))) (ti trivial)) (Wv.refl _)
theorem eqO2_4 (z0 : SConic) (z1 : Int) : [VV.ag (c_SConic (⟨w64 (0 - z0.Radius), z0.K⟩ : SConic)), vi z1] = [VV.ag [vi (w64 (0 - z0.Radius)), vi z0.K.Num, vi z0.K.Den], vi z1] := by first | rfl | (simp only [unfr_vi, List.map_cons, List.map_nil, un_i, unfr_c_SConic]; done) | (simp only [unfr_vi, List.map_cons, List.map_nil, un_i, unfr_c_SConic]; rfl) | (simp only [unfr_vi, List.map_cons, List.map_nil, un_i, unfr_c_SConic, c_SConic, List.length_cons, List.length_nil, List.length_append]; done)
theorem eqO2_5 (z0 : SRange) : VV.ag [vi (w64 (0 - z0.Hi)), vi (w64 (0 - z0.Lo))] = VV.ag (c_SRange (⟨w64 (0 - z0.Hi), w64 (0 - z0.Lo)⟩ : SRange)) := by first | rfl | (simp only [unfr_vi, List.map_cons, List.map_nil, un_i, unfr_c_SRange]; done) | (simp only [unfr_vi, List.map_cons, List.map_nil, un_i, unfr_c_SRange]; rfl) | (simp only [unfr_vi, List.map_cons, List.map_nil, un_i, unfr_c_SRange, c_SRange, List.length_cons, List.length_nil, List.length_append]; done)
def nspeculumref02_Opposite (k : Nat) (a0 : SRange) : Option SRange :=
  some (⟨w64 (0 - a0.Hi), w64 (0 - a0.Lo)⟩ : SRange)
theorem nspeculumref02_Opposite_ok (k : Nat) (a0 : SRange) (r : SRange) (h : nspeculumref02_Opposite k a0 = some r) : VC Go.Proofs.Try.prog 49 [VV.ag (c_SRange a0)] (VV.ag (c_SRange r)) := by
 unfold nspeculumref02_Opposite at h
 injection h with h; subst h
 exact fun_ok pm pn Go.Proofs.Try.func49 (r0 := VV.ag [vi (w64 (0 - a0.Hi)), vi (w64 (0 - a0.Lo))]) (ans := [.reg (.n :: .n :: []), .reg (nN 8 [])]) (fr := true) (by kernel_rfl) (an (an (ti (ti trivial)) (an (ti (ti (ti (ti (ti (ti (ti (ti trivial)))))))) trivial)) (an (ti (ti (ti trivial))) trivial)) (Wv.of_eq (eqO2_5 a0))
def nspeculumbase_Floor (k : Nat) (a0 : Int) (a1 : Int) : Option Int :=
  if a1 ≠ 0 then (if (a0.tmod a1) < 0 then (some (w64 ((w64 (a0.tdiv a1)) - 1))) else (some (w64 (a0.tdiv a1)))) else none
theorem nspeculumbase_Floor_ok (k : Nat) (a0 : Int) (a1 : Int) (r : Int) (h : nspeculumbase_Floor k a0 a1 = some r) : VC Go.Proofs.Try.prog 51 [vi a0, vi a1] (vi r) := by
 unfold nspeculumbase_Floor at h
 obtain ⟨h1837, h⟩ := ifn h
 rcases ifs h with ⟨h1838, h⟩ | ⟨h1838, h⟩
 ·injection h with h; subst h
  exact fun_ok pm pn Go.Proofs.Try.func51 (r0 := vi (w64 ((w64 (a0.tdiv a1)) - 1))) (ans := [.reg (.n :: []), .reg (nN 4 []), .reg (nN 4 []), .br true, .reg (nN 3 []), .reg (.n :: .n :: [])]) (fr := true) (by kernel_rfl) (an (an (ti trivial) (an (ti (ti (an h1837 (ti trivial)))) (an (an (ti (ti (an h1837 (ti trivial)))) (an (decide_eq_true h1838) (ti (ti (ti trivial))))) (an (ti (ti trivial)) trivial)))) (ti trivial)) (Wv.refl _)
 ·injection h with h; subst h
  exact fun_ok pm pn Go.Proofs.Try.func51 (r0 := vi (w64 (a0.tdiv a1))) (ans := [.reg (.n :: []), .reg (nN 4 []), .reg (nN 4 []), .br false, .reg (.n :: .n :: [])]) (fr := true) (by kernel_rfl) (an (an (ti trivial) (an (ti (ti (an h1837 (ti trivial)))) (an (an (ti (ti (an h1837 (ti trivial)))) (an (decide_eq_false h1838) trivial)) (an (ti (ti trivial)) trivial)))) (ti trivial)) (Wv.refl _)
def nspeculumbase_Ceil (k : Nat) (a0 : Int) (a1 : Int) : Option Int :=
  (nspeculumbase_Floor k (w64 (0 - a0)) a1).bind fun r1842 => (some (w64 (0 - r1842)))
theorem nspeculumbase_Ceil_ok (k : Nat) (a0 : Int) (a1 : Int) (r : Int) (h : nspeculumbase_Ceil k a0 a1 = some r) : VC Go.Proofs.Try.prog 26 [vi a0, vi a1] (vi r) := by
 unfold nspeculumbase_Ceil at h
 obtain ⟨r1842, h1843, h⟩ := bs h
 have e1844 := (nspeculumbase_Floor_ok k (w64 (0 - a0)) a1 _ h1843)
 injection h with h; subst h
 exact fun_ok pm pn Go.Proofs.Try.func26 (r0 := vi (w64 (0 - r1842))) (ans := [.reg (.n :: []), .reg (nN 3 (.call (vi r1842) :: .n :: .n :: []))]) (fr := true) (by kernel_rfl) (an (an (ti trivial) (an (ti (ti (ti (an e1844 (ti (ti trivial)))))) trivial)) (ti trivial)) (Wv.refl _)
def nspeculumref02_Root_l0_0_h (a0 : Int) (x3 : Int) (x4 : Int) : VS := ⟨mkA [(0, vi a0), (2, VV.pt 0 0), (3, vi x3), (4, vi x4)], [some ⟨true, 1, [vi 0, vi 0]⟩], .nil⟩
def nspeculumref02_Root_l0_0_e0 (a0 : Int) (r : Int) : VS := ⟨mkA [(0, vi a0), (2, VV.pt 0 0), (3, vi r)], [some ⟨true, 1, [vi 0, vi 0]⟩], .nil⟩
def nspeculumref02_Root_l0_0 (k : Nat) (a0 : Int) : Nat → Int → Int → Option (Int)
  | 0, _, _ => none
  | fuel + 1, x3, x4 => if x3 < x4 then (if (w64 ((w64 ((w64 ((w64 (x3 + x4)) + 1)).tdiv 2)) * (w64 ((w64 ((w64 (x3 + x4)) + 1)).tdiv 2)))) ≤ a0 then (nspeculumref02_Root_l0_0 k a0 fuel (w64 ((w64 ((w64 (x3 + x4)) + 1)).tdiv 2)) x4) else (nspeculumref02_Root_l0_0 k a0 fuel x3 (w64 ((w64 ((w64 ((w64 (x3 + x4)) + 1)).tdiv 2)) - 1)))) else (some x3)
theorem nspeculumref02_Root_l0_0_ok (k : Nat) (a0 : Int) : ∀ (fuel : Nat) (x3 : Int) (x4 : Int) (r : Int), nspeculumref02_Root_l0_0 k a0 fuel x3 x4 = some r → (VLoop none Go.Proofs.Try.prog (szF Go.Proofs.Try.f80) (bodyOf Go.Proofs.Try.f80 0) (nspeculumref02_Root_l0_0_h a0 x3 x4) (.exit 0) (nspeculumref02_Root_l0_0_e0 a0 r)) := by
 intro fuel
 induction fuel with
 | zero => intro x3 x4 r h; rw [nspeculumref02_Root_l0_0.eq_1] at h; cases h
 | succ fuel ih =>
  intro x3 x4 r h
  rw [nspeculumref02_Root_l0_0.eq_2] at h
  rcases ifs h with ⟨h1865, h⟩ | ⟨h1865, h⟩
  ·have e1866 := (ti (ti (ti (ti (an (show (2 : Int) ≠ 0 from (by decide)) (ti trivial))))))
   rcases ifs h with ⟨h1867, h⟩ | ⟨h1867, h⟩
   ·have h2 := ih _ _ _ h
    obtain ⟨q, hv, hq⟩ := pkR (rd := none) (P := Go.Proofs.Try.prog) (fn := Go.Proofs.Try.f80) (k := 0) (s := (nspeculumref02_Root_l0_0_h a0 x3 x4)) (ans := [.reg (nN 3 []), .br true, .reg (nN 6 []), .reg (nN 5 []), .br true, .reg (.n :: .n :: [])]) (c := ⟨[(0, none), (2, none), (3, none), (4, none)], [none], []⟩) (e := .normal) (s1 := (nspeculumref02_Root_l0_0_h a0 (w64 ((w64 ((w64 (x3 + x4)) + 1)).tdiv 2)) x4)) (an (an (an (ti (ti (ti trivial))) (an (decide_eq_true h1865) trivial)) (an e1866 (an (ti (ti (ti (ti (ti trivial))))) (an (decide_eq_true h1867) (ti (ti trivial)))))) (ti trivial)) (by kernel_rfl)
    exact round_next pm pn hv hq h2
   ·have h2 := ih _ _ _ h
    obtain ⟨q, hv, hq⟩ := pkR (rd := none) (P := Go.Proofs.Try.prog) (fn := Go.Proofs.Try.f80) (k := 0) (s := (nspeculumref02_Root_l0_0_h a0 x3 x4)) (ans := [.reg (nN 3 []), .br true, .reg (nN 6 []), .reg (nN 5 []), .br false, .reg (nN 3 [])]) (c := ⟨[(0, none), (2, none), (3, none), (4, none)], [none], []⟩) (e := .normal) (s1 := (nspeculumref02_Root_l0_0_h a0 x3 (w64 ((w64 ((w64 ((w64 (x3 + x4)) + 1)).tdiv 2)) - 1)))) (an (an (an (ti (ti (ti trivial))) (an (decide_eq_true h1865) trivial)) (an e1866 (an (ti (ti (ti (ti (ti trivial))))) (an (decide_eq_false h1867) (ti (ti (ti trivial))))))) (ti trivial)) (by kernel_rfl)
    exact round_next pm pn hv hq h2
  ·injection h with h; subst h
   exact round_stop (c := ⟨[(0, none), (2, none), (3, none)], [none], []⟩) (s1 := (nspeculumref02_Root_l0_0_e0 a0 x3)) pm pn (ans := [.reg (nN 3 []), .br false]) (by kernel_rfl) (by intro e; cases e) (an (an (ti (ti (ti trivial))) (an (decide_eq_false h1865) trivial)) (ti trivial))
theorem eqO2_6 (z0 : Int) : VV.ag [vi z0, vi z0] = VV.ag (c_SRange (⟨z0, z0⟩ : SRange)) := by first | rfl | (simp only [unfr_vi, List.map_cons, List.map_nil, un_i, unfr_c_SRange]; done) | (simp only [unfr_vi, List.map_cons, List.map_nil, un_i, unfr_c_SRange]; rfl) | (simp only [unfr_vi, List.map_cons, List.map_nil, un_i, unfr_c_SRange, c_SRange, List.length_cons, List.length_nil, List.length_append]; done)
theorem eqO2_7 (z0 : Int) : VV.ag [vi z0, vi (w64 (z0 + 1))] = VV.ag (c_SRange (⟨z0, w64 (z0 + 1)⟩ : SRange)) := by first | rfl | (simp only [unfr_vi, List.map_cons, List.map_nil, un_i, unfr_c_SRange]; done) | (simp only [unfr_vi, List.map_cons, List.map_nil, un_i, unfr_c_SRange]; rfl) | (simp only [unfr_vi, List.map_cons, List.map_nil, un_i, unfr_c_SRange, c_SRange, List.length_cons, List.length_nil, List.length_append]; done)
def nspeculumref02_Root (k : Nat) (a0 : Int) : Option SRange :=
  (nspeculumref02_Root_l0_0 k a0 k 0 2000000000).bind fun r1869 => (if (w64 (r1869 * r1869)) = a0 then (some (⟨r1869, r1869⟩ : SRange)) else (some (⟨r1869, w64 (r1869 + 1)⟩ : SRange)))
theorem nspeculumref02_Root_ok (k : Nat) (a0 : Int) (r : SRange) (h : nspeculumref02_Root k a0 = some r) : VC Go.Proofs.Try.prog 80 [vi a0] (VV.ag (c_SRange r)) := by
 unfold nspeculumref02_Root at h
 obtain ⟨r1869, h1868, h⟩ := bs h
 have hph1868 := nspeculumref02_Root_l0_0_ok k a0 _ _ _ _ h1868
 have e1870 := (an (ti trivial) (VRun.loop hph1868))
 rcases ifs h with ⟨h1871, h⟩ | ⟨h1871, h⟩
 ·injection h with h; subst h
  exact fun_ok pm pn Go.Proofs.Try.func80 (r0 := VV.ag [vi r1869, vi r1869]) (ans := [.reg (.n :: []), .reg (.n :: .n :: []), .sub ⟨[(0, none), (2, none), (3, none), (4, none)], [none], []⟩ (.exit 0) (nspeculumref02_Root_l0_0_e0 a0 r1869), .reg (nN 5 []), .br true, .reg (nN 4 [])]) (fr := true) (by kernel_rfl) (an (an (ti trivial) (an (ti (ti trivial)) (an e1870 (an (ti (ti (ti (ti (ti trivial))))) (an (decide_eq_true h1871) (an (ti (ti (ti (ti trivial)))) trivial)))))) (an (ti (ti (ti trivial))) trivial)) (Wv.of_eq (eqO2_6 r1869))
 ·injection h with h; subst h
  exact fun_ok pm pn Go.Proofs.Try.func80 (r0 := VV.ag [vi r1869, vi (w64 (r1869 + 1))]) (ans := [.reg (.n :: []), .reg (.n :: .n :: []), .sub ⟨[(0, none), (2, none), (3, none), (4, none)], [none], []⟩ (.exit 0) (nspeculumref02_Root_l0_0_e0 a0 r1869), .reg (nN 5 []), .br false, .reg (nN 5 [])]) (fr := true) (by kernel_rfl) (an (an (ti trivial) (an (ti (ti trivial)) (an e1870 (an (an (ti (ti (ti (ti (ti trivial))))) (an (decide_eq_false h1871) trivial)) (an (ti (ti (ti (ti (ti trivial))))) trivial))))) (an (ti (ti (ti trivial))) trivial)) (Wv.of_eq (eqO2_7 r1869))
def arO2_0 (z0 : Int) (z1 : SRange) (z2 : Int) (z3 : SRange) : List Ans := (nN 8 (.call (vi z0) :: .n :: .call (VV.ag (c_SRange z1)) :: nN 9 (.call (vi z2) :: .n :: .call (VV.ag (c_SRange z3)) :: nN 3 [])))
theorem eqO2_8 (z0 : SRange) (z1 : SRange) : VV.ag [vi z0.Lo, vi z1.Hi] = VV.ag (c_SRange (⟨z0.Lo, z1.Hi⟩ : SRange)) := by first | rfl | (simp only [unfr_vi, List.map_cons, List.map_nil, un_i, unfr_c_SRange]; done) | (simp only [unfr_vi, List.map_cons, List.map_nil, un_i, unfr_c_SRange]; rfl) | (simp only [unfr_vi, List.map_cons, List.map_nil, un_i, unfr_c_SRange, c_SRange, List.length_cons, List.length_nil, List.length_append]; done)
def nspeculumref02_roots (k : Nat) (a0 : SConic) (a1 : Int) : Option SRange :=
  (nspeculumref02_OnePlus k a0).bind fun r1882 => ((nspeculumbase_Ceil k (w64 ((w64 ((w64 (10000 * r1882.1)) * a1)) * a1)) r1882.2).bind fun r1885 => ((nspeculumref02_Root k (w64 ((w64 ((w64 (10000 * a0.Radius)) * a0.Radius)) - r1885))).bind fun r1888 => ((nspeculumbase_Floor k (w64 ((w64 ((w64 (10000 * r1882.1)) * a1)) * a1)) r1882.2).bind fun r1891 => ((nspeculumref02_Root k (w64 ((w64 ((w64 (10000 * a0.Radius)) * a0.Radius)) - r1891))).bind fun r1894 => (some (⟨r1888.Lo, r1894.Hi⟩ : SRange))))))
theorem nspeculumref02_roots_ok (k : Nat) (a0 : SConic) (a1 : Int) (r : SRange) (h : nspeculumref02_roots k a0 a1 = some r) : VC Go.Proofs.Try.prog 50 [VV.ag (c_SConic a0), vi a1] (VV.ag (c_SRange r)) := by
 unfold nspeculumref02_roots at h
 obtain ⟨r1882, h1883, h⟩ := bs h
 have e1884 := (nspeculumref02_OnePlus_ok k a0 _ h1883)
 obtain ⟨r1885, h1886, h⟩ := bs h
 have e1887 := (nspeculumbase_Ceil_ok k (w64 ((w64 ((w64 (10000 * r1882.1)) * a1)) * a1)) r1882.2 _ h1886)
 obtain ⟨r1888, h1889, h⟩ := bs h
 have e1890 := (nspeculumref02_Root_ok k (w64 ((w64 ((w64 (10000 * a0.Radius)) * a0.Radius)) - r1885)) _ h1889)
 obtain ⟨r1891, h1892, h⟩ := bs h
 have e1893 := (nspeculumbase_Floor_ok k (w64 ((w64 ((w64 (10000 * r1882.1)) * a1)) * a1)) r1882.2 _ h1892)
 obtain ⟨r1894, h1895, h⟩ := bs h
 have e1896 := (nspeculumref02_Root_ok k (w64 ((w64 ((w64 (10000 * a0.Radius)) * a0.Radius)) - r1891)) _ h1895)
 have e1897 := (ti (ti (ti (ti (ti (ti (ti (ti (an e1887 (ti (an e1890 (ti (ti (ti (ti (ti (ti (ti (ti (ti (an e1893 (ti (an e1896 (ti (ti (ti trivial))))))))))))))))))))))))))
 injection h with h; subst h
 exact fun_ok pm pn Go.Proofs.Try.func50 (r0 := VV.ag [vi r1888.Lo, vi r1894.Hi]) (ans := [.reg (.n :: .n :: []), .reg (.n :: .call (VV.tu [vi r1882.1, vi r1882.2]) :: nN 5 []), .reg (nN 7 []), .reg (arO2_0 r1885 r1888 r1891 r1894)]) (fr := true) (by kernel_rfl) (an (an (ti (ti trivial)) (an (ti (an e1884 (ti (ti (ti (ti (ti trivial))))))) (an (ti (ti (ti (ti (ti (ti (ti trivial))))))) (an e1897 trivial)))) (an (ti (ti (ti trivial))) trivial)) (Wv.of_eq (eqO2_8 r1888 r1894))
def nspeculumref02_Sag_s (self16 : SConic → Int → Option (SRange × Int)) (k : Nat) (a0 : SConic) (a1 : Int) : Option (SRange × Int) :=
  (nspeculumref02_place k a0 a1).bind fun r1908 => (if r1908 = 0 then (if a0.Radius < 0 then ((self16 (⟨w64 (0 - a0.Radius), a0.K⟩ : SConic) a1).bind fun r1913 => ((nspeculumref02_Opposite k r1913.1).bind fun r1917 => (some (r1917, 0)))) else ((nspeculumref02_roots k a0 a1).bind fun r1920 => ((nspeculumbase_Floor k (w64 ((w64 (100000 * a1)) * a1)) (w64 ((w64 (100 * a0.Radius)) + r1920.Hi))).bind fun r1923 => ((nspeculumbase_Ceil k (w64 ((w64 (100000 * a1)) * a1)) (w64 ((w64 (100 * a0.Radius)) + r1920.Lo))).bind fun r1926 => (some ((⟨r1923, r1926⟩ : SRange), 0)))))) else (some ((⟨0, 0⟩ : SRange), r1908)))
theorem nspeculumref02_Sag_s_ok (self16 : SConic → Int → Option (SRange × Int)) (k : Nat) (a0 : SConic) (a1 : Int) (h1819 : ∀ (a0 : SConic) (a1 : Int) (r : (SRange × Int)), self16 a0 a1 = some r → VC Go.Proofs.Try.prog 16 [VV.ag (c_SConic a0), vi a1] (VV.tu [VV.ag (c_SRange r.1), vi r.2])) (r : (SRange × Int)) (h : nspeculumref02_Sag_s self16 k a0 a1 = some r) : VC Go.Proofs.Try.prog 16 [VV.ag (c_SConic a0), vi a1] (VV.tu [VV.ag (c_SRange r.1), vi r.2]) := by
 unfold nspeculumref02_Sag_s at h
 obtain ⟨r1908, h1909, h⟩ := bs h
 have e1910 := (nspeculumref02_place_ok k a0 a1 _ h1909)
 rcases ifs h with ⟨h1911, h⟩ | ⟨h1911, h⟩
 ·rcases ifs h with ⟨h1912, h⟩ | ⟨h1912, h⟩
  ·obtain ⟨r1913, h1914, h⟩ := bs h
   have e1915 := (VC.args (h1819 (⟨w64 (0 - a0.Radius), a0.K⟩ : SConic) a1 _ h1914) (eqO2_4 a0 a1))
   have e1916 := (ti (ti (ti (ti (ti (ti (ti (an e1915 (ti (ti (ti (ti (ti (ti trivial))))))))))))))
   obtain ⟨r1917, h1918, h⟩ := bs h
   have e1919 := (nspeculumref02_Opposite_ok k r1913.1 _ h1918)
   injection h with h; subst h
   exact fun_ok pm pn Go.Proofs.Try.func16 (r0 := VV.tu [VV.ag (c_SRange r1917), vi 0]) (ans := [.reg (nN 3 []), .reg (.n :: .n :: .call (vi r1908) :: .n :: []), .reg (.n :: .n :: []), .br false, .reg (nN 3 []), .br true, .reg (nN 7 (.call (VV.tu [VV.ag (c_SRange r1913.1), vi r1913.2]) :: nN 6 [])), .reg (.n :: .call (VV.ag (c_SRange r1917)) :: .n :: .n :: [])]) (fr := true) (by kernel_rfl) (an (an (ti (ti (ti trivial))) (an (an (ti (ti (an e1910 (ti trivial)))) (an (ti (ti trivial)) (an (not_f (decide_eq_true h1911)) trivial))) (an (ti (ti (ti trivial))) (an (decide_eq_true h1912) (an e1916 (an (ti (an e1919 (ti (ti trivial)))) trivial)))))) (an (ti (ti (ti trivial))) (ti trivial))) (Wv.refl _)
  ·obtain ⟨r1920, h1921, h⟩ := bs h
   have e1922 := (nspeculumref02_roots_ok k a0 a1 _ h1921)
   obtain ⟨r1923, h1924, h⟩ := bs h
   have e1925 := (nspeculumbase_Floor_ok k (w64 ((w64 (100000 * a1)) * a1)) (w64 ((w64 (100 * a0.Radius)) + r1920.Hi)) _ h1924)
   obtain ⟨r1926, h1927, h⟩ := bs h
   have e1928 := (nspeculumbase_Ceil_ok k (w64 ((w64 (100000 * a1)) * a1)) (w64 ((w64 (100 * a0.Radius)) + r1920.Lo)) _ h1927)
   have e1929 := (ti (ti (ti (ti (ti (ti (ti (ti (ti (ti (an e1925 (ti (ti (ti (ti (ti (ti (ti (ti (ti (ti (an e1928 (ti (ti (ti trivial)))))))))))))))))))))))))
   injection h with h; subst h
   exact fun_ok pm pn Go.Proofs.Try.func16 (r0 := VV.tu [VV.ag [vi r1923, vi r1926], vi 0]) (ans := [.reg (nN 3 []), .reg (.n :: .n :: .call (vi r1908) :: .n :: []), .reg (.n :: .n :: []), .br false, .reg (nN 3 []), .br false, .reg (.n :: .n :: .call (VV.ag (c_SRange r1920)) :: .n :: .n :: []), .reg (nN 10 (.call (vi r1923) :: nN 10 (.call (vi r1926) :: nN 3 [])))]) (fr := true) (by kernel_rfl) (an (an (ti (ti (ti trivial))) (an (an (ti (ti (an e1910 (ti trivial)))) (an (ti (ti trivial)) (an (not_f (decide_eq_true h1911)) trivial))) (an (an (ti (ti (ti trivial))) (an (decide_eq_false h1912) trivial)) (an (ti (ti (an e1922 (ti (ti trivial))))) (an e1929 trivial))))) (an (ti (ti (ti trivial))) (ti trivial))) (Wv.of_eq (eqO2_2 r1923 r1926))
 ·injection h with h; subst h
  exact fun_ok pm pn Go.Proofs.Try.func16 (r0 := VV.tu [VV.ag [vi 0, vi 0], vi r1908]) (ans := [.reg (nN 3 []), .reg (.n :: .n :: .call (vi r1908) :: .n :: []), .reg (.n :: .n :: []), .br true, .reg (nN 4 [])]) (fr := true) (by kernel_rfl) (an (an (ti (ti (ti trivial))) (an (ti (ti (an e1910 (ti trivial)))) (an (ti (ti trivial)) (an (not_t (decide_eq_false h1911)) (an (ti (ti (ti (ti trivial)))) trivial))))) (an (ti (ti (ti trivial))) (ti trivial))) (Wv.of_eq (eqO2_3 r1908))
def nspeculumref02_Sag : Nat → SConic → Int → Option (SRange × Int)
  | 0, _, _ => none
  | k + 1, a0, a1 => nspeculumref02_Sag_s (nspeculumref02_Sag k) k a0 a1
theorem nspeculumref02_Sag_ok (k : Nat) : ∀ (a0 : SConic) (a1 : Int) (r : (SRange × Int)) (h : nspeculumref02_Sag k a0 a1 = some r), VC Go.Proofs.Try.prog 16 [VV.ag (c_SConic a0), vi a1] (VV.tu [VV.ag (c_SRange r.1), vi r.2]) := by
 induction k with
 | zero => intro a0 a1 r h; rw [nspeculumref02_Sag.eq_1] at h; cases h
 | succ k ih => intro a0 a1 r h; rw [nspeculumref02_Sag.eq_2] at h; exact nspeculumref02_Sag_s_ok (nspeculumref02_Sag k) k a0 a1 ih r h
def nspeculumref02_Slope_s (self17 : SConic → Int → Option (SRange × Int)) (k : Nat) (a0 : SConic) (a1 : Int) : Option (SRange × Int) :=
  (nspeculumref02_place k a0 a1).bind fun r1959 => (if r1959 = 0 then (if a0.Radius < 0 then ((self17 (⟨w64 (0 - a0.Radius), a0.K⟩ : SConic) a1).bind fun r1964 => ((nspeculumref02_Opposite k r1964.1).bind fun r1968 => (some (r1968, r1964.2)))) else ((nspeculumref02_roots k a0 a1).bind fun r1971 => (if r1971.Lo = 0 then (some ((⟨0, 0⟩ : SRange), 11)) else ((nspeculumbase_Floor k (w64 (100000000 * a1)) r1971.Hi).bind fun r1975 => ((nspeculumbase_Ceil k (w64 (100000000 * a1)) r1971.Lo).bind fun r1978 => (some ((⟨r1975, r1978⟩ : SRange), 0))))))) else (some ((⟨0, 0⟩ : SRange), r1959)))
theorem nspeculumref02_Slope_s_ok (self17 : SConic → Int → Option (SRange × Int)) (k : Nat) (a0 : SConic) (a1 : Int) (h1935 : ∀ (a0 : SConic) (a1 : Int) (r : (SRange × Int)), self17 a0 a1 = some r → VC Go.Proofs.Try.prog 17 [VV.ag (c_SConic a0), vi a1] (VV.tu [VV.ag (c_SRange r.1), vi r.2])) (r : (SRange × Int)) (h : nspeculumref02_Slope_s self17 k a0 a1 = some r) : VC Go.Proofs.Try.prog 17 [VV.ag (c_SConic a0), vi a1] (VV.tu [VV.ag (c_SRange r.1), vi r.2]) := by
 unfold nspeculumref02_Slope_s at h
 obtain ⟨r1959, h1960, h⟩ := bs h
 have e1961 := (nspeculumref02_place_ok k a0 a1 _ h1960)
 rcases ifs h with ⟨h1962, h⟩ | ⟨h1962, h⟩
 ·rcases ifs h with ⟨h1963, h⟩ | ⟨h1963, h⟩
  ·obtain ⟨r1964, h1965, h⟩ := bs h
   have e1966 := (VC.args (h1935 (⟨w64 (0 - a0.Radius), a0.K⟩ : SConic) a1 _ h1965) (eqO2_4 a0 a1))
   have e1967 := (ti (ti (ti (ti (ti (ti (ti (an e1966 (ti (ti (ti (ti (ti (ti trivial))))))))))))))
   obtain ⟨r1968, h1969, h⟩ := bs h
   have e1970 := (nspeculumref02_Opposite_ok k r1964.1 _ h1969)
   injection h with h; subst h
   exact fun_ok pm pn Go.Proofs.Try.func17 (r0 := VV.tu [VV.ag (c_SRange r1968), vi r1964.2]) (ans := [.reg (nN 3 []), .reg (.n :: .n :: .call (vi r1959) :: .n :: []), .reg (.n :: .n :: []), .br false, .reg (nN 3 []), .br true, .reg (nN 7 (.call (VV.tu [VV.ag (c_SRange r1964.1), vi r1964.2]) :: nN 6 [])), .reg (.n :: .call (VV.ag (c_SRange r1968)) :: nN 3 [])]) (fr := true) (by kernel_rfl) (an (an (ti (ti (ti trivial))) (an (an (ti (ti (an e1961 (ti trivial)))) (an (ti (ti trivial)) (an (not_f (decide_eq_true h1962)) trivial))) (an (ti (ti (ti trivial))) (an (decide_eq_true h1963) (an e1967 (an (ti (an e1970 (ti (ti (ti trivial))))) trivial)))))) (an (ti (ti (ti trivial))) (ti trivial))) (Wv.refl _)
  ·obtain ⟨r1971, h1972, h⟩ := bs h
   have e1973 := (nspeculumref02_roots_ok k a0 a1 _ h1972)
   rcases ifs h with ⟨h1974, h⟩ | ⟨h1974, h⟩
   ·injection h with h; subst h
    exact fun_ok pm pn Go.Proofs.Try.func17 (r0 := VV.tu [VV.ag [vi 0, vi 0], vi 11]) (ans := [.reg (nN 3 []), .reg (.n :: .n :: .call (vi r1959) :: .n :: []), .reg (.n :: .n :: []), .br false, .reg (nN 3 []), .br false, .reg (.n :: .n :: .call (VV.ag (c_SRange r1971)) :: .n :: .n :: []), .reg (nN 3 []), .br true, .reg (nN 3 [])]) (fr := true) (by kernel_rfl) (an (an (ti (ti (ti trivial))) (an (an (ti (ti (an e1961 (ti trivial)))) (an (ti (ti trivial)) (an (not_f (decide_eq_true h1962)) trivial))) (an (an (ti (ti (ti trivial))) (an (decide_eq_false h1963) trivial)) (an (ti (ti (an e1973 (ti (ti trivial))))) (an (ti (ti (ti trivial))) (an (decide_eq_true h1974) (an (ti (ti (ti trivial))) trivial))))))) (an (ti (ti (ti trivial))) (ti trivial))) (Wv.of_eq eqO2_1)
   ·obtain ⟨r1975, h1976, h⟩ := bs h
    have e1977 := (nspeculumbase_Floor_ok k (w64 (100000000 * a1)) r1971.Hi _ h1976)
    obtain ⟨r1978, h1979, h⟩ := bs h
    have e1980 := (nspeculumbase_Ceil_ok k (w64 (100000000 * a1)) r1971.Lo _ h1979)
    have e1981 := (ti (ti (ti (ti (an e1977 (ti (ti (ti (ti (an e1980 (ti (ti (ti trivial)))))))))))))
    injection h with h; subst h
    exact fun_ok pm pn Go.Proofs.Try.func17 (r0 := VV.tu [VV.ag [vi r1975, vi r1978], vi 0]) (ans := [.reg (nN 3 []), .reg (.n :: .n :: .call (vi r1959) :: .n :: []), .reg (.n :: .n :: []), .br false, .reg (nN 3 []), .br false, .reg (.n :: .n :: .call (VV.ag (c_SRange r1971)) :: .n :: .n :: []), .reg (nN 3 []), .br false, .reg (nN 4 (.call (vi r1975) :: nN 4 (.call (vi r1978) :: nN 3 [])))]) (fr := true) (by kernel_rfl) (an (an (ti (ti (ti trivial))) (an (an (ti (ti (an e1961 (ti trivial)))) (an (ti (ti trivial)) (an (not_f (decide_eq_true h1962)) trivial))) (an (an (ti (ti (ti trivial))) (an (decide_eq_false h1963) trivial)) (an (ti (ti (an e1973 (ti (ti trivial))))) (an (an (ti (ti (ti trivial))) (an (decide_eq_false h1974) trivial)) (an e1981 trivial)))))) (an (ti (ti (ti trivial))) (ti trivial))) (Wv.of_eq (eqO2_2 r1975 r1978))
 ·injection h with h; subst h
  exact fun_ok pm pn Go.Proofs.Try.func17 (r0 := VV.tu [VV.ag [vi 0, vi 0], vi r1959]) (ans := [.reg (nN 3 []), .reg (.n :: .n :: .call (vi r1959) :: .n :: []), .reg (.n :: .n :: []), .br true, .reg (nN 4 [])]) (fr := true) (by kernel_rfl) (an (an (ti (ti (ti trivial))) (an (ti (ti (an e1961 (ti trivial)))) (an (ti (ti trivial)) (an (not_t (decide_eq_false h1962)) (an (ti (ti (ti (ti trivial)))) trivial))))) (an (ti (ti (ti trivial))) (ti trivial))) (Wv.of_eq (eqO2_3 r1959))
def nspeculumref02_Slope : Nat → SConic → Int → Option (SRange × Int)
  | 0, _, _ => none
  | k + 1, a0, a1 => nspeculumref02_Slope_s (nspeculumref02_Slope k) k a0 a1
theorem nspeculumref02_Slope_ok (k : Nat) : ∀ (a0 : SConic) (a1 : Int) (r : (SRange × Int)) (h : nspeculumref02_Slope k a0 a1 = some r), VC Go.Proofs.Try.prog 17 [VV.ag (c_SConic a0), vi a1] (VV.tu [VV.ag (c_SRange r.1), vi r.2]) := by
 induction k with
 | zero => intro a0 a1 r h; rw [nspeculumref02_Slope.eq_1] at h; cases h
 | succ k ih => intro a0 a1 r h; rw [nspeculumref02_Slope.eq_2] at h; exact nspeculumref02_Slope_s_ok (nspeculumref02_Slope k) k a0 a1 ih r h
def noptics_Edge (k : Nat) (a0 : SConic) : Option (Int × Int) :=
  (noptics_CheckConic k a0).bind fun r1995 => (if r1995 = 0 then ((noptics_shape k a0).bind fun r1999 => (if r1999.1 ≤ 0 then (some (1000000, 0)) else (if r1999.1 ≠ 0 then ((noptics_rootDown k (w64 ((w64 ((w64 (r1999.2 * a0.Radius)) * a0.Radius)).tdiv r1999.1))).bind fun r2004 => (some (minI r2004 1000000, 0))) else none))) else (some (0, r1995)))
theorem noptics_Edge_ok (k : Nat) (a0 : SConic) (r : (Int × Int)) (h : noptics_Edge k a0 = some r) : VC Go.Proofs.Try.prog 10 [VV.ag (c_SConic a0)] (VV.tu [vi r.1, vi r.2]) := by
 unfold noptics_Edge at h
 obtain ⟨r1995, h1996, h⟩ := bs h
 have e1997 := (ti (an (noptics_CheckConic_ok k a0 _ h1996) (ti trivial)))
 rcases ifs h with ⟨h1998, h⟩ | ⟨h1998, h⟩
 ·obtain ⟨r1999, h2000, h⟩ := bs h
  have e2001 := (ti (an (noptics_shape_ok k a0 _ h2000) (ti (ti (ti (ti (ti trivial)))))))
  rcases ifs h with ⟨h2002, h⟩ | ⟨h2002, h⟩
  ·injection h with h; subst h
   exact fun_ok pm pn Go.Proofs.Try.func10 (r0 := VV.tu [vi 1000000, vi 0]) (ans := [.reg (nN 3 []), .reg (.n :: .call (vi r1995) :: .n :: []), .reg (.n :: .n :: []), .br false, .reg (.n :: .call (VV.tu [vi r1999.1, vi r1999.2]) :: nN 5 []), .reg (.n :: .n :: []), .br true, .reg (.n :: .n :: [])]) (fr := true) (by kernel_rfl) (an (an (ti (ti (ti trivial))) (an (an e1997 (an (ti (ti trivial)) (an (not_f (decide_eq_true h1998)) trivial))) (an e2001 (an (ti (ti trivial)) (an (decide_eq_true h2002) (an (ti (ti trivial)) trivial)))))) (ti (ti trivial))) (Wv.refl _)
  ·obtain ⟨h2003, h⟩ := ifn h
   obtain ⟨r2004, h2005, h⟩ := bs h
   have e2006 := (noptics_rootDown_ok k (w64 ((w64 ((w64 (r1999.2 * a0.Radius)) * a0.Radius)).tdiv r1999.1)) _ h2005)
   have e2007 := (ti (ti (ti (ti (ti (ti (ti (ti (an h2003 (an e2006 (ti (ti (ti trivial)))))))))))))
   injection h with h; subst h
   exact fun_ok pm pn Go.Proofs.Try.func10 (r0 := VV.tu [vi (minI r2004 1000000), vi 0]) (ans := [.reg (nN 3 []), .reg (.n :: .call (vi r1995) :: .n :: []), .reg (.n :: .n :: []), .br false, .reg (.n :: .call (VV.tu [vi r1999.1, vi r1999.2]) :: nN 5 []), .reg (.n :: .n :: []), .br false, .reg (nN 9 (.call (vi r2004) :: nN 3 []))]) (fr := true) (by kernel_rfl) (an (an (ti (ti (ti trivial))) (an (an e1997 (an (ti (ti trivial)) (an (not_f (decide_eq_true h1998)) trivial))) (an e2001 (an (an (ti (ti trivial)) (an (decide_eq_false h2002) trivial)) (an e2007 trivial))))) (ti (ti trivial))) (Wv.refl _)
 ·injection h with h; subst h
  exact fun_ok pm pn Go.Proofs.Try.func10 (r0 := VV.tu [vi 0, vi r1995]) (ans := [.reg (nN 3 []), .reg (.n :: .call (vi r1995) :: .n :: []), .reg (.n :: .n :: []), .br true, .reg (nN 3 [])]) (fr := true) (by kernel_rfl) (an (an (ti (ti (ti trivial))) (an e1997 (an (ti (ti trivial)) (an (not_t (decide_eq_false h1998)) (an (ti (ti (ti trivial))) trivial))))) (ti (ti trivial))) (Wv.refl _)
def nspeculumref02_Edge_l0_0_h (a0 : SConic) (x3 : Int) (x4 : Int) : VS := ⟨mkA [(1, VV.pt 0 0), (3, vi x3), (4, vi x4)], [some ⟨true, 1, c_SConic a0⟩], .nil⟩
def nspeculumref02_Edge_l0_0_e0 (a0 : SConic) (r : Int) : VS := ⟨mkA [(3, vi r)], [], .nil⟩
def nspeculumref02_Edge_l0_0 (k : Nat) (a0 : SConic) : Nat → Int → Int → Option (Int)
  | 0, _, _ => none
  | fuel + 1, x3, x4 => if x3 < x4 then ((nspeculumref02_Beyond k a0 (w64 ((w64 ((w64 (x3 + x4)) + 1)).tdiv 2))).bind fun r2041 => (if r2041 = true then (nspeculumref02_Edge_l0_0 k a0 fuel x3 (w64 ((w64 ((w64 ((w64 (x3 + x4)) + 1)).tdiv 2)) - 1))) else (nspeculumref02_Edge_l0_0 k a0 fuel (w64 ((w64 ((w64 (x3 + x4)) + 1)).tdiv 2)) x4))) else (some x3)
theorem nspeculumref02_Edge_l0_0_ok (k : Nat) (a0 : SConic) : ∀ (fuel : Nat) (x3 : Int) (x4 : Int) (r : Int), nspeculumref02_Edge_l0_0 k a0 fuel x3 x4 = some r → (VLoop none Go.Proofs.Try.prog (szF Go.Proofs.Try.f13) (bodyOf Go.Proofs.Try.f13 0) (nspeculumref02_Edge_l0_0_h a0 x3 x4) (.exit 0) (nspeculumref02_Edge_l0_0_e0 a0 r)) := by
 intro fuel
 induction fuel with
 | zero => intro x3 x4 r h; rw [nspeculumref02_Edge_l0_0.eq_1] at h; cases h
 | succ fuel ih =>
  intro x3 x4 r h
  rw [nspeculumref02_Edge_l0_0.eq_2] at h
  rcases ifs h with ⟨h2039, h⟩ | ⟨h2039, h⟩
  ·have e2040 := (ti (ti (ti (ti (an (show (2 : Int) ≠ 0 from (by decide)) (ti trivial))))))
   obtain ⟨r2041, h2042, h⟩ := bs h
   have e2043 := (nspeculumref02_Beyond_ok k a0 (w64 ((w64 ((w64 (x3 + x4)) + 1)).tdiv 2)) _ h2042)
   rcases ifs h with ⟨h2044, h⟩ | ⟨h2044, h⟩
   ·have h2 := ih _ _ _ h
    obtain ⟨q, hv, hq⟩ := pkR (rd := none) (P := Go.Proofs.Try.prog) (fn := Go.Proofs.Try.f13) (k := 0) (s := (nspeculumref02_Edge_l0_0_h a0 x3 x4)) (ans := [.reg (nN 3 []), .br true, .reg (nN 6 []), .reg (.n :: .n :: .call (vb r2041) :: []), .br true, .reg (nN 3 [])]) (c := ⟨[(1, none), (3, none), (4, none)], [none], []⟩) (e := .normal) (s1 := (nspeculumref02_Edge_l0_0_h a0 x3 (w64 ((w64 ((w64 ((w64 (x3 + x4)) + 1)).tdiv 2)) - 1)))) (an (an (an (ti (ti (ti trivial))) (an (decide_eq_true h2039) trivial)) (an e2040 (an (ti (ti (an e2043 trivial))) (an h2044 (ti (ti (ti trivial))))))) (ti trivial)) (by kernel_rfl)
    exact round_next pm pn hv hq h2
   ·have h2 := ih _ _ _ h
    obtain ⟨q, hv, hq⟩ := pkR (rd := none) (P := Go.Proofs.Try.prog) (fn := Go.Proofs.Try.f13) (k := 0) (s := (nspeculumref02_Edge_l0_0_h a0 x3 x4)) (ans := [.reg (nN 3 []), .br true, .reg (nN 6 []), .reg (.n :: .n :: .call (vb r2041) :: []), .br false, .reg (.n :: .n :: [])]) (c := ⟨[(1, none), (3, none), (4, none)], [none], []⟩) (e := .normal) (s1 := (nspeculumref02_Edge_l0_0_h a0 (w64 ((w64 ((w64 (x3 + x4)) + 1)).tdiv 2)) x4)) (an (an (an (ti (ti (ti trivial))) (an (decide_eq_true h2039) trivial)) (an e2040 (an (ti (ti (an e2043 trivial))) (an (bool_f h2044) (ti (ti trivial)))))) (ti trivial)) (by kernel_rfl)
    exact round_next pm pn hv hq h2
  ·injection h with h; subst h
   exact round_stop (c := ⟨[(3, none)], [], []⟩) (s1 := (nspeculumref02_Edge_l0_0_e0 a0 x3)) pm pn (ans := [.reg (nN 3 []), .br false]) (by kernel_rfl) (by intro e; cases e) (an (an (ti (ti (ti trivial))) (an (decide_eq_false h2039) trivial)) (ti trivial))
def nspeculumref02_Edge (k : Nat) (a0 : SConic) : Option Int :=
  (nspeculumref02_Edge_l0_0 k a0 k 0 1000000).bind fun r2046 => (some r2046)
theorem nspeculumref02_Edge_ok (k : Nat) (a0 : SConic) (r : Int) (h : nspeculumref02_Edge k a0 = some r) : VC Go.Proofs.Try.prog 13 [VV.ag (c_SConic a0)] (vi r) := by
 unfold nspeculumref02_Edge at h
 obtain ⟨r2046, h2045, h⟩ := bs h
 have hph2045 := nspeculumref02_Edge_l0_0_ok k a0 _ _ _ _ h2045
 have e2047 := (an (ti trivial) (VRun.loop hph2045))
 injection h with h; subst h
 exact fun_ok pm pn Go.Proofs.Try.func13 (r0 := vi r2046) (ans := [.reg (.n :: .n :: []), .reg (.n :: .n :: []), .sub ⟨[(1, none), (3, none), (4, none)], [none], []⟩ (.exit 0) (nspeculumref02_Edge_l0_0_e0 a0 r2046), .reg (.n :: .n :: [])]) (fr := true) (by kernel_rfl) (an (an (ti (ti trivial)) (an (ti (ti trivial)) (an e2047 (an (ti (ti trivial)) trivial)))) (ti trivial)) (Wv.refl _)
end Go.Proofs.Ytgaopkhkabbcfaa.Vg

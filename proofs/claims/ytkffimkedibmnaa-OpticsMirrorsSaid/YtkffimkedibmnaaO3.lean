/- Written by a program out of the program: what Go functions do, as plain functions, and their contracts. -/
import Derived.Test.YtkffimkedibmnaaO2
namespace Go.Proofs.Ytkffimkedibmnaa.Vg
set_option maxRecDepth 100000
set_option maxHeartbeats 4000000
set_option linter.unusedVariables false
set_option linter.unusedSimpArgs false
open Go Go.Proofs.Ytkffimkedibmnaa.Ev Go.Proofs.Ytkffimkedibmnaa.Vv
structure SWay where
  Large : Bool
  deriving Inhabited
def c_SWay (x : SWay) : List VV := [vb x.Large]
theorem len_c_SWay (x : SWay) : (c_SWay x).length = 1 := rfl
theorem still_c_SWay (xs : List SWay) : (xs.flatMap c_SWay).all VV.still = true := all_flat (fun _ => rfl) xs
theorem isC_c_SWay (xs : List SWay) : (xs.flatMap c_SWay).all VV.isC = true := all_flat (fun _ => rfl) xs
theorem new0_c_SWay (xs : List SWay) : (xs.flatMap c_SWay).all new0 = true := all_flat (fun _ => rfl) xs
theorem unfr_c_SWay (xs : List SWay) : (xs.flatMap c_SWay).map unfr = xs.flatMap c_SWay := unfr_flat (fun _ => rfl) xs
theorem eqO3_0 (z0 : Int) (z1 : Int) (z2 : Int) : VV.ag [vi (w64 (z0.tdiv (w64 (0 - z1)))), vi (w64 (z2.tdiv (w64 (0 - z1))))] = VV.ag (c_SFrac (⟨w64 (z0.tdiv (w64 (0 - z1))), w64 (z2.tdiv (w64 (0 - z1)))⟩ : SFrac)) := by first | rfl | (simp only [unfr_vi, List.map_cons, List.map_nil, un_i, unfr_c_SFrac]; done) | (simp only [unfr_vi, List.map_cons, List.map_nil, un_i, unfr_c_SFrac]; rfl) | (simp only [unfr_vi, List.map_cons, List.map_nil, un_i, unfr_c_SFrac, c_SFrac, List.length_cons, List.length_nil, List.length_append]; done)
theorem eqO3_1 (z0 : Int) (z1 : Int) (z2 : Int) : VV.ag [vi (w64 (z0.tdiv z1)), vi (w64 (z2.tdiv z1))] = VV.ag (c_SFrac (⟨w64 (z0.tdiv z1), w64 (z2.tdiv z1)⟩ : SFrac)) := by first | rfl | (simp only [unfr_vi, List.map_cons, List.map_nil, un_i, unfr_c_SFrac]; done) | (simp only [unfr_vi, List.map_cons, List.map_nil, un_i, unfr_c_SFrac]; rfl) | (simp only [unfr_vi, List.map_cons, List.map_nil, un_i, unfr_c_SFrac, c_SFrac, List.length_cons, List.length_nil, List.length_append]; done)
def nspeculumbase_Lowest (k : Nat) (a0 : Int) (a1 : Int) : Option SFrac :=
  (nspeculumbase_Gcd k a0 a1).bind fun r1756 => (if a1 < 0 then (if (w64 (0 - r1756)) ≠ 0 then (some (⟨w64 (a0.tdiv (w64 (0 - r1756))), w64 (a1.tdiv (w64 (0 - r1756)))⟩ : SFrac)) else none) else (if r1756 ≠ 0 then (some (⟨w64 (a0.tdiv r1756), w64 (a1.tdiv r1756)⟩ : SFrac)) else none))
theorem nspeculumbase_Lowest_ok (k : Nat) (a0 : Int) (a1 : Int) (r : SFrac) (h : nspeculumbase_Lowest k a0 a1 = some r) : VC Go.Proofs.Try.prog 113 [vi a0, vi a1] (VV.ag (c_SFrac r)) := by
 unfold nspeculumbase_Lowest at h
 obtain ⟨r1756, h1757, h⟩ := bs h
 have e1758 := (ti (ti (an (nspeculumbase_Gcd_ok k a0 a1 _ h1757) (ti trivial))))
 rcases ifs h with ⟨h1759, h⟩ | ⟨h1759, h⟩
 ·obtain ⟨h1760, h⟩ := ifn h
  have e1761 := (ti (ti (an h1760 (ti (ti (an h1760 (ti (ti trivial))))))))
  injection h with h; subst h
  exact fun_ok pm pn Go.Proofs.Try.func113 (r0 := VV.ag [vi (w64 (a0.tdiv (w64 (0 - r1756)))), vi (w64 (a1.tdiv (w64 (0 - r1756))))]) (ans := [.reg (.n :: []), .reg (.n :: .n :: .call (vi r1756) :: .n :: []), .reg (.n :: .n :: []), .br true, .reg (nN 3 []), .reg (nN 8 [])]) (fr := true) (by kernel_rfl) (an (an (ti trivial) (an e1758 (an (an (ti (ti trivial)) (an (decide_eq_true h1759) (ti (ti (ti trivial))))) (an e1761 trivial)))) (an (ti (ti (ti trivial))) trivial)) (Wv.of_eq (eqO3_0 a0 r1756 a1))
 ·obtain ⟨h1762, h⟩ := ifn h
  have e1763 := (ti (ti (an h1762 (ti (ti (an h1762 (ti (ti trivial))))))))
  injection h with h; subst h
  exact fun_ok pm pn Go.Proofs.Try.func113 (r0 := VV.ag [vi (w64 (a0.tdiv r1756)), vi (w64 (a1.tdiv r1756))]) (ans := [.reg (.n :: []), .reg (.n :: .n :: .call (vi r1756) :: .n :: []), .reg (.n :: .n :: []), .br false, .reg (nN 8 [])]) (fr := true) (by kernel_rfl) (an (an (ti trivial) (an e1758 (an (an (ti (ti trivial)) (an (decide_eq_false h1759) trivial)) (an e1763 trivial)))) (an (ti (ti (ti trivial))) trivial)) (Wv.of_eq (eqO3_1 a0 r1756 a1))
def arO3_0 (z0 : Bool) (z1 : Bool) : List Ans := (.n :: .call (vb z0) :: nN 3 (.call (vb z1) :: .b true :: nN 4 (.b true :: .n :: [])))
def arO3_1 (z0 : Bool) (z1 : Bool) : List Ans := (.n :: .call (vb z0) :: nN 3 (.call (vb z1) :: .b true :: .n :: nS 3 (.b false :: .n :: [])))
def nspeculumbase_IsSmall (k : Nat) (a0 : SFrac) : Option Bool :=
  (nspeculumbase_IsLowest k a0).bind fun r1778 => (if r1778 = true then ((nspeculumbase_Within k a0.Num (-1000000000) 1000000000).bind fun r1782 => (if r1782 = true then (some (decide (a0.Den ≤ 1000000000))) else (some false))) else (some false))
theorem nspeculumbase_IsSmall_ok (k : Nat) (a0 : SFrac) (r : Bool) (h : nspeculumbase_IsSmall k a0 = some r) : VC Go.Proofs.Try.prog 87 [VV.ag (c_SFrac a0)] (vb r) := by
 unfold nspeculumbase_IsSmall at h
 obtain ⟨r1778, h1779, h⟩ := bs h
 have e1780 := (nspeculumbase_IsLowest_ok k a0 _ h1779)
 rcases ifs h with ⟨h1781, h⟩ | ⟨h1781, h⟩
 ·obtain ⟨r1782, h1783, h⟩ := bs h
  have e1784 := (an h1781 (nspeculumbase_Within_ok k a0.Num (-1000000000) 1000000000 _ h1783))
  rcases ifs h with ⟨h1785, h⟩ | ⟨h1785, h⟩
  ·have e1786 := (ti (an e1780 (ti (an (an h1781 trivial) (an (an h1781 trivial) (an e1784 (an h1781 (ti (an (an h1785 trivial) (an (an h1785 trivial) (an (an h1785 trivial) (an h1785 (ti trivial)))))))))))))
   injection h with h; subst h
   exact fun_ok pm pn Go.Proofs.Try.func87 (r0 := vb (decide (a0.Den ≤ 1000000000))) (ans := [.reg (.n :: .n :: []), .reg (arO3_0 r1778 r1782)]) (fr := true) (by kernel_rfl) (an (an (ti (ti trivial)) (an e1786 trivial)) (ti trivial)) (Wv.refl _)
  ·have e1787 := (ti (an e1780 (ti (an (an h1781 trivial) (an (an h1781 trivial) (an e1784 (an h1781 (ti (an (bool_f h1785) (an (bool_f h1785) (an (bool_f h1785) (an (bool_f h1785) (ti trivial)))))))))))))
   injection h with h; subst h
   exact fun_ok pm pn Go.Proofs.Try.func87 (r0 := vb false) (ans := [.reg (.n :: .n :: []), .reg (arO3_1 r1778 r1782)]) (fr := true) (by kernel_rfl) (an (an (ti (ti trivial)) (an e1787 trivial)) (ti trivial)) (Wv.refl _)
 ·have e1788 := (ti (an e1780 (ti (an (bool_f h1781) (an (bool_f h1781) (an (bool_f h1781) (an (bool_f h1781) (ti (an rf (an rf (an rf (an rf (ti trivial)))))))))))))
  injection h with h; subst h
  exact fun_ok pm pn Go.Proofs.Try.func87 (r0 := vb false) (ans := [.reg (.n :: .n :: []), .reg (.n :: .call (vb r1778) :: .n :: nS 3 (.b false :: .n :: nS 3 (.b false :: .n :: [])))]) (fr := true) (by kernel_rfl) (an (an (ti (ti trivial)) (an e1788 trivial)) (ti trivial)) (Wv.refl _)
theorem eqO3_2  : VV.ag [vi 0, vi 1] = VV.ag (c_SFrac (⟨0, 1⟩ : SFrac)) := by first | rfl | (simp only [unfr_vi, List.map_cons, List.map_nil, un_i, unfr_c_SFrac]; done) | (simp only [unfr_vi, List.map_cons, List.map_nil, un_i, unfr_c_SFrac]; rfl) | (simp only [unfr_vi, List.map_cons, List.map_nil, un_i, unfr_c_SFrac, c_SFrac, List.length_cons, List.length_nil, List.length_append]; done)
def n_speculumref02_Way_fit (k : Nat) (a0 : SWay) (a1 : Int) (a2 : Int) : Option (SFrac × SWay) :=
  (nspeculumbase_Lowest k a1 a2).bind fun r1793 => ((nspeculumbase_IsSmall k r1793).bind fun r1796 => (if r1796 = true then (some (r1793, a0)) else (some ((⟨0, 1⟩ : SFrac), (⟨true⟩ : SWay)))))
theorem n_speculumref02_Way_fit_ok (k : Nat) (a0 : SWay) (a1 : Int) (a2 : Int) (r : (SFrac × SWay)) (h : n_speculumref02_Way_fit k a0 a1 a2 = some r) : VM Go.Proofs.Try.prog 88 [VV.pt 0 0, vi a1, vi a2] [⟨true, bigH, [vb a0.Large]⟩] (VV.ag (c_SFrac r.1)) [⟨true, bigH, [vb r.2.Large]⟩] := by
 unfold n_speculumref02_Way_fit at h
 obtain ⟨r1793, h1794, h⟩ := bs h
 have e1795 := (nspeculumbase_Lowest_ok k a1 a2 _ h1794)
 obtain ⟨r1796, h1797, h⟩ := bs h
 have e1798 := (nspeculumbase_IsSmall_ok k r1793 _ h1797)
 rcases ifs h with ⟨h1799, h⟩ | ⟨h1799, h⟩
 ·injection h with h; subst h
  exact fun_okM pm pn Go.Proofs.Try.func88 (L := [⟨true, bigH, [vb a0.Large]⟩]) (r0 := VV.ag (c_SFrac r1793)) (ans := [.reg (.n :: []), .reg (.n :: .n :: .call (VV.ag (c_SFrac r1793)) :: .n :: .n :: []), .reg (.n :: .call (vb r1796) :: .n :: []), .br false, .reg (.n :: .n :: [])]) (fr := true) (by kernel_rfl) (an (an (ti trivial) (an (ti (ti (an e1795 (ti (ti trivial))))) (an (an (ti (an e1798 (ti trivial))) (an (not_f h1799) trivial)) (an (ti (ti trivial)) trivial)))) (an (an (ti (ti (ti trivial))) trivial) (an (an (ti trivial) trivial) (show okStill [⟨true, bigH, [vb a0.Large]⟩] from ⟨(fun h => nomatch h), trivial⟩)))) (Wv.refl _) rfl
 ·injection h with h; subst h
  exact fun_okM pm pn Go.Proofs.Try.func88 (L := [⟨true, bigH, [vb a0.Large]⟩]) (r0 := VV.ag [vi 0, vi 1]) (ans := [.reg (.n :: []), .reg (.n :: .n :: .call (VV.ag (c_SFrac r1793)) :: .n :: .n :: []), .reg (.n :: .call (vb r1796) :: .n :: []), .br true, .reg (nN 4 []), .reg (.n :: .n :: [])]) (fr := true) (by kernel_rfl) (an (an (ti trivial) (an (ti (ti (an e1795 (ti (ti trivial))))) (an (ti (an e1798 (ti trivial))) (an (not_t (bool_f h1799)) (an (ti (ti (ti (ti trivial)))) (an (ti (ti trivial)) trivial)))))) (an (an (ti (ti (ti trivial))) trivial) (an (an (ti trivial) trivial) (show okStill [⟨true, bigH, [vb a0.Large]⟩] from ⟨(fun h => nomatch h), trivial⟩)))) (Wv.of_eq eqO3_2) rfl
def n_speculumref02_Way_Mul (k : Nat) (a0 : SWay) (a1 : SFrac) (a2 : SFrac) : Option (SFrac × SWay) :=
  (n_speculumref02_Way_fit k a0 (w64 (a1.Num * a2.Num)) (w64 (a1.Den * a2.Den))).bind fun r1804 => (some (r1804.1, r1804.2))
theorem n_speculumref02_Way_Mul_ok (k : Nat) (a0 : SWay) (a1 : SFrac) (a2 : SFrac) (r : (SFrac × SWay)) (h : n_speculumref02_Way_Mul k a0 a1 a2 = some r) : VM Go.Proofs.Try.prog 36 [VV.pt 0 0, VV.ag (c_SFrac a1), VV.ag (c_SFrac a2)] [⟨true, bigH, [vb a0.Large]⟩] (VV.ag (c_SFrac r.1)) [⟨true, bigH, [vb r.2.Large]⟩] := by
 unfold n_speculumref02_Way_Mul at h
 obtain ⟨r1804, h1805, h⟩ := bs h
 have e1806 := (an (n_speculumref02_Way_fit_ok k a0 (w64 (a1.Num * a2.Num)) (w64 (a1.Den * a2.Den)) _ h1805) (an (ti trivial) (ti trivial)))
 have e1807 := (ti (ti (ti (ti (ti (ti (ti (ti (ti (ti (ti (an e1806 (ti trivial)))))))))))))
 injection h with h; subst h
 exact fun_okM pm pn Go.Proofs.Try.func36 (L := [⟨true, bigH, [vb a0.Large]⟩]) (r0 := VV.ag (c_SFrac r1804.1)) (ans := [.reg (nN 3 []), .reg (nN 11 (.mod1 0 (VV.ag (c_SFrac r1804.1)) ⟨true, bigH, [vb r1804.2.Large]⟩ :: .n :: []))]) (fr := true) (by kernel_rfl) (an (an (ti (ti (ti trivial))) (an e1807 trivial)) (an (an (ti (ti (ti trivial))) trivial) (an (an (ti trivial) trivial) (show okStill [⟨true, bigH, [vb a0.Large]⟩] from ⟨(fun h => nomatch h), trivial⟩)))) (Wv.refl _) rfl
def n_speculumref02_Way_Add (k : Nat) (a0 : SWay) (a1 : SFrac) (a2 : SFrac) : Option (SFrac × SWay) :=
  (n_speculumref02_Way_fit k a0 (w64 ((w64 (a1.Num * a2.Den)) + (w64 (a2.Num * a1.Den)))) (w64 (a1.Den * a2.Den))).bind fun r1812 => (some (r1812.1, r1812.2))
theorem n_speculumref02_Way_Add_ok (k : Nat) (a0 : SWay) (a1 : SFrac) (a2 : SFrac) (r : (SFrac × SWay)) (h : n_speculumref02_Way_Add k a0 a1 a2 = some r) : VM Go.Proofs.Try.prog 35 [VV.pt 0 0, VV.ag (c_SFrac a1), VV.ag (c_SFrac a2)] [⟨true, bigH, [vb a0.Large]⟩] (VV.ag (c_SFrac r.1)) [⟨true, bigH, [vb r.2.Large]⟩] := by
 unfold n_speculumref02_Way_Add at h
 obtain ⟨r1812, h1813, h⟩ := bs h
 have e1814 := (an (n_speculumref02_Way_fit_ok k a0 (w64 ((w64 (a1.Num * a2.Den)) + (w64 (a2.Num * a1.Den)))) (w64 (a1.Den * a2.Den)) _ h1813) (an (ti trivial) (ti trivial)))
 have e1815 := (ti (ti (ti (ti (ti (ti (ti (ti (ti (ti (ti (ti (ti (ti (ti (ti (ti (an e1814 (ti trivial)))))))))))))))))))
 injection h with h; subst h
 exact fun_okM pm pn Go.Proofs.Try.func35 (L := [⟨true, bigH, [vb a0.Large]⟩]) (r0 := VV.ag (c_SFrac r1812.1)) (ans := [.reg (nN 3 []), .reg (nN 17 (.mod1 0 (VV.ag (c_SFrac r1812.1)) ⟨true, bigH, [vb r1812.2.Large]⟩ :: .n :: []))]) (fr := true) (by kernel_rfl) (an (an (ti (ti (ti trivial))) (an e1815 trivial)) (an (an (ti (ti (ti trivial))) trivial) (an (an (ti trivial) trivial) (show okStill [⟨true, bigH, [vb a0.Large]⟩] from ⟨(fun h => nomatch h), trivial⟩)))) (Wv.refl _) rfl
def n_speculumref02_Way_Sub (k : Nat) (a0 : SWay) (a1 : SFrac) (a2 : SFrac) : Option (SFrac × SWay) :=
  (n_speculumref02_Way_fit k a0 (w64 ((w64 (a1.Num * a2.Den)) - (w64 (a2.Num * a1.Den)))) (w64 (a1.Den * a2.Den))).bind fun r1820 => (some (r1820.1, r1820.2))
theorem n_speculumref02_Way_Sub_ok (k : Nat) (a0 : SWay) (a1 : SFrac) (a2 : SFrac) (r : (SFrac × SWay)) (h : n_speculumref02_Way_Sub k a0 a1 a2 = some r) : VM Go.Proofs.Try.prog 60 [VV.pt 0 0, VV.ag (c_SFrac a1), VV.ag (c_SFrac a2)] [⟨true, bigH, [vb a0.Large]⟩] (VV.ag (c_SFrac r.1)) [⟨true, bigH, [vb r.2.Large]⟩] := by
 unfold n_speculumref02_Way_Sub at h
 obtain ⟨r1820, h1821, h⟩ := bs h
 have e1822 := (an (n_speculumref02_Way_fit_ok k a0 (w64 ((w64 (a1.Num * a2.Den)) - (w64 (a2.Num * a1.Den)))) (w64 (a1.Den * a2.Den)) _ h1821) (an (ti trivial) (ti trivial)))
 have e1823 := (ti (ti (ti (ti (ti (ti (ti (ti (ti (ti (ti (ti (ti (ti (ti (ti (ti (an e1822 (ti trivial)))))))))))))))))))
 injection h with h; subst h
 exact fun_okM pm pn Go.Proofs.Try.func60 (L := [⟨true, bigH, [vb a0.Large]⟩]) (r0 := VV.ag (c_SFrac r1820.1)) (ans := [.reg (nN 3 []), .reg (nN 17 (.mod1 0 (VV.ag (c_SFrac r1820.1)) ⟨true, bigH, [vb r1820.2.Large]⟩ :: .n :: []))]) (fr := true) (by kernel_rfl) (an (an (ti (ti (ti trivial))) (an e1823 trivial)) (an (an (ti (ti (ti trivial))) trivial) (an (an (ti trivial) trivial) (show okStill [⟨true, bigH, [vb a0.Large]⟩] from ⟨(fun h => nomatch h), trivial⟩)))) (Wv.refl _) rfl
def n_speculumref02_Way_Quo (k : Nat) (a0 : SWay) (a1 : SFrac) (a2 : SFrac) : Option (SFrac × SWay) :=
  if a2.Num = 0 then (some ((⟨0, 1⟩ : SFrac), (⟨true⟩ : SWay))) else ((n_speculumref02_Way_fit k a0 (w64 (a1.Num * a2.Den)) (w64 (a1.Den * a2.Num))).bind fun r1830 => (some (r1830.1, r1830.2)))
theorem n_speculumref02_Way_Quo_ok (k : Nat) (a0 : SWay) (a1 : SFrac) (a2 : SFrac) (r : (SFrac × SWay)) (h : n_speculumref02_Way_Quo k a0 a1 a2 = some r) : VM Go.Proofs.Try.prog 59 [VV.pt 0 0, VV.ag (c_SFrac a1), VV.ag (c_SFrac a2)] [⟨true, bigH, [vb a0.Large]⟩] (VV.ag (c_SFrac r.1)) [⟨true, bigH, [vb r.2.Large]⟩] := by
 unfold n_speculumref02_Way_Quo at h
 rcases ifs h with ⟨h1829, h⟩ | ⟨h1829, h⟩
 ·injection h with h; subst h
  exact fun_okM pm pn Go.Proofs.Try.func59 (L := [⟨true, bigH, [vb a0.Large]⟩]) (r0 := VV.ag [vi 0, vi 1]) (ans := [.reg (nN 3 []), .reg (nN 3 []), .br true, .reg (nN 4 []), .reg (.n :: .n :: [])]) (fr := true) (by kernel_rfl) (an (an (ti (ti (ti trivial))) (an (ti (ti (ti trivial))) (an (decide_eq_true h1829) (an (ti (ti (ti (ti trivial)))) (an (ti (ti trivial)) trivial))))) (an (an (ti (ti (ti trivial))) trivial) (an (an (ti trivial) trivial) (show okStill [⟨true, bigH, [vb a0.Large]⟩] from ⟨(fun h => nomatch h), trivial⟩)))) (Wv.of_eq eqO3_2) rfl
 ·obtain ⟨r1830, h1831, h⟩ := bs h
  have e1832 := (an (n_speculumref02_Way_fit_ok k a0 (w64 (a1.Num * a2.Den)) (w64 (a1.Den * a2.Num)) _ h1831) (an (ti trivial) (ti trivial)))
  have e1833 := (ti (ti (ti (ti (ti (ti (ti (ti (ti (ti (ti (an e1832 (ti trivial)))))))))))))
  injection h with h; subst h
  exact fun_okM pm pn Go.Proofs.Try.func59 (L := [⟨true, bigH, [vb a0.Large]⟩]) (r0 := VV.ag (c_SFrac r1830.1)) (ans := [.reg (nN 3 []), .reg (nN 3 []), .br false, .reg (nN 11 (.mod1 0 (VV.ag (c_SFrac r1830.1)) ⟨true, bigH, [vb r1830.2.Large]⟩ :: .n :: []))]) (fr := true) (by kernel_rfl) (an (an (ti (ti (ti trivial))) (an (an (ti (ti (ti trivial))) (an (decide_eq_false h1829) trivial)) (an e1833 trivial))) (an (an (ti (ti (ti trivial))) trivial) (an (an (ti trivial) trivial) (show okStill [⟨true, bigH, [vb a0.Large]⟩] from ⟨(fun h => nomatch h), trivial⟩)))) (Wv.refl _) rfl
end Go.Proofs.Ytkffimkedibmnaa.Vg

/- Written by a program out of the program: what Go functions do, as plain functions, and their contracts. -/
import Derived.Test.YtmjepoalhmdfjaaE1
namespace Go.Proofs.Ytmjepoalhmdfjaa.Vg
set_option maxRecDepth 100000
set_option maxHeartbeats 4000000
set_option linter.unusedVariables false
set_option linter.unusedSimpArgs false
open Go Go.Proofs.Ytmjepoalhmdfjaa.Ev Go.Proofs.Ytmjepoalhmdfjaa.Vv
theorem ag26 : isAggT Go.Proofs.Try.prog 26 = some true := by kernel_rfl
theorem sz26 : szOf Go.Proofs.Try.prog 26 = some 2 := by kernel_rfl
theorem eqok26 : EqOK Go.Proofs.Try.prog 26 [some (.i .i64), some (.i .i64)] := eqOK_of (by kernel_rfl) (by kernel_rfl) (eqT_struct Go.Proofs.Try.underlying26 (by kernel_rfl) (by kernel_rfl) (by kernel_rfl) (.cons (by decide +kernel) rfl (eqT_int Go.Proofs.Try.underlying3 (by kernel_rfl) (by kernel_rfl)) (.cons (by decide +kernel) rfl (eqT_int Go.Proofs.Try.underlying3 (by kernel_rfl) (by kernel_rfl)) .nil)))
def nawake (k : Nat) : Option Bool := some true
theorem nawake_ok (k : Nat) (r : Bool) (h : nawake k = some r) : VC Go.Proofs.Try.prog 7 [] (vb r) := by
  injection h with h; subst h
  exact vc_awake
def arE2_0 (z0 : ((List SFrac) × Int)) (z1 : Int) (z2 : SFrac) : List Ans := (nN 3 (.v (VV.ag (c_SFrac (z0.1.getD z1.toNat default))) :: nN 3 (.call (VV.ag (c_SFrac z2)) :: .n :: [])))
def arE2_1 (z0 : SRemovalMap) (z1 : Int) (z2 : ((List SFrac) × Int)) : List Ans := (nN 5 (.v (vi (z0.Weights.getD z1.toNat 0)) :: nN 4 (.v (vi ((z2.1.getD z1.toNat default).Num)) :: nN 6 (.v (vi ((z2.1.getD z1.toNat default).Den)) :: nN 4 []))))
def arE2_2 (z0 : Bool) (z1 : Int) (z2 : Int) (z3 : Bool) (z4 : Bool) : List Ans := (.n :: .call (vb z0) :: nN 3 (.call (vi z1) :: .n :: .b false :: .n :: .n :: .call (vi z2) :: .n :: .b false :: nN 4 (.call (vb z3) :: .n :: .b false :: nN 4 (.call (vb z4) :: .n :: .b false :: []))))
def arE2_3 (z0 : SRemovalMap) (z1 : ((List SFrac) × Int)) : List Ans := (.n :: .call (VV.ag (g_SRemovalMap z0)) :: .n :: .call (VV.tu [VV.fr (List.flatMap c_SFrac z1.1) z1.1.length, vi z1.2]) :: nN 5 [])
def arE2_4 (z0 : SRemovalMap) (z1 : (SFrac × Int)) : List Ans := (.n :: .call (VV.ag (g_SRemovalMap z0)) :: .call (VV.tu [VV.ag (c_SFrac z1.1), vi z1.2]) :: nN 6 [])
def arE2_5  : List Ans := (nN 5 (.b false :: nN 7 (.b false :: nN 4 (.b false :: .n :: nS 3 (.b true :: .n :: nS 4 (.b true :: []))))))
def arE2_6  : List Ans := (nN 5 (.b false :: nN 7 (.b false :: nN 4 (.b false :: nN 4 (.b false :: .n :: nS 4 (.b true :: []))))))
def nspeculumlaw06_FigureLeast_l0_0_h (a0 : SRemovalMap) (a1 : SLowerLine) (r1913 : ((List SFrac) × Int)) (r1918 : (SFrac × Int)) (x10 : Int) (x11 : Int) : VS := ⟨mkA [(2, VV.pt 0 0), (3, VV.pt 1 0), (5, VV.fr (List.flatMap c_SFrac r1913.1) r1913.1.length), (7, VV.pt 2 0), (9, vi (w64 (a1.Start.Den * a1.Slope.Den))), (10, vi x10), (11, vi x11)], [some ⟨true, 1, c_SRemovalMap a0⟩, some ⟨true, 1, c_SLowerLine a1⟩, some ⟨true, 1, c_SFrac r1918.1⟩], .nil⟩
def nspeculumlaw06_FigureLeast_l0_0_e0 (a0 : SRemovalMap) (a1 : SLowerLine) (r1913 : ((List SFrac) × Int)) (r1918 : (SFrac × Int)) (r : Bool) : VS := ⟨mkA [(4, vb r)], [], .nil⟩
def nspeculumlaw06_FigureLeast_l0_0_e1 (a0 : SRemovalMap) (a1 : SLowerLine) (r1913 : ((List SFrac) × Int)) (r1918 : (SFrac × Int)) (r : Int) : VS := ⟨mkA [(7, VV.pt 2 0), (9, vi (w64 (a1.Start.Den * a1.Slope.Den))), (10, vi r)], [some ⟨true, 1, c_SRemovalMap a0⟩, some ⟨true, 1, c_SLowerLine a1⟩, some ⟨true, 1, c_SFrac r1918.1⟩], .nil⟩
def nspeculumlaw06_FigureLeast_l0_0 (k : Nat) (a0 : SRemovalMap) (a1 : SLowerLine) (r1913 : ((List SFrac) × Int)) (r1918 : (SFrac × Int)) : Nat → Int → Int → Option (Sum Bool Int)
  | 0, _, _ => none
  | fuel + 1, x10, x11 => if x11 < (r1913.1.length : Int) then (if 0 ≤ x11 ∧ x11 < (r1913.1.length : Int) then ((nspeculumref06_Removal k a0 a1 x11).bind fun r1982 => (if (((r1913.1.getD x11.toNat default).Num : Int) == r1982.Num && (((r1913.1.getD x11.toNat default).Den : Int) == r1982.Den && true)) = true then (if ((r1913.1.getD x11.toNat default).Num) < 0 then (some (.inl true)) else (if 0 ≤ x11 ∧ x11 < (a0.Weights.length : Int) then (if ((r1913.1.getD x11.toNat default).Den) ≠ 0 then (nspeculumlaw06_FigureLeast_l0_0 k a0 a1 r1913 r1918 fuel (w64 (x10 + (w64 ((w64 ((a0.Weights.getD x11.toNat 0) * ((r1913.1.getD x11.toNat default).Num))) * (w64 ((w64 (a1.Start.Den * a1.Slope.Den)).tdiv ((r1913.1.getD x11.toNat default).Den))))))) (w64 (x11 + 1))) else none) else none)) else (some (.inl false)))) else none) else (some (.inr x10))
theorem nspeculumlaw06_FigureLeast_l0_0_ok (k : Nat) (a0 : SRemovalMap) (a1 : SLowerLine) (r1913 : ((List SFrac) × Int)) (r1918 : (SFrac × Int)) : ∀ (fuel : Nat) (x10 : Int) (x11 : Int) (r : Sum Bool Int), nspeculumlaw06_FigureLeast_l0_0 k a0 a1 r1913 r1918 fuel x10 x11 = some r → (match r with | .inl r => VLoop none Go.Proofs.Try.prog (szF Go.Proofs.Try.f3) (bodyOf Go.Proofs.Try.f3 0) (nspeculumlaw06_FigureLeast_l0_0_h a0 a1 r1913 r1918 x10 x11) .ret (nspeculumlaw06_FigureLeast_l0_0_e0 a0 a1 r1913 r1918 r) | .inr r => VLoop none Go.Proofs.Try.prog (szF Go.Proofs.Try.f3) (bodyOf Go.Proofs.Try.f3 0) (nspeculumlaw06_FigureLeast_l0_0_h a0 a1 r1913 r1918 x10 x11) (.exit 0) (nspeculumlaw06_FigureLeast_l0_0_e1 a0 a1 r1913 r1918 r)) := by
 intro fuel
 induction fuel with
 | zero => intro x10 x11 r h; rw [nspeculumlaw06_FigureLeast_l0_0.eq_1] at h; cases h
 | succ fuel ih =>
  intro x10 x11 r h
  rw [nspeculumlaw06_FigureLeast_l0_0.eq_2] at h
  rcases ifs h with ⟨h1979, h⟩ | ⟨h1979, h⟩
  ·obtain ⟨h1980, h⟩ := ifn h
   have e1981 := (show loadL Go.Proofs.Try.prog 26 (x11.toNat * 2) (List.flatMap c_SFrac r1913.1) = some (VV.ag (c_SFrac (r1913.1.getD x11.toNat default))) from ld_whole ag26 c_SFrac 2 sz26 len_c_SFrac r1913.1 default h1980 (by omega))
   obtain ⟨r1982, h1983, h⟩ := bs h
   have e1984 := (nspeculumref06_Removal_ok k a0 a1 x11 _ h1983)
   have e1985 := (show List.map kdV [Value.int .i64 ((r1913.1.getD x11.toNat default).Num), Value.int .i64 ((r1913.1.getD x11.toNat default).Den)] = List.map kdV [Value.int .i64 r1982.Num, Value.int .i64 r1982.Den] ∧ EqOK Go.Proofs.Try.prog 26 (List.map kdV [Value.int .i64 r1982.Num, Value.int .i64 r1982.Den]) from ⟨rfl, eqok26⟩)
   have e1986 := (ti (ti (an h1980 (an e1981 (ti (ti (ti (an e1984 (an e1985 trivial)))))))))
   rcases ifs h with ⟨h1987, h⟩ | ⟨h1987, h⟩
   ·have e1988 := (show loadL Go.Proofs.Try.prog 3 (x11.toNat * 2 + 0) (List.flatMap c_SFrac r1913.1) = some (vi ((r1913.1.getD x11.toNat default).Num)) from (ld_flat ag3 c_SFrac 2 0 len_c_SFrac (by omega) r1913.1 default h1980 (by omega)).trans rfl)
    rcases ifs h with ⟨h1989, h⟩ | ⟨h1989, h⟩
    ·injection h with h; subst h
     exact round_stop (c := ⟨[(4, none)], [], []⟩) (s1 := (nspeculumlaw06_FigureLeast_l0_0_e0 a0 a1 r1913 r1918 true)) pm pn (ans := [.reg (nN 4 []), .br true, .reg (arE2_0 r1913 x11 r1982), .br false, .reg (nN 4 (.v (vi ((r1913.1.getD x11.toNat default).Num)) :: .n :: [])), .br true, .reg (.n :: [])]) (by kernel_rfl) (by intro e; cases e) (an (an (an (ti (ti (ti (ti trivial)))) (an (decide_eq_true h1979) trivial)) (an (an e1986 (an (not_f h1987) trivial)) (an (ti (ti (an h1980 (ti (an e1988 (ti trivial)))))) (an (decide_eq_true h1989) (an (ti trivial) trivial))))) (ti trivial))
    ·obtain ⟨h1990, h⟩ := ifn h
     have e1991 := (show loadL Go.Proofs.Try.prog 3 (x11.toNat * 1) (List.map vi a0.Weights) = some (vi (a0.Weights.getD x11.toNat 0)) from ld_map ag3 vi a0.Weights 0 h1990 (by omega))
     have e1992 := (show loadL Go.Proofs.Try.prog 3 (x11.toNat * 2 + 0) (List.flatMap c_SFrac r1913.1) = some (vi ((r1913.1.getD x11.toNat default).Num)) from (ld_flat ag3 c_SFrac 2 0 len_c_SFrac (by omega) r1913.1 default h1980 (by omega)).trans rfl)
     have e1993 := (show loadL Go.Proofs.Try.prog 3 (x11.toNat * 2 + 1) (List.flatMap c_SFrac r1913.1) = some (vi ((r1913.1.getD x11.toNat default).Den)) from (ld_flat ag3 c_SFrac 2 1 len_c_SFrac (by omega) r1913.1 default h1980 (by omega)).trans rfl)
     obtain ⟨h1994, h⟩ := ifn h
     have e1995 := (ti (ti (ti (ti (an h1990 (an e1991 (ti (ti (an h1980 (ti (an e1992 (ti (ti (ti (ti (an h1980 (ti (an e1993 (an h1994 (ti (ti (ti trivial))))))))))))))))))))))
     have h2 := ih _ _ _ h
     obtain ⟨q, hv, hq⟩ := pkR (rd := none) (P := Go.Proofs.Try.prog) (fn := Go.Proofs.Try.f3) (k := 0) (s := (nspeculumlaw06_FigureLeast_l0_0_h a0 a1 r1913 r1918 x10 x11)) (ans := [.reg (nN 4 []), .br true, .reg (arE2_0 r1913 x11 r1982), .br false, .reg (nN 4 (.v (vi ((r1913.1.getD x11.toNat default).Num)) :: .n :: [])), .br false, .reg (arE2_1 a0 x11 r1913), .reg (nN 3 [])]) (c := ⟨[(2, none), (3, none), (5, none), (7, none), (9, none), (10, none), (11, none)], [none, none, none], []⟩) (e := .normal) (s1 := (nspeculumlaw06_FigureLeast_l0_0_h a0 a1 r1913 r1918 (w64 (x10 + (w64 ((w64 ((a0.Weights.getD x11.toNat 0) * ((r1913.1.getD x11.toNat default).Num))) * (w64 ((w64 (a1.Start.Den * a1.Slope.Den)).tdiv ((r1913.1.getD x11.toNat default).Den))))))) (w64 (x11 + 1)))) (an (an (an (ti (ti (ti (ti trivial)))) (an (decide_eq_true h1979) trivial)) (an (an (an e1986 (an (not_f h1987) trivial)) (an (an (ti (ti (an h1980 (ti (an e1988 (ti trivial)))))) (an (decide_eq_false h1989) trivial)) e1995)) (ti (ti (ti trivial))))) (ti trivial)) (by kernel_rfl)
     cases r with
     | inl r => exact round_next pm pn hv hq h2
     | inr r =>
      exact round_next pm pn hv hq h2
   ·injection h with h; subst h
    exact round_stop (c := ⟨[(4, none)], [], []⟩) (s1 := (nspeculumlaw06_FigureLeast_l0_0_e0 a0 a1 r1913 r1918 false)) pm pn (ans := [.reg (nN 4 []), .br true, .reg (arE2_0 r1913 x11 r1982), .br true, .reg (.n :: [])]) (by kernel_rfl) (by intro e; cases e) (an (an (an (ti (ti (ti (ti trivial)))) (an (decide_eq_true h1979) trivial)) (an e1986 (an (not_t (bool_f h1987)) (an (ti trivial) trivial)))) (ti trivial))
  ·injection h with h; subst h
   exact round_stop (c := ⟨[(7, none), (9, none), (10, none)], [none, none, none], []⟩) (s1 := (nspeculumlaw06_FigureLeast_l0_0_e1 a0 a1 r1913 r1918 x10)) pm pn (ans := [.reg (nN 4 []), .br false]) (by kernel_rfl) (by intro e; cases e) (an (an (ti (ti (ti (ti trivial)))) (an (decide_eq_false h1979) trivial)) (ti trivial))
def arE2_7 (z0 : Bool) : List Ans := (nN 5 (.b false :: nN 7 (.b false :: nN 4 (.b false :: nN 4 (.b false :: nN 3 (.call (vb z0) :: .n :: .b false :: []))))))
def arE2_8  : List Ans := (nN 5 (.b false :: nN 7 (.b false :: .n :: nS 3 (.b true :: .n :: nS 3 (.b true :: .n :: nS 4 (.b true :: []))))))
def arE2_9  : List Ans := (nN 5 (.b false :: .n :: nS 6 (.b true :: .n :: nS 3 (.b true :: .n :: nS 3 (.b true :: .n :: nS 4 (.b true :: []))))))
def arE2_10  : List Ans := (nN 3 (.skip :: .skip :: .b true :: .n :: nS 6 (.b true :: .n :: nS 3 (.b true :: .n :: nS 3 (.b true :: .n :: nS 4 (.b true :: []))))))
def arE2_11 (z0 : Bool) (z1 : Int) (z2 : Int) (z3 : Bool) : List Ans := (.n :: .call (vb z0) :: nN 3 (.call (vi z1) :: .n :: .b false :: .n :: .n :: .call (vi z2) :: .n :: .b false :: nN 4 (.call (vb z3) :: .n :: .b false :: .n :: nS 5 (.b true :: []))))
def arE2_12 (z0 : Bool) (z1 : Int) (z2 : Int) : List Ans := (.n :: .call (vb z0) :: nN 3 (.call (vi z1) :: .n :: .b false :: .n :: .n :: .call (vi z2) :: .n :: .b false :: .n :: nS 5 (.b true :: .n :: nS 5 (.b true :: []))))
def arE2_13 (z0 : Bool) (z1 : Int) : List Ans := (.n :: .call (vb z0) :: nN 3 (.call (vi z1) :: .n :: .b false :: .n :: nS 3 (.b true :: .n :: nS 5 (.b true :: .n :: nS 5 (.b true :: [])))))
def arE2_14 (z0 : Bool) : List Ans := (.n :: .call (vb z0) :: .n :: .n :: nS 3 (.b true :: .n :: nS 3 (.b true :: .n :: nS 5 (.b true :: .n :: nS 5 (.b true :: [])))))
def nspeculumlaw06_FigureLeast (k : Nat) (a0 : SRemovalMap) (a1 : SLowerLine) : Option Bool :=
  (nawake k).bind fun r1882 => (if r1882 = true then ((nspeculumlaw06_Few k a0).bind fun r1885 => (if r1885 = true then ((nspeculumref06_CheckMap k a0).bind fun r1888 => (if r1888 = 0 then ((nspeculumref06_CheckLine k a1).bind fun r1893 => (if r1893 = 0 then ((nspeculumbase_Within k a1.Start.Num (-10000000) 10000000).bind fun r1901 => (if r1901 = true then ((nspeculumbase_Within k a1.Slope.Num (-10000000) 10000000).bind fun r1906 => (if r1906 = true then ((nspeculumlaw06_mapped k a0).bind fun r1911 => ((nfigure_Removal k r1911 a1).bind fun r1913 => ((nfigure_Least k r1911).bind fun r1918 => (if r1913.2 = 0 then (if r1918.2 = 0 then (if (r1913.1.length : Int) = (a0.Heights.length : Int) then (if r1918.1.Den < 1 then (some false) else (if 40000000 < r1918.1.Den then (some false) else ((nspeculumbase_Within k r1918.1.Num 0 1000000000000000000).bind fun r1939 => (if r1939 = true then ((nspeculumlaw06_FigureLeast_l0_0 k a0 a1 r1913 r1918 k 0 0).bind fun r1997 => (match r1997 with | .inl r1998 => (some r1998) | .inr r1999 => ((nspeculumbase_Floor k r1999 (w64 (a1.Start.Den * a1.Slope.Den))).bind fun r2002 => ((nspeculumbase_Floor k r1918.1.Num r1918.1.Den).bind fun r2005 => (if r2005 < r2002 then (some true) else (if r2002 = r2005 then (some (decide ((w64 ((w64 (r1918.1.Num - (w64 (r2005 * r1918.1.Den)))) * (w64 (a1.Start.Den * a1.Slope.Den)))) ≤ (w64 ((w64 (r1999 - (w64 (r2002 * (w64 (a1.Start.Den * a1.Slope.Den)))))) * r1918.1.Den))))) else (some false))))))) else (some false))))) else (some false)) else (some false)) else (some false))))) else (some true))) else (some true))) else (some true))) else (some true))) else (some true))) else (some false))
theorem nspeculumlaw06_FigureLeast_ok (k : Nat) (a0 : SRemovalMap) (a1 : SLowerLine) (r : Bool) (h : nspeculumlaw06_FigureLeast k a0 a1 = some r) : VC Go.Proofs.Try.prog 3 [VV.ag (c_SRemovalMap a0), VV.ag (c_SLowerLine a1)] (vb r) := by
 unfold nspeculumlaw06_FigureLeast at h
 obtain ⟨r1882, h1883, h⟩ := bs h
 rcases ifs h with ⟨h1884, h⟩ | ⟨h1884, h⟩
 ·obtain ⟨r1885, h1886, h⟩ := bs h
  rcases ifs h with ⟨h1887, h⟩ | ⟨h1887, h⟩
  ·obtain ⟨r1888, h1889, h⟩ := bs h
   have e1890 := (an (not_f h1887) (nspeculumref06_CheckMap_ok k a0 _ h1889))
   rcases ifs h with ⟨h1891, h⟩ | ⟨h1891, h⟩
   ·have e1892 := (an (not_f (decide_eq_true h1891)) trivial)
    obtain ⟨r1893, h1894, h⟩ := bs h
    have e1895 := (an (not_f (decide_eq_true h1891)) (nspeculumref06_CheckLine_ok k a1 _ h1894))
    have e1896 := (an (not_f (decide_eq_true h1891)) trivial)
    rcases ifs h with ⟨h1897, h⟩ | ⟨h1897, h⟩
    ·have e1898 := (an (not_f (decide_eq_true h1897)) trivial)
     have e1899 := (an (not_f (decide_eq_true h1897)) trivial)
     have e1900 := (an (not_f (decide_eq_true h1897)) trivial)
     obtain ⟨r1901, h1902, h⟩ := bs h
     have e1903 := (an (not_f (decide_eq_true h1897)) (nspeculumbase_Within_ok k a1.Start.Num (-10000000) 10000000 _ h1902))
     have e1904 := (an (not_f (decide_eq_true h1897)) trivial)
     rcases ifs h with ⟨h1905, h⟩ | ⟨h1905, h⟩
     ·obtain ⟨r1906, h1907, h⟩ := bs h
      have e1908 := (an (not_f h1905) (nspeculumbase_Within_ok k a1.Slope.Num (-10000000) 10000000 _ h1907))
      have e1909 := (ti (an (nspeculumlaw06_Few_ok k a0 _ h1886) (ti (ti (an (an (not_f h1887) trivial) (an e1890 (an (an (not_f h1887) trivial) (an (not_f h1887) (ti (an e1892 (an e1895 (an e1896 (an (not_f (decide_eq_true h1891)) (ti (an e1898 (an e1899 (an e1900 (an e1903 (an e1904 (an (not_f (decide_eq_true h1897)) (ti (an (an (not_f h1905) trivial) (an (an (not_f h1905) trivial) (an (an (not_f h1905) trivial) (an e1908 (an (an (not_f h1905) trivial) (an (not_f h1905) trivial)))))))))))))))))))))))))))
      rcases ifs h with ⟨h1910, h⟩ | ⟨h1910, h⟩
      ·obtain ⟨r1911, h1912, h⟩ := bs h
       obtain ⟨r1913, h1914, h⟩ := bs h
       have e1915 := (show VC Go.Proofs.Try.prog 12 [VV.ag (c_SRemovalMap r1911), VV.ag (c_SLowerLine a1)] (VV.tu [VV.fr (List.flatMap c_SFrac r1913.1) r1913.1.length, vi r1913.2]) from (VC.weak (nfigure_Removal_ok k r1911 a1 _ h1914) (Wv.tuL (.cons (Wv.fw rfl rfl) (.cons (Wv.refl _) .nil)))))
       have e1916 := (ti (an (nspeculumlaw06_mapped_ok k a0 _ h1912) (ti (an e1915 (ti (ti (ti (ti (ti trivial)))))))))
       obtain ⟨r1918, h1919, h⟩ := bs h
       have e1920 := (ti (an (nspeculumlaw06_mapped_ok k a0 _ h1912) (an (nfigure_Least_ok k r1911 _ h1919) (ti (ti (ti (ti (ti (ti trivial)))))))))
       rcases ifs h with ⟨h1921, h⟩ | ⟨h1921, h⟩
       ·have e1922 := (an (not_f (decide_eq_true h1921)) trivial)
        have e1923 := (an (not_f (decide_eq_true h1921)) trivial)
        rcases ifs h with ⟨h1924, h⟩ | ⟨h1924, h⟩
        ·have e1925 := (an (not_f (decide_eq_true h1924)) trivial)
         have e1926 := (an (not_f (decide_eq_true h1924)) trivial)
         have e1927 := (an (not_f (decide_eq_true h1924)) trivial)
         have e1928 := (an (not_f (decide_eq_true h1924)) trivial)
         have e1929 := (an (not_f (decide_eq_true h1924)) trivial)
         have e1930 := (an (not_f (decide_eq_true h1924)) trivial)
         rcases ifs h with ⟨h1931, h⟩ | ⟨h1931, h⟩
         ·have e1932 := (an (not_f (decide_eq_true h1931)) trivial)
          have e1933 := (an (not_f (decide_eq_true h1931)) trivial)
          have e1934 := (an (not_f (decide_eq_true h1931)) trivial)
          rcases ifs h with ⟨h1935, h⟩ | ⟨h1935, h⟩
          ·have e1936 := (ti (ti (ti (an e1922 (an e1923 (an (not_f (decide_eq_true h1921)) (ti (an e1925 (an e1926 (an e1927 (an e1928 (an e1929 (an e1930 (an (not_f (decide_eq_true h1924)) (ti (an e1932 (an e1933 (an e1934 (an (not_f (decide_eq_true h1931)) (ti (an (decide_eq_true h1935) (an (decide_eq_true h1935) (an (decide_eq_true h1935) (an (decide_eq_true h1935) (ti (an rt (an rt (an rt (an rt (an rt trivial))))))))))))))))))))))))))))))
           injection h with h; subst h
           exact fun_ok pm pn Go.Proofs.Try.func3 (r0 := vb false) (ans := [.reg (nN 3 []), .reg (.call (vb r1882) :: .n :: []), .br false, .reg (arE2_2 r1885 r1888 r1893 r1901 r1906), .br false, .reg (arE2_3 r1911 r1913), .reg (arE2_4 r1911 r1918), .reg arE2_5, .br true, .reg (.n :: [])]) (fr := true) (by kernel_rfl) (an (an (ti (ti (ti trivial))) (an (an (an (nawake_ok k _ h1883) (ti trivial)) (an (not_f h1884) trivial)) (an (an e1909 (an (not_f h1910) trivial)) (an e1916 (an e1920 (an e1936 (an rt (an (ti trivial) trivial)))))))) (ti trivial)) (Wv.refl _)
          ·rcases ifs h with ⟨h1937, h⟩ | ⟨h1937, h⟩
           ·have e1938 := (ti (ti (ti (an e1922 (an e1923 (an (not_f (decide_eq_true h1921)) (ti (an e1925 (an e1926 (an e1927 (an e1928 (an e1929 (an e1930 (an (not_f (decide_eq_true h1924)) (ti (an e1932 (an e1933 (an e1934 (an (not_f (decide_eq_true h1931)) (ti (an (an (decide_eq_false h1935) trivial) (an (an (decide_eq_false h1935) trivial) (an (an (decide_eq_false h1935) trivial) (an (decide_eq_false h1935) (ti (an (decide_eq_true h1937) (an (decide_eq_true h1937) (an (decide_eq_true h1937) (an (decide_eq_true h1937) (an (decide_eq_true h1937) trivial))))))))))))))))))))))))))))))
            injection h with h; subst h
            exact fun_ok pm pn Go.Proofs.Try.func3 (r0 := vb false) (ans := [.reg (nN 3 []), .reg (.call (vb r1882) :: .n :: []), .br false, .reg (arE2_2 r1885 r1888 r1893 r1901 r1906), .br false, .reg (arE2_3 r1911 r1913), .reg (arE2_4 r1911 r1918), .reg arE2_6, .br true, .reg (.n :: [])]) (fr := true) (by kernel_rfl) (an (an (ti (ti (ti trivial))) (an (an (an (nawake_ok k _ h1883) (ti trivial)) (an (not_f h1884) trivial)) (an (an e1909 (an (not_f h1910) trivial)) (an e1916 (an e1920 (an e1938 (an rt (an (ti trivial) trivial)))))))) (ti trivial)) (Wv.refl _)
           ·obtain ⟨r1939, h1940, h⟩ := bs h
            have e1941 := (an (decide_eq_false h1937) (nspeculumbase_Within_ok k r1918.1.Num 0 1000000000000000000 _ h1940))
            have e1942 := (ti (ti (ti (an e1922 (an e1923 (an (not_f (decide_eq_true h1921)) (ti (an e1925 (an e1926 (an e1927 (an e1928 (an e1929 (an e1930 (an (not_f (decide_eq_true h1924)) (ti (an e1932 (an e1933 (an e1934 (an (not_f (decide_eq_true h1931)) (ti (an (an (decide_eq_false h1935) trivial) (an (an (decide_eq_false h1935) trivial) (an (an (decide_eq_false h1935) trivial) (an (decide_eq_false h1935) (ti (an (an (decide_eq_false h1937) trivial) (an (an (decide_eq_false h1937) trivial) (an e1941 (an (an (decide_eq_false h1937) trivial) (an (decide_eq_false h1937) trivial))))))))))))))))))))))))))))))
            rcases ifs h with ⟨h1943, h⟩ | ⟨h1943, h⟩
            ·have e1944 := (ti (ti (ti (ti (ti (ti (ti (ti (ti trivial)))))))))
             obtain ⟨r1997, h1996, h⟩ := bs h
             have hph1996 := nspeculumlaw06_FigureLeast_l0_0_ok k a0 a1 r1913 r1918 _ _ _ _ h1996
             cases r1997 with
             | inl r1998 =>
              dsimp only at h
              have e2000 := (an (ti trivial) (VRun.loop hph1996))
              injection h with h; subst h
              exact fun_ok pm pn Go.Proofs.Try.func3 (r0 := vb r1998) (ans := [.reg (nN 3 []), .reg (.call (vb r1882) :: .n :: []), .br false, .reg (arE2_2 r1885 r1888 r1893 r1901 r1906), .br false, .reg (arE2_3 r1911 r1913), .reg (arE2_4 r1911 r1918), .reg (arE2_7 r1939), .br false, .reg (nN 9 []), .reg (.n :: []), .sub ⟨[(2, none), (3, none), (5, none), (7, none), (9, none), (10, none), (11, none)], [none, none, none], []⟩ .ret (nspeculumlaw06_FigureLeast_l0_0_e0 a0 a1 r1913 r1918 r1998)]) (fr := true) (by kernel_rfl) (an (an (ti (ti (ti trivial))) (an (an (an (nawake_ok k _ h1883) (ti trivial)) (an (not_f h1884) trivial)) (an (an e1909 (an (not_f h1910) trivial)) (an e1916 (an e1920 (an (an e1942 (an (not_f h1943) trivial)) (an e1944 (an (ti trivial) e2000)))))))) (ti trivial)) (Wv.refl _)
             | inr r1999 =>
              dsimp only at h
              have e2001 := (an (ti trivial) (VRun.loop hph1996))
              obtain ⟨r2002, h2003, h⟩ := bs h
              have e2004 := (nspeculumbase_Floor_ok k r1999 (w64 (a1.Start.Den * a1.Slope.Den)) _ h2003)
              obtain ⟨r2005, h2006, h⟩ := bs h
              have e2007 := (nspeculumbase_Floor_ok k r1918.1.Num r1918.1.Den _ h2006)
              have e2008 := (ti (ti (an e2004 (ti (ti (ti (ti (an e2007 (ti (ti trivial))))))))))
              rcases ifs h with ⟨h2009, h⟩ | ⟨h2009, h⟩
              ·have e2010 := (ti (ti (ti (ti (an (decide_eq_true h2009) (an (decide_eq_true h2009) (an (decide_eq_true h2009) (an (decide_eq_true h2009) (ti (ti (ti (ti (ti (ti (ti (ti (ti (ti (ti (ti (ti (ti (ti (ti (ti (ti (an (decide_eq_true h2009) (an (decide_eq_true h2009) (ti trivial)))))))))))))))))))))))))))))
               injection h with h; subst h
               exact fun_ok pm pn Go.Proofs.Try.func3 (r0 := vb true) (ans := [.reg (nN 3 []), .reg (.call (vb r1882) :: .n :: []), .br false, .reg (arE2_2 r1885 r1888 r1893 r1901 r1906), .br false, .reg (arE2_3 r1911 r1913), .reg (arE2_4 r1911 r1918), .reg (arE2_7 r1939), .br false, .reg (nN 9 []), .reg (.n :: []), .sub ⟨[(2, none), (3, none), (5, none), (7, none), (9, none), (10, none), (11, none)], [none, none, none], []⟩ (.exit 0) (nspeculumlaw06_FigureLeast_l0_0_e1 a0 a1 r1913 r1918 r1999), .reg (.n :: .n :: .call (vi r2002) :: nN 4 (.call (vi r2005) :: .n :: .n :: [])), .reg (nN 4 (nS 23 (.b true :: .n :: [])))]) (fr := true) (by kernel_rfl) (an (an (ti (ti (ti trivial))) (an (an (an (nawake_ok k _ h1883) (ti trivial)) (an (not_f h1884) trivial)) (an (an e1909 (an (not_f h1910) trivial)) (an e1916 (an e1920 (an (an e1942 (an (not_f h1943) trivial)) (an e1944 (an (an (ti trivial) e2001) (an e2008 (an e2010 trivial)))))))))) (ti trivial)) (Wv.refl _)
              ·rcases ifs h with ⟨h2011, h⟩ | ⟨h2011, h⟩
               ·have e2012 := (an (decide_eq_false h2009) (decide_eq_true h2011))
                have e2013 := (ti (ti (ti (ti (an (an (decide_eq_false h2009) trivial) (an (an (decide_eq_false h2009) trivial) (an (an (decide_eq_false h2009) trivial) (an (an (decide_eq_false h2009) trivial) (an (an (decide_eq_true h2011) trivial) (an (an (decide_eq_true h2011) trivial) (an (an (decide_eq_true h2011) trivial) (an (an (decide_eq_true h2011) trivial) (an (an (decide_eq_true h2011) trivial) (an (an (decide_eq_true h2011) trivial) (an (an (decide_eq_true h2011) trivial) (an (an (decide_eq_true h2011) trivial) (an (an (decide_eq_true h2011) trivial) (an (an (decide_eq_true h2011) trivial) (an (an (decide_eq_true h2011) trivial) (an (an (decide_eq_true h2011) trivial) (an (an (decide_eq_true h2011) trivial) (an (an (decide_eq_true h2011) trivial) (an (an (decide_eq_true h2011) trivial) (an (an (decide_eq_true h2011) trivial) (an (an (decide_eq_true h2011) trivial) (an (an (decide_eq_true h2011) trivial) (an e2012 (an (decide_eq_false h2009) (ti trivial)))))))))))))))))))))))))))))
                injection h with h; subst h
                exact fun_ok pm pn Go.Proofs.Try.func3 (r0 := vb (decide ((w64 ((w64 (r1918.1.Num - (w64 (r2005 * r1918.1.Den)))) * (w64 (a1.Start.Den * a1.Slope.Den)))) ≤ (w64 ((w64 (r1999 - (w64 (r2002 * (w64 (a1.Start.Den * a1.Slope.Den)))))) * r1918.1.Den))))) (ans := [.reg (nN 3 []), .reg (.call (vb r1882) :: .n :: []), .br false, .reg (arE2_2 r1885 r1888 r1893 r1901 r1906), .br false, .reg (arE2_3 r1911 r1913), .reg (arE2_4 r1911 r1918), .reg (arE2_7 r1939), .br false, .reg (nN 9 []), .reg (.n :: []), .sub ⟨[(2, none), (3, none), (5, none), (7, none), (9, none), (10, none), (11, none)], [none, none, none], []⟩ (.exit 0) (nspeculumlaw06_FigureLeast_l0_0_e1 a0 a1 r1913 r1918 r1999), .reg (.n :: .n :: .call (vi r2002) :: nN 4 (.call (vi r2005) :: .n :: .n :: [])), .reg (nN 26 (.b true :: .b false :: .n :: []))]) (fr := true) (by kernel_rfl) (an (an (ti (ti (ti trivial))) (an (an (an (nawake_ok k _ h1883) (ti trivial)) (an (not_f h1884) trivial)) (an (an e1909 (an (not_f h1910) trivial)) (an e1916 (an e1920 (an (an e1942 (an (not_f h1943) trivial)) (an e1944 (an (an (ti trivial) e2001) (an e2008 (an e2013 trivial)))))))))) (ti trivial)) (Wv.refl _)
               ·have e2014 := (an (decide_eq_false h2009) (decide_eq_false h2011))
                have e2015 := (ti (ti (ti (ti (an (an (decide_eq_false h2009) trivial) (an (an (decide_eq_false h2009) trivial) (an (an (decide_eq_false h2009) trivial) (an (an (decide_eq_false h2009) trivial) (an (decide_eq_false h2011) (an (decide_eq_false h2011) (an (decide_eq_false h2011) (an (decide_eq_false h2011) (an (decide_eq_false h2011) (an (decide_eq_false h2011) (an (decide_eq_false h2011) (an (decide_eq_false h2011) (an (decide_eq_false h2011) (an (decide_eq_false h2011) (an (decide_eq_false h2011) (an (decide_eq_false h2011) (an (decide_eq_false h2011) (an (decide_eq_false h2011) (an (decide_eq_false h2011) (an (decide_eq_false h2011) (an (decide_eq_false h2011) (an (decide_eq_false h2011) (an e2014 (an (decide_eq_false h2009) (ti trivial)))))))))))))))))))))))))))))
                injection h with h; subst h
                exact fun_ok pm pn Go.Proofs.Try.func3 (r0 := vb false) (ans := [.reg (nN 3 []), .reg (.call (vb r1882) :: .n :: []), .br false, .reg (arE2_2 r1885 r1888 r1893 r1901 r1906), .br false, .reg (arE2_3 r1911 r1913), .reg (arE2_4 r1911 r1918), .reg (arE2_7 r1939), .br false, .reg (nN 9 []), .reg (.n :: []), .sub ⟨[(2, none), (3, none), (5, none), (7, none), (9, none), (10, none), (11, none)], [none, none, none], []⟩ (.exit 0) (nspeculumlaw06_FigureLeast_l0_0_e1 a0 a1 r1913 r1918 r1999), .reg (.n :: .n :: .call (vi r2002) :: nN 4 (.call (vi r2005) :: .n :: .n :: [])), .reg (nN 8 (nS 18 (.b false :: .b false :: .n :: [])))]) (fr := true) (by kernel_rfl) (an (an (ti (ti (ti trivial))) (an (an (an (nawake_ok k _ h1883) (ti trivial)) (an (not_f h1884) trivial)) (an (an e1909 (an (not_f h1910) trivial)) (an e1916 (an e1920 (an (an e1942 (an (not_f h1943) trivial)) (an e1944 (an (an (ti trivial) e2001) (an e2008 (an e2015 trivial)))))))))) (ti trivial)) (Wv.refl _)
            ·injection h with h; subst h
             exact fun_ok pm pn Go.Proofs.Try.func3 (r0 := vb false) (ans := [.reg (nN 3 []), .reg (.call (vb r1882) :: .n :: []), .br false, .reg (arE2_2 r1885 r1888 r1893 r1901 r1906), .br false, .reg (arE2_3 r1911 r1913), .reg (arE2_4 r1911 r1918), .reg (arE2_7 r1939), .br true, .reg (.n :: [])]) (fr := true) (by kernel_rfl) (an (an (ti (ti (ti trivial))) (an (an (an (nawake_ok k _ h1883) (ti trivial)) (an (not_f h1884) trivial)) (an (an e1909 (an (not_f h1910) trivial)) (an e1916 (an e1920 (an e1942 (an (not_t (bool_f h1943)) (an (ti trivial) trivial)))))))) (ti trivial)) (Wv.refl _)
         ·have e2016 := (ti (ti (ti (an e1922 (an e1923 (an (not_f (decide_eq_true h1921)) (ti (an e1925 (an e1926 (an e1927 (an e1928 (an e1929 (an e1930 (an (not_f (decide_eq_true h1924)) (ti (an (not_t (decide_eq_false h1931)) (an (not_t (decide_eq_false h1931)) (an (not_t (decide_eq_false h1931)) (an (not_t (decide_eq_false h1931)) (ti (an rt (an rt (an rt (an rt (ti (an rt (an rt (an rt (an rt (an rt trivial))))))))))))))))))))))))))))))
          injection h with h; subst h
          exact fun_ok pm pn Go.Proofs.Try.func3 (r0 := vb false) (ans := [.reg (nN 3 []), .reg (.call (vb r1882) :: .n :: []), .br false, .reg (arE2_2 r1885 r1888 r1893 r1901 r1906), .br false, .reg (arE2_3 r1911 r1913), .reg (arE2_4 r1911 r1918), .reg arE2_8, .br true, .reg (.n :: [])]) (fr := true) (by kernel_rfl) (an (an (ti (ti (ti trivial))) (an (an (an (nawake_ok k _ h1883) (ti trivial)) (an (not_f h1884) trivial)) (an (an e1909 (an (not_f h1910) trivial)) (an e1916 (an e1920 (an e2016 (an rt (an (ti trivial) trivial)))))))) (ti trivial)) (Wv.refl _)
        ·have e2017 := (ti (ti (ti (an e1922 (an e1923 (an (not_f (decide_eq_true h1921)) (ti (an (not_t (decide_eq_false h1924)) (an (not_t (decide_eq_false h1924)) (an (not_t (decide_eq_false h1924)) (an (not_t (decide_eq_false h1924)) (an (not_t (decide_eq_false h1924)) (an (not_t (decide_eq_false h1924)) (an (not_t (decide_eq_false h1924)) (ti (an rt (an rt (an rt (an rt (ti (an rt (an rt (an rt (an rt (ti (an rt (an rt (an rt (an rt (an rt trivial))))))))))))))))))))))))))))))
         injection h with h; subst h
         exact fun_ok pm pn Go.Proofs.Try.func3 (r0 := vb false) (ans := [.reg (nN 3 []), .reg (.call (vb r1882) :: .n :: []), .br false, .reg (arE2_2 r1885 r1888 r1893 r1901 r1906), .br false, .reg (arE2_3 r1911 r1913), .reg (arE2_4 r1911 r1918), .reg arE2_9, .br true, .reg (.n :: [])]) (fr := true) (by kernel_rfl) (an (an (ti (ti (ti trivial))) (an (an (an (nawake_ok k _ h1883) (ti trivial)) (an (not_f h1884) trivial)) (an (an e1909 (an (not_f h1910) trivial)) (an e1916 (an e1920 (an e2017 (an rt (an (ti trivial) trivial)))))))) (ti trivial)) (Wv.refl _)
       ·have e2018 := (ti (ti (ti (an (not_t (decide_eq_false h1921)) (an (not_t (decide_eq_false h1921)) (an (not_t (decide_eq_false h1921)) (ti (an rt (an rt (an rt (an rt (an rt (an rt (an rt (ti (an rt (an rt (an rt (an rt (ti (an rt (an rt (an rt (an rt (ti (an rt (an rt (an rt (an rt (an rt trivial))))))))))))))))))))))))))))))
        injection h with h; subst h
        exact fun_ok pm pn Go.Proofs.Try.func3 (r0 := vb false) (ans := [.reg (nN 3 []), .reg (.call (vb r1882) :: .n :: []), .br false, .reg (arE2_2 r1885 r1888 r1893 r1901 r1906), .br false, .reg (arE2_3 r1911 r1913), .reg (arE2_4 r1911 r1918), .reg arE2_10, .br true, .reg (.n :: [])]) (fr := true) (by kernel_rfl) (an (an (ti (ti (ti trivial))) (an (an (an (nawake_ok k _ h1883) (ti trivial)) (an (not_f h1884) trivial)) (an (an e1909 (an (not_f h1910) trivial)) (an e1916 (an e1920 (an e2018 (an rt (an (ti trivial) trivial)))))))) (ti trivial)) (Wv.refl _)
      ·injection h with h; subst h
       exact fun_ok pm pn Go.Proofs.Try.func3 (r0 := vb true) (ans := [.reg (nN 3 []), .reg (.call (vb r1882) :: .n :: []), .br false, .reg (arE2_2 r1885 r1888 r1893 r1901 r1906), .br true, .reg (.n :: [])]) (fr := true) (by kernel_rfl) (an (an (ti (ti (ti trivial))) (an (an (an (nawake_ok k _ h1883) (ti trivial)) (an (not_f h1884) trivial)) (an e1909 (an (not_t (bool_f h1910)) (an (ti trivial) trivial))))) (ti trivial)) (Wv.refl _)
     ·have e2019 := (ti (an (nspeculumlaw06_Few_ok k a0 _ h1886) (ti (ti (an (an (not_f h1887) trivial) (an e1890 (an (an (not_f h1887) trivial) (an (not_f h1887) (ti (an e1892 (an e1895 (an e1896 (an (not_f (decide_eq_true h1891)) (ti (an e1898 (an e1899 (an e1900 (an e1903 (an e1904 (an (not_f (decide_eq_true h1897)) (ti (an (not_t (bool_f h1905)) (an (not_t (bool_f h1905)) (an (not_t (bool_f h1905)) (an (not_t (bool_f h1905)) (an (not_t (bool_f h1905)) (an (not_t (bool_f h1905)) trivial)))))))))))))))))))))))))))
      injection h with h; subst h
      exact fun_ok pm pn Go.Proofs.Try.func3 (r0 := vb true) (ans := [.reg (nN 3 []), .reg (.call (vb r1882) :: .n :: []), .br false, .reg (arE2_11 r1885 r1888 r1893 r1901), .br true, .reg (.n :: [])]) (fr := true) (by kernel_rfl) (an (an (ti (ti (ti trivial))) (an (an (an (nawake_ok k _ h1883) (ti trivial)) (an (not_f h1884) trivial)) (an e2019 (an rt (an (ti trivial) trivial))))) (ti trivial)) (Wv.refl _)
    ·have e2020 := (ti (an (nspeculumlaw06_Few_ok k a0 _ h1886) (ti (ti (an (an (not_f h1887) trivial) (an e1890 (an (an (not_f h1887) trivial) (an (not_f h1887) (ti (an e1892 (an e1895 (an e1896 (an (not_f (decide_eq_true h1891)) (ti (an (not_t (decide_eq_false h1897)) (an (not_t (decide_eq_false h1897)) (an (not_t (decide_eq_false h1897)) (an (not_t (decide_eq_false h1897)) (an (not_t (decide_eq_false h1897)) (an (not_t (decide_eq_false h1897)) (ti (an rt (an rt (an rt (an rt (an rt (an rt trivial)))))))))))))))))))))))))))
     injection h with h; subst h
     exact fun_ok pm pn Go.Proofs.Try.func3 (r0 := vb true) (ans := [.reg (nN 3 []), .reg (.call (vb r1882) :: .n :: []), .br false, .reg (arE2_12 r1885 r1888 r1893), .br true, .reg (.n :: [])]) (fr := true) (by kernel_rfl) (an (an (ti (ti (ti trivial))) (an (an (an (nawake_ok k _ h1883) (ti trivial)) (an (not_f h1884) trivial)) (an e2020 (an rt (an (ti trivial) trivial))))) (ti trivial)) (Wv.refl _)
   ·have e2021 := (ti (an (nspeculumlaw06_Few_ok k a0 _ h1886) (ti (ti (an (an (not_f h1887) trivial) (an e1890 (an (an (not_f h1887) trivial) (an (not_f h1887) (ti (an (not_t (decide_eq_false h1891)) (an (not_t (decide_eq_false h1891)) (an (not_t (decide_eq_false h1891)) (an (not_t (decide_eq_false h1891)) (ti (an rt (an rt (an rt (an rt (an rt (an rt (ti (an rt (an rt (an rt (an rt (an rt (an rt trivial)))))))))))))))))))))))))))
    injection h with h; subst h
    exact fun_ok pm pn Go.Proofs.Try.func3 (r0 := vb true) (ans := [.reg (nN 3 []), .reg (.call (vb r1882) :: .n :: []), .br false, .reg (arE2_13 r1885 r1888), .br true, .reg (.n :: [])]) (fr := true) (by kernel_rfl) (an (an (ti (ti (ti trivial))) (an (an (an (nawake_ok k _ h1883) (ti trivial)) (an (not_f h1884) trivial)) (an e2021 (an rt (an (ti trivial) trivial))))) (ti trivial)) (Wv.refl _)
  ·have e2022 := (ti (an (nspeculumlaw06_Few_ok k a0 _ h1886) (ti (ti (an (not_t (bool_f h1887)) (an (not_t (bool_f h1887)) (an (not_t (bool_f h1887)) (an (not_t (bool_f h1887)) (ti (an rt (an rt (an rt (an rt (ti (an rt (an rt (an rt (an rt (an rt (an rt (ti (an rt (an rt (an rt (an rt (an rt (an rt trivial)))))))))))))))))))))))))))
   injection h with h; subst h
   exact fun_ok pm pn Go.Proofs.Try.func3 (r0 := vb true) (ans := [.reg (nN 3 []), .reg (.call (vb r1882) :: .n :: []), .br false, .reg (arE2_14 r1885), .br true, .reg (.n :: [])]) (fr := true) (by kernel_rfl) (an (an (ti (ti (ti trivial))) (an (an (an (nawake_ok k _ h1883) (ti trivial)) (an (not_f h1884) trivial)) (an e2022 (an rt (an (ti trivial) trivial))))) (ti trivial)) (Wv.refl _)
 ·injection h with h; subst h
  exact fun_ok pm pn Go.Proofs.Try.func3 (r0 := vb false) (ans := [.reg (nN 3 []), .reg (.call (vb r1882) :: .n :: []), .br true, .reg (.n :: [])]) (fr := true) (by kernel_rfl) (an (an (ti (ti (ti trivial))) (an (an (nawake_ok k _ h1883) (ti trivial)) (an (not_t (bool_f h1884)) (an (ti trivial) trivial)))) (ti trivial)) (Wv.refl _)
end Go.Proofs.Ytmjepoalhmdfjaa.Vg

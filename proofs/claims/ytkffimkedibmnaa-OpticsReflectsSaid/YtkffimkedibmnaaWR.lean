/- Written by a program out of the program: what Go functions do, as plain functions, and their contracts. -/
import Derived.Test.YtkffimkedibmnaaO3
namespace Go.Proofs.Ytkffimkedibmnaa.Vg
set_option maxRecDepth 100000
set_option maxHeartbeats 4000000
set_option linter.unusedVariables false
set_option linter.unusedSimpArgs false
open Go Go.Proofs.Ytkffimkedibmnaa.Ev Go.Proofs.Ytkffimkedibmnaa.Vv
def arWR_0 (z0 : Bool) (z1 : Bool) : List Ans := (.n :: .n :: .call (vb z0) :: nN 5 (.call (vb z1) :: .n :: .b false :: nN 5 (.b false :: [])))
def arWR_1 (z0 : Bool) (z1 : Bool) : List Ans := (.n :: .n :: .call (vb z0) :: nN 5 (.call (vb z1) :: .n :: .b false :: .n :: nS 4 (.b true :: [])))
def arWR_2 (z0 : Bool) : List Ans := (.n :: .n :: .call (vb z0) :: .n :: .n :: nS 5 (.b true :: .n :: nS 4 (.b true :: [])))
def nspeculumref02_CheckRays (k : Nat) (a0 : SConic) : Option Int :=
  (nspeculumref02_CheckConic k a0).bind fun r1860 => (if r1860 = 0 then ((nspeculumbase_Within k a0.Radius (-200000) 200000).bind fun r1864 => (if r1864 = true then ((nspeculumbase_Within k a0.K.Num (-10) 10).bind fun r1868 => (if r1868 = true then (if 10 < a0.K.Den then (some 2) else (some 0)) else (some 2))) else (some 2))) else (some r1860))
theorem nspeculumref02_CheckRays_ok (k : Nat) (a0 : SConic) (r : Int) (h : nspeculumref02_CheckRays k a0 = some r) : VC Go.Proofs.Try.prog 25 [VV.ag (c_SConic a0)] (vi r) := by
 unfold nspeculumref02_CheckRays at h
 obtain ⟨r1860, h1861, h⟩ := bs h
 have e1862 := (nspeculumref02_CheckConic_ok k a0 _ h1861)
 rcases ifs h with ⟨h1863, h⟩ | ⟨h1863, h⟩
 ·obtain ⟨r1864, h1865, h⟩ := bs h
  have e1866 := (nspeculumbase_Within_ok k a0.Radius (-200000) 200000 _ h1865)
  rcases ifs h with ⟨h1867, h⟩ | ⟨h1867, h⟩
  ·obtain ⟨r1868, h1869, h⟩ := bs h
   have e1870 := (an (not_f h1867) (nspeculumbase_Within_ok k a0.K.Num (-10) 10 _ h1869))
   rcases ifs h with ⟨h1871, h⟩ | ⟨h1871, h⟩
   ·have e1872 := (ti (ti (an e1866 (ti (ti (an (an (not_f h1867) trivial) (an (an (not_f h1867) trivial) (an (an (not_f h1867) trivial) (an e1870 (an (an (not_f h1867) trivial) (an (not_f h1867) (ti (an (an (not_f h1871) trivial) (an (an (not_f h1871) trivial) (an (an (not_f h1871) trivial) (an (an (not_f h1871) trivial) (an (not_f h1871) trivial)))))))))))))))))
    rcases ifs h with ⟨h1873, h⟩ | ⟨h1873, h⟩
    ·injection h with h; subst h
     exact fun_ok pm pn Go.Proofs.Try.func25 (r0 := vi 2) (ans := [.reg (.n :: .n :: []), .reg (.n :: .call (vi r1860) :: .n :: []), .reg (.n :: .n :: []), .br false, .reg (arWR_0 r1864 r1868), .br true, .reg (.n :: [])]) (fr := true) (by kernel_rfl) (an (an (ti (ti trivial)) (an (an (ti (an e1862 (ti trivial))) (an (ti (ti trivial)) (an (not_f (decide_eq_true h1863)) trivial))) (an e1872 (an (decide_eq_true h1873) (an (ti trivial) trivial))))) (ti trivial)) (Wv.refl _)
    ·injection h with h; subst h
     exact fun_ok pm pn Go.Proofs.Try.func25 (r0 := vi 0) (ans := [.reg (.n :: .n :: []), .reg (.n :: .call (vi r1860) :: .n :: []), .reg (.n :: .n :: []), .br false, .reg (arWR_0 r1864 r1868), .br false, .reg (.n :: [])]) (fr := true) (by kernel_rfl) (an (an (ti (ti trivial)) (an (an (ti (an e1862 (ti trivial))) (an (ti (ti trivial)) (an (not_f (decide_eq_true h1863)) trivial))) (an (an e1872 (an (decide_eq_false h1873) trivial)) (an (ti trivial) trivial)))) (ti trivial)) (Wv.refl _)
   ·have e1874 := (ti (ti (an e1866 (ti (ti (an (an (not_f h1867) trivial) (an (an (not_f h1867) trivial) (an (an (not_f h1867) trivial) (an e1870 (an (an (not_f h1867) trivial) (an (not_f h1867) (ti (an (not_t (bool_f h1871)) (an (not_t (bool_f h1871)) (an (not_t (bool_f h1871)) (an (not_t (bool_f h1871)) (an (not_t (bool_f h1871)) trivial)))))))))))))))))
    injection h with h; subst h
    exact fun_ok pm pn Go.Proofs.Try.func25 (r0 := vi 2) (ans := [.reg (.n :: .n :: []), .reg (.n :: .call (vi r1860) :: .n :: []), .reg (.n :: .n :: []), .br false, .reg (arWR_1 r1864 r1868), .br true, .reg (.n :: [])]) (fr := true) (by kernel_rfl) (an (an (ti (ti trivial)) (an (an (ti (an e1862 (ti trivial))) (an (ti (ti trivial)) (an (not_f (decide_eq_true h1863)) trivial))) (an e1874 (an rt (an (ti trivial) trivial))))) (ti trivial)) (Wv.refl _)
  ·have e1875 := (ti (ti (an e1866 (ti (ti (an (not_t (bool_f h1867)) (an (not_t (bool_f h1867)) (an (not_t (bool_f h1867)) (an (not_t (bool_f h1867)) (an (not_t (bool_f h1867)) (an (not_t (bool_f h1867)) (ti (an rt (an rt (an rt (an rt (an rt trivial)))))))))))))))))
   injection h with h; subst h
   exact fun_ok pm pn Go.Proofs.Try.func25 (r0 := vi 2) (ans := [.reg (.n :: .n :: []), .reg (.n :: .call (vi r1860) :: .n :: []), .reg (.n :: .n :: []), .br false, .reg (arWR_2 r1864), .br true, .reg (.n :: [])]) (fr := true) (by kernel_rfl) (an (an (ti (ti trivial)) (an (an (ti (an e1862 (ti trivial))) (an (ti (ti trivial)) (an (not_f (decide_eq_true h1863)) trivial))) (an e1875 (an rt (an (ti trivial) trivial))))) (ti trivial)) (Wv.refl _)
 ·injection h with h; subst h
  exact fun_ok pm pn Go.Proofs.Try.func25 (r0 := vi r1860) (ans := [.reg (.n :: .n :: []), .reg (.n :: .call (vi r1860) :: .n :: []), .reg (.n :: .n :: []), .br true, .reg (.n :: .n :: [])]) (fr := true) (by kernel_rfl) (an (an (ti (ti trivial)) (an (ti (an e1862 (ti trivial))) (an (ti (ti trivial)) (an (not_t (decide_eq_false h1863)) (an (ti (ti trivial)) trivial))))) (ti trivial)) (Wv.refl _)
def nspeculumref02_CheckFrac (k : Nat) (a0 : SFrac) : Option Int :=
  (nspeculumbase_IsLowest k a0).bind fun r1888 => (if r1888 = true then ((nspeculumbase_IsSmall k a0).bind fun r1892 => (if r1892 = true then (some 0) else (some 2))) else (some 3))
theorem nspeculumref02_CheckFrac_ok (k : Nat) (a0 : SFrac) (r : Int) (h : nspeculumref02_CheckFrac k a0 = some r) : VC Go.Proofs.Try.prog 34 [VV.ag (c_SFrac a0)] (vi r) := by
 unfold nspeculumref02_CheckFrac at h
 obtain ⟨r1888, h1889, h⟩ := bs h
 have e1890 := (nspeculumbase_IsLowest_ok k a0 _ h1889)
 rcases ifs h with ⟨h1891, h⟩ | ⟨h1891, h⟩
 ·obtain ⟨r1892, h1893, h⟩ := bs h
  have e1894 := (ti (an (nspeculumbase_IsSmall_ok k a0 _ h1893) (ti trivial)))
  rcases ifs h with ⟨h1895, h⟩ | ⟨h1895, h⟩
  ·injection h with h; subst h
   exact fun_ok pm pn Go.Proofs.Try.func34 (r0 := vi 0) (ans := [.reg (.n :: .n :: []), .reg (.n :: .call (vb r1888) :: .n :: []), .br false, .reg (.n :: .call (vb r1892) :: .n :: []), .br false, .reg (.n :: [])]) (fr := true) (by kernel_rfl) (an (an (ti (ti trivial)) (an (an (ti (an e1890 (ti trivial))) (an (not_f h1891) trivial)) (an (an e1894 (an (not_f h1895) trivial)) (an (ti trivial) trivial)))) (ti trivial)) (Wv.refl _)
  ·injection h with h; subst h
   exact fun_ok pm pn Go.Proofs.Try.func34 (r0 := vi 2) (ans := [.reg (.n :: .n :: []), .reg (.n :: .call (vb r1888) :: .n :: []), .br false, .reg (.n :: .call (vb r1892) :: .n :: []), .br true, .reg (.n :: [])]) (fr := true) (by kernel_rfl) (an (an (ti (ti trivial)) (an (an (ti (an e1890 (ti trivial))) (an (not_f h1891) trivial)) (an e1894 (an (not_t (bool_f h1895)) (an (ti trivial) trivial))))) (ti trivial)) (Wv.refl _)
 ·injection h with h; subst h
  exact fun_ok pm pn Go.Proofs.Try.func34 (r0 := vi 3) (ans := [.reg (.n :: .n :: []), .reg (.n :: .call (vb r1888) :: .n :: []), .br true, .reg (.n :: [])]) (fr := true) (by kernel_rfl) (an (an (ti (ti trivial)) (an (ti (an e1890 (ti trivial))) (an (not_t (bool_f h1891)) (an (ti trivial) trivial)))) (ti trivial)) (Wv.refl _)
def nspeculumref02_CheckSpot (k : Nat) (a0 : SSpot) : Option Int :=
  (nspeculumref02_CheckFrac k a0.R).bind fun r1903 => (if r1903 = 0 then ((nspeculumref02_CheckFrac k a0.Z).bind fun r1907 => (some r1907)) else (some r1903))
theorem nspeculumref02_CheckSpot_ok (k : Nat) (a0 : SSpot) (r : Int) (h : nspeculumref02_CheckSpot k a0 = some r) : VC Go.Proofs.Try.prog 30 [VV.ag (c_SSpot a0)] (vi r) := by
 unfold nspeculumref02_CheckSpot at h
 obtain ⟨r1903, h1904, h⟩ := bs h
 have e1905 := (nspeculumref02_CheckFrac_ok k a0.R _ h1904)
 rcases ifs h with ⟨h1906, h⟩ | ⟨h1906, h⟩
 ·obtain ⟨r1907, h1908, h⟩ := bs h
  have e1909 := (nspeculumref02_CheckFrac_ok k a0.Z _ h1908)
  injection h with h; subst h
  exact fun_ok pm pn Go.Proofs.Try.func30 (r0 := vi r1907) (ans := [.reg (.n :: .n :: []), .reg (.n :: .n :: .call (vi r1903) :: .n :: []), .reg (.n :: .n :: []), .br false, .reg (.n :: .n :: .call (vi r1907) :: .n :: [])]) (fr := true) (by kernel_rfl) (an (an (ti (ti trivial)) (an (an (ti (ti (an e1905 (ti trivial)))) (an (ti (ti trivial)) (an (not_f (decide_eq_true h1906)) trivial))) (an (ti (ti (an e1909 (ti trivial)))) trivial))) (ti trivial)) (Wv.refl _)
 ·injection h with h; subst h
  exact fun_ok pm pn Go.Proofs.Try.func30 (r0 := vi r1903) (ans := [.reg (.n :: .n :: []), .reg (.n :: .n :: .call (vi r1903) :: .n :: []), .reg (.n :: .n :: []), .br true, .reg (.n :: .n :: [])]) (fr := true) (by kernel_rfl) (an (an (ti (ti trivial)) (an (ti (ti (an e1905 (ti trivial)))) (an (ti (ti trivial)) (an (not_t (decide_eq_false h1906)) (an (ti (ti trivial)) trivial))))) (ti trivial)) (Wv.refl _)
theorem eqWR_0  : ([⟨true, bigH, [vb ((⟨false⟩ : SWay).Large)]⟩] : List Blk) = ([⟨true, bigH, [vb false]⟩] : List Blk) := by first | rfl | (simp only [unfr_vb, List.map_cons, List.map_nil, un_b]; done) | (simp only [unfr_vb, List.map_cons, List.map_nil, un_b]; rfl) | (simp only [unfr_vb, List.map_cons, List.map_nil, un_b, List.length_cons, List.length_nil, List.length_append]; done)
def nspeculumref02_OnePlus (k : Nat) (a0 : SConic) : Option (Int × Int) :=
  some (w64 (a0.K.Num + a0.K.Den), a0.K.Den)
theorem nspeculumref02_OnePlus_ok (k : Nat) (a0 : SConic) (r : (Int × Int)) (h : nspeculumref02_OnePlus k a0 = some r) : VC Go.Proofs.Try.prog 74 [VV.ag (c_SConic a0)] (VV.tu [vi r.1, vi r.2]) := by
 unfold nspeculumref02_OnePlus at h
 have e1918 := (ti (ti (ti (ti (ti (ti (ti (ti (ti (ti (ti (ti trivial))))))))))))
 injection h with h; subst h
 exact fun_ok pm pn Go.Proofs.Try.func74 (r0 := VV.tu [vi (w64 (a0.K.Num + a0.K.Den)), vi a0.K.Den]) (ans := [.reg (nN 3 []), .reg (nN 12 [])]) (fr := true) (by kernel_rfl) (an (an (ti (ti (ti trivial))) (an e1918 trivial)) (ti (ti trivial))) (Wv.refl _)
def nspeculumref02_one (k : Nat) (a0 : SConic) : Option SFrac :=
  (nspeculumref02_OnePlus k a0).bind fun r1925 => ((nspeculumbase_Lowest k r1925.1 r1925.2).bind fun r1928 => (some r1928))
theorem nspeculumref02_one_ok (k : Nat) (a0 : SConic) (r : SFrac) (h : nspeculumref02_one k a0 = some r) : VC Go.Proofs.Try.prog 85 [VV.ag (c_SConic a0)] (VV.ag (c_SFrac r)) := by
 unfold nspeculumref02_one at h
 obtain ⟨r1925, h1926, h⟩ := bs h
 have e1927 := (nspeculumref02_OnePlus_ok k a0 _ h1926)
 obtain ⟨r1928, h1929, h⟩ := bs h
 have e1930 := (nspeculumbase_Lowest_ok k r1925.1 r1925.2 _ h1929)
 injection h with h; subst h
 exact fun_ok pm pn Go.Proofs.Try.func85 (r0 := VV.ag (c_SFrac r1928)) (ans := [.reg (.n :: .n :: []), .reg (.n :: .call (VV.tu [vi r1925.1, vi r1925.2]) :: nN 5 []), .reg (.n :: .n :: .call (VV.ag (c_SFrac r1928)) :: .n :: [])]) (fr := true) (by kernel_rfl) (an (an (ti (ti trivial)) (an (ti (an e1927 (ti (ti (ti (ti (ti trivial))))))) (an (ti (ti (an e1930 (ti trivial)))) trivial))) (an (ti (ti (ti trivial))) trivial)) (Wv.refl _)
theorem eqWR_1 (z0 : Int) : VV.ag [vi z0, vi 1] = VV.ag (c_SFrac (⟨z0, 1⟩ : SFrac)) := by first | rfl | (simp only [unfr_vi, List.map_cons, List.map_nil, un_i, unfr_c_SFrac]; done) | (simp only [unfr_vi, List.map_cons, List.map_nil, un_i, unfr_c_SFrac]; rfl) | (simp only [unfr_vi, List.map_cons, List.map_nil, un_i, unfr_c_SFrac, c_SFrac, List.length_cons, List.length_nil, List.length_append]; done)
def nspeculumref02_Whole (k : Nat) (a0 : Int) : Option SFrac :=
  some (⟨a0, 1⟩ : SFrac)
theorem nspeculumref02_Whole_ok (k : Nat) (a0 : Int) (r : SFrac) (h : nspeculumref02_Whole k a0 = some r) : VC Go.Proofs.Try.prog 58 [vi a0] (VV.ag (c_SFrac r)) := by
 unfold nspeculumref02_Whole at h
 injection h with h; subst h
 exact fun_ok pm pn Go.Proofs.Try.func58 (r0 := VV.ag [vi a0, vi 1]) (ans := [.reg (.n :: []), .reg (nN 3 [])]) (fr := true) (by kernel_rfl) (an (an (ti trivial) (an (ti (ti (ti trivial))) trivial)) (an (ti (ti (ti trivial))) trivial)) (Wv.of_eq (eqWR_1 a0))
def arWR_3 (z0 : (SFrac × SWay)) (z1 : SFrac) (z2 : (SFrac × SWay)) (z3 : (SFrac × SWay)) (z4 : (SFrac × SWay)) (z5 : SFrac) (z6 : (SFrac × SWay)) (z7 : (SFrac × SWay)) : List Ans := (nN 4 (.mod1 2 (VV.ag (c_SFrac z0.1)) ⟨true, bigH, [vb z0.2.Large]⟩ :: .n :: .call (VV.ag (c_SFrac z1)) :: nN 4 (.mod1 2 (VV.ag (c_SFrac z2.1)) ⟨true, bigH, [vb z2.2.Large]⟩ :: .mod1 2 (VV.ag (c_SFrac z3.1)) ⟨true, bigH, [vb z3.2.Large]⟩ :: .mod1 2 (VV.ag (c_SFrac z4.1)) ⟨true, bigH, [vb z4.2.Large]⟩ :: nN 3 (.call (VV.ag (c_SFrac z5)) :: .n :: .n :: .mod1 2 (VV.ag (c_SFrac z6.1)) ⟨true, bigH, [vb z6.2.Large]⟩ :: .mod1 2 (VV.ag (c_SFrac z7.1)) ⟨true, bigH, [vb z7.2.Large]⟩ :: .n :: .n :: []))))
def nspeculumref02_OnConic (k : Nat) (a0 : SConic) (a1 : SSpot) : Option (Bool × Int) :=
  (n_speculumref02_Way_Mul k (⟨false⟩ : SWay) a1.R a1.R).bind fun r1953 => ((nspeculumref02_one k a0).bind fun r1956 => ((n_speculumref02_Way_Mul k r1953.2 a1.Z a1.Z).bind fun r1958 => ((n_speculumref02_Way_Mul k r1958.2 r1956 r1958.1).bind fun r1961 => ((n_speculumref02_Way_Add k r1961.2 r1953.1 r1961.1).bind fun r1964 => ((nspeculumref02_Whole k (w64 (2 * a0.Radius))).bind fun r1967 => ((n_speculumref02_Way_Mul k r1964.2 r1967 a1.Z).bind fun r1970 => ((n_speculumref02_Way_Sub k r1970.2 r1964.1 r1970.1).bind fun r1973 => (if r1973.2.Large = true then (some (false, 8)) else (some (decide (r1973.1.Num = 0), 0))))))))))
theorem nspeculumref02_OnConic_ok (k : Nat) (a0 : SConic) (a1 : SSpot) (r : (Bool × Int)) (h : nspeculumref02_OnConic k a0 a1 = some r) : VC Go.Proofs.Try.prog 31 [VV.ag (c_SConic a0), VV.ag (c_SSpot a1)] (VV.tu [vb r.1, vi r.2]) := by
 unfold nspeculumref02_OnConic at h
 obtain ⟨r1953, h1954, h⟩ := bs h
 have e1955 := (an (VM.args (n_speculumref02_Way_Mul_ok k (⟨false⟩ : SWay) a1.R a1.R _ h1954) rfl eqWR_0 rfl) (an (ti trivial) (ti trivial)))
 obtain ⟨r1956, h1957, h⟩ := bs h
 obtain ⟨r1958, h1959, h⟩ := bs h
 have e1960 := (an (n_speculumref02_Way_Mul_ok k r1953.2 a1.Z a1.Z _ h1959) (an (ti trivial) (ti trivial)))
 obtain ⟨r1961, h1962, h⟩ := bs h
 have e1963 := (an (n_speculumref02_Way_Mul_ok k r1958.2 r1956 r1958.1 _ h1962) (an (ti trivial) (ti trivial)))
 obtain ⟨r1964, h1965, h⟩ := bs h
 have e1966 := (an (n_speculumref02_Way_Add_ok k r1961.2 r1953.1 r1961.1 _ h1965) (an (ti trivial) (ti trivial)))
 obtain ⟨r1967, h1968, h⟩ := bs h
 have e1969 := (nspeculumref02_Whole_ok k (w64 (2 * a0.Radius)) _ h1968)
 obtain ⟨r1970, h1971, h⟩ := bs h
 have e1972 := (an (n_speculumref02_Way_Mul_ok k r1964.2 r1967 a1.Z _ h1971) (an (ti trivial) (ti trivial)))
 obtain ⟨r1973, h1974, h⟩ := bs h
 have e1975 := (an (n_speculumref02_Way_Sub_ok k r1970.2 r1964.1 r1970.1 _ h1974) (an (ti trivial) (ti trivial)))
 have e1976 := (ti (ti (ti (ti (an e1955 (ti (an (nspeculumref02_one_ok k a0 _ h1957) (ti (ti (ti (ti (an e1960 (an e1963 (an e1966 (ti (ti (ti (an e1969 (ti (ti (an e1972 (an e1975 (ti (ti trivial))))))))))))))))))))))))
 rcases ifs h with ⟨h1977, h⟩ | ⟨h1977, h⟩
 ·injection h with h; subst h
  exact fun_ok pm pn Go.Proofs.Try.func31 (r0 := VV.tu [vb false, vi 8]) (ans := [.reg (nN 4 []), .reg (.n :: []), .reg (arWR_3 r1953 r1956 r1958 r1961 r1964 r1967 r1970 r1973), .reg (.n :: .n :: []), .br true, .reg (.n :: .n :: [])]) (fr := true) (by kernel_rfl) (an (an (ti (ti (ti (ti trivial)))) (an (ti trivial) (an e1976 (an (ti (ti trivial)) (an h1977 (an (ti (ti trivial)) trivial)))))) (ti (ti trivial))) (Wv.refl _)
 ·injection h with h; subst h
  exact fun_ok pm pn Go.Proofs.Try.func31 (r0 := VV.tu [vb (decide (r1973.1.Num = 0)), vi 0]) (ans := [.reg (nN 4 []), .reg (.n :: []), .reg (arWR_3 r1953 r1956 r1958 r1961 r1964 r1967 r1970 r1973), .reg (.n :: .n :: []), .br false, .reg (nN 5 [])]) (fr := true) (by kernel_rfl) (an (an (ti (ti (ti (ti trivial)))) (an (ti trivial) (an e1976 (an (an (ti (ti trivial)) (an (bool_f h1977) trivial)) (an (ti (ti (ti (ti (ti trivial))))) trivial))))) (ti (ti trivial))) (Wv.refl _)
def nspeculumref02_CheckToward (k : Nat) (a0 : A63) : Option Int :=
  (nspeculumbase_Within k a0.e0 (-1000) 1000).bind fun r2007 => (if r2007 = true then ((nspeculumbase_Within k a0.e1 (-1000) 1000).bind fun r2012 => (if r2012 = true then (if a0.e0 = 0 then (if a0.e1 = 0 then (some 11) else (some 0)) else (some 0)) else (some 2))) else (some 2))
theorem nspeculumref02_CheckToward_ok (k : Nat) (a0 : A63) (r : Int) (h : nspeculumref02_CheckToward k a0 = some r) : VC Go.Proofs.Try.prog 32 [VV.ag (c_A63 a0)] (vi r) := by
 unfold nspeculumref02_CheckToward at h
 have e2006 := (show (0:Int) ≤ 0 ∧ (0:Int) < ((2 : Nat) : Int) from ⟨by decide, by decide⟩)
 obtain ⟨r2007, h2008, h⟩ := bs h
 have e2009 := (nspeculumbase_Within_ok k a0.e0 (-1000) 1000 _ h2008)
 rcases ifs h with ⟨h2010, h⟩ | ⟨h2010, h⟩
 ·have e2011 := (an (not_f h2010) (show (0:Int) ≤ 1 ∧ (1:Int) < ((2 : Nat) : Int) from ⟨by decide, by decide⟩))
  obtain ⟨r2012, h2013, h⟩ := bs h
  have e2014 := (an (not_f h2010) (nspeculumbase_Within_ok k a0.e1 (-1000) 1000 _ h2013))
  have e2015 := (an e2006 (ti (an e2009 (ti (ti (an e2011 (an (an (not_f h2010) trivial) (an e2014 (an (an (not_f h2010) trivial) (an (not_f h2010) trivial))))))))))
  rcases ifs h with ⟨h2016, h⟩ | ⟨h2016, h⟩
  ·have e2017 := (show (0:Int) ≤ 0 ∧ (0:Int) < ((2 : Nat) : Int) from ⟨by decide, by decide⟩)
   rcases ifs h with ⟨h2018, h⟩ | ⟨h2018, h⟩
   ·have e2019 := (an (decide_eq_true h2018) (show (0:Int) ≤ 1 ∧ (1:Int) < ((2 : Nat) : Int) from ⟨by decide, by decide⟩))
    have e2020 := (an e2017 (ti (ti (ti (an e2019 (an (an (decide_eq_true h2018) trivial) (an (an (decide_eq_true h2018) trivial) (an (decide_eq_true h2018) trivial))))))))
    rcases ifs h with ⟨h2021, h⟩ | ⟨h2021, h⟩
    ·injection h with h; subst h
     exact fun_ok pm pn Go.Proofs.Try.func32 (r0 := vi 11) (ans := [.reg (.n :: .n :: []), .reg (.n :: .n :: .call (vb r2007) :: nN 4 (.call (vb r2012) :: .n :: .b false :: [])), .br false, .reg (nN 7 (.b true :: [])), .br true, .reg (.n :: [])]) (fr := true) (by kernel_rfl) (an (an (ti (ti trivial)) (an (an e2015 (an (not_f h2016) trivial)) (an e2020 (an (decide_eq_true h2021) (an (ti trivial) trivial))))) (ti trivial)) (Wv.refl _)
    ·injection h with h; subst h
     exact fun_ok pm pn Go.Proofs.Try.func32 (r0 := vi 0) (ans := [.reg (.n :: .n :: []), .reg (.n :: .n :: .call (vb r2007) :: nN 4 (.call (vb r2012) :: .n :: .b false :: [])), .br false, .reg (nN 7 (.b true :: [])), .br false, .reg (.n :: [])]) (fr := true) (by kernel_rfl) (an (an (ti (ti trivial)) (an (an e2015 (an (not_f h2016) trivial)) (an (an e2020 (an (decide_eq_false h2021) trivial)) (an (ti trivial) trivial)))) (ti trivial)) (Wv.refl _)
   ·have e2022 := (an e2017 (ti (ti (ti (an (decide_eq_false h2018) (an (decide_eq_false h2018) (an (decide_eq_false h2018) (an (decide_eq_false h2018) trivial))))))))
    injection h with h; subst h
    exact fun_ok pm pn Go.Proofs.Try.func32 (r0 := vi 0) (ans := [.reg (.n :: .n :: []), .reg (.n :: .n :: .call (vb r2007) :: nN 4 (.call (vb r2012) :: .n :: .b false :: [])), .br false, .reg (nN 4 (nS 3 (.b false :: []))), .br false, .reg (.n :: [])]) (fr := true) (by kernel_rfl) (an (an (ti (ti trivial)) (an (an e2015 (an (not_f h2016) trivial)) (an (an e2022 (an rf trivial)) (an (ti trivial) trivial)))) (ti trivial)) (Wv.refl _)
  ·injection h with h; subst h
   exact fun_ok pm pn Go.Proofs.Try.func32 (r0 := vi 2) (ans := [.reg (.n :: .n :: []), .reg (.n :: .n :: .call (vb r2007) :: nN 4 (.call (vb r2012) :: .n :: .b false :: [])), .br true, .reg (.n :: [])]) (fr := true) (by kernel_rfl) (an (an (ti (ti trivial)) (an e2015 (an (not_t (bool_f h2016)) (an (ti trivial) trivial)))) (ti trivial)) (Wv.refl _)
 ·have e2023 := (an e2006 (ti (an e2009 (ti (ti (an (not_t (bool_f h2010)) (an (not_t (bool_f h2010)) (an (not_t (bool_f h2010)) (an (not_t (bool_f h2010)) (an (not_t (bool_f h2010)) trivial))))))))))
  injection h with h; subst h
  exact fun_ok pm pn Go.Proofs.Try.func32 (r0 := vi 2) (ans := [.reg (.n :: .n :: []), .reg (.n :: .n :: .call (vb r2007) :: .n :: .n :: nS 4 (.b true :: [])), .br true, .reg (.n :: [])]) (fr := true) (by kernel_rfl) (an (an (ti (ti trivial)) (an e2023 (an rt (an (ti trivial) trivial)))) (ti trivial)) (Wv.refl _)
def arWR_4 (z0 : SFrac) (z1 : (SFrac × SWay)) (z2 : SFrac) (z3 : (SFrac × SWay)) : List Ans := (nN 3 (.call (VV.ag (c_SFrac z0)) :: .n :: .n :: .mod1 5 (VV.ag (c_SFrac z1.1)) ⟨true, bigH, [vb z1.2.Large]⟩ :: .n :: .n :: .call (VV.ag (c_SFrac z2)) :: .mod1 5 (VV.ag (c_SFrac z3.1)) ⟨true, bigH, [vb z3.2.Large]⟩ :: nN 3 []))
theorem eqWR_2  : VV.tu [VV.ag [vi 0, vi 0, vi 0, vi 0], vi 8] = VV.tu [VV.ag [vi (((⟨(⟨0, 0⟩ : SFrac), (⟨0, 0⟩ : SFrac)⟩ : A66).e0).Num), vi (((⟨(⟨0, 0⟩ : SFrac), (⟨0, 0⟩ : SFrac)⟩ : A66).e0).Den), vi (((⟨(⟨0, 0⟩ : SFrac), (⟨0, 0⟩ : SFrac)⟩ : A66).e1).Num), vi (((⟨(⟨0, 0⟩ : SFrac), (⟨0, 0⟩ : SFrac)⟩ : A66).e1).Den)], vi 8] := by first | rfl | (simp only [unfr_vi, List.map_cons, List.map_nil, un_i]; done) | (simp only [unfr_vi, List.map_cons, List.map_nil, un_i]; rfl) | (simp only [unfr_vi, List.map_cons, List.map_nil, un_i, List.length_cons, List.length_nil, List.length_append]; done)
theorem eqWR_3  : VV.tu [VV.ag [vi 0, vi 0, vi 0, vi 0], vi 11] = VV.tu [VV.ag [vi (((⟨(⟨0, 0⟩ : SFrac), (⟨0, 0⟩ : SFrac)⟩ : A66).e0).Num), vi (((⟨(⟨0, 0⟩ : SFrac), (⟨0, 0⟩ : SFrac)⟩ : A66).e0).Den), vi (((⟨(⟨0, 0⟩ : SFrac), (⟨0, 0⟩ : SFrac)⟩ : A66).e1).Num), vi (((⟨(⟨0, 0⟩ : SFrac), (⟨0, 0⟩ : SFrac)⟩ : A66).e1).Den)], vi 11] := by first | rfl | (simp only [unfr_vi, List.map_cons, List.map_nil, un_i]; done) | (simp only [unfr_vi, List.map_cons, List.map_nil, un_i]; rfl) | (simp only [unfr_vi, List.map_cons, List.map_nil, un_i, List.length_cons, List.length_nil, List.length_append]; done)
def arWR_5 (z0 : SFrac) (z1 : SFrac) : List Ans := (.n :: .n :: .call (VV.ag (c_SFrac z0)) :: .n :: .n :: .call (VV.ag (c_SFrac z1)) :: nN 3 [])
def arWR_6 (z0 : (SFrac × SWay)) (z1 : (SFrac × SWay)) (z2 : (SFrac × SWay)) : List Ans := (nN 4 (.mod1 5 (VV.ag (c_SFrac z0.1)) ⟨true, bigH, [vb z0.2.Large]⟩ :: nN 4 (.mod1 5 (VV.ag (c_SFrac z1.1)) ⟨true, bigH, [vb z1.2.Large]⟩ :: .mod1 5 (VV.ag (c_SFrac z2.1)) ⟨true, bigH, [vb z2.2.Large]⟩ :: .n :: .n :: [])))
def arWR_7 (z0 : SFrac) (z1 : (SFrac × SWay)) (z2 : (SFrac × SWay)) : List Ans := (.call (VV.ag (c_SFrac z0)) :: .n :: .mod1 5 (VV.ag (c_SFrac z1.1)) ⟨true, bigH, [vb z1.2.Large]⟩ :: .n :: .mod1 5 (VV.ag (c_SFrac z2.1)) ⟨true, bigH, [vb z2.2.Large]⟩ :: .n :: .n :: [])
def arWR_8 (z0 : (SFrac × SWay)) (z1 : (SFrac × SWay)) (z2 : (SFrac × SWay)) (z3 : (SFrac × SWay)) : List Ans := (nN 5 (.mod1 5 (VV.ag (c_SFrac z0.1)) ⟨true, bigH, [vb z0.2.Large]⟩ :: .mod1 5 (VV.ag (c_SFrac z1.1)) ⟨true, bigH, [vb z1.2.Large]⟩ :: nN 5 (.mod1 5 (VV.ag (c_SFrac z2.1)) ⟨true, bigH, [vb z2.2.Large]⟩ :: .mod1 5 (VV.ag (c_SFrac z3.1)) ⟨true, bigH, [vb z3.2.Large]⟩ :: nN 3 [])))
theorem eqWR_4 (z0 : (SFrac × SWay)) (z1 : (SFrac × SWay)) : VV.tu [VV.ag [vi z0.1.Num, vi z0.1.Den, vi z1.1.Num, vi z1.1.Den], vi 0] = VV.tu [VV.ag [vi (((⟨z0.1, z1.1⟩ : A66).e0).Num), vi (((⟨z0.1, z1.1⟩ : A66).e0).Den), vi (((⟨z0.1, z1.1⟩ : A66).e1).Num), vi (((⟨z0.1, z1.1⟩ : A66).e1).Den)], vi 0] := by first | rfl | (simp only [unfr_vi, List.map_cons, List.map_nil, un_i]; done) | (simp only [unfr_vi, List.map_cons, List.map_nil, un_i]; rfl) | (simp only [unfr_vi, List.map_cons, List.map_nil, un_i, List.length_cons, List.length_nil, List.length_append]; done)
theorem eqWR_5  : VV.tu [VV.ag [vi 0, vi 0, vi 0, vi 0], vi 24] = VV.tu [VV.ag [vi (((⟨(⟨0, 0⟩ : SFrac), (⟨0, 0⟩ : SFrac)⟩ : A66).e0).Num), vi (((⟨(⟨0, 0⟩ : SFrac), (⟨0, 0⟩ : SFrac)⟩ : A66).e0).Den), vi (((⟨(⟨0, 0⟩ : SFrac), (⟨0, 0⟩ : SFrac)⟩ : A66).e1).Num), vi (((⟨(⟨0, 0⟩ : SFrac), (⟨0, 0⟩ : SFrac)⟩ : A66).e1).Den)], vi 24] := by first | rfl | (simp only [unfr_vi, List.map_cons, List.map_nil, un_i]; done) | (simp only [unfr_vi, List.map_cons, List.map_nil, un_i]; rfl) | (simp only [unfr_vi, List.map_cons, List.map_nil, un_i, List.length_cons, List.length_nil, List.length_append]; done)
theorem eqWR_6 (z0 : (Bool × Int)) : VV.tu [VV.ag [vi 0, vi 0, vi 0, vi 0], vi z0.2] = VV.tu [VV.ag [vi (((⟨(⟨0, 0⟩ : SFrac), (⟨0, 0⟩ : SFrac)⟩ : A66).e0).Num), vi (((⟨(⟨0, 0⟩ : SFrac), (⟨0, 0⟩ : SFrac)⟩ : A66).e0).Den), vi (((⟨(⟨0, 0⟩ : SFrac), (⟨0, 0⟩ : SFrac)⟩ : A66).e1).Num), vi (((⟨(⟨0, 0⟩ : SFrac), (⟨0, 0⟩ : SFrac)⟩ : A66).e1).Den)], vi z0.2] := by first | rfl | (simp only [unfr_vi, List.map_cons, List.map_nil, un_i]; done) | (simp only [unfr_vi, List.map_cons, List.map_nil, un_i]; rfl) | (simp only [unfr_vi, List.map_cons, List.map_nil, un_i, List.length_cons, List.length_nil, List.length_append]; done)
def nspeculumref02_Reflect (k : Nat) (a0 : SConic) (a1 : SSpot) (a2 : A63) : Option (A66 × Int) :=
  (nspeculumref02_OnConic k a0 a1).bind fun r2181 => (if r2181.2 = 0 then (if r2181.1 = true then ((nspeculumref02_one k a0).bind fun r2187 => ((n_speculumref02_Way_Mul k (⟨false⟩ : SWay) r2187 a1.Z).bind fun r2189 => ((nspeculumref02_Whole k a0.Radius).bind fun r2192 => ((n_speculumref02_Way_Sub k r2189.2 r2189.1 r2192).bind fun r2195 => (if r2195.2.Large = true then (some ((⟨(⟨0, 0⟩ : SFrac), (⟨0, 0⟩ : SFrac)⟩ : A66), 8)) else (if a1.R.Num = 0 then (if r2195.1.Num = 0 then (some ((⟨(⟨0, 0⟩ : SFrac), (⟨0, 0⟩ : SFrac)⟩ : A66), 11)) else ((nspeculumref02_Whole k a2.e0).bind fun r2206 => ((nspeculumref02_Whole k a2.e1).bind fun r2210 => ((n_speculumref02_Way_Mul k r2195.2 r2206 a1.R).bind fun r2216 => ((n_speculumref02_Way_Mul k r2216.2 r2210 r2195.1).bind fun r2221 => ((n_speculumref02_Way_Add k r2221.2 r2216.1 r2221.1).bind fun r2224 => ((n_speculumref02_Way_Mul k r2224.2 a1.R a1.R).bind fun r2230 => ((n_speculumref02_Way_Mul k r2230.2 r2195.1 r2195.1).bind fun r2235 => ((n_speculumref02_Way_Add k r2235.2 r2230.1 r2235.1).bind fun r2238 => ((nspeculumref02_Whole k 2).bind fun r2242 => ((n_speculumref02_Way_Mul k r2238.2 r2242 r2224.1).bind fun r2244 => ((n_speculumref02_Way_Quo k r2244.2 r2244.1 r2238.1).bind fun r2247 => ((n_speculumref02_Way_Mul k r2247.2 r2247.1 a1.R).bind fun r2253 => ((n_speculumref02_Way_Sub k r2253.2 r2206 r2253.1).bind fun r2256 => ((n_speculumref02_Way_Mul k r2256.2 r2247.1 r2195.1).bind fun r2261 => ((n_speculumref02_Way_Sub k r2261.2 r2210 r2261.1).bind fun r2264 => (if r2264.2.Large = true then (some ((⟨(⟨0, 0⟩ : SFrac), (⟨0, 0⟩ : SFrac)⟩ : A66), 8)) else (some ((⟨r2256.1, r2264.1⟩ : A66), 0))))))))))))))))))) else ((nspeculumref02_Whole k a2.e0).bind fun r2271 => ((nspeculumref02_Whole k a2.e1).bind fun r2275 => ((n_speculumref02_Way_Mul k r2195.2 r2271 a1.R).bind fun r2281 => ((n_speculumref02_Way_Mul k r2281.2 r2275 r2195.1).bind fun r2286 => ((n_speculumref02_Way_Add k r2286.2 r2281.1 r2286.1).bind fun r2289 => ((n_speculumref02_Way_Mul k r2289.2 a1.R a1.R).bind fun r2295 => ((n_speculumref02_Way_Mul k r2295.2 r2195.1 r2195.1).bind fun r2300 => ((n_speculumref02_Way_Add k r2300.2 r2295.1 r2300.1).bind fun r2303 => ((nspeculumref02_Whole k 2).bind fun r2307 => ((n_speculumref02_Way_Mul k r2303.2 r2307 r2289.1).bind fun r2309 => ((n_speculumref02_Way_Quo k r2309.2 r2309.1 r2303.1).bind fun r2312 => ((n_speculumref02_Way_Mul k r2312.2 r2312.1 a1.R).bind fun r2318 => ((n_speculumref02_Way_Sub k r2318.2 r2271 r2318.1).bind fun r2321 => ((n_speculumref02_Way_Mul k r2321.2 r2312.1 r2195.1).bind fun r2326 => ((n_speculumref02_Way_Sub k r2326.2 r2275 r2326.1).bind fun r2329 => (if r2329.2.Large = true then (some ((⟨(⟨0, 0⟩ : SFrac), (⟨0, 0⟩ : SFrac)⟩ : A66), 8)) else (some ((⟨r2321.1, r2329.1⟩ : A66), 0)))))))))))))))))))))))) else (some ((⟨(⟨0, 0⟩ : SFrac), (⟨0, 0⟩ : SFrac)⟩ : A66), 24))) else (some ((⟨(⟨0, 0⟩ : SFrac), (⟨0, 0⟩ : SFrac)⟩ : A66), r2181.2)))
theorem nspeculumref02_Reflect_ok (k : Nat) (a0 : SConic) (a1 : SSpot) (a2 : A63) (r : (A66 × Int)) (h : nspeculumref02_Reflect k a0 a1 a2 = some r) : VC Go.Proofs.Try.prog 33 [VV.ag (c_SConic a0), VV.ag (c_SSpot a1), VV.ag (c_A63 a2)] (VV.tu [VV.ag (c_A66 r.1), vi r.2]) := by
 unfold nspeculumref02_Reflect at h
 obtain ⟨r2181, h2182, h⟩ := bs h
 have e2183 := (nspeculumref02_OnConic_ok k a0 a1 _ h2182)
 have e2184 := (ti (ti (an e2183 (ti (ti (ti (ti (ti trivial))))))))
 rcases ifs h with ⟨h2185, h⟩ | ⟨h2185, h⟩
 ·rcases ifs h with ⟨h2186, h⟩ | ⟨h2186, h⟩
  ·obtain ⟨r2187, h2188, h⟩ := bs h
   obtain ⟨r2189, h2190, h⟩ := bs h
   have e2191 := (an (VM.args (n_speculumref02_Way_Mul_ok k (⟨false⟩ : SWay) r2187 a1.Z _ h2190) rfl eqWR_0 rfl) (an (ti trivial) (ti trivial)))
   obtain ⟨r2192, h2193, h⟩ := bs h
   have e2194 := (nspeculumref02_Whole_ok k a0.Radius _ h2193)
   obtain ⟨r2195, h2196, h⟩ := bs h
   have e2197 := (an (n_speculumref02_Way_Sub_ok k r2189.2 r2189.1 r2192 _ h2196) (an (ti trivial) (ti trivial)))
   have e2198 := (ti (ti (ti (an (nspeculumref02_one_ok k a0 _ h2188) (ti (ti (an e2191 (ti (ti (an e2194 (an e2197 (ti (ti (ti trivial))))))))))))))
   rcases ifs h with ⟨h2199, h⟩ | ⟨h2199, h⟩
   ·injection h with h; subst h
    exact fun_ok pm pn Go.Proofs.Try.func33 (r0 := VV.tu [VV.ag [vi 0, vi 0, vi 0, vi 0], vi 8]) (ans := [.reg (nN 5 []), .reg (.n :: []), .reg (.n :: .n :: .call (VV.tu [vb r2181.1, vi r2181.2]) :: nN 5 []), .reg (.n :: .n :: []), .br false, .reg (.n :: .n :: []), .br false, .reg (.n :: []), .reg (arWR_4 r2187 r2189 r2192 r2195), .reg (.n :: .n :: []), .br true, .reg (nN 3 [])]) (fr := true) (by kernel_rfl) (an (an (ti (ti (ti (ti (ti trivial))))) (an (ti trivial) (an e2184 (an (an (ti (ti trivial)) (an (not_f (decide_eq_true h2185)) trivial)) (an (an (ti (ti trivial)) (an (not_f h2186) trivial)) (an (ti trivial) (an e2198 (an (ti (ti trivial)) (an h2199 (an (ti (ti (ti trivial))) trivial)))))))))) (an (ti (ti (ti (ti (ti trivial))))) (ti trivial))) (Wv.of_eq eqWR_2)
   ·have e2200 := (show (0:Int) ≤ 0 ∧ (0:Int) < ((2 : Nat) : Int) from ⟨by decide, by decide⟩)
    rcases ifs h with ⟨h2201, h⟩ | ⟨h2201, h⟩
    ·have e2202 := (an (decide_eq_true h2201) (show (0:Int) ≤ 1 ∧ (1:Int) < ((2 : Nat) : Int) from ⟨by decide, by decide⟩))
     have e2203 := (an e2200 (ti (ti (ti (ti (an e2202 (an (an (decide_eq_true h2201) trivial) (an (an (decide_eq_true h2201) trivial) (an (an (decide_eq_true h2201) trivial) (an (decide_eq_true h2201) trivial))))))))))
     rcases ifs h with ⟨h2204, h⟩ | ⟨h2204, h⟩
     ·injection h with h; subst h
      exact fun_ok pm pn Go.Proofs.Try.func33 (r0 := VV.tu [VV.ag [vi 0, vi 0, vi 0, vi 0], vi 11]) (ans := [.reg (nN 5 []), .reg (.n :: []), .reg (.n :: .n :: .call (VV.tu [vb r2181.1, vi r2181.2]) :: nN 5 []), .reg (.n :: .n :: []), .br false, .reg (.n :: .n :: []), .br false, .reg (.n :: []), .reg (arWR_4 r2187 r2189 r2192 r2195), .reg (.n :: .n :: []), .br false, .reg (nN 9 (.b true :: [])), .br true, .reg (nN 3 [])]) (fr := true) (by kernel_rfl) (an (an (ti (ti (ti (ti (ti trivial))))) (an (ti trivial) (an e2184 (an (an (ti (ti trivial)) (an (not_f (decide_eq_true h2185)) trivial)) (an (an (ti (ti trivial)) (an (not_f h2186) trivial)) (an (ti trivial) (an e2198 (an (an (ti (ti trivial)) (an (bool_f h2199) trivial)) (an e2203 (an (decide_eq_true h2204) (an (ti (ti (ti trivial))) trivial))))))))))) (an (ti (ti (ti (ti (ti trivial))))) (ti trivial))) (Wv.of_eq eqWR_3)
     ·have e2205 := (show (0:Int) ≤ 0 ∧ (0:Int) < ((2 : Nat) : Int) from ⟨by decide, by decide⟩)
      obtain ⟨r2206, h2207, h⟩ := bs h
      have e2208 := (nspeculumref02_Whole_ok k a2.e0 _ h2207)
      have e2209 := (show (0:Int) ≤ 1 ∧ (1:Int) < ((2 : Nat) : Int) from ⟨by decide, by decide⟩)
      obtain ⟨r2210, h2211, h⟩ := bs h
      have e2212 := (nspeculumref02_Whole_ok k a2.e1 _ h2211)
      have e2213 := (an e2205 (ti (an e2208 (an e2209 (ti (an e2212 (ti (ti (ti trivial)))))))))
      have e2214 := (show (0:Int) ≤ 0 ∧ (0:Int) < ((2 : Nat) : Int) from ⟨by decide, by decide⟩)
      have e2215 := (show (0:Int) ≤ 0 ∧ (0:Int) < ((2 : Nat) : Int) from ⟨by decide, by decide⟩)
      obtain ⟨r2216, h2217, h⟩ := bs h
      have e2218 := (an (n_speculumref02_Way_Mul_ok k r2195.2 r2206 a1.R _ h2217) (an (ti trivial) (ti trivial)))
      have e2219 := (show (0:Int) ≤ 1 ∧ (1:Int) < ((2 : Nat) : Int) from ⟨by decide, by decide⟩)
      have e2220 := (show (0:Int) ≤ 1 ∧ (1:Int) < ((2 : Nat) : Int) from ⟨by decide, by decide⟩)
      obtain ⟨r2221, h2222, h⟩ := bs h
      have e2223 := (an (n_speculumref02_Way_Mul_ok k r2216.2 r2210 r2195.1 _ h2222) (an (ti trivial) (ti trivial)))
      obtain ⟨r2224, h2225, h⟩ := bs h
      have e2226 := (an (n_speculumref02_Way_Add_ok k r2221.2 r2216.1 r2221.1 _ h2225) (an (ti trivial) (ti trivial)))
      have e2227 := (an e2214 (ti (an e2215 (ti (an e2218 (an e2219 (ti (an e2220 (ti (an e2223 (an e2226 (ti (ti trivial)))))))))))))
      have e2228 := (show (0:Int) ≤ 0 ∧ (0:Int) < ((2 : Nat) : Int) from ⟨by decide, by decide⟩)
      have e2229 := (show (0:Int) ≤ 0 ∧ (0:Int) < ((2 : Nat) : Int) from ⟨by decide, by decide⟩)
      obtain ⟨r2230, h2231, h⟩ := bs h
      have e2232 := (an (n_speculumref02_Way_Mul_ok k r2224.2 a1.R a1.R _ h2231) (an (ti trivial) (ti trivial)))
      have e2233 := (show (0:Int) ≤ 1 ∧ (1:Int) < ((2 : Nat) : Int) from ⟨by decide, by decide⟩)
      have e2234 := (show (0:Int) ≤ 1 ∧ (1:Int) < ((2 : Nat) : Int) from ⟨by decide, by decide⟩)
      obtain ⟨r2235, h2236, h⟩ := bs h
      have e2237 := (an (n_speculumref02_Way_Mul_ok k r2230.2 r2195.1 r2195.1 _ h2236) (an (ti trivial) (ti trivial)))
      obtain ⟨r2238, h2239, h⟩ := bs h
      have e2240 := (an (n_speculumref02_Way_Add_ok k r2235.2 r2230.1 r2235.1 _ h2239) (an (ti trivial) (ti trivial)))
      have e2241 := (an e2228 (ti (an e2229 (ti (an e2232 (an e2233 (ti (an e2234 (ti (an e2237 (an e2240 (ti (ti trivial)))))))))))))
      obtain ⟨r2242, h2243, h⟩ := bs h
      obtain ⟨r2244, h2245, h⟩ := bs h
      have e2246 := (an (n_speculumref02_Way_Mul_ok k r2238.2 r2242 r2224.1 _ h2245) (an (ti trivial) (ti trivial)))
      obtain ⟨r2247, h2248, h⟩ := bs h
      have e2249 := (an (n_speculumref02_Way_Quo_ok k r2244.2 r2244.1 r2238.1 _ h2248) (an (ti trivial) (ti trivial)))
      have e2250 := (an (nspeculumref02_Whole_ok k 2 _ h2243) (ti (an e2246 (ti (an e2249 (ti (ti trivial)))))))
      have e2251 := (show (0:Int) ≤ 0 ∧ (0:Int) < ((2 : Nat) : Int) from ⟨by decide, by decide⟩)
      have e2252 := (show (0:Int) ≤ 0 ∧ (0:Int) < ((2 : Nat) : Int) from ⟨by decide, by decide⟩)
      obtain ⟨r2253, h2254, h⟩ := bs h
      have e2255 := (an (n_speculumref02_Way_Mul_ok k r2247.2 r2247.1 a1.R _ h2254) (an (ti trivial) (ti trivial)))
      obtain ⟨r2256, h2257, h⟩ := bs h
      have e2258 := (an (n_speculumref02_Way_Sub_ok k r2253.2 r2206 r2253.1 _ h2257) (an (ti trivial) (ti trivial)))
      have e2259 := (show (0:Int) ≤ 1 ∧ (1:Int) < ((2 : Nat) : Int) from ⟨by decide, by decide⟩)
      have e2260 := (show (0:Int) ≤ 1 ∧ (1:Int) < ((2 : Nat) : Int) from ⟨by decide, by decide⟩)
      obtain ⟨r2261, h2262, h⟩ := bs h
      have e2263 := (an (n_speculumref02_Way_Mul_ok k r2256.2 r2247.1 r2195.1 _ h2262) (an (ti trivial) (ti trivial)))
      obtain ⟨r2264, h2265, h⟩ := bs h
      have e2266 := (an (n_speculumref02_Way_Sub_ok k r2261.2 r2210 r2261.1 _ h2265) (an (ti trivial) (ti trivial)))
      have e2267 := (an e2251 (ti (ti (an e2252 (ti (an e2255 (an e2258 (an e2259 (ti (ti (an e2260 (ti (an e2263 (an e2266 (ti (ti (ti trivial)))))))))))))))))
      rcases ifs h with ⟨h2268, h⟩ | ⟨h2268, h⟩
      ·injection h with h; subst h
       exact fun_ok pm pn Go.Proofs.Try.func33 (r0 := VV.tu [VV.ag [vi 0, vi 0, vi 0, vi 0], vi 8]) (ans := [.reg (nN 5 []), .reg (.n :: []), .reg (.n :: .n :: .call (VV.tu [vb r2181.1, vi r2181.2]) :: nN 5 []), .reg (.n :: .n :: []), .br false, .reg (.n :: .n :: []), .br false, .reg (.n :: []), .reg (arWR_4 r2187 r2189 r2192 r2195), .reg (.n :: .n :: []), .br false, .reg (nN 9 (.b true :: [])), .br false, .reg (arWR_5 r2206 r2210), .reg (arWR_6 r2216 r2221 r2224), .reg (arWR_6 r2230 r2235 r2238), .reg (arWR_7 r2242 r2244 r2247), .reg (arWR_8 r2253 r2256 r2261 r2264), .reg (.n :: .n :: []), .br true, .reg (nN 3 [])]) (fr := true) (by kernel_rfl) (an (an (ti (ti (ti (ti (ti trivial))))) (an (ti trivial) (an e2184 (an (an (ti (ti trivial)) (an (not_f (decide_eq_true h2185)) trivial)) (an (an (ti (ti trivial)) (an (not_f h2186) trivial)) (an (ti trivial) (an e2198 (an (an (ti (ti trivial)) (an (bool_f h2199) trivial)) (an (an e2203 (an (decide_eq_false h2204) trivial)) (an e2213 (an e2227 (an e2241 (an e2250 (an e2267 (an (ti (ti trivial)) (an h2268 (an (ti (ti (ti trivial))) trivial))))))))))))))))) (an (ti (ti (ti (ti (ti trivial))))) (ti trivial))) (Wv.of_eq eqWR_2)
      ·injection h with h; subst h
       exact fun_ok pm pn Go.Proofs.Try.func33 (r0 := VV.tu [VV.ag [vi r2256.1.Num, vi r2256.1.Den, vi r2264.1.Num, vi r2264.1.Den], vi 0]) (ans := [.reg (nN 5 []), .reg (.n :: []), .reg (.n :: .n :: .call (VV.tu [vb r2181.1, vi r2181.2]) :: nN 5 []), .reg (.n :: .n :: []), .br false, .reg (.n :: .n :: []), .br false, .reg (.n :: []), .reg (arWR_4 r2187 r2189 r2192 r2195), .reg (.n :: .n :: []), .br false, .reg (nN 9 (.b true :: [])), .br false, .reg (arWR_5 r2206 r2210), .reg (arWR_6 r2216 r2221 r2224), .reg (arWR_6 r2230 r2235 r2238), .reg (arWR_7 r2242 r2244 r2247), .reg (arWR_8 r2253 r2256 r2261 r2264), .reg (.n :: .n :: []), .br false, .reg (nN 3 [])]) (fr := true) (by kernel_rfl) (an (an (ti (ti (ti (ti (ti trivial))))) (an (ti trivial) (an e2184 (an (an (ti (ti trivial)) (an (not_f (decide_eq_true h2185)) trivial)) (an (an (ti (ti trivial)) (an (not_f h2186) trivial)) (an (ti trivial) (an e2198 (an (an (ti (ti trivial)) (an (bool_f h2199) trivial)) (an (an e2203 (an (decide_eq_false h2204) trivial)) (an e2213 (an e2227 (an e2241 (an e2250 (an e2267 (an (an (ti (ti trivial)) (an (bool_f h2268) trivial)) (an (ti (ti (ti trivial))) trivial)))))))))))))))) (an (ti (ti (ti (ti (ti trivial))))) (ti trivial))) (Wv.of_eq (eqWR_4 r2256 r2264))
    ·have e2269 := (an e2200 (ti (ti (ti (ti (an (decide_eq_false h2201) (an (decide_eq_false h2201) (an (decide_eq_false h2201) (an (decide_eq_false h2201) (an (decide_eq_false h2201) trivial))))))))))
     have e2270 := (show (0:Int) ≤ 0 ∧ (0:Int) < ((2 : Nat) : Int) from ⟨by decide, by decide⟩)
     obtain ⟨r2271, h2272, h⟩ := bs h
     have e2273 := (nspeculumref02_Whole_ok k a2.e0 _ h2272)
     have e2274 := (show (0:Int) ≤ 1 ∧ (1:Int) < ((2 : Nat) : Int) from ⟨by decide, by decide⟩)
     obtain ⟨r2275, h2276, h⟩ := bs h
     have e2277 := (nspeculumref02_Whole_ok k a2.e1 _ h2276)
     have e2278 := (an e2270 (ti (an e2273 (an e2274 (ti (an e2277 (ti (ti (ti trivial)))))))))
     have e2279 := (show (0:Int) ≤ 0 ∧ (0:Int) < ((2 : Nat) : Int) from ⟨by decide, by decide⟩)
     have e2280 := (show (0:Int) ≤ 0 ∧ (0:Int) < ((2 : Nat) : Int) from ⟨by decide, by decide⟩)
     obtain ⟨r2281, h2282, h⟩ := bs h
     have e2283 := (an (n_speculumref02_Way_Mul_ok k r2195.2 r2271 a1.R _ h2282) (an (ti trivial) (ti trivial)))
     have e2284 := (show (0:Int) ≤ 1 ∧ (1:Int) < ((2 : Nat) : Int) from ⟨by decide, by decide⟩)
     have e2285 := (show (0:Int) ≤ 1 ∧ (1:Int) < ((2 : Nat) : Int) from ⟨by decide, by decide⟩)
     obtain ⟨r2286, h2287, h⟩ := bs h
     have e2288 := (an (n_speculumref02_Way_Mul_ok k r2281.2 r2275 r2195.1 _ h2287) (an (ti trivial) (ti trivial)))
     obtain ⟨r2289, h2290, h⟩ := bs h
     have e2291 := (an (n_speculumref02_Way_Add_ok k r2286.2 r2281.1 r2286.1 _ h2290) (an (ti trivial) (ti trivial)))
     have e2292 := (an e2279 (ti (an e2280 (ti (an e2283 (an e2284 (ti (an e2285 (ti (an e2288 (an e2291 (ti (ti trivial)))))))))))))
     have e2293 := (show (0:Int) ≤ 0 ∧ (0:Int) < ((2 : Nat) : Int) from ⟨by decide, by decide⟩)
     have e2294 := (show (0:Int) ≤ 0 ∧ (0:Int) < ((2 : Nat) : Int) from ⟨by decide, by decide⟩)
     obtain ⟨r2295, h2296, h⟩ := bs h
     have e2297 := (an (n_speculumref02_Way_Mul_ok k r2289.2 a1.R a1.R _ h2296) (an (ti trivial) (ti trivial)))
     have e2298 := (show (0:Int) ≤ 1 ∧ (1:Int) < ((2 : Nat) : Int) from ⟨by decide, by decide⟩)
     have e2299 := (show (0:Int) ≤ 1 ∧ (1:Int) < ((2 : Nat) : Int) from ⟨by decide, by decide⟩)
     obtain ⟨r2300, h2301, h⟩ := bs h
     have e2302 := (an (n_speculumref02_Way_Mul_ok k r2295.2 r2195.1 r2195.1 _ h2301) (an (ti trivial) (ti trivial)))
     obtain ⟨r2303, h2304, h⟩ := bs h
     have e2305 := (an (n_speculumref02_Way_Add_ok k r2300.2 r2295.1 r2300.1 _ h2304) (an (ti trivial) (ti trivial)))
     have e2306 := (an e2293 (ti (an e2294 (ti (an e2297 (an e2298 (ti (an e2299 (ti (an e2302 (an e2305 (ti (ti trivial)))))))))))))
     obtain ⟨r2307, h2308, h⟩ := bs h
     obtain ⟨r2309, h2310, h⟩ := bs h
     have e2311 := (an (n_speculumref02_Way_Mul_ok k r2303.2 r2307 r2289.1 _ h2310) (an (ti trivial) (ti trivial)))
     obtain ⟨r2312, h2313, h⟩ := bs h
     have e2314 := (an (n_speculumref02_Way_Quo_ok k r2309.2 r2309.1 r2303.1 _ h2313) (an (ti trivial) (ti trivial)))
     have e2315 := (an (nspeculumref02_Whole_ok k 2 _ h2308) (ti (an e2311 (ti (an e2314 (ti (ti trivial)))))))
     have e2316 := (show (0:Int) ≤ 0 ∧ (0:Int) < ((2 : Nat) : Int) from ⟨by decide, by decide⟩)
     have e2317 := (show (0:Int) ≤ 0 ∧ (0:Int) < ((2 : Nat) : Int) from ⟨by decide, by decide⟩)
     obtain ⟨r2318, h2319, h⟩ := bs h
     have e2320 := (an (n_speculumref02_Way_Mul_ok k r2312.2 r2312.1 a1.R _ h2319) (an (ti trivial) (ti trivial)))
     obtain ⟨r2321, h2322, h⟩ := bs h
     have e2323 := (an (n_speculumref02_Way_Sub_ok k r2318.2 r2271 r2318.1 _ h2322) (an (ti trivial) (ti trivial)))
     have e2324 := (show (0:Int) ≤ 1 ∧ (1:Int) < ((2 : Nat) : Int) from ⟨by decide, by decide⟩)
     have e2325 := (show (0:Int) ≤ 1 ∧ (1:Int) < ((2 : Nat) : Int) from ⟨by decide, by decide⟩)
     obtain ⟨r2326, h2327, h⟩ := bs h
     have e2328 := (an (n_speculumref02_Way_Mul_ok k r2321.2 r2312.1 r2195.1 _ h2327) (an (ti trivial) (ti trivial)))
     obtain ⟨r2329, h2330, h⟩ := bs h
     have e2331 := (an (n_speculumref02_Way_Sub_ok k r2326.2 r2275 r2326.1 _ h2330) (an (ti trivial) (ti trivial)))
     have e2332 := (an e2316 (ti (ti (an e2317 (ti (an e2320 (an e2323 (an e2324 (ti (ti (an e2325 (ti (an e2328 (an e2331 (ti (ti (ti trivial)))))))))))))))))
     rcases ifs h with ⟨h2333, h⟩ | ⟨h2333, h⟩
     ·injection h with h; subst h
      exact fun_ok pm pn Go.Proofs.Try.func33 (r0 := VV.tu [VV.ag [vi 0, vi 0, vi 0, vi 0], vi 8]) (ans := [.reg (nN 5 []), .reg (.n :: []), .reg (.n :: .n :: .call (VV.tu [vb r2181.1, vi r2181.2]) :: nN 5 []), .reg (.n :: .n :: []), .br false, .reg (.n :: .n :: []), .br false, .reg (.n :: []), .reg (arWR_4 r2187 r2189 r2192 r2195), .reg (.n :: .n :: []), .br false, .reg (nN 5 (nS 4 (.b false :: []))), .br false, .reg (arWR_5 r2271 r2275), .reg (arWR_6 r2281 r2286 r2289), .reg (arWR_6 r2295 r2300 r2303), .reg (arWR_7 r2307 r2309 r2312), .reg (arWR_8 r2318 r2321 r2326 r2329), .reg (.n :: .n :: []), .br true, .reg (nN 3 [])]) (fr := true) (by kernel_rfl) (an (an (ti (ti (ti (ti (ti trivial))))) (an (ti trivial) (an e2184 (an (an (ti (ti trivial)) (an (not_f (decide_eq_true h2185)) trivial)) (an (an (ti (ti trivial)) (an (not_f h2186) trivial)) (an (ti trivial) (an e2198 (an (an (ti (ti trivial)) (an (bool_f h2199) trivial)) (an (an e2269 (an rf trivial)) (an e2278 (an e2292 (an e2306 (an e2315 (an e2332 (an (ti (ti trivial)) (an h2333 (an (ti (ti (ti trivial))) trivial))))))))))))))))) (an (ti (ti (ti (ti (ti trivial))))) (ti trivial))) (Wv.of_eq eqWR_2)
     ·injection h with h; subst h
      exact fun_ok pm pn Go.Proofs.Try.func33 (r0 := VV.tu [VV.ag [vi r2321.1.Num, vi r2321.1.Den, vi r2329.1.Num, vi r2329.1.Den], vi 0]) (ans := [.reg (nN 5 []), .reg (.n :: []), .reg (.n :: .n :: .call (VV.tu [vb r2181.1, vi r2181.2]) :: nN 5 []), .reg (.n :: .n :: []), .br false, .reg (.n :: .n :: []), .br false, .reg (.n :: []), .reg (arWR_4 r2187 r2189 r2192 r2195), .reg (.n :: .n :: []), .br false, .reg (nN 5 (nS 4 (.b false :: []))), .br false, .reg (arWR_5 r2271 r2275), .reg (arWR_6 r2281 r2286 r2289), .reg (arWR_6 r2295 r2300 r2303), .reg (arWR_7 r2307 r2309 r2312), .reg (arWR_8 r2318 r2321 r2326 r2329), .reg (.n :: .n :: []), .br false, .reg (nN 3 [])]) (fr := true) (by kernel_rfl) (an (an (ti (ti (ti (ti (ti trivial))))) (an (ti trivial) (an e2184 (an (an (ti (ti trivial)) (an (not_f (decide_eq_true h2185)) trivial)) (an (an (ti (ti trivial)) (an (not_f h2186) trivial)) (an (ti trivial) (an e2198 (an (an (ti (ti trivial)) (an (bool_f h2199) trivial)) (an (an e2269 (an rf trivial)) (an e2278 (an e2292 (an e2306 (an e2315 (an e2332 (an (an (ti (ti trivial)) (an (bool_f h2333) trivial)) (an (ti (ti (ti trivial))) trivial)))))))))))))))) (an (ti (ti (ti (ti (ti trivial))))) (ti trivial))) (Wv.of_eq (eqWR_4 r2321 r2329))
  ·injection h with h; subst h
   exact fun_ok pm pn Go.Proofs.Try.func33 (r0 := VV.tu [VV.ag [vi 0, vi 0, vi 0, vi 0], vi 24]) (ans := [.reg (nN 5 []), .reg (.n :: []), .reg (.n :: .n :: .call (VV.tu [vb r2181.1, vi r2181.2]) :: nN 5 []), .reg (.n :: .n :: []), .br false, .reg (.n :: .n :: []), .br true, .reg (nN 3 [])]) (fr := true) (by kernel_rfl) (an (an (ti (ti (ti (ti (ti trivial))))) (an (ti trivial) (an e2184 (an (an (ti (ti trivial)) (an (not_f (decide_eq_true h2185)) trivial)) (an (ti (ti trivial)) (an (not_t (bool_f h2186)) (an (ti (ti (ti trivial))) trivial))))))) (an (ti (ti (ti (ti (ti trivial))))) (ti trivial))) (Wv.of_eq eqWR_5)
 ·injection h with h; subst h
  exact fun_ok pm pn Go.Proofs.Try.func33 (r0 := VV.tu [VV.ag [vi 0, vi 0, vi 0, vi 0], vi r2181.2]) (ans := [.reg (nN 5 []), .reg (.n :: []), .reg (.n :: .n :: .call (VV.tu [vb r2181.1, vi r2181.2]) :: nN 5 []), .reg (.n :: .n :: []), .br true, .reg (nN 4 [])]) (fr := true) (by kernel_rfl) (an (an (ti (ti (ti (ti (ti trivial))))) (an (ti trivial) (an e2184 (an (ti (ti trivial)) (an (not_t (decide_eq_false h2185)) (an (ti (ti (ti (ti trivial)))) trivial)))))) (an (ti (ti (ti (ti (ti trivial))))) (ti trivial))) (Wv.of_eq (eqWR_6 r2181))
def arWR_9  : List Ans := (nN 4 (nS 3 (.b false :: .n :: .skip :: .skip :: .b false :: .n :: nS 3 (.b false :: .n :: []))))
def nspeculumlaw02_OpticsReflects (k : Nat) (a0 : SConic) (a1 : SSpot) (a2 : A63) : Option Bool :=
  (nspeculumlaw02_awake k).bind fun r2363 => (if r2363 = true then ((noptics_OnConic k a0 a1).bind fun r2367 => ((noptics_Reflect k a0 a1 a2).bind fun r2370 => ((nspeculumref02_CheckRays k a0).bind fun r2373 => (if r2373 = 0 then ((nspeculumref02_CheckSpot k a1).bind fun r2377 => (if r2377 = 0 then ((nspeculumref02_OnConic k a0 a1).bind fun r2381 => (if r2367.2 = r2381.2 then (if (r2367.1 == r2381.1) = true then ((nspeculumref02_CheckToward k a2).bind fun r2391 => (if r2391 = 0 then ((nspeculumref02_Reflect k a0 a1 a2).bind fun r2395 => (if r2370.2 = r2395.2 then (some ((r2370.1.e0.Num : Int) == r2395.1.e0.Num && ((r2370.1.e0.Den : Int) == r2395.1.e0.Den && ((r2370.1.e1.Num : Int) == r2395.1.e1.Num && ((r2370.1.e1.Den : Int) == r2395.1.e1.Den && true))))) else (some false))) else (if r2370.2 = r2391 then (some ((r2370.1.e0.Num : Int) == 0 && ((r2370.1.e0.Den : Int) == 0 && ((r2370.1.e1.Num : Int) == 0 && ((r2370.1.e1.Den : Int) == 0 && true))))) else (some false)))) else (some false)) else (some false))) else (if r2367.2 = r2377 then (if r2370.2 = r2377 then (if r2367.1 = true then (some false) else (some ((r2370.1.e0.Num : Int) == 0 && ((r2370.1.e0.Den : Int) == 0 && ((r2370.1.e1.Num : Int) == 0 && ((r2370.1.e1.Den : Int) == 0 && true)))))) else (some false)) else (some false)))) else (if r2367.2 = r2373 then (if r2370.2 = r2373 then (if r2367.1 = true then (some false) else (some ((r2370.1.e0.Num : Int) == 0 && ((r2370.1.e0.Den : Int) == 0 && ((r2370.1.e1.Num : Int) == 0 && ((r2370.1.e1.Den : Int) == 0 && true)))))) else (some false)) else (some false)))))) else (some false))
theorem nspeculumlaw02_OpticsReflects_ok (k : Nat) (a0 : SConic) (a1 : SSpot) (a2 : A63) (r : Bool) (h : nspeculumlaw02_OpticsReflects k a0 a1 a2 = some r) : VC Go.Proofs.Try.prog 7 [VV.ag (c_SConic a0), VV.ag (c_SSpot a1), VV.ag (c_A63 a2)] (vb r) := by
 unfold nspeculumlaw02_OpticsReflects at h
 obtain ⟨r2363, h2364, h⟩ := bs h
 have e2365 := (an (nspeculumlaw02_awake_ok k _ h2364) (ti trivial))
 rcases ifs h with ⟨h2366, h⟩ | ⟨h2366, h⟩
 ·obtain ⟨r2367, h2368, h⟩ := bs h
  have e2369 := (ti (ti (an (noptics_OnConic_ok k a0 a1 _ h2368) (ti (ti (ti (ti (ti trivial))))))))
  obtain ⟨r2370, h2371, h⟩ := bs h
  have e2372 := (ti (ti (ti (an (noptics_Reflect_ok k a0 a1 a2 _ h2371) (ti (ti (ti (ti (ti (ti trivial))))))))))
  obtain ⟨r2373, h2374, h⟩ := bs h
  have e2375 := (nspeculumref02_CheckRays_ok k a0 _ h2374)
  rcases ifs h with ⟨h2376, h⟩ | ⟨h2376, h⟩
  ·obtain ⟨r2377, h2378, h⟩ := bs h
   have e2379 := (nspeculumref02_CheckSpot_ok k a1 _ h2378)
   rcases ifs h with ⟨h2380, h⟩ | ⟨h2380, h⟩
   ·obtain ⟨r2381, h2382, h⟩ := bs h
    have e2383 := (nspeculumref02_OnConic_ok k a0 a1 _ h2382)
    have e2384 := (ti (ti (an e2383 (ti (ti (ti (ti (ti trivial))))))))
    rcases ifs h with ⟨h2385, h⟩ | ⟨h2385, h⟩
    ·have e2386 := (an (not_f (decide_eq_true h2385)) trivial)
     have e2387 := (an (not_f (decide_eq_true h2385)) trivial)
     have e2388 := (an (not_f (decide_eq_true h2385)) trivial)
     have e2389 := (ti (ti (ti (ti (an e2386 (an e2387 (an e2388 (an (not_f (decide_eq_true h2385)) trivial))))))))
     rcases ifs h with ⟨h2390, h⟩ | ⟨h2390, h⟩
     ·obtain ⟨r2391, h2392, h⟩ := bs h
      have e2393 := (nspeculumref02_CheckToward_ok k a2 _ h2392)
      rcases ifs h with ⟨h2394, h⟩ | ⟨h2394, h⟩
      ·obtain ⟨r2395, h2396, h⟩ := bs h
       have e2397 := (nspeculumref02_Reflect_ok k a0 a1 a2 _ h2396)
       have e2398 := (ti (ti (ti (an e2397 (ti (ti (ti (ti (ti (ti trivial))))))))))
       rcases ifs h with ⟨h2399, h⟩ | ⟨h2399, h⟩
       ·have e2400 := (an (decide_eq_true h2399) (show List.map kdV [Value.int .i64 r2370.1.e0.Num, Value.int .i64 r2370.1.e0.Den, Value.int .i64 r2370.1.e1.Num, Value.int .i64 r2370.1.e1.Den] = List.map kdV [Value.int .i64 r2395.1.e0.Num, Value.int .i64 r2395.1.e0.Den, Value.int .i64 r2395.1.e1.Num, Value.int .i64 r2395.1.e1.Den] ∧ EqOK Go.Proofs.Try.prog 66 (List.map kdV [Value.int .i64 r2395.1.e0.Num, Value.int .i64 r2395.1.e0.Den, Value.int .i64 r2395.1.e1.Num, Value.int .i64 r2395.1.e1.Den]) from ⟨rfl, eqok66⟩))
        have e2401 := (ti (ti (ti (ti (an (an (decide_eq_true h2399) trivial) (an (an (decide_eq_true h2399) trivial) (an e2400 (an (decide_eq_true h2399) (ti trivial)))))))))
        injection h with h; subst h
        exact fun_ok pm pn Go.Proofs.Try.func7 (r0 := vb ((r2370.1.e0.Num : Int) == r2395.1.e0.Num && ((r2370.1.e0.Den : Int) == r2395.1.e0.Den && ((r2370.1.e1.Num : Int) == r2395.1.e1.Num && ((r2370.1.e1.Den : Int) == r2395.1.e1.Den && true))))) (ans := [.reg (nN 4 []), .reg (.call (vb r2363) :: .n :: []), .br false, .reg (.n :: .n :: .call (VV.tu [vb r2367.1, vi r2367.2]) :: nN 5 []), .reg (nN 3 (.call (VV.tu [VV.ag (c_A66 r2370.1), vi r2370.2]) :: nN 6 [])), .reg (nN 3 []), .reg (.n :: .call (vi r2373) :: .n :: []), .reg (.n :: .n :: []), .br true, .reg (.n :: .call (vi r2377) :: .n :: []), .reg (.n :: .n :: []), .br false, .reg (.n :: .n :: .call (VV.tu [vb r2381.1, vi r2381.2]) :: nN 5 []), .reg (nN 7 (.b false :: [])), .br false, .reg (.n :: .call (vi r2391) :: .n :: []), .reg (.n :: .n :: []), .br false, .reg (nN 3 (.call (VV.tu [VV.ag (c_A66 r2395.1), vi r2395.2]) :: nN 6 [])), .reg (nN 7 (.b true :: .n :: []))]) (fr := true) (by kernel_rfl) (an (an (ti (ti (ti (ti trivial)))) (an (an e2365 (an (not_f h2366) trivial)) (an e2369 (an e2372 (an (ti (ti (ti trivial))) (an (ti (an e2375 (ti trivial))) (an (an (ti (ti trivial)) (an (decide_eq_true h2376) (ti (an e2379 (ti trivial))))) (an (an (ti (ti trivial)) (an (not_f (decide_eq_true h2380)) trivial)) (an e2384 (an (an e2389 (an (not_f h2390) trivial)) (an (an (ti (an e2393 (ti trivial))) (an (ti (ti trivial)) (an (not_f (decide_eq_true h2394)) trivial))) (an e2398 (an e2401 trivial))))))))))))) (ti trivial)) (Wv.refl _)
       ·have e2402 := (ti (ti (ti (ti (an (decide_eq_false h2399) (an (decide_eq_false h2399) (an (decide_eq_false h2399) (an (decide_eq_false h2399) (ti trivial)))))))))
        injection h with h; subst h
        exact fun_ok pm pn Go.Proofs.Try.func7 (r0 := vb false) (ans := [.reg (nN 4 []), .reg (.call (vb r2363) :: .n :: []), .br false, .reg (.n :: .n :: .call (VV.tu [vb r2367.1, vi r2367.2]) :: nN 5 []), .reg (nN 3 (.call (VV.tu [VV.ag (c_A66 r2370.1), vi r2370.2]) :: nN 6 [])), .reg (nN 3 []), .reg (.n :: .call (vi r2373) :: .n :: []), .reg (.n :: .n :: []), .br true, .reg (.n :: .call (vi r2377) :: .n :: []), .reg (.n :: .n :: []), .br false, .reg (.n :: .n :: .call (VV.tu [vb r2381.1, vi r2381.2]) :: nN 5 []), .reg (nN 7 (.b false :: [])), .br false, .reg (.n :: .call (vi r2391) :: .n :: []), .reg (.n :: .n :: []), .br false, .reg (nN 3 (.call (VV.tu [VV.ag (c_A66 r2395.1), vi r2395.2]) :: nN 6 [])), .reg (nN 4 (nS 3 (.b false :: .n :: [])))]) (fr := true) (by kernel_rfl) (an (an (ti (ti (ti (ti trivial)))) (an (an e2365 (an (not_f h2366) trivial)) (an e2369 (an e2372 (an (ti (ti (ti trivial))) (an (ti (an e2375 (ti trivial))) (an (an (ti (ti trivial)) (an (decide_eq_true h2376) (ti (an e2379 (ti trivial))))) (an (an (ti (ti trivial)) (an (not_f (decide_eq_true h2380)) trivial)) (an e2384 (an (an e2389 (an (not_f h2390) trivial)) (an (an (ti (an e2393 (ti trivial))) (an (ti (ti trivial)) (an (not_f (decide_eq_true h2394)) trivial))) (an e2398 (an e2402 trivial))))))))))))) (ti trivial)) (Wv.refl _)
      ·rcases ifs h with ⟨h2403, h⟩ | ⟨h2403, h⟩
       ·have e2404 := (an (decide_eq_true h2403) (show List.map kdV [Value.int .i64 r2370.1.e0.Num, Value.int .i64 r2370.1.e0.Den, Value.int .i64 r2370.1.e1.Num, Value.int .i64 r2370.1.e1.Den] = List.map kdV [Value.int .i64 0, Value.int .i64 0, Value.int .i64 0, Value.int .i64 0] ∧ EqOK Go.Proofs.Try.prog 66 (List.map kdV [Value.int .i64 0, Value.int .i64 0, Value.int .i64 0, Value.int .i64 0]) from ⟨rfl, eqok66⟩))
        have e2405 := (ti (ti (ti (ti (an (an (decide_eq_true h2403) trivial) (an (an (decide_eq_true h2403) trivial) (an e2404 (an (decide_eq_true h2403) (ti trivial)))))))))
        injection h with h; subst h
        exact fun_ok pm pn Go.Proofs.Try.func7 (r0 := vb ((r2370.1.e0.Num : Int) == 0 && ((r2370.1.e0.Den : Int) == 0 && ((r2370.1.e1.Num : Int) == 0 && ((r2370.1.e1.Den : Int) == 0 && true))))) (ans := [.reg (nN 4 []), .reg (.call (vb r2363) :: .n :: []), .br false, .reg (.n :: .n :: .call (VV.tu [vb r2367.1, vi r2367.2]) :: nN 5 []), .reg (nN 3 (.call (VV.tu [VV.ag (c_A66 r2370.1), vi r2370.2]) :: nN 6 [])), .reg (nN 3 []), .reg (.n :: .call (vi r2373) :: .n :: []), .reg (.n :: .n :: []), .br true, .reg (.n :: .call (vi r2377) :: .n :: []), .reg (.n :: .n :: []), .br false, .reg (.n :: .n :: .call (VV.tu [vb r2381.1, vi r2381.2]) :: nN 5 []), .reg (nN 7 (.b false :: [])), .br false, .reg (.n :: .call (vi r2391) :: .n :: []), .reg (.n :: .n :: []), .br true, .reg (nN 7 (.b true :: .n :: []))]) (fr := true) (by kernel_rfl) (an (an (ti (ti (ti (ti trivial)))) (an (an e2365 (an (not_f h2366) trivial)) (an e2369 (an e2372 (an (ti (ti (ti trivial))) (an (ti (an e2375 (ti trivial))) (an (an (ti (ti trivial)) (an (decide_eq_true h2376) (ti (an e2379 (ti trivial))))) (an (an (ti (ti trivial)) (an (not_f (decide_eq_true h2380)) trivial)) (an e2384 (an (an e2389 (an (not_f h2390) trivial)) (an (ti (an e2393 (ti trivial))) (an (ti (ti trivial)) (an (not_t (decide_eq_false h2394)) (an e2405 trivial)))))))))))))) (ti trivial)) (Wv.refl _)
       ·have e2406 := (ti (ti (ti (ti (an (decide_eq_false h2403) (an (decide_eq_false h2403) (an (decide_eq_false h2403) (an (decide_eq_false h2403) (ti trivial)))))))))
        injection h with h; subst h
        exact fun_ok pm pn Go.Proofs.Try.func7 (r0 := vb false) (ans := [.reg (nN 4 []), .reg (.call (vb r2363) :: .n :: []), .br false, .reg (.n :: .n :: .call (VV.tu [vb r2367.1, vi r2367.2]) :: nN 5 []), .reg (nN 3 (.call (VV.tu [VV.ag (c_A66 r2370.1), vi r2370.2]) :: nN 6 [])), .reg (nN 3 []), .reg (.n :: .call (vi r2373) :: .n :: []), .reg (.n :: .n :: []), .br true, .reg (.n :: .call (vi r2377) :: .n :: []), .reg (.n :: .n :: []), .br false, .reg (.n :: .n :: .call (VV.tu [vb r2381.1, vi r2381.2]) :: nN 5 []), .reg (nN 7 (.b false :: [])), .br false, .reg (.n :: .call (vi r2391) :: .n :: []), .reg (.n :: .n :: []), .br true, .reg (nN 4 (nS 3 (.b false :: .n :: [])))]) (fr := true) (by kernel_rfl) (an (an (ti (ti (ti (ti trivial)))) (an (an e2365 (an (not_f h2366) trivial)) (an e2369 (an e2372 (an (ti (ti (ti trivial))) (an (ti (an e2375 (ti trivial))) (an (an (ti (ti trivial)) (an (decide_eq_true h2376) (ti (an e2379 (ti trivial))))) (an (an (ti (ti trivial)) (an (not_f (decide_eq_true h2380)) trivial)) (an e2384 (an (an e2389 (an (not_f h2390) trivial)) (an (ti (an e2393 (ti trivial))) (an (ti (ti trivial)) (an (not_t (decide_eq_false h2394)) (an e2406 trivial)))))))))))))) (ti trivial)) (Wv.refl _)
     ·injection h with h; subst h
      exact fun_ok pm pn Go.Proofs.Try.func7 (r0 := vb false) (ans := [.reg (nN 4 []), .reg (.call (vb r2363) :: .n :: []), .br false, .reg (.n :: .n :: .call (VV.tu [vb r2367.1, vi r2367.2]) :: nN 5 []), .reg (nN 3 (.call (VV.tu [VV.ag (c_A66 r2370.1), vi r2370.2]) :: nN 6 [])), .reg (nN 3 []), .reg (.n :: .call (vi r2373) :: .n :: []), .reg (.n :: .n :: []), .br true, .reg (.n :: .call (vi r2377) :: .n :: []), .reg (.n :: .n :: []), .br false, .reg (.n :: .n :: .call (VV.tu [vb r2381.1, vi r2381.2]) :: nN 5 []), .reg (nN 7 (.b false :: [])), .br true, .reg (.n :: [])]) (fr := true) (by kernel_rfl) (an (an (ti (ti (ti (ti trivial)))) (an (an e2365 (an (not_f h2366) trivial)) (an e2369 (an e2372 (an (ti (ti (ti trivial))) (an (ti (an e2375 (ti trivial))) (an (an (ti (ti trivial)) (an (decide_eq_true h2376) (ti (an e2379 (ti trivial))))) (an (an (ti (ti trivial)) (an (not_f (decide_eq_true h2380)) trivial)) (an e2384 (an e2389 (an (not_t (bool_f h2390)) (an (ti trivial) trivial)))))))))))) (ti trivial)) (Wv.refl _)
    ·have e2407 := (ti (ti (ti (ti (an (not_t (decide_eq_false h2385)) (an (not_t (decide_eq_false h2385)) (an (not_t (decide_eq_false h2385)) (an (not_t (decide_eq_false h2385)) trivial))))))))
     injection h with h; subst h
     exact fun_ok pm pn Go.Proofs.Try.func7 (r0 := vb false) (ans := [.reg (nN 4 []), .reg (.call (vb r2363) :: .n :: []), .br false, .reg (.n :: .n :: .call (VV.tu [vb r2367.1, vi r2367.2]) :: nN 5 []), .reg (nN 3 (.call (VV.tu [VV.ag (c_A66 r2370.1), vi r2370.2]) :: nN 6 [])), .reg (nN 3 []), .reg (.n :: .call (vi r2373) :: .n :: []), .reg (.n :: .n :: []), .br true, .reg (.n :: .call (vi r2377) :: .n :: []), .reg (.n :: .n :: []), .br false, .reg (.n :: .n :: .call (VV.tu [vb r2381.1, vi r2381.2]) :: nN 5 []), .reg (nN 4 (nS 3 (.b true :: []))), .br true, .reg (.n :: [])]) (fr := true) (by kernel_rfl) (an (an (ti (ti (ti (ti trivial)))) (an (an e2365 (an (not_f h2366) trivial)) (an e2369 (an e2372 (an (ti (ti (ti trivial))) (an (ti (an e2375 (ti trivial))) (an (an (ti (ti trivial)) (an (decide_eq_true h2376) (ti (an e2379 (ti trivial))))) (an (an (ti (ti trivial)) (an (not_f (decide_eq_true h2380)) trivial)) (an e2384 (an e2407 (an rt (an (ti trivial) trivial)))))))))))) (ti trivial)) (Wv.refl _)
   ·rcases ifs h with ⟨h2408, h⟩ | ⟨h2408, h⟩
    ·rcases ifs h with ⟨h2409, h⟩ | ⟨h2409, h⟩
     ·rcases ifs h with ⟨h2410, h⟩ | ⟨h2410, h⟩
      ·have e2411 := (ti (ti (ti (ti (an (an (decide_eq_true h2408) trivial) (an (an (decide_eq_true h2408) trivial) (an (an (decide_eq_true h2408) trivial) (an (decide_eq_true h2408) (ti (an (an (decide_eq_true h2409) trivial) (an (an (decide_eq_true h2409) trivial) (an (decide_eq_true h2409) (ti (an (not_f h2410) (an (not_f h2410) (an (not_f h2410) (an (not_f h2410) (ti trivial))))))))))))))))))
       injection h with h; subst h
       exact fun_ok pm pn Go.Proofs.Try.func7 (r0 := vb false) (ans := [.reg (nN 4 []), .reg (.call (vb r2363) :: .n :: []), .br false, .reg (.n :: .n :: .call (VV.tu [vb r2367.1, vi r2367.2]) :: nN 5 []), .reg (nN 3 (.call (VV.tu [VV.ag (c_A66 r2370.1), vi r2370.2]) :: nN 6 [])), .reg (nN 3 []), .reg (.n :: .call (vi r2373) :: .n :: []), .reg (.n :: .n :: []), .br true, .reg (.n :: .call (vi r2377) :: .n :: []), .reg (.n :: .n :: []), .br true, .reg (nN 7 (.b true :: nN 3 (.b true :: .n :: nS 3 (.b false :: .n :: []))))]) (fr := true) (by kernel_rfl) (an (an (ti (ti (ti (ti trivial)))) (an (an e2365 (an (not_f h2366) trivial)) (an e2369 (an e2372 (an (ti (ti (ti trivial))) (an (ti (an e2375 (ti trivial))) (an (an (ti (ti trivial)) (an (decide_eq_true h2376) (ti (an e2379 (ti trivial))))) (an (ti (ti trivial)) (an (not_t (decide_eq_false h2380)) (an e2411 trivial)))))))))) (ti trivial)) (Wv.refl _)
      ·have e2412 := (an (not_t (bool_f h2410)) (show List.map kdV [Value.int .i64 r2370.1.e0.Num, Value.int .i64 r2370.1.e0.Den, Value.int .i64 r2370.1.e1.Num, Value.int .i64 r2370.1.e1.Den] = List.map kdV [Value.int .i64 0, Value.int .i64 0, Value.int .i64 0, Value.int .i64 0] ∧ EqOK Go.Proofs.Try.prog 66 (List.map kdV [Value.int .i64 0, Value.int .i64 0, Value.int .i64 0, Value.int .i64 0]) from ⟨rfl, eqok66⟩))
       have e2413 := (ti (ti (ti (ti (an (an (decide_eq_true h2408) trivial) (an (an (decide_eq_true h2408) trivial) (an (an (decide_eq_true h2408) trivial) (an (decide_eq_true h2408) (ti (an (an (decide_eq_true h2409) trivial) (an (an (decide_eq_true h2409) trivial) (an (decide_eq_true h2409) (ti (an (an (not_t (bool_f h2410)) trivial) (an (an (not_t (bool_f h2410)) trivial) (an e2412 (an (not_t (bool_f h2410)) (ti trivial))))))))))))))))))
       injection h with h; subst h
       exact fun_ok pm pn Go.Proofs.Try.func7 (r0 := vb ((r2370.1.e0.Num : Int) == 0 && ((r2370.1.e0.Den : Int) == 0 && ((r2370.1.e1.Num : Int) == 0 && ((r2370.1.e1.Den : Int) == 0 && true))))) (ans := [.reg (nN 4 []), .reg (.call (vb r2363) :: .n :: []), .br false, .reg (.n :: .n :: .call (VV.tu [vb r2367.1, vi r2367.2]) :: nN 5 []), .reg (nN 3 (.call (VV.tu [VV.ag (c_A66 r2370.1), vi r2370.2]) :: nN 6 [])), .reg (nN 3 []), .reg (.n :: .call (vi r2373) :: .n :: []), .reg (.n :: .n :: []), .br true, .reg (.n :: .call (vi r2377) :: .n :: []), .reg (.n :: .n :: []), .br true, .reg (nN 7 (.b true :: nN 3 (.b true :: nN 4 (.b true :: .n :: []))))]) (fr := true) (by kernel_rfl) (an (an (ti (ti (ti (ti trivial)))) (an (an e2365 (an (not_f h2366) trivial)) (an e2369 (an e2372 (an (ti (ti (ti trivial))) (an (ti (an e2375 (ti trivial))) (an (an (ti (ti trivial)) (an (decide_eq_true h2376) (ti (an e2379 (ti trivial))))) (an (ti (ti trivial)) (an (not_t (decide_eq_false h2380)) (an e2413 trivial)))))))))) (ti trivial)) (Wv.refl _)
     ·have e2414 := (ti (ti (ti (ti (an (an (decide_eq_true h2408) trivial) (an (an (decide_eq_true h2408) trivial) (an (an (decide_eq_true h2408) trivial) (an (decide_eq_true h2408) (ti (an (decide_eq_false h2409) (an (decide_eq_false h2409) (an (decide_eq_false h2409) (ti (an rf (an rf (an rf (an rf (ti trivial))))))))))))))))))
      injection h with h; subst h
      exact fun_ok pm pn Go.Proofs.Try.func7 (r0 := vb false) (ans := [.reg (nN 4 []), .reg (.call (vb r2363) :: .n :: []), .br false, .reg (.n :: .n :: .call (VV.tu [vb r2367.1, vi r2367.2]) :: nN 5 []), .reg (nN 3 (.call (VV.tu [VV.ag (c_A66 r2370.1), vi r2370.2]) :: nN 6 [])), .reg (nN 3 []), .reg (.n :: .call (vi r2373) :: .n :: []), .reg (.n :: .n :: []), .br true, .reg (.n :: .call (vi r2377) :: .n :: []), .reg (.n :: .n :: []), .br true, .reg (nN 7 (.b true :: .n :: .skip :: .skip :: .b false :: .n :: nS 3 (.b false :: .n :: [])))]) (fr := true) (by kernel_rfl) (an (an (ti (ti (ti (ti trivial)))) (an (an e2365 (an (not_f h2366) trivial)) (an e2369 (an e2372 (an (ti (ti (ti trivial))) (an (ti (an e2375 (ti trivial))) (an (an (ti (ti trivial)) (an (decide_eq_true h2376) (ti (an e2379 (ti trivial))))) (an (ti (ti trivial)) (an (not_t (decide_eq_false h2380)) (an e2414 trivial)))))))))) (ti trivial)) (Wv.refl _)
    ·have e2415 := (ti (ti (ti (ti (an (decide_eq_false h2408) (an (decide_eq_false h2408) (an (decide_eq_false h2408) (an (decide_eq_false h2408) (ti (an rf (an rf (an rf (ti (an rf (an rf (an rf (an rf (ti trivial))))))))))))))))))
     injection h with h; subst h
     exact fun_ok pm pn Go.Proofs.Try.func7 (r0 := vb false) (ans := [.reg (nN 4 []), .reg (.call (vb r2363) :: .n :: []), .br false, .reg (.n :: .n :: .call (VV.tu [vb r2367.1, vi r2367.2]) :: nN 5 []), .reg (nN 3 (.call (VV.tu [VV.ag (c_A66 r2370.1), vi r2370.2]) :: nN 6 [])), .reg (nN 3 []), .reg (.n :: .call (vi r2373) :: .n :: []), .reg (.n :: .n :: []), .br true, .reg (.n :: .call (vi r2377) :: .n :: []), .reg (.n :: .n :: []), .br true, .reg arWR_9]) (fr := true) (by kernel_rfl) (an (an (ti (ti (ti (ti trivial)))) (an (an e2365 (an (not_f h2366) trivial)) (an e2369 (an e2372 (an (ti (ti (ti trivial))) (an (ti (an e2375 (ti trivial))) (an (an (ti (ti trivial)) (an (decide_eq_true h2376) (ti (an e2379 (ti trivial))))) (an (ti (ti trivial)) (an (not_t (decide_eq_false h2380)) (an e2415 trivial)))))))))) (ti trivial)) (Wv.refl _)
  ·rcases ifs h with ⟨h2416, h⟩ | ⟨h2416, h⟩
   ·rcases ifs h with ⟨h2417, h⟩ | ⟨h2417, h⟩
    ·rcases ifs h with ⟨h2418, h⟩ | ⟨h2418, h⟩
     ·have e2419 := (ti (ti (ti (ti (an (an (decide_eq_true h2416) trivial) (an (an (decide_eq_true h2416) trivial) (an (an (decide_eq_true h2416) trivial) (an (decide_eq_true h2416) (ti (an (an (decide_eq_true h2417) trivial) (an (an (decide_eq_true h2417) trivial) (an (decide_eq_true h2417) (ti (an (not_f h2418) (an (not_f h2418) (an (not_f h2418) (an (not_f h2418) (ti trivial))))))))))))))))))
      injection h with h; subst h
      exact fun_ok pm pn Go.Proofs.Try.func7 (r0 := vb false) (ans := [.reg (nN 4 []), .reg (.call (vb r2363) :: .n :: []), .br false, .reg (.n :: .n :: .call (VV.tu [vb r2367.1, vi r2367.2]) :: nN 5 []), .reg (nN 3 (.call (VV.tu [VV.ag (c_A66 r2370.1), vi r2370.2]) :: nN 6 [])), .reg (nN 3 []), .reg (.n :: .call (vi r2373) :: .n :: []), .reg (.n :: .n :: []), .br false, .reg (.n :: .n :: []), .br true, .reg (nN 7 (.b true :: nN 3 (.b true :: .n :: nS 3 (.b false :: .n :: []))))]) (fr := true) (by kernel_rfl) (an (an (ti (ti (ti (ti trivial)))) (an (an e2365 (an (not_f h2366) trivial)) (an e2369 (an e2372 (an (ti (ti (ti trivial))) (an (ti (an e2375 (ti trivial))) (an (an (ti (ti trivial)) (an (decide_eq_false h2376) trivial)) (an (ti (ti trivial)) (an (not_t (decide_eq_false h2376)) (an e2419 trivial)))))))))) (ti trivial)) (Wv.refl _)
     ·have e2420 := (an (not_t (bool_f h2418)) (show List.map kdV [Value.int .i64 r2370.1.e0.Num, Value.int .i64 r2370.1.e0.Den, Value.int .i64 r2370.1.e1.Num, Value.int .i64 r2370.1.e1.Den] = List.map kdV [Value.int .i64 0, Value.int .i64 0, Value.int .i64 0, Value.int .i64 0] ∧ EqOK Go.Proofs.Try.prog 66 (List.map kdV [Value.int .i64 0, Value.int .i64 0, Value.int .i64 0, Value.int .i64 0]) from ⟨rfl, eqok66⟩))
      have e2421 := (ti (ti (ti (ti (an (an (decide_eq_true h2416) trivial) (an (an (decide_eq_true h2416) trivial) (an (an (decide_eq_true h2416) trivial) (an (decide_eq_true h2416) (ti (an (an (decide_eq_true h2417) trivial) (an (an (decide_eq_true h2417) trivial) (an (decide_eq_true h2417) (ti (an (an (not_t (bool_f h2418)) trivial) (an (an (not_t (bool_f h2418)) trivial) (an e2420 (an (not_t (bool_f h2418)) (ti trivial))))))))))))))))))
      injection h with h; subst h
      exact fun_ok pm pn Go.Proofs.Try.func7 (r0 := vb ((r2370.1.e0.Num : Int) == 0 && ((r2370.1.e0.Den : Int) == 0 && ((r2370.1.e1.Num : Int) == 0 && ((r2370.1.e1.Den : Int) == 0 && true))))) (ans := [.reg (nN 4 []), .reg (.call (vb r2363) :: .n :: []), .br false, .reg (.n :: .n :: .call (VV.tu [vb r2367.1, vi r2367.2]) :: nN 5 []), .reg (nN 3 (.call (VV.tu [VV.ag (c_A66 r2370.1), vi r2370.2]) :: nN 6 [])), .reg (nN 3 []), .reg (.n :: .call (vi r2373) :: .n :: []), .reg (.n :: .n :: []), .br false, .reg (.n :: .n :: []), .br true, .reg (nN 7 (.b true :: nN 3 (.b true :: nN 4 (.b true :: .n :: []))))]) (fr := true) (by kernel_rfl) (an (an (ti (ti (ti (ti trivial)))) (an (an e2365 (an (not_f h2366) trivial)) (an e2369 (an e2372 (an (ti (ti (ti trivial))) (an (ti (an e2375 (ti trivial))) (an (an (ti (ti trivial)) (an (decide_eq_false h2376) trivial)) (an (ti (ti trivial)) (an (not_t (decide_eq_false h2376)) (an e2421 trivial)))))))))) (ti trivial)) (Wv.refl _)
    ·have e2422 := (ti (ti (ti (ti (an (an (decide_eq_true h2416) trivial) (an (an (decide_eq_true h2416) trivial) (an (an (decide_eq_true h2416) trivial) (an (decide_eq_true h2416) (ti (an (decide_eq_false h2417) (an (decide_eq_false h2417) (an (decide_eq_false h2417) (ti (an rf (an rf (an rf (an rf (ti trivial))))))))))))))))))
     injection h with h; subst h
     exact fun_ok pm pn Go.Proofs.Try.func7 (r0 := vb false) (ans := [.reg (nN 4 []), .reg (.call (vb r2363) :: .n :: []), .br false, .reg (.n :: .n :: .call (VV.tu [vb r2367.1, vi r2367.2]) :: nN 5 []), .reg (nN 3 (.call (VV.tu [VV.ag (c_A66 r2370.1), vi r2370.2]) :: nN 6 [])), .reg (nN 3 []), .reg (.n :: .call (vi r2373) :: .n :: []), .reg (.n :: .n :: []), .br false, .reg (.n :: .n :: []), .br true, .reg (nN 7 (.b true :: .n :: .skip :: .skip :: .b false :: .n :: nS 3 (.b false :: .n :: [])))]) (fr := true) (by kernel_rfl) (an (an (ti (ti (ti (ti trivial)))) (an (an e2365 (an (not_f h2366) trivial)) (an e2369 (an e2372 (an (ti (ti (ti trivial))) (an (ti (an e2375 (ti trivial))) (an (an (ti (ti trivial)) (an (decide_eq_false h2376) trivial)) (an (ti (ti trivial)) (an (not_t (decide_eq_false h2376)) (an e2422 trivial)))))))))) (ti trivial)) (Wv.refl _)
   ·have e2423 := (ti (ti (ti (ti (an (decide_eq_false h2416) (an (decide_eq_false h2416) (an (decide_eq_false h2416) (an (decide_eq_false h2416) (ti (an rf (an rf (an rf (ti (an rf (an rf (an rf (an rf (ti trivial))))))))))))))))))
    injection h with h; subst h
    exact fun_ok pm pn Go.Proofs.Try.func7 (r0 := vb false) (ans := [.reg (nN 4 []), .reg (.call (vb r2363) :: .n :: []), .br false, .reg (.n :: .n :: .call (VV.tu [vb r2367.1, vi r2367.2]) :: nN 5 []), .reg (nN 3 (.call (VV.tu [VV.ag (c_A66 r2370.1), vi r2370.2]) :: nN 6 [])), .reg (nN 3 []), .reg (.n :: .call (vi r2373) :: .n :: []), .reg (.n :: .n :: []), .br false, .reg (.n :: .n :: []), .br true, .reg arWR_9]) (fr := true) (by kernel_rfl) (an (an (ti (ti (ti (ti trivial)))) (an (an e2365 (an (not_f h2366) trivial)) (an e2369 (an e2372 (an (ti (ti (ti trivial))) (an (ti (an e2375 (ti trivial))) (an (an (ti (ti trivial)) (an (decide_eq_false h2376) trivial)) (an (ti (ti trivial)) (an (not_t (decide_eq_false h2376)) (an e2423 trivial)))))))))) (ti trivial)) (Wv.refl _)
 ·injection h with h; subst h
  exact fun_ok pm pn Go.Proofs.Try.func7 (r0 := vb false) (ans := [.reg (nN 4 []), .reg (.call (vb r2363) :: .n :: []), .br true, .reg (.n :: [])]) (fr := true) (by kernel_rfl) (an (an (ti (ti (ti (ti trivial)))) (an e2365 (an (not_t (bool_f h2366)) (an (ti trivial) trivial)))) (ti trivial)) (Wv.refl _)
end Go.Proofs.Ytkffimkedibmnaa.Vg

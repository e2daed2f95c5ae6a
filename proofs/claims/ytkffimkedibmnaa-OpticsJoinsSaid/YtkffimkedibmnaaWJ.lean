/- Written by a program out of the program: what Go functions do, as plain functions, and their contracts. -/
import Derived.Test.YtkffimkedibmnaaO3
namespace Go.Proofs.Ytkffimkedibmnaa.Vg
set_option maxRecDepth 100000
set_option maxHeartbeats 4000000
set_option linter.unusedVariables false
set_option linter.unusedSimpArgs false
open Go Go.Proofs.Ytkffimkedibmnaa.Ev Go.Proofs.Ytkffimkedibmnaa.Vv
theorem eqok28 : EqOK Go.Proofs.Try.prog 28 [some (.i .i64), some (.i .i64), some (.i .i64), some (.i .i64), some (.i .i64), some (.i .i64), some (.i .i64), some (.i .i64)] := eqOK_of (by kernel_rfl) (by kernel_rfl) (eqT_struct Go.Proofs.Try.underlying28 (by kernel_rfl) (by kernel_rfl) (by kernel_rfl) (.cons (by decide +kernel) rfl (eqT_struct Go.Proofs.Try.underlying26 (by kernel_rfl) (by kernel_rfl) (by kernel_rfl) (.cons (by decide +kernel) rfl (eqT_int Go.Proofs.Try.underlying3 (by kernel_rfl) (by kernel_rfl)) (.cons (by decide +kernel) rfl (eqT_int Go.Proofs.Try.underlying3 (by kernel_rfl) (by kernel_rfl)) .nil))) (.cons (by decide +kernel) rfl (eqT_struct Go.Proofs.Try.underlying26 (by kernel_rfl) (by kernel_rfl) (by kernel_rfl) (.cons (by decide +kernel) rfl (eqT_int Go.Proofs.Try.underlying3 (by kernel_rfl) (by kernel_rfl)) (.cons (by decide +kernel) rfl (eqT_int Go.Proofs.Try.underlying3 (by kernel_rfl) (by kernel_rfl)) .nil))) (.cons (by decide +kernel) rfl (eqT_struct Go.Proofs.Try.underlying26 (by kernel_rfl) (by kernel_rfl) (by kernel_rfl) (.cons (by decide +kernel) rfl (eqT_int Go.Proofs.Try.underlying3 (by kernel_rfl) (by kernel_rfl)) (.cons (by decide +kernel) rfl (eqT_int Go.Proofs.Try.underlying3 (by kernel_rfl) (by kernel_rfl)) .nil))) (.cons (by decide +kernel) rfl (eqT_struct Go.Proofs.Try.underlying26 (by kernel_rfl) (by kernel_rfl) (by kernel_rfl) (.cons (by decide +kernel) rfl (eqT_int Go.Proofs.Try.underlying3 (by kernel_rfl) (by kernel_rfl)) (.cons (by decide +kernel) rfl (eqT_int Go.Proofs.Try.underlying3 (by kernel_rfl) (by kernel_rfl)) .nil))) .nil)))))
theorem eqWJ_0 (z0 : Int) (z1 : Int) : [VV.tr (List.map vi ([z0, z1] : List Int)) (([z0, z1] : List Int).length)] = [VV.tr [vi z0, vi z1] 2] := by first | rfl | (simp only [unfr_vi, List.map_cons, List.map_nil, un_i, un_tr, List.length_map, List.length_cons, List.length_nil]; done) | (simp only [unfr_vi, List.map_cons, List.map_nil, un_i, un_tr, List.length_map, List.length_cons, List.length_nil]; rfl) | (simp only [unfr_vi, List.map_cons, List.map_nil, un_i, un_tr, List.length_map, List.length_cons, List.length_nil, List.length_cons, List.length_nil, List.length_append]; done)
theorem eqWJ_1  : ([⟨true, bigH, [vi ((⟨0⟩ : Sway).failed)]⟩] : List Blk) = ([⟨true, bigH, [vi 0]⟩] : List Blk) := by first | rfl | (simp only [unfr_vi, List.map_cons, List.map_nil, un_i]; done) | (simp only [unfr_vi, List.map_cons, List.map_nil, un_i]; rfl) | (simp only [unfr_vi, List.map_cons, List.map_nil, un_i, List.length_cons, List.length_nil, List.length_append]; done)
theorem eqWJ_2 (z0 : (SFrac × Sway)) (z1 : (SFrac × Sway)) (z2 : (SFrac × Sway)) (z3 : (SFrac × Sway)) : [VV.ag [vi (((⟨z0.1, z1.1, z2.1, z3.1⟩ : SMatrix).A).Num), vi (((⟨z0.1, z1.1, z2.1, z3.1⟩ : SMatrix).A).Den), vi (((⟨z0.1, z1.1, z2.1, z3.1⟩ : SMatrix).B).Num), vi (((⟨z0.1, z1.1, z2.1, z3.1⟩ : SMatrix).B).Den), vi (((⟨z0.1, z1.1, z2.1, z3.1⟩ : SMatrix).C).Num), vi (((⟨z0.1, z1.1, z2.1, z3.1⟩ : SMatrix).C).Den), vi (((⟨z0.1, z1.1, z2.1, z3.1⟩ : SMatrix).D).Num), vi (((⟨z0.1, z1.1, z2.1, z3.1⟩ : SMatrix).D).Den)], VV.tr (List.map vi ([z3.2.failed] : List Int)) (([z3.2.failed] : List Int).length)] = [VV.ag [vi z0.1.Num, vi z0.1.Den, vi z1.1.Num, vi z1.1.Den, vi z2.1.Num, vi z2.1.Den, vi z3.1.Num, vi z3.1.Den], VV.tr [vi z3.2.failed] 1] := by first | rfl | (simp only [unfr_vi, List.map_cons, List.map_nil, un_i, un_tr, List.length_map, List.length_cons, List.length_nil]; done) | (simp only [unfr_vi, List.map_cons, List.map_nil, un_i, un_tr, List.length_map, List.length_cons, List.length_nil]; rfl) | (simp only [unfr_vi, List.map_cons, List.map_nil, un_i, un_tr, List.length_map, List.length_cons, List.length_nil, List.length_cons, List.length_nil, List.length_append]; done)
def arWJ_0 (z0 : Int) (z1 : Int) (z2 : Int) : List Ans := (.n :: .call (vi z0) :: .n :: .call (vi z1) :: .v VV.any :: .call (vi z2) :: .n :: [])
def arWJ_1 (z0 : (SFrac × Sway)) (z1 : (SFrac × Sway)) (z2 : (SFrac × Sway)) (z3 : (SFrac × Sway)) : List Ans := (nN 8 (.mod1 3 (VV.ag (c_SFrac z0.1)) ⟨true, bigH, [vi z0.2.failed]⟩ :: nN 8 (.mod1 3 (VV.ag (c_SFrac z1.1)) ⟨true, bigH, [vi z1.2.failed]⟩ :: nN 8 (.mod1 3 (VV.ag (c_SFrac z2.1)) ⟨true, bigH, [vi z2.2.failed]⟩ :: nN 8 (.mod1 3 (VV.ag (c_SFrac z3.1)) ⟨true, bigH, [vi z3.2.failed]⟩ :: nN 3 [])))))
theorem eqWJ_3 (z0 : Int) : VV.tu [VV.ag [vi 0, vi 0, vi 0, vi 0, vi 0, vi 0, vi 0, vi 0], vi z0] = VV.tu [VV.ag [vi (((⟨(⟨0, 0⟩ : SFrac), (⟨0, 0⟩ : SFrac), (⟨0, 0⟩ : SFrac), (⟨0, 0⟩ : SFrac)⟩ : SMatrix).A).Num), vi (((⟨(⟨0, 0⟩ : SFrac), (⟨0, 0⟩ : SFrac), (⟨0, 0⟩ : SFrac), (⟨0, 0⟩ : SFrac)⟩ : SMatrix).A).Den), vi (((⟨(⟨0, 0⟩ : SFrac), (⟨0, 0⟩ : SFrac), (⟨0, 0⟩ : SFrac), (⟨0, 0⟩ : SFrac)⟩ : SMatrix).B).Num), vi (((⟨(⟨0, 0⟩ : SFrac), (⟨0, 0⟩ : SFrac), (⟨0, 0⟩ : SFrac), (⟨0, 0⟩ : SFrac)⟩ : SMatrix).B).Den), vi (((⟨(⟨0, 0⟩ : SFrac), (⟨0, 0⟩ : SFrac), (⟨0, 0⟩ : SFrac), (⟨0, 0⟩ : SFrac)⟩ : SMatrix).C).Num), vi (((⟨(⟨0, 0⟩ : SFrac), (⟨0, 0⟩ : SFrac), (⟨0, 0⟩ : SFrac), (⟨0, 0⟩ : SFrac)⟩ : SMatrix).C).Den), vi (((⟨(⟨0, 0⟩ : SFrac), (⟨0, 0⟩ : SFrac), (⟨0, 0⟩ : SFrac), (⟨0, 0⟩ : SFrac)⟩ : SMatrix).D).Num), vi (((⟨(⟨0, 0⟩ : SFrac), (⟨0, 0⟩ : SFrac), (⟨0, 0⟩ : SFrac), (⟨0, 0⟩ : SFrac)⟩ : SMatrix).D).Den)], vi z0] := by first | rfl | (simp only [unfr_vi, List.map_cons, List.map_nil, un_i]; done) | (simp only [unfr_vi, List.map_cons, List.map_nil, un_i]; rfl) | (simp only [unfr_vi, List.map_cons, List.map_nil, un_i, List.length_cons, List.length_nil, List.length_append]; done)
def noptics_Join (k : Nat) (a0 : SMatrix) (a1 : SMatrix) : Option (SMatrix × Int) :=
  (noptics_checkMatrix k a0).bind fun r1864 => ((noptics_checkMatrix k a1).bind fun r1866 => ((noptics_firstError k ([r1864, r1866] : List Int)).bind fun r1868 => (if r1868 = 0 then ((n_optics_way_products k (⟨0⟩ : Sway) a1.A a0.A a1.B a0.C).bind fun r1873 => ((n_optics_way_products k r1873.2 a1.A a0.B a1.B a0.D).bind fun r1876 => ((n_optics_way_products k r1876.2 a1.C a0.A a1.D a0.C).bind fun r1879 => ((n_optics_way_products k r1879.2 a1.C a0.B a1.D a0.D).bind fun r1882 => ((noptics_beside_api_Matrix_ k (⟨r1873.1, r1876.1, r1879.1, r1882.1⟩ : SMatrix) ([r1882.2.failed] : List Int)).bind fun r1886 => (some (r1886.1, r1886.2))))))) else (some ((⟨(⟨0, 0⟩ : SFrac), (⟨0, 0⟩ : SFrac), (⟨0, 0⟩ : SFrac), (⟨0, 0⟩ : SFrac)⟩ : SMatrix), r1868)))))
theorem noptics_Join_ok (k : Nat) (a0 : SMatrix) (a1 : SMatrix) (r : (SMatrix × Int)) (h : noptics_Join k a0 a1 = some r) : VC Go.Proofs.Try.prog 19 [VV.ag (c_SMatrix a0), VV.ag (c_SMatrix a1)] (VV.tu [VV.ag (c_SMatrix r.1), vi r.2]) := by
 unfold noptics_Join at h
 obtain ⟨r1864, h1865, h⟩ := bs h
 obtain ⟨r1866, h1867, h⟩ := bs h
 obtain ⟨r1868, h1869, h⟩ := bs h
 have e1870 := (VC.args (noptics_firstError_ok k ([r1864, r1866] : List Int) _ h1869) (eqWJ_0 r1864 r1866))
 have e1871 := (ti (an (noptics_checkMatrix_ok k a0 _ h1865) (ti (an (noptics_checkMatrix_ok k a1 _ h1867) (ti (an e1870 (ti trivial)))))))
 rcases ifs h with ⟨h1872, h⟩ | ⟨h1872, h⟩
 ·obtain ⟨r1873, h1874, h⟩ := bs h
  have e1875 := (an (VM.args (n_optics_way_products_ok k (⟨0⟩ : Sway) a1.A a0.A a1.B a0.C _ h1874) rfl eqWJ_1 rfl) (an (ti trivial) (ti trivial)))
  obtain ⟨r1876, h1877, h⟩ := bs h
  have e1878 := (an (n_optics_way_products_ok k r1873.2 a1.A a0.B a1.B a0.D _ h1877) (an (ti trivial) (ti trivial)))
  obtain ⟨r1879, h1880, h⟩ := bs h
  have e1881 := (an (n_optics_way_products_ok k r1876.2 a1.C a0.A a1.D a0.C _ h1880) (an (ti trivial) (ti trivial)))
  obtain ⟨r1882, h1883, h⟩ := bs h
  have e1884 := (an (n_optics_way_products_ok k r1879.2 a1.C a0.B a1.D a0.D _ h1883) (an (ti trivial) (ti trivial)))
  have e1885 := (ti (ti (ti (ti (ti (ti (ti (ti (an e1875 (ti (ti (ti (ti (ti (ti (ti (ti (an e1878 (ti (ti (ti (ti (ti (ti (ti (ti (an e1881 (ti (ti (ti (ti (ti (ti (ti (ti (an e1884 (ti (ti (ti trivial)))))))))))))))))))))))))))))))))))))))
  obtain ⟨r1886, h1887, h⟩ := bs h
  have e1888 := (VC.args (noptics_beside_api_Matrix__ok k (⟨r1873.1, r1876.1, r1879.1, r1882.1⟩ : SMatrix) ([r1882.2.failed] : List Int) _ h1887) (eqWJ_2 r1873 r1876 r1879 r1882))
  have e1889 := (ti (ti (ti (ti (an e1888 (ti (ti (ti (ti trivial)))))))))
  injection h with h; subst h
  exact fun_ok pm pn Go.Proofs.Try.func19 (r0 := VV.tu [VV.ag (c_SMatrix r1886.1), vi r1886.2]) (ans := [.reg (nN 4 []), .reg (arWJ_0 r1864 r1866 r1868), .reg (.n :: .n :: []), .br false, .reg (.n :: []), .reg (arWJ_1 r1873 r1876 r1879 r1882), .reg (nN 3 (.v VV.any :: .call (VV.tu [VV.ag (c_SMatrix r1886.1), vi r1886.2]) :: nN 4 []))]) (fr := true) (by kernel_rfl) (an (an (ti (ti (ti (ti trivial)))) (an (an e1871 (an (ti (ti trivial)) (an (not_f (decide_eq_true h1872)) trivial))) (an (ti trivial) (an e1885 (an e1889 trivial))))) (an (ti (ti (ti (ti (ti (ti (ti (ti (ti trivial))))))))) (ti trivial))) (Wv.refl _)
 ·injection h with h; subst h
  exact fun_ok pm pn Go.Proofs.Try.func19 (r0 := VV.tu [VV.ag [vi 0, vi 0, vi 0, vi 0, vi 0, vi 0, vi 0, vi 0], vi r1868]) (ans := [.reg (nN 4 []), .reg (arWJ_0 r1864 r1866 r1868), .reg (.n :: .n :: []), .br true, .reg (nN 4 [])]) (fr := true) (by kernel_rfl) (an (an (ti (ti (ti (ti trivial)))) (an e1871 (an (ti (ti trivial)) (an (not_t (decide_eq_false h1872)) (an (ti (ti (ti (ti trivial)))) trivial))))) (an (ti (ti (ti (ti (ti (ti (ti (ti (ti trivial))))))))) (ti trivial))) (Wv.of_eq (eqWJ_3 r1868))
theorem eqWJ_4 (z0 : (SFrac × Sway)) : [VV.ag (c_SFrac z0.1), VV.tr (List.map vi ([z0.2.failed] : List Int)) (([z0.2.failed] : List Int).length)] = [VV.ag (c_SFrac z0.1), VV.tr [vi z0.2.failed] 1] := by first | rfl | (simp only [unfr_vi, List.map_cons, List.map_nil, un_i, un_tr, List.length_map, List.length_cons, List.length_nil, unfr_c_SFrac]; done) | (simp only [unfr_vi, List.map_cons, List.map_nil, un_i, un_tr, List.length_map, List.length_cons, List.length_nil, unfr_c_SFrac]; rfl) | (simp only [unfr_vi, List.map_cons, List.map_nil, un_i, un_tr, List.length_map, List.length_cons, List.length_nil, unfr_c_SFrac, c_SFrac, List.length_cons, List.length_nil, List.length_append]; done)
def arWJ_2 (z0 : (SFrac × Sway)) (z1 : (SFrac × Sway)) (z2 : (SFrac × Sway)) : List Ans := (nN 4 (.mod1 2 (VV.ag (c_SFrac z0.1)) ⟨true, bigH, [vi z0.2.failed]⟩ :: nN 4 (.mod1 2 (VV.ag (c_SFrac z1.1)) ⟨true, bigH, [vi z1.2.failed]⟩ :: .mod1 2 (VV.ag (c_SFrac z2.1)) ⟨true, bigH, [vi z2.2.failed]⟩ :: .n :: .n :: [])))
theorem eqWJ_5 (z0 : Int) : VV.tu [VV.ag [vi 0, vi 0], vi z0] = VV.tu [VV.ag (c_SFrac (⟨0, 0⟩ : SFrac)), vi z0] := by first | rfl | (simp only [unfr_vi, List.map_cons, List.map_nil, un_i, unfr_c_SFrac]; done) | (simp only [unfr_vi, List.map_cons, List.map_nil, un_i, unfr_c_SFrac]; rfl) | (simp only [unfr_vi, List.map_cons, List.map_nil, un_i, unfr_c_SFrac, c_SFrac, List.length_cons, List.length_nil, List.length_append]; done)
def noptics_Determinant (k : Nat) (a0 : SMatrix) : Option (SFrac × Int) :=
  (noptics_checkMatrix k a0).bind fun r1911 => (if r1911 = 0 then ((n_optics_way_times k (⟨0⟩ : Sway) a0.A a0.D).bind fun r1915 => ((n_optics_way_times k r1915.2 a0.B a0.C).bind fun r1918 => ((n_optics_way_minus k r1918.2 r1915.1 r1918.1).bind fun r1921 => ((noptics_beside_api_Frac_ k r1921.1 ([r1921.2.failed] : List Int)).bind fun r1925 => (some (r1925.1, r1925.2)))))) else (some ((⟨0, 0⟩ : SFrac), r1911)))
theorem noptics_Determinant_ok (k : Nat) (a0 : SMatrix) (r : (SFrac × Int)) (h : noptics_Determinant k a0 = some r) : VC Go.Proofs.Try.prog 17 [VV.ag (c_SMatrix a0)] (VV.tu [VV.ag (c_SFrac r.1), vi r.2]) := by
 unfold noptics_Determinant at h
 obtain ⟨r1911, h1912, h⟩ := bs h
 have e1913 := (ti (an (noptics_checkMatrix_ok k a0 _ h1912) (ti trivial)))
 rcases ifs h with ⟨h1914, h⟩ | ⟨h1914, h⟩
 ·obtain ⟨r1915, h1916, h⟩ := bs h
  have e1917 := (an (VM.args (n_optics_way_times_ok k (⟨0⟩ : Sway) a0.A a0.D _ h1916) rfl eqWJ_1 rfl) (an (ti trivial) (ti trivial)))
  obtain ⟨r1918, h1919, h⟩ := bs h
  have e1920 := (an (n_optics_way_times_ok k r1915.2 a0.B a0.C _ h1919) (an (ti trivial) (ti trivial)))
  obtain ⟨r1921, h1922, h⟩ := bs h
  have e1923 := (an (n_optics_way_minus_ok k r1918.2 r1915.1 r1918.1 _ h1922) (an (ti trivial) (ti trivial)))
  have e1924 := (ti (ti (ti (ti (an e1917 (ti (ti (ti (ti (an e1920 (an e1923 (ti (ti trivial)))))))))))))
  obtain ⟨r1925, h1926, h⟩ := bs h
  have e1927 := (VC.args (noptics_beside_api_Frac__ok k r1921.1 ([r1921.2.failed] : List Int) _ h1926) (eqWJ_4 r1921))
  have e1928 := (ti (ti (ti (ti (an e1927 (ti (ti (ti (ti trivial)))))))))
  injection h with h; subst h
  exact fun_ok pm pn Go.Proofs.Try.func17 (r0 := VV.tu [VV.ag (c_SFrac r1925.1), vi r1925.2]) (ans := [.reg (nN 3 []), .reg (.n :: .call (vi r1911) :: .n :: []), .reg (.n :: .n :: []), .br false, .reg (.n :: []), .reg (arWJ_2 r1915 r1918 r1921), .reg (nN 3 (.v VV.any :: .call (VV.tu [VV.ag (c_SFrac r1925.1), vi r1925.2]) :: nN 4 []))]) (fr := true) (by kernel_rfl) (an (an (ti (ti (ti trivial))) (an (an e1913 (an (ti (ti trivial)) (an (not_f (decide_eq_true h1914)) trivial))) (an (ti trivial) (an e1924 (an e1928 trivial))))) (an (ti (ti (ti trivial))) (ti trivial))) (Wv.refl _)
 ·injection h with h; subst h
  exact fun_ok pm pn Go.Proofs.Try.func17 (r0 := VV.tu [VV.ag [vi 0, vi 0], vi r1911]) (ans := [.reg (nN 3 []), .reg (.n :: .call (vi r1911) :: .n :: []), .reg (.n :: .n :: []), .br true, .reg (nN 4 [])]) (fr := true) (by kernel_rfl) (an (an (ti (ti (ti trivial))) (an e1913 (an (ti (ti trivial)) (an (not_t (decide_eq_false h1914)) (an (ti (ti (ti (ti trivial)))) trivial))))) (an (ti (ti (ti trivial))) (ti trivial))) (Wv.of_eq (eqWJ_5 r1911))
def nspeculumref02_CheckFrac (k : Nat) (a0 : SFrac) : Option Int :=
  (nspeculumbase_IsLowest k a0).bind fun r1942 => (if r1942 = true then ((nspeculumbase_IsSmall k a0).bind fun r1946 => (if r1946 = true then (some 0) else (some 2))) else (some 3))
theorem nspeculumref02_CheckFrac_ok (k : Nat) (a0 : SFrac) (r : Int) (h : nspeculumref02_CheckFrac k a0 = some r) : VC Go.Proofs.Try.prog 34 [VV.ag (c_SFrac a0)] (vi r) := by
 unfold nspeculumref02_CheckFrac at h
 obtain ⟨r1942, h1943, h⟩ := bs h
 have e1944 := (nspeculumbase_IsLowest_ok k a0 _ h1943)
 rcases ifs h with ⟨h1945, h⟩ | ⟨h1945, h⟩
 ·obtain ⟨r1946, h1947, h⟩ := bs h
  have e1948 := (ti (an (nspeculumbase_IsSmall_ok k a0 _ h1947) (ti trivial)))
  rcases ifs h with ⟨h1949, h⟩ | ⟨h1949, h⟩
  ·injection h with h; subst h
   exact fun_ok pm pn Go.Proofs.Try.func34 (r0 := vi 0) (ans := [.reg (.n :: .n :: []), .reg (.n :: .call (vb r1942) :: .n :: []), .br false, .reg (.n :: .call (vb r1946) :: .n :: []), .br false, .reg (.n :: [])]) (fr := true) (by kernel_rfl) (an (an (ti (ti trivial)) (an (an (ti (an e1944 (ti trivial))) (an (not_f h1945) trivial)) (an (an e1948 (an (not_f h1949) trivial)) (an (ti trivial) trivial)))) (ti trivial)) (Wv.refl _)
  ·injection h with h; subst h
   exact fun_ok pm pn Go.Proofs.Try.func34 (r0 := vi 2) (ans := [.reg (.n :: .n :: []), .reg (.n :: .call (vb r1942) :: .n :: []), .br false, .reg (.n :: .call (vb r1946) :: .n :: []), .br true, .reg (.n :: [])]) (fr := true) (by kernel_rfl) (an (an (ti (ti trivial)) (an (an (ti (an e1944 (ti trivial))) (an (not_f h1945) trivial)) (an e1948 (an (not_t (bool_f h1949)) (an (ti trivial) trivial))))) (ti trivial)) (Wv.refl _)
 ·injection h with h; subst h
  exact fun_ok pm pn Go.Proofs.Try.func34 (r0 := vi 3) (ans := [.reg (.n :: .n :: []), .reg (.n :: .call (vb r1942) :: .n :: []), .br true, .reg (.n :: [])]) (fr := true) (by kernel_rfl) (an (an (ti (ti trivial)) (an (ti (an e1944 (ti trivial))) (an (not_t (bool_f h1945)) (an (ti trivial) trivial)))) (ti trivial)) (Wv.refl _)
def nspeculumref02_CheckMatrix_l0_0_h (a0 : SMatrix) (x15 : Int) : VS := ⟨mkA [(14, VV.ag (c_SMatrix a0)), (15, vi x15)], [], .nil⟩
def nspeculumref02_CheckMatrix_l0_0_e0 (a0 : SMatrix) (r : Int) : VS := ⟨mkA [(2, vi r)], [], .nil⟩
def nspeculumref02_CheckMatrix_l0_0_e1 (a0 : SMatrix) (r : Unit) : VS := ⟨mkA [], [], .nil⟩
def nspeculumref02_CheckMatrix_l0_0 (k : Nat) (a0 : SMatrix) : Nat → Int → Option (Sum Int Unit)
  | 0, _ => none
  | fuel + 1, x15 => if x15 < 4 then (if x15 = 0 then ((nspeculumref02_CheckFrac k a0.A).bind fun r2044 => (if r2044 = 0 then (nspeculumref02_CheckMatrix_l0_0 k a0 fuel (w64 (x15 + 1))) else (some (.inl r2044)))) else (if x15 = 1 then ((nspeculumref02_CheckFrac k a0.B).bind fun r2050 => (if r2050 = 0 then (nspeculumref02_CheckMatrix_l0_0 k a0 fuel (w64 (x15 + 1))) else (some (.inl r2050)))) else (if x15 = 2 then ((nspeculumref02_CheckFrac k a0.C).bind fun r2056 => (if r2056 = 0 then (nspeculumref02_CheckMatrix_l0_0 k a0 fuel (w64 (x15 + 1))) else (some (.inl r2056)))) else (if x15 = 3 then ((nspeculumref02_CheckFrac k a0.D).bind fun r2062 => (if r2062 = 0 then (nspeculumref02_CheckMatrix_l0_0 k a0 fuel (w64 (x15 + 1))) else (some (.inl r2062)))) else none)))) else (some (.inr ()))
theorem nspeculumref02_CheckMatrix_l0_0_ok (k : Nat) (a0 : SMatrix) : ∀ (fuel : Nat) (x15 : Int) (r : Sum Int Unit), nspeculumref02_CheckMatrix_l0_0 k a0 fuel x15 = some r → (match r with | .inl r => VLoop none Go.Proofs.Try.prog (szF Go.Proofs.Try.f20) (bodyOf Go.Proofs.Try.f20 0) (nspeculumref02_CheckMatrix_l0_0_h a0 x15) .ret (nspeculumref02_CheckMatrix_l0_0_e0 a0 r) | .inr r => VLoop none Go.Proofs.Try.prog (szF Go.Proofs.Try.f20) (bodyOf Go.Proofs.Try.f20 0) (nspeculumref02_CheckMatrix_l0_0_h a0 x15) (.exit 0) (nspeculumref02_CheckMatrix_l0_0_e1 a0 r)) := by
 intro fuel
 induction fuel with
 | zero => intro x15 r h; rw [nspeculumref02_CheckMatrix_l0_0.eq_1] at h; cases h
 | succ fuel ih =>
  intro x15 r h
  rw [nspeculumref02_CheckMatrix_l0_0.eq_2] at h
  rcases ifs h with ⟨h2041, h⟩ | ⟨h2041, h⟩
  ·rcases ifs h with ⟨h2042, h⟩ | ⟨h2042, h⟩
   ·have e2043 := (show (0:Int) ≤ x15 ∧ x15 < ((4 : Nat) : Int) ∧ partV (x15.toNat * 2) (some 2) [vi a0.A.Num, vi a0.A.Den, vi a0.B.Num, vi a0.B.Den, vi a0.C.Num, vi a0.C.Den, vi a0.D.Num, vi a0.D.Den] = some (VV.ag (c_SFrac a0.A)) from ⟨by have := (of_decide_eq_true (decide_eq_true h2042)); omega, by have := (of_decide_eq_true (decide_eq_true h2042)); omega, by rw [show x15 = (0 : Int) from (of_decide_eq_true (decide_eq_true h2042))]; rfl⟩)
    obtain ⟨r2044, h2045, h⟩ := bs h
    have e2046 := (nspeculumref02_CheckFrac_ok k a0.A _ h2045)
    rcases ifs h with ⟨h2047, h⟩ | ⟨h2047, h⟩
    ·have h2 := ih _ _ h
     obtain ⟨q, hv, hq⟩ := pkR (rd := none) (P := Go.Proofs.Try.prog) (fn := Go.Proofs.Try.f20) (k := 0) (s := (nspeculumref02_CheckMatrix_l0_0_h a0 x15)) (ans := [.reg (.n :: []), .br true, .reg (.v (VV.ag (c_SFrac a0.A)) :: .n :: .n :: []), .reg (.n :: .call (vi r2044) :: .n :: []), .reg (.n :: .n :: []), .br false, .reg (.n :: .n :: [])]) (c := ⟨[(14, none), (15, none)], [], []⟩) (e := .normal) (s1 := (nspeculumref02_CheckMatrix_l0_0_h a0 (w64 (x15 + 1)))) (an (an (ti trivial) (an (an (decide_eq_true h2041) trivial) (an (an (an e2043 (ti (ti trivial))) (an (ti (an e2046 (ti trivial))) (an (ti (ti trivial)) (an (not_f (decide_eq_true h2047)) trivial)))) (ti (ti trivial))))) (ti trivial)) (by kernel_rfl)
     cases r with
     | inl r => exact round_next pm pn hv hq h2
     | inr r =>
      exact round_next pm pn hv hq h2
    ·injection h with h; subst h
     exact round_stop (c := ⟨[(2, none)], [], []⟩) (s1 := (nspeculumref02_CheckMatrix_l0_0_e0 a0 r2044)) pm pn (ans := [.reg (.n :: []), .br true, .reg (.v (VV.ag (c_SFrac a0.A)) :: .n :: .n :: []), .reg (.n :: .call (vi r2044) :: .n :: []), .reg (.n :: .n :: []), .br true, .reg (.n :: .n :: [])]) (by kernel_rfl) (by intro e; cases e) (an (an (ti trivial) (an (an (decide_eq_true h2041) trivial) (an (an e2043 (ti (ti trivial))) (an (ti (an e2046 (ti trivial))) (an (ti (ti trivial)) (an (not_t (decide_eq_false h2047)) (an (ti (ti trivial)) trivial))))))) (ti trivial))
   ·rcases ifs h with ⟨h2048, h⟩ | ⟨h2048, h⟩
    ·have e2049 := (show (0:Int) ≤ x15 ∧ x15 < ((4 : Nat) : Int) ∧ partV (x15.toNat * 2) (some 2) [vi a0.A.Num, vi a0.A.Den, vi a0.B.Num, vi a0.B.Den, vi a0.C.Num, vi a0.C.Den, vi a0.D.Num, vi a0.D.Den] = some (VV.ag (c_SFrac a0.B)) from ⟨by have := (of_decide_eq_true (decide_eq_true h2048)); omega, by have := (of_decide_eq_true (decide_eq_true h2048)); omega, by rw [show x15 = (1 : Int) from (of_decide_eq_true (decide_eq_true h2048))]; rfl⟩)
     obtain ⟨r2050, h2051, h⟩ := bs h
     have e2052 := (nspeculumref02_CheckFrac_ok k a0.B _ h2051)
     rcases ifs h with ⟨h2053, h⟩ | ⟨h2053, h⟩
     ·have h2 := ih _ _ h
      obtain ⟨q, hv, hq⟩ := pkR (rd := none) (P := Go.Proofs.Try.prog) (fn := Go.Proofs.Try.f20) (k := 0) (s := (nspeculumref02_CheckMatrix_l0_0_h a0 x15)) (ans := [.reg (.n :: []), .br true, .reg (.v (VV.ag (c_SFrac a0.B)) :: .n :: .n :: []), .reg (.n :: .call (vi r2050) :: .n :: []), .reg (.n :: .n :: []), .br false, .reg (.n :: .n :: [])]) (c := ⟨[(14, none), (15, none)], [], []⟩) (e := .normal) (s1 := (nspeculumref02_CheckMatrix_l0_0_h a0 (w64 (x15 + 1)))) (an (an (ti trivial) (an (an (decide_eq_true h2041) trivial) (an (an (an e2049 (ti (ti trivial))) (an (ti (an e2052 (ti trivial))) (an (ti (ti trivial)) (an (not_f (decide_eq_true h2053)) trivial)))) (ti (ti trivial))))) (ti trivial)) (by kernel_rfl)
      cases r with
      | inl r => exact round_next pm pn hv hq h2
      | inr r =>
       exact round_next pm pn hv hq h2
     ·injection h with h; subst h
      exact round_stop (c := ⟨[(2, none)], [], []⟩) (s1 := (nspeculumref02_CheckMatrix_l0_0_e0 a0 r2050)) pm pn (ans := [.reg (.n :: []), .br true, .reg (.v (VV.ag (c_SFrac a0.B)) :: .n :: .n :: []), .reg (.n :: .call (vi r2050) :: .n :: []), .reg (.n :: .n :: []), .br true, .reg (.n :: .n :: [])]) (by kernel_rfl) (by intro e; cases e) (an (an (ti trivial) (an (an (decide_eq_true h2041) trivial) (an (an e2049 (ti (ti trivial))) (an (ti (an e2052 (ti trivial))) (an (ti (ti trivial)) (an (not_t (decide_eq_false h2053)) (an (ti (ti trivial)) trivial))))))) (ti trivial))
    ·rcases ifs h with ⟨h2054, h⟩ | ⟨h2054, h⟩
     ·have e2055 := (show (0:Int) ≤ x15 ∧ x15 < ((4 : Nat) : Int) ∧ partV (x15.toNat * 2) (some 2) [vi a0.A.Num, vi a0.A.Den, vi a0.B.Num, vi a0.B.Den, vi a0.C.Num, vi a0.C.Den, vi a0.D.Num, vi a0.D.Den] = some (VV.ag (c_SFrac a0.C)) from ⟨by have := (of_decide_eq_true (decide_eq_true h2054)); omega, by have := (of_decide_eq_true (decide_eq_true h2054)); omega, by rw [show x15 = (2 : Int) from (of_decide_eq_true (decide_eq_true h2054))]; rfl⟩)
      obtain ⟨r2056, h2057, h⟩ := bs h
      have e2058 := (nspeculumref02_CheckFrac_ok k a0.C _ h2057)
      rcases ifs h with ⟨h2059, h⟩ | ⟨h2059, h⟩
      ·have h2 := ih _ _ h
       obtain ⟨q, hv, hq⟩ := pkR (rd := none) (P := Go.Proofs.Try.prog) (fn := Go.Proofs.Try.f20) (k := 0) (s := (nspeculumref02_CheckMatrix_l0_0_h a0 x15)) (ans := [.reg (.n :: []), .br true, .reg (.v (VV.ag (c_SFrac a0.C)) :: .n :: .n :: []), .reg (.n :: .call (vi r2056) :: .n :: []), .reg (.n :: .n :: []), .br false, .reg (.n :: .n :: [])]) (c := ⟨[(14, none), (15, none)], [], []⟩) (e := .normal) (s1 := (nspeculumref02_CheckMatrix_l0_0_h a0 (w64 (x15 + 1)))) (an (an (ti trivial) (an (an (decide_eq_true h2041) trivial) (an (an (an e2055 (ti (ti trivial))) (an (ti (an e2058 (ti trivial))) (an (ti (ti trivial)) (an (not_f (decide_eq_true h2059)) trivial)))) (ti (ti trivial))))) (ti trivial)) (by kernel_rfl)
       cases r with
       | inl r => exact round_next pm pn hv hq h2
       | inr r =>
        exact round_next pm pn hv hq h2
      ·injection h with h; subst h
       exact round_stop (c := ⟨[(2, none)], [], []⟩) (s1 := (nspeculumref02_CheckMatrix_l0_0_e0 a0 r2056)) pm pn (ans := [.reg (.n :: []), .br true, .reg (.v (VV.ag (c_SFrac a0.C)) :: .n :: .n :: []), .reg (.n :: .call (vi r2056) :: .n :: []), .reg (.n :: .n :: []), .br true, .reg (.n :: .n :: [])]) (by kernel_rfl) (by intro e; cases e) (an (an (ti trivial) (an (an (decide_eq_true h2041) trivial) (an (an e2055 (ti (ti trivial))) (an (ti (an e2058 (ti trivial))) (an (ti (ti trivial)) (an (not_t (decide_eq_false h2059)) (an (ti (ti trivial)) trivial))))))) (ti trivial))
     ·rcases ifs h with ⟨h2060, h⟩ | ⟨h2060, h⟩
      ·have e2061 := (show (0:Int) ≤ x15 ∧ x15 < ((4 : Nat) : Int) ∧ partV (x15.toNat * 2) (some 2) [vi a0.A.Num, vi a0.A.Den, vi a0.B.Num, vi a0.B.Den, vi a0.C.Num, vi a0.C.Den, vi a0.D.Num, vi a0.D.Den] = some (VV.ag (c_SFrac a0.D)) from ⟨by have := (of_decide_eq_true (decide_eq_true h2060)); omega, by have := (of_decide_eq_true (decide_eq_true h2060)); omega, by rw [show x15 = (3 : Int) from (of_decide_eq_true (decide_eq_true h2060))]; rfl⟩)
       obtain ⟨r2062, h2063, h⟩ := bs h
       have e2064 := (nspeculumref02_CheckFrac_ok k a0.D _ h2063)
       rcases ifs h with ⟨h2065, h⟩ | ⟨h2065, h⟩
       ·have h2 := ih _ _ h
        obtain ⟨q, hv, hq⟩ := pkR (rd := none) (P := Go.Proofs.Try.prog) (fn := Go.Proofs.Try.f20) (k := 0) (s := (nspeculumref02_CheckMatrix_l0_0_h a0 x15)) (ans := [.reg (.n :: []), .br true, .reg (.v (VV.ag (c_SFrac a0.D)) :: .n :: .n :: []), .reg (.n :: .call (vi r2062) :: .n :: []), .reg (.n :: .n :: []), .br false, .reg (.n :: .n :: [])]) (c := ⟨[(14, none), (15, none)], [], []⟩) (e := .normal) (s1 := (nspeculumref02_CheckMatrix_l0_0_h a0 (w64 (x15 + 1)))) (an (an (ti trivial) (an (an (decide_eq_true h2041) trivial) (an (an (an e2061 (ti (ti trivial))) (an (ti (an e2064 (ti trivial))) (an (ti (ti trivial)) (an (not_f (decide_eq_true h2065)) trivial)))) (ti (ti trivial))))) (ti trivial)) (by kernel_rfl)
        cases r with
        | inl r => exact round_next pm pn hv hq h2
        | inr r =>
         exact round_next pm pn hv hq h2
       ·injection h with h; subst h
        exact round_stop (c := ⟨[(2, none)], [], []⟩) (s1 := (nspeculumref02_CheckMatrix_l0_0_e0 a0 r2062)) pm pn (ans := [.reg (.n :: []), .br true, .reg (.v (VV.ag (c_SFrac a0.D)) :: .n :: .n :: []), .reg (.n :: .call (vi r2062) :: .n :: []), .reg (.n :: .n :: []), .br true, .reg (.n :: .n :: [])]) (by kernel_rfl) (by intro e; cases e) (an (an (ti trivial) (an (an (decide_eq_true h2041) trivial) (an (an e2061 (ti (ti trivial))) (an (ti (an e2064 (ti trivial))) (an (ti (ti trivial)) (an (not_t (decide_eq_false h2065)) (an (ti (ti trivial)) trivial))))))) (ti trivial))
      ·cases h
  ·injection h with h; subst h
   exact round_stop (c := ⟨[], [], []⟩) (s1 := (nspeculumref02_CheckMatrix_l0_0_e1 a0 ())) pm pn (ans := [.reg (.n :: []), .br false]) (by kernel_rfl) (by intro e; cases e) (an (an (ti trivial) (an (decide_eq_false h2041) trivial)) (ti trivial))
def nspeculumref02_CheckMatrix (k : Nat) (a0 : SMatrix) : Option Int :=
  (nspeculumref02_CheckMatrix_l0_0 k a0 k 0).bind fun r2067 => (match r2067 with | .inl r2068 => (some r2068) | .inr r2069 => (some 0))
theorem nspeculumref02_CheckMatrix_ok (k : Nat) (a0 : SMatrix) (r : Int) (h : nspeculumref02_CheckMatrix k a0 = some r) : VC Go.Proofs.Try.prog 20 [VV.ag (c_SMatrix a0)] (vi r) := by
 unfold nspeculumref02_CheckMatrix at h
 have e2010 := (ti (ti (ti (ti (ti (ti (ti (ti (ti (ti trivial))))))))))
 obtain ⟨r2067, h2066, h⟩ := bs h
 have hph2066 := nspeculumref02_CheckMatrix_l0_0_ok k a0 _ _ _ h2066
 cases r2067 with
 | inl r2068 =>
  dsimp only at h
  have e2070 := (an (ti trivial) (VRun.loop hph2066))
  injection h with h; subst h
  exact fun_ok pm pn Go.Proofs.Try.func20 (r0 := vi r2068) (ans := [.reg (.n :: .n :: []), .reg (nN 10 []), .sub ⟨[(14, none), (15, none)], [], []⟩ .ret (nspeculumref02_CheckMatrix_l0_0_e0 a0 r2068)]) (fr := true) (by kernel_rfl) (an (an (ti (ti trivial)) (an e2010 e2070)) (ti trivial)) (Wv.refl _)
 | inr r2069 =>
  dsimp only at h
  have e2071 := (an (ti trivial) (VRun.loop hph2066))
  injection h with h; subst h
  exact fun_ok pm pn Go.Proofs.Try.func20 (r0 := vi 0) (ans := [.reg (.n :: .n :: []), .reg (nN 10 []), .sub ⟨[(14, none), (15, none)], [], []⟩ (.exit 0) (nspeculumref02_CheckMatrix_l0_0_e1 a0 r2069), .reg (.n :: [])]) (fr := true) (by kernel_rfl) (an (an (ti (ti trivial)) (an (an e2010 e2071) (an (ti trivial) trivial))) (ti trivial)) (Wv.refl _)
theorem eqWJ_6  : ([⟨true, bigH, [vb ((⟨false⟩ : SWay).Large)]⟩] : List Blk) = ([⟨true, bigH, [vb false]⟩] : List Blk) := by first | rfl | (simp only [unfr_vb, List.map_cons, List.map_nil, un_b]; done) | (simp only [unfr_vb, List.map_cons, List.map_nil, un_b]; rfl) | (simp only [unfr_vb, List.map_cons, List.map_nil, un_b, List.length_cons, List.length_nil, List.length_append]; done)
theorem eqWJ_7  : VV.tu [VV.ag [vi 0, vi 0], vi 8] = VV.tu [VV.ag (c_SFrac (⟨0, 0⟩ : SFrac)), vi 8] := by first | rfl | (simp only [unfr_vi, List.map_cons, List.map_nil, un_i, unfr_c_SFrac]; done) | (simp only [unfr_vi, List.map_cons, List.map_nil, un_i, unfr_c_SFrac]; rfl) | (simp only [unfr_vi, List.map_cons, List.map_nil, un_i, unfr_c_SFrac, c_SFrac, List.length_cons, List.length_nil, List.length_append]; done)
def nspeculumref02_fraction (k : Nat) (a0 : SFrac) (a1 : SWay) : Option (SFrac × Int) :=
  if a1.Large = true then (some ((⟨0, 0⟩ : SFrac), 8)) else (some (a0, 0))
theorem nspeculumref02_fraction_ok (k : Nat) (a0 : SFrac) (a1 : SWay) (r : (SFrac × Int)) (h : nspeculumref02_fraction k a0 a1 = some r) : VC Go.Proofs.Try.prog 67 [VV.ag (c_SFrac a0), VV.ag (c_SWay a1)] (VV.tu [VV.ag (c_SFrac r.1), vi r.2]) := by
 unfold nspeculumref02_fraction at h
 rcases ifs h with ⟨h2087, h⟩ | ⟨h2087, h⟩
 ·injection h with h; subst h
  exact fun_ok pm pn Go.Proofs.Try.func67 (r0 := VV.tu [VV.ag [vi 0, vi 0], vi 8]) (ans := [.reg (nN 4 []), .reg (.n :: .n :: []), .br true, .reg (nN 3 [])]) (fr := true) (by kernel_rfl) (an (an (ti (ti (ti (ti trivial)))) (an (ti (ti trivial)) (an h2087 (an (ti (ti (ti trivial))) trivial)))) (an (ti (ti (ti trivial))) (ti trivial))) (Wv.of_eq eqWJ_7)
 ·injection h with h; subst h
  exact fun_ok pm pn Go.Proofs.Try.func67 (r0 := VV.tu [VV.ag (c_SFrac a0), vi 0]) (ans := [.reg (nN 4 []), .reg (.n :: .n :: []), .br false, .reg (nN 3 [])]) (fr := true) (by kernel_rfl) (an (an (ti (ti (ti (ti trivial)))) (an (an (ti (ti trivial)) (an (bool_f h2087) trivial)) (an (ti (ti (ti trivial))) trivial))) (an (ti (ti (ti trivial))) (ti trivial))) (Wv.refl _)
def arWJ_3 (z0 : (SFrac × SWay)) (z1 : (SFrac × SWay)) (z2 : (SFrac × SWay)) : List Ans := (nN 4 (.mod1 2 (VV.ag (c_SFrac z0.1)) ⟨true, bigH, [vb z0.2.Large]⟩ :: nN 4 (.mod1 2 (VV.ag (c_SFrac z1.1)) ⟨true, bigH, [vb z1.2.Large]⟩ :: .mod1 2 (VV.ag (c_SFrac z2.1)) ⟨true, bigH, [vb z2.2.Large]⟩ :: .n :: .n :: [])))
def nspeculumref02_Determinant (k : Nat) (a0 : SMatrix) : Option (SFrac × Int) :=
  (n_speculumref02_Way_Mul k (⟨false⟩ : SWay) a0.A a0.D).bind fun r2091 => ((n_speculumref02_Way_Mul k r2091.2 a0.B a0.C).bind fun r2094 => ((n_speculumref02_Way_Sub k r2094.2 r2091.1 r2094.1).bind fun r2097 => ((nspeculumref02_fraction k r2097.1 r2097.2).bind fun r2101 => (some (r2101.1, r2101.2)))))
theorem nspeculumref02_Determinant_ok (k : Nat) (a0 : SMatrix) (r : (SFrac × Int)) (h : nspeculumref02_Determinant k a0 = some r) : VC Go.Proofs.Try.prog 21 [VV.ag (c_SMatrix a0)] (VV.tu [VV.ag (c_SFrac r.1), vi r.2]) := by
 unfold nspeculumref02_Determinant at h
 obtain ⟨r2091, h2092, h⟩ := bs h
 have e2093 := (an (VM.args (n_speculumref02_Way_Mul_ok k (⟨false⟩ : SWay) a0.A a0.D _ h2092) rfl eqWJ_6 rfl) (an (ti trivial) (ti trivial)))
 obtain ⟨r2094, h2095, h⟩ := bs h
 have e2096 := (an (n_speculumref02_Way_Mul_ok k r2091.2 a0.B a0.C _ h2095) (an (ti trivial) (ti trivial)))
 obtain ⟨r2097, h2098, h⟩ := bs h
 have e2099 := (an (n_speculumref02_Way_Sub_ok k r2094.2 r2091.1 r2094.1 _ h2098) (an (ti trivial) (ti trivial)))
 have e2100 := (ti (ti (ti (ti (an e2093 (ti (ti (ti (ti (an e2096 (an e2099 (ti (ti trivial)))))))))))))
 obtain ⟨r2101, h2102, h⟩ := bs h
 have e2103 := (nspeculumref02_fraction_ok k r2097.1 r2097.2 _ h2102)
 injection h with h; subst h
 exact fun_ok pm pn Go.Proofs.Try.func21 (r0 := VV.tu [VV.ag (c_SFrac r2101.1), vi r2101.2]) (ans := [.reg (nN 3 []), .reg (.n :: []), .reg (arWJ_3 r2091 r2094 r2097), .reg (.n :: .n :: .call (VV.tu [VV.ag (c_SFrac r2101.1), vi r2101.2]) :: nN 4 [])]) (fr := true) (by kernel_rfl) (an (an (ti (ti (ti trivial))) (an (ti trivial) (an e2100 (an (ti (ti (an e2103 (ti (ti (ti (ti trivial))))))) trivial)))) (an (ti (ti (ti trivial))) (ti trivial))) (Wv.refl _)
def arWJ_4 (z0 : (SFrac × SWay)) (z1 : (SFrac × SWay)) (z2 : (SFrac × SWay)) (z3 : (SFrac × SWay)) (z4 : (SFrac × SWay)) (z5 : (SFrac × SWay)) (z6 : (SFrac × SWay)) (z7 : (SFrac × SWay)) (z8 : (SFrac × SWay)) (z9 : (SFrac × SWay)) (z10 : (SFrac × SWay)) (z11 : (SFrac × SWay)) : List Ans := (nN 4 (.mod1 3 (VV.ag (c_SFrac z0.1)) ⟨true, bigH, [vb z0.2.Large]⟩ :: nN 4 (.mod1 3 (VV.ag (c_SFrac z1.1)) ⟨true, bigH, [vb z1.2.Large]⟩ :: .mod1 3 (VV.ag (c_SFrac z2.1)) ⟨true, bigH, [vb z2.2.Large]⟩ :: nN 4 (.mod1 3 (VV.ag (c_SFrac z3.1)) ⟨true, bigH, [vb z3.2.Large]⟩ :: nN 4 (.mod1 3 (VV.ag (c_SFrac z4.1)) ⟨true, bigH, [vb z4.2.Large]⟩ :: .mod1 3 (VV.ag (c_SFrac z5.1)) ⟨true, bigH, [vb z5.2.Large]⟩ :: nN 4 (.mod1 3 (VV.ag (c_SFrac z6.1)) ⟨true, bigH, [vb z6.2.Large]⟩ :: nN 4 (.mod1 3 (VV.ag (c_SFrac z7.1)) ⟨true, bigH, [vb z7.2.Large]⟩ :: .mod1 3 (VV.ag (c_SFrac z8.1)) ⟨true, bigH, [vb z8.2.Large]⟩ :: nN 4 (.mod1 3 (VV.ag (c_SFrac z9.1)) ⟨true, bigH, [vb z9.2.Large]⟩ :: nN 4 (.mod1 3 (VV.ag (c_SFrac z10.1)) ⟨true, bigH, [vb z10.2.Large]⟩ :: .mod1 3 (VV.ag (c_SFrac z11.1)) ⟨true, bigH, [vb z11.2.Large]⟩ :: nN 3 [])))))))))
theorem eqWJ_8  : VV.tu [VV.ag [vi 0, vi 0, vi 0, vi 0, vi 0, vi 0, vi 0, vi 0], vi 8] = VV.tu [VV.ag [vi (((⟨(⟨0, 0⟩ : SFrac), (⟨0, 0⟩ : SFrac), (⟨0, 0⟩ : SFrac), (⟨0, 0⟩ : SFrac)⟩ : SMatrix).A).Num), vi (((⟨(⟨0, 0⟩ : SFrac), (⟨0, 0⟩ : SFrac), (⟨0, 0⟩ : SFrac), (⟨0, 0⟩ : SFrac)⟩ : SMatrix).A).Den), vi (((⟨(⟨0, 0⟩ : SFrac), (⟨0, 0⟩ : SFrac), (⟨0, 0⟩ : SFrac), (⟨0, 0⟩ : SFrac)⟩ : SMatrix).B).Num), vi (((⟨(⟨0, 0⟩ : SFrac), (⟨0, 0⟩ : SFrac), (⟨0, 0⟩ : SFrac), (⟨0, 0⟩ : SFrac)⟩ : SMatrix).B).Den), vi (((⟨(⟨0, 0⟩ : SFrac), (⟨0, 0⟩ : SFrac), (⟨0, 0⟩ : SFrac), (⟨0, 0⟩ : SFrac)⟩ : SMatrix).C).Num), vi (((⟨(⟨0, 0⟩ : SFrac), (⟨0, 0⟩ : SFrac), (⟨0, 0⟩ : SFrac), (⟨0, 0⟩ : SFrac)⟩ : SMatrix).C).Den), vi (((⟨(⟨0, 0⟩ : SFrac), (⟨0, 0⟩ : SFrac), (⟨0, 0⟩ : SFrac), (⟨0, 0⟩ : SFrac)⟩ : SMatrix).D).Num), vi (((⟨(⟨0, 0⟩ : SFrac), (⟨0, 0⟩ : SFrac), (⟨0, 0⟩ : SFrac), (⟨0, 0⟩ : SFrac)⟩ : SMatrix).D).Den)], vi 8] := by first | rfl | (simp only [unfr_vi, List.map_cons, List.map_nil, un_i]; done) | (simp only [unfr_vi, List.map_cons, List.map_nil, un_i]; rfl) | (simp only [unfr_vi, List.map_cons, List.map_nil, un_i, List.length_cons, List.length_nil, List.length_append]; done)
theorem eqWJ_9 (z0 : (SFrac × SWay)) (z1 : (SFrac × SWay)) (z2 : (SFrac × SWay)) (z3 : (SFrac × SWay)) : VV.tu [VV.ag [vi z0.1.Num, vi z0.1.Den, vi z1.1.Num, vi z1.1.Den, vi z2.1.Num, vi z2.1.Den, vi z3.1.Num, vi z3.1.Den], vi 0] = VV.tu [VV.ag [vi (((⟨z0.1, z1.1, z2.1, z3.1⟩ : SMatrix).A).Num), vi (((⟨z0.1, z1.1, z2.1, z3.1⟩ : SMatrix).A).Den), vi (((⟨z0.1, z1.1, z2.1, z3.1⟩ : SMatrix).B).Num), vi (((⟨z0.1, z1.1, z2.1, z3.1⟩ : SMatrix).B).Den), vi (((⟨z0.1, z1.1, z2.1, z3.1⟩ : SMatrix).C).Num), vi (((⟨z0.1, z1.1, z2.1, z3.1⟩ : SMatrix).C).Den), vi (((⟨z0.1, z1.1, z2.1, z3.1⟩ : SMatrix).D).Num), vi (((⟨z0.1, z1.1, z2.1, z3.1⟩ : SMatrix).D).Den)], vi 0] := by first | rfl | (simp only [unfr_vi, List.map_cons, List.map_nil, un_i]; done) | (simp only [unfr_vi, List.map_cons, List.map_nil, un_i]; rfl) | (simp only [unfr_vi, List.map_cons, List.map_nil, un_i, List.length_cons, List.length_nil, List.length_append]; done)
def nspeculumref02_Join (k : Nat) (a0 : SMatrix) (a1 : SMatrix) : Option (SMatrix × Int) :=
  (n_speculumref02_Way_Mul k (⟨false⟩ : SWay) a1.A a0.A).bind fun r2156 => ((n_speculumref02_Way_Mul k r2156.2 a1.B a0.C).bind fun r2159 => ((n_speculumref02_Way_Add k r2159.2 r2156.1 r2159.1).bind fun r2162 => ((n_speculumref02_Way_Mul k r2162.2 a1.A a0.B).bind fun r2165 => ((n_speculumref02_Way_Mul k r2165.2 a1.B a0.D).bind fun r2168 => ((n_speculumref02_Way_Add k r2168.2 r2165.1 r2168.1).bind fun r2171 => ((n_speculumref02_Way_Mul k r2171.2 a1.C a0.A).bind fun r2174 => ((n_speculumref02_Way_Mul k r2174.2 a1.D a0.C).bind fun r2177 => ((n_speculumref02_Way_Add k r2177.2 r2174.1 r2177.1).bind fun r2180 => ((n_speculumref02_Way_Mul k r2180.2 a1.C a0.B).bind fun r2183 => ((n_speculumref02_Way_Mul k r2183.2 a1.D a0.D).bind fun r2186 => ((n_speculumref02_Way_Add k r2186.2 r2183.1 r2186.1).bind fun r2189 => (if r2189.2.Large = true then (some ((⟨(⟨0, 0⟩ : SFrac), (⟨0, 0⟩ : SFrac), (⟨0, 0⟩ : SFrac), (⟨0, 0⟩ : SFrac)⟩ : SMatrix), 8)) else (some ((⟨r2162.1, r2171.1, r2180.1, r2189.1⟩ : SMatrix), 0))))))))))))))
theorem nspeculumref02_Join_ok (k : Nat) (a0 : SMatrix) (a1 : SMatrix) (r : (SMatrix × Int)) (h : nspeculumref02_Join k a0 a1 = some r) : VC Go.Proofs.Try.prog 22 [VV.ag (c_SMatrix a0), VV.ag (c_SMatrix a1)] (VV.tu [VV.ag (c_SMatrix r.1), vi r.2]) := by
 unfold nspeculumref02_Join at h
 obtain ⟨r2156, h2157, h⟩ := bs h
 have e2158 := (an (VM.args (n_speculumref02_Way_Mul_ok k (⟨false⟩ : SWay) a1.A a0.A _ h2157) rfl eqWJ_6 rfl) (an (ti trivial) (ti trivial)))
 obtain ⟨r2159, h2160, h⟩ := bs h
 have e2161 := (an (n_speculumref02_Way_Mul_ok k r2156.2 a1.B a0.C _ h2160) (an (ti trivial) (ti trivial)))
 obtain ⟨r2162, h2163, h⟩ := bs h
 have e2164 := (an (n_speculumref02_Way_Add_ok k r2159.2 r2156.1 r2159.1 _ h2163) (an (ti trivial) (ti trivial)))
 obtain ⟨r2165, h2166, h⟩ := bs h
 have e2167 := (an (n_speculumref02_Way_Mul_ok k r2162.2 a1.A a0.B _ h2166) (an (ti trivial) (ti trivial)))
 obtain ⟨r2168, h2169, h⟩ := bs h
 have e2170 := (an (n_speculumref02_Way_Mul_ok k r2165.2 a1.B a0.D _ h2169) (an (ti trivial) (ti trivial)))
 obtain ⟨r2171, h2172, h⟩ := bs h
 have e2173 := (an (n_speculumref02_Way_Add_ok k r2168.2 r2165.1 r2168.1 _ h2172) (an (ti trivial) (ti trivial)))
 obtain ⟨r2174, h2175, h⟩ := bs h
 have e2176 := (an (n_speculumref02_Way_Mul_ok k r2171.2 a1.C a0.A _ h2175) (an (ti trivial) (ti trivial)))
 obtain ⟨r2177, h2178, h⟩ := bs h
 have e2179 := (an (n_speculumref02_Way_Mul_ok k r2174.2 a1.D a0.C _ h2178) (an (ti trivial) (ti trivial)))
 obtain ⟨r2180, h2181, h⟩ := bs h
 have e2182 := (an (n_speculumref02_Way_Add_ok k r2177.2 r2174.1 r2177.1 _ h2181) (an (ti trivial) (ti trivial)))
 obtain ⟨r2183, h2184, h⟩ := bs h
 have e2185 := (an (n_speculumref02_Way_Mul_ok k r2180.2 a1.C a0.B _ h2184) (an (ti trivial) (ti trivial)))
 obtain ⟨r2186, h2187, h⟩ := bs h
 have e2188 := (an (n_speculumref02_Way_Mul_ok k r2183.2 a1.D a0.D _ h2187) (an (ti trivial) (ti trivial)))
 obtain ⟨r2189, h2190, h⟩ := bs h
 have e2191 := (an (n_speculumref02_Way_Add_ok k r2186.2 r2183.1 r2186.1 _ h2190) (an (ti trivial) (ti trivial)))
 have e2192 := (ti (ti (ti (ti (an e2158 (ti (ti (ti (ti (an e2161 (an e2164 (ti (ti (ti (ti (an e2167 (ti (ti (ti (ti (an e2170 (an e2173 (ti (ti (ti (ti (an e2176 (ti (ti (ti (ti (an e2179 (an e2182 (ti (ti (ti (ti (an e2185 (ti (ti (ti (ti (an e2188 (an e2191 (ti (ti (ti trivial)))))))))))))))))))))))))))))))))))))))))))))))
 rcases ifs h with ⟨h2193, h⟩ | ⟨h2193, h⟩
 ·injection h with h; subst h
  exact fun_ok pm pn Go.Proofs.Try.func22 (r0 := VV.tu [VV.ag [vi 0, vi 0, vi 0, vi 0, vi 0, vi 0, vi 0, vi 0], vi 8]) (ans := [.reg (nN 4 []), .reg (.n :: []), .reg (arWJ_4 r2156 r2159 r2162 r2165 r2168 r2171 r2174 r2177 r2180 r2183 r2186 r2189), .reg (.n :: .n :: []), .br true, .reg (nN 3 [])]) (fr := true) (by kernel_rfl) (an (an (ti (ti (ti (ti trivial)))) (an (ti trivial) (an e2192 (an (ti (ti trivial)) (an h2193 (an (ti (ti (ti trivial))) trivial)))))) (an (ti (ti (ti (ti (ti (ti (ti (ti (ti trivial))))))))) (ti trivial))) (Wv.of_eq eqWJ_8)
 ·injection h with h; subst h
  exact fun_ok pm pn Go.Proofs.Try.func22 (r0 := VV.tu [VV.ag [vi r2162.1.Num, vi r2162.1.Den, vi r2171.1.Num, vi r2171.1.Den, vi r2180.1.Num, vi r2180.1.Den, vi r2189.1.Num, vi r2189.1.Den], vi 0]) (ans := [.reg (nN 4 []), .reg (.n :: []), .reg (arWJ_4 r2156 r2159 r2162 r2165 r2168 r2171 r2174 r2177 r2180 r2183 r2186 r2189), .reg (.n :: .n :: []), .br false, .reg (nN 3 [])]) (fr := true) (by kernel_rfl) (an (an (ti (ti (ti (ti trivial)))) (an (ti trivial) (an e2192 (an (an (ti (ti trivial)) (an (bool_f h2193) trivial)) (an (ti (ti (ti trivial))) trivial))))) (an (ti (ti (ti (ti (ti (ti (ti (ti (ti trivial))))))))) (ti trivial))) (Wv.of_eq (eqWJ_9 r2162 r2171 r2180 r2189))
def nspeculumlaw02_OpticsJoins (k : Nat) (a0 : SMatrix) (a1 : SMatrix) : Option Bool :=
  (nspeculumlaw02_awake k).bind fun r2216 => (if r2216 = true then ((noptics_Join k a0 a1).bind fun r2220 => ((noptics_Determinant k a0).bind fun r2223 => ((nspeculumref02_CheckMatrix k a0).bind fun r2226 => (if r2226 = 0 then ((nspeculumref02_Determinant k a0).bind fun r2230 => (if r2223.2 = r2230.2 then (if ((r2223.1.Num : Int) == r2230.1.Num && ((r2223.1.Den : Int) == r2230.1.Den && true)) = true then ((nspeculumref02_CheckMatrix k a1).bind fun r2240 => (if r2240 = 0 then ((nspeculumref02_Join k a0 a1).bind fun r2244 => (if r2220.2 = r2244.2 then (some ((r2220.1.A.Num : Int) == r2244.1.A.Num && ((r2220.1.A.Den : Int) == r2244.1.A.Den && ((r2220.1.B.Num : Int) == r2244.1.B.Num && ((r2220.1.B.Den : Int) == r2244.1.B.Den && ((r2220.1.C.Num : Int) == r2244.1.C.Num && ((r2220.1.C.Den : Int) == r2244.1.C.Den && ((r2220.1.D.Num : Int) == r2244.1.D.Num && ((r2220.1.D.Den : Int) == r2244.1.D.Den && true))))))))) else (some false))) else (if r2220.2 = r2240 then (some ((r2220.1.A.Num : Int) == 0 && ((r2220.1.A.Den : Int) == 0 && ((r2220.1.B.Num : Int) == 0 && ((r2220.1.B.Den : Int) == 0 && ((r2220.1.C.Num : Int) == 0 && ((r2220.1.C.Den : Int) == 0 && ((r2220.1.D.Num : Int) == 0 && ((r2220.1.D.Den : Int) == 0 && true))))))))) else (some false)))) else (some false)) else (some false))) else (if r2220.2 = r2226 then (if r2223.2 = r2226 then (if ((r2220.1.A.Num : Int) == 0 && ((r2220.1.A.Den : Int) == 0 && ((r2220.1.B.Num : Int) == 0 && ((r2220.1.B.Den : Int) == 0 && ((r2220.1.C.Num : Int) == 0 && ((r2220.1.C.Den : Int) == 0 && ((r2220.1.D.Num : Int) == 0 && ((r2220.1.D.Den : Int) == 0 && true)))))))) = true then (some ((r2223.1.Num : Int) == 0 && ((r2223.1.Den : Int) == 0 && true))) else (some false)) else (some false)) else (some false)))))) else (some false))
theorem nspeculumlaw02_OpticsJoins_ok (k : Nat) (a0 : SMatrix) (a1 : SMatrix) (r : Bool) (h : nspeculumlaw02_OpticsJoins k a0 a1 = some r) : VC Go.Proofs.Try.prog 4 [VV.ag (c_SMatrix a0), VV.ag (c_SMatrix a1)] (vb r) := by
 unfold nspeculumlaw02_OpticsJoins at h
 obtain ⟨r2216, h2217, h⟩ := bs h
 have e2218 := (an (nspeculumlaw02_awake_ok k _ h2217) (ti trivial))
 rcases ifs h with ⟨h2219, h⟩ | ⟨h2219, h⟩
 ·obtain ⟨r2220, h2221, h⟩ := bs h
  have e2222 := (ti (ti (an (noptics_Join_ok k a0 a1 _ h2221) (ti (ti (ti (ti (ti (ti trivial)))))))))
  obtain ⟨r2223, h2224, h⟩ := bs h
  have e2225 := (ti (an (noptics_Determinant_ok k a0 _ h2224) (ti (ti (ti (ti (ti (ti trivial))))))))
  obtain ⟨r2226, h2227, h⟩ := bs h
  have e2228 := (nspeculumref02_CheckMatrix_ok k a0 _ h2227)
  rcases ifs h with ⟨h2229, h⟩ | ⟨h2229, h⟩
  ·obtain ⟨r2230, h2231, h⟩ := bs h
   have e2232 := (nspeculumref02_Determinant_ok k a0 _ h2231)
   have e2233 := (ti (an e2232 (ti (ti (ti (ti (ti (ti trivial))))))))
   rcases ifs h with ⟨h2234, h⟩ | ⟨h2234, h⟩
   ·have e2235 := (an (not_f (decide_eq_true h2234)) trivial)
    have e2236 := (an (not_f (decide_eq_true h2234)) trivial)
    have e2237 := (an (not_f (decide_eq_true h2234)) (show List.map kdV [Value.int .i64 r2223.1.Num, Value.int .i64 r2223.1.Den] = List.map kdV [Value.int .i64 r2230.1.Num, Value.int .i64 r2230.1.Den] ∧ EqOK Go.Proofs.Try.prog 26 (List.map kdV [Value.int .i64 r2230.1.Num, Value.int .i64 r2230.1.Den]) from ⟨rfl, eqok26⟩))
    have e2238 := (ti (ti (ti (ti (an e2235 (an e2236 (an e2237 (an (not_f (decide_eq_true h2234)) trivial))))))))
    rcases ifs h with ⟨h2239, h⟩ | ⟨h2239, h⟩
    ·obtain ⟨r2240, h2241, h⟩ := bs h
     have e2242 := (nspeculumref02_CheckMatrix_ok k a1 _ h2241)
     rcases ifs h with ⟨h2243, h⟩ | ⟨h2243, h⟩
     ·obtain ⟨r2244, h2245, h⟩ := bs h
      have e2246 := (nspeculumref02_Join_ok k a0 a1 _ h2245)
      have e2247 := (ti (ti (an e2246 (ti (ti (ti (ti (ti (ti trivial)))))))))
      rcases ifs h with ⟨h2248, h⟩ | ⟨h2248, h⟩
      ·have e2249 := (an (decide_eq_true h2248) (show List.map kdV [Value.int .i64 r2220.1.A.Num, Value.int .i64 r2220.1.A.Den, Value.int .i64 r2220.1.B.Num, Value.int .i64 r2220.1.B.Den, Value.int .i64 r2220.1.C.Num, Value.int .i64 r2220.1.C.Den, Value.int .i64 r2220.1.D.Num, Value.int .i64 r2220.1.D.Den] = List.map kdV [Value.int .i64 r2244.1.A.Num, Value.int .i64 r2244.1.A.Den, Value.int .i64 r2244.1.B.Num, Value.int .i64 r2244.1.B.Den, Value.int .i64 r2244.1.C.Num, Value.int .i64 r2244.1.C.Den, Value.int .i64 r2244.1.D.Num, Value.int .i64 r2244.1.D.Den] ∧ EqOK Go.Proofs.Try.prog 28 (List.map kdV [Value.int .i64 r2244.1.A.Num, Value.int .i64 r2244.1.A.Den, Value.int .i64 r2244.1.B.Num, Value.int .i64 r2244.1.B.Den, Value.int .i64 r2244.1.C.Num, Value.int .i64 r2244.1.C.Den, Value.int .i64 r2244.1.D.Num, Value.int .i64 r2244.1.D.Den]) from ⟨rfl, eqok28⟩))
       have e2250 := (ti (ti (ti (ti (an (an (decide_eq_true h2248) trivial) (an (an (decide_eq_true h2248) trivial) (an e2249 (an (decide_eq_true h2248) (ti trivial)))))))))
       injection h with h; subst h
       exact fun_ok pm pn Go.Proofs.Try.func4 (r0 := vb ((r2220.1.A.Num : Int) == r2244.1.A.Num && ((r2220.1.A.Den : Int) == r2244.1.A.Den && ((r2220.1.B.Num : Int) == r2244.1.B.Num && ((r2220.1.B.Den : Int) == r2244.1.B.Den && ((r2220.1.C.Num : Int) == r2244.1.C.Num && ((r2220.1.C.Den : Int) == r2244.1.C.Den && ((r2220.1.D.Num : Int) == r2244.1.D.Num && ((r2220.1.D.Den : Int) == r2244.1.D.Den && true))))))))) (ans := [.reg (nN 3 []), .reg (.call (vb r2216) :: .n :: []), .br false, .reg (.n :: .n :: .call (VV.tu [VV.ag (c_SMatrix r2220.1), vi r2220.2]) :: nN 6 []), .reg (.n :: .call (VV.tu [VV.ag (c_SFrac r2223.1), vi r2223.2]) :: nN 6 []), .reg (.n :: .call (vi r2226) :: .n :: []), .reg (.n :: .n :: []), .br false, .reg (.n :: .call (VV.tu [VV.ag (c_SFrac r2230.1), vi r2230.2]) :: nN 6 []), .reg (nN 7 (.b false :: [])), .br false, .reg (.n :: .call (vi r2240) :: .n :: []), .reg (.n :: .n :: []), .br false, .reg (.n :: .n :: .call (VV.tu [VV.ag (c_SMatrix r2244.1), vi r2244.2]) :: nN 6 []), .reg (nN 7 (.b true :: .n :: []))]) (fr := true) (by kernel_rfl) (an (an (ti (ti (ti trivial))) (an (an e2218 (an (not_f h2219) trivial)) (an e2222 (an e2225 (an (ti (an e2228 (ti trivial))) (an (an (ti (ti trivial)) (an (not_f (decide_eq_true h2229)) trivial)) (an e2233 (an (an e2238 (an (not_f h2239) trivial)) (an (an (ti (an e2242 (ti trivial))) (an (ti (ti trivial)) (an (not_f (decide_eq_true h2243)) trivial))) (an e2247 (an e2250 trivial))))))))))) (ti trivial)) (Wv.refl _)
      ·have e2251 := (ti (ti (ti (ti (an (decide_eq_false h2248) (an (decide_eq_false h2248) (an (decide_eq_false h2248) (an (decide_eq_false h2248) (ti trivial)))))))))
       injection h with h; subst h
       exact fun_ok pm pn Go.Proofs.Try.func4 (r0 := vb false) (ans := [.reg (nN 3 []), .reg (.call (vb r2216) :: .n :: []), .br false, .reg (.n :: .n :: .call (VV.tu [VV.ag (c_SMatrix r2220.1), vi r2220.2]) :: nN 6 []), .reg (.n :: .call (VV.tu [VV.ag (c_SFrac r2223.1), vi r2223.2]) :: nN 6 []), .reg (.n :: .call (vi r2226) :: .n :: []), .reg (.n :: .n :: []), .br false, .reg (.n :: .call (VV.tu [VV.ag (c_SFrac r2230.1), vi r2230.2]) :: nN 6 []), .reg (nN 7 (.b false :: [])), .br false, .reg (.n :: .call (vi r2240) :: .n :: []), .reg (.n :: .n :: []), .br false, .reg (.n :: .n :: .call (VV.tu [VV.ag (c_SMatrix r2244.1), vi r2244.2]) :: nN 6 []), .reg (nN 4 (nS 3 (.b false :: .n :: [])))]) (fr := true) (by kernel_rfl) (an (an (ti (ti (ti trivial))) (an (an e2218 (an (not_f h2219) trivial)) (an e2222 (an e2225 (an (ti (an e2228 (ti trivial))) (an (an (ti (ti trivial)) (an (not_f (decide_eq_true h2229)) trivial)) (an e2233 (an (an e2238 (an (not_f h2239) trivial)) (an (an (ti (an e2242 (ti trivial))) (an (ti (ti trivial)) (an (not_f (decide_eq_true h2243)) trivial))) (an e2247 (an e2251 trivial))))))))))) (ti trivial)) (Wv.refl _)
     ·rcases ifs h with ⟨h2252, h⟩ | ⟨h2252, h⟩
      ·have e2253 := (an (decide_eq_true h2252) (show List.map kdV [Value.int .i64 r2220.1.A.Num, Value.int .i64 r2220.1.A.Den, Value.int .i64 r2220.1.B.Num, Value.int .i64 r2220.1.B.Den, Value.int .i64 r2220.1.C.Num, Value.int .i64 r2220.1.C.Den, Value.int .i64 r2220.1.D.Num, Value.int .i64 r2220.1.D.Den] = List.map kdV [Value.int .i64 0, Value.int .i64 0, Value.int .i64 0, Value.int .i64 0, Value.int .i64 0, Value.int .i64 0, Value.int .i64 0, Value.int .i64 0] ∧ EqOK Go.Proofs.Try.prog 28 (List.map kdV [Value.int .i64 0, Value.int .i64 0, Value.int .i64 0, Value.int .i64 0, Value.int .i64 0, Value.int .i64 0, Value.int .i64 0, Value.int .i64 0]) from ⟨rfl, eqok28⟩))
       have e2254 := (ti (ti (ti (ti (an (an (decide_eq_true h2252) trivial) (an (an (decide_eq_true h2252) trivial) (an e2253 (an (decide_eq_true h2252) (ti trivial)))))))))
       injection h with h; subst h
       exact fun_ok pm pn Go.Proofs.Try.func4 (r0 := vb ((r2220.1.A.Num : Int) == 0 && ((r2220.1.A.Den : Int) == 0 && ((r2220.1.B.Num : Int) == 0 && ((r2220.1.B.Den : Int) == 0 && ((r2220.1.C.Num : Int) == 0 && ((r2220.1.C.Den : Int) == 0 && ((r2220.1.D.Num : Int) == 0 && ((r2220.1.D.Den : Int) == 0 && true))))))))) (ans := [.reg (nN 3 []), .reg (.call (vb r2216) :: .n :: []), .br false, .reg (.n :: .n :: .call (VV.tu [VV.ag (c_SMatrix r2220.1), vi r2220.2]) :: nN 6 []), .reg (.n :: .call (VV.tu [VV.ag (c_SFrac r2223.1), vi r2223.2]) :: nN 6 []), .reg (.n :: .call (vi r2226) :: .n :: []), .reg (.n :: .n :: []), .br false, .reg (.n :: .call (VV.tu [VV.ag (c_SFrac r2230.1), vi r2230.2]) :: nN 6 []), .reg (nN 7 (.b false :: [])), .br false, .reg (.n :: .call (vi r2240) :: .n :: []), .reg (.n :: .n :: []), .br true, .reg (nN 7 (.b true :: .n :: []))]) (fr := true) (by kernel_rfl) (an (an (ti (ti (ti trivial))) (an (an e2218 (an (not_f h2219) trivial)) (an e2222 (an e2225 (an (ti (an e2228 (ti trivial))) (an (an (ti (ti trivial)) (an (not_f (decide_eq_true h2229)) trivial)) (an e2233 (an (an e2238 (an (not_f h2239) trivial)) (an (ti (an e2242 (ti trivial))) (an (ti (ti trivial)) (an (not_t (decide_eq_false h2243)) (an e2254 trivial)))))))))))) (ti trivial)) (Wv.refl _)
      ·have e2255 := (ti (ti (ti (ti (an (decide_eq_false h2252) (an (decide_eq_false h2252) (an (decide_eq_false h2252) (an (decide_eq_false h2252) (ti trivial)))))))))
       injection h with h; subst h
       exact fun_ok pm pn Go.Proofs.Try.func4 (r0 := vb false) (ans := [.reg (nN 3 []), .reg (.call (vb r2216) :: .n :: []), .br false, .reg (.n :: .n :: .call (VV.tu [VV.ag (c_SMatrix r2220.1), vi r2220.2]) :: nN 6 []), .reg (.n :: .call (VV.tu [VV.ag (c_SFrac r2223.1), vi r2223.2]) :: nN 6 []), .reg (.n :: .call (vi r2226) :: .n :: []), .reg (.n :: .n :: []), .br false, .reg (.n :: .call (VV.tu [VV.ag (c_SFrac r2230.1), vi r2230.2]) :: nN 6 []), .reg (nN 7 (.b false :: [])), .br false, .reg (.n :: .call (vi r2240) :: .n :: []), .reg (.n :: .n :: []), .br true, .reg (nN 4 (nS 3 (.b false :: .n :: [])))]) (fr := true) (by kernel_rfl) (an (an (ti (ti (ti trivial))) (an (an e2218 (an (not_f h2219) trivial)) (an e2222 (an e2225 (an (ti (an e2228 (ti trivial))) (an (an (ti (ti trivial)) (an (not_f (decide_eq_true h2229)) trivial)) (an e2233 (an (an e2238 (an (not_f h2239) trivial)) (an (ti (an e2242 (ti trivial))) (an (ti (ti trivial)) (an (not_t (decide_eq_false h2243)) (an e2255 trivial)))))))))))) (ti trivial)) (Wv.refl _)
    ·injection h with h; subst h
     exact fun_ok pm pn Go.Proofs.Try.func4 (r0 := vb false) (ans := [.reg (nN 3 []), .reg (.call (vb r2216) :: .n :: []), .br false, .reg (.n :: .n :: .call (VV.tu [VV.ag (c_SMatrix r2220.1), vi r2220.2]) :: nN 6 []), .reg (.n :: .call (VV.tu [VV.ag (c_SFrac r2223.1), vi r2223.2]) :: nN 6 []), .reg (.n :: .call (vi r2226) :: .n :: []), .reg (.n :: .n :: []), .br false, .reg (.n :: .call (VV.tu [VV.ag (c_SFrac r2230.1), vi r2230.2]) :: nN 6 []), .reg (nN 7 (.b false :: [])), .br true, .reg (.n :: [])]) (fr := true) (by kernel_rfl) (an (an (ti (ti (ti trivial))) (an (an e2218 (an (not_f h2219) trivial)) (an e2222 (an e2225 (an (ti (an e2228 (ti trivial))) (an (an (ti (ti trivial)) (an (not_f (decide_eq_true h2229)) trivial)) (an e2233 (an e2238 (an (not_t (bool_f h2239)) (an (ti trivial) trivial)))))))))) (ti trivial)) (Wv.refl _)
   ·have e2256 := (ti (ti (ti (ti (an (not_t (decide_eq_false h2234)) (an (not_t (decide_eq_false h2234)) (an (not_t (decide_eq_false h2234)) (an (not_t (decide_eq_false h2234)) trivial))))))))
    injection h with h; subst h
    exact fun_ok pm pn Go.Proofs.Try.func4 (r0 := vb false) (ans := [.reg (nN 3 []), .reg (.call (vb r2216) :: .n :: []), .br false, .reg (.n :: .n :: .call (VV.tu [VV.ag (c_SMatrix r2220.1), vi r2220.2]) :: nN 6 []), .reg (.n :: .call (VV.tu [VV.ag (c_SFrac r2223.1), vi r2223.2]) :: nN 6 []), .reg (.n :: .call (vi r2226) :: .n :: []), .reg (.n :: .n :: []), .br false, .reg (.n :: .call (VV.tu [VV.ag (c_SFrac r2230.1), vi r2230.2]) :: nN 6 []), .reg (nN 4 (nS 3 (.b true :: []))), .br true, .reg (.n :: [])]) (fr := true) (by kernel_rfl) (an (an (ti (ti (ti trivial))) (an (an e2218 (an (not_f h2219) trivial)) (an e2222 (an e2225 (an (ti (an e2228 (ti trivial))) (an (an (ti (ti trivial)) (an (not_f (decide_eq_true h2229)) trivial)) (an e2233 (an e2256 (an rt (an (ti trivial) trivial)))))))))) (ti trivial)) (Wv.refl _)
  ·rcases ifs h with ⟨h2257, h⟩ | ⟨h2257, h⟩
   ·rcases ifs h with ⟨h2258, h⟩ | ⟨h2258, h⟩
    ·have e2259 := (an (decide_eq_true h2258) (show List.map kdV [Value.int .i64 r2220.1.A.Num, Value.int .i64 r2220.1.A.Den, Value.int .i64 r2220.1.B.Num, Value.int .i64 r2220.1.B.Den, Value.int .i64 r2220.1.C.Num, Value.int .i64 r2220.1.C.Den, Value.int .i64 r2220.1.D.Num, Value.int .i64 r2220.1.D.Den] = List.map kdV [Value.int .i64 0, Value.int .i64 0, Value.int .i64 0, Value.int .i64 0, Value.int .i64 0, Value.int .i64 0, Value.int .i64 0, Value.int .i64 0] ∧ EqOK Go.Proofs.Try.prog 28 (List.map kdV [Value.int .i64 0, Value.int .i64 0, Value.int .i64 0, Value.int .i64 0, Value.int .i64 0, Value.int .i64 0, Value.int .i64 0, Value.int .i64 0]) from ⟨rfl, eqok28⟩))
     rcases ifs h with ⟨h2260, h⟩ | ⟨h2260, h⟩
     ·have e2261 := (an h2260 (show List.map kdV [Value.int .i64 r2223.1.Num, Value.int .i64 r2223.1.Den] = List.map kdV [Value.int .i64 0, Value.int .i64 0] ∧ EqOK Go.Proofs.Try.prog 26 (List.map kdV [Value.int .i64 0, Value.int .i64 0]) from ⟨rfl, eqok26⟩))
      have e2262 := (ti (ti (ti (ti (an (an (decide_eq_true h2257) trivial) (an (an (decide_eq_true h2257) trivial) (an (an (decide_eq_true h2257) trivial) (an (decide_eq_true h2257) (ti (an (an (decide_eq_true h2258) trivial) (an (an (decide_eq_true h2258) trivial) (an e2259 (an (decide_eq_true h2258) (ti (an (an h2260 trivial) (an (an h2260 trivial) (an e2261 (an h2260 (ti trivial)))))))))))))))))))
      injection h with h; subst h
      exact fun_ok pm pn Go.Proofs.Try.func4 (r0 := vb ((r2223.1.Num : Int) == 0 && ((r2223.1.Den : Int) == 0 && true))) (ans := [.reg (nN 3 []), .reg (.call (vb r2216) :: .n :: []), .br false, .reg (.n :: .n :: .call (VV.tu [VV.ag (c_SMatrix r2220.1), vi r2220.2]) :: nN 6 []), .reg (.n :: .call (VV.tu [VV.ag (c_SFrac r2223.1), vi r2223.2]) :: nN 6 []), .reg (.n :: .call (vi r2226) :: .n :: []), .reg (.n :: .n :: []), .br true, .reg (nN 7 (.b true :: nN 4 (.b true :: nN 4 (.b true :: .n :: []))))]) (fr := true) (by kernel_rfl) (an (an (ti (ti (ti trivial))) (an (an e2218 (an (not_f h2219) trivial)) (an e2222 (an e2225 (an (ti (an e2228 (ti trivial))) (an (ti (ti trivial)) (an (not_t (decide_eq_false h2229)) (an e2262 trivial)))))))) (ti trivial)) (Wv.refl _)
     ·have e2263 := (ti (ti (ti (ti (an (an (decide_eq_true h2257) trivial) (an (an (decide_eq_true h2257) trivial) (an (an (decide_eq_true h2257) trivial) (an (decide_eq_true h2257) (ti (an (an (decide_eq_true h2258) trivial) (an (an (decide_eq_true h2258) trivial) (an e2259 (an (decide_eq_true h2258) (ti (an (bool_f h2260) (an (bool_f h2260) (an (bool_f h2260) (an (bool_f h2260) (ti trivial)))))))))))))))))))
      injection h with h; subst h
      exact fun_ok pm pn Go.Proofs.Try.func4 (r0 := vb false) (ans := [.reg (nN 3 []), .reg (.call (vb r2216) :: .n :: []), .br false, .reg (.n :: .n :: .call (VV.tu [VV.ag (c_SMatrix r2220.1), vi r2220.2]) :: nN 6 []), .reg (.n :: .call (VV.tu [VV.ag (c_SFrac r2223.1), vi r2223.2]) :: nN 6 []), .reg (.n :: .call (vi r2226) :: .n :: []), .reg (.n :: .n :: []), .br true, .reg (nN 7 (.b true :: nN 4 (.b true :: .n :: nS 3 (.b false :: .n :: []))))]) (fr := true) (by kernel_rfl) (an (an (ti (ti (ti trivial))) (an (an e2218 (an (not_f h2219) trivial)) (an e2222 (an e2225 (an (ti (an e2228 (ti trivial))) (an (ti (ti trivial)) (an (not_t (decide_eq_false h2229)) (an e2263 trivial)))))))) (ti trivial)) (Wv.refl _)
    ·have e2264 := (ti (ti (ti (ti (an (an (decide_eq_true h2257) trivial) (an (an (decide_eq_true h2257) trivial) (an (an (decide_eq_true h2257) trivial) (an (decide_eq_true h2257) (ti (an (decide_eq_false h2258) (an (decide_eq_false h2258) (an (decide_eq_false h2258) (an (decide_eq_false h2258) (ti (an rf (an rf (an rf (an rf (ti trivial)))))))))))))))))))
     injection h with h; subst h
     exact fun_ok pm pn Go.Proofs.Try.func4 (r0 := vb false) (ans := [.reg (nN 3 []), .reg (.call (vb r2216) :: .n :: []), .br false, .reg (.n :: .n :: .call (VV.tu [VV.ag (c_SMatrix r2220.1), vi r2220.2]) :: nN 6 []), .reg (.n :: .call (VV.tu [VV.ag (c_SFrac r2223.1), vi r2223.2]) :: nN 6 []), .reg (.n :: .call (vi r2226) :: .n :: []), .reg (.n :: .n :: []), .br true, .reg (nN 7 (.b true :: .n :: nS 3 (.b false :: .n :: nS 3 (.b false :: .n :: []))))]) (fr := true) (by kernel_rfl) (an (an (ti (ti (ti trivial))) (an (an e2218 (an (not_f h2219) trivial)) (an e2222 (an e2225 (an (ti (an e2228 (ti trivial))) (an (ti (ti trivial)) (an (not_t (decide_eq_false h2229)) (an e2264 trivial)))))))) (ti trivial)) (Wv.refl _)
   ·have e2265 := (ti (ti (ti (ti (an (decide_eq_false h2257) (an (decide_eq_false h2257) (an (decide_eq_false h2257) (an (decide_eq_false h2257) (ti (an rf (an rf (an rf (an rf (ti (an rf (an rf (an rf (an rf (ti trivial)))))))))))))))))))
    injection h with h; subst h
    exact fun_ok pm pn Go.Proofs.Try.func4 (r0 := vb false) (ans := [.reg (nN 3 []), .reg (.call (vb r2216) :: .n :: []), .br false, .reg (.n :: .n :: .call (VV.tu [VV.ag (c_SMatrix r2220.1), vi r2220.2]) :: nN 6 []), .reg (.n :: .call (VV.tu [VV.ag (c_SFrac r2223.1), vi r2223.2]) :: nN 6 []), .reg (.n :: .call (vi r2226) :: .n :: []), .reg (.n :: .n :: []), .br true, .reg (nN 4 (nS 3 (.b false :: .n :: nS 3 (.b false :: .n :: nS 3 (.b false :: .n :: [])))))]) (fr := true) (by kernel_rfl) (an (an (ti (ti (ti trivial))) (an (an e2218 (an (not_f h2219) trivial)) (an e2222 (an e2225 (an (ti (an e2228 (ti trivial))) (an (ti (ti trivial)) (an (not_t (decide_eq_false h2229)) (an e2265 trivial)))))))) (ti trivial)) (Wv.refl _)
 ·injection h with h; subst h
  exact fun_ok pm pn Go.Proofs.Try.func4 (r0 := vb false) (ans := [.reg (nN 3 []), .reg (.call (vb r2216) :: .n :: []), .br true, .reg (.n :: [])]) (fr := true) (by kernel_rfl) (an (an (ti (ti (ti trivial))) (an e2218 (an (not_t (bool_f h2219)) (an (ti trivial) trivial)))) (ti trivial)) (Wv.refl _)
end Go.Proofs.Ytkffimkedibmnaa.Vg

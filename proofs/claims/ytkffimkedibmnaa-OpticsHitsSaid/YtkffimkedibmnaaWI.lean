/- Written by a program out of the program: what Go functions do, as plain functions, and their contracts. -/
import Derived.Test.YtkffimkedibmnaaO3
namespace Go.Proofs.Ytkffimkedibmnaa.Vg
set_option maxRecDepth 100000
set_option maxHeartbeats 4000000
set_option linter.unusedVariables false
set_option linter.unusedSimpArgs false
open Go Go.Proofs.Ytkffimkedibmnaa.Ev Go.Proofs.Ytkffimkedibmnaa.Vv
structure SRay where
  R : Int
  Z : Int
  ToR : Int
  ToZ : Int
  deriving Inhabited
def c_SRay (x : SRay) : List VV := [vi x.R, vi x.Z, vi x.ToR, vi x.ToZ]
theorem len_c_SRay (x : SRay) : (c_SRay x).length = 4 := rfl
theorem still_c_SRay (xs : List SRay) : (xs.flatMap c_SRay).all VV.still = true := all_flat (fun _ => rfl) xs
theorem isC_c_SRay (xs : List SRay) : (xs.flatMap c_SRay).all VV.isC = true := all_flat (fun _ => rfl) xs
theorem new0_c_SRay (xs : List SRay) : (xs.flatMap c_SRay).all new0 = true := all_flat (fun _ => rfl) xs
theorem unfr_c_SRay (xs : List SRay) : (xs.flatMap c_SRay).map unfr = xs.flatMap c_SRay := unfr_flat (fun _ => rfl) xs
structure Sequation where
  a : Int
  b : Int
  c : Int
  deriving Inhabited
def c_Sequation (x : Sequation) : List VV := [vi x.a, vi x.b, vi x.c]
theorem len_c_Sequation (x : Sequation) : (c_Sequation x).length = 3 := rfl
theorem still_c_Sequation (xs : List Sequation) : (xs.flatMap c_Sequation).all VV.still = true := all_flat (fun _ => rfl) xs
theorem isC_c_Sequation (xs : List Sequation) : (xs.flatMap c_Sequation).all VV.isC = true := all_flat (fun _ => rfl) xs
theorem new0_c_Sequation (xs : List Sequation) : (xs.flatMap c_Sequation).all new0 = true := all_flat (fun _ => rfl) xs
theorem unfr_c_Sequation (xs : List Sequation) : (xs.flatMap c_Sequation).map unfr = xs.flatMap c_Sequation := unfr_flat (fun _ => rfl) xs
structure A53 where
  e0 : SRange
  e1 : SRange
  deriving Inhabited
def c_A53 (x : A53) : List VV := [vi x.e0.Lo, vi x.e0.Hi, vi x.e1.Lo, vi x.e1.Hi]
theorem len_c_A53 (x : A53) : (c_A53 x).length = 4 := rfl
theorem still_c_A53 (xs : List A53) : (xs.flatMap c_A53).all VV.still = true := all_flat (fun _ => rfl) xs
theorem isC_c_A53 (xs : List A53) : (xs.flatMap c_A53).all VV.isC = true := all_flat (fun _ => rfl) xs
theorem new0_c_A53 (xs : List A53) : (xs.flatMap c_A53).all new0 = true := all_flat (fun _ => rfl) xs
theorem unfr_c_A53 (xs : List A53) : (xs.flatMap c_A53).map unfr = xs.flatMap c_A53 := unfr_flat (fun _ => rfl) xs
theorem eqok53 : EqOK Go.Proofs.Try.prog 53 [some (.i .i64), some (.i .i64), some (.i .i64), some (.i .i64)] := eqOK_of (by kernel_rfl) (by kernel_rfl) (eqT_array (len := 2) Go.Proofs.Try.underlying53 (by kernel_rfl) (by kernel_rfl) (eqT_struct Go.Proofs.Try.underlying52 (by kernel_rfl) (by kernel_rfl) (by kernel_rfl) (.cons (by decide +kernel) rfl (eqT_int Go.Proofs.Try.underlying3 (by kernel_rfl) (by kernel_rfl)) (.cons (by decide +kernel) rfl (eqT_int Go.Proofs.Try.underlying3 (by kernel_rfl) (by kernel_rfl)) .nil))))
def noptics_checkRay (k : Nat) (a0 : SRay) : Option Int :=
  (noptics_isSized k a0.R 100000).bind fun r1878 => (if r1878 = true then ((noptics_isSized k a0.Z 100000).bind fun r1882 => ((noptics_isSized k a0.ToR 100).bind fun r1886 => (if r1886 = true then ((noptics_isSized k a0.ToZ 100).bind fun r1890 => (if r1882 = true then (if r1890 = true then (if ((a0.ToR : Int) == 0 && ((a0.ToZ : Int) == 0 && true)) = true then (some 11) else (some 0)) else (some 2)) else (some 2))) else (if r1882 = true then (some 2) else (some 2))))) else ((noptics_isSized k a0.ToR 100).bind fun r1905 => (if r1905 = true then ((noptics_isSized k a0.ToZ 100).bind fun r1909 => (some 2)) else (some 2))))
theorem noptics_checkRay_ok (k : Nat) (a0 : SRay) (r : Int) (h : noptics_checkRay k a0 = some r) : VC Go.Proofs.Try.prog 69 [VV.ag (c_SRay a0)] (vi r) := by
 unfold noptics_checkRay at h
 obtain ⟨r1878, h1879, h⟩ := bs h
 have e1880 := (noptics_isSized_ok k a0.R 100000 _ h1879)
 rcases ifs h with ⟨h1881, h⟩ | ⟨h1881, h⟩
 ·obtain ⟨r1882, h1883, h⟩ := bs h
  have e1884 := (an h1881 (noptics_isSized_ok k a0.Z 100000 _ h1883))
  have e1885 := (ti (ti (an e1880 (ti (an (an h1881 trivial) (an (an h1881 trivial) (an e1884 (an h1881 (ti trivial)))))))))
  obtain ⟨r1886, h1887, h⟩ := bs h
  have e1888 := (noptics_isSized_ok k a0.ToR 100 _ h1887)
  rcases ifs h with ⟨h1889, h⟩ | ⟨h1889, h⟩
  ·obtain ⟨r1890, h1891, h⟩ := bs h
   have e1892 := (an h1889 (noptics_isSized_ok k a0.ToZ 100 _ h1891))
   have e1893 := (ti (ti (an e1888 (ti (an (an h1889 trivial) (an (an h1889 trivial) (an e1892 (an h1889 (ti trivial)))))))))
   rcases ifs h with ⟨h1894, h⟩ | ⟨h1894, h⟩
   ·have e1895 := (ti (ti (ti (an (an (not_f h1894) trivial) (an (an (not_f h1894) trivial) (an (not_f h1894) trivial))))))
    rcases ifs h with ⟨h1896, h⟩ | ⟨h1896, h⟩
    ·have e1897 := (show List.map kdV [Value.int .i64 a0.ToR, Value.int .i64 a0.ToZ] = List.map kdV [Value.int .i64 0, Value.int .i64 0] ∧ EqOK Go.Proofs.Try.prog 63 (List.map kdV [Value.int .i64 0, Value.int .i64 0]) from ⟨rfl, eqok63⟩)
     rcases ifs h with ⟨h1898, h⟩ | ⟨h1898, h⟩
     ·injection h with h; subst h
      exact fun_ok pm pn Go.Proofs.Try.func69 (r0 := vi 11) (ans := [.reg (.n :: .n :: []), .reg (.n :: .n :: .call (vb r1878) :: nN 3 (.call (vb r1882) :: .b true :: .n :: [])), .reg (.n :: .n :: .call (vb r1886) :: nN 3 (.call (vb r1890) :: .b true :: .n :: [])), .reg (nN 5 (.b false :: [])), .br false, .reg (nN 7 []), .br true, .reg (.n :: [])]) (fr := true) (by kernel_rfl) (an (an (ti (ti trivial)) (an e1885 (an e1893 (an (an e1895 (an (not_f h1896) trivial)) (an (ti (ti (ti (ti (ti (ti (an e1897 trivial))))))) (an h1898 (an (ti trivial) trivial))))))) (ti trivial)) (Wv.refl _)
     ·injection h with h; subst h
      exact fun_ok pm pn Go.Proofs.Try.func69 (r0 := vi 0) (ans := [.reg (.n :: .n :: []), .reg (.n :: .n :: .call (vb r1878) :: nN 3 (.call (vb r1882) :: .b true :: .n :: [])), .reg (.n :: .n :: .call (vb r1886) :: nN 3 (.call (vb r1890) :: .b true :: .n :: [])), .reg (nN 5 (.b false :: [])), .br false, .reg (nN 7 []), .br false, .reg (.n :: [])]) (fr := true) (by kernel_rfl) (an (an (ti (ti trivial)) (an e1885 (an e1893 (an (an e1895 (an (not_f h1896) trivial)) (an (an (ti (ti (ti (ti (ti (ti (an e1897 trivial))))))) (an (bool_f h1898) trivial)) (an (ti trivial) trivial)))))) (ti trivial)) (Wv.refl _)
    ·injection h with h; subst h
     exact fun_ok pm pn Go.Proofs.Try.func69 (r0 := vi 2) (ans := [.reg (.n :: .n :: []), .reg (.n :: .n :: .call (vb r1878) :: nN 3 (.call (vb r1882) :: .b true :: .n :: [])), .reg (.n :: .n :: .call (vb r1886) :: nN 3 (.call (vb r1890) :: .b true :: .n :: [])), .reg (nN 5 (.b false :: [])), .br true, .reg (.n :: [])]) (fr := true) (by kernel_rfl) (an (an (ti (ti trivial)) (an e1885 (an e1893 (an e1895 (an (not_t (bool_f h1896)) (an (ti trivial) trivial)))))) (ti trivial)) (Wv.refl _)
   ·have e1899 := (ti (ti (ti (an (not_t (bool_f h1894)) (an (not_t (bool_f h1894)) (an (not_t (bool_f h1894)) trivial))))))
    injection h with h; subst h
    exact fun_ok pm pn Go.Proofs.Try.func69 (r0 := vi 2) (ans := [.reg (.n :: .n :: []), .reg (.n :: .n :: .call (vb r1878) :: nN 3 (.call (vb r1882) :: .b true :: .n :: [])), .reg (.n :: .n :: .call (vb r1886) :: nN 3 (.call (vb r1890) :: .b true :: .n :: [])), .reg (nN 3 (.skip :: .skip :: .b true :: [])), .br true, .reg (.n :: [])]) (fr := true) (by kernel_rfl) (an (an (ti (ti trivial)) (an e1885 (an e1893 (an e1899 (an rt (an (ti trivial) trivial)))))) (ti trivial)) (Wv.refl _)
  ·have e1900 := (ti (ti (an e1888 (ti (an (bool_f h1889) (an (bool_f h1889) (an (bool_f h1889) (an (bool_f h1889) (ti trivial)))))))))
   rcases ifs h with ⟨h1901, h⟩ | ⟨h1901, h⟩
   ·have e1902 := (ti (ti (ti (an (an (not_f h1901) trivial) (an (an (not_f h1901) trivial) (an (not_f h1901) trivial))))))
    injection h with h; subst h
    exact fun_ok pm pn Go.Proofs.Try.func69 (r0 := vi 2) (ans := [.reg (.n :: .n :: []), .reg (.n :: .n :: .call (vb r1878) :: nN 3 (.call (vb r1882) :: .b true :: .n :: [])), .reg (.n :: .n :: .call (vb r1886) :: .n :: nS 3 (.b false :: .n :: [])), .reg (nN 5 (.b false :: [])), .br true, .reg (.n :: [])]) (fr := true) (by kernel_rfl) (an (an (ti (ti trivial)) (an e1885 (an e1900 (an e1902 (an (show (!false) = true from (not_t rfl)) (an (ti trivial) trivial)))))) (ti trivial)) (Wv.refl _)
   ·have e1903 := (ti (ti (ti (an (not_t (bool_f h1901)) (an (not_t (bool_f h1901)) (an (not_t (bool_f h1901)) trivial))))))
    injection h with h; subst h
    exact fun_ok pm pn Go.Proofs.Try.func69 (r0 := vi 2) (ans := [.reg (.n :: .n :: []), .reg (.n :: .n :: .call (vb r1878) :: nN 3 (.call (vb r1882) :: .b true :: .n :: [])), .reg (.n :: .n :: .call (vb r1886) :: .n :: nS 3 (.b false :: .n :: [])), .reg (nN 3 (.skip :: .skip :: .b true :: [])), .br true, .reg (.n :: [])]) (fr := true) (by kernel_rfl) (an (an (ti (ti trivial)) (an e1885 (an e1900 (an e1903 (an rt (an (ti trivial) trivial)))))) (ti trivial)) (Wv.refl _)
 ·have e1904 := (ti (ti (an e1880 (ti (an (bool_f h1881) (an (bool_f h1881) (an (bool_f h1881) (an (bool_f h1881) (ti trivial)))))))))
  obtain ⟨r1905, h1906, h⟩ := bs h
  have e1907 := (noptics_isSized_ok k a0.ToR 100 _ h1906)
  rcases ifs h with ⟨h1908, h⟩ | ⟨h1908, h⟩
  ·obtain ⟨r1909, h1910, h⟩ := bs h
   have e1911 := (an h1908 (noptics_isSized_ok k a0.ToZ 100 _ h1910))
   have e1912 := (ti (ti (an e1907 (ti (an (an h1908 trivial) (an (an h1908 trivial) (an e1911 (an h1908 (ti trivial)))))))))
   have e1913 := (ti (ti (ti (an (show (!false) = !false from (not_t rfl)) (an (show (!false) = !false from (not_t rfl)) (an (show (!false) = true from (not_t rfl)) trivial))))))
   injection h with h; subst h
   exact fun_ok pm pn Go.Proofs.Try.func69 (r0 := vi 2) (ans := [.reg (.n :: .n :: []), .reg (.n :: .n :: .call (vb r1878) :: .n :: nS 3 (.b false :: .n :: [])), .reg (.n :: .n :: .call (vb r1905) :: nN 3 (.call (vb r1909) :: .b true :: .n :: [])), .reg (nN 3 (.skip :: .skip :: .b true :: [])), .br true, .reg (.n :: [])]) (fr := true) (by kernel_rfl) (an (an (ti (ti trivial)) (an e1904 (an e1912 (an e1913 (an rt (an (ti trivial) trivial)))))) (ti trivial)) (Wv.refl _)
  ·have e1914 := (ti (ti (an e1907 (ti (an (bool_f h1908) (an (bool_f h1908) (an (bool_f h1908) (an (bool_f h1908) (ti trivial)))))))))
   have e1915 := (ti (ti (ti (an (show (!false) = !false from (not_t rfl)) (an (show (!false) = !false from (not_t rfl)) (an (show (!false) = true from (not_t rfl)) trivial))))))
   injection h with h; subst h
   exact fun_ok pm pn Go.Proofs.Try.func69 (r0 := vi 2) (ans := [.reg (.n :: .n :: []), .reg (.n :: .n :: .call (vb r1878) :: .n :: nS 3 (.b false :: .n :: [])), .reg (.n :: .n :: .call (vb r1905) :: .n :: nS 3 (.b false :: .n :: [])), .reg (nN 3 (.skip :: .skip :: .b true :: [])), .br true, .reg (.n :: [])]) (fr := true) (by kernel_rfl) (an (an (ti (ti trivial)) (an e1904 (an e1914 (an e1915 (an rt (an (ti trivial) trivial)))))) (ti trivial)) (Wv.refl _)
theorem eqWI_0 (z0 : Int) (z1 : Int) : [VV.tr (List.map vi ([z0, z1] : List Int)) (([z0, z1] : List Int).length)] = [VV.tr [vi z0, vi z1] 2] := by first | rfl | (simp only [unfr_vi, List.map_cons, List.map_nil, un_i, un_tr, List.length_map, List.length_cons, List.length_nil]; done) | (simp only [unfr_vi, List.map_cons, List.map_nil, un_i, un_tr, List.length_map, List.length_cons, List.length_nil]; rfl) | (simp only [unfr_vi, List.map_cons, List.map_nil, un_i, un_tr, List.length_map, List.length_cons, List.length_nil, List.length_cons, List.length_nil, List.length_append]; done)
theorem eqWI_1 (z0 : (Int × Int)) (z1 : SRay) (z2 : SConic) : VV.ag [vi (w64 (0 - (w64 ((w64 ((w64 (z0.2 * z1.ToR)) * z1.ToR)) + (w64 ((w64 (z0.1 * z1.ToZ)) * z1.ToZ)))))), vi (w64 (0 - (w64 ((w64 (z0.2 * (w64 ((w64 (z1.R * z1.ToR)) - (w64 (z2.Radius * z1.ToZ)))))) + (w64 ((w64 (z0.1 * z1.Z)) * z1.ToZ)))))), vi (w64 (0 - (w64 ((w64 ((w64 ((w64 (z0.2 * z1.R)) * z1.R)) - (w64 ((w64 ((w64 (2 * z0.2)) * z2.Radius)) * z1.Z)))) + (w64 ((w64 (z0.1 * z1.Z)) * z1.Z))))))] = VV.ag (c_Sequation (⟨w64 (0 - (w64 ((w64 ((w64 (z0.2 * z1.ToR)) * z1.ToR)) + (w64 ((w64 (z0.1 * z1.ToZ)) * z1.ToZ))))), w64 (0 - (w64 ((w64 (z0.2 * (w64 ((w64 (z1.R * z1.ToR)) - (w64 (z2.Radius * z1.ToZ)))))) + (w64 ((w64 (z0.1 * z1.Z)) * z1.ToZ))))), w64 (0 - (w64 ((w64 ((w64 ((w64 (z0.2 * z1.R)) * z1.R)) - (w64 ((w64 ((w64 (2 * z0.2)) * z2.Radius)) * z1.Z)))) + (w64 ((w64 (z0.1 * z1.Z)) * z1.Z)))))⟩ : Sequation)) := by first | rfl | (simp only [unfr_vi, List.map_cons, List.map_nil, un_i, unfr_c_Sequation]; done) | (simp only [unfr_vi, List.map_cons, List.map_nil, un_i, unfr_c_Sequation]; rfl) | (simp only [unfr_vi, List.map_cons, List.map_nil, un_i, unfr_c_Sequation, c_Sequation, List.length_cons, List.length_nil, List.length_append]; done)
theorem eqWI_2 (z0 : (Int × Int)) (z1 : SRay) (z2 : SConic) : VV.ag [vi (w64 ((w64 ((w64 (z0.2 * z1.ToR)) * z1.ToR)) + (w64 ((w64 (z0.1 * z1.ToZ)) * z1.ToZ)))), vi (w64 ((w64 (z0.2 * (w64 ((w64 (z1.R * z1.ToR)) - (w64 (z2.Radius * z1.ToZ)))))) + (w64 ((w64 (z0.1 * z1.Z)) * z1.ToZ)))), vi (w64 ((w64 ((w64 ((w64 (z0.2 * z1.R)) * z1.R)) - (w64 ((w64 ((w64 (2 * z0.2)) * z2.Radius)) * z1.Z)))) + (w64 ((w64 (z0.1 * z1.Z)) * z1.Z))))] = VV.ag (c_Sequation (⟨w64 ((w64 ((w64 (z0.2 * z1.ToR)) * z1.ToR)) + (w64 ((w64 (z0.1 * z1.ToZ)) * z1.ToZ))), w64 ((w64 (z0.2 * (w64 ((w64 (z1.R * z1.ToR)) - (w64 (z2.Radius * z1.ToZ)))))) + (w64 ((w64 (z0.1 * z1.Z)) * z1.ToZ))), w64 ((w64 ((w64 ((w64 (z0.2 * z1.R)) * z1.R)) - (w64 ((w64 ((w64 (2 * z0.2)) * z2.Radius)) * z1.Z)))) + (w64 ((w64 (z0.1 * z1.Z)) * z1.Z)))⟩ : Sequation)) := by first | rfl | (simp only [unfr_vi, List.map_cons, List.map_nil, un_i, unfr_c_Sequation]; done) | (simp only [unfr_vi, List.map_cons, List.map_nil, un_i, unfr_c_Sequation]; rfl) | (simp only [unfr_vi, List.map_cons, List.map_nil, un_i, unfr_c_Sequation, c_Sequation, List.length_cons, List.length_nil, List.length_append]; done)
def noptics_meeting (k : Nat) (a0 : SConic) (a1 : SRay) : Option Sequation :=
  (noptics_shape k a0).bind fun r1929 => (if (w64 ((w64 ((w64 (r1929.2 * a1.ToR)) * a1.ToR)) + (w64 ((w64 (r1929.1 * a1.ToZ)) * a1.ToZ)))) < 0 then (some (⟨w64 (0 - (w64 ((w64 ((w64 (r1929.2 * a1.ToR)) * a1.ToR)) + (w64 ((w64 (r1929.1 * a1.ToZ)) * a1.ToZ))))), w64 (0 - (w64 ((w64 (r1929.2 * (w64 ((w64 (a1.R * a1.ToR)) - (w64 (a0.Radius * a1.ToZ)))))) + (w64 ((w64 (r1929.1 * a1.Z)) * a1.ToZ))))), w64 (0 - (w64 ((w64 ((w64 ((w64 (r1929.2 * a1.R)) * a1.R)) - (w64 ((w64 ((w64 (2 * r1929.2)) * a0.Radius)) * a1.Z)))) + (w64 ((w64 (r1929.1 * a1.Z)) * a1.Z)))))⟩ : Sequation)) else (some (⟨w64 ((w64 ((w64 (r1929.2 * a1.ToR)) * a1.ToR)) + (w64 ((w64 (r1929.1 * a1.ToZ)) * a1.ToZ))), w64 ((w64 (r1929.2 * (w64 ((w64 (a1.R * a1.ToR)) - (w64 (a0.Radius * a1.ToZ)))))) + (w64 ((w64 (r1929.1 * a1.Z)) * a1.ToZ))), w64 ((w64 ((w64 ((w64 (r1929.2 * a1.R)) * a1.R)) - (w64 ((w64 ((w64 (2 * r1929.2)) * a0.Radius)) * a1.Z)))) + (w64 ((w64 (r1929.1 * a1.Z)) * a1.Z)))⟩ : Sequation)))
theorem noptics_meeting_ok (k : Nat) (a0 : SConic) (a1 : SRay) (r : Sequation) (h : noptics_meeting k a0 a1 = some r) : VC Go.Proofs.Try.prog 70 [VV.ag (c_SConic a0), VV.ag (c_SRay a1)] (VV.ag (c_Sequation r)) := by
 unfold noptics_meeting at h
 obtain ⟨r1929, h1930, h⟩ := bs h
 have e1931 := (ti (an (noptics_shape_ok k a0 _ h1930) (ti (ti (ti (ti (ti trivial)))))))
 have e1932 := (ti (ti (ti (ti (ti (ti (ti (ti (ti (ti (ti (ti (ti (ti (ti (ti (ti (ti (ti (ti (ti (ti (ti (ti (ti (ti (ti (ti (ti (ti (ti (ti (ti (ti (ti (ti (ti (ti (ti (ti (ti (ti (ti (ti (ti (ti (ti (ti (ti (ti (ti (ti (ti (ti (ti (ti (ti (ti (ti (ti (ti (ti (ti trivial)))))))))))))))))))))))))))))))))))))))))))))))))))))))))))))))
 rcases ifs h with ⟨h1933, h⟩ | ⟨h1933, h⟩
 ·have e1934 := (ti (ti (ti (ti (ti (ti (ti (ti (ti (ti (ti trivial)))))))))))
  injection h with h; subst h
  exact fun_ok pm pn Go.Proofs.Try.func70 (r0 := VV.ag [vi (w64 (0 - (w64 ((w64 ((w64 (r1929.2 * a1.ToR)) * a1.ToR)) + (w64 ((w64 (r1929.1 * a1.ToZ)) * a1.ToZ)))))), vi (w64 (0 - (w64 ((w64 (r1929.2 * (w64 ((w64 (a1.R * a1.ToR)) - (w64 (a0.Radius * a1.ToZ)))))) + (w64 ((w64 (r1929.1 * a1.Z)) * a1.ToZ)))))), vi (w64 (0 - (w64 ((w64 ((w64 ((w64 (r1929.2 * a1.R)) * a1.R)) - (w64 ((w64 ((w64 (2 * r1929.2)) * a0.Radius)) * a1.Z)))) + (w64 ((w64 (r1929.1 * a1.Z)) * a1.Z))))))]) (ans := [.reg (nN 3 []), .reg (.n :: .call (VV.tu [vi r1929.1, vi r1929.2]) :: nN 5 []), .reg (nN 63 []), .reg (nN 3 []), .br true, .reg (nN 11 [])]) (fr := true) (by kernel_rfl) (an (an (ti (ti (ti trivial))) (an e1931 (an e1932 (an (ti (ti (ti trivial))) (an (decide_eq_true h1933) (an e1934 trivial)))))) (an (ti (ti (ti (ti trivial)))) trivial)) (Wv.of_eq (eqWI_1 r1929 a1 a0))
 ·injection h with h; subst h
  exact fun_ok pm pn Go.Proofs.Try.func70 (r0 := VV.ag [vi (w64 ((w64 ((w64 (r1929.2 * a1.ToR)) * a1.ToR)) + (w64 ((w64 (r1929.1 * a1.ToZ)) * a1.ToZ)))), vi (w64 ((w64 (r1929.2 * (w64 ((w64 (a1.R * a1.ToR)) - (w64 (a0.Radius * a1.ToZ)))))) + (w64 ((w64 (r1929.1 * a1.Z)) * a1.ToZ)))), vi (w64 ((w64 ((w64 ((w64 (r1929.2 * a1.R)) * a1.R)) - (w64 ((w64 ((w64 (2 * r1929.2)) * a0.Radius)) * a1.Z)))) + (w64 ((w64 (r1929.1 * a1.Z)) * a1.Z))))]) (ans := [.reg (nN 3 []), .reg (.n :: .call (VV.tu [vi r1929.1, vi r1929.2]) :: nN 5 []), .reg (nN 63 []), .reg (nN 3 []), .br false, .reg (.n :: .n :: [])]) (fr := true) (by kernel_rfl) (an (an (ti (ti (ti trivial))) (an e1931 (an e1932 (an (an (ti (ti (ti trivial))) (an (decide_eq_false h1933) trivial)) (an (ti (ti trivial)) trivial))))) (an (ti (ti (ti (ti trivial)))) trivial)) (Wv.of_eq (eqWI_2 r1929 a1 a0))
theorem eqWI_3  : VV.tu [VV.ag [vi 0, vi 0, vi 0, vi 0], vi 12] = VV.tu [VV.ag [vi (((⟨(⟨0, 0⟩ : SRange), (⟨0, 0⟩ : SRange)⟩ : A53).e0).Lo), vi (((⟨(⟨0, 0⟩ : SRange), (⟨0, 0⟩ : SRange)⟩ : A53).e0).Hi), vi (((⟨(⟨0, 0⟩ : SRange), (⟨0, 0⟩ : SRange)⟩ : A53).e1).Lo), vi (((⟨(⟨0, 0⟩ : SRange), (⟨0, 0⟩ : SRange)⟩ : A53).e1).Hi)], vi 12] := by first | rfl | (simp only [unfr_vi, List.map_cons, List.map_nil, un_i]; done) | (simp only [unfr_vi, List.map_cons, List.map_nil, un_i]; rfl) | (simp only [unfr_vi, List.map_cons, List.map_nil, un_i, List.length_cons, List.length_nil, List.length_append]; done)
theorem eqWI_4 (z0 : Int) (z1 : Int) : VV.tu [VV.ag [vi z0, vi z1, vi z0, vi z1], vi 0] = VV.tu [VV.ag [vi (((⟨(⟨z0, z1⟩ : SRange), (⟨z0, z1⟩ : SRange)⟩ : A53).e0).Lo), vi (((⟨(⟨z0, z1⟩ : SRange), (⟨z0, z1⟩ : SRange)⟩ : A53).e0).Hi), vi (((⟨(⟨z0, z1⟩ : SRange), (⟨z0, z1⟩ : SRange)⟩ : A53).e1).Lo), vi (((⟨(⟨z0, z1⟩ : SRange), (⟨z0, z1⟩ : SRange)⟩ : A53).e1).Hi)], vi 0] := by first | rfl | (simp only [unfr_vi, List.map_cons, List.map_nil, un_i]; done) | (simp only [unfr_vi, List.map_cons, List.map_nil, un_i]; rfl) | (simp only [unfr_vi, List.map_cons, List.map_nil, un_i, List.length_cons, List.length_nil, List.length_append]; done)
def n_optics_equation_onlySolution (k : Nat) (a0 : Sequation) : Option (A53 × Int) :=
  if a0.b = 0 then (some ((⟨(⟨0, 0⟩ : SRange), (⟨0, 0⟩ : SRange)⟩ : A53), 12)) else (if (w64 (2 * a0.b)) < 0 then ((noptics_down k (w64 (0 - (w64 ((w64 (0 - a0.c)) * 1000000)))) (w64 (0 - (w64 (2 * a0.b))))).bind fun r1959 => ((noptics_up k (w64 (0 - (w64 ((w64 (0 - a0.c)) * 1000000)))) (w64 (0 - (w64 (2 * a0.b))))).bind fun r1962 => (some ((⟨(⟨r1959, r1962⟩ : SRange), (⟨r1959, r1962⟩ : SRange)⟩ : A53), 0)))) else ((noptics_down k (w64 ((w64 (0 - a0.c)) * 1000000)) (w64 (2 * a0.b))).bind fun r1966 => ((noptics_up k (w64 ((w64 (0 - a0.c)) * 1000000)) (w64 (2 * a0.b))).bind fun r1969 => (some ((⟨(⟨r1966, r1969⟩ : SRange), (⟨r1966, r1969⟩ : SRange)⟩ : A53), 0)))))
theorem n_optics_equation_onlySolution_ok (k : Nat) (a0 : Sequation) (r : (A53 × Int)) (h : n_optics_equation_onlySolution k a0 = some r) : VC Go.Proofs.Try.prog 71 [VV.ag (c_Sequation a0)] (VV.tu [VV.ag (c_A53 r.1), vi r.2]) := by
 unfold n_optics_equation_onlySolution at h
 rcases ifs h with ⟨h1956, h⟩ | ⟨h1956, h⟩
 ·injection h with h; subst h
  exact fun_ok pm pn Go.Proofs.Try.func71 (r0 := VV.tu [VV.ag [vi 0, vi 0, vi 0, vi 0], vi 12]) (ans := [.reg (nN 3 []), .reg (nN 3 []), .br true, .reg (nN 3 [])]) (fr := true) (by kernel_rfl) (an (an (ti (ti (ti trivial))) (an (ti (ti (ti trivial))) (an (decide_eq_true h1956) (an (ti (ti (ti trivial))) trivial)))) (an (ti (ti (ti (ti (ti trivial))))) (ti trivial))) (Wv.of_eq eqWI_3)
 ·have e1957 := (ti (ti (ti (ti (ti (ti (ti (ti (ti trivial)))))))))
  rcases ifs h with ⟨h1958, h⟩ | ⟨h1958, h⟩
  ·obtain ⟨r1959, h1960, h⟩ := bs h
   have e1961 := (noptics_down_ok k (w64 (0 - (w64 ((w64 (0 - a0.c)) * 1000000)))) (w64 (0 - (w64 (2 * a0.b)))) _ h1960)
   obtain ⟨r1962, h1963, h⟩ := bs h
   have e1964 := (noptics_up_ok k (w64 (0 - (w64 ((w64 (0 - a0.c)) * 1000000)))) (w64 (0 - (w64 (2 * a0.b)))) _ h1963)
   have e1965 := (ti (ti (an e1961 (ti (ti (an e1964 (ti (ti (ti trivial)))))))))
   injection h with h; subst h
   exact fun_ok pm pn Go.Proofs.Try.func71 (r0 := VV.tu [VV.ag [vi r1959, vi r1962, vi r1959, vi r1962], vi 0]) (ans := [.reg (nN 3 []), .reg (nN 3 []), .br false, .reg (nN 9 []), .reg (.n :: .n :: []), .br true, .reg (nN 6 []), .reg (.n :: .n :: .call (vi r1959) :: .n :: .n :: .call (vi r1962) :: nN 3 []), .reg (nN 5 [])]) (fr := true) (by kernel_rfl) (an (an (ti (ti (ti trivial))) (an (an (ti (ti (ti trivial))) (an (decide_eq_false h1956) trivial)) (an e1957 (an (an (ti (ti trivial)) (an (decide_eq_true h1958) (ti (ti (ti (ti (ti (ti trivial)))))))) (an e1965 (an (ti (ti (ti (ti (ti trivial))))) trivial)))))) (an (ti (ti (ti (ti (ti trivial))))) (ti trivial))) (Wv.of_eq (eqWI_4 r1959 r1962))
  ·obtain ⟨r1966, h1967, h⟩ := bs h
   have e1968 := (noptics_down_ok k (w64 ((w64 (0 - a0.c)) * 1000000)) (w64 (2 * a0.b)) _ h1967)
   obtain ⟨r1969, h1970, h⟩ := bs h
   have e1971 := (noptics_up_ok k (w64 ((w64 (0 - a0.c)) * 1000000)) (w64 (2 * a0.b)) _ h1970)
   have e1972 := (ti (ti (an e1968 (ti (ti (an e1971 (ti (ti (ti trivial)))))))))
   injection h with h; subst h
   exact fun_ok pm pn Go.Proofs.Try.func71 (r0 := VV.tu [VV.ag [vi r1966, vi r1969, vi r1966, vi r1969], vi 0]) (ans := [.reg (nN 3 []), .reg (nN 3 []), .br false, .reg (nN 9 []), .reg (.n :: .n :: []), .br false, .reg (.n :: .n :: .call (vi r1966) :: .n :: .n :: .call (vi r1969) :: nN 3 []), .reg (nN 5 [])]) (fr := true) (by kernel_rfl) (an (an (ti (ti (ti trivial))) (an (an (ti (ti (ti trivial))) (an (decide_eq_false h1956) trivial)) (an e1957 (an (an (ti (ti trivial)) (an (decide_eq_false h1958) trivial)) (an e1972 (an (ti (ti (ti (ti (ti trivial))))) trivial)))))) (an (ti (ti (ti (ti (ti trivial))))) (ti trivial))) (Wv.of_eq (eqWI_4 r1966 r1969))
def arWI_0 (z0 : Int) (z1 : Int) (z2 : Int) (z3 : Int) : List Ans := (nN 8 (.call (vi z0) :: nN 8 (.call (vi z1) :: nN 9 (.call (vi z2) :: nN 8 (.call (vi z3) :: nN 4 [])))))
theorem eqWI_5 (z0 : Int) (z1 : Int) (z2 : Int) (z3 : Int) : VV.tu [VV.ag [vi z0, vi z1, vi z2, vi z3], vi 0] = VV.tu [VV.ag [vi (((⟨(⟨z0, z1⟩ : SRange), (⟨z2, z3⟩ : SRange)⟩ : A53).e0).Lo), vi (((⟨(⟨z0, z1⟩ : SRange), (⟨z2, z3⟩ : SRange)⟩ : A53).e0).Hi), vi (((⟨(⟨z0, z1⟩ : SRange), (⟨z2, z3⟩ : SRange)⟩ : A53).e1).Lo), vi (((⟨(⟨z0, z1⟩ : SRange), (⟨z2, z3⟩ : SRange)⟩ : A53).e1).Hi)], vi 0] := by first | rfl | (simp only [unfr_vi, List.map_cons, List.map_nil, un_i]; done) | (simp only [unfr_vi, List.map_cons, List.map_nil, un_i]; rfl) | (simp only [unfr_vi, List.map_cons, List.map_nil, un_i, List.length_cons, List.length_nil, List.length_append]; done)
def n_optics_equation_solutions (k : Nat) (a0 : Sequation) : Option (A53 × Int) :=
  if (w64 ((w64 (a0.b * a0.b)) - (w64 (a0.a * a0.c)))) < 0 then (some ((⟨(⟨0, 0⟩ : SRange), (⟨0, 0⟩ : SRange)⟩ : A53), 12)) else ((noptics_rootDown k (w64 ((w64 (a0.b * a0.b)) - (w64 (a0.a * a0.c))))).bind fun r1999 => ((noptics_rootUp k (w64 ((w64 (a0.b * a0.b)) - (w64 (a0.a * a0.c))))).bind fun r2002 => ((noptics_down k (w64 ((w64 ((w64 (0 - a0.b)) - r2002)) * 1000000)) a0.a).bind fun r2005 => ((noptics_up k (w64 ((w64 ((w64 (0 - a0.b)) - r1999)) * 1000000)) a0.a).bind fun r2008 => ((noptics_down k (w64 ((w64 ((w64 (0 - a0.b)) + r1999)) * 1000000)) a0.a).bind fun r2011 => ((noptics_up k (w64 ((w64 ((w64 (0 - a0.b)) + r2002)) * 1000000)) a0.a).bind fun r2014 => (some ((⟨(⟨r2005, r2008⟩ : SRange), (⟨r2011, r2014⟩ : SRange)⟩ : A53), 0))))))))
theorem n_optics_equation_solutions_ok (k : Nat) (a0 : Sequation) (r : (A53 × Int)) (h : n_optics_equation_solutions k a0 = some r) : VC Go.Proofs.Try.prog 72 [VV.ag (c_Sequation a0)] (VV.tu [VV.ag (c_A53 r.1), vi r.2]) := by
 unfold n_optics_equation_solutions at h
 have e1997 := (ti (ti (ti (ti (ti (ti (ti (ti (ti (ti (ti (ti trivial))))))))))))
 rcases ifs h with ⟨h1998, h⟩ | ⟨h1998, h⟩
 ·injection h with h; subst h
  exact fun_ok pm pn Go.Proofs.Try.func72 (r0 := VV.tu [VV.ag [vi 0, vi 0, vi 0, vi 0], vi 12]) (ans := [.reg (nN 3 []), .reg (nN 12 []), .reg (.n :: .n :: []), .br true, .reg (nN 3 [])]) (fr := true) (by kernel_rfl) (an (an (ti (ti (ti trivial))) (an e1997 (an (ti (ti trivial)) (an (decide_eq_true h1998) (an (ti (ti (ti trivial))) trivial))))) (an (ti (ti (ti (ti (ti trivial))))) (ti trivial))) (Wv.of_eq eqWI_3)
 ·obtain ⟨r1999, h2000, h⟩ := bs h
  have e2001 := (noptics_rootDown_ok k (w64 ((w64 (a0.b * a0.b)) - (w64 (a0.a * a0.c)))) _ h2000)
  obtain ⟨r2002, h2003, h⟩ := bs h
  have e2004 := (noptics_rootUp_ok k (w64 ((w64 (a0.b * a0.b)) - (w64 (a0.a * a0.c)))) _ h2003)
  obtain ⟨r2005, h2006, h⟩ := bs h
  have e2007 := (noptics_down_ok k (w64 ((w64 ((w64 (0 - a0.b)) - r2002)) * 1000000)) a0.a _ h2006)
  obtain ⟨r2008, h2009, h⟩ := bs h
  have e2010 := (noptics_up_ok k (w64 ((w64 ((w64 (0 - a0.b)) - r1999)) * 1000000)) a0.a _ h2009)
  obtain ⟨r2011, h2012, h⟩ := bs h
  have e2013 := (noptics_down_ok k (w64 ((w64 ((w64 (0 - a0.b)) + r1999)) * 1000000)) a0.a _ h2012)
  obtain ⟨r2014, h2015, h⟩ := bs h
  have e2016 := (noptics_up_ok k (w64 ((w64 ((w64 (0 - a0.b)) + r2002)) * 1000000)) a0.a _ h2015)
  have e2017 := (ti (ti (ti (ti (ti (ti (ti (ti (an e2007 (ti (ti (ti (ti (ti (ti (ti (ti (an e2010 (ti (ti (ti (ti (ti (ti (ti (ti (ti (an e2013 (ti (ti (ti (ti (ti (ti (ti (ti (an e2016 (ti (ti (ti (ti trivial)))))))))))))))))))))))))))))))))))))))))
  injection h with h; subst h
  exact fun_ok pm pn Go.Proofs.Try.func72 (r0 := VV.tu [VV.ag [vi r2005, vi r2008, vi r2011, vi r2014], vi 0]) (ans := [.reg (nN 3 []), .reg (nN 12 []), .reg (.n :: .n :: []), .br false, .reg (.n :: .call (vi r1999) :: .n :: .call (vi r2002) :: .n :: .n :: []), .reg (arWI_0 r2005 r2008 r2011 r2014)]) (fr := true) (by kernel_rfl) (an (an (ti (ti (ti trivial))) (an e1997 (an (an (ti (ti trivial)) (an (decide_eq_false h1998) trivial)) (an (ti (an e2001 (ti (an e2004 (ti (ti trivial)))))) (an e2017 trivial))))) (an (ti (ti (ti (ti (ti trivial))))) (ti trivial))) (Wv.of_eq (eqWI_5 r2005 r2008 r2011 r2014))
def arWI_1 (z0 : Int) (z1 : Int) (z2 : Int) : List Ans := (.n :: .call (vi z0) :: .n :: .call (vi z1) :: .v VV.any :: .call (vi z2) :: .n :: [])
theorem eqWI_6 (z0 : Int) : VV.tu [VV.ag [vi 0, vi 0, vi 0, vi 0], vi z0] = VV.tu [VV.ag [vi (((⟨(⟨0, 0⟩ : SRange), (⟨0, 0⟩ : SRange)⟩ : A53).e0).Lo), vi (((⟨(⟨0, 0⟩ : SRange), (⟨0, 0⟩ : SRange)⟩ : A53).e0).Hi), vi (((⟨(⟨0, 0⟩ : SRange), (⟨0, 0⟩ : SRange)⟩ : A53).e1).Lo), vi (((⟨(⟨0, 0⟩ : SRange), (⟨0, 0⟩ : SRange)⟩ : A53).e1).Hi)], vi z0] := by first | rfl | (simp only [unfr_vi, List.map_cons, List.map_nil, un_i]; done) | (simp only [unfr_vi, List.map_cons, List.map_nil, un_i]; rfl) | (simp only [unfr_vi, List.map_cons, List.map_nil, un_i, List.length_cons, List.length_nil, List.length_append]; done)
def noptics_Hit (k : Nat) (a0 : SConic) (a1 : SRay) : Option (A53 × Int) :=
  (noptics_checkRayConic k a0).bind fun r2021 => ((noptics_checkRay k a1).bind fun r2023 => ((noptics_firstError k ([r2021, r2023] : List Int)).bind fun r2025 => (if r2025 = 0 then ((noptics_meeting k a0 a1).bind fun r2030 => (if r2030.a = 0 then ((n_optics_equation_onlySolution k r2030).bind fun r2034 => (some (r2034.1, r2034.2))) else ((n_optics_equation_solutions k r2030).bind fun r2037 => (some (r2037.1, r2037.2))))) else (some ((⟨(⟨0, 0⟩ : SRange), (⟨0, 0⟩ : SRange)⟩ : A53), r2025)))))
theorem noptics_Hit_ok (k : Nat) (a0 : SConic) (a1 : SRay) (r : (A53 × Int)) (h : noptics_Hit k a0 a1 = some r) : VC Go.Proofs.Try.prog 24 [VV.ag (c_SConic a0), VV.ag (c_SRay a1)] (VV.tu [VV.ag (c_A53 r.1), vi r.2]) := by
 unfold noptics_Hit at h
 obtain ⟨r2021, h2022, h⟩ := bs h
 obtain ⟨r2023, h2024, h⟩ := bs h
 obtain ⟨r2025, h2026, h⟩ := bs h
 have e2027 := (VC.args (noptics_firstError_ok k ([r2021, r2023] : List Int) _ h2026) (eqWI_0 r2021 r2023))
 have e2028 := (ti (an (noptics_checkRayConic_ok k a0 _ h2022) (ti (an (noptics_checkRay_ok k a1 _ h2024) (ti (an e2027 (ti trivial)))))))
 rcases ifs h with ⟨h2029, h⟩ | ⟨h2029, h⟩
 ·obtain ⟨r2030, h2031, h⟩ := bs h
  have e2032 := (ti (ti (an (noptics_meeting_ok k a0 a1 _ h2031) (ti (ti trivial)))))
  rcases ifs h with ⟨h2033, h⟩ | ⟨h2033, h⟩
  ·obtain ⟨r2034, h2035, h⟩ := bs h
   have e2036 := (n_optics_equation_onlySolution_ok k r2030 _ h2035)
   injection h with h; subst h
   exact fun_ok pm pn Go.Proofs.Try.func24 (r0 := VV.tu [VV.ag (c_A53 r2034.1), vi r2034.2]) (ans := [.reg (nN 4 []), .reg (arWI_1 r2021 r2023 r2025), .reg (.n :: .n :: []), .br false, .reg (.n :: .n :: .call (VV.ag (c_Sequation r2030)) :: .n :: .n :: []), .reg (nN 3 []), .br true, .reg (.n :: .call (VV.tu [VV.ag (c_A53 r2034.1), vi r2034.2]) :: nN 4 [])]) (fr := true) (by kernel_rfl) (an (an (ti (ti (ti (ti trivial)))) (an (an e2028 (an (ti (ti trivial)) (an (not_f (decide_eq_true h2029)) trivial))) (an e2032 (an (ti (ti (ti trivial))) (an (decide_eq_true h2033) (an (ti (an e2036 (ti (ti (ti (ti trivial)))))) trivial)))))) (an (ti (ti (ti (ti (ti trivial))))) (ti trivial))) (Wv.refl _)
  ·obtain ⟨r2037, h2038, h⟩ := bs h
   have e2039 := (n_optics_equation_solutions_ok k r2030 _ h2038)
   injection h with h; subst h
   exact fun_ok pm pn Go.Proofs.Try.func24 (r0 := VV.tu [VV.ag (c_A53 r2037.1), vi r2037.2]) (ans := [.reg (nN 4 []), .reg (arWI_1 r2021 r2023 r2025), .reg (.n :: .n :: []), .br false, .reg (.n :: .n :: .call (VV.ag (c_Sequation r2030)) :: .n :: .n :: []), .reg (nN 3 []), .br false, .reg (.n :: .call (VV.tu [VV.ag (c_A53 r2037.1), vi r2037.2]) :: nN 4 [])]) (fr := true) (by kernel_rfl) (an (an (ti (ti (ti (ti trivial)))) (an (an e2028 (an (ti (ti trivial)) (an (not_f (decide_eq_true h2029)) trivial))) (an e2032 (an (an (ti (ti (ti trivial))) (an (decide_eq_false h2033) trivial)) (an (ti (an e2039 (ti (ti (ti (ti trivial)))))) trivial))))) (an (ti (ti (ti (ti (ti trivial))))) (ti trivial))) (Wv.refl _)
 ·injection h with h; subst h
  exact fun_ok pm pn Go.Proofs.Try.func24 (r0 := VV.tu [VV.ag [vi 0, vi 0, vi 0, vi 0], vi r2025]) (ans := [.reg (nN 4 []), .reg (arWI_1 r2021 r2023 r2025), .reg (.n :: .n :: []), .br true, .reg (nN 4 [])]) (fr := true) (by kernel_rfl) (an (an (ti (ti (ti (ti trivial)))) (an e2028 (an (ti (ti trivial)) (an (not_t (decide_eq_false h2029)) (an (ti (ti (ti (ti trivial)))) trivial))))) (an (ti (ti (ti (ti (ti trivial))))) (ti trivial))) (Wv.of_eq (eqWI_6 r2025))
def arWI_2 (z0 : Bool) (z1 : Bool) : List Ans := (.n :: .n :: .call (vb z0) :: nN 5 (.call (vb z1) :: .n :: .b false :: nN 5 (.b false :: [])))
def arWI_3 (z0 : Bool) (z1 : Bool) : List Ans := (.n :: .n :: .call (vb z0) :: nN 5 (.call (vb z1) :: .n :: .b false :: .n :: nS 4 (.b true :: [])))
def arWI_4 (z0 : Bool) : List Ans := (.n :: .n :: .call (vb z0) :: .n :: .n :: nS 5 (.b true :: .n :: nS 4 (.b true :: [])))
def nspeculumref02_CheckRays (k : Nat) (a0 : SConic) : Option Int :=
  (nspeculumref02_CheckConic k a0).bind fun r2059 => (if r2059 = 0 then ((nspeculumbase_Within k a0.Radius (-200000) 200000).bind fun r2063 => (if r2063 = true then ((nspeculumbase_Within k a0.K.Num (-10) 10).bind fun r2067 => (if r2067 = true then (if 10 < a0.K.Den then (some 2) else (some 0)) else (some 2))) else (some 2))) else (some r2059))
theorem nspeculumref02_CheckRays_ok (k : Nat) (a0 : SConic) (r : Int) (h : nspeculumref02_CheckRays k a0 = some r) : VC Go.Proofs.Try.prog 25 [VV.ag (c_SConic a0)] (vi r) := by
 unfold nspeculumref02_CheckRays at h
 obtain ⟨r2059, h2060, h⟩ := bs h
 have e2061 := (nspeculumref02_CheckConic_ok k a0 _ h2060)
 rcases ifs h with ⟨h2062, h⟩ | ⟨h2062, h⟩
 ·obtain ⟨r2063, h2064, h⟩ := bs h
  have e2065 := (nspeculumbase_Within_ok k a0.Radius (-200000) 200000 _ h2064)
  rcases ifs h with ⟨h2066, h⟩ | ⟨h2066, h⟩
  ·obtain ⟨r2067, h2068, h⟩ := bs h
   have e2069 := (an (not_f h2066) (nspeculumbase_Within_ok k a0.K.Num (-10) 10 _ h2068))
   rcases ifs h with ⟨h2070, h⟩ | ⟨h2070, h⟩
   ·have e2071 := (ti (ti (an e2065 (ti (ti (an (an (not_f h2066) trivial) (an (an (not_f h2066) trivial) (an (an (not_f h2066) trivial) (an e2069 (an (an (not_f h2066) trivial) (an (not_f h2066) (ti (an (an (not_f h2070) trivial) (an (an (not_f h2070) trivial) (an (an (not_f h2070) trivial) (an (an (not_f h2070) trivial) (an (not_f h2070) trivial)))))))))))))))))
    rcases ifs h with ⟨h2072, h⟩ | ⟨h2072, h⟩
    ·injection h with h; subst h
     exact fun_ok pm pn Go.Proofs.Try.func25 (r0 := vi 2) (ans := [.reg (.n :: .n :: []), .reg (.n :: .call (vi r2059) :: .n :: []), .reg (.n :: .n :: []), .br false, .reg (arWI_2 r2063 r2067), .br true, .reg (.n :: [])]) (fr := true) (by kernel_rfl) (an (an (ti (ti trivial)) (an (an (ti (an e2061 (ti trivial))) (an (ti (ti trivial)) (an (not_f (decide_eq_true h2062)) trivial))) (an e2071 (an (decide_eq_true h2072) (an (ti trivial) trivial))))) (ti trivial)) (Wv.refl _)
    ·injection h with h; subst h
     exact fun_ok pm pn Go.Proofs.Try.func25 (r0 := vi 0) (ans := [.reg (.n :: .n :: []), .reg (.n :: .call (vi r2059) :: .n :: []), .reg (.n :: .n :: []), .br false, .reg (arWI_2 r2063 r2067), .br false, .reg (.n :: [])]) (fr := true) (by kernel_rfl) (an (an (ti (ti trivial)) (an (an (ti (an e2061 (ti trivial))) (an (ti (ti trivial)) (an (not_f (decide_eq_true h2062)) trivial))) (an (an e2071 (an (decide_eq_false h2072) trivial)) (an (ti trivial) trivial)))) (ti trivial)) (Wv.refl _)
   ·have e2073 := (ti (ti (an e2065 (ti (ti (an (an (not_f h2066) trivial) (an (an (not_f h2066) trivial) (an (an (not_f h2066) trivial) (an e2069 (an (an (not_f h2066) trivial) (an (not_f h2066) (ti (an (not_t (bool_f h2070)) (an (not_t (bool_f h2070)) (an (not_t (bool_f h2070)) (an (not_t (bool_f h2070)) (an (not_t (bool_f h2070)) trivial)))))))))))))))))
    injection h with h; subst h
    exact fun_ok pm pn Go.Proofs.Try.func25 (r0 := vi 2) (ans := [.reg (.n :: .n :: []), .reg (.n :: .call (vi r2059) :: .n :: []), .reg (.n :: .n :: []), .br false, .reg (arWI_3 r2063 r2067), .br true, .reg (.n :: [])]) (fr := true) (by kernel_rfl) (an (an (ti (ti trivial)) (an (an (ti (an e2061 (ti trivial))) (an (ti (ti trivial)) (an (not_f (decide_eq_true h2062)) trivial))) (an e2073 (an rt (an (ti trivial) trivial))))) (ti trivial)) (Wv.refl _)
  ·have e2074 := (ti (ti (an e2065 (ti (ti (an (not_t (bool_f h2066)) (an (not_t (bool_f h2066)) (an (not_t (bool_f h2066)) (an (not_t (bool_f h2066)) (an (not_t (bool_f h2066)) (an (not_t (bool_f h2066)) (ti (an rt (an rt (an rt (an rt (an rt trivial)))))))))))))))))
   injection h with h; subst h
   exact fun_ok pm pn Go.Proofs.Try.func25 (r0 := vi 2) (ans := [.reg (.n :: .n :: []), .reg (.n :: .call (vi r2059) :: .n :: []), .reg (.n :: .n :: []), .br false, .reg (arWI_4 r2063), .br true, .reg (.n :: [])]) (fr := true) (by kernel_rfl) (an (an (ti (ti trivial)) (an (an (ti (an e2061 (ti trivial))) (an (ti (ti trivial)) (an (not_f (decide_eq_true h2062)) trivial))) (an e2074 (an rt (an (ti trivial) trivial))))) (ti trivial)) (Wv.refl _)
 ·injection h with h; subst h
  exact fun_ok pm pn Go.Proofs.Try.func25 (r0 := vi r2059) (ans := [.reg (.n :: .n :: []), .reg (.n :: .call (vi r2059) :: .n :: []), .reg (.n :: .n :: []), .br true, .reg (.n :: .n :: [])]) (fr := true) (by kernel_rfl) (an (an (ti (ti trivial)) (an (ti (an e2061 (ti trivial))) (an (ti (ti trivial)) (an (not_t (decide_eq_false h2062)) (an (ti (ti trivial)) trivial))))) (ti trivial)) (Wv.refl _)
def arWI_5 (z0 : Bool) (z1 : Bool) (z2 : Bool) (z3 : Bool) : List Ans := (.n :: .n :: .call (vb z0) :: nN 4 (.call (vb z1) :: .n :: .b false :: nN 3 (.call (vb z2) :: .n :: .b false :: nN 3 (.call (vb z3) :: .n :: .b false :: []))))
def arWI_6 (z0 : Bool) (z1 : Bool) (z2 : Bool) : List Ans := (.n :: .n :: .call (vb z0) :: nN 4 (.call (vb z1) :: .n :: .b false :: nN 3 (.call (vb z2) :: .n :: .b false :: .n :: nS 4 (.b true :: []))))
def arWI_7 (z0 : Bool) (z1 : Bool) : List Ans := (.n :: .n :: .call (vb z0) :: nN 4 (.call (vb z1) :: .n :: .b false :: .n :: nS 4 (.b true :: .n :: nS 4 (.b true :: []))))
def arWI_8 (z0 : Bool) : List Ans := (.n :: .n :: .call (vb z0) :: .n :: .n :: nS 4 (.b true :: .n :: nS 4 (.b true :: .n :: nS 4 (.b true :: []))))
def nspeculumref02_CheckRay (k : Nat) (a0 : SRay) : Option Int :=
  (nspeculumbase_Within k a0.R (-100000) 100000).bind fun r2103 => (if r2103 = true then ((nspeculumbase_Within k a0.Z (-100000) 100000).bind fun r2107 => (if r2107 = true then ((nspeculumbase_Within k a0.ToR (-100) 100).bind fun r2111 => (if r2111 = true then ((nspeculumbase_Within k a0.ToZ (-100) 100).bind fun r2115 => (if r2115 = true then (if a0.ToR = 0 then (if a0.ToZ = 0 then (some 11) else (some 0)) else (some 0)) else (some 2))) else (some 2))) else (some 2))) else (some 2))
theorem nspeculumref02_CheckRay_ok (k : Nat) (a0 : SRay) (r : Int) (h : nspeculumref02_CheckRay k a0 = some r) : VC Go.Proofs.Try.prog 26 [VV.ag (c_SRay a0)] (vi r) := by
 unfold nspeculumref02_CheckRay at h
 obtain ⟨r2103, h2104, h⟩ := bs h
 have e2105 := (nspeculumbase_Within_ok k a0.R (-100000) 100000 _ h2104)
 rcases ifs h with ⟨h2106, h⟩ | ⟨h2106, h⟩
 ·obtain ⟨r2107, h2108, h⟩ := bs h
  have e2109 := (an (not_f h2106) (nspeculumbase_Within_ok k a0.Z (-100000) 100000 _ h2108))
  rcases ifs h with ⟨h2110, h⟩ | ⟨h2110, h⟩
  ·obtain ⟨r2111, h2112, h⟩ := bs h
   have e2113 := (an (not_f h2110) (nspeculumbase_Within_ok k a0.ToR (-100) 100 _ h2112))
   rcases ifs h with ⟨h2114, h⟩ | ⟨h2114, h⟩
   ·obtain ⟨r2115, h2116, h⟩ := bs h
    have e2117 := (an (not_f h2114) (nspeculumbase_Within_ok k a0.ToZ (-100) 100 _ h2116))
    have e2118 := (ti (ti (an e2105 (ti (ti (an (an (not_f h2106) trivial) (an (an (not_f h2106) trivial) (an e2109 (an (an (not_f h2106) trivial) (an (not_f h2106) (ti (an (an (not_f h2110) trivial) (an (an (not_f h2110) trivial) (an e2113 (an (an (not_f h2110) trivial) (an (not_f h2110) (ti (an (an (not_f h2114) trivial) (an (an (not_f h2114) trivial) (an e2117 (an (an (not_f h2114) trivial) (an (not_f h2114) trivial))))))))))))))))))))))
    rcases ifs h with ⟨h2119, h⟩ | ⟨h2119, h⟩
    ·rcases ifs h with ⟨h2120, h⟩ | ⟨h2120, h⟩
     ·have e2121 := (ti (ti (ti (ti (an (an (decide_eq_true h2120) trivial) (an (an (decide_eq_true h2120) trivial) (an (an (decide_eq_true h2120) trivial) (an (decide_eq_true h2120) trivial))))))))
      rcases ifs h with ⟨h2122, h⟩ | ⟨h2122, h⟩
      ·injection h with h; subst h
       exact fun_ok pm pn Go.Proofs.Try.func26 (r0 := vi 11) (ans := [.reg (.n :: .n :: []), .reg (arWI_5 r2103 r2107 r2111 r2115), .br false, .reg (nN 7 (.b true :: [])), .br true, .reg (.n :: [])]) (fr := true) (by kernel_rfl) (an (an (ti (ti trivial)) (an (an e2118 (an (not_f h2119) trivial)) (an e2121 (an (decide_eq_true h2122) (an (ti trivial) trivial))))) (ti trivial)) (Wv.refl _)
      ·injection h with h; subst h
       exact fun_ok pm pn Go.Proofs.Try.func26 (r0 := vi 0) (ans := [.reg (.n :: .n :: []), .reg (arWI_5 r2103 r2107 r2111 r2115), .br false, .reg (nN 7 (.b true :: [])), .br false, .reg (.n :: [])]) (fr := true) (by kernel_rfl) (an (an (ti (ti trivial)) (an (an e2118 (an (not_f h2119) trivial)) (an (an e2121 (an (decide_eq_false h2122) trivial)) (an (ti trivial) trivial)))) (ti trivial)) (Wv.refl _)
     ·have e2123 := (ti (ti (ti (ti (an (decide_eq_false h2120) (an (decide_eq_false h2120) (an (decide_eq_false h2120) (an (decide_eq_false h2120) trivial))))))))
      injection h with h; subst h
      exact fun_ok pm pn Go.Proofs.Try.func26 (r0 := vi 0) (ans := [.reg (.n :: .n :: []), .reg (arWI_5 r2103 r2107 r2111 r2115), .br false, .reg (nN 4 (nS 3 (.b false :: []))), .br false, .reg (.n :: [])]) (fr := true) (by kernel_rfl) (an (an (ti (ti trivial)) (an (an e2118 (an (not_f h2119) trivial)) (an (an e2123 (an rf trivial)) (an (ti trivial) trivial)))) (ti trivial)) (Wv.refl _)
    ·injection h with h; subst h
     exact fun_ok pm pn Go.Proofs.Try.func26 (r0 := vi 2) (ans := [.reg (.n :: .n :: []), .reg (arWI_5 r2103 r2107 r2111 r2115), .br true, .reg (.n :: [])]) (fr := true) (by kernel_rfl) (an (an (ti (ti trivial)) (an e2118 (an (not_t (bool_f h2119)) (an (ti trivial) trivial)))) (ti trivial)) (Wv.refl _)
   ·have e2124 := (ti (ti (an e2105 (ti (ti (an (an (not_f h2106) trivial) (an (an (not_f h2106) trivial) (an e2109 (an (an (not_f h2106) trivial) (an (not_f h2106) (ti (an (an (not_f h2110) trivial) (an (an (not_f h2110) trivial) (an e2113 (an (an (not_f h2110) trivial) (an (not_f h2110) (ti (an (not_t (bool_f h2114)) (an (not_t (bool_f h2114)) (an (not_t (bool_f h2114)) (an (not_t (bool_f h2114)) (an (not_t (bool_f h2114)) trivial))))))))))))))))))))))
    injection h with h; subst h
    exact fun_ok pm pn Go.Proofs.Try.func26 (r0 := vi 2) (ans := [.reg (.n :: .n :: []), .reg (arWI_6 r2103 r2107 r2111), .br true, .reg (.n :: [])]) (fr := true) (by kernel_rfl) (an (an (ti (ti trivial)) (an e2124 (an rt (an (ti trivial) trivial)))) (ti trivial)) (Wv.refl _)
  ·have e2125 := (ti (ti (an e2105 (ti (ti (an (an (not_f h2106) trivial) (an (an (not_f h2106) trivial) (an e2109 (an (an (not_f h2106) trivial) (an (not_f h2106) (ti (an (not_t (bool_f h2110)) (an (not_t (bool_f h2110)) (an (not_t (bool_f h2110)) (an (not_t (bool_f h2110)) (an (not_t (bool_f h2110)) (ti (an rt (an rt (an rt (an rt (an rt trivial))))))))))))))))))))))
   injection h with h; subst h
   exact fun_ok pm pn Go.Proofs.Try.func26 (r0 := vi 2) (ans := [.reg (.n :: .n :: []), .reg (arWI_7 r2103 r2107), .br true, .reg (.n :: [])]) (fr := true) (by kernel_rfl) (an (an (ti (ti trivial)) (an e2125 (an rt (an (ti trivial) trivial)))) (ti trivial)) (Wv.refl _)
 ·have e2126 := (ti (ti (an e2105 (ti (ti (an (not_t (bool_f h2106)) (an (not_t (bool_f h2106)) (an (not_t (bool_f h2106)) (an (not_t (bool_f h2106)) (an (not_t (bool_f h2106)) (ti (an rt (an rt (an rt (an rt (an rt (ti (an rt (an rt (an rt (an rt (an rt trivial))))))))))))))))))))))
  injection h with h; subst h
  exact fun_ok pm pn Go.Proofs.Try.func26 (r0 := vi 2) (ans := [.reg (.n :: .n :: []), .reg (arWI_8 r2103), .br true, .reg (.n :: [])]) (fr := true) (by kernel_rfl) (an (an (ti (ti trivial)) (an e2126 (an rt (an (ti trivial) trivial)))) (ti trivial)) (Wv.refl _)
def nspeculumref02_OnePlus (k : Nat) (a0 : SConic) : Option (Int × Int) :=
  some (w64 (a0.K.Num + a0.K.Den), a0.K.Den)
theorem nspeculumref02_OnePlus_ok (k : Nat) (a0 : SConic) (r : (Int × Int)) (h : nspeculumref02_OnePlus k a0 = some r) : VC Go.Proofs.Try.prog 74 [VV.ag (c_SConic a0)] (VV.tu [vi r.1, vi r.2]) := by
 unfold nspeculumref02_OnePlus at h
 have e2132 := (ti (ti (ti (ti (ti (ti (ti (ti (ti (ti (ti (ti trivial))))))))))))
 injection h with h; subst h
 exact fun_ok pm pn Go.Proofs.Try.func74 (r0 := VV.tu [vi (w64 (a0.K.Num + a0.K.Den)), vi a0.K.Den]) (ans := [.reg (nN 3 []), .reg (nN 12 [])]) (fr := true) (by kernel_rfl) (an (an (ti (ti (ti trivial))) (an e2132 trivial)) (ti (ti trivial))) (Wv.refl _)
def nspeculumbase_Floor (k : Nat) (a0 : Int) (a1 : Int) : Option Int :=
  if a1 ≠ 0 then (if (a0.tmod a1) < 0 then (some (w64 ((w64 (a0.tdiv a1)) - 1))) else (some (w64 (a0.tdiv a1)))) else none
theorem nspeculumbase_Floor_ok (k : Nat) (a0 : Int) (a1 : Int) (r : Int) (h : nspeculumbase_Floor k a0 a1 = some r) : VC Go.Proofs.Try.prog 75 [vi a0, vi a1] (vi r) := by
 unfold nspeculumbase_Floor at h
 obtain ⟨h2144, h⟩ := ifn h
 rcases ifs h with ⟨h2145, h⟩ | ⟨h2145, h⟩
 ·injection h with h; subst h
  exact fun_ok pm pn Go.Proofs.Try.func75 (r0 := vi (w64 ((w64 (a0.tdiv a1)) - 1))) (ans := [.reg (.n :: []), .reg (nN 4 []), .reg (nN 4 []), .br true, .reg (nN 3 []), .reg (.n :: .n :: [])]) (fr := true) (by kernel_rfl) (an (an (ti trivial) (an (ti (ti (an h2144 (ti trivial)))) (an (an (ti (ti (an h2144 (ti trivial)))) (an (decide_eq_true h2145) (ti (ti (ti trivial))))) (an (ti (ti trivial)) trivial)))) (ti trivial)) (Wv.refl _)
 ·injection h with h; subst h
  exact fun_ok pm pn Go.Proofs.Try.func75 (r0 := vi (w64 (a0.tdiv a1))) (ans := [.reg (.n :: []), .reg (nN 4 []), .reg (nN 4 []), .br false, .reg (.n :: .n :: [])]) (fr := true) (by kernel_rfl) (an (an (ti trivial) (an (ti (ti (an h2144 (ti trivial)))) (an (an (ti (ti (an h2144 (ti trivial)))) (an (decide_eq_false h2145) trivial)) (an (ti (ti trivial)) trivial)))) (ti trivial)) (Wv.refl _)
def nspeculumbase_Ceil (k : Nat) (a0 : Int) (a1 : Int) : Option Int :=
  (nspeculumbase_Floor k (w64 (0 - a0)) a1).bind fun r2152 => (some (w64 (0 - r2152)))
theorem nspeculumbase_Ceil_ok (k : Nat) (a0 : Int) (a1 : Int) (r : Int) (h : nspeculumbase_Ceil k a0 a1 = some r) : VC Go.Proofs.Try.prog 76 [vi a0, vi a1] (vi r) := by
 unfold nspeculumbase_Ceil at h
 obtain ⟨r2152, h2153, h⟩ := bs h
 have e2154 := (nspeculumbase_Floor_ok k (w64 (0 - a0)) a1 _ h2153)
 injection h with h; subst h
 exact fun_ok pm pn Go.Proofs.Try.func76 (r0 := vi (w64 (0 - r2152))) (ans := [.reg (.n :: []), .reg (nN 3 (.call (vi r2152) :: .n :: .n :: []))]) (fr := true) (by kernel_rfl) (an (an (ti trivial) (an (ti (ti (ti (an e2154 (ti (ti trivial)))))) trivial)) (ti trivial)) (Wv.refl _)
def nspeculumref02_Root_l0_0_h (a0 : Int) (x3 : Int) (x4 : Int) : VS := ⟨mkA [(0, vi a0), (2, VV.pt 0 0), (3, vi x3), (4, vi x4)], [some ⟨true, 1, [vi 0, vi 0]⟩], .nil⟩
def nspeculumref02_Root_l0_0_e0 (a0 : Int) (r : Int) : VS := ⟨mkA [(0, vi a0), (2, VV.pt 0 0), (3, vi r)], [some ⟨true, 1, [vi 0, vi 0]⟩], .nil⟩
def nspeculumref02_Root_l0_0 (k : Nat) (a0 : Int) : Nat → Int → Int → Option (Int)
  | 0, _, _ => none
  | fuel + 1, x3, x4 => if x3 < x4 then (if (w64 ((w64 ((w64 ((w64 (x3 + x4)) + 1)).tdiv 2)) * (w64 ((w64 ((w64 (x3 + x4)) + 1)).tdiv 2)))) ≤ a0 then (nspeculumref02_Root_l0_0 k a0 fuel (w64 ((w64 ((w64 (x3 + x4)) + 1)).tdiv 2)) x4) else (nspeculumref02_Root_l0_0 k a0 fuel x3 (w64 ((w64 ((w64 ((w64 (x3 + x4)) + 1)).tdiv 2)) - 1)))) else (some x3)
theorem nspeculumref02_Root_l0_0_ok (k : Nat) (a0 : Int) : ∀ (fuel : Nat) (x3 : Int) (x4 : Int) (r : Int), nspeculumref02_Root_l0_0 k a0 fuel x3 x4 = some r → (VLoop none Go.Proofs.Try.prog (szF Go.Proofs.Try.f77) (bodyOf Go.Proofs.Try.f77 0) (nspeculumref02_Root_l0_0_h a0 x3 x4) (.exit 0) (nspeculumref02_Root_l0_0_e0 a0 r)) := by
 intro fuel
 induction fuel with
 | zero => intro x3 x4 r h; rw [nspeculumref02_Root_l0_0.eq_1] at h; cases h
 | succ fuel ih =>
  intro x3 x4 r h
  rw [nspeculumref02_Root_l0_0.eq_2] at h
  rcases ifs h with ⟨h2186, h⟩ | ⟨h2186, h⟩
  ·have e2187 := (ti (ti (ti (ti (an (show (2 : Int) ≠ 0 from (by decide)) (ti trivial))))))
   rcases ifs h with ⟨h2188, h⟩ | ⟨h2188, h⟩
   ·have h2 := ih _ _ _ h
    obtain ⟨q, hv, hq⟩ := pkR (rd := none) (P := Go.Proofs.Try.prog) (fn := Go.Proofs.Try.f77) (k := 0) (s := (nspeculumref02_Root_l0_0_h a0 x3 x4)) (ans := [.reg (nN 3 []), .br true, .reg (nN 6 []), .reg (nN 5 []), .br true, .reg (.n :: .n :: [])]) (c := ⟨[(0, none), (2, none), (3, none), (4, none)], [none], []⟩) (e := .normal) (s1 := (nspeculumref02_Root_l0_0_h a0 (w64 ((w64 ((w64 (x3 + x4)) + 1)).tdiv 2)) x4)) (an (an (an (ti (ti (ti trivial))) (an (decide_eq_true h2186) trivial)) (an e2187 (an (ti (ti (ti (ti (ti trivial))))) (an (decide_eq_true h2188) (ti (ti trivial)))))) (ti trivial)) (by kernel_rfl)
    exact round_next pm pn hv hq h2
   ·have h2 := ih _ _ _ h
    obtain ⟨q, hv, hq⟩ := pkR (rd := none) (P := Go.Proofs.Try.prog) (fn := Go.Proofs.Try.f77) (k := 0) (s := (nspeculumref02_Root_l0_0_h a0 x3 x4)) (ans := [.reg (nN 3 []), .br true, .reg (nN 6 []), .reg (nN 5 []), .br false, .reg (nN 3 [])]) (c := ⟨[(0, none), (2, none), (3, none), (4, none)], [none], []⟩) (e := .normal) (s1 := (nspeculumref02_Root_l0_0_h a0 x3 (w64 ((w64 ((w64 ((w64 (x3 + x4)) + 1)).tdiv 2)) - 1)))) (an (an (an (ti (ti (ti trivial))) (an (decide_eq_true h2186) trivial)) (an e2187 (an (ti (ti (ti (ti (ti trivial))))) (an (decide_eq_false h2188) (ti (ti (ti trivial))))))) (ti trivial)) (by kernel_rfl)
    exact round_next pm pn hv hq h2
  ·injection h with h; subst h
   exact round_stop (c := ⟨[(0, none), (2, none), (3, none)], [none], []⟩) (s1 := (nspeculumref02_Root_l0_0_e0 a0 x3)) pm pn (ans := [.reg (nN 3 []), .br false]) (by kernel_rfl) (by intro e; cases e) (an (an (ti (ti (ti trivial))) (an (decide_eq_false h2186) trivial)) (ti trivial))
theorem eqWI_7 (z0 : Int) : VV.ag [vi z0, vi z0] = VV.ag (c_SRange (⟨z0, z0⟩ : SRange)) := by first | rfl | (simp only [unfr_vi, List.map_cons, List.map_nil, un_i, unfr_c_SRange]; done) | (simp only [unfr_vi, List.map_cons, List.map_nil, un_i, unfr_c_SRange]; rfl) | (simp only [unfr_vi, List.map_cons, List.map_nil, un_i, unfr_c_SRange, c_SRange, List.length_cons, List.length_nil, List.length_append]; done)
theorem eqWI_8 (z0 : Int) : VV.ag [vi z0, vi (w64 (z0 + 1))] = VV.ag (c_SRange (⟨z0, w64 (z0 + 1)⟩ : SRange)) := by first | rfl | (simp only [unfr_vi, List.map_cons, List.map_nil, un_i, unfr_c_SRange]; done) | (simp only [unfr_vi, List.map_cons, List.map_nil, un_i, unfr_c_SRange]; rfl) | (simp only [unfr_vi, List.map_cons, List.map_nil, un_i, unfr_c_SRange, c_SRange, List.length_cons, List.length_nil, List.length_append]; done)
def nspeculumref02_Root (k : Nat) (a0 : Int) : Option SRange :=
  (nspeculumref02_Root_l0_0 k a0 k 0 2000000000).bind fun r2190 => (if (w64 (r2190 * r2190)) = a0 then (some (⟨r2190, r2190⟩ : SRange)) else (some (⟨r2190, w64 (r2190 + 1)⟩ : SRange)))
theorem nspeculumref02_Root_ok (k : Nat) (a0 : Int) (r : SRange) (h : nspeculumref02_Root k a0 = some r) : VC Go.Proofs.Try.prog 77 [vi a0] (VV.ag (c_SRange r)) := by
 unfold nspeculumref02_Root at h
 obtain ⟨r2190, h2189, h⟩ := bs h
 have hph2189 := nspeculumref02_Root_l0_0_ok k a0 _ _ _ _ h2189
 have e2191 := (an (ti trivial) (VRun.loop hph2189))
 rcases ifs h with ⟨h2192, h⟩ | ⟨h2192, h⟩
 ·injection h with h; subst h
  exact fun_ok pm pn Go.Proofs.Try.func77 (r0 := VV.ag [vi r2190, vi r2190]) (ans := [.reg (.n :: []), .reg (.n :: .n :: []), .sub ⟨[(0, none), (2, none), (3, none), (4, none)], [none], []⟩ (.exit 0) (nspeculumref02_Root_l0_0_e0 a0 r2190), .reg (nN 5 []), .br true, .reg (nN 4 [])]) (fr := true) (by kernel_rfl) (an (an (ti trivial) (an (ti (ti trivial)) (an e2191 (an (ti (ti (ti (ti (ti trivial))))) (an (decide_eq_true h2192) (an (ti (ti (ti (ti trivial)))) trivial)))))) (an (ti (ti (ti trivial))) trivial)) (Wv.of_eq (eqWI_7 r2190))
 ·injection h with h; subst h
  exact fun_ok pm pn Go.Proofs.Try.func77 (r0 := VV.ag [vi r2190, vi (w64 (r2190 + 1))]) (ans := [.reg (.n :: []), .reg (.n :: .n :: []), .sub ⟨[(0, none), (2, none), (3, none), (4, none)], [none], []⟩ (.exit 0) (nspeculumref02_Root_l0_0_e0 a0 r2190), .reg (nN 5 []), .br false, .reg (nN 5 [])]) (fr := true) (by kernel_rfl) (an (an (ti trivial) (an (ti (ti trivial)) (an e2191 (an (an (ti (ti (ti (ti (ti trivial))))) (an (decide_eq_false h2192) trivial)) (an (ti (ti (ti (ti (ti trivial))))) trivial))))) (an (ti (ti (ti trivial))) trivial)) (Wv.of_eq (eqWI_8 r2190))
def nspeculumref02_Hit (k : Nat) (a0 : SConic) (a1 : SRay) : Option (A53 × Int) :=
  (nspeculumref02_OnePlus k a0).bind fun r2228 => (if (w64 ((w64 ((w64 (r2228.2 * a1.ToR)) * a1.ToR)) + (w64 ((w64 (r2228.1 * a1.ToZ)) * a1.ToZ)))) = 0 then (if (w64 ((w64 (r2228.2 * (w64 ((w64 (a1.R * a1.ToR)) - (w64 (a0.Radius * a1.ToZ)))))) + (w64 ((w64 (r2228.1 * a1.Z)) * a1.ToZ)))) = 0 then (some ((⟨(⟨0, 0⟩ : SRange), (⟨0, 0⟩ : SRange)⟩ : A53), 12)) else (if (w64 (2 * (w64 ((w64 (r2228.2 * (w64 ((w64 (a1.R * a1.ToR)) - (w64 (a0.Radius * a1.ToZ)))))) + (w64 ((w64 (r2228.1 * a1.Z)) * a1.ToZ)))))) < 0 then ((nspeculumbase_Floor k (w64 (1000000 * (w64 (0 - (w64 (0 - (w64 ((w64 ((w64 ((w64 (r2228.2 * a1.R)) * a1.R)) - (w64 ((w64 ((w64 (2 * r2228.2)) * a0.Radius)) * a1.Z)))) + (w64 ((w64 (r2228.1 * a1.Z)) * a1.Z)))))))))) (w64 (0 - (w64 (2 * (w64 ((w64 (r2228.2 * (w64 ((w64 (a1.R * a1.ToR)) - (w64 (a0.Radius * a1.ToZ)))))) + (w64 ((w64 (r2228.1 * a1.Z)) * a1.ToZ))))))))).bind fun r2237 => ((nspeculumbase_Ceil k (w64 (1000000 * (w64 (0 - (w64 (0 - (w64 ((w64 ((w64 ((w64 (r2228.2 * a1.R)) * a1.R)) - (w64 ((w64 ((w64 (2 * r2228.2)) * a0.Radius)) * a1.Z)))) + (w64 ((w64 (r2228.1 * a1.Z)) * a1.Z)))))))))) (w64 (0 - (w64 (2 * (w64 ((w64 (r2228.2 * (w64 ((w64 (a1.R * a1.ToR)) - (w64 (a0.Radius * a1.ToZ)))))) + (w64 ((w64 (r2228.1 * a1.Z)) * a1.ToZ))))))))).bind fun r2240 => (some ((⟨(⟨r2237, r2240⟩ : SRange), (⟨r2237, r2240⟩ : SRange)⟩ : A53), 0)))) else ((nspeculumbase_Floor k (w64 (1000000 * (w64 (0 - (w64 ((w64 ((w64 ((w64 (r2228.2 * a1.R)) * a1.R)) - (w64 ((w64 ((w64 (2 * r2228.2)) * a0.Radius)) * a1.Z)))) + (w64 ((w64 (r2228.1 * a1.Z)) * a1.Z)))))))) (w64 (2 * (w64 ((w64 (r2228.2 * (w64 ((w64 (a1.R * a1.ToR)) - (w64 (a0.Radius * a1.ToZ)))))) + (w64 ((w64 (r2228.1 * a1.Z)) * a1.ToZ))))))).bind fun r2244 => ((nspeculumbase_Ceil k (w64 (1000000 * (w64 (0 - (w64 ((w64 ((w64 ((w64 (r2228.2 * a1.R)) * a1.R)) - (w64 ((w64 ((w64 (2 * r2228.2)) * a0.Radius)) * a1.Z)))) + (w64 ((w64 (r2228.1 * a1.Z)) * a1.Z)))))))) (w64 (2 * (w64 ((w64 (r2228.2 * (w64 ((w64 (a1.R * a1.ToR)) - (w64 (a0.Radius * a1.ToZ)))))) + (w64 ((w64 (r2228.1 * a1.Z)) * a1.ToZ))))))).bind fun r2247 => (some ((⟨(⟨r2244, r2247⟩ : SRange), (⟨r2244, r2247⟩ : SRange)⟩ : A53), 0)))))) else (if (w64 ((w64 ((w64 (r2228.2 * a1.ToR)) * a1.ToR)) + (w64 ((w64 (r2228.1 * a1.ToZ)) * a1.ToZ)))) < 0 then (if (w64 ((w64 ((w64 (0 - (w64 ((w64 (r2228.2 * (w64 ((w64 (a1.R * a1.ToR)) - (w64 (a0.Radius * a1.ToZ)))))) + (w64 ((w64 (r2228.1 * a1.Z)) * a1.ToZ)))))) * (w64 (0 - (w64 ((w64 (r2228.2 * (w64 ((w64 (a1.R * a1.ToR)) - (w64 (a0.Radius * a1.ToZ)))))) + (w64 ((w64 (r2228.1 * a1.Z)) * a1.ToZ)))))))) - (w64 ((w64 (0 - (w64 ((w64 ((w64 (r2228.2 * a1.ToR)) * a1.ToR)) + (w64 ((w64 (r2228.1 * a1.ToZ)) * a1.ToZ)))))) * (w64 (0 - (w64 ((w64 ((w64 ((w64 (r2228.2 * a1.R)) * a1.R)) - (w64 ((w64 ((w64 (2 * r2228.2)) * a0.Radius)) * a1.Z)))) + (w64 ((w64 (r2228.1 * a1.Z)) * a1.Z)))))))))) < 0 then (some ((⟨(⟨0, 0⟩ : SRange), (⟨0, 0⟩ : SRange)⟩ : A53), 12)) else ((nspeculumref02_Root k (w64 ((w64 ((w64 (0 - (w64 ((w64 (r2228.2 * (w64 ((w64 (a1.R * a1.ToR)) - (w64 (a0.Radius * a1.ToZ)))))) + (w64 ((w64 (r2228.1 * a1.Z)) * a1.ToZ)))))) * (w64 (0 - (w64 ((w64 (r2228.2 * (w64 ((w64 (a1.R * a1.ToR)) - (w64 (a0.Radius * a1.ToZ)))))) + (w64 ((w64 (r2228.1 * a1.Z)) * a1.ToZ)))))))) - (w64 ((w64 (0 - (w64 ((w64 ((w64 (r2228.2 * a1.ToR)) * a1.ToR)) + (w64 ((w64 (r2228.1 * a1.ToZ)) * a1.ToZ)))))) * (w64 (0 - (w64 ((w64 ((w64 ((w64 (r2228.2 * a1.R)) * a1.R)) - (w64 ((w64 ((w64 (2 * r2228.2)) * a0.Radius)) * a1.Z)))) + (w64 ((w64 (r2228.1 * a1.Z)) * a1.Z))))))))))).bind fun r2254 => ((nspeculumbase_Floor k (w64 (1000000 * (w64 ((w64 (0 - (w64 (0 - (w64 ((w64 (r2228.2 * (w64 ((w64 (a1.R * a1.ToR)) - (w64 (a0.Radius * a1.ToZ)))))) + (w64 ((w64 (r2228.1 * a1.Z)) * a1.ToZ)))))))) - r2254.Hi)))) (w64 (0 - (w64 ((w64 ((w64 (r2228.2 * a1.ToR)) * a1.ToR)) + (w64 ((w64 (r2228.1 * a1.ToZ)) * a1.ToZ))))))).bind fun r2257 => ((nspeculumbase_Ceil k (w64 (1000000 * (w64 ((w64 (0 - (w64 (0 - (w64 ((w64 (r2228.2 * (w64 ((w64 (a1.R * a1.ToR)) - (w64 (a0.Radius * a1.ToZ)))))) + (w64 ((w64 (r2228.1 * a1.Z)) * a1.ToZ)))))))) - r2254.Lo)))) (w64 (0 - (w64 ((w64 ((w64 (r2228.2 * a1.ToR)) * a1.ToR)) + (w64 ((w64 (r2228.1 * a1.ToZ)) * a1.ToZ))))))).bind fun r2260 => ((nspeculumbase_Floor k (w64 (1000000 * (w64 ((w64 (0 - (w64 (0 - (w64 ((w64 (r2228.2 * (w64 ((w64 (a1.R * a1.ToR)) - (w64 (a0.Radius * a1.ToZ)))))) + (w64 ((w64 (r2228.1 * a1.Z)) * a1.ToZ)))))))) + r2254.Lo)))) (w64 (0 - (w64 ((w64 ((w64 (r2228.2 * a1.ToR)) * a1.ToR)) + (w64 ((w64 (r2228.1 * a1.ToZ)) * a1.ToZ))))))).bind fun r2264 => ((nspeculumbase_Ceil k (w64 (1000000 * (w64 ((w64 (0 - (w64 (0 - (w64 ((w64 (r2228.2 * (w64 ((w64 (a1.R * a1.ToR)) - (w64 (a0.Radius * a1.ToZ)))))) + (w64 ((w64 (r2228.1 * a1.Z)) * a1.ToZ)))))))) + r2254.Hi)))) (w64 (0 - (w64 ((w64 ((w64 (r2228.2 * a1.ToR)) * a1.ToR)) + (w64 ((w64 (r2228.1 * a1.ToZ)) * a1.ToZ))))))).bind fun r2267 => (some ((⟨(⟨r2257, r2260⟩ : SRange), (⟨r2264, r2267⟩ : SRange)⟩ : A53), 0)))))))) else (if (w64 ((w64 ((w64 ((w64 (r2228.2 * (w64 ((w64 (a1.R * a1.ToR)) - (w64 (a0.Radius * a1.ToZ)))))) + (w64 ((w64 (r2228.1 * a1.Z)) * a1.ToZ)))) * (w64 ((w64 (r2228.2 * (w64 ((w64 (a1.R * a1.ToR)) - (w64 (a0.Radius * a1.ToZ)))))) + (w64 ((w64 (r2228.1 * a1.Z)) * a1.ToZ)))))) - (w64 ((w64 ((w64 ((w64 (r2228.2 * a1.ToR)) * a1.ToR)) + (w64 ((w64 (r2228.1 * a1.ToZ)) * a1.ToZ)))) * (w64 ((w64 ((w64 ((w64 (r2228.2 * a1.R)) * a1.R)) - (w64 ((w64 ((w64 (2 * r2228.2)) * a0.Radius)) * a1.Z)))) + (w64 ((w64 (r2228.1 * a1.Z)) * a1.Z)))))))) < 0 then (some ((⟨(⟨0, 0⟩ : SRange), (⟨0, 0⟩ : SRange)⟩ : A53), 12)) else ((nspeculumref02_Root k (w64 ((w64 ((w64 ((w64 (r2228.2 * (w64 ((w64 (a1.R * a1.ToR)) - (w64 (a0.Radius * a1.ToZ)))))) + (w64 ((w64 (r2228.1 * a1.Z)) * a1.ToZ)))) * (w64 ((w64 (r2228.2 * (w64 ((w64 (a1.R * a1.ToR)) - (w64 (a0.Radius * a1.ToZ)))))) + (w64 ((w64 (r2228.1 * a1.Z)) * a1.ToZ)))))) - (w64 ((w64 ((w64 ((w64 (r2228.2 * a1.ToR)) * a1.ToR)) + (w64 ((w64 (r2228.1 * a1.ToZ)) * a1.ToZ)))) * (w64 ((w64 ((w64 ((w64 (r2228.2 * a1.R)) * a1.R)) - (w64 ((w64 ((w64 (2 * r2228.2)) * a0.Radius)) * a1.Z)))) + (w64 ((w64 (r2228.1 * a1.Z)) * a1.Z))))))))).bind fun r2272 => ((nspeculumbase_Floor k (w64 (1000000 * (w64 ((w64 (0 - (w64 ((w64 (r2228.2 * (w64 ((w64 (a1.R * a1.ToR)) - (w64 (a0.Radius * a1.ToZ)))))) + (w64 ((w64 (r2228.1 * a1.Z)) * a1.ToZ)))))) - r2272.Hi)))) (w64 ((w64 ((w64 (r2228.2 * a1.ToR)) * a1.ToR)) + (w64 ((w64 (r2228.1 * a1.ToZ)) * a1.ToZ))))).bind fun r2275 => ((nspeculumbase_Ceil k (w64 (1000000 * (w64 ((w64 (0 - (w64 ((w64 (r2228.2 * (w64 ((w64 (a1.R * a1.ToR)) - (w64 (a0.Radius * a1.ToZ)))))) + (w64 ((w64 (r2228.1 * a1.Z)) * a1.ToZ)))))) - r2272.Lo)))) (w64 ((w64 ((w64 (r2228.2 * a1.ToR)) * a1.ToR)) + (w64 ((w64 (r2228.1 * a1.ToZ)) * a1.ToZ))))).bind fun r2278 => ((nspeculumbase_Floor k (w64 (1000000 * (w64 ((w64 (0 - (w64 ((w64 (r2228.2 * (w64 ((w64 (a1.R * a1.ToR)) - (w64 (a0.Radius * a1.ToZ)))))) + (w64 ((w64 (r2228.1 * a1.Z)) * a1.ToZ)))))) + r2272.Lo)))) (w64 ((w64 ((w64 (r2228.2 * a1.ToR)) * a1.ToR)) + (w64 ((w64 (r2228.1 * a1.ToZ)) * a1.ToZ))))).bind fun r2282 => ((nspeculumbase_Ceil k (w64 (1000000 * (w64 ((w64 (0 - (w64 ((w64 (r2228.2 * (w64 ((w64 (a1.R * a1.ToR)) - (w64 (a0.Radius * a1.ToZ)))))) + (w64 ((w64 (r2228.1 * a1.Z)) * a1.ToZ)))))) + r2272.Hi)))) (w64 ((w64 ((w64 (r2228.2 * a1.ToR)) * a1.ToR)) + (w64 ((w64 (r2228.1 * a1.ToZ)) * a1.ToZ))))).bind fun r2285 => (some ((⟨(⟨r2275, r2278⟩ : SRange), (⟨r2282, r2285⟩ : SRange)⟩ : A53), 0))))))))))
theorem nspeculumref02_Hit_ok (k : Nat) (a0 : SConic) (a1 : SRay) (r : (A53 × Int)) (h : nspeculumref02_Hit k a0 a1 = some r) : VC Go.Proofs.Try.prog 27 [VV.ag (c_SConic a0), VV.ag (c_SRay a1)] (VV.tu [VV.ag (c_A53 r.1), vi r.2]) := by
 unfold nspeculumref02_Hit at h
 obtain ⟨r2228, h2229, h⟩ := bs h
 have e2230 := (nspeculumref02_OnePlus_ok k a0 _ h2229)
 have e2231 := (ti (ti (ti (ti (ti (ti (ti (ti (ti (ti (ti (ti (ti (ti (ti (ti trivial))))))))))))))))
 have e2232 := (ti (ti (ti (ti (ti (ti (ti (ti (ti (ti (ti (ti (ti (ti (ti (ti (ti (ti (ti (ti (ti (ti trivial))))))))))))))))))))))
 have e2233 := (ti (ti (ti (ti (ti (ti (ti (ti (ti (ti (ti (ti (ti (ti (ti (ti (ti (ti (ti (ti (ti (ti (ti (ti (ti trivial)))))))))))))))))))))))))
 rcases ifs h with ⟨h2234, h⟩ | ⟨h2234, h⟩
 ·rcases ifs h with ⟨h2235, h⟩ | ⟨h2235, h⟩
  ·injection h with h; subst h
   exact fun_ok pm pn Go.Proofs.Try.func27 (r0 := VV.tu [VV.ag [vi 0, vi 0, vi 0, vi 0], vi 12]) (ans := [.reg (nN 4 []), .reg (.n :: .call (VV.tu [vi r2228.1, vi r2228.2]) :: nN 5 []), .reg (nN 16 []), .reg (nN 22 []), .reg (nN 25 []), .reg (.n :: .n :: []), .br true, .reg (.n :: .n :: []), .br true, .reg (nN 3 [])]) (fr := true) (by kernel_rfl) (an (an (ti (ti (ti (ti trivial)))) (an (ti (an e2230 (ti (ti (ti (ti (ti trivial))))))) (an e2231 (an e2232 (an e2233 (an (ti (ti trivial)) (an (decide_eq_true h2234) (an (ti (ti trivial)) (an (decide_eq_true h2235) (an (ti (ti (ti trivial))) trivial)))))))))) (an (ti (ti (ti (ti (ti trivial))))) (ti trivial))) (Wv.of_eq eqWI_3)
  ·rcases ifs h with ⟨h2236, h⟩ | ⟨h2236, h⟩
   ·obtain ⟨r2237, h2238, h⟩ := bs h
    have e2239 := (nspeculumbase_Floor_ok k (w64 (1000000 * (w64 (0 - (w64 (0 - (w64 ((w64 ((w64 ((w64 (r2228.2 * a1.R)) * a1.R)) - (w64 ((w64 ((w64 (2 * r2228.2)) * a0.Radius)) * a1.Z)))) + (w64 ((w64 (r2228.1 * a1.Z)) * a1.Z)))))))))) (w64 (0 - (w64 (2 * (w64 ((w64 (r2228.2 * (w64 ((w64 (a1.R * a1.ToR)) - (w64 (a0.Radius * a1.ToZ)))))) + (w64 ((w64 (r2228.1 * a1.Z)) * a1.ToZ)))))))) _ h2238)
    obtain ⟨r2240, h2241, h⟩ := bs h
    have e2242 := (nspeculumbase_Ceil_ok k (w64 (1000000 * (w64 (0 - (w64 (0 - (w64 ((w64 ((w64 ((w64 (r2228.2 * a1.R)) * a1.R)) - (w64 ((w64 ((w64 (2 * r2228.2)) * a0.Radius)) * a1.Z)))) + (w64 ((w64 (r2228.1 * a1.Z)) * a1.Z)))))))))) (w64 (0 - (w64 (2 * (w64 ((w64 (r2228.2 * (w64 ((w64 (a1.R * a1.ToR)) - (w64 (a0.Radius * a1.ToZ)))))) + (w64 ((w64 (r2228.1 * a1.Z)) * a1.ToZ)))))))) _ h2241)
    have e2243 := (ti (ti (ti (an e2239 (ti (ti (ti (an e2242 (ti (ti (ti trivial)))))))))))
    injection h with h; subst h
    exact fun_ok pm pn Go.Proofs.Try.func27 (r0 := VV.tu [VV.ag [vi r2237, vi r2240, vi r2237, vi r2240], vi 0]) (ans := [.reg (nN 4 []), .reg (.n :: .call (VV.tu [vi r2228.1, vi r2228.2]) :: nN 5 []), .reg (nN 16 []), .reg (nN 22 []), .reg (nN 25 []), .reg (.n :: .n :: []), .br true, .reg (.n :: .n :: []), .br false, .reg (nN 6 []), .reg (.n :: .n :: []), .br true, .reg (nN 6 []), .reg (nN 3 (.call (vi r2237) :: nN 3 (.call (vi r2240) :: nN 3 []))), .reg (nN 5 [])]) (fr := true) (by kernel_rfl) (an (an (ti (ti (ti (ti trivial)))) (an (ti (an e2230 (ti (ti (ti (ti (ti trivial))))))) (an e2231 (an e2232 (an e2233 (an (ti (ti trivial)) (an (decide_eq_true h2234) (an (an (ti (ti trivial)) (an (decide_eq_false h2235) trivial)) (an (ti (ti (ti (ti (ti (ti trivial)))))) (an (an (ti (ti trivial)) (an (decide_eq_true h2236) (ti (ti (ti (ti (ti (ti trivial)))))))) (an e2243 (an (ti (ti (ti (ti (ti trivial))))) trivial)))))))))))) (an (ti (ti (ti (ti (ti trivial))))) (ti trivial))) (Wv.of_eq (eqWI_4 r2237 r2240))
   ·obtain ⟨r2244, h2245, h⟩ := bs h
    have e2246 := (nspeculumbase_Floor_ok k (w64 (1000000 * (w64 (0 - (w64 ((w64 ((w64 ((w64 (r2228.2 * a1.R)) * a1.R)) - (w64 ((w64 ((w64 (2 * r2228.2)) * a0.Radius)) * a1.Z)))) + (w64 ((w64 (r2228.1 * a1.Z)) * a1.Z)))))))) (w64 (2 * (w64 ((w64 (r2228.2 * (w64 ((w64 (a1.R * a1.ToR)) - (w64 (a0.Radius * a1.ToZ)))))) + (w64 ((w64 (r2228.1 * a1.Z)) * a1.ToZ)))))) _ h2245)
    obtain ⟨r2247, h2248, h⟩ := bs h
    have e2249 := (nspeculumbase_Ceil_ok k (w64 (1000000 * (w64 (0 - (w64 ((w64 ((w64 ((w64 (r2228.2 * a1.R)) * a1.R)) - (w64 ((w64 ((w64 (2 * r2228.2)) * a0.Radius)) * a1.Z)))) + (w64 ((w64 (r2228.1 * a1.Z)) * a1.Z)))))))) (w64 (2 * (w64 ((w64 (r2228.2 * (w64 ((w64 (a1.R * a1.ToR)) - (w64 (a0.Radius * a1.ToZ)))))) + (w64 ((w64 (r2228.1 * a1.Z)) * a1.ToZ)))))) _ h2248)
    have e2250 := (ti (ti (ti (an e2246 (ti (ti (ti (an e2249 (ti (ti (ti trivial)))))))))))
    injection h with h; subst h
    exact fun_ok pm pn Go.Proofs.Try.func27 (r0 := VV.tu [VV.ag [vi r2244, vi r2247, vi r2244, vi r2247], vi 0]) (ans := [.reg (nN 4 []), .reg (.n :: .call (VV.tu [vi r2228.1, vi r2228.2]) :: nN 5 []), .reg (nN 16 []), .reg (nN 22 []), .reg (nN 25 []), .reg (.n :: .n :: []), .br true, .reg (.n :: .n :: []), .br false, .reg (nN 6 []), .reg (.n :: .n :: []), .br false, .reg (nN 3 (.call (vi r2244) :: nN 3 (.call (vi r2247) :: nN 3 []))), .reg (nN 5 [])]) (fr := true) (by kernel_rfl) (an (an (ti (ti (ti (ti trivial)))) (an (ti (an e2230 (ti (ti (ti (ti (ti trivial))))))) (an e2231 (an e2232 (an e2233 (an (ti (ti trivial)) (an (decide_eq_true h2234) (an (an (ti (ti trivial)) (an (decide_eq_false h2235) trivial)) (an (ti (ti (ti (ti (ti (ti trivial)))))) (an (an (ti (ti trivial)) (an (decide_eq_false h2236) trivial)) (an e2250 (an (ti (ti (ti (ti (ti trivial))))) trivial)))))))))))) (an (ti (ti (ti (ti (ti trivial))))) (ti trivial))) (Wv.of_eq (eqWI_4 r2244 r2247))
 ·rcases ifs h with ⟨h2251, h⟩ | ⟨h2251, h⟩
  ·have e2252 := (ti (ti (ti (ti (ti (ti (ti (ti (ti trivial)))))))))
   rcases ifs h with ⟨h2253, h⟩ | ⟨h2253, h⟩
   ·injection h with h; subst h
    exact fun_ok pm pn Go.Proofs.Try.func27 (r0 := VV.tu [VV.ag [vi 0, vi 0, vi 0, vi 0], vi 12]) (ans := [.reg (nN 4 []), .reg (.n :: .call (VV.tu [vi r2228.1, vi r2228.2]) :: nN 5 []), .reg (nN 16 []), .reg (nN 22 []), .reg (nN 25 []), .reg (.n :: .n :: []), .br false, .reg (.n :: .n :: []), .br true, .reg (nN 9 []), .reg (nN 8 []), .reg (.n :: .n :: []), .br true, .reg (nN 3 [])]) (fr := true) (by kernel_rfl) (an (an (ti (ti (ti (ti trivial)))) (an (ti (an e2230 (ti (ti (ti (ti (ti trivial))))))) (an e2231 (an e2232 (an e2233 (an (an (ti (ti trivial)) (an (decide_eq_false h2234) trivial)) (an (an (ti (ti trivial)) (an (decide_eq_true h2251) e2252)) (an (ti (ti (ti (ti (ti (ti (ti (ti trivial)))))))) (an (ti (ti trivial)) (an (decide_eq_true h2253) (an (ti (ti (ti trivial))) trivial))))))))))) (an (ti (ti (ti (ti (ti trivial))))) (ti trivial))) (Wv.of_eq eqWI_3)
   ·obtain ⟨r2254, h2255, h⟩ := bs h
    have e2256 := (nspeculumref02_Root_ok k (w64 ((w64 ((w64 (0 - (w64 ((w64 (r2228.2 * (w64 ((w64 (a1.R * a1.ToR)) - (w64 (a0.Radius * a1.ToZ)))))) + (w64 ((w64 (r2228.1 * a1.Z)) * a1.ToZ)))))) * (w64 (0 - (w64 ((w64 (r2228.2 * (w64 ((w64 (a1.R * a1.ToR)) - (w64 (a0.Radius * a1.ToZ)))))) + (w64 ((w64 (r2228.1 * a1.Z)) * a1.ToZ)))))))) - (w64 ((w64 (0 - (w64 ((w64 ((w64 (r2228.2 * a1.ToR)) * a1.ToR)) + (w64 ((w64 (r2228.1 * a1.ToZ)) * a1.ToZ)))))) * (w64 (0 - (w64 ((w64 ((w64 ((w64 (r2228.2 * a1.R)) * a1.R)) - (w64 ((w64 ((w64 (2 * r2228.2)) * a0.Radius)) * a1.Z)))) + (w64 ((w64 (r2228.1 * a1.Z)) * a1.Z)))))))))) _ h2255)
    obtain ⟨r2257, h2258, h⟩ := bs h
    have e2259 := (nspeculumbase_Floor_ok k (w64 (1000000 * (w64 ((w64 (0 - (w64 (0 - (w64 ((w64 (r2228.2 * (w64 ((w64 (a1.R * a1.ToR)) - (w64 (a0.Radius * a1.ToZ)))))) + (w64 ((w64 (r2228.1 * a1.Z)) * a1.ToZ)))))))) - r2254.Hi)))) (w64 (0 - (w64 ((w64 ((w64 (r2228.2 * a1.ToR)) * a1.ToR)) + (w64 ((w64 (r2228.1 * a1.ToZ)) * a1.ToZ)))))) _ h2258)
    obtain ⟨r2260, h2261, h⟩ := bs h
    have e2262 := (nspeculumbase_Ceil_ok k (w64 (1000000 * (w64 ((w64 (0 - (w64 (0 - (w64 ((w64 (r2228.2 * (w64 ((w64 (a1.R * a1.ToR)) - (w64 (a0.Radius * a1.ToZ)))))) + (w64 ((w64 (r2228.1 * a1.Z)) * a1.ToZ)))))))) - r2254.Lo)))) (w64 (0 - (w64 ((w64 ((w64 (r2228.2 * a1.ToR)) * a1.ToR)) + (w64 ((w64 (r2228.1 * a1.ToZ)) * a1.ToZ)))))) _ h2261)
    have e2263 := (ti (ti (ti (ti (ti (ti (ti (an e2259 (ti (ti (ti (ti (ti (ti (ti (an e2262 (ti (ti (ti trivial)))))))))))))))))))
    obtain ⟨r2264, h2265, h⟩ := bs h
    have e2266 := (nspeculumbase_Floor_ok k (w64 (1000000 * (w64 ((w64 (0 - (w64 (0 - (w64 ((w64 (r2228.2 * (w64 ((w64 (a1.R * a1.ToR)) - (w64 (a0.Radius * a1.ToZ)))))) + (w64 ((w64 (r2228.1 * a1.Z)) * a1.ToZ)))))))) + r2254.Lo)))) (w64 (0 - (w64 ((w64 ((w64 (r2228.2 * a1.ToR)) * a1.ToR)) + (w64 ((w64 (r2228.1 * a1.ToZ)) * a1.ToZ)))))) _ h2265)
    obtain ⟨r2267, h2268, h⟩ := bs h
    have e2269 := (nspeculumbase_Ceil_ok k (w64 (1000000 * (w64 ((w64 (0 - (w64 (0 - (w64 ((w64 (r2228.2 * (w64 ((w64 (a1.R * a1.ToR)) - (w64 (a0.Radius * a1.ToZ)))))) + (w64 ((w64 (r2228.1 * a1.Z)) * a1.ToZ)))))))) + r2254.Hi)))) (w64 (0 - (w64 ((w64 ((w64 (r2228.2 * a1.ToR)) * a1.ToR)) + (w64 ((w64 (r2228.1 * a1.ToZ)) * a1.ToZ)))))) _ h2268)
    have e2270 := (ti (ti (ti (ti (ti (ti (ti (an e2266 (ti (ti (ti (ti (ti (ti (ti (an e2269 (ti (ti (ti trivial)))))))))))))))))))
    injection h with h; subst h
    exact fun_ok pm pn Go.Proofs.Try.func27 (r0 := VV.tu [VV.ag [vi r2257, vi r2260, vi r2264, vi r2267], vi 0]) (ans := [.reg (nN 4 []), .reg (.n :: .call (VV.tu [vi r2228.1, vi r2228.2]) :: nN 5 []), .reg (nN 16 []), .reg (nN 22 []), .reg (nN 25 []), .reg (.n :: .n :: []), .br false, .reg (.n :: .n :: []), .br true, .reg (nN 9 []), .reg (nN 8 []), .reg (.n :: .n :: []), .br false, .reg (.n :: .call (VV.ag (c_SRange r2254)) :: .n :: .n :: []), .reg (nN 7 (.call (vi r2257) :: nN 7 (.call (vi r2260) :: nN 3 []))), .reg (nN 7 (.call (vi r2264) :: nN 7 (.call (vi r2267) :: nN 3 []))), .reg (nN 5 [])]) (fr := true) (by kernel_rfl) (an (an (ti (ti (ti (ti trivial)))) (an (ti (an e2230 (ti (ti (ti (ti (ti trivial))))))) (an e2231 (an e2232 (an e2233 (an (an (ti (ti trivial)) (an (decide_eq_false h2234) trivial)) (an (an (ti (ti trivial)) (an (decide_eq_true h2251) e2252)) (an (ti (ti (ti (ti (ti (ti (ti (ti trivial)))))))) (an (an (ti (ti trivial)) (an (decide_eq_false h2253) trivial)) (an (ti (an e2256 (ti (ti trivial)))) (an e2263 (an e2270 (an (ti (ti (ti (ti (ti trivial))))) trivial))))))))))))) (an (ti (ti (ti (ti (ti trivial))))) (ti trivial))) (Wv.of_eq (eqWI_5 r2257 r2260 r2264 r2267))
  ·rcases ifs h with ⟨h2271, h⟩ | ⟨h2271, h⟩
   ·injection h with h; subst h
    exact fun_ok pm pn Go.Proofs.Try.func27 (r0 := VV.tu [VV.ag [vi 0, vi 0, vi 0, vi 0], vi 12]) (ans := [.reg (nN 4 []), .reg (.n :: .call (VV.tu [vi r2228.1, vi r2228.2]) :: nN 5 []), .reg (nN 16 []), .reg (nN 22 []), .reg (nN 25 []), .reg (.n :: .n :: []), .br false, .reg (.n :: .n :: []), .br false, .reg (nN 8 []), .reg (.n :: .n :: []), .br true, .reg (nN 3 [])]) (fr := true) (by kernel_rfl) (an (an (ti (ti (ti (ti trivial)))) (an (ti (an e2230 (ti (ti (ti (ti (ti trivial))))))) (an e2231 (an e2232 (an e2233 (an (an (ti (ti trivial)) (an (decide_eq_false h2234) trivial)) (an (an (ti (ti trivial)) (an (decide_eq_false h2251) trivial)) (an (ti (ti (ti (ti (ti (ti (ti (ti trivial)))))))) (an (ti (ti trivial)) (an (decide_eq_true h2271) (an (ti (ti (ti trivial))) trivial))))))))))) (an (ti (ti (ti (ti (ti trivial))))) (ti trivial))) (Wv.of_eq eqWI_3)
   ·obtain ⟨r2272, h2273, h⟩ := bs h
    have e2274 := (nspeculumref02_Root_ok k (w64 ((w64 ((w64 ((w64 (r2228.2 * (w64 ((w64 (a1.R * a1.ToR)) - (w64 (a0.Radius * a1.ToZ)))))) + (w64 ((w64 (r2228.1 * a1.Z)) * a1.ToZ)))) * (w64 ((w64 (r2228.2 * (w64 ((w64 (a1.R * a1.ToR)) - (w64 (a0.Radius * a1.ToZ)))))) + (w64 ((w64 (r2228.1 * a1.Z)) * a1.ToZ)))))) - (w64 ((w64 ((w64 ((w64 (r2228.2 * a1.ToR)) * a1.ToR)) + (w64 ((w64 (r2228.1 * a1.ToZ)) * a1.ToZ)))) * (w64 ((w64 ((w64 ((w64 (r2228.2 * a1.R)) * a1.R)) - (w64 ((w64 ((w64 (2 * r2228.2)) * a0.Radius)) * a1.Z)))) + (w64 ((w64 (r2228.1 * a1.Z)) * a1.Z)))))))) _ h2273)
    obtain ⟨r2275, h2276, h⟩ := bs h
    have e2277 := (nspeculumbase_Floor_ok k (w64 (1000000 * (w64 ((w64 (0 - (w64 ((w64 (r2228.2 * (w64 ((w64 (a1.R * a1.ToR)) - (w64 (a0.Radius * a1.ToZ)))))) + (w64 ((w64 (r2228.1 * a1.Z)) * a1.ToZ)))))) - r2272.Hi)))) (w64 ((w64 ((w64 (r2228.2 * a1.ToR)) * a1.ToR)) + (w64 ((w64 (r2228.1 * a1.ToZ)) * a1.ToZ)))) _ h2276)
    obtain ⟨r2278, h2279, h⟩ := bs h
    have e2280 := (nspeculumbase_Ceil_ok k (w64 (1000000 * (w64 ((w64 (0 - (w64 ((w64 (r2228.2 * (w64 ((w64 (a1.R * a1.ToR)) - (w64 (a0.Radius * a1.ToZ)))))) + (w64 ((w64 (r2228.1 * a1.Z)) * a1.ToZ)))))) - r2272.Lo)))) (w64 ((w64 ((w64 (r2228.2 * a1.ToR)) * a1.ToR)) + (w64 ((w64 (r2228.1 * a1.ToZ)) * a1.ToZ)))) _ h2279)
    have e2281 := (ti (ti (ti (ti (ti (ti (ti (an e2277 (ti (ti (ti (ti (ti (ti (ti (an e2280 (ti (ti (ti trivial)))))))))))))))))))
    obtain ⟨r2282, h2283, h⟩ := bs h
    have e2284 := (nspeculumbase_Floor_ok k (w64 (1000000 * (w64 ((w64 (0 - (w64 ((w64 (r2228.2 * (w64 ((w64 (a1.R * a1.ToR)) - (w64 (a0.Radius * a1.ToZ)))))) + (w64 ((w64 (r2228.1 * a1.Z)) * a1.ToZ)))))) + r2272.Lo)))) (w64 ((w64 ((w64 (r2228.2 * a1.ToR)) * a1.ToR)) + (w64 ((w64 (r2228.1 * a1.ToZ)) * a1.ToZ)))) _ h2283)
    obtain ⟨r2285, h2286, h⟩ := bs h
    have e2287 := (nspeculumbase_Ceil_ok k (w64 (1000000 * (w64 ((w64 (0 - (w64 ((w64 (r2228.2 * (w64 ((w64 (a1.R * a1.ToR)) - (w64 (a0.Radius * a1.ToZ)))))) + (w64 ((w64 (r2228.1 * a1.Z)) * a1.ToZ)))))) + r2272.Hi)))) (w64 ((w64 ((w64 (r2228.2 * a1.ToR)) * a1.ToR)) + (w64 ((w64 (r2228.1 * a1.ToZ)) * a1.ToZ)))) _ h2286)
    have e2288 := (ti (ti (ti (ti (ti (ti (ti (an e2284 (ti (ti (ti (ti (ti (ti (ti (an e2287 (ti (ti (ti trivial)))))))))))))))))))
    injection h with h; subst h
    exact fun_ok pm pn Go.Proofs.Try.func27 (r0 := VV.tu [VV.ag [vi r2275, vi r2278, vi r2282, vi r2285], vi 0]) (ans := [.reg (nN 4 []), .reg (.n :: .call (VV.tu [vi r2228.1, vi r2228.2]) :: nN 5 []), .reg (nN 16 []), .reg (nN 22 []), .reg (nN 25 []), .reg (.n :: .n :: []), .br false, .reg (.n :: .n :: []), .br false, .reg (nN 8 []), .reg (.n :: .n :: []), .br false, .reg (.n :: .call (VV.ag (c_SRange r2272)) :: .n :: .n :: []), .reg (nN 7 (.call (vi r2275) :: nN 7 (.call (vi r2278) :: nN 3 []))), .reg (nN 7 (.call (vi r2282) :: nN 7 (.call (vi r2285) :: nN 3 []))), .reg (nN 5 [])]) (fr := true) (by kernel_rfl) (an (an (ti (ti (ti (ti trivial)))) (an (ti (an e2230 (ti (ti (ti (ti (ti trivial))))))) (an e2231 (an e2232 (an e2233 (an (an (ti (ti trivial)) (an (decide_eq_false h2234) trivial)) (an (an (ti (ti trivial)) (an (decide_eq_false h2251) trivial)) (an (ti (ti (ti (ti (ti (ti (ti (ti trivial)))))))) (an (an (ti (ti trivial)) (an (decide_eq_false h2271) trivial)) (an (ti (an e2274 (ti (ti trivial)))) (an e2281 (an e2288 (an (ti (ti (ti (ti (ti trivial))))) trivial))))))))))))) (an (ti (ti (ti (ti (ti trivial))))) (ti trivial))) (Wv.of_eq (eqWI_5 r2275 r2278 r2282 r2285))
def nspeculumlaw02_OpticsHits (k : Nat) (a0 : SConic) (a1 : SRay) : Option Bool :=
  (nspeculumlaw02_awake k).bind fun r2304 => (if r2304 = true then ((noptics_Hit k a0 a1).bind fun r2308 => ((nspeculumref02_CheckRays k a0).bind fun r2311 => (if r2311 = 0 then ((nspeculumref02_CheckRay k a1).bind fun r2315 => (if r2315 = 0 then ((nspeculumref02_Hit k a0 a1).bind fun r2319 => (if r2308.2 = r2319.2 then (some ((r2308.1.e0.Lo : Int) == r2319.1.e0.Lo && ((r2308.1.e0.Hi : Int) == r2319.1.e0.Hi && ((r2308.1.e1.Lo : Int) == r2319.1.e1.Lo && ((r2308.1.e1.Hi : Int) == r2319.1.e1.Hi && true))))) else (some false))) else (if r2308.2 = r2315 then (some ((r2308.1.e0.Lo : Int) == 0 && ((r2308.1.e0.Hi : Int) == 0 && ((r2308.1.e1.Lo : Int) == 0 && ((r2308.1.e1.Hi : Int) == 0 && true))))) else (some false)))) else (if r2308.2 = r2311 then (some ((r2308.1.e0.Lo : Int) == 0 && ((r2308.1.e0.Hi : Int) == 0 && ((r2308.1.e1.Lo : Int) == 0 && ((r2308.1.e1.Hi : Int) == 0 && true))))) else (some false))))) else (some false))
theorem nspeculumlaw02_OpticsHits_ok (k : Nat) (a0 : SConic) (a1 : SRay) (r : Bool) (h : nspeculumlaw02_OpticsHits k a0 a1 = some r) : VC Go.Proofs.Try.prog 6 [VV.ag (c_SConic a0), VV.ag (c_SRay a1)] (vb r) := by
 unfold nspeculumlaw02_OpticsHits at h
 obtain ⟨r2304, h2305, h⟩ := bs h
 have e2306 := (an (nspeculumlaw02_awake_ok k _ h2305) (ti trivial))
 rcases ifs h with ⟨h2307, h⟩ | ⟨h2307, h⟩
 ·obtain ⟨r2308, h2309, h⟩ := bs h
  have e2310 := (ti (ti (an (noptics_Hit_ok k a0 a1 _ h2309) (ti (ti (ti (ti (ti (ti trivial)))))))))
  obtain ⟨r2311, h2312, h⟩ := bs h
  have e2313 := (nspeculumref02_CheckRays_ok k a0 _ h2312)
  rcases ifs h with ⟨h2314, h⟩ | ⟨h2314, h⟩
  ·obtain ⟨r2315, h2316, h⟩ := bs h
   have e2317 := (nspeculumref02_CheckRay_ok k a1 _ h2316)
   rcases ifs h with ⟨h2318, h⟩ | ⟨h2318, h⟩
   ·obtain ⟨r2319, h2320, h⟩ := bs h
    have e2321 := (ti (ti (an (nspeculumref02_Hit_ok k a0 a1 _ h2320) (ti (ti (ti (ti (ti (ti trivial)))))))))
    rcases ifs h with ⟨h2322, h⟩ | ⟨h2322, h⟩
    ·have e2323 := (an (decide_eq_true h2322) (show List.map kdV [Value.int .i64 r2308.1.e0.Lo, Value.int .i64 r2308.1.e0.Hi, Value.int .i64 r2308.1.e1.Lo, Value.int .i64 r2308.1.e1.Hi] = List.map kdV [Value.int .i64 r2319.1.e0.Lo, Value.int .i64 r2319.1.e0.Hi, Value.int .i64 r2319.1.e1.Lo, Value.int .i64 r2319.1.e1.Hi] ∧ EqOK Go.Proofs.Try.prog 53 (List.map kdV [Value.int .i64 r2319.1.e0.Lo, Value.int .i64 r2319.1.e0.Hi, Value.int .i64 r2319.1.e1.Lo, Value.int .i64 r2319.1.e1.Hi]) from ⟨rfl, eqok53⟩))
     have e2324 := (ti (ti (ti (ti (an (an (decide_eq_true h2322) trivial) (an (an (decide_eq_true h2322) trivial) (an e2323 (an (decide_eq_true h2322) (ti trivial)))))))))
     injection h with h; subst h
     exact fun_ok pm pn Go.Proofs.Try.func6 (r0 := vb ((r2308.1.e0.Lo : Int) == r2319.1.e0.Lo && ((r2308.1.e0.Hi : Int) == r2319.1.e0.Hi && ((r2308.1.e1.Lo : Int) == r2319.1.e1.Lo && ((r2308.1.e1.Hi : Int) == r2319.1.e1.Hi && true))))) (ans := [.reg (nN 3 []), .reg (.call (vb r2304) :: .n :: []), .br false, .reg (.n :: .n :: .call (VV.tu [VV.ag (c_A53 r2308.1), vi r2308.2]) :: nN 6 []), .reg (.n :: .call (vi r2311) :: .n :: []), .reg (.n :: .n :: []), .br true, .reg (.n :: .call (vi r2315) :: .n :: []), .reg (.n :: .n :: []), .br false, .reg (.n :: .n :: .call (VV.tu [VV.ag (c_A53 r2319.1), vi r2319.2]) :: nN 6 []), .reg (nN 7 (.b true :: .n :: []))]) (fr := true) (by kernel_rfl) (an (an (ti (ti (ti trivial))) (an (an e2306 (an (not_f h2307) trivial)) (an e2310 (an (ti (an e2313 (ti trivial))) (an (an (ti (ti trivial)) (an (decide_eq_true h2314) (ti (an e2317 (ti trivial))))) (an (an (ti (ti trivial)) (an (not_f (decide_eq_true h2318)) trivial)) (an e2321 (an e2324 trivial)))))))) (ti trivial)) (Wv.refl _)
    ·have e2325 := (ti (ti (ti (ti (an (decide_eq_false h2322) (an (decide_eq_false h2322) (an (decide_eq_false h2322) (an (decide_eq_false h2322) (ti trivial)))))))))
     injection h with h; subst h
     exact fun_ok pm pn Go.Proofs.Try.func6 (r0 := vb false) (ans := [.reg (nN 3 []), .reg (.call (vb r2304) :: .n :: []), .br false, .reg (.n :: .n :: .call (VV.tu [VV.ag (c_A53 r2308.1), vi r2308.2]) :: nN 6 []), .reg (.n :: .call (vi r2311) :: .n :: []), .reg (.n :: .n :: []), .br true, .reg (.n :: .call (vi r2315) :: .n :: []), .reg (.n :: .n :: []), .br false, .reg (.n :: .n :: .call (VV.tu [VV.ag (c_A53 r2319.1), vi r2319.2]) :: nN 6 []), .reg (nN 4 (nS 3 (.b false :: .n :: [])))]) (fr := true) (by kernel_rfl) (an (an (ti (ti (ti trivial))) (an (an e2306 (an (not_f h2307) trivial)) (an e2310 (an (ti (an e2313 (ti trivial))) (an (an (ti (ti trivial)) (an (decide_eq_true h2314) (ti (an e2317 (ti trivial))))) (an (an (ti (ti trivial)) (an (not_f (decide_eq_true h2318)) trivial)) (an e2321 (an e2325 trivial)))))))) (ti trivial)) (Wv.refl _)
   ·rcases ifs h with ⟨h2326, h⟩ | ⟨h2326, h⟩
    ·have e2327 := (an (decide_eq_true h2326) (show List.map kdV [Value.int .i64 r2308.1.e0.Lo, Value.int .i64 r2308.1.e0.Hi, Value.int .i64 r2308.1.e1.Lo, Value.int .i64 r2308.1.e1.Hi] = List.map kdV [Value.int .i64 0, Value.int .i64 0, Value.int .i64 0, Value.int .i64 0] ∧ EqOK Go.Proofs.Try.prog 53 (List.map kdV [Value.int .i64 0, Value.int .i64 0, Value.int .i64 0, Value.int .i64 0]) from ⟨rfl, eqok53⟩))
     have e2328 := (ti (ti (ti (ti (an (an (decide_eq_true h2326) trivial) (an (an (decide_eq_true h2326) trivial) (an e2327 (an (decide_eq_true h2326) (ti trivial)))))))))
     injection h with h; subst h
     exact fun_ok pm pn Go.Proofs.Try.func6 (r0 := vb ((r2308.1.e0.Lo : Int) == 0 && ((r2308.1.e0.Hi : Int) == 0 && ((r2308.1.e1.Lo : Int) == 0 && ((r2308.1.e1.Hi : Int) == 0 && true))))) (ans := [.reg (nN 3 []), .reg (.call (vb r2304) :: .n :: []), .br false, .reg (.n :: .n :: .call (VV.tu [VV.ag (c_A53 r2308.1), vi r2308.2]) :: nN 6 []), .reg (.n :: .call (vi r2311) :: .n :: []), .reg (.n :: .n :: []), .br true, .reg (.n :: .call (vi r2315) :: .n :: []), .reg (.n :: .n :: []), .br true, .reg (nN 7 (.b true :: .n :: []))]) (fr := true) (by kernel_rfl) (an (an (ti (ti (ti trivial))) (an (an e2306 (an (not_f h2307) trivial)) (an e2310 (an (ti (an e2313 (ti trivial))) (an (an (ti (ti trivial)) (an (decide_eq_true h2314) (ti (an e2317 (ti trivial))))) (an (ti (ti trivial)) (an (not_t (decide_eq_false h2318)) (an e2328 trivial)))))))) (ti trivial)) (Wv.refl _)
    ·have e2329 := (ti (ti (ti (ti (an (decide_eq_false h2326) (an (decide_eq_false h2326) (an (decide_eq_false h2326) (an (decide_eq_false h2326) (ti trivial)))))))))
     injection h with h; subst h
     exact fun_ok pm pn Go.Proofs.Try.func6 (r0 := vb false) (ans := [.reg (nN 3 []), .reg (.call (vb r2304) :: .n :: []), .br false, .reg (.n :: .n :: .call (VV.tu [VV.ag (c_A53 r2308.1), vi r2308.2]) :: nN 6 []), .reg (.n :: .call (vi r2311) :: .n :: []), .reg (.n :: .n :: []), .br true, .reg (.n :: .call (vi r2315) :: .n :: []), .reg (.n :: .n :: []), .br true, .reg (nN 4 (nS 3 (.b false :: .n :: [])))]) (fr := true) (by kernel_rfl) (an (an (ti (ti (ti trivial))) (an (an e2306 (an (not_f h2307) trivial)) (an e2310 (an (ti (an e2313 (ti trivial))) (an (an (ti (ti trivial)) (an (decide_eq_true h2314) (ti (an e2317 (ti trivial))))) (an (ti (ti trivial)) (an (not_t (decide_eq_false h2318)) (an e2329 trivial)))))))) (ti trivial)) (Wv.refl _)
  ·rcases ifs h with ⟨h2330, h⟩ | ⟨h2330, h⟩
   ·have e2331 := (an (decide_eq_true h2330) (show List.map kdV [Value.int .i64 r2308.1.e0.Lo, Value.int .i64 r2308.1.e0.Hi, Value.int .i64 r2308.1.e1.Lo, Value.int .i64 r2308.1.e1.Hi] = List.map kdV [Value.int .i64 0, Value.int .i64 0, Value.int .i64 0, Value.int .i64 0] ∧ EqOK Go.Proofs.Try.prog 53 (List.map kdV [Value.int .i64 0, Value.int .i64 0, Value.int .i64 0, Value.int .i64 0]) from ⟨rfl, eqok53⟩))
    have e2332 := (ti (ti (ti (ti (an (an (decide_eq_true h2330) trivial) (an (an (decide_eq_true h2330) trivial) (an e2331 (an (decide_eq_true h2330) (ti trivial)))))))))
    injection h with h; subst h
    exact fun_ok pm pn Go.Proofs.Try.func6 (r0 := vb ((r2308.1.e0.Lo : Int) == 0 && ((r2308.1.e0.Hi : Int) == 0 && ((r2308.1.e1.Lo : Int) == 0 && ((r2308.1.e1.Hi : Int) == 0 && true))))) (ans := [.reg (nN 3 []), .reg (.call (vb r2304) :: .n :: []), .br false, .reg (.n :: .n :: .call (VV.tu [VV.ag (c_A53 r2308.1), vi r2308.2]) :: nN 6 []), .reg (.n :: .call (vi r2311) :: .n :: []), .reg (.n :: .n :: []), .br false, .reg (.n :: .n :: []), .br true, .reg (nN 7 (.b true :: .n :: []))]) (fr := true) (by kernel_rfl) (an (an (ti (ti (ti trivial))) (an (an e2306 (an (not_f h2307) trivial)) (an e2310 (an (ti (an e2313 (ti trivial))) (an (an (ti (ti trivial)) (an (decide_eq_false h2314) trivial)) (an (ti (ti trivial)) (an (not_t (decide_eq_false h2314)) (an e2332 trivial)))))))) (ti trivial)) (Wv.refl _)
   ·have e2333 := (ti (ti (ti (ti (an (decide_eq_false h2330) (an (decide_eq_false h2330) (an (decide_eq_false h2330) (an (decide_eq_false h2330) (ti trivial)))))))))
    injection h with h; subst h
    exact fun_ok pm pn Go.Proofs.Try.func6 (r0 := vb false) (ans := [.reg (nN 3 []), .reg (.call (vb r2304) :: .n :: []), .br false, .reg (.n :: .n :: .call (VV.tu [VV.ag (c_A53 r2308.1), vi r2308.2]) :: nN 6 []), .reg (.n :: .call (vi r2311) :: .n :: []), .reg (.n :: .n :: []), .br false, .reg (.n :: .n :: []), .br true, .reg (nN 4 (nS 3 (.b false :: .n :: [])))]) (fr := true) (by kernel_rfl) (an (an (ti (ti (ti trivial))) (an (an e2306 (an (not_f h2307) trivial)) (an e2310 (an (ti (an e2313 (ti trivial))) (an (an (ti (ti trivial)) (an (decide_eq_false h2314) trivial)) (an (ti (ti trivial)) (an (not_t (decide_eq_false h2314)) (an e2333 trivial)))))))) (ti trivial)) (Wv.refl _)
 ·injection h with h; subst h
  exact fun_ok pm pn Go.Proofs.Try.func6 (r0 := vb false) (ans := [.reg (nN 3 []), .reg (.call (vb r2304) :: .n :: []), .br true, .reg (.n :: [])]) (fr := true) (by kernel_rfl) (an (an (ti (ti (ti trivial))) (an e2306 (an (not_t (bool_f h2307)) (an (ti trivial) trivial)))) (ti trivial)) (Wv.refl _)
end Go.Proofs.Ytkffimkedibmnaa.Vg

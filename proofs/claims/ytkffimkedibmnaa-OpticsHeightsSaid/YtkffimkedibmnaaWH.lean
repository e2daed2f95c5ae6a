/- Written by a program out of the program: what Go functions do, as plain functions, and their contracts. -/
import Derived.Test.YtkffimkedibmnaaO3
namespace Go.Proofs.Ytkffimkedibmnaa.Vg
set_option maxRecDepth 100000
set_option maxHeartbeats 4000000
set_option linter.unusedVariables false
set_option linter.unusedSimpArgs false
open Go Go.Proofs.Ytkffimkedibmnaa.Ev Go.Proofs.Ytkffimkedibmnaa.Vv
structure SLine where
  Point : SSpot
  Toward : A66
  Z : SFrac
  deriving Inhabited
def c_SLine (x : SLine) : List VV := [vi x.Point.R.Num, vi x.Point.R.Den, vi x.Point.Z.Num, vi x.Point.Z.Den, vi x.Toward.e0.Num, vi x.Toward.e0.Den, vi x.Toward.e1.Num, vi x.Toward.e1.Den, vi x.Z.Num, vi x.Z.Den]
theorem len_c_SLine (x : SLine) : (c_SLine x).length = 10 := rfl
theorem still_c_SLine (xs : List SLine) : (xs.flatMap c_SLine).all VV.still = true := all_flat (fun _ => rfl) xs
theorem isC_c_SLine (xs : List SLine) : (xs.flatMap c_SLine).all VV.isC = true := all_flat (fun _ => rfl) xs
theorem new0_c_SLine (xs : List SLine) : (xs.flatMap c_SLine).all new0 = true := all_flat (fun _ => rfl) xs
theorem unfr_c_SLine (xs : List SLine) : (xs.flatMap c_SLine).map unfr = xs.flatMap c_SLine := unfr_flat (fun _ => rfl) xs
theorem ag3 : isAggT Go.Proofs.Try.prog 3 = some false := by kernel_rfl
theorem eqWH_0 (z0 : SSpot) (z1 : A66) (z2 : SFrac) : [VV.tr (List.flatMap c_SFrac ([z0.R, z0.Z, z1.e0, z1.e1, z2] : List SFrac)) (([z0.R, z0.Z, z1.e0, z1.e1, z2] : List SFrac).length)] = [VV.tr [vi z0.R.Num, vi z0.R.Den, vi z0.Z.Num, vi z0.Z.Den, vi z1.e0.Num, vi z1.e0.Den, vi z1.e1.Num, vi z1.e1.Den, vi z2.Num, vi z2.Den] 5] := by first | rfl | (simp only [unfr_vi, List.map_cons, List.map_nil, un_i, un_tr, List.length_cons, List.length_nil, unfr_c_SFrac]; done) | (simp only [unfr_vi, List.map_cons, List.map_nil, un_i, un_tr, List.length_cons, List.length_nil, unfr_c_SFrac]; rfl) | (simp only [unfr_vi, List.map_cons, List.map_nil, un_i, un_tr, List.length_cons, List.length_nil, unfr_c_SFrac, c_SFrac, List.length_cons, List.length_nil, List.length_append]; done)
theorem eqWH_1  : ([⟨true, bigH, [vi ((⟨0⟩ : Sway).failed)]⟩] : List Blk) = ([⟨true, bigH, [vi 0]⟩] : List Blk) := by first | rfl | (simp only [unfr_vi, List.map_cons, List.map_nil, un_i]; done) | (simp only [unfr_vi, List.map_cons, List.map_nil, un_i]; rfl) | (simp only [unfr_vi, List.map_cons, List.map_nil, un_i, List.length_cons, List.length_nil, List.length_append]; done)
theorem eqWH_2 (z0 : (SFrac × Sway)) : [VV.ag (c_SFrac z0.1), VV.tr (List.map vi ([z0.2.failed] : List Int)) (([z0.2.failed] : List Int).length)] = [VV.ag (c_SFrac z0.1), VV.tr [vi z0.2.failed] 1] := by first | rfl | (simp only [unfr_vi, List.map_cons, List.map_nil, un_i, un_tr, List.length_map, List.length_cons, List.length_nil, unfr_c_SFrac]; done) | (simp only [unfr_vi, List.map_cons, List.map_nil, un_i, un_tr, List.length_map, List.length_cons, List.length_nil, unfr_c_SFrac]; rfl) | (simp only [unfr_vi, List.map_cons, List.map_nil, un_i, un_tr, List.length_map, List.length_cons, List.length_nil, unfr_c_SFrac, c_SFrac, List.length_cons, List.length_nil, List.length_append]; done)
def arWH_0 (z0 : (SFrac × Sway)) : List Ans := (nN 4 (.mod1 4 (VV.ag (c_SFrac z0.1)) ⟨true, bigH, [vi z0.2.failed]⟩ :: .n :: .n :: []))
def arWH_1 (z0 : (SFrac × Sway)) (z1 : (SFrac × Sway)) (z2 : (SFrac × Sway)) : List Ans := (nN 5 (.mod1 4 (VV.ag (c_SFrac z0.1)) ⟨true, bigH, [vi z0.2.failed]⟩ :: .n :: .mod1 4 (VV.ag (c_SFrac z1.1)) ⟨true, bigH, [vi z1.2.failed]⟩ :: .mod1 4 (VV.ag (c_SFrac z2.1)) ⟨true, bigH, [vi z2.2.failed]⟩ :: .n :: .n :: []))
theorem eqWH_3 (z0 : Int) : VV.tu [VV.ag [vi 0, vi 0], vi z0] = VV.tu [VV.ag (c_SFrac (⟨0, 0⟩ : SFrac)), vi z0] := by first | rfl | (simp only [unfr_vi, List.map_cons, List.map_nil, un_i, unfr_c_SFrac]; done) | (simp only [unfr_vi, List.map_cons, List.map_nil, un_i, unfr_c_SFrac]; rfl) | (simp only [unfr_vi, List.map_cons, List.map_nil, un_i, unfr_c_SFrac, c_SFrac, List.length_cons, List.length_nil, List.length_append]; done)
def noptics_HeightAt (k : Nat) (a0 : SSpot) (a1 : A66) (a2 : SFrac) : Option (SFrac × Int) :=
  (noptics_checkFracs k ([a0.R, a0.Z, a1.e0, a1.e1, a2] : List SFrac)).bind fun r1868 => (if r1868 = 0 then ((n_optics_way_over k (⟨0⟩ : Sway) a1.e0 a1.e1).bind fun r1875 => ((n_optics_way_minus k r1875.2 a2 a0.Z).bind fun r1879 => ((n_optics_way_times k r1879.2 r1879.1 r1875.1).bind fun r1882 => ((n_optics_way_plus k r1882.2 a0.R r1882.1).bind fun r1885 => ((noptics_beside_api_Frac_ k r1885.1 ([r1885.2.failed] : List Int)).bind fun r1889 => (some (r1889.1, r1889.2))))))) else (some ((⟨0, 0⟩ : SFrac), r1868)))
theorem noptics_HeightAt_ok (k : Nat) (a0 : SSpot) (a1 : A66) (a2 : SFrac) (r : (SFrac × Int)) (h : noptics_HeightAt k a0 a1 a2 = some r) : VC Go.Proofs.Try.prog 38 [VV.ag (c_SSpot a0), VV.ag (c_A66 a1), VV.ag (c_SFrac a2)] (VV.tu [VV.ag (c_SFrac r.1), vi r.2]) := by
 unfold noptics_HeightAt at h
 have e1866 := (show (0:Int) ≤ 0 ∧ (0:Int) < ((2 : Nat) : Int) from ⟨by decide, by decide⟩)
 have e1867 := (show (0:Int) ≤ 1 ∧ (1:Int) < ((2 : Nat) : Int) from ⟨by decide, by decide⟩)
 obtain ⟨r1868, h1869, h⟩ := bs h
 have e1870 := (VC.args (noptics_checkFracs_ok k ([a0.R, a0.Z, a1.e0, a1.e1, a2] : List SFrac) _ h1869) (eqWH_0 a0 a1 a2))
 have e1871 := (ti (ti (ti (ti (an e1866 (ti (an e1867 (ti (ti (ti (an e1870 (ti trivial))))))))))))
 rcases ifs h with ⟨h1872, h⟩ | ⟨h1872, h⟩
 ·have e1873 := (show (0:Int) ≤ 0 ∧ (0:Int) < ((2 : Nat) : Int) from ⟨by decide, by decide⟩)
  have e1874 := (show (0:Int) ≤ 1 ∧ (1:Int) < ((2 : Nat) : Int) from ⟨by decide, by decide⟩)
  obtain ⟨r1875, h1876, h⟩ := bs h
  have e1877 := (an (VM.args (n_optics_way_over_ok k (⟨0⟩ : Sway) a1.e0 a1.e1 _ h1876) rfl eqWH_1 rfl) (an (ti trivial) (ti trivial)))
  have e1878 := (an e1873 (ti (an e1874 (ti (an e1877 (ti (ti trivial)))))))
  obtain ⟨r1879, h1880, h⟩ := bs h
  have e1881 := (an (n_optics_way_minus_ok k r1875.2 a2 a0.Z _ h1880) (an (ti trivial) (ti trivial)))
  obtain ⟨r1882, h1883, h⟩ := bs h
  have e1884 := (an (n_optics_way_times_ok k r1879.2 r1879.1 r1875.1 _ h1883) (an (ti trivial) (ti trivial)))
  obtain ⟨r1885, h1886, h⟩ := bs h
  have e1887 := (an (n_optics_way_plus_ok k r1882.2 a0.R r1882.1 _ h1886) (an (ti trivial) (ti trivial)))
  have e1888 := (ti (ti (ti (ti (ti (an e1881 (ti (an e1884 (an e1887 (ti (ti trivial)))))))))))
  obtain ⟨r1889, h1890, h⟩ := bs h
  have e1891 := (VC.args (noptics_beside_api_Frac__ok k r1885.1 ([r1885.2.failed] : List Int) _ h1890) (eqWH_2 r1885))
  have e1892 := (ti (ti (ti (ti (an e1891 (ti (ti (ti (ti trivial)))))))))
  injection h with h; subst h
  exact fun_ok pm pn Go.Proofs.Try.func38 (r0 := VV.tu [VV.ag (c_SFrac r1889.1), vi r1889.2]) (ans := [.reg (nN 5 []), .reg (nN 9 (.v VV.any :: .call (vi r1868) :: .n :: [])), .reg (.n :: .n :: []), .br false, .reg (.n :: []), .reg (arWH_0 r1875), .reg (arWH_1 r1879 r1882 r1885), .reg (nN 3 (.v VV.any :: .call (VV.tu [VV.ag (c_SFrac r1889.1), vi r1889.2]) :: nN 4 []))]) (fr := true) (by kernel_rfl) (an (an (ti (ti (ti (ti (ti trivial))))) (an (an e1871 (an (ti (ti trivial)) (an (not_f (decide_eq_true h1872)) trivial))) (an (ti trivial) (an e1878 (an e1888 (an e1892 trivial)))))) (an (ti (ti (ti trivial))) (ti trivial))) (Wv.refl _)
 ·injection h with h; subst h
  exact fun_ok pm pn Go.Proofs.Try.func38 (r0 := VV.tu [VV.ag [vi 0, vi 0], vi r1868]) (ans := [.reg (nN 5 []), .reg (nN 9 (.v VV.any :: .call (vi r1868) :: .n :: [])), .reg (.n :: .n :: []), .br true, .reg (nN 4 [])]) (fr := true) (by kernel_rfl) (an (an (ti (ti (ti (ti (ti trivial))))) (an e1871 (an (ti (ti trivial)) (an (not_t (decide_eq_false h1872)) (an (ti (ti (ti (ti trivial)))) trivial))))) (an (ti (ti (ti trivial))) (ti trivial))) (Wv.of_eq (eqWH_3 r1868))
def nspeculumbase_CopyFracs (k : Nat) (a0 : (List SFrac)) : Option (List SFrac) :=
  if ([] : List SFrac).length + a0.length ≤ 1000000000 then (some (([] : List SFrac) ++ a0)) else none
theorem nspeculumbase_CopyFracs_ok (k : Nat) (a0 : (List SFrac)) (r : (List SFrac)) (h : nspeculumbase_CopyFracs k a0 = some r) : VC Go.Proofs.Try.prog 40 [VV.tr (List.flatMap c_SFrac a0) a0.length] (VV.fw 2 (List.flatMap c_SFrac r) r.length) := by
 unfold nspeculumbase_CopyFracs at h
 obtain ⟨h1899, h⟩ := ifn h
 have e1900 := (show List.length [] = 0 * 2 ∧ List.length (List.flatMap c_SFrac a0) = a0.length * 2 ∧ (0 + a0.length) * 16 ≤ 140737488355328 ∧ 0 + a0.length < 1099511627776 ∧ List.all (List.flatMap c_SFrac a0) VV.still = true from ⟨(by rw [show [] = List.flatMap c_SFrac ([] : List SFrac) from rfl]; rw [flatMap_len len_c_SFrac] <;> simp), (by rw [flatMap_len len_c_SFrac] <;> simp), (by first | omega | (simp at h1899 ⊢; omega)), (by first | omega | (simp at h1899 ⊢; omega)), (by exact still_c_SFrac _)⟩)
 injection h with h; subst h
 exact fun_ok pm pn Go.Proofs.Try.func40 (r0 := VV.fw 2 (List.drop 0 (List.map unfr ([] ++ (List.flatMap c_SFrac a0)))) (0 + a0.length)) (ans := [.reg (.n :: []), .reg (nN 4 [])]) (fr := true) (by kernel_rfl) (an (an (ti trivial) (an (ti (ti (an e1900 (ti trivial)))) trivial)) (an (show List.all ([] ++ (List.flatMap c_SFrac a0)) new0 = true from (by rw [show [] ++ (List.flatMap c_SFrac a0) = List.flatMap c_SFrac (([] : List SFrac) ++ a0) from (by rw [show [] = List.flatMap c_SFrac ([] : List SFrac) from rfl]; exact List.flatMap_append.symm)]; exact new0_c_SFrac _)) trivial)) (Wv.of_eq (by simp only [show [] ++ (List.flatMap c_SFrac a0) = List.flatMap c_SFrac (([] : List SFrac) ++ a0) from (by rw [show [] = List.flatMap c_SFrac ([] : List SFrac) from rfl]; exact List.flatMap_append.symm), drop0, unfr_vi, unfr_vb, unfr_vs, List.map_cons, List.map_nil, un_i, un_k, un_b, un_s, un_tr, un_fr, List.length_map, List.length_replicate, List.length_append, List.length_set, List.length_cons, List.length_nil, unfr_c_SElement, unfr_c_SFrac, unfr_c_Sway, unfr_c_SMatrix, unfr_c_SPair, unfr_c_SConic, unfr_c_SRange, unfr_c_SSpot, unfr_c_A63, unfr_c_A66, unfr_c_SWay, unfr_c_SLine]))
theorem eqWH_4 (z0 : Int) (z1 : Int) : VV.ag [vi z0, vi z1] = VV.ag (c_SRange (⟨z0, z1⟩ : SRange)) := by first | rfl | (simp only [unfr_vi, List.map_cons, List.map_nil, un_i, unfr_c_SRange]; done) | (simp only [unfr_vi, List.map_cons, List.map_nil, un_i, unfr_c_SRange]; rfl) | (simp only [unfr_vi, List.map_cons, List.map_nil, un_i, unfr_c_SRange, c_SRange, List.length_cons, List.length_nil, List.length_append]; done)
def noptics_around (k : Nat) (a0 : SFrac) : Option SRange :=
  (noptics_down k a0.Num a0.Den).bind fun r1918 => ((noptics_up k a0.Num a0.Den).bind fun r1921 => (some (⟨r1918, r1921⟩ : SRange)))
theorem noptics_around_ok (k : Nat) (a0 : SFrac) (r : SRange) (h : noptics_around k a0 = some r) : VC Go.Proofs.Try.prog 90 [VV.ag (c_SFrac a0)] (VV.ag (c_SRange r)) := by
 unfold noptics_around at h
 obtain ⟨r1918, h1919, h⟩ := bs h
 have e1920 := (noptics_down_ok k a0.Num a0.Den _ h1919)
 obtain ⟨r1921, h1922, h⟩ := bs h
 have e1923 := (ti (ti (ti (ti (an e1920 (ti (ti (ti (ti (an (noptics_up_ok k a0.Num a0.Den _ h1922) (ti (ti trivial))))))))))))
 injection h with h; subst h
 exact fun_ok pm pn Go.Proofs.Try.func90 (r0 := VV.ag [vi r1918, vi r1921]) (ans := [.reg (.n :: .n :: []), .reg (nN 4 (.call (vi r1918) :: nN 4 (.call (vi r1921) :: .n :: .n :: [])))]) (fr := true) (by kernel_rfl) (an (an (ti (ti trivial)) (an e1923 trivial)) (an (ti (ti (ti trivial))) trivial)) (Wv.of_eq (eqWH_4 r1918 r1921))
def arWH_2 (z0 : (List SFrac)) (z1 : Int) : List Ans := (.n :: .v (VV.ag (c_SFrac ((sl z0 (((1 : Int)).toNat) z0.length).getD z1.toNat default))) :: .n :: .n :: [])
theorem eqWH_5  : VV.tu [VV.ag [vi 0, vi 0], vi 10] = VV.tu [VV.ag (c_SRange (⟨0, 0⟩ : SRange)), vi 10] := by first | rfl | (simp only [unfr_vi, List.map_cons, List.map_nil, un_i, unfr_c_SRange]; done) | (simp only [unfr_vi, List.map_cons, List.map_nil, un_i, unfr_c_SRange]; rfl) | (simp only [unfr_vi, List.map_cons, List.map_nil, un_i, unfr_c_SRange, c_SRange, List.length_cons, List.length_nil, List.length_append]; done)
theorem eqWH_6  : VV.tu [VV.ag [vi 0, vi 0], vi 8] = VV.tu [VV.ag (c_SRange (⟨0, 0⟩ : SRange)), vi 8] := by first | rfl | (simp only [unfr_vi, List.map_cons, List.map_nil, un_i, unfr_c_SRange]; done) | (simp only [unfr_vi, List.map_cons, List.map_nil, un_i, unfr_c_SRange]; rfl) | (simp only [unfr_vi, List.map_cons, List.map_nil, un_i, unfr_c_SRange, c_SRange, List.length_cons, List.length_nil, List.length_append]; done)
def noptics_SpotOf_l0_0_h (a0 : (List SFrac)) (b1_0 : Int) (b1_1 : Int) (x30 : Int) : VS := ⟨mkA [(2, VV.pt 0 0), (5, VV.pt 1 0), (28, VV.tr (List.flatMap c_SFrac (sl a0 (((1 : Int)).toNat) a0.length)) ((sl a0 (((1 : Int)).toNat) a0.length).length)), (29, vi ((sl a0 (((1 : Int)).toNat) a0.length).length : Int)), (30, vi x30)], [some ⟨true, 1, [vi 0, vi 0]⟩, some ⟨true, 1, [vi b1_0, vi b1_1]⟩], .nil⟩
def noptics_SpotOf_l0_0_e0 (a0 : (List SFrac)) (r : Int × Int) : VS := ⟨mkA [(2, VV.pt 0 0), (5, VV.pt 1 0)], [some ⟨true, 1, [vi 0, vi 0]⟩, some ⟨true, 1, [vi r.1, vi r.2]⟩], .nil⟩
def noptics_SpotOf_l0_0 (k : Nat) (a0 : (List SFrac)) : Nat → Int → Int → Int → Option (Int × Int)
  | 0, _, _, _ => none
  | fuel + 1, b1_0, b1_1, x30 => if x30 < ((sl a0 (((1 : Int)).toNat) a0.length).length : Int) then (if 0 ≤ x30 ∧ x30 < ((sl a0 (((1 : Int)).toNat) a0.length).length : Int) then ((noptics_around k ((sl a0 (((1 : Int)).toNat) a0.length).getD x30.toNat default)).bind fun r1985 => (noptics_SpotOf_l0_0 k a0 fuel (minI b1_0 r1985.Lo) (maxI b1_1 r1985.Hi) (w64 (x30 + 1)))) else none) else (some (b1_0, b1_1))
theorem noptics_SpotOf_l0_0_ok (k : Nat) (a0 : (List SFrac)) : ∀ (fuel : Nat) (b1_0 : Int) (b1_1 : Int) (x30 : Int) (r : Int × Int), noptics_SpotOf_l0_0 k a0 fuel b1_0 b1_1 x30 = some r → (VLoop none Go.Proofs.Try.prog (szF Go.Proofs.Try.f39) (bodyOf Go.Proofs.Try.f39 0) (noptics_SpotOf_l0_0_h a0 b1_0 b1_1 x30) (.exit 0) (noptics_SpotOf_l0_0_e0 a0 r)) := by
 intro fuel
 induction fuel with
 | zero => intro b1_0 b1_1 x30 r h; rw [noptics_SpotOf_l0_0.eq_1] at h; cases h
 | succ fuel ih =>
  intro b1_0 b1_1 x30 r h
  rw [noptics_SpotOf_l0_0.eq_2] at h
  rcases ifs h with ⟨h1982, h⟩ | ⟨h1982, h⟩
  ·obtain ⟨h1983, h⟩ := ifn h
   have e1984 := (show loadL Go.Proofs.Try.prog 26 (x30.toNat * 2) (List.flatMap c_SFrac (sl a0 (((1 : Int)).toNat) a0.length)) = some (VV.ag (c_SFrac ((sl a0 (((1 : Int)).toNat) a0.length).getD x30.toNat default))) from ld_whole ag26 c_SFrac 2 sz26 len_c_SFrac (sl a0 (((1 : Int)).toNat) a0.length) default h1983 (by omega))
   obtain ⟨r1985, h1986, h⟩ := bs h
   have e1987 := (noptics_around_ok k ((sl a0 (((1 : Int)).toNat) a0.length).getD x30.toNat default) _ h1986)
   have e1988 := (ti (ti (ti (ti (ti (ti (ti (ti (ti (ti (ti (ti trivial))))))))))))
   have h2 := ih _ _ _ _ h
   obtain ⟨q, hv, hq⟩ := pkR (rd := none) (P := Go.Proofs.Try.prog) (fn := Go.Proofs.Try.f39) (k := 0) (s := (noptics_SpotOf_l0_0_h a0 b1_0 b1_1 x30)) (ans := [.reg (.n :: []), .br true, .reg (arWH_2 a0 x30), .reg (.n :: .call (VV.ag (c_SRange r1985)) :: .n :: .n :: []), .reg (nN 12 []), .reg (.n :: .n :: [])]) (c := ⟨[(2, none), (5, none), (28, none), (29, none), (30, none)], [none, none], []⟩) (e := .normal) (s1 := (noptics_SpotOf_l0_0_h a0 (minI b1_0 r1985.Lo) (maxI b1_1 r1985.Hi) (w64 (x30 + 1)))) (an (an (ti trivial) (an (an (decide_eq_true h1982) trivial) (an (an (an h1983 (an e1984 (ti (ti trivial)))) (an (ti (an e1987 (ti (ti trivial)))) e1988)) (ti (ti trivial))))) (ti trivial)) (by kernel_rfl)
   exact round_next pm pn hv hq h2
  ·injection h with h; subst h
   exact round_stop (c := ⟨[(2, none), (5, none)], [none, none], []⟩) (s1 := (noptics_SpotOf_l0_0_e0 a0 (b1_0, b1_1))) pm pn (ans := [.reg (.n :: []), .br false]) (by kernel_rfl) (by intro e; cases e) (an (an (ti trivial) (an (decide_eq_false h1982) trivial)) (ti trivial))
def arWH_3 (z0 : (List SFrac)) (z1 : SRange) : List Ans := (.n :: .n :: .v (VV.ag (c_SFrac (z0.getD ((0 : Int)).toNat default))) :: .call (VV.ag (c_SRange z1)) :: .n :: .n :: [])
def arWH_4 (z0 : (List SFrac)) : List Ans := (.n :: .v (VV.tr (List.flatMap c_SFrac (sl z0 (((1 : Int)).toNat) z0.length)) ((sl z0 (((1 : Int)).toNat) z0.length).length)) :: .n :: .n :: [])
theorem eqWH_7 (z0 : Int × Int) : VV.tu [VV.ag [vi z0.1, vi z0.2], vi 0] = VV.tu [VV.ag (c_SRange (⟨z0.1, z0.2⟩ : SRange)), vi 0] := by first | rfl | (simp only [unfr_vi, List.map_cons, List.map_nil, un_i, unfr_c_SRange]; done) | (simp only [unfr_vi, List.map_cons, List.map_nil, un_i, unfr_c_SRange]; rfl) | (simp only [unfr_vi, List.map_cons, List.map_nil, un_i, unfr_c_SRange, c_SRange, List.length_cons, List.length_nil, List.length_append]; done)
theorem eqWH_8 (z0 : Int) : VV.tu [VV.ag [vi 0, vi 0], vi z0] = VV.tu [VV.ag (c_SRange (⟨0, 0⟩ : SRange)), vi z0] := by first | rfl | (simp only [unfr_vi, List.map_cons, List.map_nil, un_i, unfr_c_SRange]; done) | (simp only [unfr_vi, List.map_cons, List.map_nil, un_i, unfr_c_SRange]; rfl) | (simp only [unfr_vi, List.map_cons, List.map_nil, un_i, unfr_c_SRange, c_SRange, List.length_cons, List.length_nil, List.length_append]; done)
def noptics_SpotOf (k : Nat) (a0 : (List SFrac)) : Option (SRange × Int) :=
  if (a0.length : Int) = 0 then (some ((⟨0, 0⟩ : SRange), 10)) else (if 60 < (a0.length : Int) then (some ((⟨0, 0⟩ : SRange), 8)) else ((noptics_checkFracs k a0).bind fun r1956 => (if r1956 = 0 then (if (0 : Int) ≤ 0 ∧ 0 < (a0.length : Int) then ((noptics_around k (a0.getD ((0 : Int)).toNat default)).bind fun r1962 => (if 0 ≤ (1 : Int) ∧ (1 : Int) ≤ (a0.length : Int) ∧ (a0.length : Int) ≤ (a0.length : Int) then ((noptics_SpotOf_l0_0 k a0 k r1962.Lo r1962.Hi 0).bind fun r1990 => (some ((⟨r1990.1, r1990.2⟩ : SRange), 0))) else none)) else none) else (some ((⟨0, 0⟩ : SRange), r1956)))))
theorem noptics_SpotOf_ok (k : Nat) (a0 : (List SFrac)) (r : (SRange × Int)) (h : noptics_SpotOf k a0 = some r) : VC Go.Proofs.Try.prog 39 [VV.tr (List.flatMap c_SFrac a0) a0.length] (VV.tu [VV.ag (c_SRange r.1), vi r.2]) := by
 unfold noptics_SpotOf at h
 rcases ifs h with ⟨h1954, h⟩ | ⟨h1954, h⟩
 ·injection h with h; subst h
  exact fun_ok pm pn Go.Proofs.Try.func39 (r0 := VV.tu [VV.ag [vi 0, vi 0], vi 10]) (ans := [.reg (.n :: .n :: []), .reg (nN 3 []), .br true, .reg (nN 3 [])]) (fr := true) (by kernel_rfl) (an (an (ti (ti trivial)) (an (ti (ti (ti trivial))) (an (decide_eq_true h1954) (an (ti (ti (ti trivial))) trivial)))) (an (ti (ti (ti trivial))) (ti trivial))) (Wv.of_eq eqWH_5)
 ·rcases ifs h with ⟨h1955, h⟩ | ⟨h1955, h⟩
  ·injection h with h; subst h
   exact fun_ok pm pn Go.Proofs.Try.func39 (r0 := VV.tu [VV.ag [vi 0, vi 0], vi 8]) (ans := [.reg (.n :: .n :: []), .reg (nN 3 []), .br false, .reg (nN 3 []), .br true, .reg (nN 3 [])]) (fr := true) (by kernel_rfl) (an (an (ti (ti trivial)) (an (an (ti (ti (ti trivial))) (an (decide_eq_false h1954) trivial)) (an (ti (ti (ti trivial))) (an (decide_eq_true h1955) (an (ti (ti (ti trivial))) trivial))))) (an (ti (ti (ti trivial))) (ti trivial))) (Wv.of_eq eqWH_6)
  ·obtain ⟨r1956, h1957, h⟩ := bs h
   have e1958 := (ti (an (noptics_checkFracs_ok k a0 _ h1957) (ti trivial)))
   rcases ifs h with ⟨h1959, h⟩ | ⟨h1959, h⟩
   ·obtain ⟨h1960, h⟩ := ifn h
    have e1961 := (show loadL Go.Proofs.Try.prog 26 (((0 : Int)).toNat * 2) (List.flatMap c_SFrac a0) = some (VV.ag (c_SFrac (a0.getD ((0 : Int)).toNat default))) from ld_whole ag26 c_SFrac 2 sz26 len_c_SFrac a0 default h1960 (by omega))
    obtain ⟨r1962, h1963, h⟩ := bs h
    have e1964 := (noptics_around_ok k (a0.getD ((0 : Int)).toNat default) _ h1963)
    have e1965 := (ti (an h1960 (an e1961 (an e1964 (ti (ti trivial))))))
    obtain ⟨h1966, h⟩ := ifn h
    have e1967 := (show (0 ≤ (1 : Int) ∧ True ∧ ((1 : Int)).toNat ≤ a0.length ∧ a0.length ≤ a0.length ∧ a0.length * 2 ≤ List.length (List.flatMap c_SFrac a0)) ∧ VV.tr (List.take ((a0.length - ((1 : Int)).toNat) * 2) (List.drop (((1 : Int)).toNat * 2) (List.flatMap c_SFrac a0))) (a0.length - ((1 : Int)).toNat) = VV.tr (List.flatMap c_SFrac (sl a0 (((1 : Int)).toNat) a0.length)) ((sl a0 (((1 : Int)).toNat) a0.length).length) from ⟨⟨h1966.1, trivial, (by have := h1966; omega), (by have := h1966; omega), (by rw [flatMap_len len_c_SFrac]; have := h1966; omega)⟩, (by exact sl_flat len_c_SFrac a0 (((1 : Int)).toNat) a0.length (by have := h1966; omega) (by have := h1966; omega))⟩)
    obtain ⟨r1990, h1989, h⟩ := bs h
    have hph1989 := noptics_SpotOf_l0_0_ok k a0 _ _ _ _ _ h1989
    have e1991 := (an (ti trivial) (VRun.loop hph1989))
    injection h with h; subst h
    exact fun_ok pm pn Go.Proofs.Try.func39 (r0 := VV.tu [VV.ag [vi r1990.1, vi r1990.2], vi 0]) (ans := [.reg (.n :: .n :: []), .reg (nN 3 []), .br false, .reg (nN 3 []), .br false, .reg (.n :: .call (vi r1956) :: .n :: []), .reg (.n :: .n :: []), .br false, .reg (arWH_3 a0 r1962), .reg (arWH_4 a0), .sub ⟨[(2, none), (5, none), (28, none), (29, none), (30, none)], [none, none], []⟩ (.exit 0) (noptics_SpotOf_l0_0_e0 a0 r1990), .reg (nN 3 [])]) (fr := true) (by kernel_rfl) (an (an (ti (ti trivial)) (an (an (ti (ti (ti trivial))) (an (decide_eq_false h1954) trivial)) (an (an (ti (ti (ti trivial))) (an (decide_eq_false h1955) trivial)) (an (an e1958 (an (ti (ti trivial)) (an (not_f (decide_eq_true h1959)) trivial))) (an e1965 (an (an (ti (an e1967 (ti (ti trivial)))) e1991) (an (ti (ti (ti trivial))) trivial))))))) (an (ti (ti (ti trivial))) (ti trivial))) (Wv.of_eq (eqWH_7 r1990))
   ·injection h with h; subst h
    exact fun_ok pm pn Go.Proofs.Try.func39 (r0 := VV.tu [VV.ag [vi 0, vi 0], vi r1956]) (ans := [.reg (.n :: .n :: []), .reg (nN 3 []), .br false, .reg (nN 3 []), .br false, .reg (.n :: .call (vi r1956) :: .n :: []), .reg (.n :: .n :: []), .br true, .reg (nN 4 [])]) (fr := true) (by kernel_rfl) (an (an (ti (ti trivial)) (an (an (ti (ti (ti trivial))) (an (decide_eq_false h1954) trivial)) (an (an (ti (ti (ti trivial))) (an (decide_eq_false h1955) trivial)) (an e1958 (an (ti (ti trivial)) (an (not_t (decide_eq_false h1959)) (an (ti (ti (ti (ti trivial)))) trivial))))))) (an (ti (ti (ti trivial))) (ti trivial))) (Wv.of_eq (eqWH_8 r1956))
def nspeculumref02_CheckFrac (k : Nat) (a0 : SFrac) : Option Int :=
  (nspeculumbase_IsLowest k a0).bind fun r2007 => (if r2007 = true then ((nspeculumbase_IsSmall k a0).bind fun r2011 => (if r2011 = true then (some 0) else (some 2))) else (some 3))
theorem nspeculumref02_CheckFrac_ok (k : Nat) (a0 : SFrac) (r : Int) (h : nspeculumref02_CheckFrac k a0 = some r) : VC Go.Proofs.Try.prog 34 [VV.ag (c_SFrac a0)] (vi r) := by
 unfold nspeculumref02_CheckFrac at h
 obtain ⟨r2007, h2008, h⟩ := bs h
 have e2009 := (nspeculumbase_IsLowest_ok k a0 _ h2008)
 rcases ifs h with ⟨h2010, h⟩ | ⟨h2010, h⟩
 ·obtain ⟨r2011, h2012, h⟩ := bs h
  have e2013 := (ti (an (nspeculumbase_IsSmall_ok k a0 _ h2012) (ti trivial)))
  rcases ifs h with ⟨h2014, h⟩ | ⟨h2014, h⟩
  ·injection h with h; subst h
   exact fun_ok pm pn Go.Proofs.Try.func34 (r0 := vi 0) (ans := [.reg (.n :: .n :: []), .reg (.n :: .call (vb r2007) :: .n :: []), .br false, .reg (.n :: .call (vb r2011) :: .n :: []), .br false, .reg (.n :: [])]) (fr := true) (by kernel_rfl) (an (an (ti (ti trivial)) (an (an (ti (an e2009 (ti trivial))) (an (not_f h2010) trivial)) (an (an e2013 (an (not_f h2014) trivial)) (an (ti trivial) trivial)))) (ti trivial)) (Wv.refl _)
  ·injection h with h; subst h
   exact fun_ok pm pn Go.Proofs.Try.func34 (r0 := vi 2) (ans := [.reg (.n :: .n :: []), .reg (.n :: .call (vb r2007) :: .n :: []), .br false, .reg (.n :: .call (vb r2011) :: .n :: []), .br true, .reg (.n :: [])]) (fr := true) (by kernel_rfl) (an (an (ti (ti trivial)) (an (an (ti (an e2009 (ti trivial))) (an (not_f h2010) trivial)) (an e2013 (an (not_t (bool_f h2014)) (an (ti trivial) trivial))))) (ti trivial)) (Wv.refl _)
 ·injection h with h; subst h
  exact fun_ok pm pn Go.Proofs.Try.func34 (r0 := vi 3) (ans := [.reg (.n :: .n :: []), .reg (.n :: .call (vb r2007) :: .n :: []), .br true, .reg (.n :: [])]) (fr := true) (by kernel_rfl) (an (an (ti (ti trivial)) (an (ti (an e2009 (ti trivial))) (an (not_t (bool_f h2010)) (an (ti trivial) trivial)))) (ti trivial)) (Wv.refl _)
theorem eqWH_9  : ([⟨true, bigH, [vb ((⟨false⟩ : SWay).Large)]⟩] : List Blk) = ([⟨true, bigH, [vb false]⟩] : List Blk) := by first | rfl | (simp only [unfr_vb, List.map_cons, List.map_nil, un_b]; done) | (simp only [unfr_vb, List.map_cons, List.map_nil, un_b]; rfl) | (simp only [unfr_vb, List.map_cons, List.map_nil, un_b, List.length_cons, List.length_nil, List.length_append]; done)
theorem eqWH_10  : VV.tu [VV.ag [vi 0, vi 0], vi 8] = VV.tu [VV.ag (c_SFrac (⟨0, 0⟩ : SFrac)), vi 8] := by first | rfl | (simp only [unfr_vi, List.map_cons, List.map_nil, un_i, unfr_c_SFrac]; done) | (simp only [unfr_vi, List.map_cons, List.map_nil, un_i, unfr_c_SFrac]; rfl) | (simp only [unfr_vi, List.map_cons, List.map_nil, un_i, unfr_c_SFrac, c_SFrac, List.length_cons, List.length_nil, List.length_append]; done)
def nspeculumref02_fraction (k : Nat) (a0 : SFrac) (a1 : SWay) : Option (SFrac × Int) :=
  if a1.Large = true then (some ((⟨0, 0⟩ : SFrac), 8)) else (some (a0, 0))
theorem nspeculumref02_fraction_ok (k : Nat) (a0 : SFrac) (a1 : SWay) (r : (SFrac × Int)) (h : nspeculumref02_fraction k a0 a1 = some r) : VC Go.Proofs.Try.prog 67 [VV.ag (c_SFrac a0), VV.ag (c_SWay a1)] (VV.tu [VV.ag (c_SFrac r.1), vi r.2]) := by
 unfold nspeculumref02_fraction at h
 rcases ifs h with ⟨h2105, h⟩ | ⟨h2105, h⟩
 ·injection h with h; subst h
  exact fun_ok pm pn Go.Proofs.Try.func67 (r0 := VV.tu [VV.ag [vi 0, vi 0], vi 8]) (ans := [.reg (nN 4 []), .reg (.n :: .n :: []), .br true, .reg (nN 3 [])]) (fr := true) (by kernel_rfl) (an (an (ti (ti (ti (ti trivial)))) (an (ti (ti trivial)) (an h2105 (an (ti (ti (ti trivial))) trivial)))) (an (ti (ti (ti trivial))) (ti trivial))) (Wv.of_eq eqWH_10)
 ·injection h with h; subst h
  exact fun_ok pm pn Go.Proofs.Try.func67 (r0 := VV.tu [VV.ag (c_SFrac a0), vi 0]) (ans := [.reg (nN 4 []), .reg (.n :: .n :: []), .br false, .reg (nN 3 [])]) (fr := true) (by kernel_rfl) (an (an (ti (ti (ti (ti trivial)))) (an (an (ti (ti trivial)) (an (bool_f h2105) trivial)) (an (ti (ti (ti trivial))) trivial))) (an (ti (ti (ti trivial))) (ti trivial))) (Wv.refl _)
def nspeculumref02_HeightAt_l0_0_h (a0 : SSpot) (a1 : A66) (a2 : SFrac) (x23 : Int) : VS := ⟨mkA [(3, VV.pt 0 0), (4, VV.pt 1 0), (5, VV.pt 2 0), (6, VV.pt 3 0), (22, VV.ag [vi a0.R.Num, vi a0.R.Den, vi a0.Z.Num, vi a0.Z.Den, vi a1.e0.Num, vi a1.e0.Den, vi a1.e1.Num, vi a1.e1.Den, vi a2.Num, vi a2.Den]), (23, vi x23)], [some ⟨true, 1, c_SSpot a0⟩, some ⟨true, 1, c_A66 a1⟩, some ⟨true, 1, c_SFrac a2⟩, some ⟨true, 1, [vi 0, vi 0]⟩], .nil⟩
def nspeculumref02_HeightAt_l0_0_e0 (a0 : SSpot) (a1 : A66) (a2 : SFrac) (r : Int) : VS := ⟨mkA [(6, VV.pt 3 0), (7, vi r)], [some ⟨true, 1, c_SSpot a0⟩, some ⟨true, 1, c_A66 a1⟩, some ⟨true, 1, c_SFrac a2⟩, some ⟨true, 1, [vi 0, vi 0]⟩], .nil⟩
def nspeculumref02_HeightAt_l0_0_e1 (a0 : SSpot) (a1 : A66) (a2 : SFrac) (r : Unit) : VS := ⟨mkA [(3, VV.pt 0 0), (4, VV.pt 1 0), (5, VV.pt 2 0), (6, VV.pt 3 0)], [some ⟨true, 1, c_SSpot a0⟩, some ⟨true, 1, c_A66 a1⟩, some ⟨true, 1, c_SFrac a2⟩, some ⟨true, 1, [vi 0, vi 0]⟩], .nil⟩
def nspeculumref02_HeightAt_l0_0 (k : Nat) (a0 : SSpot) (a1 : A66) (a2 : SFrac) : Nat → Int → Option (Sum Int Unit)
  | 0, _ => none
  | fuel + 1, x23 => if x23 < 5 then (if x23 = 0 then ((nspeculumref02_CheckFrac k a0.R).bind fun r2151 => (if r2151 = 0 then (nspeculumref02_HeightAt_l0_0 k a0 a1 a2 fuel (w64 (x23 + 1))) else (some (.inl r2151)))) else (if x23 = 1 then ((nspeculumref02_CheckFrac k a0.Z).bind fun r2157 => (if r2157 = 0 then (nspeculumref02_HeightAt_l0_0 k a0 a1 a2 fuel (w64 (x23 + 1))) else (some (.inl r2157)))) else (if x23 = 2 then ((nspeculumref02_CheckFrac k a1.e0).bind fun r2163 => (if r2163 = 0 then (nspeculumref02_HeightAt_l0_0 k a0 a1 a2 fuel (w64 (x23 + 1))) else (some (.inl r2163)))) else (if x23 = 3 then ((nspeculumref02_CheckFrac k a1.e1).bind fun r2169 => (if r2169 = 0 then (nspeculumref02_HeightAt_l0_0 k a0 a1 a2 fuel (w64 (x23 + 1))) else (some (.inl r2169)))) else (if x23 = 4 then ((nspeculumref02_CheckFrac k a2).bind fun r2175 => (if r2175 = 0 then (nspeculumref02_HeightAt_l0_0 k a0 a1 a2 fuel (w64 (x23 + 1))) else (some (.inl r2175)))) else none))))) else (some (.inr ()))
theorem nspeculumref02_HeightAt_l0_0_ok (k : Nat) (a0 : SSpot) (a1 : A66) (a2 : SFrac) : ∀ (fuel : Nat) (x23 : Int) (r : Sum Int Unit), nspeculumref02_HeightAt_l0_0 k a0 a1 a2 fuel x23 = some r → (match r with | .inl r => VLoop none Go.Proofs.Try.prog (szF Go.Proofs.Try.f41) (bodyOf Go.Proofs.Try.f41 0) (nspeculumref02_HeightAt_l0_0_h a0 a1 a2 x23) .ret (nspeculumref02_HeightAt_l0_0_e0 a0 a1 a2 r) | .inr r => VLoop none Go.Proofs.Try.prog (szF Go.Proofs.Try.f41) (bodyOf Go.Proofs.Try.f41 0) (nspeculumref02_HeightAt_l0_0_h a0 a1 a2 x23) (.exit 0) (nspeculumref02_HeightAt_l0_0_e1 a0 a1 a2 r)) := by
 intro fuel
 induction fuel with
 | zero => intro x23 r h; rw [nspeculumref02_HeightAt_l0_0.eq_1] at h; cases h
 | succ fuel ih =>
  intro x23 r h
  rw [nspeculumref02_HeightAt_l0_0.eq_2] at h
  rcases ifs h with ⟨h2148, h⟩ | ⟨h2148, h⟩
  ·rcases ifs h with ⟨h2149, h⟩ | ⟨h2149, h⟩
   ·have e2150 := (show (0:Int) ≤ x23 ∧ x23 < ((5 : Nat) : Int) ∧ partV (x23.toNat * 2) (some 2) [vi a0.R.Num, vi a0.R.Den, vi a0.Z.Num, vi a0.Z.Den, vi a1.e0.Num, vi a1.e0.Den, vi a1.e1.Num, vi a1.e1.Den, vi a2.Num, vi a2.Den] = some (VV.ag (c_SFrac a0.R)) from ⟨by have := (of_decide_eq_true (decide_eq_true h2149)); omega, by have := (of_decide_eq_true (decide_eq_true h2149)); omega, by rw [show x23 = (0 : Int) from (of_decide_eq_true (decide_eq_true h2149))]; rfl⟩)
    obtain ⟨r2151, h2152, h⟩ := bs h
    have e2153 := (nspeculumref02_CheckFrac_ok k a0.R _ h2152)
    rcases ifs h with ⟨h2154, h⟩ | ⟨h2154, h⟩
    ·have h2 := ih _ _ h
     obtain ⟨q, hv, hq⟩ := pkR (rd := none) (P := Go.Proofs.Try.prog) (fn := Go.Proofs.Try.f41) (k := 0) (s := (nspeculumref02_HeightAt_l0_0_h a0 a1 a2 x23)) (ans := [.reg (.n :: []), .br true, .reg (.v (VV.ag (c_SFrac a0.R)) :: .n :: .n :: []), .reg (.n :: .call (vi r2151) :: .n :: []), .reg (.n :: .n :: []), .br false, .reg (.n :: .n :: [])]) (c := ⟨[(3, none), (4, none), (5, none), (6, none), (22, none), (23, none)], [none, none, none, none], []⟩) (e := .normal) (s1 := (nspeculumref02_HeightAt_l0_0_h a0 a1 a2 (w64 (x23 + 1)))) (an (an (ti trivial) (an (an (decide_eq_true h2148) trivial) (an (an (an e2150 (ti (ti trivial))) (an (ti (an e2153 (ti trivial))) (an (ti (ti trivial)) (an (not_f (decide_eq_true h2154)) trivial)))) (ti (ti trivial))))) (ti trivial)) (by kernel_rfl)
     cases r with
     | inl r => exact round_next pm pn hv hq h2
     | inr r =>
      exact round_next pm pn hv hq h2
    ·injection h with h; subst h
     exact round_stop (c := ⟨[(6, none), (7, none)], [none, none, none, none], []⟩) (s1 := (nspeculumref02_HeightAt_l0_0_e0 a0 a1 a2 r2151)) pm pn (ans := [.reg (.n :: []), .br true, .reg (.v (VV.ag (c_SFrac a0.R)) :: .n :: .n :: []), .reg (.n :: .call (vi r2151) :: .n :: []), .reg (.n :: .n :: []), .br true, .reg (nN 4 [])]) (by kernel_rfl) (by intro e; cases e) (an (an (ti trivial) (an (an (decide_eq_true h2148) trivial) (an (an e2150 (ti (ti trivial))) (an (ti (an e2153 (ti trivial))) (an (ti (ti trivial)) (an (not_t (decide_eq_false h2154)) (an (ti (ti (ti (ti trivial)))) trivial))))))) (ti trivial))
   ·rcases ifs h with ⟨h2155, h⟩ | ⟨h2155, h⟩
    ·have e2156 := (show (0:Int) ≤ x23 ∧ x23 < ((5 : Nat) : Int) ∧ partV (x23.toNat * 2) (some 2) [vi a0.R.Num, vi a0.R.Den, vi a0.Z.Num, vi a0.Z.Den, vi a1.e0.Num, vi a1.e0.Den, vi a1.e1.Num, vi a1.e1.Den, vi a2.Num, vi a2.Den] = some (VV.ag (c_SFrac a0.Z)) from ⟨by have := (of_decide_eq_true (decide_eq_true h2155)); omega, by have := (of_decide_eq_true (decide_eq_true h2155)); omega, by rw [show x23 = (1 : Int) from (of_decide_eq_true (decide_eq_true h2155))]; rfl⟩)
     obtain ⟨r2157, h2158, h⟩ := bs h
     have e2159 := (nspeculumref02_CheckFrac_ok k a0.Z _ h2158)
     rcases ifs h with ⟨h2160, h⟩ | ⟨h2160, h⟩
     ·have h2 := ih _ _ h
      obtain ⟨q, hv, hq⟩ := pkR (rd := none) (P := Go.Proofs.Try.prog) (fn := Go.Proofs.Try.f41) (k := 0) (s := (nspeculumref02_HeightAt_l0_0_h a0 a1 a2 x23)) (ans := [.reg (.n :: []), .br true, .reg (.v (VV.ag (c_SFrac a0.Z)) :: .n :: .n :: []), .reg (.n :: .call (vi r2157) :: .n :: []), .reg (.n :: .n :: []), .br false, .reg (.n :: .n :: [])]) (c := ⟨[(3, none), (4, none), (5, none), (6, none), (22, none), (23, none)], [none, none, none, none], []⟩) (e := .normal) (s1 := (nspeculumref02_HeightAt_l0_0_h a0 a1 a2 (w64 (x23 + 1)))) (an (an (ti trivial) (an (an (decide_eq_true h2148) trivial) (an (an (an e2156 (ti (ti trivial))) (an (ti (an e2159 (ti trivial))) (an (ti (ti trivial)) (an (not_f (decide_eq_true h2160)) trivial)))) (ti (ti trivial))))) (ti trivial)) (by kernel_rfl)
      cases r with
      | inl r => exact round_next pm pn hv hq h2
      | inr r =>
       exact round_next pm pn hv hq h2
     ·injection h with h; subst h
      exact round_stop (c := ⟨[(6, none), (7, none)], [none, none, none, none], []⟩) (s1 := (nspeculumref02_HeightAt_l0_0_e0 a0 a1 a2 r2157)) pm pn (ans := [.reg (.n :: []), .br true, .reg (.v (VV.ag (c_SFrac a0.Z)) :: .n :: .n :: []), .reg (.n :: .call (vi r2157) :: .n :: []), .reg (.n :: .n :: []), .br true, .reg (nN 4 [])]) (by kernel_rfl) (by intro e; cases e) (an (an (ti trivial) (an (an (decide_eq_true h2148) trivial) (an (an e2156 (ti (ti trivial))) (an (ti (an e2159 (ti trivial))) (an (ti (ti trivial)) (an (not_t (decide_eq_false h2160)) (an (ti (ti (ti (ti trivial)))) trivial))))))) (ti trivial))
    ·rcases ifs h with ⟨h2161, h⟩ | ⟨h2161, h⟩
     ·have e2162 := (show (0:Int) ≤ x23 ∧ x23 < ((5 : Nat) : Int) ∧ partV (x23.toNat * 2) (some 2) [vi a0.R.Num, vi a0.R.Den, vi a0.Z.Num, vi a0.Z.Den, vi a1.e0.Num, vi a1.e0.Den, vi a1.e1.Num, vi a1.e1.Den, vi a2.Num, vi a2.Den] = some (VV.ag (c_SFrac a1.e0)) from ⟨by have := (of_decide_eq_true (decide_eq_true h2161)); omega, by have := (of_decide_eq_true (decide_eq_true h2161)); omega, by rw [show x23 = (2 : Int) from (of_decide_eq_true (decide_eq_true h2161))]; rfl⟩)
      obtain ⟨r2163, h2164, h⟩ := bs h
      have e2165 := (nspeculumref02_CheckFrac_ok k a1.e0 _ h2164)
      rcases ifs h with ⟨h2166, h⟩ | ⟨h2166, h⟩
      ·have h2 := ih _ _ h
       obtain ⟨q, hv, hq⟩ := pkR (rd := none) (P := Go.Proofs.Try.prog) (fn := Go.Proofs.Try.f41) (k := 0) (s := (nspeculumref02_HeightAt_l0_0_h a0 a1 a2 x23)) (ans := [.reg (.n :: []), .br true, .reg (.v (VV.ag (c_SFrac a1.e0)) :: .n :: .n :: []), .reg (.n :: .call (vi r2163) :: .n :: []), .reg (.n :: .n :: []), .br false, .reg (.n :: .n :: [])]) (c := ⟨[(3, none), (4, none), (5, none), (6, none), (22, none), (23, none)], [none, none, none, none], []⟩) (e := .normal) (s1 := (nspeculumref02_HeightAt_l0_0_h a0 a1 a2 (w64 (x23 + 1)))) (an (an (ti trivial) (an (an (decide_eq_true h2148) trivial) (an (an (an e2162 (ti (ti trivial))) (an (ti (an e2165 (ti trivial))) (an (ti (ti trivial)) (an (not_f (decide_eq_true h2166)) trivial)))) (ti (ti trivial))))) (ti trivial)) (by kernel_rfl)
       cases r with
       | inl r => exact round_next pm pn hv hq h2
       | inr r =>
        exact round_next pm pn hv hq h2
      ·injection h with h; subst h
       exact round_stop (c := ⟨[(6, none), (7, none)], [none, none, none, none], []⟩) (s1 := (nspeculumref02_HeightAt_l0_0_e0 a0 a1 a2 r2163)) pm pn (ans := [.reg (.n :: []), .br true, .reg (.v (VV.ag (c_SFrac a1.e0)) :: .n :: .n :: []), .reg (.n :: .call (vi r2163) :: .n :: []), .reg (.n :: .n :: []), .br true, .reg (nN 4 [])]) (by kernel_rfl) (by intro e; cases e) (an (an (ti trivial) (an (an (decide_eq_true h2148) trivial) (an (an e2162 (ti (ti trivial))) (an (ti (an e2165 (ti trivial))) (an (ti (ti trivial)) (an (not_t (decide_eq_false h2166)) (an (ti (ti (ti (ti trivial)))) trivial))))))) (ti trivial))
     ·rcases ifs h with ⟨h2167, h⟩ | ⟨h2167, h⟩
      ·have e2168 := (show (0:Int) ≤ x23 ∧ x23 < ((5 : Nat) : Int) ∧ partV (x23.toNat * 2) (some 2) [vi a0.R.Num, vi a0.R.Den, vi a0.Z.Num, vi a0.Z.Den, vi a1.e0.Num, vi a1.e0.Den, vi a1.e1.Num, vi a1.e1.Den, vi a2.Num, vi a2.Den] = some (VV.ag (c_SFrac a1.e1)) from ⟨by have := (of_decide_eq_true (decide_eq_true h2167)); omega, by have := (of_decide_eq_true (decide_eq_true h2167)); omega, by rw [show x23 = (3 : Int) from (of_decide_eq_true (decide_eq_true h2167))]; rfl⟩)
       obtain ⟨r2169, h2170, h⟩ := bs h
       have e2171 := (nspeculumref02_CheckFrac_ok k a1.e1 _ h2170)
       rcases ifs h with ⟨h2172, h⟩ | ⟨h2172, h⟩
       ·have h2 := ih _ _ h
        obtain ⟨q, hv, hq⟩ := pkR (rd := none) (P := Go.Proofs.Try.prog) (fn := Go.Proofs.Try.f41) (k := 0) (s := (nspeculumref02_HeightAt_l0_0_h a0 a1 a2 x23)) (ans := [.reg (.n :: []), .br true, .reg (.v (VV.ag (c_SFrac a1.e1)) :: .n :: .n :: []), .reg (.n :: .call (vi r2169) :: .n :: []), .reg (.n :: .n :: []), .br false, .reg (.n :: .n :: [])]) (c := ⟨[(3, none), (4, none), (5, none), (6, none), (22, none), (23, none)], [none, none, none, none], []⟩) (e := .normal) (s1 := (nspeculumref02_HeightAt_l0_0_h a0 a1 a2 (w64 (x23 + 1)))) (an (an (ti trivial) (an (an (decide_eq_true h2148) trivial) (an (an (an e2168 (ti (ti trivial))) (an (ti (an e2171 (ti trivial))) (an (ti (ti trivial)) (an (not_f (decide_eq_true h2172)) trivial)))) (ti (ti trivial))))) (ti trivial)) (by kernel_rfl)
        cases r with
        | inl r => exact round_next pm pn hv hq h2
        | inr r =>
         exact round_next pm pn hv hq h2
       ·injection h with h; subst h
        exact round_stop (c := ⟨[(6, none), (7, none)], [none, none, none, none], []⟩) (s1 := (nspeculumref02_HeightAt_l0_0_e0 a0 a1 a2 r2169)) pm pn (ans := [.reg (.n :: []), .br true, .reg (.v (VV.ag (c_SFrac a1.e1)) :: .n :: .n :: []), .reg (.n :: .call (vi r2169) :: .n :: []), .reg (.n :: .n :: []), .br true, .reg (nN 4 [])]) (by kernel_rfl) (by intro e; cases e) (an (an (ti trivial) (an (an (decide_eq_true h2148) trivial) (an (an e2168 (ti (ti trivial))) (an (ti (an e2171 (ti trivial))) (an (ti (ti trivial)) (an (not_t (decide_eq_false h2172)) (an (ti (ti (ti (ti trivial)))) trivial))))))) (ti trivial))
      ·rcases ifs h with ⟨h2173, h⟩ | ⟨h2173, h⟩
       ·have e2174 := (show (0:Int) ≤ x23 ∧ x23 < ((5 : Nat) : Int) ∧ partV (x23.toNat * 2) (some 2) [vi a0.R.Num, vi a0.R.Den, vi a0.Z.Num, vi a0.Z.Den, vi a1.e0.Num, vi a1.e0.Den, vi a1.e1.Num, vi a1.e1.Den, vi a2.Num, vi a2.Den] = some (VV.ag (c_SFrac a2)) from ⟨by have := (of_decide_eq_true (decide_eq_true h2173)); omega, by have := (of_decide_eq_true (decide_eq_true h2173)); omega, by rw [show x23 = (4 : Int) from (of_decide_eq_true (decide_eq_true h2173))]; rfl⟩)
        obtain ⟨r2175, h2176, h⟩ := bs h
        have e2177 := (nspeculumref02_CheckFrac_ok k a2 _ h2176)
        rcases ifs h with ⟨h2178, h⟩ | ⟨h2178, h⟩
        ·have h2 := ih _ _ h
         obtain ⟨q, hv, hq⟩ := pkR (rd := none) (P := Go.Proofs.Try.prog) (fn := Go.Proofs.Try.f41) (k := 0) (s := (nspeculumref02_HeightAt_l0_0_h a0 a1 a2 x23)) (ans := [.reg (.n :: []), .br true, .reg (.v (VV.ag (c_SFrac a2)) :: .n :: .n :: []), .reg (.n :: .call (vi r2175) :: .n :: []), .reg (.n :: .n :: []), .br false, .reg (.n :: .n :: [])]) (c := ⟨[(3, none), (4, none), (5, none), (6, none), (22, none), (23, none)], [none, none, none, none], []⟩) (e := .normal) (s1 := (nspeculumref02_HeightAt_l0_0_h a0 a1 a2 (w64 (x23 + 1)))) (an (an (ti trivial) (an (an (decide_eq_true h2148) trivial) (an (an (an e2174 (ti (ti trivial))) (an (ti (an e2177 (ti trivial))) (an (ti (ti trivial)) (an (not_f (decide_eq_true h2178)) trivial)))) (ti (ti trivial))))) (ti trivial)) (by kernel_rfl)
         cases r with
         | inl r => exact round_next pm pn hv hq h2
         | inr r =>
          exact round_next pm pn hv hq h2
        ·injection h with h; subst h
         exact round_stop (c := ⟨[(6, none), (7, none)], [none, none, none, none], []⟩) (s1 := (nspeculumref02_HeightAt_l0_0_e0 a0 a1 a2 r2175)) pm pn (ans := [.reg (.n :: []), .br true, .reg (.v (VV.ag (c_SFrac a2)) :: .n :: .n :: []), .reg (.n :: .call (vi r2175) :: .n :: []), .reg (.n :: .n :: []), .br true, .reg (nN 4 [])]) (by kernel_rfl) (by intro e; cases e) (an (an (ti trivial) (an (an (decide_eq_true h2148) trivial) (an (an e2174 (ti (ti trivial))) (an (ti (an e2177 (ti trivial))) (an (ti (ti trivial)) (an (not_t (decide_eq_false h2178)) (an (ti (ti (ti (ti trivial)))) trivial))))))) (ti trivial))
       ·cases h
  ·injection h with h; subst h
   exact round_stop (c := ⟨[(3, none), (4, none), (5, none), (6, none)], [none, none, none, none], []⟩) (s1 := (nspeculumref02_HeightAt_l0_0_e1 a0 a1 a2 ())) pm pn (ans := [.reg (.n :: []), .br false]) (by kernel_rfl) (by intro e; cases e) (an (an (ti trivial) (an (decide_eq_false h2148) trivial)) (ti trivial))
theorem eqWH_11  : VV.tu [VV.ag [vi 0, vi 0], vi 11] = VV.tu [VV.ag (c_SFrac (⟨0, 0⟩ : SFrac)), vi 11] := by first | rfl | (simp only [unfr_vi, List.map_cons, List.map_nil, un_i, unfr_c_SFrac]; done) | (simp only [unfr_vi, List.map_cons, List.map_nil, un_i, unfr_c_SFrac]; rfl) | (simp only [unfr_vi, List.map_cons, List.map_nil, un_i, unfr_c_SFrac, c_SFrac, List.length_cons, List.length_nil, List.length_append]; done)
def arWH_5 (z0 : (SFrac × SWay)) (z1 : (SFrac × SWay)) (z2 : (SFrac × SWay)) (z3 : (SFrac × SWay)) : List Ans := (nN 5 (.mod1 4 (VV.ag (c_SFrac z0.1)) ⟨true, bigH, [vb z0.2.Large]⟩ :: nN 4 (.mod1 4 (VV.ag (c_SFrac z1.1)) ⟨true, bigH, [vb z1.2.Large]⟩ :: .mod1 4 (VV.ag (c_SFrac z2.1)) ⟨true, bigH, [vb z2.2.Large]⟩ :: .mod1 4 (VV.ag (c_SFrac z3.1)) ⟨true, bigH, [vb z3.2.Large]⟩ :: .n :: .n :: [])))
def nspeculumref02_HeightAt (k : Nat) (a0 : SSpot) (a1 : A66) (a2 : SFrac) : Option (SFrac × Int) :=
  (nspeculumref02_HeightAt_l0_0 k a0 a1 a2 k 0).bind fun r2180 => (match r2180 with | .inl r2181 => (some ((⟨0, 0⟩ : SFrac), r2181)) | .inr r2182 => (if a1.e1.Num = 0 then (some ((⟨0, 0⟩ : SFrac), 11)) else ((n_speculumref02_Way_Sub k (⟨false⟩ : SWay) a2 a0.Z).bind fun r2187 => ((n_speculumref02_Way_Quo k r2187.2 a1.e0 a1.e1).bind fun r2192 => ((n_speculumref02_Way_Mul k r2192.2 r2187.1 r2192.1).bind fun r2195 => ((n_speculumref02_Way_Add k r2195.2 a0.R r2195.1).bind fun r2198 => ((nspeculumref02_fraction k r2198.1 r2198.2).bind fun r2202 => (some (r2202.1, r2202.2)))))))))
theorem nspeculumref02_HeightAt_ok (k : Nat) (a0 : SSpot) (a1 : A66) (a2 : SFrac) (r : (SFrac × Int)) (h : nspeculumref02_HeightAt k a0 a1 a2 = some r) : VC Go.Proofs.Try.prog 41 [VV.ag (c_SSpot a0), VV.ag (c_A66 a1), VV.ag (c_SFrac a2)] (VV.tu [VV.ag (c_SFrac r.1), vi r.2]) := by
 unfold nspeculumref02_HeightAt at h
 have e2109 := (show (0:Int) ≤ 0 ∧ (0:Int) < ((2 : Nat) : Int) from ⟨by decide, by decide⟩)
 have e2110 := (show (0:Int) ≤ 1 ∧ (1:Int) < ((2 : Nat) : Int) from ⟨by decide, by decide⟩)
 have e2111 := (ti (ti (ti (ti (an e2109 (ti (an e2110 (ti (ti (ti (ti trivial)))))))))))
 obtain ⟨r2180, h2179, h⟩ := bs h
 have hph2179 := nspeculumref02_HeightAt_l0_0_ok k a0 a1 a2 _ _ _ h2179
 cases r2180 with
 | inl r2181 =>
  dsimp only at h
  have e2183 := (an (ti trivial) (VRun.loop hph2179))
  injection h with h; subst h
  exact fun_ok pm pn Go.Proofs.Try.func41 (r0 := VV.tu [VV.ag [vi 0, vi 0], vi r2181]) (ans := [.reg (nN 5 []), .reg (nN 11 []), .sub ⟨[(3, none), (4, none), (5, none), (6, none), (22, none), (23, none)], [none, none, none, none], []⟩ .ret (nspeculumref02_HeightAt_l0_0_e0 a0 a1 a2 r2181)]) (fr := true) (by kernel_rfl) (an (an (ti (ti (ti (ti (ti trivial))))) (an e2111 e2183)) (an (ti (ti (ti trivial))) (ti trivial))) (Wv.of_eq (eqWH_3 r2181))
 | inr r2182 =>
  dsimp only at h
  have e2184 := (an (ti trivial) (VRun.loop hph2179))
  have e2185 := (show (0:Int) ≤ 1 ∧ (1:Int) < ((2 : Nat) : Int) from ⟨by decide, by decide⟩)
  rcases ifs h with ⟨h2186, h⟩ | ⟨h2186, h⟩
  ·injection h with h; subst h
   exact fun_ok pm pn Go.Proofs.Try.func41 (r0 := VV.tu [VV.ag [vi 0, vi 0], vi 11]) (ans := [.reg (nN 5 []), .reg (nN 11 []), .sub ⟨[(3, none), (4, none), (5, none), (6, none), (22, none), (23, none)], [none, none, none, none], []⟩ (.exit 0) (nspeculumref02_HeightAt_l0_0_e1 a0 a1 a2 r2182), .reg (nN 4 []), .br true, .reg (nN 3 [])]) (fr := true) (by kernel_rfl) (an (an (ti (ti (ti (ti (ti trivial))))) (an (an e2111 e2184) (an (an e2185 (ti (ti (ti trivial)))) (an (decide_eq_true h2186) (an (ti (ti (ti trivial))) trivial))))) (an (ti (ti (ti trivial))) (ti trivial))) (Wv.of_eq eqWH_11)
  ·obtain ⟨r2187, h2188, h⟩ := bs h
   have e2189 := (an (VM.args (n_speculumref02_Way_Sub_ok k (⟨false⟩ : SWay) a2 a0.Z _ h2188) rfl eqWH_9 rfl) (an (ti trivial) (ti trivial)))
   have e2190 := (show (0:Int) ≤ 0 ∧ (0:Int) < ((2 : Nat) : Int) from ⟨by decide, by decide⟩)
   have e2191 := (show (0:Int) ≤ 1 ∧ (1:Int) < ((2 : Nat) : Int) from ⟨by decide, by decide⟩)
   obtain ⟨r2192, h2193, h⟩ := bs h
   have e2194 := (an (n_speculumref02_Way_Quo_ok k r2187.2 a1.e0 a1.e1 _ h2193) (an (ti trivial) (ti trivial)))
   obtain ⟨r2195, h2196, h⟩ := bs h
   have e2197 := (an (n_speculumref02_Way_Mul_ok k r2192.2 r2187.1 r2192.1 _ h2196) (an (ti trivial) (ti trivial)))
   obtain ⟨r2198, h2199, h⟩ := bs h
   have e2200 := (an (n_speculumref02_Way_Add_ok k r2195.2 a0.R r2195.1 _ h2199) (an (ti trivial) (ti trivial)))
   have e2201 := (ti (ti (ti (ti (ti (an e2189 (an e2190 (ti (an e2191 (ti (an e2194 (an e2197 (an e2200 (ti (ti trivial)))))))))))))))
   obtain ⟨r2202, h2203, h⟩ := bs h
   have e2204 := (nspeculumref02_fraction_ok k r2198.1 r2198.2 _ h2203)
   injection h with h; subst h
   exact fun_ok pm pn Go.Proofs.Try.func41 (r0 := VV.tu [VV.ag (c_SFrac r2202.1), vi r2202.2]) (ans := [.reg (nN 5 []), .reg (nN 11 []), .sub ⟨[(3, none), (4, none), (5, none), (6, none), (22, none), (23, none)], [none, none, none, none], []⟩ (.exit 0) (nspeculumref02_HeightAt_l0_0_e1 a0 a1 a2 r2182), .reg (nN 4 []), .br false, .reg (.n :: []), .reg (arWH_5 r2187 r2192 r2195 r2198), .reg (.n :: .n :: .call (VV.tu [VV.ag (c_SFrac r2202.1), vi r2202.2]) :: nN 4 [])]) (fr := true) (by kernel_rfl) (an (an (ti (ti (ti (ti (ti trivial))))) (an (an e2111 e2184) (an (an (an e2185 (ti (ti (ti trivial)))) (an (decide_eq_false h2186) trivial)) (an (ti trivial) (an e2201 (an (ti (ti (an e2204 (ti (ti (ti (ti trivial))))))) trivial)))))) (an (ti (ti (ti trivial))) (ti trivial))) (Wv.refl _)
def nspeculumbase_Floor (k : Nat) (a0 : Int) (a1 : Int) : Option Int :=
  if a1 ≠ 0 then (if (a0.tmod a1) < 0 then (some (w64 ((w64 (a0.tdiv a1)) - 1))) else (some (w64 (a0.tdiv a1)))) else none
theorem nspeculumbase_Floor_ok (k : Nat) (a0 : Int) (a1 : Int) (r : Int) (h : nspeculumbase_Floor k a0 a1 = some r) : VC Go.Proofs.Try.prog 75 [vi a0, vi a1] (vi r) := by
 unfold nspeculumbase_Floor at h
 obtain ⟨h2246, h⟩ := ifn h
 rcases ifs h with ⟨h2247, h⟩ | ⟨h2247, h⟩
 ·injection h with h; subst h
  exact fun_ok pm pn Go.Proofs.Try.func75 (r0 := vi (w64 ((w64 (a0.tdiv a1)) - 1))) (ans := [.reg (.n :: []), .reg (nN 4 []), .reg (nN 4 []), .br true, .reg (nN 3 []), .reg (.n :: .n :: [])]) (fr := true) (by kernel_rfl) (an (an (ti trivial) (an (ti (ti (an h2246 (ti trivial)))) (an (an (ti (ti (an h2246 (ti trivial)))) (an (decide_eq_true h2247) (ti (ti (ti trivial))))) (an (ti (ti trivial)) trivial)))) (ti trivial)) (Wv.refl _)
 ·injection h with h; subst h
  exact fun_ok pm pn Go.Proofs.Try.func75 (r0 := vi (w64 (a0.tdiv a1))) (ans := [.reg (.n :: []), .reg (nN 4 []), .reg (nN 4 []), .br false, .reg (.n :: .n :: [])]) (fr := true) (by kernel_rfl) (an (an (ti trivial) (an (ti (ti (an h2246 (ti trivial)))) (an (an (ti (ti (an h2246 (ti trivial)))) (an (decide_eq_false h2247) trivial)) (an (ti (ti trivial)) trivial)))) (ti trivial)) (Wv.refl _)
def nspeculumbase_Ceil (k : Nat) (a0 : Int) (a1 : Int) : Option Int :=
  (nspeculumbase_Floor k (w64 (0 - a0)) a1).bind fun r2256 => (some (w64 (0 - r2256)))
theorem nspeculumbase_Ceil_ok (k : Nat) (a0 : Int) (a1 : Int) (r : Int) (h : nspeculumbase_Ceil k a0 a1 = some r) : VC Go.Proofs.Try.prog 76 [vi a0, vi a1] (vi r) := by
 unfold nspeculumbase_Ceil at h
 obtain ⟨r2256, h2257, h⟩ := bs h
 have e2258 := (nspeculumbase_Floor_ok k (w64 (0 - a0)) a1 _ h2257)
 injection h with h; subst h
 exact fun_ok pm pn Go.Proofs.Try.func76 (r0 := vi (w64 (0 - r2256))) (ans := [.reg (.n :: []), .reg (nN 3 (.call (vi r2256) :: .n :: .n :: []))]) (fr := true) (by kernel_rfl) (an (an (ti trivial) (an (ti (ti (ti (an e2258 (ti (ti trivial)))))) trivial)) (ti trivial)) (Wv.refl _)
def arWH_6 (z0 : (List SFrac)) (z1 : Int) (z2 : Int) (z3 : Int) : List Ans := (nN 6 (.v (vi ((z0.getD z1.toNat default).Num)) :: nN 4 (.v (vi ((z0.getD z1.toNat default).Den)) :: .call (vi z2) :: nN 7 (.v (vi ((z0.getD z1.toNat default).Num)) :: nN 4 (.v (vi ((z0.getD z1.toNat default).Den)) :: .call (vi z3) :: nN 5 [])))))
def nspeculumref02_SpotOf_l0_0_h (a0 : (List SFrac)) (x4 : Int) : VS := ⟨mkA [(0, VV.tr (List.flatMap c_SFrac a0) a0.length), (2, VV.pt 0 0), (4, vi x4)], [some ⟨true, 1, [vi 0, vi 0]⟩], .nil⟩
def nspeculumref02_SpotOf_l0_0_e0 (a0 : (List SFrac)) (r : Int) : VS := ⟨mkA [(2, VV.pt 0 0), (3, vi r)], [some ⟨true, 1, [vi 0, vi 0]⟩], .nil⟩
def nspeculumref02_SpotOf_l0_0_e1 (a0 : (List SFrac)) (r : Unit) : VS := ⟨mkA [(0, VV.tr (List.flatMap c_SFrac a0) a0.length), (2, VV.pt 0 0)], [some ⟨true, 1, [vi 0, vi 0]⟩], .nil⟩
def nspeculumref02_SpotOf_l0_0 (k : Nat) (a0 : (List SFrac)) : Nat → Int → Option (Sum Int Unit)
  | 0, _ => none
  | fuel + 1, x4 => if x4 < (a0.length : Int) then (if 0 ≤ x4 ∧ x4 < (a0.length : Int) then ((nspeculumref02_CheckFrac k (a0.getD x4.toNat default)).bind fun r2326 => (if r2326 = 0 then (nspeculumref02_SpotOf_l0_0 k a0 fuel (w64 (x4 + 1))) else (some (.inl r2326)))) else none) else (some (.inr ()))
theorem nspeculumref02_SpotOf_l0_0_ok (k : Nat) (a0 : (List SFrac)) : ∀ (fuel : Nat) (x4 : Int) (r : Sum Int Unit), nspeculumref02_SpotOf_l0_0 k a0 fuel x4 = some r → (match r with | .inl r => VLoop none Go.Proofs.Try.prog (szF Go.Proofs.Try.f42) (bodyOf Go.Proofs.Try.f42 0) (nspeculumref02_SpotOf_l0_0_h a0 x4) .ret (nspeculumref02_SpotOf_l0_0_e0 a0 r) | .inr r => VLoop none Go.Proofs.Try.prog (szF Go.Proofs.Try.f42) (bodyOf Go.Proofs.Try.f42 0) (nspeculumref02_SpotOf_l0_0_h a0 x4) (.exit 0) (nspeculumref02_SpotOf_l0_0_e1 a0 r)) := by
 intro fuel
 induction fuel with
 | zero => intro x4 r h; rw [nspeculumref02_SpotOf_l0_0.eq_1] at h; cases h
 | succ fuel ih =>
  intro x4 r h
  rw [nspeculumref02_SpotOf_l0_0.eq_2] at h
  rcases ifs h with ⟨h2323, h⟩ | ⟨h2323, h⟩
  ·obtain ⟨h2324, h⟩ := ifn h
   have e2325 := (show loadL Go.Proofs.Try.prog 26 (x4.toNat * 2) (List.flatMap c_SFrac a0) = some (VV.ag (c_SFrac (a0.getD x4.toNat default))) from ld_whole ag26 c_SFrac 2 sz26 len_c_SFrac a0 default h2324 (by omega))
   obtain ⟨r2326, h2327, h⟩ := bs h
   have e2328 := (nspeculumref02_CheckFrac_ok k (a0.getD x4.toNat default) _ h2327)
   have e2329 := (ti (ti (an h2324 (an e2325 (an e2328 (ti trivial))))))
   rcases ifs h with ⟨h2330, h⟩ | ⟨h2330, h⟩
   ·have h2 := ih _ _ h
    obtain ⟨q, hv, hq⟩ := pkR (rd := none) (P := Go.Proofs.Try.prog) (fn := Go.Proofs.Try.f42) (k := 0) (s := (nspeculumref02_SpotOf_l0_0_h a0 x4)) (ans := [.reg (nN 4 []), .br true, .reg (nN 3 (.v (VV.ag (c_SFrac (a0.getD x4.toNat default))) :: .call (vi r2326) :: .n :: [])), .reg (.n :: .n :: []), .br false, .reg (nN 3 [])]) (c := ⟨[(0, none), (2, none), (4, none)], [none], []⟩) (e := .normal) (s1 := (nspeculumref02_SpotOf_l0_0_h a0 (w64 (x4 + 1)))) (an (an (an (ti (ti (ti (ti trivial)))) (an (decide_eq_true h2323) trivial)) (an (an e2329 (an (ti (ti trivial)) (an (not_f (decide_eq_true h2330)) trivial))) (ti (ti (ti trivial))))) (ti trivial)) (by kernel_rfl)
    cases r with
    | inl r => exact round_next pm pn hv hq h2
    | inr r =>
     exact round_next pm pn hv hq h2
   ·injection h with h; subst h
    exact round_stop (c := ⟨[(2, none), (3, none)], [none], []⟩) (s1 := (nspeculumref02_SpotOf_l0_0_e0 a0 r2326)) pm pn (ans := [.reg (nN 4 []), .br true, .reg (nN 3 (.v (VV.ag (c_SFrac (a0.getD x4.toNat default))) :: .call (vi r2326) :: .n :: [])), .reg (.n :: .n :: []), .br true, .reg (nN 4 [])]) (by kernel_rfl) (by intro e; cases e) (an (an (an (ti (ti (ti (ti trivial)))) (an (decide_eq_true h2323) trivial)) (an e2329 (an (ti (ti trivial)) (an (not_t (decide_eq_false h2330)) (an (ti (ti (ti (ti trivial)))) trivial))))) (ti trivial))
  ·injection h with h; subst h
   exact round_stop (c := ⟨[(0, none), (2, none)], [none], []⟩) (s1 := (nspeculumref02_SpotOf_l0_0_e1 a0 ())) pm pn (ans := [.reg (nN 4 []), .br false]) (by kernel_rfl) (by intro e; cases e) (an (an (ti (ti (ti (ti trivial)))) (an (decide_eq_false h2323) trivial)) (ti trivial))
def nspeculumref02_SpotOf_l1_0_h (a0 : (List SFrac)) (b1_0 : Int) (b1_1 : Int) (x7 : Int) : VS := ⟨mkA [(0, VV.tr (List.flatMap c_SFrac a0) a0.length), (2, VV.pt 0 0), (6, VV.pt 1 0), (7, vi x7)], [some ⟨true, 1, [vi 0, vi 0]⟩, some ⟨true, 1, [vi b1_0, vi b1_1]⟩], .nil⟩
def nspeculumref02_SpotOf_l1_0_e0 (a0 : (List SFrac)) (r : Int × Int) : VS := ⟨mkA [(2, VV.pt 0 0), (6, VV.pt 1 0)], [some ⟨true, 1, [vi 0, vi 0]⟩, some ⟨true, 1, [vi r.1, vi r.2]⟩], .nil⟩
def nspeculumref02_SpotOf_l1_0 (k : Nat) (a0 : (List SFrac)) : Nat → Int → Int → Int → Option (Int × Int)
  | 0, _, _, _ => none
  | fuel + 1, b1_0, b1_1, x7 => if x7 < (a0.length : Int) then (if 0 ≤ x7 ∧ x7 < (a0.length : Int) then ((nspeculumbase_Floor k ((a0.getD x7.toNat default).Num) ((a0.getD x7.toNat default).Den)).bind fun r2379 => ((nspeculumbase_Ceil k ((a0.getD x7.toNat default).Num) ((a0.getD x7.toNat default).Den)).bind fun r2384 => (nspeculumref02_SpotOf_l1_0 k a0 fuel (minI b1_0 r2379) (maxI b1_1 r2384) (w64 (x7 + 1))))) else none) else (some (b1_0, b1_1))
theorem nspeculumref02_SpotOf_l1_0_ok (k : Nat) (a0 : (List SFrac)) : ∀ (fuel : Nat) (b1_0 : Int) (b1_1 : Int) (x7 : Int) (r : Int × Int), nspeculumref02_SpotOf_l1_0 k a0 fuel b1_0 b1_1 x7 = some r → (VLoop none Go.Proofs.Try.prog (szF Go.Proofs.Try.f42) (bodyOf Go.Proofs.Try.f42 1) (nspeculumref02_SpotOf_l1_0_h a0 b1_0 b1_1 x7) (.exit 2) (nspeculumref02_SpotOf_l1_0_e0 a0 r)) := by
 intro fuel
 induction fuel with
 | zero => intro b1_0 b1_1 x7 r h; rw [nspeculumref02_SpotOf_l1_0.eq_1] at h; cases h
 | succ fuel ih =>
  intro b1_0 b1_1 x7 r h
  rw [nspeculumref02_SpotOf_l1_0.eq_2] at h
  rcases ifs h with ⟨h2375, h⟩ | ⟨h2375, h⟩
  ·obtain ⟨h2376, h⟩ := ifn h
   have e2377 := (show loadL Go.Proofs.Try.prog 3 (x7.toNat * 2 + 0) (List.flatMap c_SFrac a0) = some (vi ((a0.getD x7.toNat default).Num)) from (ld_flat ag3 c_SFrac 2 0 len_c_SFrac (by omega) a0 default h2376 (by omega)).trans rfl)
   have e2378 := (show loadL Go.Proofs.Try.prog 3 (x7.toNat * 2 + 1) (List.flatMap c_SFrac a0) = some (vi ((a0.getD x7.toNat default).Den)) from (ld_flat ag3 c_SFrac 2 1 len_c_SFrac (by omega) a0 default h2376 (by omega)).trans rfl)
   obtain ⟨r2379, h2380, h⟩ := bs h
   have e2381 := (nspeculumbase_Floor_ok k ((a0.getD x7.toNat default).Num) ((a0.getD x7.toNat default).Den) _ h2380)
   have e2382 := (show loadL Go.Proofs.Try.prog 3 (x7.toNat * 2 + 0) (List.flatMap c_SFrac a0) = some (vi ((a0.getD x7.toNat default).Num)) from (ld_flat ag3 c_SFrac 2 0 len_c_SFrac (by omega) a0 default h2376 (by omega)).trans rfl)
   have e2383 := (show loadL Go.Proofs.Try.prog 3 (x7.toNat * 2 + 1) (List.flatMap c_SFrac a0) = some (vi ((a0.getD x7.toNat default).Den)) from (ld_flat ag3 c_SFrac 2 1 len_c_SFrac (by omega) a0 default h2376 (by omega)).trans rfl)
   obtain ⟨r2384, h2385, h⟩ := bs h
   have e2386 := (nspeculumbase_Ceil_ok k ((a0.getD x7.toNat default).Num) ((a0.getD x7.toNat default).Den) _ h2385)
   have e2387 := (ti (ti (ti (ti (an h2376 (ti (an e2377 (ti (ti (an h2376 (ti (an e2378 (an e2381 (ti (ti (ti (ti (ti (an h2376 (ti (an e2382 (ti (ti (an h2376 (ti (an e2383 (an e2386 (ti (ti (ti (ti (ti trivial))))))))))))))))))))))))))))))))
   have h2 := ih _ _ _ _ h
   obtain ⟨q, hv, hq⟩ := pkR (rd := none) (P := Go.Proofs.Try.prog) (fn := Go.Proofs.Try.f42) (k := 1) (s := (nspeculumref02_SpotOf_l1_0_h a0 b1_0 b1_1 x7)) (ans := [.reg (nN 4 []), .br true, .reg (arWH_6 a0 x7 r2379 r2384), .reg (nN 3 [])]) (c := ⟨[(0, none), (2, none), (6, none), (7, none)], [none, none], []⟩) (e := .normal) (s1 := (nspeculumref02_SpotOf_l1_0_h a0 (minI b1_0 r2379) (maxI b1_1 r2384) (w64 (x7 + 1)))) (an (an (an (ti (ti (ti (ti trivial)))) (an (decide_eq_true h2375) trivial)) (an e2387 (ti (ti (ti trivial))))) (ti trivial)) (by kernel_rfl)
   exact round_next pm pn hv hq h2
  ·injection h with h; subst h
   exact round_stop (c := ⟨[(2, none), (6, none)], [none, none], []⟩) (s1 := (nspeculumref02_SpotOf_l1_0_e0 a0 (b1_0, b1_1))) pm pn (ans := [.reg (nN 4 []), .br false]) (by kernel_rfl) (by intro e; cases e) (an (an (ti (ti (ti (ti trivial)))) (an (decide_eq_false h2375) trivial)) (ti trivial))
def arWH_7 (z0 : (List SFrac)) (z1 : Int) (z2 : Int) : List Ans := (nN 3 (.v (vi ((z0.getD ((0 : Int)).toNat default).Num)) :: nN 3 (.v (vi ((z0.getD ((0 : Int)).toNat default).Den)) :: .call (vi z1) :: nN 3 (.v (vi ((z0.getD ((0 : Int)).toNat default).Num)) :: nN 3 (.v (vi ((z0.getD ((0 : Int)).toNat default).Den)) :: .call (vi z2) :: nN 3 [])))))
def nspeculumref02_SpotOf (k : Nat) (a0 : (List SFrac)) : Option (SRange × Int) :=
  if (a0.length : Int) = 0 then (some ((⟨0, 0⟩ : SRange), 10)) else (if 60 < (a0.length : Int) then (some ((⟨0, 0⟩ : SRange), 8)) else ((nspeculumref02_SpotOf_l0_0 k a0 k 0).bind fun r2332 => (match r2332 with | .inl r2333 => (some ((⟨0, 0⟩ : SRange), r2333)) | .inr r2334 => (if (0 : Int) ≤ 0 ∧ 0 < (a0.length : Int) then ((nspeculumbase_Floor k ((a0.getD ((0 : Int)).toNat default).Num) ((a0.getD ((0 : Int)).toNat default).Den)).bind fun r2340 => ((nspeculumbase_Ceil k ((a0.getD ((0 : Int)).toNat default).Num) ((a0.getD ((0 : Int)).toNat default).Den)).bind fun r2345 => ((nspeculumref02_SpotOf_l1_0 k a0 k r2340 r2345 1).bind fun r2389 => (some ((⟨r2389.1, r2389.2⟩ : SRange), 0))))) else none))))
theorem nspeculumref02_SpotOf_ok (k : Nat) (a0 : (List SFrac)) (r : (SRange × Int)) (h : nspeculumref02_SpotOf k a0 = some r) : VC Go.Proofs.Try.prog 42 [VV.tr (List.flatMap c_SFrac a0) a0.length] (VV.tu [VV.ag (c_SRange r.1), vi r.2]) := by
 unfold nspeculumref02_SpotOf at h
 rcases ifs h with ⟨h2305, h⟩ | ⟨h2305, h⟩
 ·injection h with h; subst h
  exact fun_ok pm pn Go.Proofs.Try.func42 (r0 := VV.tu [VV.ag [vi 0, vi 0], vi 10]) (ans := [.reg (.n :: .n :: []), .reg (nN 3 []), .br true, .reg (nN 3 [])]) (fr := true) (by kernel_rfl) (an (an (ti (ti trivial)) (an (ti (ti (ti trivial))) (an (decide_eq_true h2305) (an (ti (ti (ti trivial))) trivial)))) (an (ti (ti (ti trivial))) (ti trivial))) (Wv.of_eq eqWH_5)
 ·rcases ifs h with ⟨h2306, h⟩ | ⟨h2306, h⟩
  ·injection h with h; subst h
   exact fun_ok pm pn Go.Proofs.Try.func42 (r0 := VV.tu [VV.ag [vi 0, vi 0], vi 8]) (ans := [.reg (.n :: .n :: []), .reg (nN 3 []), .br false, .reg (nN 3 []), .br true, .reg (nN 3 [])]) (fr := true) (by kernel_rfl) (an (an (ti (ti trivial)) (an (an (ti (ti (ti trivial))) (an (decide_eq_false h2305) trivial)) (an (ti (ti (ti trivial))) (an (decide_eq_true h2306) (an (ti (ti (ti trivial))) trivial))))) (an (ti (ti (ti trivial))) (ti trivial))) (Wv.of_eq eqWH_6)
  ·obtain ⟨r2332, h2331, h⟩ := bs h
   have hph2331 := nspeculumref02_SpotOf_l0_0_ok k a0 _ _ _ h2331
   cases r2332 with
   | inl r2333 =>
    dsimp only at h
    have e2335 := (an (ti trivial) (VRun.loop hph2331))
    injection h with h; subst h
    exact fun_ok pm pn Go.Proofs.Try.func42 (r0 := VV.tu [VV.ag [vi 0, vi 0], vi r2333]) (ans := [.reg (.n :: .n :: []), .reg (nN 3 []), .br false, .reg (nN 3 []), .br false, .reg (.n :: []), .sub ⟨[(0, none), (2, none), (4, none)], [none], []⟩ .ret (nspeculumref02_SpotOf_l0_0_e0 a0 r2333)]) (fr := true) (by kernel_rfl) (an (an (ti (ti trivial)) (an (an (ti (ti (ti trivial))) (an (decide_eq_false h2305) trivial)) (an (an (ti (ti (ti trivial))) (an (decide_eq_false h2306) trivial)) (an (ti trivial) e2335)))) (an (ti (ti (ti trivial))) (ti trivial))) (Wv.of_eq (eqWH_8 r2333))
   | inr r2334 =>
    dsimp only at h
    have e2336 := (an (ti trivial) (VRun.loop hph2331))
    obtain ⟨h2337, h⟩ := ifn h
    have e2338 := (show loadL Go.Proofs.Try.prog 3 (((0 : Int)).toNat * 2 + 0) (List.flatMap c_SFrac a0) = some (vi ((a0.getD ((0 : Int)).toNat default).Num)) from (ld_flat ag3 c_SFrac 2 0 len_c_SFrac (by omega) a0 default h2337 (by omega)).trans rfl)
    have e2339 := (show loadL Go.Proofs.Try.prog 3 (((0 : Int)).toNat * 2 + 1) (List.flatMap c_SFrac a0) = some (vi ((a0.getD ((0 : Int)).toNat default).Den)) from (ld_flat ag3 c_SFrac 2 1 len_c_SFrac (by omega) a0 default h2337 (by omega)).trans rfl)
    obtain ⟨r2340, h2341, h⟩ := bs h
    have e2342 := (nspeculumbase_Floor_ok k ((a0.getD ((0 : Int)).toNat default).Num) ((a0.getD ((0 : Int)).toNat default).Den) _ h2341)
    have e2343 := (show loadL Go.Proofs.Try.prog 3 (((0 : Int)).toNat * 2 + 0) (List.flatMap c_SFrac a0) = some (vi ((a0.getD ((0 : Int)).toNat default).Num)) from (ld_flat ag3 c_SFrac 2 0 len_c_SFrac (by omega) a0 default h2337 (by omega)).trans rfl)
    have e2344 := (show loadL Go.Proofs.Try.prog 3 (((0 : Int)).toNat * 2 + 1) (List.flatMap c_SFrac a0) = some (vi ((a0.getD ((0 : Int)).toNat default).Den)) from (ld_flat ag3 c_SFrac 2 1 len_c_SFrac (by omega) a0 default h2337 (by omega)).trans rfl)
    obtain ⟨r2345, h2346, h⟩ := bs h
    have e2347 := (nspeculumbase_Ceil_ok k ((a0.getD ((0 : Int)).toNat default).Num) ((a0.getD ((0 : Int)).toNat default).Den) _ h2346)
    have e2348 := (ti (an h2337 (ti (an e2338 (ti (an h2337 (ti (an e2339 (an e2342 (ti (an h2337 (ti (an e2343 (ti (an h2337 (ti (an e2344 (an e2347 (ti (ti (ti trivial)))))))))))))))))))))
    obtain ⟨r2389, h2388, h⟩ := bs h
    have hph2388 := nspeculumref02_SpotOf_l1_0_ok k a0 _ _ _ _ _ h2388
    have e2390 := (an (ti trivial) (VRun.loop hph2388))
    injection h with h; subst h
    exact fun_ok pm pn Go.Proofs.Try.func42 (r0 := VV.tu [VV.ag [vi r2389.1, vi r2389.2], vi 0]) (ans := [.reg (.n :: .n :: []), .reg (nN 3 []), .br false, .reg (nN 3 []), .br false, .reg (.n :: []), .sub ⟨[(0, none), (2, none), (4, none)], [none], []⟩ (.exit 0) (nspeculumref02_SpotOf_l0_0_e1 a0 r2334), .reg (arWH_7 a0 r2340 r2345), .reg (.n :: []), .sub ⟨[(0, none), (2, none), (6, none), (7, none)], [none, none], []⟩ (.exit 2) (nspeculumref02_SpotOf_l1_0_e0 a0 r2389), .reg (nN 3 [])]) (fr := true) (by kernel_rfl) (an (an (ti (ti trivial)) (an (an (ti (ti (ti trivial))) (an (decide_eq_false h2305) trivial)) (an (an (ti (ti (ti trivial))) (an (decide_eq_false h2306) trivial)) (an (an (ti trivial) e2336) (an e2348 (an (an (ti trivial) e2390) (an (ti (ti (ti trivial))) trivial))))))) (an (ti (ti (ti trivial))) (ti trivial))) (Wv.of_eq (eqWH_7 r2389))
def arWH_8 (z0 : (List SFrac)) (z1 : (SRange × Int)) : List Ans := (.n :: .call (VV.fr (List.flatMap c_SFrac z0) z0.length) :: .call (VV.tu [VV.ag (c_SRange z1.1), vi z1.2]) :: nN 6 [])
def nspeculumlaw02_OpticsHeights (k : Nat) (a0 : SLine) (a1 : (List SFrac)) : Option Bool :=
  (nspeculumlaw02_awake k).bind fun r2403 => (if r2403 = true then (if 65 < (a1.length : Int) then (some true) else ((noptics_HeightAt k a0.Point a0.Toward a0.Z).bind fun r2408 => ((nspeculumbase_CopyFracs k a1).bind fun r2412 => ((noptics_SpotOf k r2412).bind fun r2415 => ((nspeculumref02_HeightAt k a0.Point a0.Toward a0.Z).bind fun r2418 => ((nspeculumref02_SpotOf k a1).bind fun r2422 => (if r2408.2 = r2418.2 then (if ((r2408.1.Num : Int) == r2418.1.Num && ((r2408.1.Den : Int) == r2418.1.Den && true)) = true then (if r2415.2 = r2422.2 then (some ((r2415.1.Lo : Int) == r2422.1.Lo && ((r2415.1.Hi : Int) == r2422.1.Hi && true))) else (some false)) else (some false)) else (some false)))))))) else (some false))
theorem nspeculumlaw02_OpticsHeights_ok (k : Nat) (a0 : SLine) (a1 : (List SFrac)) (r : Bool) (h : nspeculumlaw02_OpticsHeights k a0 a1 = some r) : VC Go.Proofs.Try.prog 9 [VV.ag (c_SLine a0), VV.tr (List.flatMap c_SFrac a1) a1.length] (vb r) := by
 unfold nspeculumlaw02_OpticsHeights at h
 obtain ⟨r2403, h2404, h⟩ := bs h
 have e2405 := (an (nspeculumlaw02_awake_ok k _ h2404) (ti trivial))
 rcases ifs h with ⟨h2406, h⟩ | ⟨h2406, h⟩
 ·rcases ifs h with ⟨h2407, h⟩ | ⟨h2407, h⟩
  ·injection h with h; subst h
   exact fun_ok pm pn Go.Proofs.Try.func9 (r0 := vb true) (ans := [.reg (.n :: .n :: []), .reg (.call (vb r2403) :: .n :: []), .br false, .reg (nN 3 []), .br true, .reg (.n :: [])]) (fr := true) (by kernel_rfl) (an (an (ti (ti trivial)) (an (an e2405 (an (not_f h2406) trivial)) (an (ti (ti (ti trivial))) (an (decide_eq_true h2407) (an (ti trivial) trivial))))) (ti trivial)) (Wv.refl _)
  ·obtain ⟨r2408, h2409, h⟩ := bs h
   have e2410 := (noptics_HeightAt_ok k a0.Point a0.Toward a0.Z _ h2409)
   have e2411 := (ti (ti (ti (ti (ti (ti (an e2410 (ti (ti (ti (ti (ti (ti trivial)))))))))))))
   obtain ⟨r2412, h2413, h⟩ := bs h
   have e2414 := (show VC Go.Proofs.Try.prog 40 [VV.tr (List.flatMap c_SFrac a1) a1.length] (VV.fr (List.flatMap c_SFrac r2412) r2412.length) from (VC.weak (nspeculumbase_CopyFracs_ok k a1 _ h2413) (Wv.fw rfl rfl)))
   obtain ⟨r2415, h2416, h⟩ := bs h
   have e2417 := (ti (an e2414 (an (noptics_SpotOf_ok k r2412 _ h2416) (ti (ti (ti (ti (ti (ti trivial)))))))))
   obtain ⟨r2418, h2419, h⟩ := bs h
   have e2420 := (nspeculumref02_HeightAt_ok k a0.Point a0.Toward a0.Z _ h2419)
   have e2421 := (ti (ti (ti (ti (ti (ti (an e2420 (ti (ti (ti (ti (ti (ti trivial)))))))))))))
   obtain ⟨r2422, h2423, h⟩ := bs h
   have e2424 := (ti (an (nspeculumref02_SpotOf_ok k a1 _ h2423) (ti (ti (ti (ti (ti (ti trivial))))))))
   rcases ifs h with ⟨h2425, h⟩ | ⟨h2425, h⟩
   ·have e2426 := (an (decide_eq_true h2425) (show List.map kdV [Value.int .i64 r2408.1.Num, Value.int .i64 r2408.1.Den] = List.map kdV [Value.int .i64 r2418.1.Num, Value.int .i64 r2418.1.Den] ∧ EqOK Go.Proofs.Try.prog 26 (List.map kdV [Value.int .i64 r2418.1.Num, Value.int .i64 r2418.1.Den]) from ⟨rfl, eqok26⟩))
    rcases ifs h with ⟨h2427, h⟩ | ⟨h2427, h⟩
    ·rcases ifs h with ⟨h2428, h⟩ | ⟨h2428, h⟩
     ·have e2429 := (an (decide_eq_true h2428) (show List.map kdV [Value.int .i64 r2415.1.Lo, Value.int .i64 r2415.1.Hi] = List.map kdV [Value.int .i64 r2422.1.Lo, Value.int .i64 r2422.1.Hi] ∧ EqOK Go.Proofs.Try.prog 52 (List.map kdV [Value.int .i64 r2422.1.Lo, Value.int .i64 r2422.1.Hi]) from ⟨rfl, eqok52⟩))
      have e2430 := (ti (ti (ti (ti (an (an (decide_eq_true h2425) trivial) (an (an (decide_eq_true h2425) trivial) (an e2426 (an (decide_eq_true h2425) (ti (an (an h2427 trivial) (an (an h2427 trivial) (an (an h2427 trivial) (an h2427 (ti (an (an (decide_eq_true h2428) trivial) (an (an (decide_eq_true h2428) trivial) (an e2429 (an (decide_eq_true h2428) (ti trivial)))))))))))))))))))
      injection h with h; subst h
      exact fun_ok pm pn Go.Proofs.Try.func9 (r0 := vb ((r2415.1.Lo : Int) == r2422.1.Lo && ((r2415.1.Hi : Int) == r2422.1.Hi && true))) (ans := [.reg (.n :: .n :: []), .reg (.call (vb r2403) :: .n :: []), .br false, .reg (nN 3 []), .br false, .reg (nN 6 (.call (VV.tu [VV.ag (c_SFrac r2408.1), vi r2408.2]) :: nN 6 [])), .reg (arWH_8 r2412 r2415), .reg (nN 6 (.call (VV.tu [VV.ag (c_SFrac r2418.1), vi r2418.2]) :: nN 6 [])), .reg (.n :: .call (VV.tu [VV.ag (c_SRange r2422.1), vi r2422.2]) :: nN 6 []), .reg (nN 7 (.b true :: nN 4 (.b true :: nN 4 (.b true :: .n :: []))))]) (fr := true) (by kernel_rfl) (an (an (ti (ti trivial)) (an (an e2405 (an (not_f h2406) trivial)) (an (an (ti (ti (ti trivial))) (an (decide_eq_false h2407) trivial)) (an e2411 (an e2417 (an e2421 (an e2424 (an e2430 trivial)))))))) (ti trivial)) (Wv.refl _)
     ·have e2431 := (ti (ti (ti (ti (an (an (decide_eq_true h2425) trivial) (an (an (decide_eq_true h2425) trivial) (an e2426 (an (decide_eq_true h2425) (ti (an (an h2427 trivial) (an (an h2427 trivial) (an (an h2427 trivial) (an h2427 (ti (an (decide_eq_false h2428) (an (decide_eq_false h2428) (an (decide_eq_false h2428) (an (decide_eq_false h2428) (ti trivial)))))))))))))))))))
      injection h with h; subst h
      exact fun_ok pm pn Go.Proofs.Try.func9 (r0 := vb false) (ans := [.reg (.n :: .n :: []), .reg (.call (vb r2403) :: .n :: []), .br false, .reg (nN 3 []), .br false, .reg (nN 6 (.call (VV.tu [VV.ag (c_SFrac r2408.1), vi r2408.2]) :: nN 6 [])), .reg (arWH_8 r2412 r2415), .reg (nN 6 (.call (VV.tu [VV.ag (c_SFrac r2418.1), vi r2418.2]) :: nN 6 [])), .reg (.n :: .call (VV.tu [VV.ag (c_SRange r2422.1), vi r2422.2]) :: nN 6 []), .reg (nN 7 (.b true :: nN 4 (.b true :: .n :: nS 3 (.b false :: .n :: []))))]) (fr := true) (by kernel_rfl) (an (an (ti (ti trivial)) (an (an e2405 (an (not_f h2406) trivial)) (an (an (ti (ti (ti trivial))) (an (decide_eq_false h2407) trivial)) (an e2411 (an e2417 (an e2421 (an e2424 (an e2431 trivial)))))))) (ti trivial)) (Wv.refl _)
    ·have e2432 := (ti (ti (ti (ti (an (an (decide_eq_true h2425) trivial) (an (an (decide_eq_true h2425) trivial) (an e2426 (an (decide_eq_true h2425) (ti (an (bool_f h2427) (an (bool_f h2427) (an (bool_f h2427) (an (bool_f h2427) (ti (an rf (an rf (an rf (an rf (ti trivial)))))))))))))))))))
     injection h with h; subst h
     exact fun_ok pm pn Go.Proofs.Try.func9 (r0 := vb false) (ans := [.reg (.n :: .n :: []), .reg (.call (vb r2403) :: .n :: []), .br false, .reg (nN 3 []), .br false, .reg (nN 6 (.call (VV.tu [VV.ag (c_SFrac r2408.1), vi r2408.2]) :: nN 6 [])), .reg (arWH_8 r2412 r2415), .reg (nN 6 (.call (VV.tu [VV.ag (c_SFrac r2418.1), vi r2418.2]) :: nN 6 [])), .reg (.n :: .call (VV.tu [VV.ag (c_SRange r2422.1), vi r2422.2]) :: nN 6 []), .reg (nN 7 (.b true :: .n :: nS 3 (.b false :: .n :: nS 3 (.b false :: .n :: []))))]) (fr := true) (by kernel_rfl) (an (an (ti (ti trivial)) (an (an e2405 (an (not_f h2406) trivial)) (an (an (ti (ti (ti trivial))) (an (decide_eq_false h2407) trivial)) (an e2411 (an e2417 (an e2421 (an e2424 (an e2432 trivial)))))))) (ti trivial)) (Wv.refl _)
   ·have e2433 := (ti (ti (ti (ti (an (decide_eq_false h2425) (an (decide_eq_false h2425) (an (decide_eq_false h2425) (an (decide_eq_false h2425) (ti (an rf (an rf (an rf (an rf (ti (an rf (an rf (an rf (an rf (ti trivial)))))))))))))))))))
    injection h with h; subst h
    exact fun_ok pm pn Go.Proofs.Try.func9 (r0 := vb false) (ans := [.reg (.n :: .n :: []), .reg (.call (vb r2403) :: .n :: []), .br false, .reg (nN 3 []), .br false, .reg (nN 6 (.call (VV.tu [VV.ag (c_SFrac r2408.1), vi r2408.2]) :: nN 6 [])), .reg (arWH_8 r2412 r2415), .reg (nN 6 (.call (VV.tu [VV.ag (c_SFrac r2418.1), vi r2418.2]) :: nN 6 [])), .reg (.n :: .call (VV.tu [VV.ag (c_SRange r2422.1), vi r2422.2]) :: nN 6 []), .reg (nN 4 (nS 3 (.b false :: .n :: nS 3 (.b false :: .n :: nS 3 (.b false :: .n :: [])))))]) (fr := true) (by kernel_rfl) (an (an (ti (ti trivial)) (an (an e2405 (an (not_f h2406) trivial)) (an (an (ti (ti (ti trivial))) (an (decide_eq_false h2407) trivial)) (an e2411 (an e2417 (an e2421 (an e2424 (an e2433 trivial)))))))) (ti trivial)) (Wv.refl _)
 ·injection h with h; subst h
  exact fun_ok pm pn Go.Proofs.Try.func9 (r0 := vb false) (ans := [.reg (.n :: .n :: []), .reg (.call (vb r2403) :: .n :: []), .br true, .reg (.n :: [])]) (fr := true) (by kernel_rfl) (an (an (ti (ti trivial)) (an e2405 (an (not_t (bool_f h2406)) (an (ti trivial) trivial)))) (ti trivial)) (Wv.refl _)
end Go.Proofs.Ytkffimkedibmnaa.Vg

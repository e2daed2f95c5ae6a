import Derived.Test.YtmjepoalhmdfjaaE1
namespace Go.Proofs.Ytmjepoalhmdfjaa.Vg
set_option maxRecDepth 100000
set_option maxHeartbeats 4000000
set_option linter.unusedVariables false
set_option linter.unusedSimpArgs false
open Go Go.Proofs.Ytmjepoalhmdfjaa.Ev Go.Proofs.Ytmjepoalhmdfjaa.Vv
open List (flatMap length_cons length_nil length_map length_append map_cons map_nil length_replicate)
theorem eqok26 : EqOK Try.prog 26 [some (.i .i64), some (.i .i64)] := eqOK_of (by kernel_rfl) (by kernel_rfl) (eqT_struct Try.underlying26 (by kernel_rfl) (by kernel_rfl) (by kernel_rfl) (.cons (by decide +kernel) rfl (eqT_int Try.underlying3 (by kernel_rfl) (by kernel_rfl)) (.cons (by decide +kernel) rfl (eqT_int Try.underlying3 (by kernel_rfl) (by kernel_rfl)) .nil)))
theorem eqok29 : EqOK Try.prog 29 [some (.i .i64), some (.i .i64), some (.i .i64), some (.i .i64), some (.i .i64), some (.i .i64)] := eqOK_of (by kernel_rfl) (by kernel_rfl) (eqT_struct Try.underlying29 (by kernel_rfl) (by kernel_rfl) (by kernel_rfl) (.cons (by decide +kernel) rfl (eqT_struct Try.underlying26 (by kernel_rfl) (by kernel_rfl) (by kernel_rfl) (.cons (by decide +kernel) rfl (eqT_int Try.underlying3 (by kernel_rfl) (by kernel_rfl)) (.cons (by decide +kernel) rfl (eqT_int Try.underlying3 (by kernel_rfl) (by kernel_rfl)) .nil))) (.cons (by decide +kernel) rfl (eqT_struct Try.underlying26 (by kernel_rfl) (by kernel_rfl) (by kernel_rfl) (.cons (by decide +kernel) rfl (eqT_int Try.underlying3 (by kernel_rfl) (by kernel_rfl)) (.cons (by decide +kernel) rfl (eqT_int Try.underlying3 (by kernel_rfl) (by kernel_rfl)) .nil))) (.cons (by decide +kernel) rfl (eqT_array (len := 2) Try.underlying27 (by kernel_rfl) (by kernel_rfl) (eqT_int Try.underlying3 (by kernel_rfl) (by kernel_rfl))) .nil))))
def nawake (k : Nat) : Option Bool := some true
theorem nawake_ok (k : Nat) (r : Bool) (h : nawake k = some r) : VC Try.prog 7 [] (vb r) := by
 injection h with h; subst h
 exact vc_awake
def arE3_0 (z0 : SRemovalMap) (z1 : Int) : List Ans := (nN 5 (.v (vi (z0.Weights.getD z1.toNat 0)) :: nN 6 (.v (vi (z0.Weights.getD z1.toNat 0)) :: nN 4 (.v (vi (z0.Heights.getD z1.toNat 0)) :: nN 4 []))))
def nspeculumref06_less2 (k : Nat) (a0 : SFrac) (a1 : SFrac) : Option Bool :=
 (nspeculumbase_Floor k a0.Num a0.Den).bind fun r1867 => ((nspeculumbase_Floor k a1.Num a1.Den).bind fun r1870 => (if r1867 = r1870 then (some (decide ((w64 ((w64 (a0.Num - (w64 (r1867 * a0.Den)))) * a1.Den)) < (w64 ((w64 (a1.Num - (w64 (r1870 * a1.Den)))) * a0.Den))))) else (some (decide (r1867 < r1870)))))
theorem nspeculumref06_less2_ok (k : Nat) (a0 : SFrac) (a1 : SFrac) (r : Bool) (h : nspeculumref06_less2 k a0 a1 = some r) : VC Try.prog 46 [VV.ag (c_SFrac a0), VV.ag (c_SFrac a1)] (vb r) := by
 unfold nspeculumref06_less2 at h
 obtain ⟨r1867, h1868, h⟩ := bs h
 have e1869 := (nspeculumbase_Floor_ok k a0.Num a0.Den _ h1868)
 obtain ⟨r1870, h1871, h⟩ := bs h
 have e1872 := (nspeculumbase_Floor_ok k a1.Num a1.Den _ h1871)
 have e1873 := (ti (ti (ti (ti (an e1869 (ti (ti (ti (ti (an e1872 (ti (ti trivial))))))))))))
 rcases ifs h with ⟨h1874, h⟩ | ⟨h1874, h⟩
 ·have e1875 := (ti (ti (ti (ti (ti (ti (ti (ti (ti (ti (ti (ti (ti (ti (ti (ti (ti (ti (ti (ti (ti (ti trivial))))))))))))))))))))))
  injection h with h; subst h
  exact fun_ok pm pn Try.func46 (r0 := vb (decide ((w64 ((w64 (a0.Num - (w64 (r1867 * a0.Den)))) * a1.Den)) < (w64 ((w64 (a1.Num - (w64 (r1870 * a1.Den)))) * a0.Den))))) (ans := [.reg (nN 3 []), .reg (nN 4 (.call (vi r1867) :: nN 4 (.call (vi r1870) :: .n :: .n :: []))), .reg (nN 3 []), .br false, .reg (nN 22 [])]) (fr := true) (by kernel_rfl) (an (an (ti (ti (ti trivial))) (an e1873 (an (an (ti (ti (ti trivial))) (an (not_f (decide_eq_true h1874)) trivial)) (an e1875 trivial)))) (ti trivial)) (Wv.refl _)
 ·injection h with h; subst h
  exact fun_ok pm pn Try.func46 (r0 := vb (decide (r1867 < r1870))) (ans := [.reg (nN 3 []), .reg (nN 4 (.call (vi r1867) :: nN 4 (.call (vi r1870) :: .n :: .n :: []))), .reg (nN 3 []), .br true, .reg (nN 4 [])]) (fr := true) (by kernel_rfl) (an (an (ti (ti (ti trivial))) (an e1873 (an (ti (ti (ti trivial))) (an (not_t (decide_eq_false h1874)) (an (ti (ti (ti (ti trivial)))) trivial))))) (ti trivial)) (Wv.refl _)
theorem eqE3_1 (z0 : SFrac) (z1 : Int) (z2 : Int) : [VV.ag (c_SFrac z0), VV.ag (c_SFrac (⟨z1, z2⟩ : SFrac))] = [VV.ag (c_SFrac z0), VV.ag [vi z1, vi z2]] := by first | rfl | (simp only [unfr_vi, map_cons, map_nil, un_i, unfr_c_SFrac]; done) | (simp only [unfr_vi, map_cons, map_nil, un_i, unfr_c_SFrac]; rfl) | (simp only [unfr_vi, map_cons, map_nil, un_i, unfr_c_SFrac, c_SFrac, length_cons, length_nil, length_append]; done)
theorem eqE3_2 (z0 : SRemovalMap) (z1 : Int) (z2 : Int) (z3 : Int) : [VV.ag (c_SFrac (⟨(z0.Heights.getD z1.toNat 0), 1⟩ : SFrac)), VV.ag (c_SFrac (⟨z2, z3⟩ : SFrac))] = [VV.ag [vi (z0.Heights.getD z1.toNat 0), vi 1], VV.ag [vi z2, vi z3]] := by first | rfl | (simp only [unfr_vi, map_cons, map_nil, un_i, unfr_c_SFrac]; done) | (simp only [unfr_vi, map_cons, map_nil, un_i, unfr_c_SFrac]; rfl) | (simp only [unfr_vi, map_cons, map_nil, un_i, unfr_c_SFrac, c_SFrac, length_cons, length_nil, length_append]; done)
def arE3_6 (z0 : SRemovalMap) (z1 : Int) (z2 : Int) : List Ans := (nN 4 (.v (vi (z0.Q.getD z1.toNat 0)) :: nN 11 (.v (vi (z0.Q.getD z2.toNat 0)) :: nN 6 (.b false :: []))))
def arE3_7 (z0 : SRemovalMap) (z1 : Int) (z2 : Int) : List Ans := (nN 4 (.v (vi (z0.Q.getD z1.toNat 0)) :: nN 4 (.v (vi (z0.Q.getD z2.toNat 0)) :: .n :: [])))
def arE3_8 (z0 : SRemovalMap) (z1 : Int) (z2 : Int) : List Ans := (nN 4 (.v (vi (z0.Heights.getD z1.toNat 0)) :: nN 4 (.v (vi (z0.Heights.getD z2.toNat 0)) :: .n :: [])))
def arE3_9 (z0 : SRemovalMap) (z1 : Int) (z2 : Int) : List Ans := (nN 4 (.v (vi (z0.Q.getD z1.toNat 0)) :: nN 4 (.v (vi (z0.Q.getD z2.toNat 0)) :: nN 5 (.v (vi (z0.Heights.getD z1.toNat 0)) :: nN 4 (.v (vi (z0.Heights.getD z2.toNat 0)) :: nN 3 [])))))
def arE3_10 (z0 : SRemovalMap) (z1 : Int) (z2 : SFrac) : List Ans := (nN 4 (.v (vi (z0.Heights.getD z1.toNat 0)) :: nN 12 (.v (vi (z0.Q.getD z1.toNat 0)) :: nN 10 (.call (VV.ag (c_SFrac z2)) :: .n :: []))))
def nspeculumref06_Least_l0_0_h (a0 : SRemovalMap) (r2247 : SFrac) (x4 : Int) (x5 : Int) (x6 : Int) : VS := ⟨mkA [(1, VV.pt 0 0), (2, VV.pt 1 0), (3, VV.pt 2 0), (4, vi x4), (5, vi x5), (6, vi x6)], [some ⟨true, 1, c_SRemovalMap a0⟩, some ⟨true, 1, [vi 0, vi 0]⟩, some ⟨true, 1, c_SFrac r2247⟩], .nil⟩
def nspeculumref06_Least_l0_0_e0 (a0 : SRemovalMap) (r2247 : SFrac) (r : Int × Int) : VS := ⟨mkA [(1, VV.pt 0 0), (2, VV.pt 1 0), (3, VV.pt 2 0), (4, vi r.1), (5, vi r.2)], [some ⟨true, 1, c_SRemovalMap a0⟩, some ⟨true, 1, [vi 0, vi 0]⟩, some ⟨true, 1, c_SFrac r2247⟩], .nil⟩
def nspeculumref06_Least_l0_0 (k : Nat) (a0 : SRemovalMap) (r2247 : SFrac) : Nat -> Int -> Int -> Int -> Option (Int × Int)
 | 0, _, _, _ => none
 | fuel + 1, x4, x5, x6 => if x6 < (a0.Q.length : Int) then (if 0 <= x6 /\ x6 < (a0.Weights.length : Int) then (if 0 <= x6 /\ x6 < (a0.Heights.length : Int) then (nspeculumref06_Least_l0_0 k a0 r2247 fuel (w64 (x4 + (a0.Weights.getD x6.toNat 0))) (w64 (x5 + (w64 ((a0.Weights.getD x6.toNat 0) * (a0.Heights.getD x6.toNat 0))))) (w64 (x6 + 1))) else none) else none) else (some (x4, x5))
theorem nspeculumref06_Least_l0_0_ok (k : Nat) (a0 : SRemovalMap) (r2247 : SFrac) : ∀ (fuel : Nat) (x4 : Int) (x5 : Int) (x6 : Int) (r : Int × Int), nspeculumref06_Least_l0_0 k a0 r2247 fuel x4 x5 x6 = some r -> (VLoop none Try.prog (szF Try.f19) (bodyOf Try.f19 0) (nspeculumref06_Least_l0_0_h a0 r2247 x4 x5 x6) (.exit 0) (nspeculumref06_Least_l0_0_e0 a0 r2247 r)) := by
 intro fuel
 induction fuel with
 | zero => intro x4 x5 x6 r h; rw [nspeculumref06_Least_l0_0.eq_1] at h; cases h
 | succ fuel ih =>
  intro x4 x5 x6 r h
  rw [nspeculumref06_Least_l0_0.eq_2] at h
  rcases ifs h with ⟨h2264, h⟩ | ⟨h2264, h⟩
  ·obtain ⟨h2265, h⟩ := ifn h
   have e2266 := (show loadL Try.prog 3 (x6.toNat * 1) (List.map vi a0.Weights) = some (vi (a0.Weights.getD x6.toNat 0)) from ld_map ag3 vi a0.Weights 0 h2265 (by omega))
   have e2267 := (show loadL Try.prog 3 (x6.toNat * 1) (List.map vi a0.Weights) = some (vi (a0.Weights.getD x6.toNat 0)) from ld_map ag3 vi a0.Weights 0 h2265 (by omega))
   obtain ⟨h2268, h⟩ := ifn h
   have e2269 := (show loadL Try.prog 3 (x6.toNat * 1) (List.map vi a0.Heights) = some (vi (a0.Heights.getD x6.toNat 0)) from ld_map ag3 vi a0.Heights 0 h2268 (by omega))
   have e2270 := (ti (ti (ti (ti (an h2265 (an e2266 (ti (ti (ti (ti (ti (an h2265 (an e2267 (ti (ti (ti (an h2268 (an e2269 (ti (ti (ti (ti trivial))))))))))))))))))))))
   have h2 := ih _ _ _ _ h
   obtain ⟨q, hv, hq⟩ := pkR (rd := none) (P := Try.prog) (fn := Try.f19) (k := 0) (s := (nspeculumref06_Least_l0_0_h a0 r2247 x4 x5 x6)) (ans := [.reg (nN 5 []), .br true, .reg (arE3_0 a0 x6), .reg (nN 3 [])]) (c := ⟨[(1, none), (2, none), (3, none), (4, none), (5, none), (6, none)], [none, none, none], []⟩) (e := .normal) (s1 := (nspeculumref06_Least_l0_0_h a0 r2247 (w64 (x4 + (a0.Weights.getD x6.toNat 0))) (w64 (x5 + (w64 ((a0.Weights.getD x6.toNat 0) * (a0.Heights.getD x6.toNat 0))))) (w64 (x6 + 1)))) (an (an (an (ti (ti (ti (ti (ti trivial))))) (an (decide_eq_true h2264) trivial)) (an e2270 (ti (ti (ti trivial))))) (ti trivial)) (by kernel_rfl)
   exact round_next pm pn hv hq h2
  ·injection h with h; subst h
   exact round_stop (c := ⟨[(1, none), (2, none), (3, none), (4, none), (5, none)], [none, none, none], []⟩) (s1 := (nspeculumref06_Least_l0_0_e0 a0 r2247 (x4, x5))) pm pn (ans := [.reg (nN 5 []), .br false]) (by kernel_rfl) (by intro e; cases e) (an (an (ti (ti (ti (ti (ti trivial))))) (an (decide_eq_false h2264) trivial)) (ti trivial))
def nspeculumref06_Least_l2_0_h (a0 : SRemovalMap) (r2247 : SFrac) (r2272 : Int × Int) (x8 : Int) (b3_0z : Int) (b3_1z : Int) (x9 : Int) : VS := ⟨mkA [(1, VV.pt 0 0), (2, VV.pt 1 0), (3, VV.pt 2 0), (4, vi r2272.1), (5, vi r2272.2), (7, VV.pt 3 0), (8, vi x8), (9, vi x9)], [some ⟨true, 1, c_SRemovalMap a0⟩, some ⟨true, 1, [vi 0, vi 0]⟩, some ⟨true, 1, c_SFrac r2247⟩, some ⟨true, 1, [vi b3_0z, vi b3_1z]⟩], .nil⟩
def nspeculumref06_Least_l2_0_e0 (a0 : SRemovalMap) (r2247 : SFrac) (r2272 : Int × Int) (x8 : Int) (r : Int × Int) : VS := ⟨mkA [(1, VV.pt 0 0), (2, VV.pt 1 0), (3, VV.pt 2 0), (4, vi r2272.1), (5, vi r2272.2), (7, VV.pt 3 0), (8, vi x8)], [some ⟨true, 1, c_SRemovalMap a0⟩, some ⟨true, 1, [vi 0, vi 0]⟩, some ⟨true, 1, c_SFrac r2247⟩, some ⟨true, 1, [vi r.1, vi r.2]⟩], .nil⟩
def nspeculumref06_Least_l2_0 (k : Nat) (a0 : SRemovalMap) (r2247 : SFrac) (r2272 : Int × Int) (x8 : Int) : Nat -> Int -> Int -> Int -> Option (Int × Int)
 | 0, _, _, _ => none
 | fuel + 1, b3_0z, b3_1z, x9 => if x9 < (a0.Q.length : Int) then (if 0 <= x8 /\ x8 < (a0.Q.length : Int) then (if r2247.Num < (w64 ((a0.Q.getD x8.toNat 0) * r2247.Den)) then (nspeculumref06_Least_l2_0 k a0 r2247 r2272 x8 fuel b3_0z b3_1z (w64 (x9 + 1))) else (if 0 <= x9 /\ x9 < (a0.Q.length : Int) then (if (w64 ((a0.Q.getD x9.toNat 0) * r2247.Den)) < r2247.Num then (nspeculumref06_Least_l2_0 k a0 r2247 r2272 x8 fuel b3_0z b3_1z (w64 (x9 + 1))) else (if 0 <= x8 /\ x8 < (a0.Heights.length : Int) then (if (a0.Q.getD x8.toNat 0) = (a0.Q.getD x9.toNat 0) then (if 0 <= x9 /\ x9 < (a0.Heights.length : Int) then (if (a0.Heights.getD x9.toNat 0) < (a0.Heights.getD x8.toNat 0) then (nspeculumref06_Least_l2_0 k a0 r2247 r2272 x8 fuel b3_0z b3_1z (w64 (x9 + 1))) else (if b3_1z = 0 then (nspeculumref06_Least_l2_0 k a0 r2247 r2272 x8 fuel (a0.Heights.getD x8.toNat 0) 1 (w64 (x9 + 1))) else ((nspeculumref06_less2 k (⟨(a0.Heights.getD x8.toNat 0), 1⟩ : SFrac) (⟨b3_0z, b3_1z⟩ : SFrac)).bind fun r2669 => (if r2669 = true then (nspeculumref06_Least_l2_0 k a0 r2247 r2272 x8 fuel (a0.Heights.getD x8.toNat 0) 1 (w64 (x9 + 1))) else (nspeculumref06_Least_l2_0 k a0 r2247 r2272 x8 fuel b3_0z b3_1z (w64 (x9 + 1))))))) else none) else (if 0 <= x9 /\ x9 < (a0.Heights.length : Int) then ((nspeculumbase_Lowest k (w64 ((w64 ((w64 ((a0.Heights.getD x8.toNat 0) * (w64 ((a0.Q.getD x9.toNat 0) - (a0.Q.getD x8.toNat 0))))) * r2247.Den)) + (w64 ((w64 ((a0.Heights.getD x9.toNat 0) - (a0.Heights.getD x8.toNat 0))) * (w64 (r2247.Num - (w64 ((a0.Q.getD x8.toNat 0) * r2247.Den)))))))) (w64 ((w64 ((a0.Q.getD x9.toNat 0) - (a0.Q.getD x8.toNat 0))) * r2247.Den))).bind fun r2682 => (if b3_1z = 0 then (nspeculumref06_Least_l2_0 k a0 r2247 r2272 x8 fuel r2682.Num r2682.Den (w64 (x9 + 1))) else ((nspeculumref06_less2 k r2682 (⟨b3_0z, b3_1z⟩ : SFrac)).bind fun r2688 => (if r2688 = true then (nspeculumref06_Least_l2_0 k a0 r2247 r2272 x8 fuel r2682.Num r2682.Den (w64 (x9 + 1))) else (nspeculumref06_Least_l2_0 k a0 r2247 r2272 x8 fuel b3_0z b3_1z (w64 (x9 + 1))))))) else none)) else none)) else none)) else none) else (some (b3_0z, b3_1z))
theorem nspeculumref06_Least_l2_0_ok (k : Nat) (a0 : SRemovalMap) (r2247 : SFrac) (r2272 : Int × Int) (x8 : Int) : ∀ (fuel : Nat) (b3_0z : Int) (b3_1z : Int) (x9 : Int) (r : Int × Int), nspeculumref06_Least_l2_0 k a0 r2247 r2272 x8 fuel b3_0z b3_1z x9 = some r -> (VLoop none Try.prog (szF Try.f19) (bodyOf Try.f19 2) (nspeculumref06_Least_l2_0_h a0 r2247 r2272 x8 b3_0z b3_1z x9) (.exit 4) (nspeculumref06_Least_l2_0_e0 a0 r2247 r2272 x8 r)) := by
 intro fuel
 induction fuel with
 | zero => intro b3_0z b3_1z x9 r h; rw [nspeculumref06_Least_l2_0.eq_1] at h; cases h
 | succ fuel ih =>
  intro b3_0z b3_1z x9 r h
  rw [nspeculumref06_Least_l2_0.eq_2] at h
  rcases ifs h with ⟨h2646, h⟩ | ⟨h2646, h⟩
  ·obtain ⟨h2647, h⟩ := ifn h
   have e2648 := (show loadL Try.prog 3 (x8.toNat * 1) (List.map vi a0.Q) = some (vi (a0.Q.getD x8.toNat 0)) from ld_map ag3 vi a0.Q 0 h2647 (by omega))
   rcases ifs h with ⟨h2649, h⟩ | ⟨h2649, h⟩
   ·have e2650 := (ti (ti (ti (an h2647 (an e2648 (ti (ti (ti (ti (ti (ti (ti (an (decide_eq_true h2649) (an (decide_eq_true h2649) (an (decide_eq_true h2649) (an (decide_eq_true h2649) (an (decide_eq_true h2649) (an (decide_eq_true h2649) (an (decide_eq_true h2649) (an (decide_eq_true h2649) (an (decide_eq_true h2649) (an (decide_eq_true h2649) (an (decide_eq_true h2649) (an (decide_eq_true h2649) trivial))))))))))))))))))))))))
    have h2 := ih _ _ _ _ h
    obtain ⟨q, hv, hq⟩ := pkR (rd := none) (P := Try.prog) (fn := Try.f19) (k := 2) (s := (nspeculumref06_Least_l2_0_h a0 r2247 r2272 x8 b3_0z b3_1z x9)) (ans := [.reg (nN 5 []), .br true, .reg (nN 4 (.v (vi (a0.Q.getD x8.toNat 0)) :: nN 7 (nS 11 (.b true :: [])))), .br true, .reg (nN 3 [])]) (c := ⟨[(1, none), (2, none), (3, none), (4, none), (5, none), (7, none), (8, none), (9, none)], [none, none, none, none], []⟩) (e := .normal) (s1 := (nspeculumref06_Least_l2_0_h a0 r2247 r2272 x8 b3_0z b3_1z (w64 (x9 + 1)))) (an (an (an (ti (ti (ti (ti (ti trivial))))) (an (decide_eq_true h2646) trivial)) (an (an e2650 (an rt trivial)) (ti (ti (ti trivial))))) (ti trivial)) (by kernel_rfl)
    exact round_next pm pn hv hq h2
   ·obtain ⟨h2651, h⟩ := ifn h
    have e2652 := (an (decide_eq_false h2649) (show loadL Try.prog 3 (x9.toNat * 1) (List.map vi a0.Q) = some (vi (a0.Q.getD x9.toNat 0)) from ld_map ag3 vi a0.Q 0 h2651 (by omega)))
    have e2653 := (ti (ti (ti (an h2647 (an e2648 (ti (ti (ti (ti (ti (ti (ti (an (an (decide_eq_false h2649) trivial) (an (an (decide_eq_false h2649) trivial) (an (an (decide_eq_false h2649) trivial) (an (an (decide_eq_false h2649) h2651) (an e2652 (an (an (decide_eq_false h2649) trivial) (an (an (decide_eq_false h2649) trivial) (an (an (decide_eq_false h2649) trivial) (an (an (decide_eq_false h2649) trivial) (an (an (decide_eq_false h2649) trivial) (an (an (decide_eq_false h2649) trivial) (an (decide_eq_false h2649) trivial))))))))))))))))))))))))
    rcases ifs h with ⟨h2654, h⟩ | ⟨h2654, h⟩
    ·have h2 := ih _ _ _ _ h
     obtain ⟨q, hv, hq⟩ := pkR (rd := none) (P := Try.prog) (fn := Try.f19) (k := 2) (s := (nspeculumref06_Least_l2_0_h a0 r2247 r2272 x8 b3_0z b3_1z x9)) (ans := [.reg (nN 5 []), .br true, .reg (arE3_6 a0 x8 x9), .br true, .reg (nN 3 [])]) (c := ⟨[(1, none), (2, none), (3, none), (4, none), (5, none), (7, none), (8, none), (9, none)], [none, none, none, none], []⟩) (e := .normal) (s1 := (nspeculumref06_Least_l2_0_h a0 r2247 r2272 x8 b3_0z b3_1z (w64 (x9 + 1)))) (an (an (an (ti (ti (ti (ti (ti trivial))))) (an (decide_eq_true h2646) trivial)) (an (an e2653 (an (decide_eq_true h2654) trivial)) (ti (ti (ti trivial))))) (ti trivial)) (by kernel_rfl)
     exact round_next pm pn hv hq h2
    ·obtain ⟨h2655, h⟩ := ifn h
     have e2656 := (show loadL Try.prog 3 (x8.toNat * 1) (List.map vi a0.Heights) = some (vi (a0.Heights.getD x8.toNat 0)) from ld_map ag3 vi a0.Heights 0 h2655 (by omega))
     have e2657 := (ti (ti (ti (an h2655 (an e2656 (ti (ti (ti trivial))))))))
     have e2658 := (show loadL Try.prog 3 (x8.toNat * 1) (List.map vi a0.Q) = some (vi (a0.Q.getD x8.toNat 0)) from ld_map ag3 vi a0.Q 0 h2647 (by omega))
     have e2659 := (show loadL Try.prog 3 (x9.toNat * 1) (List.map vi a0.Q) = some (vi (a0.Q.getD x9.toNat 0)) from ld_map ag3 vi a0.Q 0 h2651 (by omega))
     have e2660 := (ti (ti (ti (an h2647 (an e2658 (ti (ti (ti (an h2651 (an e2659 (ti trivial)))))))))))
     rcases ifs h with ⟨h2661, h⟩ | ⟨h2661, h⟩
     ·obtain ⟨h2662, h⟩ := ifn h
      have e2663 := (show loadL Try.prog 3 (x9.toNat * 1) (List.map vi a0.Heights) = some (vi (a0.Heights.getD x9.toNat 0)) from ld_map ag3 vi a0.Heights 0 h2662 (by omega))
      have e2664 := (show loadL Try.prog 3 (x8.toNat * 1) (List.map vi a0.Heights) = some (vi (a0.Heights.getD x8.toNat 0)) from ld_map ag3 vi a0.Heights 0 h2655 (by omega))
      have e2665 := (ti (ti (ti (an h2662 (an e2663 (ti (ti (ti (an h2655 (an e2664 (ti trivial)))))))))))
      rcases ifs h with ⟨h2666, h⟩ | ⟨h2666, h⟩
      ·have h2 := ih _ _ _ _ h
       obtain ⟨q, hv, hq⟩ := pkR (rd := none) (P := Try.prog) (fn := Try.f19) (k := 2) (s := (nspeculumref06_Least_l2_0_h a0 r2247 r2272 x8 b3_0z b3_1z x9)) (ans := [.reg (nN 5 []), .br true, .reg (arE3_6 a0 x8 x9), .br false, .reg (nN 4 (.v (vi (a0.Heights.getD x8.toNat 0)) :: nN 3 [])), .reg (arE3_7 a0 x8 x9), .br false, .reg (arE3_8 a0 x9 x8), .br true, .reg (nN 3 [])]) (c := ⟨[(1, none), (2, none), (3, none), (4, none), (5, none), (7, none), (8, none), (9, none)], [none, none, none, none], []⟩) (e := .normal) (s1 := (nspeculumref06_Least_l2_0_h a0 r2247 r2272 x8 b3_0z b3_1z (w64 (x9 + 1)))) (an (an (an (ti (ti (ti (ti (ti trivial))))) (an (decide_eq_true h2646) trivial)) (an (an (an e2653 (an (decide_eq_false h2654) trivial)) (an e2657 (an e2660 (an (not_f (decide_eq_true h2661)) (an e2665 (an (decide_eq_true h2666) trivial)))))) (ti (ti (ti trivial))))) (ti trivial)) (by kernel_rfl)
       exact round_next pm pn hv hq h2
      ·rcases ifs h with ⟨h2667, h⟩ | ⟨h2667, h⟩
       ·have e2668 := (ti (ti (ti (ti (an (decide_eq_true h2667) (an (decide_eq_true h2667) (an (decide_eq_true h2667) (an (decide_eq_true h2667) trivial))))))))
        have h2 := ih _ _ _ _ h
        obtain ⟨q, hv, hq⟩ := pkR (rd := none) (P := Try.prog) (fn := Try.f19) (k := 2) (s := (nspeculumref06_Least_l2_0_h a0 r2247 r2272 x8 b3_0z b3_1z x9)) (ans := [.reg (nN 5 []), .br true, .reg (arE3_6 a0 x8 x9), .br false, .reg (nN 4 (.v (vi (a0.Heights.getD x8.toNat 0)) :: nN 3 [])), .reg (arE3_7 a0 x8 x9), .br false, .reg (arE3_8 a0 x9 x8), .br false, .reg (nN 4 (nS 3 (.b true :: []))), .br true, .reg (.n :: .n :: []), .reg (nN 3 [])]) (c := ⟨[(1, none), (2, none), (3, none), (4, none), (5, none), (7, none), (8, none), (9, none)], [none, none, none, none], []⟩) (e := .normal) (s1 := (nspeculumref06_Least_l2_0_h a0 r2247 r2272 x8 (a0.Heights.getD x8.toNat 0) 1 (w64 (x9 + 1)))) (an (an (an (ti (ti (ti (ti (ti trivial))))) (an (decide_eq_true h2646) trivial)) (an (an (an e2653 (an (decide_eq_false h2654) trivial)) (an e2657 (an (an e2660 (an (not_f (decide_eq_true h2661)) (an e2665 (an (decide_eq_false h2666) trivial)))) (an e2668 (an rt (ti (ti trivial))))))) (ti (ti (ti trivial))))) (ti trivial)) (by kernel_rfl)
        exact round_next pm pn hv hq h2
       ·obtain ⟨r2669, h2670, h⟩ := bs h
        have e2671 := (an (decide_eq_false h2667) (VC.args (nspeculumref06_less2_ok k (⟨(a0.Heights.getD x8.toNat 0), 1⟩ : SFrac) (⟨b3_0z, b3_1z⟩ : SFrac) _ h2670) (eqE3_2 a0 x8 b3_0z b3_1z)))
        have e2672 := (ti (ti (ti (ti (an (an (decide_eq_false h2667) trivial) (an (an (decide_eq_false h2667) trivial) (an e2671 (an (decide_eq_false h2667) trivial))))))))
        rcases ifs h with ⟨h2673, h⟩ | ⟨h2673, h⟩
        ·have h2 := ih _ _ _ _ h
         obtain ⟨q, hv, hq⟩ := pkR (rd := none) (P := Try.prog) (fn := Try.f19) (k := 2) (s := (nspeculumref06_Least_l2_0_h a0 r2247 r2272 x8 b3_0z b3_1z x9)) (ans := [.reg (nN 5 []), .br true, .reg (arE3_6 a0 x8 x9), .br false, .reg (nN 4 (.v (vi (a0.Heights.getD x8.toNat 0)) :: nN 3 [])), .reg (arE3_7 a0 x8 x9), .br false, .reg (arE3_8 a0 x9 x8), .br false, .reg (nN 6 (.call (vb r2669) :: .b false :: [])), .br true, .reg (.n :: .n :: []), .reg (nN 3 [])]) (c := ⟨[(1, none), (2, none), (3, none), (4, none), (5, none), (7, none), (8, none), (9, none)], [none, none, none, none], []⟩) (e := .normal) (s1 := (nspeculumref06_Least_l2_0_h a0 r2247 r2272 x8 (a0.Heights.getD x8.toNat 0) 1 (w64 (x9 + 1)))) (an (an (an (ti (ti (ti (ti (ti trivial))))) (an (decide_eq_true h2646) trivial)) (an (an (an e2653 (an (decide_eq_false h2654) trivial)) (an e2657 (an (an e2660 (an (not_f (decide_eq_true h2661)) (an e2665 (an (decide_eq_false h2666) trivial)))) (an e2672 (an h2673 (ti (ti trivial))))))) (ti (ti (ti trivial))))) (ti trivial)) (by kernel_rfl)
         exact round_next pm pn hv hq h2
        ·have h2 := ih _ _ _ _ h
         obtain ⟨q, hv, hq⟩ := pkR (rd := none) (P := Try.prog) (fn := Try.f19) (k := 2) (s := (nspeculumref06_Least_l2_0_h a0 r2247 r2272 x8 b3_0z b3_1z x9)) (ans := [.reg (nN 5 []), .br true, .reg (arE3_6 a0 x8 x9), .br false, .reg (nN 4 (.v (vi (a0.Heights.getD x8.toNat 0)) :: nN 3 [])), .reg (arE3_7 a0 x8 x9), .br false, .reg (arE3_8 a0 x9 x8), .br false, .reg (nN 6 (.call (vb r2669) :: .b false :: [])), .br false, .reg (nN 3 [])]) (c := ⟨[(1, none), (2, none), (3, none), (4, none), (5, none), (7, none), (8, none), (9, none)], [none, none, none, none], []⟩) (e := .normal) (s1 := (nspeculumref06_Least_l2_0_h a0 r2247 r2272 x8 b3_0z b3_1z (w64 (x9 + 1)))) (an (an (an (ti (ti (ti (ti (ti trivial))))) (an (decide_eq_true h2646) trivial)) (an (an (an e2653 (an (decide_eq_false h2654) trivial)) (an e2657 (an (an e2660 (an (not_f (decide_eq_true h2661)) (an e2665 (an (decide_eq_false h2666) trivial)))) (an e2672 (an (bool_f h2673) trivial))))) (ti (ti (ti trivial))))) (ti trivial)) (by kernel_rfl)
         exact round_next pm pn hv hq h2
     ·have e2674 := (show loadL Try.prog 3 (x9.toNat * 1) (List.map vi a0.Q) = some (vi (a0.Q.getD x9.toNat 0)) from ld_map ag3 vi a0.Q 0 h2651 (by omega))
      have e2675 := (show loadL Try.prog 3 (x8.toNat * 1) (List.map vi a0.Q) = some (vi (a0.Q.getD x8.toNat 0)) from ld_map ag3 vi a0.Q 0 h2647 (by omega))
      obtain ⟨h2676, h⟩ := ifn h
      have e2677 := (show loadL Try.prog 3 (x9.toNat * 1) (List.map vi a0.Heights) = some (vi (a0.Heights.getD x9.toNat 0)) from ld_map ag3 vi a0.Heights 0 h2676 (by omega))
      have e2678 := (show loadL Try.prog 3 (x8.toNat * 1) (List.map vi a0.Heights) = some (vi (a0.Heights.getD x8.toNat 0)) from ld_map ag3 vi a0.Heights 0 h2655 (by omega))
      have e2679 := (ti (ti (ti (an h2651 (an e2674 (ti (ti (ti (an h2647 (an e2675 (ti (ti (ti (ti (an h2676 (an e2677 (ti (ti (ti (an h2655 (an e2678 (ti (ti (ti trivial))))))))))))))))))))))))
      have e2680 := (show loadL Try.prog 3 (x8.toNat * 1) (List.map vi a0.Heights) = some (vi (a0.Heights.getD x8.toNat 0)) from ld_map ag3 vi a0.Heights 0 h2655 (by omega))
      have e2681 := (show loadL Try.prog 3 (x8.toNat * 1) (List.map vi a0.Q) = some (vi (a0.Q.getD x8.toNat 0)) from ld_map ag3 vi a0.Q 0 h2647 (by omega))
      obtain ⟨r2682, h2683, h⟩ := bs h
      have e2684 := (nspeculumbase_Lowest_ok k (w64 ((w64 ((w64 ((a0.Heights.getD x8.toNat 0) * (w64 ((a0.Q.getD x9.toNat 0) - (a0.Q.getD x8.toNat 0))))) * r2247.Den)) + (w64 ((w64 ((a0.Heights.getD x9.toNat 0) - (a0.Heights.getD x8.toNat 0))) * (w64 (r2247.Num - (w64 ((a0.Q.getD x8.toNat 0) * r2247.Den)))))))) (w64 ((w64 ((a0.Q.getD x9.toNat 0) - (a0.Q.getD x8.toNat 0))) * r2247.Den)) _ h2683)
      have e2685 := (ti (ti (ti (an h2655 (an e2680 (ti (ti (ti (ti (ti (ti (ti (ti (ti (ti (ti (an h2647 (an e2681 (ti (ti (ti (ti (ti (ti (ti (ti (ti (ti (an e2684 (ti trivial))))))))))))))))))))))))))))))
      rcases ifs h with ⟨h2686, h⟩ | ⟨h2686, h⟩
      ·have e2687 := (ti (ti (ti (ti (an (decide_eq_true h2686) (an (decide_eq_true h2686) (an (decide_eq_true h2686) (an (decide_eq_true h2686) trivial))))))))
       have h2 := ih _ _ _ _ h
       obtain ⟨q, hv, hq⟩ := pkR (rd := none) (P := Try.prog) (fn := Try.f19) (k := 2) (s := (nspeculumref06_Least_l2_0_h a0 r2247 r2272 x8 b3_0z b3_1z x9)) (ans := [.reg (nN 5 []), .br true, .reg (arE3_6 a0 x8 x9), .br false, .reg (nN 4 (.v (vi (a0.Heights.getD x8.toNat 0)) :: nN 3 [])), .reg (arE3_7 a0 x8 x9), .br true, .reg (arE3_9 a0 x9 x8), .reg (arE3_10 a0 x8 r2682), .reg (nN 4 (nS 3 (.b true :: []))), .br true, .reg (.n :: .n :: []), .reg (nN 3 [])]) (c := ⟨[(1, none), (2, none), (3, none), (4, none), (5, none), (7, none), (8, none), (9, none)], [none, none, none, none], []⟩) (e := .normal) (s1 := (nspeculumref06_Least_l2_0_h a0 r2247 r2272 x8 r2682.Num r2682.Den (w64 (x9 + 1)))) (an (an (an (ti (ti (ti (ti (ti trivial))))) (an (decide_eq_true h2646) trivial)) (an (an (an e2653 (an (decide_eq_false h2654) trivial)) (an e2657 (an (an e2660 (an (not_t (decide_eq_false h2661)) (an e2679 e2685))) (an e2687 (an rt (ti (ti trivial))))))) (ti (ti (ti trivial))))) (ti trivial)) (by kernel_rfl)
       exact round_next pm pn hv hq h2
      ·obtain ⟨r2688, h2689, h⟩ := bs h
       have e2690 := (an (decide_eq_false h2686) (VC.args (nspeculumref06_less2_ok k r2682 (⟨b3_0z, b3_1z⟩ : SFrac) _ h2689) (eqE3_1 r2682 b3_0z b3_1z)))
       have e2691 := (ti (ti (ti (ti (an (an (decide_eq_false h2686) trivial) (an (an (decide_eq_false h2686) trivial) (an e2690 (an (decide_eq_false h2686) trivial))))))))
       rcases ifs h with ⟨h2692, h⟩ | ⟨h2692, h⟩
       ·have h2 := ih _ _ _ _ h
        obtain ⟨q, hv, hq⟩ := pkR (rd := none) (P := Try.prog) (fn := Try.f19) (k := 2) (s := (nspeculumref06_Least_l2_0_h a0 r2247 r2272 x8 b3_0z b3_1z x9)) (ans := [.reg (nN 5 []), .br true, .reg (arE3_6 a0 x8 x9), .br false, .reg (nN 4 (.v (vi (a0.Heights.getD x8.toNat 0)) :: nN 3 [])), .reg (arE3_7 a0 x8 x9), .br true, .reg (arE3_9 a0 x9 x8), .reg (arE3_10 a0 x8 r2682), .reg (nN 6 (.call (vb r2688) :: .b false :: [])), .br true, .reg (.n :: .n :: []), .reg (nN 3 [])]) (c := ⟨[(1, none), (2, none), (3, none), (4, none), (5, none), (7, none), (8, none), (9, none)], [none, none, none, none], []⟩) (e := .normal) (s1 := (nspeculumref06_Least_l2_0_h a0 r2247 r2272 x8 r2682.Num r2682.Den (w64 (x9 + 1)))) (an (an (an (ti (ti (ti (ti (ti trivial))))) (an (decide_eq_true h2646) trivial)) (an (an (an e2653 (an (decide_eq_false h2654) trivial)) (an e2657 (an (an e2660 (an (not_t (decide_eq_false h2661)) (an e2679 e2685))) (an e2691 (an h2692 (ti (ti trivial))))))) (ti (ti (ti trivial))))) (ti trivial)) (by kernel_rfl)
        exact round_next pm pn hv hq h2
       ·have h2 := ih _ _ _ _ h
        obtain ⟨q, hv, hq⟩ := pkR (rd := none) (P := Try.prog) (fn := Try.f19) (k := 2) (s := (nspeculumref06_Least_l2_0_h a0 r2247 r2272 x8 b3_0z b3_1z x9)) (ans := [.reg (nN 5 []), .br true, .reg (arE3_6 a0 x8 x9), .br false, .reg (nN 4 (.v (vi (a0.Heights.getD x8.toNat 0)) :: nN 3 [])), .reg (arE3_7 a0 x8 x9), .br true, .reg (arE3_9 a0 x9 x8), .reg (arE3_10 a0 x8 r2682), .reg (nN 6 (.call (vb r2688) :: .b false :: [])), .br false, .reg (nN 3 [])]) (c := ⟨[(1, none), (2, none), (3, none), (4, none), (5, none), (7, none), (8, none), (9, none)], [none, none, none, none], []⟩) (e := .normal) (s1 := (nspeculumref06_Least_l2_0_h a0 r2247 r2272 x8 b3_0z b3_1z (w64 (x9 + 1)))) (an (an (an (ti (ti (ti (ti (ti trivial))))) (an (decide_eq_true h2646) trivial)) (an (an (an e2653 (an (decide_eq_false h2654) trivial)) (an e2657 (an (an e2660 (an (not_t (decide_eq_false h2661)) (an e2679 e2685))) (an e2691 (an (bool_f h2692) trivial))))) (ti (ti (ti trivial))))) (ti trivial)) (by kernel_rfl)
        exact round_next pm pn hv hq h2
  ·injection h with h; subst h
   exact round_stop (c := ⟨[(1, none), (2, none), (3, none), (4, none), (5, none), (7, none), (8, none)], [none, none, none, none], []⟩) (s1 := (nspeculumref06_Least_l2_0_e0 a0 r2247 r2272 x8 (b3_0z, b3_1z))) pm pn (ans := [.reg (nN 5 []), .br false]) (by kernel_rfl) (by intro e; cases e) (an (an (ti (ti (ti (ti (ti trivial))))) (an (decide_eq_false h2646) trivial)) (ti trivial))
def nspeculumref06_Least_l1_0_h (a0 : SRemovalMap) (r2247 : SFrac) (r2272 : Int × Int) (b3_0 : Int) (b3_1 : Int) (x8 : Int) : VS := ⟨mkA [(1, VV.pt 0 0), (2, VV.pt 1 0), (3, VV.pt 2 0), (4, vi r2272.1), (5, vi r2272.2), (7, VV.pt 3 0), (8, vi x8)], [some ⟨true, 1, c_SRemovalMap a0⟩, some ⟨true, 1, [vi 0, vi 0]⟩, some ⟨true, 1, c_SFrac r2247⟩, some ⟨true, 1, [vi b3_0, vi b3_1]⟩], .nil⟩
def nspeculumref06_Least_l1_0_e0 (a0 : SRemovalMap) (r2247 : SFrac) (r2272 : Int × Int) (r : Int × Int) : VS := ⟨mkA [(2, VV.pt 1 0), (4, vi r2272.1), (5, vi r2272.2), (7, VV.pt 3 0)], [some ⟨true, 1, c_SRemovalMap a0⟩, some ⟨true, 1, [vi 0, vi 0]⟩, some ⟨true, 1, c_SFrac r2247⟩, some ⟨true, 1, [vi r.1, vi r.2]⟩], .nil⟩
def nspeculumref06_Least_l1_0 (k : Nat) (a0 : SRemovalMap) (r2247 : SFrac) (r2272 : Int × Int) : Nat -> Int -> Int -> Int -> Option (Int × Int)
 | 0, _, _, _ => none
 | fuel + 1, b3_0, b3_1, x8 => if x8 < (a0.Q.length : Int) then ((nspeculumref06_Least_l2_0 k a0 r2247 r2272 x8 k b3_0 b3_1 0).bind fun r2694 => (nspeculumref06_Least_l1_0 k a0 r2247 r2272 fuel r2694.1 r2694.2 (w64 (x8 + 1)))) else (some (b3_0, b3_1))
theorem nspeculumref06_Least_l1_0_ok (k : Nat) (a0 : SRemovalMap) (r2247 : SFrac) (r2272 : Int × Int) : ∀ (fuel : Nat) (b3_0 : Int) (b3_1 : Int) (x8 : Int) (r : Int × Int), nspeculumref06_Least_l1_0 k a0 r2247 r2272 fuel b3_0 b3_1 x8 = some r -> (VLoop none Try.prog (szF Try.f19) (bodyOf Try.f19 1) (nspeculumref06_Least_l1_0_h a0 r2247 r2272 b3_0 b3_1 x8) (.exit 2) (nspeculumref06_Least_l1_0_e0 a0 r2247 r2272 r)) := by
 intro fuel
 induction fuel with
 | zero => intro b3_0 b3_1 x8 r h; rw [nspeculumref06_Least_l1_0.eq_1] at h; cases h
 | succ fuel ih =>
  intro b3_0 b3_1 x8 r h
  rw [nspeculumref06_Least_l1_0.eq_2] at h
  rcases ifs h with ⟨h2551, h⟩ | ⟨h2551, h⟩
  ·obtain ⟨r2694, h2693, h⟩ := bs h
   have hph2693 := nspeculumref06_Least_l2_0_ok k a0 r2247 r2272 x8 _ _ _ _ _ h2693
   have e2695 := (an (ti trivial) (VRun.loop hph2693))
   have h2 := ih _ _ _ _ h
   obtain ⟨q, hv, hq⟩ := pkR (rd := none) (P := Try.prog) (fn := Try.f19) (k := 1) (s := (nspeculumref06_Least_l1_0_h a0 r2247 r2272 b3_0 b3_1 x8)) (ans := [.reg (nN 5 []), .br true, .reg (.n :: []), .sub ⟨[(1, none), (2, none), (3, none), (4, none), (5, none), (7, none), (8, none), (9, none)], [none, none, none, none], []⟩ (.exit 4) (nspeculumref06_Least_l2_0_e0 a0 r2247 r2272 x8 r2694), .reg (nN 3 [])]) (c := ⟨[(1, none), (2, none), (3, none), (4, none), (5, none), (7, none), (8, none)], [none, none, none, none], []⟩) (e := .normal) (s1 := (nspeculumref06_Least_l1_0_h a0 r2247 r2272 r2694.1 r2694.2 (w64 (x8 + 1)))) (an (an (an (ti (ti (ti (ti (ti trivial))))) (an (decide_eq_true h2551) trivial)) (an (an (ti trivial) e2695) (ti (ti (ti trivial))))) (ti trivial)) (by kernel_rfl)
   exact round_next pm pn hv hq h2
  ·injection h with h; subst h
   exact round_stop (c := ⟨[(2, none), (4, none), (5, none), (7, none)], [none, none, none, none], []⟩) (s1 := (nspeculumref06_Least_l1_0_e0 a0 r2247 r2272 (b3_0, b3_1))) pm pn (ans := [.reg (nN 5 []), .br false]) (by kernel_rfl) (by intro e; cases e) (an (an (ti (ti (ti (ti (ti trivial))))) (an (decide_eq_false h2551) trivial)) (ti trivial))
def nspeculumref06_Least (k : Nat) (a0 : SRemovalMap) : Option SFrac :=
 (nspeculumref06_Mean k a0).bind fun r2247 => ((nspeculumref06_Least_l0_0 k a0 r2247 k 0 0 0).bind fun r2272 => ((nspeculumref06_Least_l1_0 k a0 r2247 r2272 k 0 0 0).bind fun r2697 => ((nspeculumbase_Lowest k (w64 ((w64 (r2272.2 * r2697.2)) - (w64 (r2272.1 * r2697.1)))) r2697.2).bind fun r2699 => (some r2699))))
theorem nspeculumref06_Least_ok (k : Nat) (a0 : SRemovalMap) (r : SFrac) (h : nspeculumref06_Least k a0 = some r) : VC Try.prog 19 [VV.ag (c_SRemovalMap a0)] (VV.ag (c_SFrac r)) := by
 unfold nspeculumref06_Least at h
 obtain ⟨r2247, h2248, h⟩ := bs h
 have e2249 := (ti (an (nspeculumref06_Mean_ok k a0 _ h2248) (ti (ti trivial))))
 obtain ⟨r2272, h2271, h⟩ := bs h
 have hph2271 := nspeculumref06_Least_l0_0_ok k a0 r2247 _ _ _ _ _ h2271
 have e2273 := (an (ti trivial) (VRun.loop hph2271))
 obtain ⟨r2697, h2696, h⟩ := bs h
 have hph2696 := nspeculumref06_Least_l1_0_ok k a0 r2247 r2272 _ _ _ _ _ h2696
 have e2698 := (an (ti trivial) (VRun.loop hph2696))
 obtain ⟨r2699, h2700, h⟩ := bs h
 have e2701 := (nspeculumbase_Lowest_ok k (w64 ((w64 (r2272.2 * r2697.2)) - (w64 (r2272.1 * r2697.1)))) r2697.2 _ h2700)
 have e2702 := (ti (ti (ti (ti (ti (ti (ti (ti (ti (ti (ti (an e2701 (ti trivial)))))))))))))
 injection h with h; subst h
 exact fun_ok pm pn Try.func19 (r0 := VV.ag (c_SFrac r2699)) (ans := [.reg (.n :: .n :: []), .reg (.n :: .call (VV.ag (c_SFrac r2247)) :: .n :: .n :: []), .reg (.n :: .n :: []), .reg (.n :: []), .sub ⟨[(1, none), (2, none), (3, none), (4, none), (5, none), (6, none)], [none, none, none], []⟩ (.exit 0) (nspeculumref06_Least_l0_0_e0 a0 r2247 r2272), .reg (.n :: []), .reg (.n :: []), .sub ⟨[(1, none), (2, none), (3, none), (4, none), (5, none), (7, none), (8, none)], [none, none, none, none], []⟩ (.exit 2) (nspeculumref06_Least_l1_0_e0 a0 r2247 r2272 r2697), .reg (nN 11 (.call (VV.ag (c_SFrac r2699)) :: .n :: []))]) (fr := true) (by kernel_rfl) (an (an (ti (ti trivial)) (an e2249 (an (ti (ti trivial)) (an (an (ti trivial) e2273) (an (ti trivial) (an (an (ti trivial) e2698) (an e2702 trivial))))))) (an (ti (ti (ti trivial))) trivial)) (Wv.refl _)
def nspeculumref06_CheckReference_l0_0_h (a0 : SRemovalMap) (a1 : SLowerLine) (x7 : Int) : VS := ⟨mkA [(2, VV.pt 0 0), (3, VV.pt 1 0), (6, vi (a0.Heights.length : Int)), (7, vi x7)], [some ⟨true, 1, c_SRemovalMap a0⟩, some ⟨true, 1, c_SLowerLine a1⟩], .nil⟩
def nspeculumref06_CheckReference_l0_0_e0 (a0 : SRemovalMap) (a1 : SLowerLine) (r : Int) : VS := ⟨mkA [(4, vi r), (5, vi 26)], [], .nil⟩
def nspeculumref06_CheckReference_l0_0_e1 (a0 : SRemovalMap) (a1 : SLowerLine) (r : Unit) : VS := ⟨mkA [(2, VV.pt 0 0), (3, VV.pt 1 0), (6, vi (a0.Heights.length : Int))], [some ⟨true, 1, c_SRemovalMap a0⟩, some ⟨true, 1, c_SLowerLine a1⟩], .nil⟩
def nspeculumref06_CheckReference_l0_0 (k : Nat) (a0 : SRemovalMap) (a1 : SLowerLine) : Nat -> Int -> Option (Sum Int Unit)
 | 0, _ => none
 | fuel + 1, x7 => if x7 < (a0.Heights.length : Int) then ((nspeculumref06_Removal k a0 a1 x7).bind fun r2838 => (if r2838.Num < 0 then (some (.inl x7)) else (nspeculumref06_CheckReference_l0_0 k a0 a1 fuel (w64 (x7 + 1))))) else (some (.inr ()))
theorem nspeculumref06_CheckReference_l0_0_ok (k : Nat) (a0 : SRemovalMap) (a1 : SLowerLine) : ∀ (fuel : Nat) (x7 : Int) (r : Sum Int Unit), nspeculumref06_CheckReference_l0_0 k a0 a1 fuel x7 = some r -> (match r with | .inl r => VLoop none Try.prog (szF Try.f20) (bodyOf Try.f20 0) (nspeculumref06_CheckReference_l0_0_h a0 a1 x7) .ret (nspeculumref06_CheckReference_l0_0_e0 a0 a1 r) | .inr r => VLoop none Try.prog (szF Try.f20) (bodyOf Try.f20 0) (nspeculumref06_CheckReference_l0_0_h a0 a1 x7) (.exit 0) (nspeculumref06_CheckReference_l0_0_e1 a0 a1 r)) := by
 intro fuel
 induction fuel with
 | zero => intro x7 r h; rw [nspeculumref06_CheckReference_l0_0.eq_1] at h; cases h
 | succ fuel ih =>
  intro x7 r h
  rw [nspeculumref06_CheckReference_l0_0.eq_2] at h
  rcases ifs h with ⟨h2837, h⟩ | ⟨h2837, h⟩
  ·obtain ⟨r2838, h2839, h⟩ := bs h
   have e2840 := (nspeculumref06_Removal_ok k a0 a1 x7 _ h2839)
   rcases ifs h with ⟨h2841, h⟩ | ⟨h2841, h⟩
   ·injection h with h; subst h
    exact round_stop (c := ⟨[(4, none), (5, none)], [], []⟩) (s1 := (nspeculumref06_CheckReference_l0_0_e0 a0 a1 x7)) pm pn (ans := [.reg (nN 3 []), .br true, .reg (nN 3 (.call (VV.ag (c_SFrac r2838)) :: .n :: .n :: [])), .br true, .reg (nN 3 [])]) (by kernel_rfl) (by intro e; cases e) (an (an (an (ti (ti (ti trivial))) (an (decide_eq_true h2837) trivial)) (an (ti (ti (ti (an e2840 (ti (ti trivial)))))) (an (decide_eq_true h2841) (an (ti (ti (ti trivial))) trivial)))) (ti trivial))
   ·have h2 := ih _ _ h
    obtain ⟨q, hv, hq⟩ := pkR (rd := none) (P := Try.prog) (fn := Try.f20) (k := 0) (s := (nspeculumref06_CheckReference_l0_0_h a0 a1 x7)) (ans := [.reg (nN 3 []), .br true, .reg (nN 3 (.call (VV.ag (c_SFrac r2838)) :: .n :: .n :: [])), .br false, .reg (nN 3 [])]) (c := ⟨[(2, none), (3, none), (6, none), (7, none)], [none, none], []⟩) (e := .normal) (s1 := (nspeculumref06_CheckReference_l0_0_h a0 a1 (w64 (x7 + 1)))) (an (an (an (ti (ti (ti trivial))) (an (decide_eq_true h2837) trivial)) (an (an (ti (ti (ti (an e2840 (ti (ti trivial)))))) (an (decide_eq_false h2841) trivial)) (ti (ti (ti trivial))))) (ti trivial)) (by kernel_rfl)
    cases r with
    | inl r => exact round_next pm pn hv hq h2
    | inr r =>
     exact round_next pm pn hv hq h2
  ·injection h with h; subst h
   exact round_stop (c := ⟨[(2, none), (3, none), (6, none)], [none, none], []⟩) (s1 := (nspeculumref06_CheckReference_l0_0_e1 a0 a1 ())) pm pn (ans := [.reg (nN 3 []), .br false]) (by kernel_rfl) (by intro e; cases e) (an (an (ti (ti (ti trivial))) (an (decide_eq_false h2837) trivial)) (ti trivial))
def nspeculumref06_CheckReference_l1_0_h (a0 : SRemovalMap) (a1 : SLowerLine) (x8 : Int) : VS := ⟨mkA [(2, VV.pt 0 0), (3, VV.pt 1 0), (6, vi (a0.Heights.length : Int)), (8, vi x8)], [some ⟨true, 1, c_SRemovalMap a0⟩, some ⟨true, 1, c_SLowerLine a1⟩], .nil⟩
def nspeculumref06_CheckReference_l1_0_e0 (a0 : SRemovalMap) (a1 : SLowerLine) (r : Unit) : VS := ⟨mkA [(4, vi 0), (5, vi 6)], [], .nil⟩
def nspeculumref06_CheckReference_l1_0_e1 (a0 : SRemovalMap) (a1 : SLowerLine) (r : Unit) : VS := ⟨mkA [(2, VV.pt 0 0), (3, VV.pt 1 0)], [some ⟨true, 1, c_SRemovalMap a0⟩, some ⟨true, 1, c_SLowerLine a1⟩], .nil⟩
def nspeculumref06_CheckReference_l1_0 (k : Nat) (a0 : SRemovalMap) (a1 : SLowerLine) : Nat -> Int -> Option (Sum Unit Unit)
 | 0, _ => none
 | fuel + 1, x8 => if x8 < 2 then (if x8 = 0 then ((nspeculumbase_Within k a1.Touch.e0 0 (w64 ((a0.Heights.length : Int) - 1))).bind fun r2872 => (if r2872 = true then (nspeculumref06_CheckReference_l1_0 k a0 a1 fuel (w64 (x8 + 1))) else (some (.inl ())))) else (if x8 = 1 then ((nspeculumbase_Within k a1.Touch.e1 0 (w64 ((a0.Heights.length : Int) - 1))).bind fun r2879 => (if r2879 = true then (nspeculumref06_CheckReference_l1_0 k a0 a1 fuel (w64 (x8 + 1))) else (some (.inl ())))) else none)) else (some (.inr ()))
theorem nspeculumref06_CheckReference_l1_0_ok (k : Nat) (a0 : SRemovalMap) (a1 : SLowerLine) : ∀ (fuel : Nat) (x8 : Int) (r : Sum Unit Unit), nspeculumref06_CheckReference_l1_0 k a0 a1 fuel x8 = some r -> (match r with | .inl r => VLoop none Try.prog (szF Try.f20) (bodyOf Try.f20 1) (nspeculumref06_CheckReference_l1_0_h a0 a1 x8) .ret (nspeculumref06_CheckReference_l1_0_e0 a0 a1 r) | .inr r => VLoop none Try.prog (szF Try.f20) (bodyOf Try.f20 1) (nspeculumref06_CheckReference_l1_0_h a0 a1 x8) (.exit 2) (nspeculumref06_CheckReference_l1_0_e1 a0 a1 r)) := by
 intro fuel
 induction fuel with
 | zero => intro x8 r h; rw [nspeculumref06_CheckReference_l1_0.eq_1] at h; cases h
 | succ fuel ih =>
  intro x8 r h
  rw [nspeculumref06_CheckReference_l1_0.eq_2] at h
  rcases ifs h with ⟨h2869, h⟩ | ⟨h2869, h⟩
  ·rcases ifs h with ⟨h2870, h⟩ | ⟨h2870, h⟩
   ·have e2871 := (show (0 <= x8 /\ x8 < ((2 : Nat) : Int)) /\ VV.pt 1 (4 + x8.toNat * 1) = VV.pt 1 4 from ⟨⟨by have := (of_decide_eq_true (decide_eq_true h2870)); omega, by have := (of_decide_eq_true (decide_eq_true h2870)); omega⟩, by rw [show x8 = (0 : Int) from (of_decide_eq_true (decide_eq_true h2870))]; rfl⟩)
    obtain ⟨r2872, h2873, h⟩ := bs h
    have e2874 := (nspeculumbase_Within_ok k a1.Touch.e0 0 (w64 ((a0.Heights.length : Int) - 1)) _ h2873)
    have e2875 := (ti (ti (an e2871 (ti (ti (ti (an e2874 (ti trivial))))))))
    rcases ifs h with ⟨h2876, h⟩ | ⟨h2876, h⟩
    ·have h2 := ih _ _ h
     obtain ⟨q, hv, hq⟩ := pkR (rd := none) (P := Try.prog) (fn := Try.f20) (k := 1) (s := (nspeculumref06_CheckReference_l1_0_h a0 a1 x8)) (ans := [.reg (.n :: .n :: []), .br true, .reg (.n :: .n :: .v (VV.pt 1 4) :: nN 3 (.call (vb r2872) :: .n :: [])), .br false, .reg (nN 3 [])]) (c := ⟨[(2, none), (3, none), (6, none), (8, none)], [none, none], []⟩) (e := .normal) (s1 := (nspeculumref06_CheckReference_l1_0_h a0 a1 (w64 (x8 + 1)))) (an (an (an (ti (ti trivial)) (an (decide_eq_true h2869) trivial)) (an (an e2875 (an (not_f h2876) trivial)) (ti (ti (ti trivial))))) (ti trivial)) (by kernel_rfl)
     cases r with
     | inl r => exact round_next pm pn hv hq h2
     | inr r =>
      exact round_next pm pn hv hq h2
    ·injection h with h; subst h
     exact round_stop (c := ⟨[(4, none), (5, none)], [], []⟩) (s1 := (nspeculumref06_CheckReference_l1_0_e0 a0 a1 ())) pm pn (ans := [.reg (.n :: .n :: []), .br true, .reg (.n :: .n :: .v (VV.pt 1 4) :: nN 3 (.call (vb r2872) :: .n :: [])), .br true, .reg (.n :: .n :: [])]) (by kernel_rfl) (by intro e; cases e) (an (an (an (ti (ti trivial)) (an (decide_eq_true h2869) trivial)) (an e2875 (an (not_t (bool_f h2876)) (an (ti (ti trivial)) trivial)))) (ti trivial))
   ·rcases ifs h with ⟨h2877, h⟩ | ⟨h2877, h⟩
    ·have e2878 := (show (0 <= x8 /\ x8 < ((2 : Nat) : Int)) /\ VV.pt 1 (4 + x8.toNat * 1) = VV.pt 1 5 from ⟨⟨by have := (of_decide_eq_true (decide_eq_true h2877)); omega, by have := (of_decide_eq_true (decide_eq_true h2877)); omega⟩, by rw [show x8 = (1 : Int) from (of_decide_eq_true (decide_eq_true h2877))]; rfl⟩)
     obtain ⟨r2879, h2880, h⟩ := bs h
     have e2881 := (nspeculumbase_Within_ok k a1.Touch.e1 0 (w64 ((a0.Heights.length : Int) - 1)) _ h2880)
     have e2882 := (ti (ti (an e2878 (ti (ti (ti (an e2881 (ti trivial))))))))
     rcases ifs h with ⟨h2883, h⟩ | ⟨h2883, h⟩
     ·have h2 := ih _ _ h
      obtain ⟨q, hv, hq⟩ := pkR (rd := none) (P := Try.prog) (fn := Try.f20) (k := 1) (s := (nspeculumref06_CheckReference_l1_0_h a0 a1 x8)) (ans := [.reg (.n :: .n :: []), .br true, .reg (.n :: .n :: .v (VV.pt 1 5) :: nN 3 (.call (vb r2879) :: .n :: [])), .br false, .reg (nN 3 [])]) (c := ⟨[(2, none), (3, none), (6, none), (8, none)], [none, none], []⟩) (e := .normal) (s1 := (nspeculumref06_CheckReference_l1_0_h a0 a1 (w64 (x8 + 1)))) (an (an (an (ti (ti trivial)) (an (decide_eq_true h2869) trivial)) (an (an e2882 (an (not_f h2883) trivial)) (ti (ti (ti trivial))))) (ti trivial)) (by kernel_rfl)
      cases r with
      | inl r => exact round_next pm pn hv hq h2
      | inr r =>
       exact round_next pm pn hv hq h2
     ·injection h with h; subst h
      exact round_stop (c := ⟨[(4, none), (5, none)], [], []⟩) (s1 := (nspeculumref06_CheckReference_l1_0_e0 a0 a1 ())) pm pn (ans := [.reg (.n :: .n :: []), .br true, .reg (.n :: .n :: .v (VV.pt 1 5) :: nN 3 (.call (vb r2879) :: .n :: [])), .br true, .reg (.n :: .n :: [])]) (by kernel_rfl) (by intro e; cases e) (an (an (an (ti (ti trivial)) (an (decide_eq_true h2869) trivial)) (an e2882 (an (not_t (bool_f h2883)) (an (ti (ti trivial)) trivial)))) (ti trivial))
    ·cases h
  ·injection h with h; subst h
   exact round_stop (c := ⟨[(2, none), (3, none)], [none, none], []⟩) (s1 := (nspeculumref06_CheckReference_l1_0_e1 a0 a1 ())) pm pn (ans := [.reg (.n :: .n :: []), .br false]) (by kernel_rfl) (by intro e; cases e) (an (an (ti (ti trivial)) (an (decide_eq_false h2869) trivial)) (ti trivial))
def nspeculumref06_CheckReference_l2_0_h (a0 : SRemovalMap) (a1 : SLowerLine) (r2890 : SFrac) (x10 : Int) : VS := ⟨mkA [(2, VV.pt 0 0), (3, VV.pt 1 0), (9, VV.pt 2 0), (10, vi x10)], [some ⟨true, 1, c_SRemovalMap a0⟩, some ⟨true, 1, c_SLowerLine a1⟩, some ⟨true, 1, c_SFrac r2890⟩], .nil⟩
def nspeculumref06_CheckReference_l2_0_e0 (a0 : SRemovalMap) (a1 : SLowerLine) (r2890 : SFrac) (r : Unit) : VS := ⟨mkA [(4, vi 0), (5, vi 22)], [], .nil⟩
def nspeculumref06_CheckReference_l2_0_e1 (a0 : SRemovalMap) (a1 : SLowerLine) (r2890 : SFrac) (r : Unit) : VS := ⟨mkA [(2, VV.pt 0 0), (3, VV.pt 1 0), (9, VV.pt 2 0)], [some ⟨true, 1, c_SRemovalMap a0⟩, some ⟨true, 1, c_SLowerLine a1⟩, some ⟨true, 1, c_SFrac r2890⟩], .nil⟩
def nspeculumref06_CheckReference_l2_0 (k : Nat) (a0 : SRemovalMap) (a1 : SLowerLine) (r2890 : SFrac) : Nat -> Int -> Option (Sum Unit Unit)
 | 0, _ => none
 | fuel + 1, x10 => if x10 < 2 then (if x10 = 0 then ((nspeculumref06_Removal k a0 a1 a1.Touch.e0).bind fun r2917 => (if r2917.Num = 0 then (nspeculumref06_CheckReference_l2_0 k a0 a1 r2890 fuel (w64 (x10 + 1))) else (some (.inl ())))) else (if x10 = 1 then ((nspeculumref06_Removal k a0 a1 a1.Touch.e1).bind fun r2924 => (if r2924.Num = 0 then (nspeculumref06_CheckReference_l2_0 k a0 a1 r2890 fuel (w64 (x10 + 1))) else (some (.inl ())))) else none)) else (some (.inr ()))
theorem nspeculumref06_CheckReference_l2_0_ok (k : Nat) (a0 : SRemovalMap) (a1 : SLowerLine) (r2890 : SFrac) : ∀ (fuel : Nat) (x10 : Int) (r : Sum Unit Unit), nspeculumref06_CheckReference_l2_0 k a0 a1 r2890 fuel x10 = some r -> (match r with | .inl r => VLoop none Try.prog (szF Try.f20) (bodyOf Try.f20 2) (nspeculumref06_CheckReference_l2_0_h a0 a1 r2890 x10) .ret (nspeculumref06_CheckReference_l2_0_e0 a0 a1 r2890 r) | .inr r => VLoop none Try.prog (szF Try.f20) (bodyOf Try.f20 2) (nspeculumref06_CheckReference_l2_0_h a0 a1 r2890 x10) (.exit 4) (nspeculumref06_CheckReference_l2_0_e1 a0 a1 r2890 r)) := by
 intro fuel
 induction fuel with
 | zero => intro x10 r h; rw [nspeculumref06_CheckReference_l2_0.eq_1] at h; cases h
 | succ fuel ih =>
  intro x10 r h
  rw [nspeculumref06_CheckReference_l2_0.eq_2] at h
  rcases ifs h with ⟨h2914, h⟩ | ⟨h2914, h⟩
  ·rcases ifs h with ⟨h2915, h⟩ | ⟨h2915, h⟩
   ·have e2916 := (show (0 <= x10 /\ x10 < ((2 : Nat) : Int)) /\ VV.pt 1 (4 + x10.toNat * 1) = VV.pt 1 4 from ⟨⟨by have := (of_decide_eq_true (decide_eq_true h2915)); omega, by have := (of_decide_eq_true (decide_eq_true h2915)); omega⟩, by rw [show x10 = (0 : Int) from (of_decide_eq_true (decide_eq_true h2915))]; rfl⟩)
    obtain ⟨r2917, h2918, h⟩ := bs h
    have e2919 := (nspeculumref06_Removal_ok k a0 a1 a1.Touch.e0 _ h2918)
    have e2920 := (ti (ti (ti (ti (an e2916 (ti (an e2919 (ti (ti trivial)))))))))
    rcases ifs h with ⟨h2921, h⟩ | ⟨h2921, h⟩
    ·have h2 := ih _ _ h
     obtain ⟨q, hv, hq⟩ := pkR (rd := none) (P := Try.prog) (fn := Try.f20) (k := 2) (s := (nspeculumref06_CheckReference_l2_0_h a0 a1 r2890 x10)) (ans := [.reg (.n :: .n :: []), .br true, .reg (nN 4 (.v (VV.pt 1 4) :: .n :: .call (VV.ag (c_SFrac r2917)) :: .n :: .n :: [])), .br false, .reg (nN 3 [])]) (c := ⟨[(2, none), (3, none), (9, none), (10, none)], [none, none, none], []⟩) (e := .normal) (s1 := (nspeculumref06_CheckReference_l2_0_h a0 a1 r2890 (w64 (x10 + 1)))) (an (an (an (ti (ti trivial)) (an (decide_eq_true h2914) trivial)) (an (an e2920 (an (not_f (decide_eq_true h2921)) trivial)) (ti (ti (ti trivial))))) (ti trivial)) (by kernel_rfl)
     cases r with
     | inl r => exact round_next pm pn hv hq h2
     | inr r =>
      exact round_next pm pn hv hq h2
    ·injection h with h; subst h
     exact round_stop (c := ⟨[(4, none), (5, none)], [], []⟩) (s1 := (nspeculumref06_CheckReference_l2_0_e0 a0 a1 r2890 ())) pm pn (ans := [.reg (.n :: .n :: []), .br true, .reg (nN 4 (.v (VV.pt 1 4) :: .n :: .call (VV.ag (c_SFrac r2917)) :: .n :: .n :: [])), .br true, .reg (.n :: .n :: [])]) (by kernel_rfl) (by intro e; cases e) (an (an (an (ti (ti trivial)) (an (decide_eq_true h2914) trivial)) (an e2920 (an (not_t (decide_eq_false h2921)) (an (ti (ti trivial)) trivial)))) (ti trivial))
   ·rcases ifs h with ⟨h2922, h⟩ | ⟨h2922, h⟩
    ·have e2923 := (show (0 <= x10 /\ x10 < ((2 : Nat) : Int)) /\ VV.pt 1 (4 + x10.toNat * 1) = VV.pt 1 5 from ⟨⟨by have := (of_decide_eq_true (decide_eq_true h2922)); omega, by have := (of_decide_eq_true (decide_eq_true h2922)); omega⟩, by rw [show x10 = (1 : Int) from (of_decide_eq_true (decide_eq_true h2922))]; rfl⟩)
     obtain ⟨r2924, h2925, h⟩ := bs h
     have e2926 := (nspeculumref06_Removal_ok k a0 a1 a1.Touch.e1 _ h2925)
     have e2927 := (ti (ti (ti (ti (an e2923 (ti (an e2926 (ti (ti trivial)))))))))
     rcases ifs h with ⟨h2928, h⟩ | ⟨h2928, h⟩
     ·have h2 := ih _ _ h
      obtain ⟨q, hv, hq⟩ := pkR (rd := none) (P := Try.prog) (fn := Try.f20) (k := 2) (s := (nspeculumref06_CheckReference_l2_0_h a0 a1 r2890 x10)) (ans := [.reg (.n :: .n :: []), .br true, .reg (nN 4 (.v (VV.pt 1 5) :: .n :: .call (VV.ag (c_SFrac r2924)) :: .n :: .n :: [])), .br false, .reg (nN 3 [])]) (c := ⟨[(2, none), (3, none), (9, none), (10, none)], [none, none, none], []⟩) (e := .normal) (s1 := (nspeculumref06_CheckReference_l2_0_h a0 a1 r2890 (w64 (x10 + 1)))) (an (an (an (ti (ti trivial)) (an (decide_eq_true h2914) trivial)) (an (an e2927 (an (not_f (decide_eq_true h2928)) trivial)) (ti (ti (ti trivial))))) (ti trivial)) (by kernel_rfl)
      cases r with
      | inl r => exact round_next pm pn hv hq h2
      | inr r =>
       exact round_next pm pn hv hq h2
     ·injection h with h; subst h
      exact round_stop (c := ⟨[(4, none), (5, none)], [], []⟩) (s1 := (nspeculumref06_CheckReference_l2_0_e0 a0 a1 r2890 ())) pm pn (ans := [.reg (.n :: .n :: []), .br true, .reg (nN 4 (.v (VV.pt 1 5) :: .n :: .call (VV.ag (c_SFrac r2924)) :: .n :: .n :: [])), .br true, .reg (.n :: .n :: [])]) (by kernel_rfl) (by intro e; cases e) (an (an (an (ti (ti trivial)) (an (decide_eq_true h2914) trivial)) (an e2927 (an (not_t (decide_eq_false h2928)) (an (ti (ti trivial)) trivial)))) (ti trivial))
    ·cases h
  ·injection h with h; subst h
   exact round_stop (c := ⟨[(2, none), (3, none), (9, none)], [none, none, none], []⟩) (s1 := (nspeculumref06_CheckReference_l2_0_e1 a0 a1 r2890 ())) pm pn (ans := [.reg (.n :: .n :: []), .br false]) (by kernel_rfl) (by intro e; cases e) (an (an (ti (ti trivial)) (an (decide_eq_false h2914) trivial)) (ti trivial))
def arE3_11 (z0 : SRemovalMap) (z1 : SLowerLine) : List Ans := (nN 6 (.v (vi (z0.Q.getD z1.Touch.e0.toNat 0)) :: nN 13 (.v (vi (z0.Q.getD z1.Touch.e1.toNat 0)) :: nN 6 (.b false :: []))))
def nspeculumref06_CheckReference (k : Nat) (a0 : SRemovalMap) (a1 : SLowerLine) : Option (Int × Int) :=
 (nspeculumref06_CheckReference_l0_0 k a0 a1 k 0).bind fun r2843 => (match r2843 with | .inl r2844 => (some (r2844, 26)) | .inr r2845 => ((nspeculumref06_CheckReference_l1_0 k a0 a1 k 0).bind fun r2885 => (match r2885 with | .inl r2886 => (some (0, 6)) | .inr r2887 => ((nspeculumref06_Mean k a0).bind fun r2890 => ((nspeculumref06_CheckReference_l2_0 k a0 a1 r2890 k 0).bind fun r2930 => (match r2930 with | .inl r2931 => (some (0, 22)) | .inr r2932 => (if 0 <= a1.Touch.e0 /\ a1.Touch.e0 < (a0.Q.length : Int) then (if r2890.Num < (w64 ((a0.Q.getD a1.Touch.e0.toNat 0) * r2890.Den)) then (some (0, 22)) else (if 0 <= a1.Touch.e1 /\ a1.Touch.e1 < (a0.Q.length : Int) then (if (w64 ((a0.Q.getD a1.Touch.e1.toNat 0) * r2890.Den)) < r2890.Num then (some (0, 22)) else (some (0, 0))) else none)) else none)))))))
theorem nspeculumref06_CheckReference_ok (k : Nat) (a0 : SRemovalMap) (a1 : SLowerLine) (r : (Int × Int)) (h : nspeculumref06_CheckReference k a0 a1 = some r) : VC Try.prog 20 [VV.ag (c_SRemovalMap a0), VV.ag (c_SLowerLine a1)] (VV.tu [vi r.1, vi r.2]) := by
 unfold nspeculumref06_CheckReference at h
 obtain ⟨r2843, h2842, h⟩ := bs h
 have hph2842 := nspeculumref06_CheckReference_l0_0_ok k a0 a1 _ _ _ h2842
 cases r2843 with
 | inl r2844 =>
  dsimp only at h
  have e2846 := (an (ti trivial) (VRun.loop hph2842))
  injection h with h; subst h
  exact fun_ok pm pn Try.func20 (r0 := VV.tu [vi r2844, vi 26]) (ans := [.reg (nN 4 []), .reg (nN 4 []), .reg (.n :: []), .sub ⟨[(2, none), (3, none), (6, none), (7, none)], [none, none], []⟩ .ret (nspeculumref06_CheckReference_l0_0_e0 a0 a1 r2844)]) (fr := true) (by kernel_rfl) (an (an (ti (ti (ti (ti trivial)))) (an (ti (ti (ti (ti trivial)))) (an (ti trivial) e2846))) (ti (ti trivial))) (Wv.refl _)
 | inr r2845 =>
  dsimp only at h
  have e2847 := (an (ti trivial) (VRun.loop hph2842))
  obtain ⟨r2885, h2884, h⟩ := bs h
  have hph2884 := nspeculumref06_CheckReference_l1_0_ok k a0 a1 _ _ _ h2884
  cases r2885 with
  | inl r2886 =>
   dsimp only at h
   have e2888 := (an (ti trivial) (VRun.loop hph2884))
   injection h with h; subst h
   exact fun_ok pm pn Try.func20 (r0 := VV.tu [vi 0, vi 6]) (ans := [.reg (nN 4 []), .reg (nN 4 []), .reg (.n :: []), .sub ⟨[(2, none), (3, none), (6, none), (7, none)], [none, none], []⟩ (.exit 0) (nspeculumref06_CheckReference_l0_0_e1 a0 a1 r2845), .reg (.n :: []), .sub ⟨[(2, none), (3, none), (6, none), (8, none)], [none, none], []⟩ .ret (nspeculumref06_CheckReference_l1_0_e0 a0 a1 r2886)]) (fr := true) (by kernel_rfl) (an (an (ti (ti (ti (ti trivial)))) (an (ti (ti (ti (ti trivial)))) (an (an (ti trivial) e2847) (an (ti trivial) e2888)))) (ti (ti trivial))) (Wv.refl _)
  | inr r2887 =>
   dsimp only at h
   have e2889 := (an (ti trivial) (VRun.loop hph2884))
   obtain ⟨r2890, h2891, h⟩ := bs h
   have e2892 := (ti (an (nspeculumref06_Mean_ok k a0 _ h2891) (ti (ti trivial))))
   obtain ⟨r2930, h2929, h⟩ := bs h
   have hph2929 := nspeculumref06_CheckReference_l2_0_ok k a0 a1 r2890 _ _ _ h2929
   cases r2930 with
   | inl r2931 =>
    dsimp only at h
    have e2933 := (an (ti trivial) (VRun.loop hph2929))
    injection h with h; subst h
    exact fun_ok pm pn Try.func20 (r0 := VV.tu [vi 0, vi 22]) (ans := [.reg (nN 4 []), .reg (nN 4 []), .reg (.n :: []), .sub ⟨[(2, none), (3, none), (6, none), (7, none)], [none, none], []⟩ (.exit 0) (nspeculumref06_CheckReference_l0_0_e1 a0 a1 r2845), .reg (.n :: []), .sub ⟨[(2, none), (3, none), (6, none), (8, none)], [none, none], []⟩ (.exit 2) (nspeculumref06_CheckReference_l1_0_e1 a0 a1 r2887), .reg (.n :: .call (VV.ag (c_SFrac r2890)) :: .n :: .n :: []), .reg (.n :: []), .sub ⟨[(2, none), (3, none), (9, none), (10, none)], [none, none, none], []⟩ .ret (nspeculumref06_CheckReference_l2_0_e0 a0 a1 r2890 r2931)]) (fr := true) (by kernel_rfl) (an (an (ti (ti (ti (ti trivial)))) (an (ti (ti (ti (ti trivial)))) (an (an (ti trivial) e2847) (an (an (ti trivial) e2889) (an e2892 (an (ti trivial) e2933)))))) (ti (ti trivial))) (Wv.refl _)
   | inr r2932 =>
    dsimp only at h
    have e2934 := (an (ti trivial) (VRun.loop hph2929))
    have e2935 := (show (0:Int) <= 0 /\ (0:Int) < ((2 : Nat) : Int) from ⟨by decide, by decide⟩)
    obtain ⟨h2936, h⟩ := ifn h
    have e2937 := (show loadL Try.prog 3 (a1.Touch.e0.toNat * 1) (List.map vi a0.Q) = some (vi (a0.Q.getD a1.Touch.e0.toNat 0)) from ld_map ag3 vi a0.Q 0 h2936 (by omega))
    rcases ifs h with ⟨h2938, h⟩ | ⟨h2938, h⟩
    ·have e2939 := (ti (ti (ti (an e2935 (ti (an h2936 (an e2937 (ti (ti (ti (ti (ti (ti (ti (an (decide_eq_true h2938) (an (decide_eq_true h2938) (an (decide_eq_true h2938) (an (decide_eq_true h2938) (an (decide_eq_true h2938) (an (decide_eq_true h2938) (an (decide_eq_true h2938) (an (decide_eq_true h2938) (an (decide_eq_true h2938) (an (decide_eq_true h2938) (an (decide_eq_true h2938) (an (decide_eq_true h2938) (an (decide_eq_true h2938) (an (decide_eq_true h2938) trivial))))))))))))))))))))))))))))
     injection h with h; subst h
     exact fun_ok pm pn Try.func20 (r0 := VV.tu [vi 0, vi 22]) (ans := [.reg (nN 4 []), .reg (nN 4 []), .reg (.n :: []), .sub ⟨[(2, none), (3, none), (6, none), (7, none)], [none, none], []⟩ (.exit 0) (nspeculumref06_CheckReference_l0_0_e1 a0 a1 r2845), .reg (.n :: []), .sub ⟨[(2, none), (3, none), (6, none), (8, none)], [none, none], []⟩ (.exit 2) (nspeculumref06_CheckReference_l1_0_e1 a0 a1 r2887), .reg (.n :: .call (VV.ag (c_SFrac r2890)) :: .n :: .n :: []), .reg (.n :: []), .sub ⟨[(2, none), (3, none), (9, none), (10, none)], [none, none, none], []⟩ (.exit 4) (nspeculumref06_CheckReference_l2_0_e1 a0 a1 r2890 r2932), .reg (nN 6 (.v (vi (a0.Q.getD a1.Touch.e0.toNat 0)) :: nN 7 (nS 13 (.b true :: [])))), .br true, .reg (.n :: .n :: [])]) (fr := true) (by kernel_rfl) (an (an (ti (ti (ti (ti trivial)))) (an (ti (ti (ti (ti trivial)))) (an (an (ti trivial) e2847) (an (an (ti trivial) e2889) (an e2892 (an (an (ti trivial) e2934) (an e2939 (an rt (an (ti (ti trivial)) trivial))))))))) (ti (ti trivial))) (Wv.refl _)
    ·have e2940 := (an (decide_eq_false h2938) (show (0:Int) <= 1 /\ (1:Int) < ((2 : Nat) : Int) from ⟨by decide, by decide⟩))
     obtain ⟨h2941, h⟩ := ifn h
     have e2942 := (an (decide_eq_false h2938) (show loadL Try.prog 3 (a1.Touch.e1.toNat * 1) (List.map vi a0.Q) = some (vi (a0.Q.getD a1.Touch.e1.toNat 0)) from ld_map ag3 vi a0.Q 0 h2941 (by omega)))
     have e2943 := (ti (ti (ti (an e2935 (ti (an h2936 (an e2937 (ti (ti (ti (ti (ti (ti (ti (an (an (decide_eq_false h2938) trivial) (an (an (decide_eq_false h2938) trivial) (an (an (decide_eq_false h2938) trivial) (an e2940 (an (an (decide_eq_false h2938) trivial) (an (an (decide_eq_false h2938) h2941) (an e2942 (an (an (decide_eq_false h2938) trivial) (an (an (decide_eq_false h2938) trivial) (an (an (decide_eq_false h2938) trivial) (an (an (decide_eq_false h2938) trivial) (an (an (decide_eq_false h2938) trivial) (an (an (decide_eq_false h2938) trivial) (an (decide_eq_false h2938) trivial))))))))))))))))))))))))))))
     rcases ifs h with ⟨h2944, h⟩ | ⟨h2944, h⟩
     ·injection h with h; subst h
      exact fun_ok pm pn Try.func20 (r0 := VV.tu [vi 0, vi 22]) (ans := [.reg (nN 4 []), .reg (nN 4 []), .reg (.n :: []), .sub ⟨[(2, none), (3, none), (6, none), (7, none)], [none, none], []⟩ (.exit 0) (nspeculumref06_CheckReference_l0_0_e1 a0 a1 r2845), .reg (.n :: []), .sub ⟨[(2, none), (3, none), (6, none), (8, none)], [none, none], []⟩ (.exit 2) (nspeculumref06_CheckReference_l1_0_e1 a0 a1 r2887), .reg (.n :: .call (VV.ag (c_SFrac r2890)) :: .n :: .n :: []), .reg (.n :: []), .sub ⟨[(2, none), (3, none), (9, none), (10, none)], [none, none, none], []⟩ (.exit 4) (nspeculumref06_CheckReference_l2_0_e1 a0 a1 r2890 r2932), .reg (arE3_11 a0 a1), .br true, .reg (.n :: .n :: [])]) (fr := true) (by kernel_rfl) (an (an (ti (ti (ti (ti trivial)))) (an (ti (ti (ti (ti trivial)))) (an (an (ti trivial) e2847) (an (an (ti trivial) e2889) (an e2892 (an (an (ti trivial) e2934) (an e2943 (an (decide_eq_true h2944) (an (ti (ti trivial)) trivial))))))))) (ti (ti trivial))) (Wv.refl _)
     ·injection h with h; subst h
      exact fun_ok pm pn Try.func20 (r0 := VV.tu [vi 0, vi 0]) (ans := [.reg (nN 4 []), .reg (nN 4 []), .reg (.n :: []), .sub ⟨[(2, none), (3, none), (6, none), (7, none)], [none, none], []⟩ (.exit 0) (nspeculumref06_CheckReference_l0_0_e1 a0 a1 r2845), .reg (.n :: []), .sub ⟨[(2, none), (3, none), (6, none), (8, none)], [none, none], []⟩ (.exit 2) (nspeculumref06_CheckReference_l1_0_e1 a0 a1 r2887), .reg (.n :: .call (VV.ag (c_SFrac r2890)) :: .n :: .n :: []), .reg (.n :: []), .sub ⟨[(2, none), (3, none), (9, none), (10, none)], [none, none, none], []⟩ (.exit 4) (nspeculumref06_CheckReference_l2_0_e1 a0 a1 r2890 r2932), .reg (arE3_11 a0 a1), .br false, .reg (.n :: .n :: [])]) (fr := true) (by kernel_rfl) (an (an (ti (ti (ti (ti trivial)))) (an (ti (ti (ti (ti trivial)))) (an (an (ti trivial) e2847) (an (an (ti trivial) e2889) (an e2892 (an (an (ti trivial) e2934) (an (an e2943 (an (decide_eq_false h2944) trivial)) (an (ti (ti trivial)) trivial)))))))) (ti (ti trivial))) (Wv.refl _)
def nfigure_CheckReference_l0_0_h (a0 : SRemovalMap) (a1 : SLowerLine) (x29 : Int) : VS := ⟨mkA [(2, VV.pt 0 0), (3, VV.pt 1 0), (28, VV.ag (c_A27 a1.Touch)), (29, vi x29)], [some ⟨true, 1, c_SRemovalMap a0⟩, some ⟨true, 1, c_SLowerLine a1⟩], .nil⟩
def nfigure_CheckReference_l0_0_e0 (a0 : SRemovalMap) (a1 : SLowerLine) (r : Unit) : VS := ⟨mkA [(4, vi 0), (5, vi 6)], [], .nil⟩
def nfigure_CheckReference_l0_0_e1 (a0 : SRemovalMap) (a1 : SLowerLine) (r : Unit) : VS := ⟨mkA [(2, VV.pt 0 0), (3, VV.pt 1 0)], [some ⟨true, 1, c_SRemovalMap a0⟩, some ⟨true, 1, c_SLowerLine a1⟩], .nil⟩
def nfigure_CheckReference_l0_0 (k : Nat) (a0 : SRemovalMap) (a1 : SLowerLine) : Nat -> Int -> Option (Sum Unit Unit)
 | 0, _ => none
 | fuel + 1, x29 => if x29 < 2 then (if x29 = 0 then ((nfigure_isWithin k a1.Touch.e0 0 (w64 ((a0.Heights.length : Int) - 1))).bind fun r3069 => (if r3069 = true then (nfigure_CheckReference_l0_0 k a0 a1 fuel (w64 (x29 + 1))) else (some (.inl ())))) else (if x29 = 1 then ((nfigure_isWithin k a1.Touch.e1 0 (w64 ((a0.Heights.length : Int) - 1))).bind fun r3075 => (if r3075 = true then (nfigure_CheckReference_l0_0 k a0 a1 fuel (w64 (x29 + 1))) else (some (.inl ())))) else none)) else (some (.inr ()))
theorem nfigure_CheckReference_l0_0_ok (k : Nat) (a0 : SRemovalMap) (a1 : SLowerLine) : ∀ (fuel : Nat) (x29 : Int) (r : Sum Unit Unit), nfigure_CheckReference_l0_0 k a0 a1 fuel x29 = some r -> (match r with | .inl r => VLoop none Try.prog (szF Try.f21) (bodyOf Try.f21 0) (nfigure_CheckReference_l0_0_h a0 a1 x29) .ret (nfigure_CheckReference_l0_0_e0 a0 a1 r) | .inr r => VLoop none Try.prog (szF Try.f21) (bodyOf Try.f21 0) (nfigure_CheckReference_l0_0_h a0 a1 x29) (.exit 0) (nfigure_CheckReference_l0_0_e1 a0 a1 r)) := by
 intro fuel
 induction fuel with
 | zero => intro x29 r h; rw [nfigure_CheckReference_l0_0.eq_1] at h; cases h
 | succ fuel ih =>
  intro x29 r h
  rw [nfigure_CheckReference_l0_0.eq_2] at h
  rcases ifs h with ⟨h3066, h⟩ | ⟨h3066, h⟩
  ·rcases ifs h with ⟨h3067, h⟩ | ⟨h3067, h⟩
   ·have e3068 := (show (0:Int) <= x29 /\ x29 < ((2 : Nat) : Int) /\ partV (x29.toNat * 1) none [vi a1.Touch.e0, vi a1.Touch.e1] = some (vi a1.Touch.e0) from ⟨by have := (of_decide_eq_true (decide_eq_true h3067)); omega, by have := (of_decide_eq_true (decide_eq_true h3067)); omega, by rw [show x29 = (0 : Int) from (of_decide_eq_true (decide_eq_true h3067))]; rfl⟩)
    obtain ⟨r3069, h3070, h⟩ := bs h
    have e3071 := (nfigure_isWithin_ok k a1.Touch.e0 0 (w64 ((a0.Heights.length : Int) - 1)) _ h3070)
    rcases ifs h with ⟨h3072, h⟩ | ⟨h3072, h⟩
    ·have h2 := ih _ _ h
     obtain ⟨q, hv, hq⟩ := pkR (rd := none) (P := Try.prog) (fn := Try.f21) (k := 0) (s := (nfigure_CheckReference_l0_0_h a0 a1 x29)) (ans := [.reg (.n :: []), .br true, .reg (.v (vi a1.Touch.e0) :: .n :: []), .reg (nN 5 (.call (vb r3069) :: .n :: [])), .br false, .reg (.n :: .n :: [])]) (c := ⟨[(2, none), (3, none), (28, none), (29, none)], [none, none], []⟩) (e := .normal) (s1 := (nfigure_CheckReference_l0_0_h a0 a1 (w64 (x29 + 1)))) (an (an (ti trivial) (an (an (decide_eq_true h3066) trivial) (an (an (an e3068 (ti trivial)) (an (ti (ti (ti (ti (ti (an e3071 (ti trivial))))))) (an (not_f h3072) trivial))) (ti (ti trivial))))) (ti trivial)) (by kernel_rfl)
     cases r with
     | inl r => exact round_next pm pn hv hq h2
     | inr r =>
      exact round_next pm pn hv hq h2
    ·injection h with h; subst h
     exact round_stop (c := ⟨[(4, none), (5, none)], [], []⟩) (s1 := (nfigure_CheckReference_l0_0_e0 a0 a1 ())) pm pn (ans := [.reg (.n :: []), .br true, .reg (.v (vi a1.Touch.e0) :: .n :: []), .reg (nN 5 (.call (vb r3069) :: .n :: [])), .br true, .reg (.n :: .n :: [])]) (by kernel_rfl) (by intro e; cases e) (an (an (ti trivial) (an (an (decide_eq_true h3066) trivial) (an (an e3068 (ti trivial)) (an (ti (ti (ti (ti (ti (an e3071 (ti trivial))))))) (an (not_t (bool_f h3072)) (an (ti (ti trivial)) trivial)))))) (ti trivial))
   ·rcases ifs h with ⟨h3073, h⟩ | ⟨h3073, h⟩
    ·have e3074 := (show (0:Int) <= x29 /\ x29 < ((2 : Nat) : Int) /\ partV (x29.toNat * 1) none [vi a1.Touch.e0, vi a1.Touch.e1] = some (vi a1.Touch.e1) from ⟨by have := (of_decide_eq_true (decide_eq_true h3073)); omega, by have := (of_decide_eq_true (decide_eq_true h3073)); omega, by rw [show x29 = (1 : Int) from (of_decide_eq_true (decide_eq_true h3073))]; rfl⟩)
     obtain ⟨r3075, h3076, h⟩ := bs h
     have e3077 := (nfigure_isWithin_ok k a1.Touch.e1 0 (w64 ((a0.Heights.length : Int) - 1)) _ h3076)
     rcases ifs h with ⟨h3078, h⟩ | ⟨h3078, h⟩
     ·have h2 := ih _ _ h
      obtain ⟨q, hv, hq⟩ := pkR (rd := none) (P := Try.prog) (fn := Try.f21) (k := 0) (s := (nfigure_CheckReference_l0_0_h a0 a1 x29)) (ans := [.reg (.n :: []), .br true, .reg (.v (vi a1.Touch.e1) :: .n :: []), .reg (nN 5 (.call (vb r3075) :: .n :: [])), .br false, .reg (.n :: .n :: [])]) (c := ⟨[(2, none), (3, none), (28, none), (29, none)], [none, none], []⟩) (e := .normal) (s1 := (nfigure_CheckReference_l0_0_h a0 a1 (w64 (x29 + 1)))) (an (an (ti trivial) (an (an (decide_eq_true h3066) trivial) (an (an (an e3074 (ti trivial)) (an (ti (ti (ti (ti (ti (an e3077 (ti trivial))))))) (an (not_f h3078) trivial))) (ti (ti trivial))))) (ti trivial)) (by kernel_rfl)
      cases r with
      | inl r => exact round_next pm pn hv hq h2
      | inr r =>
       exact round_next pm pn hv hq h2
     ·injection h with h; subst h
      exact round_stop (c := ⟨[(4, none), (5, none)], [], []⟩) (s1 := (nfigure_CheckReference_l0_0_e0 a0 a1 ())) pm pn (ans := [.reg (.n :: []), .br true, .reg (.v (vi a1.Touch.e1) :: .n :: []), .reg (nN 5 (.call (vb r3075) :: .n :: [])), .br true, .reg (.n :: .n :: [])]) (by kernel_rfl) (by intro e; cases e) (an (an (ti trivial) (an (an (decide_eq_true h3066) trivial) (an (an e3074 (ti trivial)) (an (ti (ti (ti (ti (ti (an e3077 (ti trivial))))))) (an (not_t (bool_f h3078)) (an (ti (ti trivial)) trivial)))))) (ti trivial))
    ·cases h
  ·injection h with h; subst h
   exact round_stop (c := ⟨[(2, none), (3, none)], [none, none], []⟩) (s1 := (nfigure_CheckReference_l0_0_e1 a0 a1 ())) pm pn (ans := [.reg (.n :: []), .br false]) (by kernel_rfl) (by intro e; cases e) (an (an (ti trivial) (an (decide_eq_false h3066) trivial)) (ti trivial))
def nfigure_CheckReference_l1_0_h (a0 : SRemovalMap) (a1 : SLowerLine) (x42 : Int) : VS := ⟨mkA [(2, VV.pt 0 0), (3, VV.pt 1 0), (41, VV.ag (c_A27 a1.Touch)), (42, vi x42)], [some ⟨true, 1, c_SRemovalMap a0⟩, some ⟨true, 1, c_SLowerLine a1⟩], .nil⟩
def nfigure_CheckReference_l1_0_e0 (a0 : SRemovalMap) (a1 : SLowerLine) (r : Unit) : VS := ⟨mkA [(4, vi 0), (5, vi 22)], [], .nil⟩
def nfigure_CheckReference_l1_0_e1 (a0 : SRemovalMap) (a1 : SLowerLine) (r : Unit) : VS := ⟨mkA [(2, VV.pt 0 0), (3, VV.pt 1 0)], [some ⟨true, 1, c_SRemovalMap a0⟩, some ⟨true, 1, c_SLowerLine a1⟩], .nil⟩
def nfigure_CheckReference_l1_0 (k : Nat) (a0 : SRemovalMap) (a1 : SLowerLine) : Nat -> Int -> Option (Sum Unit Unit)
 | 0, _ => none
 | fuel + 1, x42 => if x42 < 2 then (if x42 = 0 then ((nfigure_removalTimesDen k a0 a1 a1.Touch.e0).bind fun r3106 => (if r3106 = 0 then (nfigure_CheckReference_l1_0 k a0 a1 fuel (w64 (x42 + 1))) else (some (.inl ())))) else (if x42 = 1 then ((nfigure_removalTimesDen k a0 a1 a1.Touch.e1).bind fun r3112 => (if r3112 = 0 then (nfigure_CheckReference_l1_0 k a0 a1 fuel (w64 (x42 + 1))) else (some (.inl ())))) else none)) else (some (.inr ()))
theorem nfigure_CheckReference_l1_0_ok (k : Nat) (a0 : SRemovalMap) (a1 : SLowerLine) : ∀ (fuel : Nat) (x42 : Int) (r : Sum Unit Unit), nfigure_CheckReference_l1_0 k a0 a1 fuel x42 = some r -> (match r with | .inl r => VLoop none Try.prog (szF Try.f21) (bodyOf Try.f21 1) (nfigure_CheckReference_l1_0_h a0 a1 x42) .ret (nfigure_CheckReference_l1_0_e0 a0 a1 r) | .inr r => VLoop none Try.prog (szF Try.f21) (bodyOf Try.f21 1) (nfigure_CheckReference_l1_0_h a0 a1 x42) (.exit 2) (nfigure_CheckReference_l1_0_e1 a0 a1 r)) := by
 intro fuel
 induction fuel with
 | zero => intro x42 r h; rw [nfigure_CheckReference_l1_0.eq_1] at h; cases h
 | succ fuel ih =>
  intro x42 r h
  rw [nfigure_CheckReference_l1_0.eq_2] at h
  rcases ifs h with ⟨h3103, h⟩ | ⟨h3103, h⟩
  ·rcases ifs h with ⟨h3104, h⟩ | ⟨h3104, h⟩
   ·have e3105 := (show (0:Int) <= x42 /\ x42 < ((2 : Nat) : Int) /\ partV (x42.toNat * 1) none [vi a1.Touch.e0, vi a1.Touch.e1] = some (vi a1.Touch.e0) from ⟨by have := (of_decide_eq_true (decide_eq_true h3104)); omega, by have := (of_decide_eq_true (decide_eq_true h3104)); omega, by rw [show x42 = (0 : Int) from (of_decide_eq_true (decide_eq_true h3104))]; rfl⟩)
    obtain ⟨r3106, h3107, h⟩ := bs h
    have e3108 := (nfigure_removalTimesDen_ok k a0 a1 a1.Touch.e0 _ h3107)
    rcases ifs h with ⟨h3109, h⟩ | ⟨h3109, h⟩
    ·have h2 := ih _ _ h
     obtain ⟨q, hv, hq⟩ := pkR (rd := none) (P := Try.prog) (fn := Try.f21) (k := 1) (s := (nfigure_CheckReference_l1_0_h a0 a1 x42)) (ans := [.reg (.n :: []), .br true, .reg (.v (vi a1.Touch.e0) :: .n :: []), .reg (nN 3 (.call (vi r3106) :: .n :: [])), .br false, .reg (.n :: .n :: [])]) (c := ⟨[(2, none), (3, none), (41, none), (42, none)], [none, none], []⟩) (e := .normal) (s1 := (nfigure_CheckReference_l1_0_h a0 a1 (w64 (x42 + 1)))) (an (an (ti trivial) (an (an (decide_eq_true h3103) trivial) (an (an (an e3105 (ti trivial)) (an (ti (ti (ti (an e3108 (ti trivial))))) (an (not_f (decide_eq_true h3109)) trivial))) (ti (ti trivial))))) (ti trivial)) (by kernel_rfl)
     cases r with
     | inl r => exact round_next pm pn hv hq h2
     | inr r =>
      exact round_next pm pn hv hq h2
    ·injection h with h; subst h
     exact round_stop (c := ⟨[(4, none), (5, none)], [], []⟩) (s1 := (nfigure_CheckReference_l1_0_e0 a0 a1 ())) pm pn (ans := [.reg (.n :: []), .br true, .reg (.v (vi a1.Touch.e0) :: .n :: []), .reg (nN 3 (.call (vi r3106) :: .n :: [])), .br true, .reg (.n :: .n :: [])]) (by kernel_rfl) (by intro e; cases e) (an (an (ti trivial) (an (an (decide_eq_true h3103) trivial) (an (an e3105 (ti trivial)) (an (ti (ti (ti (an e3108 (ti trivial))))) (an (not_t (decide_eq_false h3109)) (an (ti (ti trivial)) trivial)))))) (ti trivial))
   ·rcases ifs h with ⟨h3110, h⟩ | ⟨h3110, h⟩
    ·have e3111 := (show (0:Int) <= x42 /\ x42 < ((2 : Nat) : Int) /\ partV (x42.toNat * 1) none [vi a1.Touch.e0, vi a1.Touch.e1] = some (vi a1.Touch.e1) from ⟨by have := (of_decide_eq_true (decide_eq_true h3110)); omega, by have := (of_decide_eq_true (decide_eq_true h3110)); omega, by rw [show x42 = (1 : Int) from (of_decide_eq_true (decide_eq_true h3110))]; rfl⟩)
     obtain ⟨r3112, h3113, h⟩ := bs h
     have e3114 := (nfigure_removalTimesDen_ok k a0 a1 a1.Touch.e1 _ h3113)
     rcases ifs h with ⟨h3115, h⟩ | ⟨h3115, h⟩
     ·have h2 := ih _ _ h
      obtain ⟨q, hv, hq⟩ := pkR (rd := none) (P := Try.prog) (fn := Try.f21) (k := 1) (s := (nfigure_CheckReference_l1_0_h a0 a1 x42)) (ans := [.reg (.n :: []), .br true, .reg (.v (vi a1.Touch.e1) :: .n :: []), .reg (nN 3 (.call (vi r3112) :: .n :: [])), .br false, .reg (.n :: .n :: [])]) (c := ⟨[(2, none), (3, none), (41, none), (42, none)], [none, none], []⟩) (e := .normal) (s1 := (nfigure_CheckReference_l1_0_h a0 a1 (w64 (x42 + 1)))) (an (an (ti trivial) (an (an (decide_eq_true h3103) trivial) (an (an (an e3111 (ti trivial)) (an (ti (ti (ti (an e3114 (ti trivial))))) (an (not_f (decide_eq_true h3115)) trivial))) (ti (ti trivial))))) (ti trivial)) (by kernel_rfl)
      cases r with
      | inl r => exact round_next pm pn hv hq h2
      | inr r =>
       exact round_next pm pn hv hq h2
     ·injection h with h; subst h
      exact round_stop (c := ⟨[(4, none), (5, none)], [], []⟩) (s1 := (nfigure_CheckReference_l1_0_e0 a0 a1 ())) pm pn (ans := [.reg (.n :: []), .br true, .reg (.v (vi a1.Touch.e1) :: .n :: []), .reg (nN 3 (.call (vi r3112) :: .n :: [])), .br true, .reg (.n :: .n :: [])]) (by kernel_rfl) (by intro e; cases e) (an (an (ti trivial) (an (an (decide_eq_true h3103) trivial) (an (an e3111 (ti trivial)) (an (ti (ti (ti (an e3114 (ti trivial))))) (an (not_t (decide_eq_false h3115)) (an (ti (ti trivial)) trivial)))))) (ti trivial))
    ·cases h
  ·injection h with h; subst h
   exact round_stop (c := ⟨[(2, none), (3, none)], [none, none], []⟩) (s1 := (nfigure_CheckReference_l1_0_e1 a0 a1 ())) pm pn (ans := [.reg (.n :: []), .br false]) (by kernel_rfl) (by intro e; cases e) (an (an (ti trivial) (an (decide_eq_false h3103) trivial)) (ti trivial))
def nfigure_CheckReference (k : Nat) (a0 : SRemovalMap) (a1 : SLowerLine) : Option (Int × Int) :=
 (nfigure_checkLine k a0 a1).bind fun r3040 => (if r3040 = 0 then ((nfigure_firstDug k a0 a1).bind fun r3044 => (if r3044.2 = true then (some (r3044.1, 26)) else ((nfigure_CheckReference_l0_0 k a0 a1 k 0).bind fun r3080 => (match r3080 with | .inl r3081 => (some (0, 6)) | .inr r3082 => ((nfigure_CheckReference_l1_0 k a0 a1 k 0).bind fun r3117 => (match r3117 with | .inl r3118 => (some (0, 22)) | .inr r3119 => ((nfigure_areAround k a0 a1.Touch.e0 a1.Touch.e1).bind fun r3124 => (if r3124 = true then (some (0, 0)) else (some (0, 22)))))))))) else (some (0, r3040)))
theorem nfigure_CheckReference_ok (k : Nat) (a0 : SRemovalMap) (a1 : SLowerLine) (r : (Int × Int)) (h : nfigure_CheckReference k a0 a1 = some r) : VC Try.prog 21 [VV.ag (c_SRemovalMap a0), VV.ag (c_SLowerLine a1)] (VV.tu [vi r.1, vi r.2]) := by
 unfold nfigure_CheckReference at h
 obtain ⟨r3040, h3041, h⟩ := bs h
 have e3042 := (ti (ti (an (nfigure_checkLine_ok k a0 a1 _ h3041) (ti trivial))))
 rcases ifs h with ⟨h3043, h⟩ | ⟨h3043, h⟩
 ·obtain ⟨r3044, h3045, h⟩ := bs h
  have e3046 := (ti (ti (an (nfigure_firstDug_ok k a0 a1 _ h3045) (ti (ti (ti (ti (ti trivial))))))))
  rcases ifs h with ⟨h3047, h⟩ | ⟨h3047, h⟩
  ·injection h with h; subst h
   exact fun_ok pm pn Try.func21 (r0 := VV.tu [vi r3044.1, vi 26]) (ans := [.reg (nN 4 []), .reg (.n :: .n :: .call (vi r3040) :: .n :: []), .reg (.n :: .n :: []), .br false, .reg (.n :: .n :: .call (VV.tu [vi r3044.1, vb r3044.2]) :: nN 5 []), .reg (.n :: []), .br true, .reg (nN 3 [])]) (fr := true) (by kernel_rfl) (an (an (ti (ti (ti (ti trivial)))) (an (an e3042 (an (ti (ti trivial)) (an (not_f (decide_eq_true h3043)) trivial))) (an e3046 (an (ti trivial) (an h3047 (an (ti (ti (ti trivial))) trivial)))))) (ti (ti trivial))) (Wv.refl _)
  ·obtain ⟨r3080, h3079, h⟩ := bs h
   have hph3079 := nfigure_CheckReference_l0_0_ok k a0 a1 _ _ _ h3079
   cases r3080 with
   | inl r3081 =>
    dsimp only at h
    have e3083 := (an (ti trivial) (VRun.loop hph3079))
    injection h with h; subst h
    exact fun_ok pm pn Try.func21 (r0 := VV.tu [vi 0, vi 6]) (ans := [.reg (nN 4 []), .reg (.n :: .n :: .call (vi r3040) :: .n :: []), .reg (.n :: .n :: []), .br false, .reg (.n :: .n :: .call (VV.tu [vi r3044.1, vb r3044.2]) :: nN 5 []), .reg (.n :: []), .br false, .reg (nN 3 []), .sub ⟨[(2, none), (3, none), (28, none), (29, none)], [none, none], []⟩ .ret (nfigure_CheckReference_l0_0_e0 a0 a1 r3081)]) (fr := true) (by kernel_rfl) (an (an (ti (ti (ti (ti trivial)))) (an (an e3042 (an (ti (ti trivial)) (an (not_f (decide_eq_true h3043)) trivial))) (an (an e3046 (an (ti trivial) (an (bool_f h3047) trivial))) (an (ti (ti (ti trivial))) e3083)))) (ti (ti trivial))) (Wv.refl _)
   | inr r3082 =>
    dsimp only at h
    have e3084 := (an (ti trivial) (VRun.loop hph3079))
    obtain ⟨r3117, h3116, h⟩ := bs h
    have hph3116 := nfigure_CheckReference_l1_0_ok k a0 a1 _ _ _ h3116
    cases r3117 with
    | inl r3118 =>
     dsimp only at h
     have e3120 := (an (ti trivial) (VRun.loop hph3116))
     injection h with h; subst h
     exact fun_ok pm pn Try.func21 (r0 := VV.tu [vi 0, vi 22]) (ans := [.reg (nN 4 []), .reg (.n :: .n :: .call (vi r3040) :: .n :: []), .reg (.n :: .n :: []), .br false, .reg (.n :: .n :: .call (VV.tu [vi r3044.1, vb r3044.2]) :: nN 5 []), .reg (.n :: []), .br false, .reg (nN 3 []), .sub ⟨[(2, none), (3, none), (28, none), (29, none)], [none, none], []⟩ (.exit 0) (nfigure_CheckReference_l0_0_e1 a0 a1 r3082), .reg (nN 3 []), .sub ⟨[(2, none), (3, none), (41, none), (42, none)], [none, none], []⟩ .ret (nfigure_CheckReference_l1_0_e0 a0 a1 r3118)]) (fr := true) (by kernel_rfl) (an (an (ti (ti (ti (ti trivial)))) (an (an e3042 (an (ti (ti trivial)) (an (not_f (decide_eq_true h3043)) trivial))) (an (an e3046 (an (ti trivial) (an (bool_f h3047) trivial))) (an (an (ti (ti (ti trivial))) e3084) (an (ti (ti (ti trivial))) e3120))))) (ti (ti trivial))) (Wv.refl _)
    | inr r3119 =>
     dsimp only at h
     have e3121 := (an (ti trivial) (VRun.loop hph3116))
     have e3122 := (show (0:Int) <= 0 /\ (0:Int) < ((2 : Nat) : Int) from ⟨by decide, by decide⟩)
     have e3123 := (show (0:Int) <= 1 /\ (1:Int) < ((2 : Nat) : Int) from ⟨by decide, by decide⟩)
     obtain ⟨r3124, h3125, h⟩ := bs h
     have e3126 := (nfigure_areAround_ok k a0 a1.Touch.e0 a1.Touch.e1 _ h3125)
     have e3127 := (ti (ti (an e3122 (ti (ti (an e3123 (ti (an e3126 (ti trivial)))))))))
     rcases ifs h with ⟨h3128, h⟩ | ⟨h3128, h⟩
     ·injection h with h; subst h
      exact fun_ok pm pn Try.func21 (r0 := VV.tu [vi 0, vi 0]) (ans := [.reg (nN 4 []), .reg (.n :: .n :: .call (vi r3040) :: .n :: []), .reg (.n :: .n :: []), .br false, .reg (.n :: .n :: .call (VV.tu [vi r3044.1, vb r3044.2]) :: nN 5 []), .reg (.n :: []), .br false, .reg (nN 3 []), .sub ⟨[(2, none), (3, none), (28, none), (29, none)], [none, none], []⟩ (.exit 0) (nfigure_CheckReference_l0_0_e1 a0 a1 r3082), .reg (nN 3 []), .sub ⟨[(2, none), (3, none), (41, none), (42, none)], [none, none], []⟩ (.exit 2) (nfigure_CheckReference_l1_0_e1 a0 a1 r3119), .reg (nN 7 (.call (vb r3124) :: .n :: [])), .br false, .reg (.n :: .n :: [])]) (fr := true) (by kernel_rfl) (an (an (ti (ti (ti (ti trivial)))) (an (an e3042 (an (ti (ti trivial)) (an (not_f (decide_eq_true h3043)) trivial))) (an (an e3046 (an (ti trivial) (an (bool_f h3047) trivial))) (an (an (ti (ti (ti trivial))) e3084) (an (an (ti (ti (ti trivial))) e3121) (an (an e3127 (an (not_f h3128) trivial)) (an (ti (ti trivial)) trivial))))))) (ti (ti trivial))) (Wv.refl _)
     ·injection h with h; subst h
      exact fun_ok pm pn Try.func21 (r0 := VV.tu [vi 0, vi 22]) (ans := [.reg (nN 4 []), .reg (.n :: .n :: .call (vi r3040) :: .n :: []), .reg (.n :: .n :: []), .br false, .reg (.n :: .n :: .call (VV.tu [vi r3044.1, vb r3044.2]) :: nN 5 []), .reg (.n :: []), .br false, .reg (nN 3 []), .sub ⟨[(2, none), (3, none), (28, none), (29, none)], [none, none], []⟩ (.exit 0) (nfigure_CheckReference_l0_0_e1 a0 a1 r3082), .reg (nN 3 []), .sub ⟨[(2, none), (3, none), (41, none), (42, none)], [none, none], []⟩ (.exit 2) (nfigure_CheckReference_l1_0_e1 a0 a1 r3119), .reg (nN 7 (.call (vb r3124) :: .n :: [])), .br true, .reg (.n :: .n :: [])]) (fr := true) (by kernel_rfl) (an (an (ti (ti (ti (ti trivial)))) (an (an e3042 (an (ti (ti trivial)) (an (not_f (decide_eq_true h3043)) trivial))) (an (an e3046 (an (ti trivial) (an (bool_f h3047) trivial))) (an (an (ti (ti (ti trivial))) e3084) (an (an (ti (ti (ti trivial))) e3121) (an e3127 (an (not_t (bool_f h3128)) (an (ti (ti trivial)) trivial)))))))) (ti (ti trivial))) (Wv.refl _)
 ·injection h with h; subst h
  exact fun_ok pm pn Try.func21 (r0 := VV.tu [vi 0, vi r3040]) (ans := [.reg (nN 4 []), .reg (.n :: .n :: .call (vi r3040) :: .n :: []), .reg (.n :: .n :: []), .br true, .reg (nN 3 [])]) (fr := true) (by kernel_rfl) (an (an (ti (ti (ti (ti trivial)))) (an e3042 (an (ti (ti trivial)) (an (not_t (decide_eq_false h3043)) (an (ti (ti (ti trivial))) trivial))))) (ti (ti trivial))) (Wv.refl _)
def nspeculumlaw06_none (k : Nat) (a0 : SLowerLine) : Option Bool :=
 some ((a0.Start.Num : Int) == 0 && ((a0.Start.Den : Int) == 0 && ((a0.Slope.Num : Int) == 0 && ((a0.Slope.Den : Int) == 0 && ((a0.Touch.e0 : Int) == 0 && ((a0.Touch.e1 : Int) == 0 && true))))))
theorem nspeculumlaw06_none_ok (k : Nat) (a0 : SLowerLine) (r : Bool) (h : nspeculumlaw06_none k a0 = some r) : VC Try.prog 18 [VV.ag (c_SLowerLine a0)] (vb r) := by
 unfold nspeculumlaw06_none at h
 have e3174 := (show List.map kdV [Value.int .i64 a0.Start.Num, Value.int .i64 a0.Start.Den, Value.int .i64 a0.Slope.Num, Value.int .i64 a0.Slope.Den, Value.int .i64 a0.Touch.e0, Value.int .i64 a0.Touch.e1] = List.map kdV [Value.int .i64 0, Value.int .i64 0, Value.int .i64 0, Value.int .i64 0, Value.int .i64 0, Value.int .i64 0] /\ EqOK Try.prog 29 (List.map kdV [Value.int .i64 0, Value.int .i64 0, Value.int .i64 0, Value.int .i64 0, Value.int .i64 0, Value.int .i64 0]) from ⟨rfl, eqok29⟩)
 injection h with h; subst h
 exact fun_ok pm pn Try.func18 (r0 := vb ((a0.Start.Num : Int) == 0 && ((a0.Start.Den : Int) == 0 && ((a0.Slope.Num : Int) == 0 && ((a0.Slope.Den : Int) == 0 && ((a0.Touch.e0 : Int) == 0 && ((a0.Touch.e1 : Int) == 0 && true))))))) (ans := [.reg (.n :: .n :: []), .reg (nN 4 [])]) (fr := true) (by kernel_rfl) (an (an (ti (ti trivial)) (an (ti (ti (an e3174 (ti trivial)))) trivial)) (ti trivial)) (Wv.refl _)
def nspeculumlaw06_FigureReferences_l0_0_h (a0 : SRemovalMap) (r3193 : (SLowerLine × Int)) (r3197 : (SFrac × Int)) (r3228 : (Int × Int)) (x13 : Int) (x14 : Int) : VS := ⟨mkA [(1, VV.pt 0 0), (3, VV.pt 1 0), (5, VV.pt 2 0), (11, vi r3228.2), (12, vi (w64 (r3193.1.Start.Den * r3193.1.Slope.Den))), (13, vi x13), (14, vi x14)], [some ⟨true, 1, c_SRemovalMap a0⟩, some ⟨true, 1, c_SLowerLine r3193.1⟩, some ⟨true, 1, c_SFrac r3197.1⟩], .nil⟩
def nspeculumlaw06_FigureReferences_l0_0_e0 (a0 : SRemovalMap) (r3193 : (SLowerLine × Int)) (r3197 : (SFrac × Int)) (r3228 : (Int × Int)) (r : Int) : VS := ⟨mkA [(5, VV.pt 2 0), (11, vi r3228.2), (12, vi (w64 (r3193.1.Start.Den * r3193.1.Slope.Den))), (13, vi r)], [some ⟨true, 1, c_SRemovalMap a0⟩, some ⟨true, 1, c_SLowerLine r3193.1⟩, some ⟨true, 1, c_SFrac r3197.1⟩], .nil⟩
def nspeculumlaw06_FigureReferences_l0_0 (k : Nat) (a0 : SRemovalMap) (r3193 : (SLowerLine × Int)) (r3197 : (SFrac × Int)) (r3228 : (Int × Int)) : Nat -> Int -> Int -> Option (Int)
 | 0, _, _ => none
 | fuel + 1, x13, x14 => if x14 < (a0.Heights.length : Int) then ((nspeculumref06_Removal k a0 r3193.1 x14).bind fun r3250 => (if 0 <= x14 /\ x14 < (a0.Weights.length : Int) then (if r3250.Den ≠ 0 then (nspeculumlaw06_FigureReferences_l0_0 k a0 r3193 r3197 r3228 fuel (w64 (x13 + (w64 ((w64 ((a0.Weights.getD x14.toNat 0) * r3250.Num)) * (w64 ((w64 (r3193.1.Start.Den * r3193.1.Slope.Den)).tdiv r3250.Den)))))) (w64 (x14 + 1))) else none) else none)) else (some x13)
theorem nspeculumlaw06_FigureReferences_l0_0_ok (k : Nat) (a0 : SRemovalMap) (r3193 : (SLowerLine × Int)) (r3197 : (SFrac × Int)) (r3228 : (Int × Int)) : ∀ (fuel : Nat) (x13 : Int) (x14 : Int) (r : Int), nspeculumlaw06_FigureReferences_l0_0 k a0 r3193 r3197 r3228 fuel x13 x14 = some r -> (VLoop none Try.prog (szF Try.f4) (bodyOf Try.f4 0) (nspeculumlaw06_FigureReferences_l0_0_h a0 r3193 r3197 r3228 x13 x14) (.exit 0) (nspeculumlaw06_FigureReferences_l0_0_e0 a0 r3193 r3197 r3228 r)) := by
 intro fuel
 induction fuel with
 | zero => intro x13 x14 r h; rw [nspeculumlaw06_FigureReferences_l0_0.eq_1] at h; cases h
 | succ fuel ih =>
  intro x13 x14 r h
  rw [nspeculumlaw06_FigureReferences_l0_0.eq_2] at h
  rcases ifs h with ⟨h3249, h⟩ | ⟨h3249, h⟩
  ·obtain ⟨r3250, h3251, h⟩ := bs h
   have e3252 := (nspeculumref06_Removal_ok k a0 r3193.1 x14 _ h3251)
   obtain ⟨h3253, h⟩ := ifn h
   have e3254 := (show loadL Try.prog 3 (x14.toNat * 1) (List.map vi a0.Weights) = some (vi (a0.Weights.getD x14.toNat 0)) from ld_map ag3 vi a0.Weights 0 h3253 (by omega))
   obtain ⟨h3255, h⟩ := ifn h
   have e3256 := (ti (ti (ti (ti (an h3253 (an e3254 (ti (ti (ti (ti (ti (ti (an h3255 (ti (ti (ti trivial))))))))))))))))
   have h2 := ih _ _ _ h
   obtain ⟨q, hv, hq⟩ := pkR (rd := none) (P := Try.prog) (fn := Try.f4) (k := 0) (s := (nspeculumlaw06_FigureReferences_l0_0_h a0 r3193 r3197 r3228 x13 x14)) (ans := [.reg (nN 5 []), .br true, .reg (nN 3 (.call (VV.ag (c_SFrac r3250)) :: .n :: .n :: [])), .reg (nN 5 (.v (vi (a0.Weights.getD x14.toNat 0)) :: nN 10 [])), .reg (nN 3 [])]) (c := ⟨[(1, none), (3, none), (5, none), (11, none), (12, none), (13, none), (14, none)], [none, none, none], []⟩) (e := .normal) (s1 := (nspeculumlaw06_FigureReferences_l0_0_h a0 r3193 r3197 r3228 (w64 (x13 + (w64 ((w64 ((a0.Weights.getD x14.toNat 0) * r3250.Num)) * (w64 ((w64 (r3193.1.Start.Den * r3193.1.Slope.Den)).tdiv r3250.Den)))))) (w64 (x14 + 1)))) (an (an (an (ti (ti (ti (ti (ti trivial))))) (an (decide_eq_true h3249) trivial)) (an (an (ti (ti (ti (an e3252 (ti (ti trivial)))))) e3256) (ti (ti (ti trivial))))) (ti trivial)) (by kernel_rfl)
   exact round_next pm pn hv hq h2
  ·injection h with h; subst h
   exact round_stop (c := ⟨[(5, none), (11, none), (12, none), (13, none)], [none, none, none], []⟩) (s1 := (nspeculumlaw06_FigureReferences_l0_0_e0 a0 r3193 r3197 r3228 x13)) pm pn (ans := [.reg (nN 5 []), .br false]) (by kernel_rfl) (by intro e; cases e) (an (an (ti (ti (ti (ti (ti trivial))))) (an (decide_eq_false h3249) trivial)) (ti trivial))
def arE3_12 (z0 : SRemovalMap) (z1 : (SLowerLine × Int)) : List Ans := (.n :: .call (VV.ag (g_SRemovalMap z0)) :: .call (VV.tu [VV.ag (c_SLowerLine z1.1), vi z1.2]) :: nN 6 [])
def arE3_13 (z0 : SRemovalMap) (z1 : (SFrac × Int)) : List Ans := (.n :: .call (VV.ag (g_SRemovalMap z0)) :: .call (VV.tu [VV.ag (c_SFrac z1.1), vi z1.2]) :: nN 6 [])
def arE3_14 (z0 : Int) (z1 : SFrac) : List Ans := (nN 5 (.b false :: .n :: .n :: .call (vi z0) :: .n :: .b false :: nN 3 (.call (VV.ag (c_SFrac z1)) :: .n :: .b false :: [])))
def arE3_15 (z0 : SRemovalMap) (z1 : (Int × Int)) : List Ans := (.n :: .call (VV.ag (g_SRemovalMap z0)) :: .n :: .call (VV.tu [vi z1.1, vi z1.2]) :: nN 5 [])
def arE3_16 (z0 : Int) : List Ans := (nN 5 (.b false :: .n :: .n :: .call (vi z0) :: .n :: .b false :: .n :: nS 4 (.b true :: [])))
def arE3_17 (z0 : Bool) : List Ans := (nN 7 (.b true :: .n :: .n :: .call (vb z0) :: .b true :: .n :: nS 3 (.b false :: .n :: [])))
def arE3_18  : List Ans := (nN 4 (nS 3 (.b false :: .n :: .skip :: .skip :: .b false :: .n :: nS 3 (.b false :: .n :: []))))
def nspeculumlaw06_FigureReferences (k : Nat) (a0 : SRemovalMap) : Option Bool :=
 (nawake k).bind fun r3184 => (if r3184 = true then ((nspeculumlaw06_Few k a0).bind fun r3187 => (if r3187 = true then ((nspeculumlaw06_mapped k a0).bind fun r3191 => ((nfigure_Reference k r3191).bind fun r3193 => ((nfigure_Least k r3191).bind fun r3197 => ((nspeculumref06_CheckMap k a0).bind fun r3200 => (if r3200 = 0 then (if r3193.2 = 0 then (if r3197.2 = 0 then ((nspeculumref06_CheckLine k r3193.1).bind fun r3209 => (if r3209 = 0 then ((nspeculumref06_Least k a0).bind fun r3216 => (if ((r3197.1.Num : Int) == r3216.Num && ((r3197.1.Den : Int) == r3216.Den && true)) = true then ((nspeculumref06_CheckReference k a0 r3193.1).bind fun r3222 => (if r3222.2 = 0 then ((nfigure_CheckReference k r3191 r3193.1).bind fun r3228 => ((nspeculumlaw06_FigureReferences_l0_0 k a0 r3193 r3197 r3228 k 0 0).bind fun r3258 => (if r3228.2 = 0 then ((nspeculumbase_Lowest k r3258 (w64 (r3193.1.Start.Den * r3193.1.Slope.Den))).bind fun r3261 => (some ((r3261.Num : Int) == r3197.1.Num && ((r3261.Den : Int) == r3197.1.Den && true)))) else (some false)))) else (some false))) else (some false))) else (some false))) else (some false)) else (some false)) else (if r3193.2 = r3200 then (if r3197.2 = r3200 then ((nspeculumlaw06_none k r3193.1).bind fun r3272 => (if r3272 = true then (some ((r3197.1.Num : Int) == 0 && ((r3197.1.Den : Int) == 0 && true))) else (some false))) else (some false)) else (some false))))))) else (some true))) else (some false))
theorem nspeculumlaw06_FigureReferences_ok (k : Nat) (a0 : SRemovalMap) (r : Bool) (h : nspeculumlaw06_FigureReferences k a0 = some r) : VC Try.prog 4 [VV.ag (c_SRemovalMap a0)] (vb r) := by
 unfold nspeculumlaw06_FigureReferences at h
 obtain ⟨r3184, h3185, h⟩ := bs h
 rcases ifs h with ⟨h3186, h⟩ | ⟨h3186, h⟩
 ·obtain ⟨r3187, h3188, h⟩ := bs h
  have e3189 := (ti (an (nspeculumlaw06_Few_ok k a0 _ h3188) (ti trivial)))
  rcases ifs h with ⟨h3190, h⟩ | ⟨h3190, h⟩
  ·obtain ⟨r3191, h3192, h⟩ := bs h
   obtain ⟨r3193, h3194, h⟩ := bs h
   have e3195 := (ti (an (nspeculumlaw06_mapped_ok k a0 _ h3192) (an (nfigure_Reference_ok k r3191 _ h3194) (ti (ti (ti (ti (ti (ti trivial)))))))))
   obtain ⟨r3197, h3198, h⟩ := bs h
   have e3199 := (ti (an (nspeculumlaw06_mapped_ok k a0 _ h3192) (an (nfigure_Least_ok k r3191 _ h3198) (ti (ti (ti (ti (ti (ti trivial)))))))))
   obtain ⟨r3200, h3201, h⟩ := bs h
   have e3202 := (nspeculumref06_CheckMap_ok k a0 _ h3201)
   rcases ifs h with ⟨h3203, h⟩ | ⟨h3203, h⟩
   ·rcases ifs h with ⟨h3204, h⟩ | ⟨h3204, h⟩
    ·have e3205 := (an (not_f (decide_eq_true h3204)) trivial)
     have e3206 := (an (not_f (decide_eq_true h3204)) trivial)
     rcases ifs h with ⟨h3207, h⟩ | ⟨h3207, h⟩
     ·have e3208 := (an (not_f (decide_eq_true h3207)) trivial)
      obtain ⟨r3209, h3210, h⟩ := bs h
      have e3211 := (an (not_f (decide_eq_true h3207)) (nspeculumref06_CheckLine_ok k r3193.1 _ h3210))
      have e3212 := (an (not_f (decide_eq_true h3207)) trivial)
      rcases ifs h with ⟨h3213, h⟩ | ⟨h3213, h⟩
      ·have e3214 := (an (not_f (decide_eq_true h3213)) trivial)
       have e3215 := (an (not_f (decide_eq_true h3213)) trivial)
       obtain ⟨r3216, h3217, h⟩ := bs h
       have e3218 := (an (not_f (decide_eq_true h3213)) (nspeculumref06_Least_ok k a0 _ h3217))
       have e3219 := (an (not_f (decide_eq_true h3213)) (show List.map kdV [Value.int .i64 r3197.1.Num, Value.int .i64 r3197.1.Den] = List.map kdV [Value.int .i64 r3216.Num, Value.int .i64 r3216.Den] /\ EqOK Try.prog 26 (List.map kdV [Value.int .i64 r3216.Num, Value.int .i64 r3216.Den]) from ⟨rfl, eqok26⟩))
       have e3220 := (ti (ti (ti (an e3205 (an e3206 (an (not_f (decide_eq_true h3204)) (ti (an e3208 (an e3211 (an e3212 (an (not_f (decide_eq_true h3207)) (ti (an e3214 (an e3215 (an e3218 (an e3219 (an (not_f (decide_eq_true h3213)) trivial)))))))))))))))))
       rcases ifs h with ⟨h3221, h⟩ | ⟨h3221, h⟩
       ·obtain ⟨r3222, h3223, h⟩ := bs h
        have e3224 := (nspeculumref06_CheckReference_ok k a0 r3193.1 _ h3223)
        have e3225 := (ti (ti (an e3224 (ti (ti (ti (ti (ti trivial))))))))
        rcases ifs h with ⟨h3226, h⟩ | ⟨h3226, h⟩
        ·obtain ⟨r3228, h3229, h⟩ := bs h
         have e3230 := (nfigure_CheckReference_ok k r3191 r3193.1 _ h3229)
         have e3231 := (ti (an (nspeculumlaw06_mapped_ok k a0 _ h3192) (ti (an e3230 (ti (ti (ti (ti (ti trivial)))))))))
         have e3232 := (ti (ti (ti (ti (ti (ti (ti (ti (ti trivial)))))))))
         obtain ⟨r3258, h3257, h⟩ := bs h
         have hph3257 := nspeculumlaw06_FigureReferences_l0_0_ok k a0 r3193 r3197 r3228 _ _ _ _ h3257
         have e3259 := (an (ti trivial) (VRun.loop hph3257))
         rcases ifs h with ⟨h3260, h⟩ | ⟨h3260, h⟩
         ·obtain ⟨r3261, h3262, h⟩ := bs h
          have e3263 := (an (decide_eq_true h3260) (nspeculumbase_Lowest_ok k r3258 (w64 (r3193.1.Start.Den * r3193.1.Slope.Den)) _ h3262))
          have e3264 := (an (decide_eq_true h3260) (show List.map kdV [Value.int .i64 r3261.Num, Value.int .i64 r3261.Den] = List.map kdV [Value.int .i64 r3197.1.Num, Value.int .i64 r3197.1.Den] /\ EqOK Try.prog 26 (List.map kdV [Value.int .i64 r3197.1.Num, Value.int .i64 r3197.1.Den]) from ⟨rfl, eqok26⟩))
          have e3265 := (ti (ti (ti (an (an (decide_eq_true h3260) trivial) (an (an (decide_eq_true h3260) trivial) (an e3263 (an (an (decide_eq_true h3260) trivial) (an e3264 (an (decide_eq_true h3260) (ti trivial))))))))))
          injection h with h; subst h
          exact fun_ok pm pn Try.func4 (r0 := vb ((r3261.Num : Int) == r3197.1.Num && ((r3261.Den : Int) == r3197.1.Den && true))) (ans := [.reg (.n :: .n :: []), .reg (.call (vb r3184) :: .n :: []), .br false, .reg (.n :: .call (vb r3187) :: .n :: []), .br false, .reg (arE3_12 r3191 r3193), .reg (arE3_13 r3191 r3197), .reg (.n :: .call (vi r3200) :: .n :: []), .reg (.n :: .n :: []), .br false, .reg (arE3_14 r3209 r3216), .br false, .reg (.n :: .n :: .call (VV.tu [vi r3222.1, vi r3222.2]) :: nN 5 []), .reg (.n :: .n :: []), .br false, .reg (arE3_15 r3191 r3228), .reg (nN 9 []), .reg (.n :: []), .sub ⟨[(1, none), (3, none), (5, none), (11, none), (12, none), (13, none), (14, none)], [none, none, none], []⟩ (.exit 0) (nspeculumlaw06_FigureReferences_l0_0_e0 a0 r3193 r3197 r3228 r3258), .reg (nN 5 (.call (VV.ag (c_SFrac r3261)) :: .n :: .n :: .b true :: .n :: []))]) (fr := true) (by kernel_rfl) (an (an (ti (ti trivial)) (an (an (an (nawake_ok k _ h3185) (ti trivial)) (an (not_f h3186) trivial)) (an (an e3189 (an (not_f h3190) trivial)) (an e3195 (an e3199 (an (an (ti (an e3202 (ti trivial))) (an (ti (ti trivial)) (an (not_f (decide_eq_true h3203)) trivial))) (an (an e3220 (an (not_f h3221) trivial)) (an (an e3225 (an (ti (ti trivial)) (an (not_f (decide_eq_true h3226)) trivial))) (an e3231 (an e3232 (an (an (ti trivial) e3259) (an e3265 trivial)))))))))))) (ti trivial)) (Wv.refl _)
         ·have e3266 := (ti (ti (ti (an (decide_eq_false h3260) (an (decide_eq_false h3260) (an (decide_eq_false h3260) (an (decide_eq_false h3260) (an (decide_eq_false h3260) (an (decide_eq_false h3260) (ti trivial))))))))))
          injection h with h; subst h
          exact fun_ok pm pn Try.func4 (r0 := vb false) (ans := [.reg (.n :: .n :: []), .reg (.call (vb r3184) :: .n :: []), .br false, .reg (.n :: .call (vb r3187) :: .n :: []), .br false, .reg (arE3_12 r3191 r3193), .reg (arE3_13 r3191 r3197), .reg (.n :: .call (vi r3200) :: .n :: []), .reg (.n :: .n :: []), .br false, .reg (arE3_14 r3209 r3216), .br false, .reg (.n :: .n :: .call (VV.tu [vi r3222.1, vi r3222.2]) :: nN 5 []), .reg (.n :: .n :: []), .br false, .reg (arE3_15 r3191 r3228), .reg (nN 9 []), .reg (.n :: []), .sub ⟨[(1, none), (3, none), (5, none), (11, none), (12, none), (13, none), (14, none)], [none, none, none], []⟩ (.exit 0) (nspeculumlaw06_FigureReferences_l0_0_e0 a0 r3193 r3197 r3228 r3258), .reg (nN 3 (nS 5 (.b false :: .n :: [])))]) (fr := true) (by kernel_rfl) (an (an (ti (ti trivial)) (an (an (an (nawake_ok k _ h3185) (ti trivial)) (an (not_f h3186) trivial)) (an (an e3189 (an (not_f h3190) trivial)) (an e3195 (an e3199 (an (an (ti (an e3202 (ti trivial))) (an (ti (ti trivial)) (an (not_f (decide_eq_true h3203)) trivial))) (an (an e3220 (an (not_f h3221) trivial)) (an (an e3225 (an (ti (ti trivial)) (an (not_f (decide_eq_true h3226)) trivial))) (an e3231 (an e3232 (an (an (ti trivial) e3259) (an e3266 trivial)))))))))))) (ti trivial)) (Wv.refl _)
        ·injection h with h; subst h
         exact fun_ok pm pn Try.func4 (r0 := vb false) (ans := [.reg (.n :: .n :: []), .reg (.call (vb r3184) :: .n :: []), .br false, .reg (.n :: .call (vb r3187) :: .n :: []), .br false, .reg (arE3_12 r3191 r3193), .reg (arE3_13 r3191 r3197), .reg (.n :: .call (vi r3200) :: .n :: []), .reg (.n :: .n :: []), .br false, .reg (arE3_14 r3209 r3216), .br false, .reg (.n :: .n :: .call (VV.tu [vi r3222.1, vi r3222.2]) :: nN 5 []), .reg (.n :: .n :: []), .br true, .reg (.n :: [])]) (fr := true) (by kernel_rfl) (an (an (ti (ti trivial)) (an (an (an (nawake_ok k _ h3185) (ti trivial)) (an (not_f h3186) trivial)) (an (an e3189 (an (not_f h3190) trivial)) (an e3195 (an e3199 (an (an (ti (an e3202 (ti trivial))) (an (ti (ti trivial)) (an (not_f (decide_eq_true h3203)) trivial))) (an (an e3220 (an (not_f h3221) trivial)) (an e3225 (an (ti (ti trivial)) (an (not_t (decide_eq_false h3226)) (an (ti trivial) trivial))))))))))) (ti trivial)) (Wv.refl _)
       ·injection h with h; subst h
        exact fun_ok pm pn Try.func4 (r0 := vb false) (ans := [.reg (.n :: .n :: []), .reg (.call (vb r3184) :: .n :: []), .br false, .reg (.n :: .call (vb r3187) :: .n :: []), .br false, .reg (arE3_12 r3191 r3193), .reg (arE3_13 r3191 r3197), .reg (.n :: .call (vi r3200) :: .n :: []), .reg (.n :: .n :: []), .br false, .reg (arE3_14 r3209 r3216), .br true, .reg (.n :: [])]) (fr := true) (by kernel_rfl) (an (an (ti (ti trivial)) (an (an (an (nawake_ok k _ h3185) (ti trivial)) (an (not_f h3186) trivial)) (an (an e3189 (an (not_f h3190) trivial)) (an e3195 (an e3199 (an (an (ti (an e3202 (ti trivial))) (an (ti (ti trivial)) (an (not_f (decide_eq_true h3203)) trivial))) (an e3220 (an (not_t (bool_f h3221)) (an (ti trivial) trivial))))))))) (ti trivial)) (Wv.refl _)
      ·have e3267 := (ti (ti (ti (an e3205 (an e3206 (an (not_f (decide_eq_true h3204)) (ti (an e3208 (an e3211 (an e3212 (an (not_f (decide_eq_true h3207)) (ti (an (not_t (decide_eq_false h3213)) (an (not_t (decide_eq_false h3213)) (an (not_t (decide_eq_false h3213)) (an (not_t (decide_eq_false h3213)) (an (not_t (decide_eq_false h3213)) trivial)))))))))))))))))
       injection h with h; subst h
       exact fun_ok pm pn Try.func4 (r0 := vb false) (ans := [.reg (.n :: .n :: []), .reg (.call (vb r3184) :: .n :: []), .br false, .reg (.n :: .call (vb r3187) :: .n :: []), .br false, .reg (arE3_12 r3191 r3193), .reg (arE3_13 r3191 r3197), .reg (.n :: .call (vi r3200) :: .n :: []), .reg (.n :: .n :: []), .br false, .reg (arE3_16 r3209), .br true, .reg (.n :: [])]) (fr := true) (by kernel_rfl) (an (an (ti (ti trivial)) (an (an (an (nawake_ok k _ h3185) (ti trivial)) (an (not_f h3186) trivial)) (an (an e3189 (an (not_f h3190) trivial)) (an e3195 (an e3199 (an (an (ti (an e3202 (ti trivial))) (an (ti (ti trivial)) (an (not_f (decide_eq_true h3203)) trivial))) (an e3267 (an rt (an (ti trivial) trivial))))))))) (ti trivial)) (Wv.refl _)
     ·have e3268 := (ti (ti (ti (an e3205 (an e3206 (an (not_f (decide_eq_true h3204)) (ti (an (not_t (decide_eq_false h3207)) (an (not_t (decide_eq_false h3207)) (an (not_t (decide_eq_false h3207)) (an (not_t (decide_eq_false h3207)) (ti (an rt (an rt (an rt (an rt (an rt trivial)))))))))))))))))
      injection h with h; subst h
      exact fun_ok pm pn Try.func4 (r0 := vb false) (ans := [.reg (.n :: .n :: []), .reg (.call (vb r3184) :: .n :: []), .br false, .reg (.n :: .call (vb r3187) :: .n :: []), .br false, .reg (arE3_12 r3191 r3193), .reg (arE3_13 r3191 r3197), .reg (.n :: .call (vi r3200) :: .n :: []), .reg (.n :: .n :: []), .br false, .reg (nN 5 (.b false :: .n :: nS 3 (.b true :: .n :: nS 4 (.b true :: [])))), .br true, .reg (.n :: [])]) (fr := true) (by kernel_rfl) (an (an (ti (ti trivial)) (an (an (an (nawake_ok k _ h3185) (ti trivial)) (an (not_f h3186) trivial)) (an (an e3189 (an (not_f h3190) trivial)) (an e3195 (an e3199 (an (an (ti (an e3202 (ti trivial))) (an (ti (ti trivial)) (an (not_f (decide_eq_true h3203)) trivial))) (an e3268 (an rt (an (ti trivial) trivial))))))))) (ti trivial)) (Wv.refl _)
    ·have e3269 := (ti (ti (ti (an (not_t (decide_eq_false h3204)) (an (not_t (decide_eq_false h3204)) (an (not_t (decide_eq_false h3204)) (ti (an rt (an rt (an rt (an rt (ti (an rt (an rt (an rt (an rt (an rt trivial)))))))))))))))))
     injection h with h; subst h
     exact fun_ok pm pn Try.func4 (r0 := vb false) (ans := [.reg (.n :: .n :: []), .reg (.call (vb r3184) :: .n :: []), .br false, .reg (.n :: .call (vb r3187) :: .n :: []), .br false, .reg (arE3_12 r3191 r3193), .reg (arE3_13 r3191 r3197), .reg (.n :: .call (vi r3200) :: .n :: []), .reg (.n :: .n :: []), .br false, .reg (nN 3 (.skip :: .skip :: .b true :: .n :: nS 3 (.b true :: .n :: nS 4 (.b true :: [])))), .br true, .reg (.n :: [])]) (fr := true) (by kernel_rfl) (an (an (ti (ti trivial)) (an (an (an (nawake_ok k _ h3185) (ti trivial)) (an (not_f h3186) trivial)) (an (an e3189 (an (not_f h3190) trivial)) (an e3195 (an e3199 (an (an (ti (an e3202 (ti trivial))) (an (ti (ti trivial)) (an (not_f (decide_eq_true h3203)) trivial))) (an e3269 (an rt (an (ti trivial) trivial))))))))) (ti trivial)) (Wv.refl _)
   ·rcases ifs h with ⟨h3270, h⟩ | ⟨h3270, h⟩
    ·rcases ifs h with ⟨h3271, h⟩ | ⟨h3271, h⟩
     ·obtain ⟨r3272, h3273, h⟩ := bs h
      have e3274 := (an (decide_eq_true h3271) (nspeculumlaw06_none_ok k r3193.1 _ h3273))
      rcases ifs h with ⟨h3275, h⟩ | ⟨h3275, h⟩
      ·have e3276 := (an h3275 (show List.map kdV [Value.int .i64 r3197.1.Num, Value.int .i64 r3197.1.Den] = List.map kdV [Value.int .i64 0, Value.int .i64 0] /\ EqOK Try.prog 26 (List.map kdV [Value.int .i64 0, Value.int .i64 0]) from ⟨rfl, eqok26⟩))
       have e3277 := (ti (ti (ti (ti (an (an (decide_eq_true h3270) trivial) (an (an (decide_eq_true h3270) trivial) (an (an (decide_eq_true h3270) trivial) (an (decide_eq_true h3270) (ti (an (an (decide_eq_true h3271) trivial) (an e3274 (an (decide_eq_true h3271) (ti (an (an h3275 trivial) (an (an h3275 trivial) (an e3276 (an h3275 (ti trivial))))))))))))))))))
       injection h with h; subst h
       exact fun_ok pm pn Try.func4 (r0 := vb ((r3197.1.Num : Int) == 0 && ((r3197.1.Den : Int) == 0 && true))) (ans := [.reg (.n :: .n :: []), .reg (.call (vb r3184) :: .n :: []), .br false, .reg (.n :: .call (vb r3187) :: .n :: []), .br false, .reg (arE3_12 r3191 r3193), .reg (arE3_13 r3191 r3197), .reg (.n :: .call (vi r3200) :: .n :: []), .reg (.n :: .n :: []), .br true, .reg (nN 7 (.b true :: .n :: .n :: .call (vb r3272) :: .b true :: nN 4 (.b true :: .n :: [])))]) (fr := true) (by kernel_rfl) (an (an (ti (ti trivial)) (an (an (an (nawake_ok k _ h3185) (ti trivial)) (an (not_f h3186) trivial)) (an (an e3189 (an (not_f h3190) trivial)) (an e3195 (an e3199 (an (ti (an e3202 (ti trivial))) (an (ti (ti trivial)) (an (not_t (decide_eq_false h3203)) (an e3277 trivial))))))))) (ti trivial)) (Wv.refl _)
      ·have e3278 := (ti (ti (ti (ti (an (an (decide_eq_true h3270) trivial) (an (an (decide_eq_true h3270) trivial) (an (an (decide_eq_true h3270) trivial) (an (decide_eq_true h3270) (ti (an (an (decide_eq_true h3271) trivial) (an e3274 (an (decide_eq_true h3271) (ti (an (bool_f h3275) (an (bool_f h3275) (an (bool_f h3275) (an (bool_f h3275) (ti trivial))))))))))))))))))
       injection h with h; subst h
       exact fun_ok pm pn Try.func4 (r0 := vb false) (ans := [.reg (.n :: .n :: []), .reg (.call (vb r3184) :: .n :: []), .br false, .reg (.n :: .call (vb r3187) :: .n :: []), .br false, .reg (arE3_12 r3191 r3193), .reg (arE3_13 r3191 r3197), .reg (.n :: .call (vi r3200) :: .n :: []), .reg (.n :: .n :: []), .br true, .reg (arE3_17 r3272)]) (fr := true) (by kernel_rfl) (an (an (ti (ti trivial)) (an (an (an (nawake_ok k _ h3185) (ti trivial)) (an (not_f h3186) trivial)) (an (an e3189 (an (not_f h3190) trivial)) (an e3195 (an e3199 (an (ti (an e3202 (ti trivial))) (an (ti (ti trivial)) (an (not_t (decide_eq_false h3203)) (an e3278 trivial))))))))) (ti trivial)) (Wv.refl _)
     ·have e3279 := (ti (ti (ti (ti (an (an (decide_eq_true h3270) trivial) (an (an (decide_eq_true h3270) trivial) (an (an (decide_eq_true h3270) trivial) (an (decide_eq_true h3270) (ti (an (decide_eq_false h3271) (an (decide_eq_false h3271) (an (decide_eq_false h3271) (ti (an rf (an rf (an rf (an rf (ti trivial))))))))))))))))))
      injection h with h; subst h
      exact fun_ok pm pn Try.func4 (r0 := vb false) (ans := [.reg (.n :: .n :: []), .reg (.call (vb r3184) :: .n :: []), .br false, .reg (.n :: .call (vb r3187) :: .n :: []), .br false, .reg (arE3_12 r3191 r3193), .reg (arE3_13 r3191 r3197), .reg (.n :: .call (vi r3200) :: .n :: []), .reg (.n :: .n :: []), .br true, .reg (nN 7 (.b true :: .n :: .skip :: .skip :: .b false :: .n :: nS 3 (.b false :: .n :: [])))]) (fr := true) (by kernel_rfl) (an (an (ti (ti trivial)) (an (an (an (nawake_ok k _ h3185) (ti trivial)) (an (not_f h3186) trivial)) (an (an e3189 (an (not_f h3190) trivial)) (an e3195 (an e3199 (an (ti (an e3202 (ti trivial))) (an (ti (ti trivial)) (an (not_t (decide_eq_false h3203)) (an e3279 trivial))))))))) (ti trivial)) (Wv.refl _)
    ·have e3280 := (ti (ti (ti (ti (an (decide_eq_false h3270) (an (decide_eq_false h3270) (an (decide_eq_false h3270) (an (decide_eq_false h3270) (ti (an rf (an rf (an rf (ti (an rf (an rf (an rf (an rf (ti trivial))))))))))))))))))
     injection h with h; subst h
     exact fun_ok pm pn Try.func4 (r0 := vb false) (ans := [.reg (.n :: .n :: []), .reg (.call (vb r3184) :: .n :: []), .br false, .reg (.n :: .call (vb r3187) :: .n :: []), .br false, .reg (arE3_12 r3191 r3193), .reg (arE3_13 r3191 r3197), .reg (.n :: .call (vi r3200) :: .n :: []), .reg (.n :: .n :: []), .br true, .reg arE3_18]) (fr := true) (by kernel_rfl) (an (an (ti (ti trivial)) (an (an (an (nawake_ok k _ h3185) (ti trivial)) (an (not_f h3186) trivial)) (an (an e3189 (an (not_f h3190) trivial)) (an e3195 (an e3199 (an (ti (an e3202 (ti trivial))) (an (ti (ti trivial)) (an (not_t (decide_eq_false h3203)) (an e3280 trivial))))))))) (ti trivial)) (Wv.refl _)
  ·injection h with h; subst h
   exact fun_ok pm pn Try.func4 (r0 := vb true) (ans := [.reg (.n :: .n :: []), .reg (.call (vb r3184) :: .n :: []), .br false, .reg (.n :: .call (vb r3187) :: .n :: []), .br true, .reg (.n :: [])]) (fr := true) (by kernel_rfl) (an (an (ti (ti trivial)) (an (an (an (nawake_ok k _ h3185) (ti trivial)) (an (not_f h3186) trivial)) (an e3189 (an (not_t (bool_f h3190)) (an (ti trivial) trivial))))) (ti trivial)) (Wv.refl _)
 ·injection h with h; subst h
  exact fun_ok pm pn Try.func4 (r0 := vb false) (ans := [.reg (.n :: .n :: []), .reg (.call (vb r3184) :: .n :: []), .br true, .reg (.n :: [])]) (fr := true) (by kernel_rfl) (an (an (ti (ti trivial)) (an (an (nawake_ok k _ h3185) (ti trivial)) (an (not_t (bool_f h3186)) (an (ti trivial) trivial)))) (ti trivial)) (Wv.refl _)
end Go.Proofs.Ytmjepoalhmdfjaa.Vg

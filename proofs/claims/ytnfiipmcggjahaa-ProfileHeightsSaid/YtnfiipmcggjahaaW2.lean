/- Written by a program out of the program: what Go functions do, as plain functions, and their contracts. -/
import Derived.Test.YtnfiipmcggjahaaW1
namespace Go.Proofs.Ytnfiipmcggjahaa.Vg
set_option maxRecDepth 100000
set_option maxHeartbeats 4000000
set_option linter.unusedVariables false
set_option linter.unusedSimpArgs false
open Go Go.Proofs.Ytnfiipmcggjahaa.Ev Go.Proofs.Ytnfiipmcggjahaa.Vv
def nawake (k : Nat) : Option Bool := some true
theorem nawake_ok (k : Nat) (r : Bool) (h : nawake k = some r) : VC Go.Proofs.Try.prog 12 [] (vb r) := by
  injection h with h; subst h
  exact vc_awake
def nspeculumbase_CopyInts (k : Nat) (a0 : (List Int)) : Option (List Int) :=
  if ([] : List Int).length + a0.length ≤ 1000000000 then (some (([] : List Int) ++ a0)) else none
theorem nspeculumbase_CopyInts_ok (k : Nat) (a0 : (List Int)) (r : (List Int)) (h : nspeculumbase_CopyInts k a0 = some r) : VC Go.Proofs.Try.prog 21 [VV.tr (List.map vi a0) a0.length] (VV.fw 1 (List.map vi r) r.length) := by
 unfold nspeculumbase_CopyInts at h
 obtain ⟨h2002, h⟩ := ifn h
 have e2003 := (show List.length [] = 0 * 1 ∧ List.length (List.map vi a0) = a0.length * 1 ∧ (0 + a0.length) * 8 ≤ 140737488355328 ∧ 0 + a0.length < 1099511627776 ∧ List.all (List.map vi a0) VV.still = true from ⟨(by rw [show [] = List.map vi ([] : List Int) from rfl]; simp), (by simp), (by first | omega | (simp at h2002 ⊢; omega)), (by first | omega | (simp at h2002 ⊢; omega)), (by exact still_vi _)⟩)
 injection h with h; subst h
 exact fun_ok pm pn Go.Proofs.Try.func21 (r0 := VV.fw 1 (List.drop 0 (List.map unfr ([] ++ (List.map vi a0)))) (0 + a0.length)) (ans := [.reg (.n :: []), .reg (nN 4 [])]) (fr := true) (by kernel_rfl) (an (an (ti trivial) (an (ti (ti (an e2003 (ti trivial)))) trivial)) (an (show List.all ([] ++ (List.map vi a0)) new0 = true from (by rw [show [] ++ (List.map vi a0) = List.map vi (([] : List Int) ++ a0) from (by rw [show [] = List.map vi ([] : List Int) from rfl]; exact List.map_append.symm)]; exact new0_vi _)) trivial)) (Wv.of_eq (by simp only [show [] ++ (List.map vi a0) = List.map vi (([] : List Int) ++ a0) from (by rw [show [] = List.map vi ([] : List Int) from rfl]; exact List.map_append.symm), drop0, unfr_vi, unfr_vb, unfr_vs, List.map_cons, List.map_nil, un_i, un_k, un_b, un_s, un_tr, un_fr, List.length_map, List.length_replicate, List.length_append, List.length_set, List.length_cons, List.length_nil, unfr_c_SHeightReading, unfr_c_SRange, unfr_c_Sleg, unfr_c_Sweb, unfr_g_Sweb]))
def arW2_0 (z0 : (List Int)) (z1 : (List SHeightReading)) (z2 : Int) (z3 : Bool) : List Ans := (nN 4 (.v (vi (z0.getD ((z1.getD z2.toNat default).To).toNat 0)) :: nN 4 (.v (vi (z0.getD ((z1.getD z2.toNat default).From).toNat 0)) :: nN 7 (.call (vb z3) :: .n :: []))))
def nprofile_CheckHeights_l0_0_h (a1 : (List SHeightReading)) (a2 : (List Int)) (x26 : Int) : VS := ⟨mkA [(2, VV.tr (List.map vi a2) a2.length), (24, VV.tr (List.flatMap c_SHeightReading a1) a1.length), (25, vi (a1.length : Int)), (26, vi x26)], [], .nil⟩
def nprofile_CheckHeights_l0_0_e0 (a1 : (List SHeightReading)) (a2 : (List Int)) (r : Int) : VS := ⟨mkA [(6, vi r), (7, vi 26)], [], .nil⟩
def nprofile_CheckHeights_l0_0_e1 (a1 : (List SHeightReading)) (a2 : (List Int)) (r : Unit) : VS := ⟨mkA [], [], .nil⟩
def nprofile_CheckHeights_l0_0 (k : Nat) (a1 : (List SHeightReading)) (a2 : (List Int)) : Nat → Int → Option (Sum Int Unit)
  | 0, _ => none
  | fuel + 1, x26 => if x26 < (a1.length : Int) then (if 0 ≤ x26 ∧ x26 < (a1.length : Int) then (if 0 ≤ (a1.getD x26.toNat default).To ∧ (a1.getD x26.toNat default).To < (a2.length : Int) then (if 0 ≤ (a1.getD x26.toNat default).From ∧ (a1.getD x26.toNat default).From < (a2.length : Int) then ((nprofile_isWithin k (w64 ((a2.getD ((a1.getD x26.toNat default).To).toNat 0) - (a2.getD ((a1.getD x26.toNat default).From).toNat 0))) (((a1.getD x26.toNat default).Diff).Lo) (((a1.getD x26.toNat default).Diff).Hi)).bind fun r2098 => (if r2098 = true then (nprofile_CheckHeights_l0_0 k a1 a2 fuel (w64 (x26 + 1))) else (some (.inl x26)))) else none) else none) else none) else (some (.inr ()))
theorem nprofile_CheckHeights_l0_0_ok (k : Nat) (a1 : (List SHeightReading)) (a2 : (List Int)) : ∀ (fuel : Nat) (x26 : Int) (r : Sum Int Unit), nprofile_CheckHeights_l0_0 k a1 a2 fuel x26 = some r → (match r with | .inl r => VLoop none Go.Proofs.Try.prog (szF Go.Proofs.Try.f30) (bodyOf Go.Proofs.Try.f30 0) (nprofile_CheckHeights_l0_0_h a1 a2 x26) .ret (nprofile_CheckHeights_l0_0_e0 a1 a2 r) | .inr r => VLoop none Go.Proofs.Try.prog (szF Go.Proofs.Try.f30) (bodyOf Go.Proofs.Try.f30 0) (nprofile_CheckHeights_l0_0_h a1 a2 x26) (.exit 0) (nprofile_CheckHeights_l0_0_e1 a1 a2 r)) := by
 intro fuel
 induction fuel with
 | zero => intro x26 r h; rw [nprofile_CheckHeights_l0_0.eq_1] at h; cases h
 | succ fuel ih =>
  intro x26 r h
  rw [nprofile_CheckHeights_l0_0.eq_2] at h
  rcases ifs h with ⟨h2091, h⟩ | ⟨h2091, h⟩
  ·obtain ⟨h2092, h⟩ := ifn h
   have e2093 := (show loadL Go.Proofs.Try.prog 65 (x26.toNat * 4) (List.flatMap c_SHeightReading a1) = some (VV.ag (c_SHeightReading (a1.getD x26.toNat default))) from ld_whole ag65 c_SHeightReading 4 sz65 len_c_SHeightReading a1 default h2092 (by omega))
   obtain ⟨h2094, h⟩ := ifn h
   have e2095 := (show loadL Go.Proofs.Try.prog 3 (((a1.getD x26.toNat default).To).toNat * 1) (List.map vi a2) = some (vi (a2.getD ((a1.getD x26.toNat default).To).toNat 0)) from ld_map ag3 vi a2 0 h2094 (by omega))
   obtain ⟨h2096, h⟩ := ifn h
   have e2097 := (show loadL Go.Proofs.Try.prog 3 (((a1.getD x26.toNat default).From).toNat * 1) (List.map vi a2) = some (vi (a2.getD ((a1.getD x26.toNat default).From).toNat 0)) from ld_map ag3 vi a2 0 h2096 (by omega))
   obtain ⟨r2098, h2099, h⟩ := bs h
   have e2100 := (nprofile_isWithin_ok k (w64 ((a2.getD ((a1.getD x26.toNat default).To).toNat 0) - (a2.getD ((a1.getD x26.toNat default).From).toNat 0))) (((a1.getD x26.toNat default).Diff).Lo) (((a1.getD x26.toNat default).Diff).Hi) _ h2099)
   have e2101 := (ti (ti (ti (an h2094 (an e2095 (ti (ti (ti (an h2096 (an e2097 (ti (ti (ti (ti (ti (ti (ti (an e2100 (ti trivial)))))))))))))))))))
   rcases ifs h with ⟨h2102, h⟩ | ⟨h2102, h⟩
   ·have h2 := ih _ _ h
    obtain ⟨q, hv, hq⟩ := pkR (rd := none) (P := Go.Proofs.Try.prog) (fn := Go.Proofs.Try.f30) (k := 0) (s := (nprofile_CheckHeights_l0_0_h a1 a2 x26)) (ans := [.reg (.n :: []), .br true, .reg (.n :: .n :: .v (VV.ag (c_SHeightReading (a1.getD x26.toNat default))) :: nN 3 []), .reg (arW2_0 a2 a1 x26 r2098), .br false, .reg (.n :: .n :: [])]) (c := ⟨[(2, none), (24, none), (25, none), (26, none)], [], []⟩) (e := .normal) (s1 := (nprofile_CheckHeights_l0_0_h a1 a2 (w64 (x26 + 1)))) (an (an (ti trivial) (an (an (decide_eq_true h2091) trivial) (an (an (ti (an h2092 (an e2093 (ti (ti (ti trivial)))))) (an e2101 (an (not_f h2102) trivial))) (ti (ti trivial))))) (ti trivial)) (by kernel_rfl)
    cases r with
    | inl r => exact round_next pm pn hv hq h2
    | inr r =>
     exact round_next pm pn hv hq h2
   ·injection h with h; subst h
    exact round_stop (c := ⟨[(6, none), (7, none)], [], []⟩) (s1 := (nprofile_CheckHeights_l0_0_e0 a1 a2 x26)) pm pn (ans := [.reg (.n :: []), .br true, .reg (.n :: .n :: .v (VV.ag (c_SHeightReading (a1.getD x26.toNat default))) :: nN 3 []), .reg (arW2_0 a2 a1 x26 r2098), .br true, .reg (nN 3 [])]) (by kernel_rfl) (by intro e; cases e) (an (an (ti trivial) (an (an (decide_eq_true h2091) trivial) (an (ti (an h2092 (an e2093 (ti (ti (ti trivial)))))) (an e2101 (an (not_t (bool_f h2102)) (an (ti (ti (ti trivial))) trivial)))))) (ti trivial))
  ·injection h with h; subst h
   exact round_stop (c := ⟨[], [], []⟩) (s1 := (nprofile_CheckHeights_l0_0_e1 a1 a2 ())) pm pn (ans := [.reg (.n :: []), .br false]) (by kernel_rfl) (by intro e; cases e) (an (an (ti trivial) (an (decide_eq_false h2091) trivial)) (ti trivial))
def nprofile_CheckHeights (k : Nat) (a0 : Int) (a1 : (List SHeightReading)) (a2 : (List Int)) : Option (Int × Int) :=
  (nprofile_CheckReadings k a0 a1).bind fun r2058 => (if r2058 = 0 then (if (a2.length : Int) = a0 then ((nprofile_areSmall k 100000000 a2).bind fun r2063 => (if r2063 = true then ((nprofile_CheckHeights_l0_0 k a1 a2 k 0).bind fun r2104 => (match r2104 with | .inl r2105 => (some (r2105, 26)) | .inr r2106 => (some (0, 0)))) else (some (0, 2)))) else (some (0, 10))) else (some (0, r2058)))
theorem nprofile_CheckHeights_ok (k : Nat) (a0 : Int) (a1 : (List SHeightReading)) (a2 : (List Int)) (r : (Int × Int)) (h : nprofile_CheckHeights k a0 a1 a2 = some r) : VC Go.Proofs.Try.prog 30 [vi a0, VV.tr (List.flatMap c_SHeightReading a1) a1.length, VV.tr (List.map vi a2) a2.length] (VV.tu [vi r.1, vi r.2]) := by
 unfold nprofile_CheckHeights at h
 obtain ⟨r2058, h2059, h⟩ := bs h
 have e2060 := (nprofile_CheckReadings_ok k a0 a1 _ h2059)
 rcases ifs h with ⟨h2061, h⟩ | ⟨h2061, h⟩
 ·rcases ifs h with ⟨h2062, h⟩ | ⟨h2062, h⟩
  ·obtain ⟨r2063, h2064, h⟩ := bs h
   have e2065 := (nprofile_areSmall_ok k 100000000 a2 _ h2064)
   rcases ifs h with ⟨h2066, h⟩ | ⟨h2066, h⟩
   ·obtain ⟨r2104, h2103, h⟩ := bs h
    have hph2103 := nprofile_CheckHeights_l0_0_ok k a1 a2 _ _ _ h2103
    cases r2104 with
    | inl r2105 =>
     dsimp only at h
     have e2107 := (an (ti trivial) (VRun.loop hph2103))
     injection h with h; subst h
     exact fun_ok pm pn Go.Proofs.Try.func30 (r0 := VV.tu [vi r2105, vi 26]) (ans := [.reg (.n :: .n :: []), .reg (.n :: .n :: .call (vi r2058) :: .n :: []), .reg (.n :: .n :: []), .br false, .reg (nN 4 []), .br false, .reg (.n :: .call (vb r2063) :: .n :: []), .br false, .reg (nN 3 []), .sub ⟨[(2, none), (24, none), (25, none), (26, none)], [], []⟩ .ret (nprofile_CheckHeights_l0_0_e0 a1 a2 r2105)]) (fr := true) (by kernel_rfl) (an (an (ti (ti trivial)) (an (an (ti (ti (an e2060 (ti trivial)))) (an (ti (ti trivial)) (an (not_f (decide_eq_true h2061)) trivial))) (an (an (ti (ti (ti (ti trivial)))) (an (not_f (decide_eq_true h2062)) trivial)) (an (an (ti (an e2065 (ti trivial))) (an (not_f h2066) trivial)) (an (ti (ti (ti trivial))) e2107))))) (ti (ti trivial))) (Wv.refl _)
    | inr r2106 =>
     dsimp only at h
     have e2108 := (an (ti trivial) (VRun.loop hph2103))
     injection h with h; subst h
     exact fun_ok pm pn Go.Proofs.Try.func30 (r0 := VV.tu [vi 0, vi 0]) (ans := [.reg (.n :: .n :: []), .reg (.n :: .n :: .call (vi r2058) :: .n :: []), .reg (.n :: .n :: []), .br false, .reg (nN 4 []), .br false, .reg (.n :: .call (vb r2063) :: .n :: []), .br false, .reg (nN 3 []), .sub ⟨[(2, none), (24, none), (25, none), (26, none)], [], []⟩ (.exit 0) (nprofile_CheckHeights_l0_0_e1 a1 a2 r2106), .reg (.n :: .n :: [])]) (fr := true) (by kernel_rfl) (an (an (ti (ti trivial)) (an (an (ti (ti (an e2060 (ti trivial)))) (an (ti (ti trivial)) (an (not_f (decide_eq_true h2061)) trivial))) (an (an (ti (ti (ti (ti trivial)))) (an (not_f (decide_eq_true h2062)) trivial)) (an (an (ti (an e2065 (ti trivial))) (an (not_f h2066) trivial)) (an (an (ti (ti (ti trivial))) e2108) (an (ti (ti trivial)) trivial)))))) (ti (ti trivial))) (Wv.refl _)
   ·injection h with h; subst h
    exact fun_ok pm pn Go.Proofs.Try.func30 (r0 := VV.tu [vi 0, vi 2]) (ans := [.reg (.n :: .n :: []), .reg (.n :: .n :: .call (vi r2058) :: .n :: []), .reg (.n :: .n :: []), .br false, .reg (nN 4 []), .br false, .reg (.n :: .call (vb r2063) :: .n :: []), .br true, .reg (.n :: .n :: [])]) (fr := true) (by kernel_rfl) (an (an (ti (ti trivial)) (an (an (ti (ti (an e2060 (ti trivial)))) (an (ti (ti trivial)) (an (not_f (decide_eq_true h2061)) trivial))) (an (an (ti (ti (ti (ti trivial)))) (an (not_f (decide_eq_true h2062)) trivial)) (an (ti (an e2065 (ti trivial))) (an (not_t (bool_f h2066)) (an (ti (ti trivial)) trivial)))))) (ti (ti trivial))) (Wv.refl _)
  ·injection h with h; subst h
   exact fun_ok pm pn Go.Proofs.Try.func30 (r0 := VV.tu [vi 0, vi 10]) (ans := [.reg (.n :: .n :: []), .reg (.n :: .n :: .call (vi r2058) :: .n :: []), .reg (.n :: .n :: []), .br false, .reg (nN 4 []), .br true, .reg (.n :: .n :: [])]) (fr := true) (by kernel_rfl) (an (an (ti (ti trivial)) (an (an (ti (ti (an e2060 (ti trivial)))) (an (ti (ti trivial)) (an (not_f (decide_eq_true h2061)) trivial))) (an (ti (ti (ti (ti trivial)))) (an (not_t (decide_eq_false h2062)) (an (ti (ti trivial)) trivial))))) (ti (ti trivial))) (Wv.refl _)
 ·injection h with h; subst h
  exact fun_ok pm pn Go.Proofs.Try.func30 (r0 := VV.tu [vi 0, vi r2058]) (ans := [.reg (.n :: .n :: []), .reg (.n :: .n :: .call (vi r2058) :: .n :: []), .reg (.n :: .n :: []), .br true, .reg (nN 3 [])]) (fr := true) (by kernel_rfl) (an (an (ti (ti trivial)) (an (ti (ti (an e2060 (ti trivial)))) (an (ti (ti trivial)) (an (not_t (decide_eq_false h2061)) (an (ti (ti (ti trivial))) trivial))))) (ti (ti trivial))) (Wv.refl _)
def arW2_1 (z0 : (List Int)) (z1 : SHeightReading) (z2 : Bool) : List Ans := (nN 4 (.v (vi (z0.getD z1.To.toNat 0)) :: nN 4 (.v (vi (z0.getD z1.From.toNat 0)) :: nN 7 (.call (vb z2) :: .n :: []))))
def nspeculumref05_Keeps (k : Nat) (a0 : SHeightReading) (a1 : (List Int)) : Option Bool :=
  if 0 ≤ a0.To ∧ a0.To < (a1.length : Int) then (if 0 ≤ a0.From ∧ a0.From < (a1.length : Int) then ((nspeculumbase_Within k (w64 ((a1.getD a0.To.toNat 0) - (a1.getD a0.From.toNat 0))) a0.Diff.Lo a0.Diff.Hi).bind fun r2163 => (some r2163)) else none) else none
theorem nspeculumref05_Keeps_ok (k : Nat) (a0 : SHeightReading) (a1 : (List Int)) (r : Bool) (h : nspeculumref05_Keeps k a0 a1 = some r) : VC Go.Proofs.Try.prog 66 [VV.ag (c_SHeightReading a0), VV.tr (List.map vi a1) a1.length] (vb r) := by
 unfold nspeculumref05_Keeps at h
 obtain ⟨h2159, h⟩ := ifn h
 have e2160 := (show loadL Go.Proofs.Try.prog 3 (a0.To.toNat * 1) (List.map vi a1) = some (vi (a1.getD a0.To.toNat 0)) from ld_map ag3 vi a1 0 h2159 (by omega))
 obtain ⟨h2161, h⟩ := ifn h
 have e2162 := (show loadL Go.Proofs.Try.prog 3 (a0.From.toNat * 1) (List.map vi a1) = some (vi (a1.getD a0.From.toNat 0)) from ld_map ag3 vi a1 0 h2161 (by omega))
 obtain ⟨r2163, h2164, h⟩ := bs h
 have e2165 := (nspeculumbase_Within_ok k (w64 ((a1.getD a0.To.toNat 0) - (a1.getD a0.From.toNat 0))) a0.Diff.Lo a0.Diff.Hi _ h2164)
 have e2166 := (ti (ti (ti (an h2159 (an e2160 (ti (ti (ti (an h2161 (an e2162 (ti (ti (ti (ti (ti (ti (ti (an e2165 (ti trivial)))))))))))))))))))
 injection h with h; subst h
 exact fun_ok pm pn Go.Proofs.Try.func66 (r0 := vb r2163) (ans := [.reg (.n :: .n :: []), .reg (arW2_1 a1 a0 r2163)]) (fr := true) (by kernel_rfl) (an (an (ti (ti trivial)) (an e2166 trivial)) (ti trivial)) (Wv.refl _)
theorem eqW2_0 (z0 : (List SHeightReading)) (z1 : (List Int)) : [VV.ag (c_SHeightReading (⟨(z0.getD ((0 : Int)).toNat default).From, (z0.getD ((0 : Int)).toNat default).To, ((z0.getD ((0 : Int)).toNat default).Diff)⟩ : SHeightReading)), VV.tr (List.map vi z1) z1.length] = [VV.ag (c_SHeightReading (z0.getD ((0 : Int)).toNat default)), VV.tr (List.map vi z1) z1.length] := by first | rfl | (simp only [unfr_vi, List.map_cons, List.map_nil, un_i, un_tr, List.length_map, List.length_cons, List.length_nil, unfr_c_SHeightReading]; done) | (simp only [unfr_vi, List.map_cons, List.map_nil, un_i, un_tr, List.length_map, List.length_cons, List.length_nil, unfr_c_SHeightReading]; rfl) | (simp only [unfr_vi, List.map_cons, List.map_nil, un_i, un_tr, List.length_map, List.length_cons, List.length_nil, unfr_c_SHeightReading, c_SHeightReading, List.length_cons, List.length_nil, List.length_append]; done)
theorem eqW2_1 (z0 : (List SHeightReading)) (z1 : Int) (z2 : (List Int)) : [VV.ag (c_SHeightReading (⟨(z0.getD z1.toNat default).From, (z0.getD z1.toNat default).To, ((z0.getD z1.toNat default).Diff)⟩ : SHeightReading)), VV.tr (List.map vi z2) z2.length] = [VV.ag (c_SHeightReading (z0.getD z1.toNat default)), VV.tr (List.map vi z2) z2.length] := by first | rfl | (simp only [unfr_vi, List.map_cons, List.map_nil, un_i, un_tr, List.length_map, List.length_cons, List.length_nil, unfr_c_SHeightReading]; done) | (simp only [unfr_vi, List.map_cons, List.map_nil, un_i, un_tr, List.length_map, List.length_cons, List.length_nil, unfr_c_SHeightReading]; rfl) | (simp only [unfr_vi, List.map_cons, List.map_nil, un_i, un_tr, List.length_map, List.length_cons, List.length_nil, unfr_c_SHeightReading, c_SHeightReading, List.length_cons, List.length_nil, List.length_append]; done)
def arW2_2 (z0 : (List SHeightReading)) (z1 : Int) (z2 : Bool) : List Ans := (nN 3 (.v (VV.ag (c_SHeightReading (z0.getD z1.toNat default))) :: .n :: .call (vb z2) :: .n :: []))
def nspeculumref05_CheckHeights_l0_0_h (a0 : Int) (a1 : (List SHeightReading)) (a2 : (List Int)) (x8 : Int) : VS := ⟨mkA [(0, vi a0), (1, VV.tr (List.flatMap c_SHeightReading a1) a1.length), (2, VV.tr (List.map vi a2) a2.length), (8, vi x8)], [], .nil⟩
def nspeculumref05_CheckHeights_l0_0_e0 (a0 : Int) (a1 : (List SHeightReading)) (a2 : (List Int)) (r : Unit) : VS := ⟨mkA [(6, vi 0), (7, vi 2)], [], .nil⟩
def nspeculumref05_CheckHeights_l0_0_e1 (a0 : Int) (a1 : (List SHeightReading)) (a2 : (List Int)) (r : Unit) : VS := ⟨mkA [(1, VV.tr (List.flatMap c_SHeightReading a1) a1.length), (2, VV.tr (List.map vi a2) a2.length)], [], .nil⟩
def nspeculumref05_CheckHeights_l0_0 (k : Nat) (a0 : Int) (a1 : (List SHeightReading)) (a2 : (List Int)) : Nat → Int → Option (Sum Unit Unit)
  | 0, _ => none
  | fuel + 1, x8 => if x8 < a0 then (if 0 ≤ x8 ∧ x8 < (a2.length : Int) then ((nspeculumbase_Within k (a2.getD x8.toNat 0) (-100000000) 100000000).bind fun r2214 => (if r2214 = true then (nspeculumref05_CheckHeights_l0_0 k a0 a1 a2 fuel (w64 (x8 + 1))) else (some (.inl ())))) else none) else (some (.inr ()))
theorem nspeculumref05_CheckHeights_l0_0_ok (k : Nat) (a0 : Int) (a1 : (List SHeightReading)) (a2 : (List Int)) : ∀ (fuel : Nat) (x8 : Int) (r : Sum Unit Unit), nspeculumref05_CheckHeights_l0_0 k a0 a1 a2 fuel x8 = some r → (match r with | .inl r => VLoop none Go.Proofs.Try.prog (szF Go.Proofs.Try.f31) (bodyOf Go.Proofs.Try.f31 0) (nspeculumref05_CheckHeights_l0_0_h a0 a1 a2 x8) .ret (nspeculumref05_CheckHeights_l0_0_e0 a0 a1 a2 r) | .inr r => VLoop none Go.Proofs.Try.prog (szF Go.Proofs.Try.f31) (bodyOf Go.Proofs.Try.f31 0) (nspeculumref05_CheckHeights_l0_0_h a0 a1 a2 x8) (.exit 0) (nspeculumref05_CheckHeights_l0_0_e1 a0 a1 a2 r)) := by
 intro fuel
 induction fuel with
 | zero => intro x8 r h; rw [nspeculumref05_CheckHeights_l0_0.eq_1] at h; cases h
 | succ fuel ih =>
  intro x8 r h
  rw [nspeculumref05_CheckHeights_l0_0.eq_2] at h
  rcases ifs h with ⟨h2211, h⟩ | ⟨h2211, h⟩
  ·obtain ⟨h2212, h⟩ := ifn h
   have e2213 := (show loadL Go.Proofs.Try.prog 3 (x8.toNat * 1) (List.map vi a2) = some (vi (a2.getD x8.toNat 0)) from ld_map ag3 vi a2 0 h2212 (by omega))
   obtain ⟨r2214, h2215, h⟩ := bs h
   have e2216 := (nspeculumbase_Within_ok k (a2.getD x8.toNat 0) (-100000000) 100000000 _ h2215)
   have e2217 := (ti (ti (an h2212 (an e2213 (an e2216 (ti trivial))))))
   rcases ifs h with ⟨h2218, h⟩ | ⟨h2218, h⟩
   ·have h2 := ih _ _ h
    obtain ⟨q, hv, hq⟩ := pkR (rd := none) (P := Go.Proofs.Try.prog) (fn := Go.Proofs.Try.f31) (k := 0) (s := (nspeculumref05_CheckHeights_l0_0_h a0 a1 a2 x8)) (ans := [.reg (nN 3 []), .br true, .reg (nN 3 (.v (vi (a2.getD x8.toNat 0)) :: .call (vb r2214) :: .n :: [])), .br false, .reg (nN 3 [])]) (c := ⟨[(0, none), (1, none), (2, none), (8, none)], [], []⟩) (e := .normal) (s1 := (nspeculumref05_CheckHeights_l0_0_h a0 a1 a2 (w64 (x8 + 1)))) (an (an (an (ti (ti (ti trivial))) (an (decide_eq_true h2211) trivial)) (an (an e2217 (an (not_f h2218) trivial)) (ti (ti (ti trivial))))) (ti trivial)) (by kernel_rfl)
    cases r with
    | inl r => exact round_next pm pn hv hq h2
    | inr r =>
     exact round_next pm pn hv hq h2
   ·injection h with h; subst h
    exact round_stop (c := ⟨[(6, none), (7, none)], [], []⟩) (s1 := (nspeculumref05_CheckHeights_l0_0_e0 a0 a1 a2 ())) pm pn (ans := [.reg (nN 3 []), .br true, .reg (nN 3 (.v (vi (a2.getD x8.toNat 0)) :: .call (vb r2214) :: .n :: [])), .br true, .reg (.n :: .n :: [])]) (by kernel_rfl) (by intro e; cases e) (an (an (an (ti (ti (ti trivial))) (an (decide_eq_true h2211) trivial)) (an e2217 (an (not_t (bool_f h2218)) (an (ti (ti trivial)) trivial)))) (ti trivial))
  ·injection h with h; subst h
   exact round_stop (c := ⟨[(1, none), (2, none)], [], []⟩) (s1 := (nspeculumref05_CheckHeights_l0_0_e1 a0 a1 a2 ())) pm pn (ans := [.reg (nN 3 []), .br false]) (by kernel_rfl) (by intro e; cases e) (an (an (ti (ti (ti trivial))) (an (decide_eq_false h2211) trivial)) (ti trivial))
def nspeculumref05_CheckHeights_l1_0_h (a1 : (List SHeightReading)) (a2 : (List Int)) (x9 : Int) : VS := ⟨mkA [(1, VV.tr (List.flatMap c_SHeightReading a1) a1.length), (2, VV.tr (List.map vi a2) a2.length), (9, vi x9)], [], .nil⟩
def nspeculumref05_CheckHeights_l1_0_e0 (a1 : (List SHeightReading)) (a2 : (List Int)) (r : Int) : VS := ⟨mkA [(6, vi r), (7, vi 26)], [], .nil⟩
def nspeculumref05_CheckHeights_l1_0_e1 (a1 : (List SHeightReading)) (a2 : (List Int)) (r : Unit) : VS := ⟨mkA [], [], .nil⟩
def nspeculumref05_CheckHeights_l1_0 (k : Nat) (a1 : (List SHeightReading)) (a2 : (List Int)) : Nat → Int → Option (Sum Int Unit)
  | 0, _ => none
  | fuel + 1, x9 => if x9 < (a1.length : Int) then (if 0 ≤ x9 ∧ x9 < (a1.length : Int) then ((nspeculumref05_Keeps k (⟨(a1.getD x9.toNat default).From, (a1.getD x9.toNat default).To, ((a1.getD x9.toNat default).Diff)⟩ : SHeightReading) a2).bind fun r2244 => (if r2244 = true then (nspeculumref05_CheckHeights_l1_0 k a1 a2 fuel (w64 (x9 + 1))) else (some (.inl x9)))) else none) else (some (.inr ()))
theorem nspeculumref05_CheckHeights_l1_0_ok (k : Nat) (a1 : (List SHeightReading)) (a2 : (List Int)) : ∀ (fuel : Nat) (x9 : Int) (r : Sum Int Unit), nspeculumref05_CheckHeights_l1_0 k a1 a2 fuel x9 = some r → (match r with | .inl r => VLoop none Go.Proofs.Try.prog (szF Go.Proofs.Try.f31) (bodyOf Go.Proofs.Try.f31 1) (nspeculumref05_CheckHeights_l1_0_h a1 a2 x9) .ret (nspeculumref05_CheckHeights_l1_0_e0 a1 a2 r) | .inr r => VLoop none Go.Proofs.Try.prog (szF Go.Proofs.Try.f31) (bodyOf Go.Proofs.Try.f31 1) (nspeculumref05_CheckHeights_l1_0_h a1 a2 x9) (.exit 2) (nspeculumref05_CheckHeights_l1_0_e1 a1 a2 r)) := by
 intro fuel
 induction fuel with
 | zero => intro x9 r h; rw [nspeculumref05_CheckHeights_l1_0.eq_1] at h; cases h
 | succ fuel ih =>
  intro x9 r h
  rw [nspeculumref05_CheckHeights_l1_0.eq_2] at h
  rcases ifs h with ⟨h2241, h⟩ | ⟨h2241, h⟩
  ·obtain ⟨h2242, h⟩ := ifn h
   have e2243 := (show loadL Go.Proofs.Try.prog 65 (x9.toNat * 4) (List.flatMap c_SHeightReading a1) = some (VV.ag (c_SHeightReading (a1.getD x9.toNat default))) from ld_whole ag65 c_SHeightReading 4 sz65 len_c_SHeightReading a1 default h2242 (by omega))
   obtain ⟨r2244, h2245, h⟩ := bs h
   have e2246 := (VC.args (nspeculumref05_Keeps_ok k (⟨(a1.getD x9.toNat default).From, (a1.getD x9.toNat default).To, ((a1.getD x9.toNat default).Diff)⟩ : SHeightReading) a2 _ h2245) (eqW2_1 a1 x9 a2))
   have e2247 := (ti (ti (an h2242 (an e2243 (ti (an e2246 (ti trivial)))))))
   rcases ifs h with ⟨h2248, h⟩ | ⟨h2248, h⟩
   ·have h2 := ih _ _ h
    obtain ⟨q, hv, hq⟩ := pkR (rd := none) (P := Go.Proofs.Try.prog) (fn := Go.Proofs.Try.f31) (k := 1) (s := (nspeculumref05_CheckHeights_l1_0_h a1 a2 x9)) (ans := [.reg (nN 4 []), .br true, .reg (arW2_2 a1 x9 r2244), .br false, .reg (nN 3 [])]) (c := ⟨[(1, none), (2, none), (9, none)], [], []⟩) (e := .normal) (s1 := (nspeculumref05_CheckHeights_l1_0_h a1 a2 (w64 (x9 + 1)))) (an (an (an (ti (ti (ti (ti trivial)))) (an (decide_eq_true h2241) trivial)) (an (an e2247 (an (not_f h2248) trivial)) (ti (ti (ti trivial))))) (ti trivial)) (by kernel_rfl)
    cases r with
    | inl r => exact round_next pm pn hv hq h2
    | inr r =>
     exact round_next pm pn hv hq h2
   ·injection h with h; subst h
    exact round_stop (c := ⟨[(6, none), (7, none)], [], []⟩) (s1 := (nspeculumref05_CheckHeights_l1_0_e0 a1 a2 x9)) pm pn (ans := [.reg (nN 4 []), .br true, .reg (arW2_2 a1 x9 r2244), .br true, .reg (nN 3 [])]) (by kernel_rfl) (by intro e; cases e) (an (an (an (ti (ti (ti (ti trivial)))) (an (decide_eq_true h2241) trivial)) (an e2247 (an (not_t (bool_f h2248)) (an (ti (ti (ti trivial))) trivial)))) (ti trivial))
  ·injection h with h; subst h
   exact round_stop (c := ⟨[], [], []⟩) (s1 := (nspeculumref05_CheckHeights_l1_0_e1 a1 a2 ())) pm pn (ans := [.reg (nN 4 []), .br false]) (by kernel_rfl) (by intro e; cases e) (an (an (ti (ti (ti (ti trivial)))) (an (decide_eq_false h2241) trivial)) (ti trivial))
def nspeculumref05_CheckHeights (k : Nat) (a0 : Int) (a1 : (List SHeightReading)) (a2 : (List Int)) : Option (Int × Int) :=
  if (a2.length : Int) = a0 then ((nspeculumref05_CheckHeights_l0_0 k a0 a1 a2 k 0).bind fun r2220 => (match r2220 with | .inl r2221 => (some (0, 2)) | .inr r2222 => ((nspeculumref05_CheckHeights_l1_0 k a1 a2 k 0).bind fun r2250 => (match r2250 with | .inl r2251 => (some (r2251, 26)) | .inr r2252 => (some (0, 0)))))) else (some (0, 10))
theorem nspeculumref05_CheckHeights_ok (k : Nat) (a0 : Int) (a1 : (List SHeightReading)) (a2 : (List Int)) (r : (Int × Int)) (h : nspeculumref05_CheckHeights k a0 a1 a2 = some r) : VC Go.Proofs.Try.prog 31 [vi a0, VV.tr (List.flatMap c_SHeightReading a1) a1.length, VV.tr (List.map vi a2) a2.length] (VV.tu [vi r.1, vi r.2]) := by
 unfold nspeculumref05_CheckHeights at h
 rcases ifs h with ⟨h2194, h⟩ | ⟨h2194, h⟩
 ·obtain ⟨r2220, h2219, h⟩ := bs h
  have hph2219 := nspeculumref05_CheckHeights_l0_0_ok k a0 a1 a2 _ _ _ h2219
  cases r2220 with
  | inl r2221 =>
   dsimp only at h
   have e2223 := (an (ti trivial) (VRun.loop hph2219))
   injection h with h; subst h
   exact fun_ok pm pn Go.Proofs.Try.func31 (r0 := VV.tu [vi 0, vi 2]) (ans := [.reg (.n :: .n :: []), .reg (nN 4 []), .br false, .reg (.n :: []), .sub ⟨[(0, none), (1, none), (2, none), (8, none)], [], []⟩ .ret (nspeculumref05_CheckHeights_l0_0_e0 a0 a1 a2 r2221)]) (fr := true) (by kernel_rfl) (an (an (ti (ti trivial)) (an (an (ti (ti (ti (ti trivial)))) (an (not_f (decide_eq_true h2194)) trivial)) (an (ti trivial) e2223))) (ti (ti trivial))) (Wv.refl _)
  | inr r2222 =>
   dsimp only at h
   have e2224 := (an (ti trivial) (VRun.loop hph2219))
   obtain ⟨r2250, h2249, h⟩ := bs h
   have hph2249 := nspeculumref05_CheckHeights_l1_0_ok k a1 a2 _ _ _ h2249
   cases r2250 with
   | inl r2251 =>
    dsimp only at h
    have e2253 := (an (ti trivial) (VRun.loop hph2249))
    injection h with h; subst h
    exact fun_ok pm pn Go.Proofs.Try.func31 (r0 := VV.tu [vi r2251, vi 26]) (ans := [.reg (.n :: .n :: []), .reg (nN 4 []), .br false, .reg (.n :: []), .sub ⟨[(0, none), (1, none), (2, none), (8, none)], [], []⟩ (.exit 0) (nspeculumref05_CheckHeights_l0_0_e1 a0 a1 a2 r2222), .reg (.n :: []), .sub ⟨[(1, none), (2, none), (9, none)], [], []⟩ .ret (nspeculumref05_CheckHeights_l1_0_e0 a1 a2 r2251)]) (fr := true) (by kernel_rfl) (an (an (ti (ti trivial)) (an (an (ti (ti (ti (ti trivial)))) (an (not_f (decide_eq_true h2194)) trivial)) (an (an (ti trivial) e2224) (an (ti trivial) e2253)))) (ti (ti trivial))) (Wv.refl _)
   | inr r2252 =>
    dsimp only at h
    have e2254 := (an (ti trivial) (VRun.loop hph2249))
    injection h with h; subst h
    exact fun_ok pm pn Go.Proofs.Try.func31 (r0 := VV.tu [vi 0, vi 0]) (ans := [.reg (.n :: .n :: []), .reg (nN 4 []), .br false, .reg (.n :: []), .sub ⟨[(0, none), (1, none), (2, none), (8, none)], [], []⟩ (.exit 0) (nspeculumref05_CheckHeights_l0_0_e1 a0 a1 a2 r2222), .reg (.n :: []), .sub ⟨[(1, none), (2, none), (9, none)], [], []⟩ (.exit 2) (nspeculumref05_CheckHeights_l1_0_e1 a1 a2 r2252), .reg (.n :: .n :: [])]) (fr := true) (by kernel_rfl) (an (an (ti (ti trivial)) (an (an (ti (ti (ti (ti trivial)))) (an (not_f (decide_eq_true h2194)) trivial)) (an (an (ti trivial) e2224) (an (an (ti trivial) e2254) (an (ti (ti trivial)) trivial))))) (ti (ti trivial))) (Wv.refl _)
 ·injection h with h; subst h
  exact fun_ok pm pn Go.Proofs.Try.func31 (r0 := VV.tu [vi 0, vi 10]) (ans := [.reg (.n :: .n :: []), .reg (nN 4 []), .br true, .reg (.n :: .n :: [])]) (fr := true) (by kernel_rfl) (an (an (ti (ti trivial)) (an (ti (ti (ti (ti trivial)))) (an (not_t (decide_eq_false h2194)) (an (ti (ti trivial)) trivial)))) (ti (ti trivial))) (Wv.refl _)
def arW2_3 (z0 : (List Int)) (z1 : Int) (z2 : ((List SRange) × (List Int) × Int)) (z3 : Bool) : List Ans := (nN 3 (.v (vi (z0.getD z1.toNat 0)) :: .n :: .n :: .v (vi (z0.getD ((0 : Int)).toNat 0)) :: nN 5 (.v (vi ((z2.1.getD z1.toNat default).Lo)) :: nN 4 (.v (vi ((z2.1.getD z1.toNat default).Hi)) :: .call (vb z3) :: .n :: []))))
def nspeculumlaw05_ProfileHeights_l0_0_h (a0 : Int) (a2 : (List Int)) (r2362 : ((List SRange) × (List Int) × Int)) (x14 : Int) : VS := ⟨mkA [(0, vi a0), (2, VV.tr (List.map vi a2) a2.length), (11, VV.fr (List.flatMap c_SRange r2362.1) r2362.1.length), (14, vi x14)], [], .nil⟩
def nspeculumlaw05_ProfileHeights_l0_0_e0 (a0 : Int) (a2 : (List Int)) (r2362 : ((List SRange) × (List Int) × Int)) (r : Unit) : VS := ⟨mkA [(6, vb false)], [], .nil⟩
def nspeculumlaw05_ProfileHeights_l0_0_e1 (a0 : Int) (a2 : (List Int)) (r2362 : ((List SRange) × (List Int) × Int)) (r : Unit) : VS := ⟨mkA [], [], .nil⟩
def nspeculumlaw05_ProfileHeights_l0_0 (k : Nat) (a0 : Int) (a2 : (List Int)) (r2362 : ((List SRange) × (List Int) × Int)) : Nat → Int → Option (Sum Unit Unit)
  | 0, _ => none
  | fuel + 1, x14 => if x14 < a0 then (if 0 ≤ x14 ∧ x14 < (a2.length : Int) then (if (0 : Int) ≤ 0 ∧ 0 < (a2.length : Int) then (if 0 ≤ x14 ∧ x14 < (r2362.1.length : Int) then ((nspeculumbase_Within k (w64 ((a2.getD x14.toNat 0) - (a2.getD ((0 : Int)).toNat 0))) ((r2362.1.getD x14.toNat default).Lo) ((r2362.1.getD x14.toNat default).Hi)).bind fun r2401 => (if r2401 = true then (nspeculumlaw05_ProfileHeights_l0_0 k a0 a2 r2362 fuel (w64 (x14 + 1))) else (some (.inl ())))) else none) else none) else none) else (some (.inr ()))
theorem nspeculumlaw05_ProfileHeights_l0_0_ok (k : Nat) (a0 : Int) (a2 : (List Int)) (r2362 : ((List SRange) × (List Int) × Int)) : ∀ (fuel : Nat) (x14 : Int) (r : Sum Unit Unit), nspeculumlaw05_ProfileHeights_l0_0 k a0 a2 r2362 fuel x14 = some r → (match r with | .inl r => VLoop none Go.Proofs.Try.prog (szF Go.Proofs.Try.f7) (bodyOf Go.Proofs.Try.f7 0) (nspeculumlaw05_ProfileHeights_l0_0_h a0 a2 r2362 x14) .ret (nspeculumlaw05_ProfileHeights_l0_0_e0 a0 a2 r2362 r) | .inr r => VLoop none Go.Proofs.Try.prog (szF Go.Proofs.Try.f7) (bodyOf Go.Proofs.Try.f7 0) (nspeculumlaw05_ProfileHeights_l0_0_h a0 a2 r2362 x14) (.exit 0) (nspeculumlaw05_ProfileHeights_l0_0_e1 a0 a2 r2362 r)) := by
 intro fuel
 induction fuel with
 | zero => intro x14 r h; rw [nspeculumlaw05_ProfileHeights_l0_0.eq_1] at h; cases h
 | succ fuel ih =>
  intro x14 r h
  rw [nspeculumlaw05_ProfileHeights_l0_0.eq_2] at h
  rcases ifs h with ⟨h2393, h⟩ | ⟨h2393, h⟩
  ·obtain ⟨h2394, h⟩ := ifn h
   have e2395 := (show loadL Go.Proofs.Try.prog 3 (x14.toNat * 1) (List.map vi a2) = some (vi (a2.getD x14.toNat 0)) from ld_map ag3 vi a2 0 h2394 (by omega))
   obtain ⟨h2396, h⟩ := ifn h
   have e2397 := (show loadL Go.Proofs.Try.prog 3 (((0 : Int)).toNat * 1) (List.map vi a2) = some (vi (a2.getD ((0 : Int)).toNat 0)) from ld_map ag3 vi a2 0 h2396 (by omega))
   obtain ⟨h2398, h⟩ := ifn h
   have e2399 := (show loadL Go.Proofs.Try.prog 3 (x14.toNat * 2 + 0) (List.flatMap c_SRange r2362.1) = some (vi ((r2362.1.getD x14.toNat default).Lo)) from (ld_flat ag3 c_SRange 2 0 len_c_SRange (by omega) r2362.1 default h2398 (by omega)).trans rfl)
   have e2400 := (show loadL Go.Proofs.Try.prog 3 (x14.toNat * 2 + 1) (List.flatMap c_SRange r2362.1) = some (vi ((r2362.1.getD x14.toNat default).Hi)) from (ld_flat ag3 c_SRange 2 1 len_c_SRange (by omega) r2362.1 default h2398 (by omega)).trans rfl)
   obtain ⟨r2401, h2402, h⟩ := bs h
   have e2403 := (nspeculumbase_Within_ok k (w64 ((a2.getD x14.toNat 0) - (a2.getD ((0 : Int)).toNat 0))) ((r2362.1.getD x14.toNat default).Lo) ((r2362.1.getD x14.toNat default).Hi) _ h2402)
   have e2404 := (ti (ti (an h2394 (an e2395 (ti (an h2396 (an e2397 (ti (ti (ti (an h2398 (ti (an e2399 (ti (ti (an h2398 (ti (an e2400 (an e2403 (ti trivial))))))))))))))))))))
   rcases ifs h with ⟨h2405, h⟩ | ⟨h2405, h⟩
   ·have h2 := ih _ _ h
    obtain ⟨q, hv, hq⟩ := pkR (rd := none) (P := Go.Proofs.Try.prog) (fn := Go.Proofs.Try.f7) (k := 0) (s := (nspeculumlaw05_ProfileHeights_l0_0_h a0 a2 r2362 x14)) (ans := [.reg (nN 3 []), .br true, .reg (arW2_3 a2 x14 r2362 r2401), .br false, .reg (nN 3 [])]) (c := ⟨[(0, none), (2, none), (11, none), (14, none)], [], []⟩) (e := .normal) (s1 := (nspeculumlaw05_ProfileHeights_l0_0_h a0 a2 r2362 (w64 (x14 + 1)))) (an (an (an (ti (ti (ti trivial))) (an (decide_eq_true h2393) trivial)) (an (an e2404 (an (not_f h2405) trivial)) (ti (ti (ti trivial))))) (ti trivial)) (by kernel_rfl)
    cases r with
    | inl r => exact round_next pm pn hv hq h2
    | inr r =>
     exact round_next pm pn hv hq h2
   ·injection h with h; subst h
    exact round_stop (c := ⟨[(6, none)], [], []⟩) (s1 := (nspeculumlaw05_ProfileHeights_l0_0_e0 a0 a2 r2362 ())) pm pn (ans := [.reg (nN 3 []), .br true, .reg (arW2_3 a2 x14 r2362 r2401), .br true, .reg (.n :: [])]) (by kernel_rfl) (by intro e; cases e) (an (an (an (ti (ti (ti trivial))) (an (decide_eq_true h2393) trivial)) (an e2404 (an (not_t (bool_f h2405)) (an (ti trivial) trivial)))) (ti trivial))
  ·injection h with h; subst h
   exact round_stop (c := ⟨[], [], []⟩) (s1 := (nspeculumlaw05_ProfileHeights_l0_0_e1 a0 a2 r2362 ())) pm pn (ans := [.reg (nN 3 []), .br false]) (by kernel_rfl) (by intro e; cases e) (an (an (ti (ti (ti trivial))) (an (decide_eq_false h2393) trivial)) (ti trivial))
def arW2_4 (z0 : (List SHeightReading)) (z1 : (List Int)) (z2 : (Int × Int)) : List Ans := (.n :: .n :: .call (VV.fr (List.flatMap c_SHeightReading z0) z0.length) :: .n :: .call (VV.fr (List.map vi z1) z1.length) :: .call (VV.tu [vi z2.1, vi z2.2]) :: nN 5 [])
def arW2_5 (z0 : (List SHeightReading)) (z1 : ((List SRange) × (List Int) × Int)) : List Ans := (.n :: .n :: .call (VV.fr (List.flatMap c_SHeightReading z0) z0.length) :: .call (VV.tu [VV.fr (List.flatMap c_SRange z1.1) z1.1.length, VV.fr (List.map vi z1.2.1) z1.2.1.length, vi z1.2.2]) :: nN 7 [])
def nspeculumlaw05_ProfileHeights (k : Nat) (a0 : Int) (a1 : (List SHeightReading)) (a2 : (List Int)) : Option Bool :=
  (nawake k).bind fun r2327 => (if r2327 = true then ((nspeculumlaw05_Few k a1 12).bind fun r2330 => (if r2330 = true then (if 45 < (a2.length : Int) then (some true) else ((nspeculumlaw05_readings k a1).bind fun r2335 => ((nspeculumbase_CopyInts k a2).bind fun r2338 => ((nprofile_CheckHeights k a0 r2335 r2338).bind fun r2341 => ((nspeculumref05_CheckReadings k a0 a1).bind fun r2345 => (if r2345 = 0 then ((nspeculumref05_CheckHeights k a0 a1 a2).bind fun r2349 => (if r2341.2 = r2349.2 then (if r2341.1 = r2349.1 then (if r2349.2 = 0 then ((nprofile_Enclosure k a0 r2335).bind fun r2362 => (if r2362.2.2 = 0 then (if (r2362.1.length : Int) = a0 then ((nspeculumlaw05_ProfileHeights_l0_0 k a0 a2 r2362 k 0).bind fun r2407 => (match r2407 with | .inl r2408 => (some false) | .inr r2409 => (some true))) else (some false)) else (some (decide (r2362.2.2 = 25))))) else (some true)) else (some false)) else (some false))) else (if r2341.2 = r2345 then (if r2341.1 = 0 then (some true) else (some false)) else (some false)))))))) else (some true))) else (some false))
theorem nspeculumlaw05_ProfileHeights_ok (k : Nat) (a0 : Int) (a1 : (List SHeightReading)) (a2 : (List Int)) (r : Bool) (h : nspeculumlaw05_ProfileHeights k a0 a1 a2 = some r) : VC Go.Proofs.Try.prog 7 [vi a0, VV.tr (List.flatMap c_SHeightReading a1) a1.length, VV.tr (List.map vi a2) a2.length] (vb r) := by
 unfold nspeculumlaw05_ProfileHeights at h
 obtain ⟨r2327, h2328, h⟩ := bs h
 rcases ifs h with ⟨h2329, h⟩ | ⟨h2329, h⟩
 ·obtain ⟨r2330, h2331, h⟩ := bs h
  rcases ifs h with ⟨h2332, h⟩ | ⟨h2332, h⟩
  ·have e2333 := (ti (an (nspeculumlaw05_Few_ok k a1 12 _ h2331) (ti (ti (an (an (not_f h2332) trivial) (an (an (not_f h2332) trivial) (an (an (not_f h2332) trivial) (an (not_f h2332) trivial))))))))
   rcases ifs h with ⟨h2334, h⟩ | ⟨h2334, h⟩
   ·injection h with h; subst h
    exact fun_ok pm pn Go.Proofs.Try.func7 (r0 := vb true) (ans := [.reg (.n :: []), .reg (.call (vb r2327) :: .n :: []), .br false, .reg (.n :: .call (vb r2330) :: nN 5 (.b false :: [])), .br true, .reg (.n :: [])]) (fr := true) (by kernel_rfl) (an (an (ti trivial) (an (an (an (nawake_ok k _ h2328) (ti trivial)) (an (not_f h2329) trivial)) (an e2333 (an (decide_eq_true h2334) (an (ti trivial) trivial))))) (ti trivial)) (Wv.refl _)
   ·obtain ⟨r2335, h2336, h⟩ := bs h
    have e2337 := (show VC Go.Proofs.Try.prog 15 [VV.tr (List.flatMap c_SHeightReading a1) a1.length] (VV.fr (List.flatMap c_SHeightReading r2335) r2335.length) from (VC.weak (nspeculumlaw05_readings_ok k a1 _ h2336) (Wv.fw rfl rfl)))
    obtain ⟨r2338, h2339, h⟩ := bs h
    have e2340 := (show VC Go.Proofs.Try.prog 21 [VV.tr (List.map vi a2) a2.length] (VV.fr (List.map vi r2338) r2338.length) from (VC.weak (nspeculumbase_CopyInts_ok k a2 _ h2339) (Wv.fw rfl rfl)))
    obtain ⟨r2341, h2342, h⟩ := bs h
    have e2343 := (nprofile_CheckHeights_ok k a0 r2335 r2338 _ h2342)
    have e2344 := (ti (ti (an e2337 (ti (an e2340 (an e2343 (ti (ti (ti (ti (ti trivial)))))))))))
    obtain ⟨r2345, h2346, h⟩ := bs h
    have e2347 := (nspeculumref05_CheckReadings_ok k a0 a1 _ h2346)
    rcases ifs h with ⟨h2348, h⟩ | ⟨h2348, h⟩
    ·obtain ⟨r2349, h2350, h⟩ := bs h
     have e2351 := (nspeculumref05_CheckHeights_ok k a0 a1 a2 _ h2350)
     have e2352 := (ti (ti (ti (an e2351 (ti (ti (ti (ti (ti trivial)))))))))
     rcases ifs h with ⟨h2353, h⟩ | ⟨h2353, h⟩
     ·have e2354 := (an (not_f (decide_eq_true h2353)) trivial)
      have e2355 := (an (not_f (decide_eq_true h2353)) trivial)
      have e2356 := (an (not_f (decide_eq_true h2353)) trivial)
      have e2357 := (ti (ti (ti (ti (an e2354 (an e2355 (an e2356 (an (not_f (decide_eq_true h2353)) trivial))))))))
      rcases ifs h with ⟨h2358, h⟩ | ⟨h2358, h⟩
      ·rcases ifs h with ⟨h2359, h⟩ | ⟨h2359, h⟩
       ·have e2361 := (show VC Go.Proofs.Try.prog 15 [VV.tr (List.flatMap c_SHeightReading a1) a1.length] (VV.fr (List.flatMap c_SHeightReading r2335) r2335.length) from (VC.weak (nspeculumlaw05_readings_ok k a1 _ h2336) (Wv.fw rfl rfl)))
        obtain ⟨r2362, h2363, h⟩ := bs h
        have e2364 := (nprofile_Enclosure_ok k a0 r2335 _ h2363)
        have e2365 := (ti (ti (an e2361 (an e2364 (ti (ti (ti (ti (ti (ti (ti trivial)))))))))))
        rcases ifs h with ⟨h2366, h⟩ | ⟨h2366, h⟩
        ·rcases ifs h with ⟨h2367, h⟩ | ⟨h2367, h⟩
         ·obtain ⟨r2407, h2406, h⟩ := bs h
          have hph2406 := nspeculumlaw05_ProfileHeights_l0_0_ok k a0 a2 r2362 _ _ _ h2406
          cases r2407 with
          | inl r2408 =>
           dsimp only at h
           have e2410 := (an (ti trivial) (VRun.loop hph2406))
           injection h with h; subst h
           exact fun_ok pm pn Go.Proofs.Try.func7 (r0 := vb false) (ans := [.reg (.n :: []), .reg (.call (vb r2327) :: .n :: []), .br false, .reg (.n :: .call (vb r2330) :: nN 5 (.b false :: [])), .br false, .reg (arW2_4 r2335 r2338 r2341), .reg (.n :: .n :: .call (vi r2345) :: .n :: []), .reg (.n :: []), .reg (.n :: .n :: []), .br true, .reg (nN 3 (.call (VV.tu [vi r2349.1, vi r2349.2]) :: nN 5 [])), .reg (nN 7 (.b false :: [])), .br false, .reg (.n :: .n :: []), .br false, .reg (arW2_5 r2335 r2362), .reg (.n :: .n :: []), .br false, .reg (nN 4 []), .br false, .reg (.n :: []), .sub ⟨[(0, none), (2, none), (11, none), (14, none)], [], []⟩ .ret (nspeculumlaw05_ProfileHeights_l0_0_e0 a0 a2 r2362 r2408)]) (fr := true) (by kernel_rfl) (an (an (ti trivial) (an (an (an (nawake_ok k _ h2328) (ti trivial)) (an (not_f h2329) trivial)) (an (an e2333 (an (decide_eq_false h2334) trivial)) (an e2344 (an (ti (ti (an e2347 (ti trivial)))) (an (ti trivial) (an (an (ti (ti trivial)) (an (decide_eq_true h2348) e2352)) (an (an e2357 (an (not_f (decide_eq_true h2358)) trivial)) (an (an (ti (ti trivial)) (an (not_f (decide_eq_true h2359)) trivial)) (an e2365 (an (an (ti (ti trivial)) (an (not_f (decide_eq_true h2366)) trivial)) (an (an (ti (ti (ti (ti trivial)))) (an (not_f (decide_eq_true h2367)) trivial)) (an (ti trivial) e2410))))))))))))) (ti trivial)) (Wv.refl _)
          | inr r2409 =>
           dsimp only at h
           have e2411 := (an (ti trivial) (VRun.loop hph2406))
           injection h with h; subst h
           exact fun_ok pm pn Go.Proofs.Try.func7 (r0 := vb true) (ans := [.reg (.n :: []), .reg (.call (vb r2327) :: .n :: []), .br false, .reg (.n :: .call (vb r2330) :: nN 5 (.b false :: [])), .br false, .reg (arW2_4 r2335 r2338 r2341), .reg (.n :: .n :: .call (vi r2345) :: .n :: []), .reg (.n :: []), .reg (.n :: .n :: []), .br true, .reg (nN 3 (.call (VV.tu [vi r2349.1, vi r2349.2]) :: nN 5 [])), .reg (nN 7 (.b false :: [])), .br false, .reg (.n :: .n :: []), .br false, .reg (arW2_5 r2335 r2362), .reg (.n :: .n :: []), .br false, .reg (nN 4 []), .br false, .reg (.n :: []), .sub ⟨[(0, none), (2, none), (11, none), (14, none)], [], []⟩ (.exit 0) (nspeculumlaw05_ProfileHeights_l0_0_e1 a0 a2 r2362 r2409), .reg (.n :: [])]) (fr := true) (by kernel_rfl) (an (an (ti trivial) (an (an (an (nawake_ok k _ h2328) (ti trivial)) (an (not_f h2329) trivial)) (an (an e2333 (an (decide_eq_false h2334) trivial)) (an e2344 (an (ti (ti (an e2347 (ti trivial)))) (an (ti trivial) (an (an (ti (ti trivial)) (an (decide_eq_true h2348) e2352)) (an (an e2357 (an (not_f (decide_eq_true h2358)) trivial)) (an (an (ti (ti trivial)) (an (not_f (decide_eq_true h2359)) trivial)) (an e2365 (an (an (ti (ti trivial)) (an (not_f (decide_eq_true h2366)) trivial)) (an (an (ti (ti (ti (ti trivial)))) (an (not_f (decide_eq_true h2367)) trivial)) (an (an (ti trivial) e2411) (an (ti trivial) trivial)))))))))))))) (ti trivial)) (Wv.refl _)
         ·injection h with h; subst h
          exact fun_ok pm pn Go.Proofs.Try.func7 (r0 := vb false) (ans := [.reg (.n :: []), .reg (.call (vb r2327) :: .n :: []), .br false, .reg (.n :: .call (vb r2330) :: nN 5 (.b false :: [])), .br false, .reg (arW2_4 r2335 r2338 r2341), .reg (.n :: .n :: .call (vi r2345) :: .n :: []), .reg (.n :: []), .reg (.n :: .n :: []), .br true, .reg (nN 3 (.call (VV.tu [vi r2349.1, vi r2349.2]) :: nN 5 [])), .reg (nN 7 (.b false :: [])), .br false, .reg (.n :: .n :: []), .br false, .reg (arW2_5 r2335 r2362), .reg (.n :: .n :: []), .br false, .reg (nN 4 []), .br true, .reg (.n :: [])]) (fr := true) (by kernel_rfl) (an (an (ti trivial) (an (an (an (nawake_ok k _ h2328) (ti trivial)) (an (not_f h2329) trivial)) (an (an e2333 (an (decide_eq_false h2334) trivial)) (an e2344 (an (ti (ti (an e2347 (ti trivial)))) (an (ti trivial) (an (an (ti (ti trivial)) (an (decide_eq_true h2348) e2352)) (an (an e2357 (an (not_f (decide_eq_true h2358)) trivial)) (an (an (ti (ti trivial)) (an (not_f (decide_eq_true h2359)) trivial)) (an e2365 (an (an (ti (ti trivial)) (an (not_f (decide_eq_true h2366)) trivial)) (an (ti (ti (ti (ti trivial)))) (an (not_t (decide_eq_false h2367)) (an (ti trivial) trivial)))))))))))))) (ti trivial)) (Wv.refl _)
        ·injection h with h; subst h
         exact fun_ok pm pn Go.Proofs.Try.func7 (r0 := vb (decide (r2362.2.2 = 25))) (ans := [.reg (.n :: []), .reg (.call (vb r2327) :: .n :: []), .br false, .reg (.n :: .call (vb r2330) :: nN 5 (.b false :: [])), .br false, .reg (arW2_4 r2335 r2338 r2341), .reg (.n :: .n :: .call (vi r2345) :: .n :: []), .reg (.n :: []), .reg (.n :: .n :: []), .br true, .reg (nN 3 (.call (VV.tu [vi r2349.1, vi r2349.2]) :: nN 5 [])), .reg (nN 7 (.b false :: [])), .br false, .reg (.n :: .n :: []), .br false, .reg (arW2_5 r2335 r2362), .reg (.n :: .n :: []), .br true, .reg (nN 3 [])]) (fr := true) (by kernel_rfl) (an (an (ti trivial) (an (an (an (nawake_ok k _ h2328) (ti trivial)) (an (not_f h2329) trivial)) (an (an e2333 (an (decide_eq_false h2334) trivial)) (an e2344 (an (ti (ti (an e2347 (ti trivial)))) (an (ti trivial) (an (an (ti (ti trivial)) (an (decide_eq_true h2348) e2352)) (an (an e2357 (an (not_f (decide_eq_true h2358)) trivial)) (an (an (ti (ti trivial)) (an (not_f (decide_eq_true h2359)) trivial)) (an e2365 (an (ti (ti trivial)) (an (not_t (decide_eq_false h2366)) (an (ti (ti (ti trivial))) trivial))))))))))))) (ti trivial)) (Wv.refl _)
       ·injection h with h; subst h
        exact fun_ok pm pn Go.Proofs.Try.func7 (r0 := vb true) (ans := [.reg (.n :: []), .reg (.call (vb r2327) :: .n :: []), .br false, .reg (.n :: .call (vb r2330) :: nN 5 (.b false :: [])), .br false, .reg (arW2_4 r2335 r2338 r2341), .reg (.n :: .n :: .call (vi r2345) :: .n :: []), .reg (.n :: []), .reg (.n :: .n :: []), .br true, .reg (nN 3 (.call (VV.tu [vi r2349.1, vi r2349.2]) :: nN 5 [])), .reg (nN 7 (.b false :: [])), .br false, .reg (.n :: .n :: []), .br true, .reg (.n :: [])]) (fr := true) (by kernel_rfl) (an (an (ti trivial) (an (an (an (nawake_ok k _ h2328) (ti trivial)) (an (not_f h2329) trivial)) (an (an e2333 (an (decide_eq_false h2334) trivial)) (an e2344 (an (ti (ti (an e2347 (ti trivial)))) (an (ti trivial) (an (an (ti (ti trivial)) (an (decide_eq_true h2348) e2352)) (an (an e2357 (an (not_f (decide_eq_true h2358)) trivial)) (an (ti (ti trivial)) (an (not_t (decide_eq_false h2359)) (an (ti trivial) trivial))))))))))) (ti trivial)) (Wv.refl _)
      ·injection h with h; subst h
       exact fun_ok pm pn Go.Proofs.Try.func7 (r0 := vb false) (ans := [.reg (.n :: []), .reg (.call (vb r2327) :: .n :: []), .br false, .reg (.n :: .call (vb r2330) :: nN 5 (.b false :: [])), .br false, .reg (arW2_4 r2335 r2338 r2341), .reg (.n :: .n :: .call (vi r2345) :: .n :: []), .reg (.n :: []), .reg (.n :: .n :: []), .br true, .reg (nN 3 (.call (VV.tu [vi r2349.1, vi r2349.2]) :: nN 5 [])), .reg (nN 7 (.b false :: [])), .br true, .reg (.n :: [])]) (fr := true) (by kernel_rfl) (an (an (ti trivial) (an (an (an (nawake_ok k _ h2328) (ti trivial)) (an (not_f h2329) trivial)) (an (an e2333 (an (decide_eq_false h2334) trivial)) (an e2344 (an (ti (ti (an e2347 (ti trivial)))) (an (ti trivial) (an (an (ti (ti trivial)) (an (decide_eq_true h2348) e2352)) (an e2357 (an (not_t (decide_eq_false h2358)) (an (ti trivial) trivial)))))))))) (ti trivial)) (Wv.refl _)
     ·have e2412 := (ti (ti (ti (ti (an (not_t (decide_eq_false h2353)) (an (not_t (decide_eq_false h2353)) (an (not_t (decide_eq_false h2353)) (an (not_t (decide_eq_false h2353)) trivial))))))))
      injection h with h; subst h
      exact fun_ok pm pn Go.Proofs.Try.func7 (r0 := vb false) (ans := [.reg (.n :: []), .reg (.call (vb r2327) :: .n :: []), .br false, .reg (.n :: .call (vb r2330) :: nN 5 (.b false :: [])), .br false, .reg (arW2_4 r2335 r2338 r2341), .reg (.n :: .n :: .call (vi r2345) :: .n :: []), .reg (.n :: []), .reg (.n :: .n :: []), .br true, .reg (nN 3 (.call (VV.tu [vi r2349.1, vi r2349.2]) :: nN 5 [])), .reg (nN 4 (nS 3 (.b true :: []))), .br true, .reg (.n :: [])]) (fr := true) (by kernel_rfl) (an (an (ti trivial) (an (an (an (nawake_ok k _ h2328) (ti trivial)) (an (not_f h2329) trivial)) (an (an e2333 (an (decide_eq_false h2334) trivial)) (an e2344 (an (ti (ti (an e2347 (ti trivial)))) (an (ti trivial) (an (an (ti (ti trivial)) (an (decide_eq_true h2348) e2352)) (an e2412 (an rt (an (ti trivial) trivial)))))))))) (ti trivial)) (Wv.refl _)
    ·rcases ifs h with ⟨h2413, h⟩ | ⟨h2413, h⟩
     ·have e2414 := (an (not_f (decide_eq_true h2413)) trivial)
      have e2415 := (an (not_f (decide_eq_true h2413)) trivial)
      have e2416 := (an (not_f (decide_eq_true h2413)) trivial)
      have e2417 := (ti (ti (ti (ti (an e2414 (an e2415 (an e2416 (an (not_f (decide_eq_true h2413)) trivial))))))))
      rcases ifs h with ⟨h2418, h⟩ | ⟨h2418, h⟩
      ·injection h with h; subst h
       exact fun_ok pm pn Go.Proofs.Try.func7 (r0 := vb true) (ans := [.reg (.n :: []), .reg (.call (vb r2327) :: .n :: []), .br false, .reg (.n :: .call (vb r2330) :: nN 5 (.b false :: [])), .br false, .reg (arW2_4 r2335 r2338 r2341), .reg (.n :: .n :: .call (vi r2345) :: .n :: []), .reg (.n :: []), .reg (.n :: .n :: []), .br false, .reg (nN 7 (.b false :: [])), .br false, .reg (.n :: .n :: []), .br true, .reg (.n :: [])]) (fr := true) (by kernel_rfl) (an (an (ti trivial) (an (an (an (nawake_ok k _ h2328) (ti trivial)) (an (not_f h2329) trivial)) (an (an e2333 (an (decide_eq_false h2334) trivial)) (an e2344 (an (ti (ti (an e2347 (ti trivial)))) (an (ti trivial) (an (an (ti (ti trivial)) (an (decide_eq_false h2348) trivial)) (an (an e2417 (an (not_f (decide_eq_true h2418)) trivial)) (an (ti (ti trivial)) (an (not_t (decide_eq_false h2348)) (an (ti trivial) trivial))))))))))) (ti trivial)) (Wv.refl _)
      ·injection h with h; subst h
       exact fun_ok pm pn Go.Proofs.Try.func7 (r0 := vb false) (ans := [.reg (.n :: []), .reg (.call (vb r2327) :: .n :: []), .br false, .reg (.n :: .call (vb r2330) :: nN 5 (.b false :: [])), .br false, .reg (arW2_4 r2335 r2338 r2341), .reg (.n :: .n :: .call (vi r2345) :: .n :: []), .reg (.n :: []), .reg (.n :: .n :: []), .br false, .reg (nN 7 (.b false :: [])), .br true, .reg (.n :: [])]) (fr := true) (by kernel_rfl) (an (an (ti trivial) (an (an (an (nawake_ok k _ h2328) (ti trivial)) (an (not_f h2329) trivial)) (an (an e2333 (an (decide_eq_false h2334) trivial)) (an e2344 (an (ti (ti (an e2347 (ti trivial)))) (an (ti trivial) (an (an (ti (ti trivial)) (an (decide_eq_false h2348) trivial)) (an e2417 (an (not_t (decide_eq_false h2418)) (an (ti trivial) trivial)))))))))) (ti trivial)) (Wv.refl _)
     ·have e2419 := (ti (ti (ti (ti (an (not_t (decide_eq_false h2413)) (an (not_t (decide_eq_false h2413)) (an (not_t (decide_eq_false h2413)) (an (not_t (decide_eq_false h2413)) trivial))))))))
      injection h with h; subst h
      exact fun_ok pm pn Go.Proofs.Try.func7 (r0 := vb false) (ans := [.reg (.n :: []), .reg (.call (vb r2327) :: .n :: []), .br false, .reg (.n :: .call (vb r2330) :: nN 5 (.b false :: [])), .br false, .reg (arW2_4 r2335 r2338 r2341), .reg (.n :: .n :: .call (vi r2345) :: .n :: []), .reg (.n :: []), .reg (.n :: .n :: []), .br false, .reg (nN 4 (nS 3 (.b true :: []))), .br true, .reg (.n :: [])]) (fr := true) (by kernel_rfl) (an (an (ti trivial) (an (an (an (nawake_ok k _ h2328) (ti trivial)) (an (not_f h2329) trivial)) (an (an e2333 (an (decide_eq_false h2334) trivial)) (an e2344 (an (ti (ti (an e2347 (ti trivial)))) (an (ti trivial) (an (an (ti (ti trivial)) (an (decide_eq_false h2348) trivial)) (an e2419 (an rt (an (ti trivial) trivial)))))))))) (ti trivial)) (Wv.refl _)
  ·have e2420 := (ti (an (nspeculumlaw05_Few_ok k a1 12 _ h2331) (ti (ti (an (not_t (bool_f h2332)) (an (not_t (bool_f h2332)) (an (not_t (bool_f h2332)) (an (not_t (bool_f h2332)) trivial))))))))
   injection h with h; subst h
   exact fun_ok pm pn Go.Proofs.Try.func7 (r0 := vb true) (ans := [.reg (.n :: []), .reg (.call (vb r2327) :: .n :: []), .br false, .reg (.n :: .call (vb r2330) :: .n :: .n :: nS 3 (.b true :: [])), .br true, .reg (.n :: [])]) (fr := true) (by kernel_rfl) (an (an (ti trivial) (an (an (an (nawake_ok k _ h2328) (ti trivial)) (an (not_f h2329) trivial)) (an e2420 (an rt (an (ti trivial) trivial))))) (ti trivial)) (Wv.refl _)
 ·injection h with h; subst h
  exact fun_ok pm pn Go.Proofs.Try.func7 (r0 := vb false) (ans := [.reg (.n :: []), .reg (.call (vb r2327) :: .n :: []), .br true, .reg (.n :: [])]) (fr := true) (by kernel_rfl) (an (an (ti trivial) (an (an (nawake_ok k _ h2328) (ti trivial)) (an (not_t (bool_f h2329)) (an (ti trivial) trivial)))) (ti trivial)) (Wv.refl _)
end Go.Proofs.Ytnfiipmcggjahaa.Vg

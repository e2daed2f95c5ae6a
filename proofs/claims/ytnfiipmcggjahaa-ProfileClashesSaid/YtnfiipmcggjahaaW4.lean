/- Written by a program out of the program: what Go functions do, as plain functions, and their contracts. -/
import Derived.Test.YtnfiipmcggjahaaW1
namespace Go.Proofs.Ytnfiipmcggjahaa.Vg
set_option maxRecDepth 100000
set_option maxHeartbeats 4000000
set_option linter.unusedVariables false
set_option linter.unusedSimpArgs false
open Go Go.Proofs.Ytnfiipmcggjahaa.Ev Go.Proofs.Ytnfiipmcggjahaa.Vv
def nawake (k : Nat) : Option Bool := some true
theorem nawake_ok (k : Nat) (r : Bool) (h : nawake k = some r) : VC Go.Proofs.Try.prog 12 [] (vb r) := by
  injection h with h; subst h
  exact vc_awake
def nspeculumbase_CopyInts (k : Nat) (a0 : (List Int)) : Option (List Int) :=
  if ([] : List Int).length + a0.length ≤ 1000000000 then (some (([] : List Int) ++ a0)) else none
theorem nspeculumbase_CopyInts_ok (k : Nat) (a0 : (List Int)) (r : (List Int)) (h : nspeculumbase_CopyInts k a0 = some r) : VC Go.Proofs.Try.prog 21 [VV.tr (List.map vi a0) a0.length] (VV.fw 1 (List.map vi r) r.length) := by
 unfold nspeculumbase_CopyInts at h
 obtain ⟨h2002, h⟩ := ifn h
 have e2003 := (show List.length [] = 0 * 1 ∧ List.length (List.map vi a0) = a0.length * 1 ∧ (0 + a0.length) * 8 ≤ 140737488355328 ∧ 0 + a0.length < 1099511627776 ∧ List.all (List.map vi a0) VV.still = true from ⟨(by rw [show [] = List.map vi ([] : List Int) from rfl]; simp), (by simp), (by first | omega | (simp at h2002 ⊢; omega)), (by first | omega | (simp at h2002 ⊢; omega)), (by exact still_vi _)⟩)
 injection h with h; subst h
 exact fun_ok pm pn Go.Proofs.Try.func21 (r0 := VV.fw 1 (List.drop 0 (List.map unfr ([] ++ (List.map vi a0)))) (0 + a0.length)) (ans := [.reg (.n :: []), .reg (nN 4 [])]) (fr := true) (by kernel_rfl) (an (an (ti trivial) (an (ti (ti (an e2003 (ti trivial)))) trivial)) (an (show List.all ([] ++ (List.map vi a0)) new0 = true from (by rw [show [] ++ (List.map vi a0) = List.map vi (([] : List Int) ++ a0) from (by rw [show [] = List.map vi ([] : List Int) from rfl]; exact List.map_append.symm)]; exact new0_vi _)) trivial)) (Wv.of_eq (by simp only [show [] ++ (List.map vi a0) = List.map vi (([] : List Int) ++ a0) from (by rw [show [] = List.map vi ([] : List Int) from rfl]; exact List.map_append.symm), drop0, unfr_vi, unfr_vb, unfr_vs, List.map_cons, List.map_nil, un_i, un_k, un_b, un_s, un_tr, un_fr, List.length_map, List.length_replicate, List.length_append, List.length_set, List.length_cons, List.length_nil, unfr_c_SHeightReading, unfr_c_SRange, unfr_c_Sleg, unfr_c_Sweb, unfr_g_Sweb]))
theorem eqW4_0 (z0 : (List SHeightReading)) (z1 : (List Int)) : [vi (z0.length : Int), VV.tr (List.map vi ([(z1.getD ((0 : Int)).toNat 0)] : List Int)) (([(z1.getD ((0 : Int)).toNat 0)] : List Int).length)] = [vi (z0.length : Int), VV.tr [vi (z1.getD ((0 : Int)).toNat 0)] 1] := by first | rfl | (simp only [unfr_vi, List.map_cons, List.map_nil, un_i, un_tr, List.length_map, List.length_cons, List.length_nil]; done) | (simp only [unfr_vi, List.map_cons, List.map_nil, un_i, un_tr, List.length_map, List.length_cons, List.length_nil]; rfl) | (simp only [unfr_vi, List.map_cons, List.map_nil, un_i, un_tr, List.length_map, List.length_cons, List.length_nil, List.length_cons, List.length_nil, List.length_append]; done)
theorem eqW4_1 (z0 : (List SHeightReading)) (z1 : (List Int)) (z2 : Int) : [vi (z0.length : Int), VV.tr (List.map vi ([(z1.getD z2.toNat 0)] : List Int)) (([(z1.getD z2.toNat 0)] : List Int).length)] = [vi (z0.length : Int), VV.tr [vi (z1.getD z2.toNat 0)] 1] := by first | rfl | (simp only [unfr_vi, List.map_cons, List.map_nil, un_i, un_tr, List.length_map, List.length_cons, List.length_nil]; done) | (simp only [unfr_vi, List.map_cons, List.map_nil, un_i, un_tr, List.length_map, List.length_cons, List.length_nil]; rfl) | (simp only [unfr_vi, List.map_cons, List.map_nil, un_i, un_tr, List.length_map, List.length_cons, List.length_nil, List.length_cons, List.length_nil, List.length_append]; done)
def nprofile_CheckClash_l0_0_h (a1 : (List SHeightReading)) (a2 : (List Int)) (x28 : Int) : VS := ⟨mkA [(1, VV.tr (List.flatMap c_SHeightReading a1) a1.length), (2, VV.tr (List.map vi a2) a2.length), (26, VV.tr (List.map vi a2) a2.length), (27, vi (a2.length : Int)), (28, vi x28)], [], .nil⟩
def nprofile_CheckClash_l0_0_e0 (a1 : (List SHeightReading)) (a2 : (List Int)) (r : Unit) : VS := ⟨mkA [(6, vi 0), (7, vi 6)], [], .nil⟩
def nprofile_CheckClash_l0_0_e1 (a1 : (List SHeightReading)) (a2 : (List Int)) (r : Unit) : VS := ⟨mkA [(1, VV.tr (List.flatMap c_SHeightReading a1) a1.length), (2, VV.tr (List.map vi a2) a2.length)], [], .nil⟩
def nprofile_CheckClash_l0_0 (k : Nat) (a1 : (List SHeightReading)) (a2 : (List Int)) : Nat → Int → Option (Sum Unit Unit)
  | 0, _ => none
  | fuel + 1, x28 => if x28 < (a2.length : Int) then (if 0 ≤ x28 ∧ x28 < (a2.length : Int) then (if (a2.getD x28.toNat 0) = 0 then (some (.inl ())) else ((nprofile_areSmall k (a1.length : Int) ([(a2.getD x28.toNat 0)] : List Int)).bind fun r2118 => (if r2118 = true then (nprofile_CheckClash_l0_0 k a1 a2 fuel (w64 (x28 + 1))) else (some (.inl ()))))) else none) else (some (.inr ()))
theorem nprofile_CheckClash_l0_0_ok (k : Nat) (a1 : (List SHeightReading)) (a2 : (List Int)) : ∀ (fuel : Nat) (x28 : Int) (r : Sum Unit Unit), nprofile_CheckClash_l0_0 k a1 a2 fuel x28 = some r → (match r with | .inl r => VLoop none Go.Proofs.Try.prog (szF Go.Proofs.Try.f20) (bodyOf Go.Proofs.Try.f20 0) (nprofile_CheckClash_l0_0_h a1 a2 x28) .ret (nprofile_CheckClash_l0_0_e0 a1 a2 r) | .inr r => VLoop none Go.Proofs.Try.prog (szF Go.Proofs.Try.f20) (bodyOf Go.Proofs.Try.f20 0) (nprofile_CheckClash_l0_0_h a1 a2 x28) (.exit 0) (nprofile_CheckClash_l0_0_e1 a1 a2 r)) := by
 intro fuel
 induction fuel with
 | zero => intro x28 r h; rw [nprofile_CheckClash_l0_0.eq_1] at h; cases h
 | succ fuel ih =>
  intro x28 r h
  rw [nprofile_CheckClash_l0_0.eq_2] at h
  rcases ifs h with ⟨h2113, h⟩ | ⟨h2113, h⟩
  ·obtain ⟨h2114, h⟩ := ifn h
   have e2115 := (show loadL Go.Proofs.Try.prog 3 (x28.toNat * 1) (List.map vi a2) = some (vi (a2.getD x28.toNat 0)) from ld_map ag3 vi a2 0 h2114 (by omega))
   rcases ifs h with ⟨h2116, h⟩ | ⟨h2116, h⟩
   ·have e2117 := (ti (ti (ti (an (decide_eq_true h2116) (an (decide_eq_true h2116) (an (decide_eq_true h2116) (an (decide_eq_true h2116) (an (decide_eq_true h2116) (an (decide_eq_true h2116) (an (decide_eq_true h2116) trivial))))))))))
    injection h with h; subst h
    exact round_stop (c := ⟨[(6, none), (7, none)], [], []⟩) (s1 := (nprofile_CheckClash_l0_0_e0 a1 a2 ())) pm pn (ans := [.reg (.n :: []), .br true, .reg (.n :: .v (vi (a2.getD x28.toNat 0)) :: .n :: []), .reg (nN 3 (nS 6 (.b true :: []))), .br true, .reg (.n :: .n :: [])]) (by kernel_rfl) (by intro e; cases e) (an (an (ti trivial) (an (an (decide_eq_true h2113) trivial) (an (an h2114 (an e2115 (ti trivial))) (an e2117 (an rt (an (ti (ti trivial)) trivial)))))) (ti trivial))
   ·obtain ⟨r2118, h2119, h⟩ := bs h
    have e2120 := (an (decide_eq_false h2116) (VC.args (nprofile_areSmall_ok k (a1.length : Int) ([(a2.getD x28.toNat 0)] : List Int) _ h2119) (eqW4_1 a1 a2 x28)))
    have e2121 := (ti (ti (ti (an (an (decide_eq_false h2116) trivial) (an (an (decide_eq_false h2116) trivial) (an (an (decide_eq_false h2116) trivial) (an (an (decide_eq_false h2116) trivial) (an e2120 (an (an (decide_eq_false h2116) trivial) (an (decide_eq_false h2116) trivial))))))))))
    rcases ifs h with ⟨h2122, h⟩ | ⟨h2122, h⟩
    ·have h2 := ih _ _ h
     obtain ⟨q, hv, hq⟩ := pkR (rd := none) (P := Go.Proofs.Try.prog) (fn := Go.Proofs.Try.f20) (k := 0) (s := (nprofile_CheckClash_l0_0_h a1 a2 x28)) (ans := [.reg (.n :: []), .br true, .reg (.n :: .v (vi (a2.getD x28.toNat 0)) :: .n :: []), .reg (nN 6 (.v VV.any :: .call (vb r2118) :: .n :: .b false :: [])), .br false, .reg (.n :: .n :: [])]) (c := ⟨[(1, none), (2, none), (26, none), (27, none), (28, none)], [], []⟩) (e := .normal) (s1 := (nprofile_CheckClash_l0_0_h a1 a2 (w64 (x28 + 1)))) (an (an (ti trivial) (an (an (decide_eq_true h2113) trivial) (an (an (an h2114 (an e2115 (ti trivial))) (an e2121 (an (not_f h2122) trivial))) (ti (ti trivial))))) (ti trivial)) (by kernel_rfl)
     cases r with
     | inl r => exact round_next pm pn hv hq h2
     | inr r =>
      exact round_next pm pn hv hq h2
    ·injection h with h; subst h
     exact round_stop (c := ⟨[(6, none), (7, none)], [], []⟩) (s1 := (nprofile_CheckClash_l0_0_e0 a1 a2 ())) pm pn (ans := [.reg (.n :: []), .br true, .reg (.n :: .v (vi (a2.getD x28.toNat 0)) :: .n :: []), .reg (nN 6 (.v VV.any :: .call (vb r2118) :: .n :: .b false :: [])), .br true, .reg (.n :: .n :: [])]) (by kernel_rfl) (by intro e; cases e) (an (an (ti trivial) (an (an (decide_eq_true h2113) trivial) (an (an h2114 (an e2115 (ti trivial))) (an e2121 (an (not_t (bool_f h2122)) (an (ti (ti trivial)) trivial)))))) (ti trivial))
  ·injection h with h; subst h
   exact round_stop (c := ⟨[(1, none), (2, none)], [], []⟩) (s1 := (nprofile_CheckClash_l0_0_e1 a1 a2 ())) pm pn (ans := [.reg (.n :: []), .br false]) (by kernel_rfl) (by intro e; cases e) (an (an (ti trivial) (an (decide_eq_false h2113) trivial)) (ti trivial))
def nprofile_CheckClash_l1_0_h (a1 : (List SHeightReading)) (a2 : (List Int)) (x11 : Int) (x12 : Int) (x54 : Int) : VS := ⟨mkA [(1, VV.tr (List.flatMap c_SHeightReading a1) a1.length), (11, vi x11), (12, vi x12), (52, VV.tr (List.map vi a2) a2.length), (53, vi (a2.length : Int)), (54, vi x54)], [], .nil⟩
def nprofile_CheckClash_l1_0_e0 (a1 : (List SHeightReading)) (a2 : (List Int)) (r : Unit) : VS := ⟨mkA [(6, vi 0), (7, vi 25)], [], .nil⟩
def nprofile_CheckClash_l1_0_e1 (a1 : (List SHeightReading)) (a2 : (List Int)) (r : Int) : VS := ⟨mkA [(11, vi r)], [], .nil⟩
def nprofile_CheckClash_l1_0 (k : Nat) (a1 : (List SHeightReading)) (a2 : (List Int)) : Nat → Int → Int → Int → Option (Sum Unit Int)
  | 0, _, _, _ => none
  | fuel + 1, x11, x12, x54 => if x54 < (a2.length : Int) then (if 0 ≤ x54 ∧ x54 < (a2.length : Int) then ((nprofile_legOf k a1 (a2.getD x54.toNat 0)).bind fun r2152 => (if r2152.from_ = x12 then (nprofile_CheckClash_l1_0 k a1 a2 fuel (w64 (x11 + r2152.length)) r2152.to (w64 (x54 + 1))) else (some (.inl ())))) else none) else (some (.inr x11))
theorem nprofile_CheckClash_l1_0_ok (k : Nat) (a1 : (List SHeightReading)) (a2 : (List Int)) : ∀ (fuel : Nat) (x11 : Int) (x12 : Int) (x54 : Int) (r : Sum Unit Int), nprofile_CheckClash_l1_0 k a1 a2 fuel x11 x12 x54 = some r → (match r with | .inl r => VLoop none Go.Proofs.Try.prog (szF Go.Proofs.Try.f20) (bodyOf Go.Proofs.Try.f20 1) (nprofile_CheckClash_l1_0_h a1 a2 x11 x12 x54) .ret (nprofile_CheckClash_l1_0_e0 a1 a2 r) | .inr r => VLoop none Go.Proofs.Try.prog (szF Go.Proofs.Try.f20) (bodyOf Go.Proofs.Try.f20 1) (nprofile_CheckClash_l1_0_h a1 a2 x11 x12 x54) (.exit 2) (nprofile_CheckClash_l1_0_e1 a1 a2 r)) := by
 intro fuel
 induction fuel with
 | zero => intro x11 x12 x54 r h; rw [nprofile_CheckClash_l1_0.eq_1] at h; cases h
 | succ fuel ih =>
  intro x11 x12 x54 r h
  rw [nprofile_CheckClash_l1_0.eq_2] at h
  rcases ifs h with ⟨h2149, h⟩ | ⟨h2149, h⟩
  ·obtain ⟨h2150, h⟩ := ifn h
   have e2151 := (show loadL Go.Proofs.Try.prog 3 (x54.toNat * 1) (List.map vi a2) = some (vi (a2.getD x54.toNat 0)) from ld_map ag3 vi a2 0 h2150 (by omega))
   obtain ⟨r2152, h2153, h⟩ := bs h
   have e2154 := (nprofile_legOf_ok k a1 (a2.getD x54.toNat 0) _ h2153)
   rcases ifs h with ⟨h2155, h⟩ | ⟨h2155, h⟩
   ·have h2 := ih _ _ _ _ h
    obtain ⟨q, hv, hq⟩ := pkR (rd := none) (P := Go.Proofs.Try.prog) (fn := Go.Proofs.Try.f20) (k := 1) (s := (nprofile_CheckClash_l1_0_h a1 a2 x11 x12 x54)) (ans := [.reg (.n :: []), .br true, .reg (.n :: .v (vi (a2.getD x54.toNat 0)) :: .n :: []), .reg (.n :: .n :: .call (VV.ag (c_Sleg r2152)) :: .n :: .n :: []), .reg (nN 4 []), .br false, .reg (nN 8 []), .reg (.n :: .n :: [])]) (c := ⟨[(1, none), (11, none), (12, none), (52, none), (53, none), (54, none)], [], []⟩) (e := .normal) (s1 := (nprofile_CheckClash_l1_0_h a1 a2 (w64 (x11 + r2152.length)) r2152.to (w64 (x54 + 1)))) (an (an (ti trivial) (an (an (decide_eq_true h2149) trivial) (an (an (an h2150 (an e2151 (ti trivial))) (an (ti (ti (an e2154 (ti (ti trivial))))) (an (an (ti (ti (ti (ti trivial)))) (an (not_f (decide_eq_true h2155)) trivial)) (ti (ti (ti (ti (ti (ti (ti (ti trivial))))))))))) (ti (ti trivial))))) (ti trivial)) (by kernel_rfl)
    cases r with
    | inl r => exact round_next pm pn hv hq h2
    | inr r =>
     exact round_next pm pn hv hq h2
   ·injection h with h; subst h
    exact round_stop (c := ⟨[(6, none), (7, none)], [], []⟩) (s1 := (nprofile_CheckClash_l1_0_e0 a1 a2 ())) pm pn (ans := [.reg (.n :: []), .br true, .reg (.n :: .v (vi (a2.getD x54.toNat 0)) :: .n :: []), .reg (.n :: .n :: .call (VV.ag (c_Sleg r2152)) :: .n :: .n :: []), .reg (nN 4 []), .br true, .reg (.n :: .n :: [])]) (by kernel_rfl) (by intro e; cases e) (an (an (ti trivial) (an (an (decide_eq_true h2149) trivial) (an (an h2150 (an e2151 (ti trivial))) (an (ti (ti (an e2154 (ti (ti trivial))))) (an (ti (ti (ti (ti trivial)))) (an (not_t (decide_eq_false h2155)) (an (ti (ti trivial)) trivial))))))) (ti trivial))
  ·injection h with h; subst h
   exact round_stop (c := ⟨[(11, none)], [], []⟩) (s1 := (nprofile_CheckClash_l1_0_e1 a1 a2 x11)) pm pn (ans := [.reg (.n :: []), .br false]) (by kernel_rfl) (by intro e; cases e) (an (an (ti trivial) (an (decide_eq_false h2149) trivial)) (ti trivial))
def arW4_0 (z0 : (List Int)) (z1 : Sleg) : List Ans := (nN 6 (.v (vi (z0.getD (w64 ((z0.length : Int) - 1)).toNat 0)) :: .call (VV.ag (c_Sleg z1)) :: nN 3 []))
def nprofile_CheckClash (k : Nat) (a0 : Int) (a1 : (List SHeightReading)) (a2 : (List Int)) : Option (Int × Int) :=
  (nprofile_CheckReadings k a0 a1).bind fun r2085 => (if r2085 = 0 then ((nprofile_isWithin k (a2.length : Int) 1 40).bind fun r2089 => (if r2089 = true then ((nprofile_CheckClash_l0_0 k a1 a2 k 0).bind fun r2124 => (match r2124 with | .inl r2125 => (some (0, 6)) | .inr r2126 => (if 0 ≤ w64 ((a2.length : Int) - 1) ∧ w64 ((a2.length : Int) - 1) < (a2.length : Int) then ((nprofile_legOf k a1 (a2.getD (w64 ((a2.length : Int) - 1)).toNat 0)).bind fun r2131 => ((nprofile_CheckClash_l1_0 k a1 a2 k 0 r2131.to 0).bind fun r2157 => (match r2157 with | .inl r2158 => (some (0, 25)) | .inr r2159 => (if 0 ≤ r2159 then (some (0, 22)) else (some (r2159, 0)))))) else none))) else (some (0, 10)))) else (some (0, r2085)))
theorem nprofile_CheckClash_ok (k : Nat) (a0 : Int) (a1 : (List SHeightReading)) (a2 : (List Int)) (r : (Int × Int)) (h : nprofile_CheckClash k a0 a1 a2 = some r) : VC Go.Proofs.Try.prog 20 [vi a0, VV.tr (List.flatMap c_SHeightReading a1) a1.length, VV.tr (List.map vi a2) a2.length] (VV.tu [vi r.1, vi r.2]) := by
 unfold nprofile_CheckClash at h
 obtain ⟨r2085, h2086, h⟩ := bs h
 have e2087 := (nprofile_CheckReadings_ok k a0 a1 _ h2086)
 rcases ifs h with ⟨h2088, h⟩ | ⟨h2088, h⟩
 ·obtain ⟨r2089, h2090, h⟩ := bs h
  have e2091 := (nprofile_isWithin_ok k (a2.length : Int) 1 40 _ h2090)
  rcases ifs h with ⟨h2092, h⟩ | ⟨h2092, h⟩
  ·obtain ⟨r2124, h2123, h⟩ := bs h
   have hph2123 := nprofile_CheckClash_l0_0_ok k a1 a2 _ _ _ h2123
   cases r2124 with
   | inl r2125 =>
    dsimp only at h
    have e2127 := (an (ti trivial) (VRun.loop hph2123))
    injection h with h; subst h
    exact fun_ok pm pn Go.Proofs.Try.func20 (r0 := VV.tu [vi 0, vi 6]) (ans := [.reg (.n :: .n :: []), .reg (.n :: .n :: .call (vi r2085) :: .n :: []), .reg (.n :: .n :: []), .br false, .reg (.n :: .n :: .call (vb r2089) :: .n :: []), .br false, .reg (nN 3 []), .sub ⟨[(1, none), (2, none), (26, none), (27, none), (28, none)], [], []⟩ .ret (nprofile_CheckClash_l0_0_e0 a1 a2 r2125)]) (fr := true) (by kernel_rfl) (an (an (ti (ti trivial)) (an (an (ti (ti (an e2087 (ti trivial)))) (an (ti (ti trivial)) (an (not_f (decide_eq_true h2088)) trivial))) (an (an (ti (ti (an e2091 (ti trivial)))) (an (not_f h2092) trivial)) (an (ti (ti (ti trivial))) e2127)))) (ti (ti trivial))) (Wv.refl _)
   | inr r2126 =>
    dsimp only at h
    have e2128 := (an (ti trivial) (VRun.loop hph2123))
    obtain ⟨h2129, h⟩ := ifn h
    have e2130 := (show loadL Go.Proofs.Try.prog 3 ((w64 ((a2.length : Int) - 1)).toNat * 1) (List.map vi a2) = some (vi (a2.getD (w64 ((a2.length : Int) - 1)).toNat 0)) from ld_map ag3 vi a2 0 h2129 (by omega))
    obtain ⟨r2131, h2132, h⟩ := bs h
    have e2133 := (nprofile_legOf_ok k a1 (a2.getD (w64 ((a2.length : Int) - 1)).toNat 0) _ h2132)
    have e2134 := (ti (ti (ti (ti (ti (an h2129 (an e2130 (an e2133 (ti (ti (ti trivial)))))))))))
    obtain ⟨r2157, h2156, h⟩ := bs h
    have hph2156 := nprofile_CheckClash_l1_0_ok k a1 a2 _ _ _ _ _ h2156
    cases r2157 with
    | inl r2158 =>
     dsimp only at h
     have e2160 := (an (ti trivial) (VRun.loop hph2156))
     injection h with h; subst h
     exact fun_ok pm pn Go.Proofs.Try.func20 (r0 := VV.tu [vi 0, vi 25]) (ans := [.reg (.n :: .n :: []), .reg (.n :: .n :: .call (vi r2085) :: .n :: []), .reg (.n :: .n :: []), .br false, .reg (.n :: .n :: .call (vb r2089) :: .n :: []), .br false, .reg (nN 3 []), .sub ⟨[(1, none), (2, none), (26, none), (27, none), (28, none)], [], []⟩ (.exit 0) (nprofile_CheckClash_l0_0_e1 a1 a2 r2126), .reg (arW4_0 a2 r2131), .reg (nN 3 []), .sub ⟨[(1, none), (11, none), (12, none), (52, none), (53, none), (54, none)], [], []⟩ .ret (nprofile_CheckClash_l1_0_e0 a1 a2 r2158)]) (fr := true) (by kernel_rfl) (an (an (ti (ti trivial)) (an (an (ti (ti (an e2087 (ti trivial)))) (an (ti (ti trivial)) (an (not_f (decide_eq_true h2088)) trivial))) (an (an (ti (ti (an e2091 (ti trivial)))) (an (not_f h2092) trivial)) (an (an (ti (ti (ti trivial))) e2128) (an e2134 (an (ti (ti (ti trivial))) e2160)))))) (ti (ti trivial))) (Wv.refl _)
    | inr r2159 =>
     dsimp only at h
     have e2161 := (an (ti trivial) (VRun.loop hph2156))
     rcases ifs h with ⟨h2162, h⟩ | ⟨h2162, h⟩
     ·injection h with h; subst h
      exact fun_ok pm pn Go.Proofs.Try.func20 (r0 := VV.tu [vi 0, vi 22]) (ans := [.reg (.n :: .n :: []), .reg (.n :: .n :: .call (vi r2085) :: .n :: []), .reg (.n :: .n :: []), .br false, .reg (.n :: .n :: .call (vb r2089) :: .n :: []), .br false, .reg (nN 3 []), .sub ⟨[(1, none), (2, none), (26, none), (27, none), (28, none)], [], []⟩ (.exit 0) (nprofile_CheckClash_l0_0_e1 a1 a2 r2126), .reg (arW4_0 a2 r2131), .reg (nN 3 []), .sub ⟨[(1, none), (11, none), (12, none), (52, none), (53, none), (54, none)], [], []⟩ (.exit 2) (nprofile_CheckClash_l1_0_e1 a1 a2 r2159), .reg (.n :: .n :: []), .br true, .reg (.n :: .n :: [])]) (fr := true) (by kernel_rfl) (an (an (ti (ti trivial)) (an (an (ti (ti (an e2087 (ti trivial)))) (an (ti (ti trivial)) (an (not_f (decide_eq_true h2088)) trivial))) (an (an (ti (ti (an e2091 (ti trivial)))) (an (not_f h2092) trivial)) (an (an (ti (ti (ti trivial))) e2128) (an e2134 (an (an (ti (ti (ti trivial))) e2161) (an (ti (ti trivial)) (an (decide_eq_true h2162) (an (ti (ti trivial)) trivial))))))))) (ti (ti trivial))) (Wv.refl _)
     ·injection h with h; subst h
      exact fun_ok pm pn Go.Proofs.Try.func20 (r0 := VV.tu [vi r2159, vi 0]) (ans := [.reg (.n :: .n :: []), .reg (.n :: .n :: .call (vi r2085) :: .n :: []), .reg (.n :: .n :: []), .br false, .reg (.n :: .n :: .call (vb r2089) :: .n :: []), .br false, .reg (nN 3 []), .sub ⟨[(1, none), (2, none), (26, none), (27, none), (28, none)], [], []⟩ (.exit 0) (nprofile_CheckClash_l0_0_e1 a1 a2 r2126), .reg (arW4_0 a2 r2131), .reg (nN 3 []), .sub ⟨[(1, none), (11, none), (12, none), (52, none), (53, none), (54, none)], [], []⟩ (.exit 2) (nprofile_CheckClash_l1_0_e1 a1 a2 r2159), .reg (.n :: .n :: []), .br false, .reg (nN 3 [])]) (fr := true) (by kernel_rfl) (an (an (ti (ti trivial)) (an (an (ti (ti (an e2087 (ti trivial)))) (an (ti (ti trivial)) (an (not_f (decide_eq_true h2088)) trivial))) (an (an (ti (ti (an e2091 (ti trivial)))) (an (not_f h2092) trivial)) (an (an (ti (ti (ti trivial))) e2128) (an e2134 (an (an (ti (ti (ti trivial))) e2161) (an (an (ti (ti trivial)) (an (decide_eq_false h2162) trivial)) (an (ti (ti (ti trivial))) trivial)))))))) (ti (ti trivial))) (Wv.refl _)
  ·injection h with h; subst h
   exact fun_ok pm pn Go.Proofs.Try.func20 (r0 := VV.tu [vi 0, vi 10]) (ans := [.reg (.n :: .n :: []), .reg (.n :: .n :: .call (vi r2085) :: .n :: []), .reg (.n :: .n :: []), .br false, .reg (.n :: .n :: .call (vb r2089) :: .n :: []), .br true, .reg (.n :: .n :: [])]) (fr := true) (by kernel_rfl) (an (an (ti (ti trivial)) (an (an (ti (ti (an e2087 (ti trivial)))) (an (ti (ti trivial)) (an (not_f (decide_eq_true h2088)) trivial))) (an (ti (ti (an e2091 (ti trivial)))) (an (not_t (bool_f h2092)) (an (ti (ti trivial)) trivial))))) (ti (ti trivial))) (Wv.refl _)
 ·injection h with h; subst h
  exact fun_ok pm pn Go.Proofs.Try.func20 (r0 := VV.tu [vi 0, vi r2085]) (ans := [.reg (.n :: .n :: []), .reg (.n :: .n :: .call (vi r2085) :: .n :: []), .reg (.n :: .n :: []), .br true, .reg (nN 3 [])]) (fr := true) (by kernel_rfl) (an (an (ti (ti trivial)) (an (ti (ti (an e2087 (ti trivial)))) (an (ti (ti trivial)) (an (not_t (decide_eq_false h2088)) (an (ti (ti (ti trivial))) trivial))))) (ti (ti trivial))) (Wv.refl _)
def arW4_1 (z0 : (List SHeightReading)) (z1 : (List Int)) (z2 : (Int × Int)) : List Ans := (.n :: .n :: .call (VV.fr (List.flatMap c_SHeightReading z0) z0.length) :: .n :: .call (VV.fr (List.map vi z1) z1.length) :: .call (VV.tu [vi z2.1, vi z2.2]) :: nN 5 [])
def arW4_2 (z0 : (List SHeightReading)) (z1 : ((List SRange) × (List Int) × Int)) : List Ans := (.n :: .n :: .call (VV.fr (List.flatMap c_SHeightReading z0) z0.length) :: .call (VV.tu [VV.fr (List.flatMap c_SRange z1.1) z1.1.length, VV.fr (List.map vi z1.2.1) z1.2.1.length, vi z1.2.2]) :: nN 7 [])
def nspeculumlaw05_ProfileClashes (k : Nat) (a0 : Int) (a1 : (List SHeightReading)) (a2 : (List Int)) : Option Bool :=
  (nawake k).bind fun r2197 => (if r2197 = true then ((nspeculumlaw05_Few k a1 12).bind fun r2200 => (if r2200 = true then (if 45 < (a2.length : Int) then (some true) else ((nspeculumlaw05_readings k a1).bind fun r2205 => ((nspeculumbase_CopyInts k a2).bind fun r2208 => ((nprofile_CheckClash k a0 r2205 r2208).bind fun r2211 => ((nspeculumref05_CheckReadings k a0 a1).bind fun r2215 => (if r2215 = 0 then ((nspeculumref05_CheckClash k a1 a2).bind fun r2219 => (if r2211.2 = r2219.2 then (if r2211.1 = r2219.1 then (if r2219.2 = 0 then ((nprofile_Enclosure k a0 r2205).bind fun r2232 => (some (decide (r2232.2.2 = 13)))) else (some true)) else (some false)) else (some false))) else (if r2211.2 = r2215 then (if r2211.1 = 0 then (some true) else (some false)) else (some false)))))))) else (some true))) else (some false))
theorem nspeculumlaw05_ProfileClashes_ok (k : Nat) (a0 : Int) (a1 : (List SHeightReading)) (a2 : (List Int)) (r : Bool) (h : nspeculumlaw05_ProfileClashes k a0 a1 a2 = some r) : VC Go.Proofs.Try.prog 4 [vi a0, VV.tr (List.flatMap c_SHeightReading a1) a1.length, VV.tr (List.map vi a2) a2.length] (vb r) := by
 unfold nspeculumlaw05_ProfileClashes at h
 obtain ⟨r2197, h2198, h⟩ := bs h
 rcases ifs h with ⟨h2199, h⟩ | ⟨h2199, h⟩
 ·obtain ⟨r2200, h2201, h⟩ := bs h
  rcases ifs h with ⟨h2202, h⟩ | ⟨h2202, h⟩
  ·have e2203 := (ti (an (nspeculumlaw05_Few_ok k a1 12 _ h2201) (ti (ti (an (an (not_f h2202) trivial) (an (an (not_f h2202) trivial) (an (an (not_f h2202) trivial) (an (not_f h2202) trivial))))))))
   rcases ifs h with ⟨h2204, h⟩ | ⟨h2204, h⟩
   ·injection h with h; subst h
    exact fun_ok pm pn Go.Proofs.Try.func4 (r0 := vb true) (ans := [.reg (.n :: []), .reg (.call (vb r2197) :: .n :: []), .br false, .reg (.n :: .call (vb r2200) :: nN 5 (.b false :: [])), .br true, .reg (.n :: [])]) (fr := true) (by kernel_rfl) (an (an (ti trivial) (an (an (an (nawake_ok k _ h2198) (ti trivial)) (an (not_f h2199) trivial)) (an e2203 (an (decide_eq_true h2204) (an (ti trivial) trivial))))) (ti trivial)) (Wv.refl _)
   ·obtain ⟨r2205, h2206, h⟩ := bs h
    have e2207 := (show VC Go.Proofs.Try.prog 15 [VV.tr (List.flatMap c_SHeightReading a1) a1.length] (VV.fr (List.flatMap c_SHeightReading r2205) r2205.length) from (VC.weak (nspeculumlaw05_readings_ok k a1 _ h2206) (Wv.fw rfl rfl)))
    obtain ⟨r2208, h2209, h⟩ := bs h
    have e2210 := (show VC Go.Proofs.Try.prog 21 [VV.tr (List.map vi a2) a2.length] (VV.fr (List.map vi r2208) r2208.length) from (VC.weak (nspeculumbase_CopyInts_ok k a2 _ h2209) (Wv.fw rfl rfl)))
    obtain ⟨r2211, h2212, h⟩ := bs h
    have e2213 := (nprofile_CheckClash_ok k a0 r2205 r2208 _ h2212)
    have e2214 := (ti (ti (an e2207 (ti (an e2210 (an e2213 (ti (ti (ti (ti (ti trivial)))))))))))
    obtain ⟨r2215, h2216, h⟩ := bs h
    have e2217 := (nspeculumref05_CheckReadings_ok k a0 a1 _ h2216)
    rcases ifs h with ⟨h2218, h⟩ | ⟨h2218, h⟩
    ·obtain ⟨r2219, h2220, h⟩ := bs h
     have e2221 := (nspeculumref05_CheckClash_ok k a1 a2 _ h2220)
     have e2222 := (ti (ti (an e2221 (ti (ti (ti (ti (ti trivial))))))))
     rcases ifs h with ⟨h2223, h⟩ | ⟨h2223, h⟩
     ·have e2224 := (an (not_f (decide_eq_true h2223)) trivial)
      have e2225 := (an (not_f (decide_eq_true h2223)) trivial)
      have e2226 := (an (not_f (decide_eq_true h2223)) trivial)
      have e2227 := (ti (ti (ti (ti (an e2224 (an e2225 (an e2226 (an (not_f (decide_eq_true h2223)) trivial))))))))
      rcases ifs h with ⟨h2228, h⟩ | ⟨h2228, h⟩
      ·rcases ifs h with ⟨h2229, h⟩ | ⟨h2229, h⟩
       ·have e2231 := (show VC Go.Proofs.Try.prog 15 [VV.tr (List.flatMap c_SHeightReading a1) a1.length] (VV.fr (List.flatMap c_SHeightReading r2205) r2205.length) from (VC.weak (nspeculumlaw05_readings_ok k a1 _ h2206) (Wv.fw rfl rfl)))
        obtain ⟨r2232, h2233, h⟩ := bs h
        have e2234 := (nprofile_Enclosure_ok k a0 r2205 _ h2233)
        have e2235 := (ti (ti (an e2231 (an e2234 (ti (ti (ti (ti (ti (ti (ti trivial)))))))))))
        injection h with h; subst h
        exact fun_ok pm pn Go.Proofs.Try.func4 (r0 := vb (decide (r2232.2.2 = 13))) (ans := [.reg (.n :: []), .reg (.call (vb r2197) :: .n :: []), .br false, .reg (.n :: .call (vb r2200) :: nN 5 (.b false :: [])), .br false, .reg (arW4_1 r2205 r2208 r2211), .reg (.n :: .n :: .call (vi r2215) :: .n :: []), .reg (.n :: []), .reg (.n :: .n :: []), .br true, .reg (.n :: .n :: .call (VV.tu [vi r2219.1, vi r2219.2]) :: nN 5 []), .reg (nN 7 (.b false :: [])), .br false, .reg (.n :: .n :: []), .br false, .reg (arW4_2 r2205 r2232), .reg (nN 3 [])]) (fr := true) (by kernel_rfl) (an (an (ti trivial) (an (an (an (nawake_ok k _ h2198) (ti trivial)) (an (not_f h2199) trivial)) (an (an e2203 (an (decide_eq_false h2204) trivial)) (an e2214 (an (ti (ti (an e2217 (ti trivial)))) (an (ti trivial) (an (an (ti (ti trivial)) (an (decide_eq_true h2218) e2222)) (an (an e2227 (an (not_f (decide_eq_true h2228)) trivial)) (an (an (ti (ti trivial)) (an (not_f (decide_eq_true h2229)) trivial)) (an e2235 (an (ti (ti (ti trivial))) trivial))))))))))) (ti trivial)) (Wv.refl _)
       ·injection h with h; subst h
        exact fun_ok pm pn Go.Proofs.Try.func4 (r0 := vb true) (ans := [.reg (.n :: []), .reg (.call (vb r2197) :: .n :: []), .br false, .reg (.n :: .call (vb r2200) :: nN 5 (.b false :: [])), .br false, .reg (arW4_1 r2205 r2208 r2211), .reg (.n :: .n :: .call (vi r2215) :: .n :: []), .reg (.n :: []), .reg (.n :: .n :: []), .br true, .reg (.n :: .n :: .call (VV.tu [vi r2219.1, vi r2219.2]) :: nN 5 []), .reg (nN 7 (.b false :: [])), .br false, .reg (.n :: .n :: []), .br true, .reg (.n :: [])]) (fr := true) (by kernel_rfl) (an (an (ti trivial) (an (an (an (nawake_ok k _ h2198) (ti trivial)) (an (not_f h2199) trivial)) (an (an e2203 (an (decide_eq_false h2204) trivial)) (an e2214 (an (ti (ti (an e2217 (ti trivial)))) (an (ti trivial) (an (an (ti (ti trivial)) (an (decide_eq_true h2218) e2222)) (an (an e2227 (an (not_f (decide_eq_true h2228)) trivial)) (an (ti (ti trivial)) (an (not_t (decide_eq_false h2229)) (an (ti trivial) trivial))))))))))) (ti trivial)) (Wv.refl _)
      ·injection h with h; subst h
       exact fun_ok pm pn Go.Proofs.Try.func4 (r0 := vb false) (ans := [.reg (.n :: []), .reg (.call (vb r2197) :: .n :: []), .br false, .reg (.n :: .call (vb r2200) :: nN 5 (.b false :: [])), .br false, .reg (arW4_1 r2205 r2208 r2211), .reg (.n :: .n :: .call (vi r2215) :: .n :: []), .reg (.n :: []), .reg (.n :: .n :: []), .br true, .reg (.n :: .n :: .call (VV.tu [vi r2219.1, vi r2219.2]) :: nN 5 []), .reg (nN 7 (.b false :: [])), .br true, .reg (.n :: [])]) (fr := true) (by kernel_rfl) (an (an (ti trivial) (an (an (an (nawake_ok k _ h2198) (ti trivial)) (an (not_f h2199) trivial)) (an (an e2203 (an (decide_eq_false h2204) trivial)) (an e2214 (an (ti (ti (an e2217 (ti trivial)))) (an (ti trivial) (an (an (ti (ti trivial)) (an (decide_eq_true h2218) e2222)) (an e2227 (an (not_t (decide_eq_false h2228)) (an (ti trivial) trivial)))))))))) (ti trivial)) (Wv.refl _)
     ·have e2236 := (ti (ti (ti (ti (an (not_t (decide_eq_false h2223)) (an (not_t (decide_eq_false h2223)) (an (not_t (decide_eq_false h2223)) (an (not_t (decide_eq_false h2223)) trivial))))))))
      injection h with h; subst h
      exact fun_ok pm pn Go.Proofs.Try.func4 (r0 := vb false) (ans := [.reg (.n :: []), .reg (.call (vb r2197) :: .n :: []), .br false, .reg (.n :: .call (vb r2200) :: nN 5 (.b false :: [])), .br false, .reg (arW4_1 r2205 r2208 r2211), .reg (.n :: .n :: .call (vi r2215) :: .n :: []), .reg (.n :: []), .reg (.n :: .n :: []), .br true, .reg (.n :: .n :: .call (VV.tu [vi r2219.1, vi r2219.2]) :: nN 5 []), .reg (nN 4 (nS 3 (.b true :: []))), .br true, .reg (.n :: [])]) (fr := true) (by kernel_rfl) (an (an (ti trivial) (an (an (an (nawake_ok k _ h2198) (ti trivial)) (an (not_f h2199) trivial)) (an (an e2203 (an (decide_eq_false h2204) trivial)) (an e2214 (an (ti (ti (an e2217 (ti trivial)))) (an (ti trivial) (an (an (ti (ti trivial)) (an (decide_eq_true h2218) e2222)) (an e2236 (an rt (an (ti trivial) trivial)))))))))) (ti trivial)) (Wv.refl _)
    ·rcases ifs h with ⟨h2237, h⟩ | ⟨h2237, h⟩
     ·have e2238 := (an (not_f (decide_eq_true h2237)) trivial)
      have e2239 := (an (not_f (decide_eq_true h2237)) trivial)
      have e2240 := (an (not_f (decide_eq_true h2237)) trivial)
      have e2241 := (ti (ti (ti (ti (an e2238 (an e2239 (an e2240 (an (not_f (decide_eq_true h2237)) trivial))))))))
      rcases ifs h with ⟨h2242, h⟩ | ⟨h2242, h⟩
      ·injection h with h; subst h
       exact fun_ok pm pn Go.Proofs.Try.func4 (r0 := vb true) (ans := [.reg (.n :: []), .reg (.call (vb r2197) :: .n :: []), .br false, .reg (.n :: .call (vb r2200) :: nN 5 (.b false :: [])), .br false, .reg (arW4_1 r2205 r2208 r2211), .reg (.n :: .n :: .call (vi r2215) :: .n :: []), .reg (.n :: []), .reg (.n :: .n :: []), .br false, .reg (nN 7 (.b false :: [])), .br false, .reg (.n :: .n :: []), .br true, .reg (.n :: [])]) (fr := true) (by kernel_rfl) (an (an (ti trivial) (an (an (an (nawake_ok k _ h2198) (ti trivial)) (an (not_f h2199) trivial)) (an (an e2203 (an (decide_eq_false h2204) trivial)) (an e2214 (an (ti (ti (an e2217 (ti trivial)))) (an (ti trivial) (an (an (ti (ti trivial)) (an (decide_eq_false h2218) trivial)) (an (an e2241 (an (not_f (decide_eq_true h2242)) trivial)) (an (ti (ti trivial)) (an (not_t (decide_eq_false h2218)) (an (ti trivial) trivial))))))))))) (ti trivial)) (Wv.refl _)
      ·injection h with h; subst h
       exact fun_ok pm pn Go.Proofs.Try.func4 (r0 := vb false) (ans := [.reg (.n :: []), .reg (.call (vb r2197) :: .n :: []), .br false, .reg (.n :: .call (vb r2200) :: nN 5 (.b false :: [])), .br false, .reg (arW4_1 r2205 r2208 r2211), .reg (.n :: .n :: .call (vi r2215) :: .n :: []), .reg (.n :: []), .reg (.n :: .n :: []), .br false, .reg (nN 7 (.b false :: [])), .br true, .reg (.n :: [])]) (fr := true) (by kernel_rfl) (an (an (ti trivial) (an (an (an (nawake_ok k _ h2198) (ti trivial)) (an (not_f h2199) trivial)) (an (an e2203 (an (decide_eq_false h2204) trivial)) (an e2214 (an (ti (ti (an e2217 (ti trivial)))) (an (ti trivial) (an (an (ti (ti trivial)) (an (decide_eq_false h2218) trivial)) (an e2241 (an (not_t (decide_eq_false h2242)) (an (ti trivial) trivial)))))))))) (ti trivial)) (Wv.refl _)
     ·have e2243 := (ti (ti (ti (ti (an (not_t (decide_eq_false h2237)) (an (not_t (decide_eq_false h2237)) (an (not_t (decide_eq_false h2237)) (an (not_t (decide_eq_false h2237)) trivial))))))))
      injection h with h; subst h
      exact fun_ok pm pn Go.Proofs.Try.func4 (r0 := vb false) (ans := [.reg (.n :: []), .reg (.call (vb r2197) :: .n :: []), .br false, .reg (.n :: .call (vb r2200) :: nN 5 (.b false :: [])), .br false, .reg (arW4_1 r2205 r2208 r2211), .reg (.n :: .n :: .call (vi r2215) :: .n :: []), .reg (.n :: []), .reg (.n :: .n :: []), .br false, .reg (nN 4 (nS 3 (.b true :: []))), .br true, .reg (.n :: [])]) (fr := true) (by kernel_rfl) (an (an (ti trivial) (an (an (an (nawake_ok k _ h2198) (ti trivial)) (an (not_f h2199) trivial)) (an (an e2203 (an (decide_eq_false h2204) trivial)) (an e2214 (an (ti (ti (an e2217 (ti trivial)))) (an (ti trivial) (an (an (ti (ti trivial)) (an (decide_eq_false h2218) trivial)) (an e2243 (an rt (an (ti trivial) trivial)))))))))) (ti trivial)) (Wv.refl _)
  ·have e2244 := (ti (an (nspeculumlaw05_Few_ok k a1 12 _ h2201) (ti (ti (an (not_t (bool_f h2202)) (an (not_t (bool_f h2202)) (an (not_t (bool_f h2202)) (an (not_t (bool_f h2202)) trivial))))))))
   injection h with h; subst h
   exact fun_ok pm pn Go.Proofs.Try.func4 (r0 := vb true) (ans := [.reg (.n :: []), .reg (.call (vb r2197) :: .n :: []), .br false, .reg (.n :: .call (vb r2200) :: .n :: .n :: nS 3 (.b true :: [])), .br true, .reg (.n :: [])]) (fr := true) (by kernel_rfl) (an (an (ti trivial) (an (an (an (nawake_ok k _ h2198) (ti trivial)) (an (not_f h2199) trivial)) (an e2244 (an rt (an (ti trivial) trivial))))) (ti trivial)) (Wv.refl _)
 ·injection h with h; subst h
  exact fun_ok pm pn Go.Proofs.Try.func4 (r0 := vb false) (ans := [.reg (.n :: []), .reg (.call (vb r2197) :: .n :: []), .br true, .reg (.n :: [])]) (fr := true) (by kernel_rfl) (an (an (ti trivial) (an (an (nawake_ok k _ h2198) (ti trivial)) (an (not_t (bool_f h2199)) (an (ti trivial) trivial)))) (ti trivial)) (Wv.refl _)
end Go.Proofs.Ytnfiipmcggjahaa.Vg

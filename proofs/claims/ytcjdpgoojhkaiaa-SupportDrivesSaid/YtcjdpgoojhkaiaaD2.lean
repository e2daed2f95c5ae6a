/- Written by a program out of the program: what Go functions do, as plain functions, and their contracts. -/
import Derived.Test.YtcjdpgoojhkaiaaT1
namespace Go.Proofs.Ytcjdpgoojhkaiaa.Vg
set_option maxRecDepth 100000
set_option maxHeartbeats 4000000
set_option linter.unusedVariables false
set_option linter.unusedSimpArgs false
open Go Go.Proofs.Ytcjdpgoojhkaiaa.Ev Go.Proofs.Ytcjdpgoojhkaiaa.Vv
structure A23 where
  e0 : Int
  e1 : Int
  deriving Inhabited
def c_A23 (x : A23) : List VV := [vi x.e0, vi x.e1]
theorem len_c_A23 (x : A23) : (c_A23 x).length = 2 := rfl
theorem still_c_A23 (xs : List A23) : (xs.flatMap c_A23).all VV.still = true := all_flat (fun _ => rfl) xs
theorem isC_c_A23 (xs : List A23) : (xs.flatMap c_A23).all VV.isC = true := all_flat (fun _ => rfl) xs
theorem new0_c_A23 (xs : List A23) : (xs.flatMap c_A23).all new0 = true := all_flat (fun _ => rfl) xs
theorem unfr_c_A23 (xs : List A23) : (xs.flatMap c_A23).map unfr = xs.flatMap c_A23 := unfr_flat (fun _ => rfl) xs
structure SRange where
  Lo : Int
  Hi : Int
  deriving Inhabited
def c_SRange (x : SRange) : List VV := [vi x.Lo, vi x.Hi]
theorem len_c_SRange (x : SRange) : (c_SRange x).length = 2 := rfl
theorem still_c_SRange (xs : List SRange) : (xs.flatMap c_SRange).all VV.still = true := all_flat (fun _ => rfl) xs
theorem isC_c_SRange (xs : List SRange) : (xs.flatMap c_SRange).all VV.isC = true := all_flat (fun _ => rfl) xs
theorem new0_c_SRange (xs : List SRange) : (xs.flatMap c_SRange).all new0 = true := all_flat (fun _ => rfl) xs
theorem unfr_c_SRange (xs : List SRange) : (xs.flatMap c_SRange).map unfr = xs.flatMap c_SRange := unfr_flat (fun _ => rfl) xs
theorem eqok27 : EqOK Go.Proofs.Try.prog 27 [some (.i .i64), some (.i .i64)] := eqOK_of (by kernel_rfl) (by kernel_rfl) (eqT_struct Go.Proofs.Try.underlying27 (by kernel_rfl) (by kernel_rfl) (by kernel_rfl) (.cons (by decide +kernel) rfl (eqT_int Go.Proofs.Try.underlying3 (by kernel_rfl) (by kernel_rfl)) (.cons (by decide +kernel) rfl (eqT_int Go.Proofs.Try.underlying3 (by kernel_rfl) (by kernel_rfl)) .nil)))
theorem eqok33 : EqOK Go.Proofs.Try.prog 33 [some (.i .i64), some (.i .i64)] := eqOK_of (by kernel_rfl) (by kernel_rfl) (eqT_struct Go.Proofs.Try.underlying33 (by kernel_rfl) (by kernel_rfl) (by kernel_rfl) (.cons (by decide +kernel) rfl (eqT_int Go.Proofs.Try.underlying3 (by kernel_rfl) (by kernel_rfl)) (.cons (by decide +kernel) rfl (eqT_int Go.Proofs.Try.underlying3 (by kernel_rfl) (by kernel_rfl)) .nil)))
def nawake (k : Nat) : Option Bool := some true
theorem nawake_ok (k : Nat) (r : Bool) (h : nawake k = some r) : VC Go.Proofs.Try.prog 4 [] (vb r) := by
  injection h with h; subst h
  exact vc_awake
theorem eqD2_0 (z0 : Int) (z1 : Int) : [vi 1, vi 1000000, VV.tr (List.map vi ([z0, z1] : List Int)) (([z0, z1] : List Int).length)] = [vi 1, vi 1000000, VV.tr [vi z0, vi z1] 2] := by first | rfl | (simp only [unfr_vi, List.map_cons, List.map_nil, un_i, un_tr, List.length_map, List.length_cons, List.length_nil]; done) | (simp only [unfr_vi, List.map_cons, List.map_nil, un_i, un_tr, List.length_map, List.length_cons, List.length_nil]; rfl) | (simp only [unfr_vi, List.map_cons, List.map_nil, un_i, un_tr, List.length_map, List.length_cons, List.length_nil, List.length_cons, List.length_nil, List.length_append]; done)
def arD2_0 (z0 : List Int) (z1 : List Int) (z2 : Int) (z3 : Int) : List Ans := (nN 3 (.v (vi (z0.getD ((0 : Int)).toNat 0)) :: nN 3 (.v (vi (z1.getD z2.toNat 0)) :: .call (vi z3) :: .n :: [])))
def arD2_1 (z0 : List Int) (z1 : Int) (z2 : List Int) (z3 : Int) (z4 : Int) : List Ans := (nN 3 (.v (vi (z0.getD z1.toNat 0)) :: nN 3 (.v (vi (z2.getD z3.toNat 0)) :: .call (vi z4) :: .n :: [])))
def nsupport_product_l0_0_h (a0 : (List Int)) (x4 : Int) (x9 : Int) : VS := ⟨mkA [(4, vi x4), (7, VV.tr (List.map vi a0) a0.length), (8, vi (a0.length : Int)), (9, vi x9)], [], .nil⟩
def nsupport_product_l0_0_e0 (a0 : (List Int)) (r : Unit) : VS := ⟨mkA [(2, vi 0), (3, vb false)], [], .nil⟩
def nsupport_product_l0_0_e1 (a0 : (List Int)) (r : Int) : VS := ⟨mkA [(4, vi r)], [], .nil⟩
def nsupport_product_l0_0 (k : Nat) (a0 : (List Int)) : Nat → Int → Int → Option (Sum Unit Int)
  | 0, _, _ => none
  | fuel + 1, x4, x9 => if x9 < (a0.length : Int) then (if 0 ≤ x9 ∧ x9 < (a0.length : Int) then (if x4 ≠ 0 then (if (w64 ((1000000000 : Int).tdiv x4)) < (a0.getD x9.toNat 0) then (some (.inl ())) else (nsupport_product_l0_0 k a0 fuel (w64 (x4 * (a0.getD x9.toNat 0))) (w64 (x9 + 1)))) else none) else none) else (some (.inr x4))
theorem nsupport_product_l0_0_ok (k : Nat) (a0 : (List Int)) : ∀ (fuel : Nat) (x4 : Int) (x9 : Int) (r : Sum Unit Int), nsupport_product_l0_0 k a0 fuel x4 x9 = some r → (match r with | .inl r => VLoop none Go.Proofs.Try.prog (szF Go.Proofs.Try.f37) (bodyOf Go.Proofs.Try.f37 0) (nsupport_product_l0_0_h a0 x4 x9) .ret (nsupport_product_l0_0_e0 a0 r) | .inr r => VLoop none Go.Proofs.Try.prog (szF Go.Proofs.Try.f37) (bodyOf Go.Proofs.Try.f37 0) (nsupport_product_l0_0_h a0 x4 x9) (.exit 0) (nsupport_product_l0_0_e1 a0 r)) := by
 intro fuel
 induction fuel with
 | zero => intro x4 x9 r h; rw [nsupport_product_l0_0.eq_1] at h; cases h
 | succ fuel ih =>
  intro x4 x9 r h
  rw [nsupport_product_l0_0.eq_2] at h
  rcases ifs h with ⟨h1151, h⟩ | ⟨h1151, h⟩
  ·obtain ⟨h1152, h⟩ := ifn h
   have e1153 := (show loadL Go.Proofs.Try.prog 3 (x9.toNat * 1) (List.map vi a0) = some (vi (a0.getD x9.toNat 0)) from ld_map ag3 vi a0 0 h1152 (by omega))
   obtain ⟨h1154, h⟩ := ifn h
   rcases ifs h with ⟨h1155, h⟩ | ⟨h1155, h⟩
   ·injection h with h; subst h
    exact round_stop (c := ⟨[(2, none), (3, none)], [], []⟩) (s1 := (nsupport_product_l0_0_e0 a0 ())) pm pn (ans := [.reg (.n :: []), .br true, .reg (.n :: .v (vi (a0.getD x9.toNat 0)) :: .n :: []), .reg (nN 4 []), .br true, .reg (.n :: .n :: [])]) (by kernel_rfl) (by intro e; cases e) (an (an (ti trivial) (an (an (decide_eq_true h1151) trivial) (an (an h1152 (an e1153 (ti trivial))) (an (ti (ti (an h1154 (ti trivial)))) (an (decide_eq_true h1155) (an (ti (ti trivial)) trivial)))))) (ti trivial))
   ·have h2 := ih _ _ _ h
    obtain ⟨q, hv, hq⟩ := pkR (rd := none) (P := Go.Proofs.Try.prog) (fn := Go.Proofs.Try.f37) (k := 0) (s := (nsupport_product_l0_0_h a0 x4 x9)) (ans := [.reg (.n :: []), .br true, .reg (.n :: .v (vi (a0.getD x9.toNat 0)) :: .n :: []), .reg (nN 4 []), .br false, .reg (nN 4 []), .reg (.n :: .n :: [])]) (c := ⟨[(4, none), (7, none), (8, none), (9, none)], [], []⟩) (e := .normal) (s1 := (nsupport_product_l0_0_h a0 (w64 (x4 * (a0.getD x9.toNat 0))) (w64 (x9 + 1)))) (an (an (ti trivial) (an (an (decide_eq_true h1151) trivial) (an (an (an h1152 (an e1153 (ti trivial))) (an (an (ti (ti (an h1154 (ti trivial)))) (an (decide_eq_false h1155) trivial)) (ti (ti (ti (ti trivial)))))) (ti (ti trivial))))) (ti trivial)) (by kernel_rfl)
    cases r with
    | inl r => exact round_next pm pn hv hq h2
    | inr r =>
     exact round_next pm pn hv hq h2
  ·injection h with h; subst h
   exact round_stop (c := ⟨[(4, none)], [], []⟩) (s1 := (nsupport_product_l0_0_e1 a0 x4)) pm pn (ans := [.reg (.n :: []), .br false]) (by kernel_rfl) (by intro e; cases e) (an (an (ti trivial) (an (decide_eq_false h1151) trivial)) (ti trivial))
def nsupport_product (k : Nat) (a0 : (List Int)) : Option (Int × Bool) :=
  (nsupport_product_l0_0 k a0 k 1 0).bind fun r1157 => (match r1157 with | .inl r1158 => (some (0, false)) | .inr r1159 => (some (r1159, true)))
theorem nsupport_product_ok (k : Nat) (a0 : (List Int)) (r : (Int × Bool)) (h : nsupport_product k a0 = some r) : VC Go.Proofs.Try.prog 37 [VV.tr (List.map vi a0) a0.length] (VV.tu [vi r.1, vb r.2]) := by
 unfold nsupport_product at h
 obtain ⟨r1157, h1156, h⟩ := bs h
 have hph1156 := nsupport_product_l0_0_ok k a0 _ _ _ _ h1156
 cases r1157 with
 | inl r1158 =>
  dsimp only at h
  have e1160 := (an (ti trivial) (VRun.loop hph1156))
  injection h with h; subst h
  exact fun_ok pm pn Go.Proofs.Try.func37 (r0 := VV.tu [vi 0, vb false]) (ans := [.reg (.n :: .n :: []), .reg (.n :: []), .reg (nN 3 []), .sub ⟨[(4, none), (7, none), (8, none), (9, none)], [], []⟩ .ret (nsupport_product_l0_0_e0 a0 r1158)]) (fr := true) (by kernel_rfl) (an (an (ti (ti trivial)) (an (ti trivial) (an (ti (ti (ti trivial))) e1160))) (ti (ti trivial))) (Wv.refl _)
 | inr r1159 =>
  dsimp only at h
  have e1161 := (an (ti trivial) (VRun.loop hph1156))
  injection h with h; subst h
  exact fun_ok pm pn Go.Proofs.Try.func37 (r0 := VV.tu [vi r1159, vb true]) (ans := [.reg (.n :: .n :: []), .reg (.n :: []), .reg (nN 3 []), .sub ⟨[(4, none), (7, none), (8, none), (9, none)], [], []⟩ (.exit 0) (nsupport_product_l0_0_e1 a0 r1159), .reg (nN 3 [])]) (fr := true) (by kernel_rfl) (an (an (ti (ti trivial)) (an (ti trivial) (an (an (ti (ti (ti trivial))) e1161) (an (ti (ti (ti trivial))) trivial)))) (ti (ti trivial))) (Wv.refl _)
theorem eqD2_1 (z0 : (List Int) × (List Int)) : [VV.tr (List.map vi z0.1) z0.1.length] = [VV.tr (List.drop 0 (List.map unfr (List.map vi z0.1))) z0.1.length] := by first | rfl | (simp only [drop0, unfr_vi, List.map_cons, List.map_nil, un_i, un_tr, List.length_map, List.length_cons, List.length_nil]; done) | (simp only [drop0, unfr_vi, List.map_cons, List.map_nil, un_i, un_tr, List.length_map, List.length_cons, List.length_nil]; rfl) | (simp only [drop0, unfr_vi, List.map_cons, List.map_nil, un_i, un_tr, List.length_map, List.length_cons, List.length_nil, List.length_cons, List.length_nil, List.length_append]; done)
theorem eqD2_2 (z0 : (List Int) × (List Int)) : [VV.tr (List.map vi z0.2) z0.2.length] = [VV.tr (List.drop 0 (List.map unfr (List.map vi z0.2))) z0.2.length] := by first | rfl | (simp only [drop0, unfr_vi, List.map_cons, List.map_nil, un_i, un_tr, List.length_map, List.length_cons, List.length_nil]; done) | (simp only [drop0, unfr_vi, List.map_cons, List.map_nil, un_i, un_tr, List.length_map, List.length_cons, List.length_nil]; rfl) | (simp only [drop0, unfr_vi, List.map_cons, List.map_nil, un_i, un_tr, List.length_map, List.length_cons, List.length_nil, List.length_cons, List.length_nil, List.length_append]; done)
def nsupport_Rate_i19_l1_0_h (a0 : (List SGearPair)) (a1 : Int) (a2 : Int) (r1184 : (SFrac × Int)) (r1188 : Bool) (y3 : List Int) (x15 : Int) (y2z : List Int) (y3z : List Int) (x20 : Int) : VS := ⟨mkA [(0, VV.rf 2 0 y2z.length), (1, VV.rf 3 0 y3z.length), (4, VV.pt 4 0), (6, vi x15), (14, vi 3), (15, vi x15), (19, vi ((y3.length : Nat) : Int)), (20, vi x20)], [some ⟨true, 1, [vi 0, vi 0]⟩, some ⟨true, 1, c_SFrac r1184.1⟩, some ⟨false, 1, List.map vi y2z⟩, some ⟨false, 1, List.map vi y3z⟩, some ⟨true, 1, [vi 0, vi 0]⟩], (.node none (mkA [(0, VV.tr (List.flatMap c_SGearPair a0) a0.length), (1, vi a1), (2, vi a2), (6, VV.pt 0 0), (7, vi 0), (8, VV.pt 1 0), (9, vi r1184.2), (10, VV.tu [VV.ag (c_SFrac r1184.1), vi r1184.2]), (11, VV.tr (List.flatMap c_SGearPair a0) a0.length), (12, VV.tu [VV.ag (c_SFrac r1184.1), vi r1184.2]), (13, VV.ag (c_SFrac r1184.1)), (14, vi r1184.2), (15, vi r1184.2), (16, vb (!(decide (r1184.2 = 0)))), (19, vi a1), (20, vi a2), (21, VV.fr [vi a1, vi a2] 2), (22, vb r1188), (23, vb (!r1188)), (25, vi a1), (26, VV.pt 1 0), (27, vi r1184.1.Num), (28, VV.rf 2 0 3), (29, vi a2), (30, VV.pt 1 1), (31, vi r1184.1.Den), (32, VV.rf 3 0 2)]) .nil)⟩
def nsupport_Rate_i19_l1_0_e0 (a0 : (List SGearPair)) (a1 : Int) (a2 : Int) (r1184 : (SFrac × Int)) (r1188 : Bool) (y3 : List Int) (x15 : Int) (r : (List Int) × (List Int)) : VS := ⟨mkA [(0, VV.rf 2 0 r.1.length), (1, VV.rf 3 0 r.2.length), (4, VV.pt 4 0), (14, vi 3), (15, vi x15)], [some ⟨true, 1, [vi 0, vi 0]⟩, some ⟨true, 1, c_SFrac r1184.1⟩, some ⟨false, 1, List.map vi r.1⟩, some ⟨false, 1, List.map vi r.2⟩, some ⟨true, 1, [vi 0, vi 0]⟩], (.node none (mkA [(0, VV.tr (List.flatMap c_SGearPair a0) a0.length), (1, vi a1), (2, vi a2), (6, VV.pt 0 0), (7, vi 0), (8, VV.pt 1 0), (9, vi r1184.2), (10, VV.tu [VV.ag (c_SFrac r1184.1), vi r1184.2]), (11, VV.tr (List.flatMap c_SGearPair a0) a0.length), (12, VV.tu [VV.ag (c_SFrac r1184.1), vi r1184.2]), (13, VV.ag (c_SFrac r1184.1)), (14, vi r1184.2), (15, vi r1184.2), (16, vb (!(decide (r1184.2 = 0)))), (19, vi a1), (20, vi a2), (21, VV.fr [vi a1, vi a2] 2), (22, vb r1188), (23, vb (!r1188)), (25, vi a1), (26, VV.pt 1 0), (27, vi r1184.1.Num), (28, VV.rf 2 0 3), (29, vi a2), (30, VV.pt 1 1), (31, vi r1184.1.Den), (32, VV.rf 3 0 2)]) .nil)⟩
def nsupport_Rate_i19_l1_0 (k : Nat) (a0 : (List SGearPair)) (a1 : Int) (a2 : Int) (r1184 : (SFrac × Int)) (r1188 : Bool) (y3 : List Int) (x15 : Int) : Nat → (List Int) → (List Int) → Int → Option ((List Int) × (List Int))
  | 0, _, _, _ => none
  | fuel + 1, y2z, y3z, x20 => if x20 < ((y3.length : Nat) : Int) then (if 0 ≤ x15 ∧ x15 < (y2z.length : Int) then (if 0 ≤ x20 ∧ x20 < (y3z.length : Int) then ((nsupport_divisor k (y2z.getD x15.toNat 0) (y3z.getD x20.toNat 0)).bind fun r1340 => (if r1340 ≠ 0 then (nsupport_Rate_i19_l1_0 k a0 a1 a2 r1184 r1188 y3 x15 fuel (y2z.set x15.toNat (w64 ((y2z.getD x15.toNat 0).tdiv r1340))) (y3z.set x20.toNat (w64 ((y3z.getD x20.toNat 0).tdiv r1340))) (w64 (x20 + 1))) else none)) else none) else none) else (some (y2z, y3z))
theorem nsupport_Rate_i19_l1_0_ok (k : Nat) (a0 : (List SGearPair)) (a1 : Int) (a2 : Int) (r1184 : (SFrac × Int)) (r1188 : Bool) (y3 : List Int) (x15 : Int) : ∀ (fuel : Nat) (y2z : List Int) (y3z : List Int) (x20 : Int) (r : (List Int) × (List Int)), nsupport_Rate_i19_l1_0 k a0 a1 a2 r1184 r1188 y3 x15 fuel y2z y3z x20 = some r → (VLoop none Go.Proofs.Try.prog (szF Go.Proofs.Try.f19) (bodyOf Go.Proofs.Try.f19 1) (nsupport_Rate_i19_l1_0_h a0 a1 a2 r1184 r1188 y3 x15 y2z y3z x20) (.exit 2) (nsupport_Rate_i19_l1_0_e0 a0 a1 a2 r1184 r1188 y3 x15 r)) := by
 intro fuel
 induction fuel with
 | zero => intro y2z y3z x20 r h; rw [nsupport_Rate_i19_l1_0.eq_1] at h; cases h
 | succ fuel ih =>
  intro y2z y3z x20 r h
  rw [nsupport_Rate_i19_l1_0.eq_2] at h
  rcases ifs h with ⟨h1335, h⟩ | ⟨h1335, h⟩
  ·obtain ⟨h1336, h⟩ := ifn h
   have e1337 := (show loadL Go.Proofs.Try.prog 3 (0 + x15.toNat * 1) (List.map vi y2z) = some (vi (y2z.getD x15.toNat 0)) from ld_map ag3 vi y2z 0 h1336 (by omega))
   obtain ⟨h1338, h⟩ := ifn h
   have e1339 := (show loadL Go.Proofs.Try.prog 3 (0 + x20.toNat * 1) (List.map vi y3z) = some (vi (y3z.getD x20.toNat 0)) from ld_map ag3 vi y3z 0 h1338 (by omega))
   obtain ⟨r1340, h1341, h⟩ := bs h
   have e1342 := (nsupport_divisor_ok k (y2z.getD x15.toNat 0) (y3z.getD x20.toNat 0) _ h1341)
   have e1343 := (ti (ti (an h1336 (an e1337 (ti (ti (an h1338 (an e1339 (an e1342 (ti trivial))))))))))
   have e1344 := (show loadL Go.Proofs.Try.prog 3 (0 + x15.toNat * 1) (List.map vi y2z) = some (vi (y2z.getD x15.toNat 0)) from ld_map ag3 vi y2z 0 h1336 (by omega))
   obtain ⟨h1345, h⟩ := ifn h
   have e1346 := (show (0 + x15.toNat * 1) + 1 ≤ List.length (List.map vi y2z) from (by simp only [List.length_map]; omega))
   have e1347 := (ti (ti (an h1336 (an e1344 (ti (an h1345 (an h1336 (an e1346 trivial))))))))
   have e1348 := (show loadL Go.Proofs.Try.prog 3 (0 + x20.toNat * 1) (List.map vi y3z) = some (vi (y3z.getD x20.toNat 0)) from ld_map ag3 vi y3z 0 h1338 (by omega))
   have e1349 := (show (0 + x20.toNat * 1) + 1 ≤ List.length (List.map vi y3z) from (by simp only [List.length_map]; omega))
   have e1350 := (ti (ti (an h1338 (an e1348 (ti (an h1345 (an h1338 (an e1349 trivial))))))))
   have h2 := ih _ _ _ _ h
   obtain ⟨q, hv, hq⟩ := pkR (rd := none) (P := Go.Proofs.Try.prog) (fn := Go.Proofs.Try.f19) (k := 1) (s := (nsupport_Rate_i19_l1_0_h a0 a1 a2 r1184 r1188 y3 x15 y2z y3z x20)) (ans := [.reg (.n :: []), .br true, .reg (.n :: .n :: []), .reg (arD2_1 y2z x15 y3z x20 r1340), .reg (nN 3 (.v (vi (y2z.getD x15.toNat 0)) :: nN 4 [])), .reg (nN 3 (.v (vi (y3z.getD x20.toNat 0)) :: nN 4 [])), .reg (.n :: .n :: [])]) (c := ⟨[(0, some (VV.rf 2 0 ((y2z.set x15.toNat (w64 ((y2z.getD x15.toNat 0).tdiv r1340))).length))), (1, some (VV.rf 3 0 ((y3z.set x20.toNat (w64 ((y3z.getD x20.toNat 0).tdiv r1340))).length))), (4, none), (6, none), (14, none), (15, none), (19, none), (20, none)], [none, none, some (List.map vi (y2z.set x15.toNat (w64 ((y2z.getD x15.toNat 0).tdiv r1340)))), some (List.map vi (y3z.set x20.toNat (w64 ((y3z.getD x20.toNat 0).tdiv r1340)))), none], []⟩) (e := .normal) (s1 := (nsupport_Rate_i19_l1_0_h a0 a1 a2 r1184 r1188 y3 x15 (y2z.set x15.toNat (w64 ((y2z.getD x15.toNat 0).tdiv r1340))) (y3z.set x20.toNat (w64 ((y3z.getD x20.toNat 0).tdiv r1340))) (w64 (x20 + 1)))) (an (an (ti trivial) (an (an (decide_eq_true h1335) trivial) (an (an (ti (ti trivial)) (an e1343 (an e1347 e1350))) (ti (ti trivial))))) (an (an (show Wv (VV.rf 2 0 y2z.length) (VV.rf 2 0 ((y2z.set x15.toNat (w64 ((y2z.getD x15.toNat 0).tdiv r1340))).length)) from (Wv.of_eq (by simp))) (an (show Wv (VV.rf 3 0 y3z.length) (VV.rf 3 0 ((y3z.set x20.toNat (w64 ((y3z.getD x20.toNat 0).tdiv r1340))).length)) from (Wv.of_eq (by simp))) trivial)) (an (show putT (0 + x15.toNat * 1) (List.map vi y2z) [vi (w64 ((y2z.getD x15.toNat 0).tdiv r1340))] = List.map vi (y2z.set x15.toNat (w64 ((y2z.getD x15.toNat 0).tdiv r1340))) from (by exact putT_vi y2z h1336 (w64 ((y2z.getD x15.toNat 0).tdiv r1340)) (by omega))) (an (show putT (0 + x20.toNat * 1) (List.map vi y3z) [vi (w64 ((y3z.getD x20.toNat 0).tdiv r1340))] = List.map vi (y3z.set x20.toNat (w64 ((y3z.getD x20.toNat 0).tdiv r1340))) from (by exact putT_vi y3z h1338 (w64 ((y3z.getD x20.toNat 0).tdiv r1340)) (by omega))) trivial)))) (by kernel_rfl)
   exact round_next pm pn hv hq h2
  ·injection h with h; subst h
   exact round_stop (c := ⟨[(0, none), (1, none), (4, none), (14, none), (15, none)], [none, none, none, none, none], []⟩) (s1 := (nsupport_Rate_i19_l1_0_e0 a0 a1 a2 r1184 r1188 y3 x15 (y2z, y3z))) pm pn (ans := [.reg (.n :: []), .br false]) (by kernel_rfl) (by intro e; cases e) (an (an (ti trivial) (an (decide_eq_false h1335) trivial)) (ti trivial))
def nsupport_Rate_i19_l0_0_h (a0 : (List SGearPair)) (a1 : Int) (a2 : Int) (r1184 : (SFrac × Int)) (r1188 : Bool) (y2 : List Int) (y3 : List Int) (x15 : Int) : VS := ⟨mkA [(0, VV.rf 2 0 y2.length), (1, VV.rf 3 0 y3.length), (4, VV.pt 4 0), (14, vi 3), (15, vi x15)], [some ⟨true, 1, [vi 0, vi 0]⟩, some ⟨true, 1, c_SFrac r1184.1⟩, some ⟨false, 1, List.map vi y2⟩, some ⟨false, 1, List.map vi y3⟩, some ⟨true, 1, [vi 0, vi 0]⟩], (.node none (mkA [(0, VV.tr (List.flatMap c_SGearPair a0) a0.length), (1, vi a1), (2, vi a2), (6, VV.pt 0 0), (7, vi 0), (8, VV.pt 1 0), (9, vi r1184.2), (10, VV.tu [VV.ag (c_SFrac r1184.1), vi r1184.2]), (11, VV.tr (List.flatMap c_SGearPair a0) a0.length), (12, VV.tu [VV.ag (c_SFrac r1184.1), vi r1184.2]), (13, VV.ag (c_SFrac r1184.1)), (14, vi r1184.2), (15, vi r1184.2), (16, vb (!(decide (r1184.2 = 0)))), (19, vi a1), (20, vi a2), (21, VV.fr [vi a1, vi a2] 2), (22, vb r1188), (23, vb (!r1188)), (25, vi a1), (26, VV.pt 1 0), (27, vi r1184.1.Num), (28, VV.rf 2 0 3), (29, vi a2), (30, VV.pt 1 1), (31, vi r1184.1.Den), (32, VV.rf 3 0 2)]) .nil)⟩
def nsupport_Rate_i19_l0_0_e0 (a0 : (List SGearPair)) (a1 : Int) (a2 : Int) (r1184 : (SFrac × Int)) (r1188 : Bool) (r : (List Int) × (List Int)) : VS := ⟨mkA [(0, VV.rf 2 0 r.1.length), (1, VV.rf 3 0 r.2.length), (4, VV.pt 4 0)], [some ⟨true, 1, [vi 0, vi 0]⟩, some ⟨true, 1, c_SFrac r1184.1⟩, some ⟨false, 1, List.map vi r.1⟩, some ⟨false, 1, List.map vi r.2⟩, some ⟨true, 1, [vi 0, vi 0]⟩], (.node none (mkA [(0, VV.tr (List.flatMap c_SGearPair a0) a0.length), (1, vi a1), (2, vi a2), (6, VV.pt 0 0), (7, vi 0), (8, VV.pt 1 0), (9, vi r1184.2), (10, VV.tu [VV.ag (c_SFrac r1184.1), vi r1184.2]), (11, VV.tr (List.flatMap c_SGearPair a0) a0.length), (12, VV.tu [VV.ag (c_SFrac r1184.1), vi r1184.2]), (13, VV.ag (c_SFrac r1184.1)), (14, vi r1184.2), (15, vi r1184.2), (16, vb (!(decide (r1184.2 = 0)))), (19, vi a1), (20, vi a2), (21, VV.fr [vi a1, vi a2] 2), (22, vb r1188), (23, vb (!r1188)), (25, vi a1), (26, VV.pt 1 0), (27, vi r1184.1.Num), (28, VV.rf 2 0 3), (29, vi a2), (30, VV.pt 1 1), (31, vi r1184.1.Den), (32, VV.rf 3 0 2)]) .nil)⟩
def nsupport_Rate_i19_l0_0 (k : Nat) (a0 : (List SGearPair)) (a1 : Int) (a2 : Int) (r1184 : (SFrac × Int)) (r1188 : Bool) : Nat → (List Int) → (List Int) → Int → Option ((List Int) × (List Int))
  | 0, _, _, _ => none
  | fuel + 1, y2, y3, x15 => if x15 < 3 then ((nsupport_Rate_i19_l1_0 k a0 a1 a2 r1184 r1188 y3 x15 k y2 y3 0).bind fun r1352 => (nsupport_Rate_i19_l0_0 k a0 a1 a2 r1184 r1188 fuel r1352.1 r1352.2 (w64 (x15 + 1)))) else (some (y2, y3))
theorem nsupport_Rate_i19_l0_0_ok (k : Nat) (a0 : (List SGearPair)) (a1 : Int) (a2 : Int) (r1184 : (SFrac × Int)) (r1188 : Bool) : ∀ (fuel : Nat) (y2 : List Int) (y3 : List Int) (x15 : Int) (r : (List Int) × (List Int)), nsupport_Rate_i19_l0_0 k a0 a1 a2 r1184 r1188 fuel y2 y3 x15 = some r → (VLoop none Go.Proofs.Try.prog (szF Go.Proofs.Try.f19) (bodyOf Go.Proofs.Try.f19 0) (nsupport_Rate_i19_l0_0_h a0 a1 a2 r1184 r1188 y2 y3 x15) (.exit 0) (nsupport_Rate_i19_l0_0_e0 a0 a1 a2 r1184 r1188 r)) := by
 intro fuel
 induction fuel with
 | zero => intro y2 y3 x15 r h; rw [nsupport_Rate_i19_l0_0.eq_1] at h; cases h
 | succ fuel ih =>
  intro y2 y3 x15 r h
  rw [nsupport_Rate_i19_l0_0.eq_2] at h
  rcases ifs h with ⟨h1302, h⟩ | ⟨h1302, h⟩
  ·obtain ⟨r1352, h1351, h⟩ := bs h
   have hph1351 := nsupport_Rate_i19_l1_0_ok k a0 a1 a2 r1184 r1188 y3 x15 _ _ _ _ _ h1351
   have e1353 := (an (ti trivial) (VRun.loop hph1351))
   have h2 := ih _ _ _ _ h
   obtain ⟨q, hv, hq⟩ := pkR (rd := none) (P := Go.Proofs.Try.prog) (fn := Go.Proofs.Try.f19) (k := 0) (s := (nsupport_Rate_i19_l0_0_h a0 a1 a2 r1184 r1188 y2 y3 x15)) (ans := [.reg (.n :: []), .br true, .reg (.n :: .n :: []), .reg (nN 3 []), .sub ⟨[(0, none), (1, none), (4, none), (6, none), (14, none), (15, none), (19, none), (20, none)], [none, none, none, none, none], []⟩ (.exit 2) (nsupport_Rate_i19_l1_0_e0 a0 a1 a2 r1184 r1188 y3 x15 r1352), .reg (.n :: .n :: [])]) (c := ⟨[(0, none), (1, none), (4, none), (14, none), (15, none)], [none, none, none, none, none], []⟩) (e := .normal) (s1 := (nsupport_Rate_i19_l0_0_h a0 a1 a2 r1184 r1188 r1352.1 r1352.2 (w64 (x15 + 1)))) (an (an (ti trivial) (an (an (decide_eq_true h1302) trivial) (an (an (ti (ti trivial)) (an (ti (ti (ti trivial))) e1353)) (ti (ti trivial))))) (ti trivial)) (by kernel_rfl)
   exact round_next pm pn hv hq h2
  ·injection h with h; subst h
   exact round_stop (c := ⟨[(0, none), (1, none), (4, none)], [none, none, none, none, none], []⟩) (s1 := (nsupport_Rate_i19_l0_0_e0 a0 a1 a2 r1184 r1188 (y2, y3))) pm pn (ans := [.reg (.n :: []), .br false]) (by kernel_rfl) (by intro e; cases e) (an (an (ti trivial) (an (decide_eq_false h1302) trivial)) (ti trivial))
theorem eqD2_3 (z0 : (Int × Bool)) (z1 : (Int × Bool)) : VV.tu [VV.ag [vi z0.1, vi z1.1], vi 0] = VV.tu [VV.ag (c_SFrac (⟨z0.1, z1.1⟩ : SFrac)), vi 0] := by first | rfl | (simp only [unfr_vi, List.map_cons, List.map_nil, un_i, unfr_c_SFrac]; done) | (simp only [unfr_vi, List.map_cons, List.map_nil, un_i, unfr_c_SFrac]; rfl) | (simp only [unfr_vi, List.map_cons, List.map_nil, un_i, unfr_c_SFrac, c_SFrac, List.length_cons, List.length_nil, List.length_append]; done)
theorem eqD2_4  : VV.tu [VV.ag [vi 0, vi 0], vi 8] = VV.tu [VV.ag (c_SFrac (⟨0, 0⟩ : SFrac)), vi 8] := by first | rfl | (simp only [unfr_vi, List.map_cons, List.map_nil, un_i, unfr_c_SFrac]; done) | (simp only [unfr_vi, List.map_cons, List.map_nil, un_i, unfr_c_SFrac]; rfl) | (simp only [unfr_vi, List.map_cons, List.map_nil, un_i, unfr_c_SFrac, c_SFrac, List.length_cons, List.length_nil, List.length_append]; done)
theorem eqD2_5  : VV.tu [VV.ag [vi 0, vi 0], vi 2] = VV.tu [VV.ag (c_SFrac (⟨0, 0⟩ : SFrac)), vi 2] := by first | rfl | (simp only [unfr_vi, List.map_cons, List.map_nil, un_i, unfr_c_SFrac]; done) | (simp only [unfr_vi, List.map_cons, List.map_nil, un_i, unfr_c_SFrac]; rfl) | (simp only [unfr_vi, List.map_cons, List.map_nil, un_i, unfr_c_SFrac, c_SFrac, List.length_cons, List.length_nil, List.length_append]; done)
theorem eqD2_6 (z0 : (SFrac × Int)) : VV.tu [VV.ag [vi 0, vi 0], vi z0.2] = VV.tu [VV.ag (c_SFrac (⟨0, 0⟩ : SFrac)), vi z0.2] := by first | rfl | (simp only [unfr_vi, List.map_cons, List.map_nil, un_i, unfr_c_SFrac]; done) | (simp only [unfr_vi, List.map_cons, List.map_nil, un_i, unfr_c_SFrac]; rfl) | (simp only [unfr_vi, List.map_cons, List.map_nil, un_i, unfr_c_SFrac, c_SFrac, List.length_cons, List.length_nil, List.length_append]; done)
def nsupport_Rate (k : Nat) (a0 : (List SGearPair)) (a1 : Int) (a2 : Int) : Option (SFrac × Int) :=
  (nsupport_Ratio k a0).bind fun r1184 => (if r1184.2 = 0 then ((nsupport_areWithin k 1 1000000 ([a1, a2] : List Int)).bind fun r1188 => (if r1188 = true then ((nsupport_Rate_i19_l0_0 k a0 a1 a2 r1184 r1188 k ([1296000, a1, r1184.1.Num] : List Int) ([a2, r1184.1.Den] : List Int) 0).bind fun r1355 => ((nsupport_product k r1355.1).bind fun r1357 => ((nsupport_product k r1355.2).bind fun r1360 => (if r1357.2 = true then (if r1360.2 = true then (if r1355.1.length = 3 then (if r1355.2.length = 2 then (some ((⟨r1357.1, r1360.1⟩ : SFrac), 0)) else none) else none) else (if r1355.1.length = 3 then (if r1355.2.length = 2 then (some ((⟨0, 0⟩ : SFrac), 8)) else none) else none)) else (if r1355.1.length = 3 then (if r1355.2.length = 2 then (some ((⟨0, 0⟩ : SFrac), 8)) else none) else none))))) else (some ((⟨0, 0⟩ : SFrac), 2)))) else (some ((⟨0, 0⟩ : SFrac), r1184.2)))
theorem nsupport_Rate_ok (k : Nat) (a0 : (List SGearPair)) (a1 : Int) (a2 : Int) (r : (SFrac × Int)) (h : nsupport_Rate k a0 a1 a2 = some r) : VC Go.Proofs.Try.prog 6 [VV.tr (List.flatMap c_SGearPair a0) a0.length, vi a1, vi a2] (VV.tu [VV.ag (c_SFrac r.1), vi r.2]) := by
 unfold nsupport_Rate at h
 obtain ⟨r1184, h1185, h⟩ := bs h
 have e1186 := (ti (an (nsupport_Ratio_ok k a0 _ h1185) (ti (ti (ti (ti (ti (ti trivial))))))))
 rcases ifs h with ⟨h1187, h⟩ | ⟨h1187, h⟩
 ·obtain ⟨r1188, h1189, h⟩ := bs h
  have e1190 := (VC.args (nsupport_areWithin_ok k 1 1000000 ([a1, a2] : List Int) _ h1189) (eqD2_0 a1 a2))
  rcases ifs h with ⟨h1191, h⟩ | ⟨h1191, h⟩
  ·obtain ⟨r1355, h1354, h⟩ := bs h
   have hph1354 := nsupport_Rate_i19_l0_0_ok k a0 a1 a2 r1184 r1188 _ _ _ _ _ h1354
   have e1356 := (an (an (an (show Wv (VV.rf 2 0 3) (VV.rf 2 0 (([1296000, a1, r1184.1.Num] : List Int).length)) from (Wv.of_eq (by simp))) (an (show Wv (VV.rf 3 0 2) (VV.rf 3 0 (([a2, r1184.1.Den] : List Int).length)) from (Wv.of_eq (by simp))) trivial)) (an (show [vi 1296000, vi a1, vi r1184.1.Num] = List.map vi ([1296000, a1, r1184.1.Num] : List Int) from rfl) (an (show [vi a2, vi r1184.1.Den] = List.map vi ([a2, r1184.1.Den] : List Int) from rfl) trivial))) (VRun.loop hph1354))
   obtain ⟨r1357, h1358, h⟩ := bs h
   have e1359 := (VC.args (nsupport_product_ok k r1355.1 _ h1358) (eqD2_1 r1355))
   obtain ⟨r1360, h1361, h⟩ := bs h
   have e1362 := (VC.args (nsupport_product_ok k r1355.2 _ h1361) (eqD2_2 r1355))
   rcases ifs h with ⟨h1363, h⟩ | ⟨h1363, h⟩
   ·have e1364 := (ti (ti (ti (an (an (not_f h1363) trivial) (an (an (not_f h1363) trivial) (an (not_f h1363) trivial))))))
    rcases ifs h with ⟨h1365, h⟩ | ⟨h1365, h⟩
    ·obtain ⟨h1366, h⟩ := ifn h
     obtain ⟨h1367, h⟩ := ifn h
     have e1368 := (an (an Go.Proofs.Try.func19 (an (ti (ti trivial)) (an (an (ti (ti (ti trivial))) e1356) (an (ti (an e1359 (ti (ti (ti (ti (ti trivial))))))) (an (ti (an e1362 (ti (ti (ti (ti (ti trivial))))))) (an (an e1364 (an (not_f h1365) trivial)) (an (ti (ti (ti (ti (ti trivial))))) trivial))))))) (ti (ti trivial)))
     have e1369 := (ti (ti (ti (ti (ti (ti (ti (ti (an e1368 (ti (ti (ti (ti trivial)))))))))))))
     injection h with h; subst h
     exact fun_ok pm pn Go.Proofs.Try.func6 (r0 := VV.tu [VV.ag [vi r1357.1, vi r1360.1], vi 0]) (ans := [.reg (.n :: .n :: []), .reg (.n :: .call (VV.tu [VV.ag (c_SFrac r1184.1), vi r1184.2]) :: nN 6 []), .reg (.n :: .n :: []), .br false, .reg (.n :: .n :: .v VV.any :: .call (vb r1188) :: .n :: []), .br false, .reg (nN 8 (.inl (inlF Go.Proofs.Try.f19 [.reg (.n :: .n :: []), .reg (nN 3 []), .sub ⟨[(0, some (VV.rf 2 0 (([1296000, a1, r1184.1.Num] : List Int).length))), (1, some (VV.rf 3 0 (([a2, r1184.1.Den] : List Int).length))), (4, none), (14, none), (15, none)], [none, none, some (List.map vi ([1296000, a1, r1184.1.Num] : List Int)), some (List.map vi ([a2, r1184.1.Den] : List Int)), none], []⟩ (.exit 0) (nsupport_Rate_i19_l0_0_e0 a0 a1 a2 r1184 r1188 r1355), .reg (.n :: .call (VV.tu [vi r1357.1, vb r1357.2]) :: nN 5 []), .reg (.n :: .call (VV.tu [vi r1360.1, vb r1360.2]) :: nN 5 []), .reg (nN 5 (.b false :: [])), .br false, .reg (nN 5 [])]) :: nN 4 []))]) (fr := true) (by kernel_rfl) (an (an (ti (ti trivial)) (an e1186 (an (an (ti (ti trivial)) (an (not_f (decide_eq_true h1187)) trivial)) (an (an (ti (ti (ti (an e1190 (ti trivial))))) (an (not_f h1191) trivial)) (an e1369 trivial))))) (an (ti (ti (ti trivial))) (ti trivial))) (Wv.of_eq (eqD2_3 r1357 r1360))
    ·obtain ⟨h1370, h⟩ := ifn h
     obtain ⟨h1371, h⟩ := ifn h
     have e1372 := (an (an Go.Proofs.Try.func19 (an (ti (ti trivial)) (an (an (ti (ti (ti trivial))) e1356) (an (ti (an e1359 (ti (ti (ti (ti (ti trivial))))))) (an (ti (an e1362 (ti (ti (ti (ti (ti trivial))))))) (an e1364 (an (not_t (bool_f h1365)) (an (ti (ti (ti trivial))) trivial)))))))) (ti (ti trivial)))
     have e1373 := (ti (ti (ti (ti (ti (ti (ti (ti (an e1372 (ti (ti (ti (ti trivial)))))))))))))
     injection h with h; subst h
     exact fun_ok pm pn Go.Proofs.Try.func6 (r0 := VV.tu [VV.ag [vi 0, vi 0], vi 8]) (ans := [.reg (.n :: .n :: []), .reg (.n :: .call (VV.tu [VV.ag (c_SFrac r1184.1), vi r1184.2]) :: nN 6 []), .reg (.n :: .n :: []), .br false, .reg (.n :: .n :: .v VV.any :: .call (vb r1188) :: .n :: []), .br false, .reg (nN 8 (.inl (inlF Go.Proofs.Try.f19 [.reg (.n :: .n :: []), .reg (nN 3 []), .sub ⟨[(0, some (VV.rf 2 0 (([1296000, a1, r1184.1.Num] : List Int).length))), (1, some (VV.rf 3 0 (([a2, r1184.1.Den] : List Int).length))), (4, none), (14, none), (15, none)], [none, none, some (List.map vi ([1296000, a1, r1184.1.Num] : List Int)), some (List.map vi ([a2, r1184.1.Den] : List Int)), none], []⟩ (.exit 0) (nsupport_Rate_i19_l0_0_e0 a0 a1 a2 r1184 r1188 r1355), .reg (.n :: .call (VV.tu [vi r1357.1, vb r1357.2]) :: nN 5 []), .reg (.n :: .call (VV.tu [vi r1360.1, vb r1360.2]) :: nN 5 []), .reg (nN 5 (.b false :: [])), .br true, .reg (nN 3 [])]) :: nN 4 []))]) (fr := true) (by kernel_rfl) (an (an (ti (ti trivial)) (an e1186 (an (an (ti (ti trivial)) (an (not_f (decide_eq_true h1187)) trivial)) (an (an (ti (ti (ti (an e1190 (ti trivial))))) (an (not_f h1191) trivial)) (an e1373 trivial))))) (an (ti (ti (ti trivial))) (ti trivial))) (Wv.of_eq eqD2_4)
   ·have e1374 := (ti (ti (ti (an (not_t (bool_f h1363)) (an (not_t (bool_f h1363)) (an (not_t (bool_f h1363)) trivial))))))
    obtain ⟨h1375, h⟩ := ifn h
    obtain ⟨h1376, h⟩ := ifn h
    have e1377 := (an (an Go.Proofs.Try.func19 (an (ti (ti trivial)) (an (an (ti (ti (ti trivial))) e1356) (an (ti (an e1359 (ti (ti (ti (ti (ti trivial))))))) (an (ti (an e1362 (ti (ti (ti (ti (ti trivial))))))) (an e1374 (an rt (an (ti (ti (ti trivial))) trivial)))))))) (ti (ti trivial)))
    have e1378 := (ti (ti (ti (ti (ti (ti (ti (ti (an e1377 (ti (ti (ti (ti trivial)))))))))))))
    injection h with h; subst h
    exact fun_ok pm pn Go.Proofs.Try.func6 (r0 := VV.tu [VV.ag [vi 0, vi 0], vi 8]) (ans := [.reg (.n :: .n :: []), .reg (.n :: .call (VV.tu [VV.ag (c_SFrac r1184.1), vi r1184.2]) :: nN 6 []), .reg (.n :: .n :: []), .br false, .reg (.n :: .n :: .v VV.any :: .call (vb r1188) :: .n :: []), .br false, .reg (nN 8 (.inl (inlF Go.Proofs.Try.f19 [.reg (.n :: .n :: []), .reg (nN 3 []), .sub ⟨[(0, some (VV.rf 2 0 (([1296000, a1, r1184.1.Num] : List Int).length))), (1, some (VV.rf 3 0 (([a2, r1184.1.Den] : List Int).length))), (4, none), (14, none), (15, none)], [none, none, some (List.map vi ([1296000, a1, r1184.1.Num] : List Int)), some (List.map vi ([a2, r1184.1.Den] : List Int)), none], []⟩ (.exit 0) (nsupport_Rate_i19_l0_0_e0 a0 a1 a2 r1184 r1188 r1355), .reg (.n :: .call (VV.tu [vi r1357.1, vb r1357.2]) :: nN 5 []), .reg (.n :: .call (VV.tu [vi r1360.1, vb r1360.2]) :: nN 5 []), .reg (nN 3 (.skip :: .skip :: .b true :: [])), .br true, .reg (nN 3 [])]) :: nN 4 []))]) (fr := true) (by kernel_rfl) (an (an (ti (ti trivial)) (an e1186 (an (an (ti (ti trivial)) (an (not_f (decide_eq_true h1187)) trivial)) (an (an (ti (ti (ti (an e1190 (ti trivial))))) (an (not_f h1191) trivial)) (an e1378 trivial))))) (an (ti (ti (ti trivial))) (ti trivial))) (Wv.of_eq eqD2_4)
  ·injection h with h; subst h
   exact fun_ok pm pn Go.Proofs.Try.func6 (r0 := VV.tu [VV.ag [vi 0, vi 0], vi 2]) (ans := [.reg (.n :: .n :: []), .reg (.n :: .call (VV.tu [VV.ag (c_SFrac r1184.1), vi r1184.2]) :: nN 6 []), .reg (.n :: .n :: []), .br false, .reg (.n :: .n :: .v VV.any :: .call (vb r1188) :: .n :: []), .br true, .reg (nN 3 [])]) (fr := true) (by kernel_rfl) (an (an (ti (ti trivial)) (an e1186 (an (an (ti (ti trivial)) (an (not_f (decide_eq_true h1187)) trivial)) (an (ti (ti (ti (an e1190 (ti trivial))))) (an (not_t (bool_f h1191)) (an (ti (ti (ti trivial))) trivial)))))) (an (ti (ti (ti trivial))) (ti trivial))) (Wv.of_eq eqD2_5)
 ·injection h with h; subst h
  exact fun_ok pm pn Go.Proofs.Try.func6 (r0 := VV.tu [VV.ag [vi 0, vi 0], vi r1184.2]) (ans := [.reg (.n :: .n :: []), .reg (.n :: .call (VV.tu [VV.ag (c_SFrac r1184.1), vi r1184.2]) :: nN 6 []), .reg (.n :: .n :: []), .br true, .reg (nN 4 [])]) (fr := true) (by kernel_rfl) (an (an (ti (ti trivial)) (an e1186 (an (ti (ti trivial)) (an (not_t (decide_eq_false h1187)) (an (ti (ti (ti (ti trivial)))) trivial))))) (an (ti (ti (ti trivial))) (ti trivial))) (Wv.of_eq (eqD2_6 r1184))
theorem eqD2_7 (z0 : Int) : [vi 0, vi 1000000, VV.tr (List.map vi ([z0] : List Int)) (([z0] : List Int).length)] = [vi 0, vi 1000000, VV.tr [vi z0] 1] := by first | rfl | (simp only [unfr_vi, List.map_cons, List.map_nil, un_i, un_tr, List.length_map, List.length_cons, List.length_nil]; done) | (simp only [unfr_vi, List.map_cons, List.map_nil, un_i, un_tr, List.length_map, List.length_cons, List.length_nil]; rfl) | (simp only [unfr_vi, List.map_cons, List.map_nil, un_i, un_tr, List.length_map, List.length_cons, List.length_nil, List.length_cons, List.length_nil, List.length_append]; done)
theorem eqD2_8  : VV.ag [vi 324000000, vi 21541] = VV.ag (c_SFrac (⟨324000000, 21541⟩ : SFrac)) := by first | rfl | (simp only [unfr_vi, List.map_cons, List.map_nil, un_i, unfr_c_SFrac]; done) | (simp only [unfr_vi, List.map_cons, List.map_nil, un_i, unfr_c_SFrac]; rfl) | (simp only [unfr_vi, List.map_cons, List.map_nil, un_i, unfr_c_SFrac, c_SFrac, List.length_cons, List.length_nil, List.length_append]; done)
def nsupport_sky (k : Nat)  : Option SFrac :=
  some (⟨324000000, 21541⟩ : SFrac)
theorem nsupport_sky_ok (k : Nat)  (r : SFrac) (h : nsupport_sky k  = some r) : VC Go.Proofs.Try.prog 21 [] (VV.ag (c_SFrac r)) := by
 unfold nsupport_sky at h
 injection h with h; subst h
 exact fun_ok pm pn Go.Proofs.Try.func21 (r0 := VV.ag [vi 324000000, vi 21541]) (ans := [.reg (.n :: []), .reg (.n :: .n :: [])]) (fr := true) (by kernel_rfl) (an (an (ti trivial) (an (ti (ti trivial)) trivial)) (an (ti (ti (ti trivial))) trivial)) (Wv.of_eq eqD2_8)
theorem eqD2_9 (z0 : Int) (z1 : Int) : VV.ag [vi (w64 ((w64 (z0.tdiv z1)) - 1)), vi (w64 (z0.tdiv z1))] = VV.ag (c_SRange (⟨w64 ((w64 (z0.tdiv z1)) - 1), w64 (z0.tdiv z1)⟩ : SRange)) := by first | rfl | (simp only [unfr_vi, List.map_cons, List.map_nil, un_i, unfr_c_SRange]; done) | (simp only [unfr_vi, List.map_cons, List.map_nil, un_i, unfr_c_SRange]; rfl) | (simp only [unfr_vi, List.map_cons, List.map_nil, un_i, unfr_c_SRange, c_SRange, List.length_cons, List.length_nil, List.length_append]; done)
theorem eqD2_10 (z0 : Int) (z1 : Int) : VV.ag [vi (w64 (z0.tdiv z1)), vi (w64 ((w64 (z0.tdiv z1)) + 1))] = VV.ag (c_SRange (⟨w64 (z0.tdiv z1), w64 ((w64 (z0.tdiv z1)) + 1)⟩ : SRange)) := by first | rfl | (simp only [unfr_vi, List.map_cons, List.map_nil, un_i, unfr_c_SRange]; done) | (simp only [unfr_vi, List.map_cons, List.map_nil, un_i, unfr_c_SRange]; rfl) | (simp only [unfr_vi, List.map_cons, List.map_nil, un_i, unfr_c_SRange, c_SRange, List.length_cons, List.length_nil, List.length_append]; done)
theorem eqD2_11 (z0 : Int) (z1 : Int) : VV.ag [vi (w64 (z0.tdiv z1)), vi (w64 (z0.tdiv z1))] = VV.ag (c_SRange (⟨w64 (z0.tdiv z1), w64 (z0.tdiv z1)⟩ : SRange)) := by first | rfl | (simp only [unfr_vi, List.map_cons, List.map_nil, un_i, unfr_c_SRange]; done) | (simp only [unfr_vi, List.map_cons, List.map_nil, un_i, unfr_c_SRange]; rfl) | (simp only [unfr_vi, List.map_cons, List.map_nil, un_i, unfr_c_SRange, c_SRange, List.length_cons, List.length_nil, List.length_append]; done)
def nsupport_rounded (k : Nat) (a0 : Int) (a1 : Int) : Option SRange :=
  if a1 ≠ 0 then (if (a0.tmod a1) < 0 then (some (⟨w64 ((w64 (a0.tdiv a1)) - 1), w64 (a0.tdiv a1)⟩ : SRange)) else (if 0 < (a0.tmod a1) then (some (⟨w64 (a0.tdiv a1), w64 ((w64 (a0.tdiv a1)) + 1)⟩ : SRange)) else (some (⟨w64 (a0.tdiv a1), w64 (a0.tdiv a1)⟩ : SRange)))) else none
theorem nsupport_rounded_ok (k : Nat) (a0 : Int) (a1 : Int) (r : SRange) (h : nsupport_rounded k a0 a1 = some r) : VC Go.Proofs.Try.prog 22 [vi a0, vi a1] (VV.ag (c_SRange r)) := by
 unfold nsupport_rounded at h
 obtain ⟨h1407, h⟩ := ifn h
 have e1408 := (ti (ti (an h1407 (ti (ti (an h1407 (ti (ti (ti trivial)))))))))
 rcases ifs h with ⟨h1409, h⟩ | ⟨h1409, h⟩
 ·injection h with h; subst h
  exact fun_ok pm pn Go.Proofs.Try.func22 (r0 := VV.ag [vi (w64 ((w64 (a0.tdiv a1)) - 1)), vi (w64 (a0.tdiv a1))]) (ans := [.reg (.n :: []), .reg (nN 9 []), .reg (nN 5 []), .br true, .reg (nN 5 []), .reg (.n :: .n :: [])]) (fr := true) (by kernel_rfl) (an (an (ti trivial) (an e1408 (an (an (ti (ti (an h1407 (ti (ti trivial))))) (an (decide_eq_true h1409) (ti (ti (ti (ti (ti trivial))))))) (an (ti (ti trivial)) trivial)))) (an (ti (ti (ti trivial))) trivial)) (Wv.of_eq (eqD2_9 a0 a1))
 ·rcases ifs h with ⟨h1410, h⟩ | ⟨h1410, h⟩
  ·injection h with h; subst h
   exact fun_ok pm pn Go.Proofs.Try.func22 (r0 := VV.ag [vi (w64 (a0.tdiv a1)), vi (w64 ((w64 (a0.tdiv a1)) + 1))]) (ans := [.reg (.n :: []), .reg (nN 9 []), .reg (nN 5 []), .br false, .reg (nN 5 []), .br true, .reg (nN 5 []), .reg (.n :: .n :: [])]) (fr := true) (by kernel_rfl) (an (an (ti trivial) (an e1408 (an (an (ti (ti (an h1407 (ti (ti trivial))))) (an (decide_eq_false h1409) (an (ti (ti (an h1407 (ti (ti trivial))))) (an (decide_eq_true h1410) (ti (ti (ti (ti (ti trivial))))))))) (an (ti (ti trivial)) trivial)))) (an (ti (ti (ti trivial))) trivial)) (Wv.of_eq (eqD2_10 a0 a1))
  ·injection h with h; subst h
   exact fun_ok pm pn Go.Proofs.Try.func22 (r0 := VV.ag [vi (w64 (a0.tdiv a1)), vi (w64 (a0.tdiv a1))]) (ans := [.reg (.n :: []), .reg (nN 9 []), .reg (nN 5 []), .br false, .reg (nN 5 []), .br false, .reg (.n :: .n :: [])]) (fr := true) (by kernel_rfl) (an (an (ti trivial) (an e1408 (an (an (ti (ti (an h1407 (ti (ti trivial))))) (an (decide_eq_false h1409) (an (ti (ti (an h1407 (ti (ti trivial))))) (an (decide_eq_false h1410) trivial)))) (an (ti (ti trivial)) trivial)))) (an (ti (ti (ti trivial))) trivial)) (Wv.of_eq (eqD2_11 a0 a1))
def arD2_2 (z0 : SFrac) (z1 : (SFrac × Int)) : List Ans := (.n :: .call (VV.ag (c_SFrac z0)) :: .call (VV.tu [VV.ag (c_SFrac z1.1), vi z1.2]) :: nN 6 [])
theorem eqD2_12 (z0 : (SFrac × Int)) : VV.tu [VV.ag [vi 0, vi 0], vi z0.2] = VV.tu [VV.ag (c_SRange (⟨0, 0⟩ : SRange)), vi z0.2] := by first | rfl | (simp only [unfr_vi, List.map_cons, List.map_nil, un_i, unfr_c_SRange]; done) | (simp only [unfr_vi, List.map_cons, List.map_nil, un_i, unfr_c_SRange]; rfl) | (simp only [unfr_vi, List.map_cons, List.map_nil, un_i, unfr_c_SRange, c_SRange, List.length_cons, List.length_nil, List.length_append]; done)
theorem eqD2_13  : VV.tu [VV.ag [vi 0, vi 0], vi 2] = VV.tu [VV.ag (c_SRange (⟨0, 0⟩ : SRange)), vi 2] := by first | rfl | (simp only [unfr_vi, List.map_cons, List.map_nil, un_i, unfr_c_SRange]; done) | (simp only [unfr_vi, List.map_cons, List.map_nil, un_i, unfr_c_SRange]; rfl) | (simp only [unfr_vi, List.map_cons, List.map_nil, un_i, unfr_c_SRange, c_SRange, List.length_cons, List.length_nil, List.length_append]; done)
def nsupport_Drift (k : Nat) (a0 : (List SGearPair)) (a1 : A23) (a2 : Int) : Option (SRange × Int) :=
  (nsupport_Rate k a0 a1.e0 a1.e1).bind fun r1417 => (if r1417.2 = 0 then ((nsupport_areWithin k 0 1000000 ([a2] : List Int)).bind fun r1422 => (if r1422 = true then ((nsupport_sky k).bind fun r1426 => ((nnumber_Sub k r1417.1 r1426).bind fun r1428 => (if r1428.2 = 0 then ((nsupport_rounded k (w64 (r1428.1.Num * a2)) (w64 (r1428.1.Den * 1000))).bind fun r1433 => (some (r1433, 0))) else (some ((⟨0, 0⟩ : SRange), r1428.2))))) else (some ((⟨0, 0⟩ : SRange), 2)))) else (some ((⟨0, 0⟩ : SRange), r1417.2)))
theorem nsupport_Drift_ok (k : Nat) (a0 : (List SGearPair)) (a1 : A23) (a2 : Int) (r : (SRange × Int)) (h : nsupport_Drift k a0 a1 a2 = some r) : VC Go.Proofs.Try.prog 8 [VV.tr (List.flatMap c_SGearPair a0) a0.length, VV.ag (c_A23 a1), vi a2] (VV.tu [VV.ag (c_SRange r.1), vi r.2]) := by
 unfold nsupport_Drift at h
 have e1415 := (show (0:Int) ≤ 0 ∧ (0:Int) < ((2 : Nat) : Int) from ⟨by decide, by decide⟩)
 have e1416 := (show (0:Int) ≤ 1 ∧ (1:Int) < ((2 : Nat) : Int) from ⟨by decide, by decide⟩)
 obtain ⟨r1417, h1418, h⟩ := bs h
 have e1419 := (nsupport_Rate_ok k a0 a1.e0 a1.e1 _ h1418)
 have e1420 := (ti (an e1415 (ti (an e1416 (ti (an e1419 (ti (ti (ti (ti (ti (ti trivial))))))))))))
 rcases ifs h with ⟨h1421, h⟩ | ⟨h1421, h⟩
 ·obtain ⟨r1422, h1423, h⟩ := bs h
  have e1424 := (VC.args (nsupport_areWithin_ok k 0 1000000 ([a2] : List Int) _ h1423) (eqD2_7 a2))
  rcases ifs h with ⟨h1425, h⟩ | ⟨h1425, h⟩
  ·obtain ⟨r1426, h1427, h⟩ := bs h
   obtain ⟨r1428, h1429, h⟩ := bs h
   have e1430 := (nnumber_Sub_ok k r1417.1 r1426 _ h1429)
   have e1431 := (ti (an (nsupport_sky_ok k _ h1427) (an e1430 (ti (ti (ti (ti (ti (ti trivial)))))))))
   rcases ifs h with ⟨h1432, h⟩ | ⟨h1432, h⟩
   ·obtain ⟨r1433, h1434, h⟩ := bs h
    have e1435 := (nsupport_rounded_ok k (w64 (r1428.1.Num * a2)) (w64 (r1428.1.Den * 1000)) _ h1434)
    have e1436 := (ti (ti (ti (ti (ti (ti (ti (an e1435 (ti (ti trivial))))))))))
    injection h with h; subst h
    exact fun_ok pm pn Go.Proofs.Try.func8 (r0 := VV.tu [VV.ag (c_SRange r1433), vi 0]) (ans := [.reg (nN 3 []), .reg (nN 5 (.call (VV.tu [VV.ag (c_SFrac r1417.1), vi r1417.2]) :: nN 6 [])), .reg (.n :: .n :: []), .br false, .reg (.n :: .v VV.any :: .call (vb r1422) :: .n :: []), .br false, .reg (arD2_2 r1426 r1428), .reg (.n :: .n :: []), .br false, .reg (nN 7 (.call (VV.ag (c_SRange r1433)) :: .n :: .n :: []))]) (fr := true) (by kernel_rfl) (an (an (ti (ti (ti trivial))) (an e1420 (an (an (ti (ti trivial)) (an (not_f (decide_eq_true h1421)) trivial)) (an (an (ti (ti (an e1424 (ti trivial)))) (an (not_f h1425) trivial)) (an e1431 (an (an (ti (ti trivial)) (an (not_f (decide_eq_true h1432)) trivial)) (an e1436 trivial))))))) (an (ti (ti (ti trivial))) (ti trivial))) (Wv.refl _)
   ·injection h with h; subst h
    exact fun_ok pm pn Go.Proofs.Try.func8 (r0 := VV.tu [VV.ag [vi 0, vi 0], vi r1428.2]) (ans := [.reg (nN 3 []), .reg (nN 5 (.call (VV.tu [VV.ag (c_SFrac r1417.1), vi r1417.2]) :: nN 6 [])), .reg (.n :: .n :: []), .br false, .reg (.n :: .v VV.any :: .call (vb r1422) :: .n :: []), .br false, .reg (arD2_2 r1426 r1428), .reg (.n :: .n :: []), .br true, .reg (nN 4 [])]) (fr := true) (by kernel_rfl) (an (an (ti (ti (ti trivial))) (an e1420 (an (an (ti (ti trivial)) (an (not_f (decide_eq_true h1421)) trivial)) (an (an (ti (ti (an e1424 (ti trivial)))) (an (not_f h1425) trivial)) (an e1431 (an (ti (ti trivial)) (an (not_t (decide_eq_false h1432)) (an (ti (ti (ti (ti trivial)))) trivial)))))))) (an (ti (ti (ti trivial))) (ti trivial))) (Wv.of_eq (eqD2_12 r1428))
  ·injection h with h; subst h
   exact fun_ok pm pn Go.Proofs.Try.func8 (r0 := VV.tu [VV.ag [vi 0, vi 0], vi 2]) (ans := [.reg (nN 3 []), .reg (nN 5 (.call (VV.tu [VV.ag (c_SFrac r1417.1), vi r1417.2]) :: nN 6 [])), .reg (.n :: .n :: []), .br false, .reg (.n :: .v VV.any :: .call (vb r1422) :: .n :: []), .br true, .reg (nN 3 [])]) (fr := true) (by kernel_rfl) (an (an (ti (ti (ti trivial))) (an e1420 (an (an (ti (ti trivial)) (an (not_f (decide_eq_true h1421)) trivial)) (an (ti (ti (an e1424 (ti trivial)))) (an (not_t (bool_f h1425)) (an (ti (ti (ti trivial))) trivial)))))) (an (ti (ti (ti trivial))) (ti trivial))) (Wv.of_eq eqD2_13)
 ·injection h with h; subst h
  exact fun_ok pm pn Go.Proofs.Try.func8 (r0 := VV.tu [VV.ag [vi 0, vi 0], vi r1417.2]) (ans := [.reg (nN 3 []), .reg (nN 5 (.call (VV.tu [VV.ag (c_SFrac r1417.1), vi r1417.2]) :: nN 6 [])), .reg (.n :: .n :: []), .br true, .reg (nN 4 [])]) (fr := true) (by kernel_rfl) (an (an (ti (ti (ti trivial))) (an e1420 (an (ti (ti trivial)) (an (not_t (decide_eq_false h1421)) (an (ti (ti (ti (ti trivial)))) trivial))))) (an (ti (ti (ti trivial))) (ti trivial))) (Wv.of_eq (eqD2_12 r1417))
theorem eqD2_14 (z0 : Int) (z1 : Int) (z2 : Int) (z3 : (SFrac × Int)) (z4 : Int) (z5 : Int) : VV.tu [VV.ag [vi (w64 ((w64 ((w64 ((w64 (z0 * 1296000)).tdiv z1)).tdiv z2)) * (w64 (z3.1.Num.tdiv z4)))), vi (w64 ((w64 (z3.1.Den.tdiv z2)) * (w64 ((w64 (z5.tdiv z1)).tdiv z4))))], vi 0] = VV.tu [VV.ag (c_SFrac (⟨w64 ((w64 ((w64 ((w64 (z0 * 1296000)).tdiv z1)).tdiv z2)) * (w64 (z3.1.Num.tdiv z4))), w64 ((w64 (z3.1.Den.tdiv z2)) * (w64 ((w64 (z5.tdiv z1)).tdiv z4)))⟩ : SFrac)), vi 0] := by first | rfl | (simp only [unfr_vi, List.map_cons, List.map_nil, un_i, unfr_c_SFrac]; done) | (simp only [unfr_vi, List.map_cons, List.map_nil, un_i, unfr_c_SFrac]; rfl) | (simp only [unfr_vi, List.map_cons, List.map_nil, un_i, unfr_c_SFrac, c_SFrac, List.length_cons, List.length_nil, List.length_append]; done)
def nspeculumref07_Rate (k : Nat) (a0 : (List SGearPair)) (a1 : Int) (a2 : Int) : Option (SFrac × Int) :=
  (nspeculumref07_Ratio k a0).bind fun r1483 => (if r1483.2 = 0 then ((nspeculumbase_Within k a1 1 1000000).bind fun r1487 => (if r1487 = true then ((nspeculumbase_Within k a2 1 1000000).bind fun r1491 => (if r1491 = true then ((nspeculumbase_Gcd k (w64 (a1 * 1296000)) a2).bind fun r1496 => (if r1496 ≠ 0 then ((nspeculumbase_Gcd k (w64 ((w64 (a1 * 1296000)).tdiv r1496)) r1483.1.Den).bind fun r1501 => (if r1501 ≠ 0 then ((nspeculumbase_Gcd k r1483.1.Num (w64 (a2.tdiv r1496))).bind fun r1506 => (if r1506 ≠ 0 then (if (w64 (r1483.1.Num.tdiv r1506)) ≠ 0 then (if (w64 ((1000000000 : Int).tdiv (w64 (r1483.1.Num.tdiv r1506)))) < (w64 ((w64 ((w64 (a1 * 1296000)).tdiv r1496)).tdiv r1501)) then (some ((⟨0, 0⟩ : SFrac), 8)) else (if (w64 ((w64 (a2.tdiv r1496)).tdiv r1506)) ≠ 0 then (if (w64 ((1000000000 : Int).tdiv (w64 ((w64 (a2.tdiv r1496)).tdiv r1506)))) < (w64 (r1483.1.Den.tdiv r1501)) then (some ((⟨0, 0⟩ : SFrac), 8)) else (some ((⟨w64 ((w64 ((w64 ((w64 (a1 * 1296000)).tdiv r1496)).tdiv r1501)) * (w64 (r1483.1.Num.tdiv r1506))), w64 ((w64 (r1483.1.Den.tdiv r1501)) * (w64 ((w64 (a2.tdiv r1496)).tdiv r1506)))⟩ : SFrac), 0))) else none)) else none) else none)) else none)) else none)) else (some ((⟨0, 0⟩ : SFrac), 2)))) else (some ((⟨0, 0⟩ : SFrac), 2)))) else (some ((⟨0, 0⟩ : SFrac), r1483.2)))
theorem nspeculumref07_Rate_ok (k : Nat) (a0 : (List SGearPair)) (a1 : Int) (a2 : Int) (r : (SFrac × Int)) (h : nspeculumref07_Rate k a0 a1 a2 = some r) : VC Go.Proofs.Try.prog 10 [VV.tr (List.flatMap c_SGearPair a0) a0.length, vi a1, vi a2] (VV.tu [VV.ag (c_SFrac r.1), vi r.2]) := by
 unfold nspeculumref07_Rate at h
 obtain ⟨r1483, h1484, h⟩ := bs h
 have e1485 := (ti (an (nspeculumref07_Ratio_ok k a0 _ h1484) (ti (ti (ti (ti (ti (ti trivial))))))))
 rcases ifs h with ⟨h1486, h⟩ | ⟨h1486, h⟩
 ·obtain ⟨r1487, h1488, h⟩ := bs h
  have e1489 := (nspeculumbase_Within_ok k a1 1 1000000 _ h1488)
  rcases ifs h with ⟨h1490, h⟩ | ⟨h1490, h⟩
  ·obtain ⟨r1491, h1492, h⟩ := bs h
   have e1493 := (an (not_f h1490) (nspeculumbase_Within_ok k a2 1 1000000 _ h1492))
   have e1494 := (ti (an e1489 (ti (ti (an (an (not_f h1490) trivial) (an e1493 (an (an (not_f h1490) trivial) (an (not_f h1490) trivial))))))))
   rcases ifs h with ⟨h1495, h⟩ | ⟨h1495, h⟩
   ·obtain ⟨r1496, h1497, h⟩ := bs h
    have e1498 := (nspeculumbase_Gcd_ok k (w64 (a1 * 1296000)) a2 _ h1497)
    obtain ⟨h1499, h⟩ := ifn h
    have e1500 := (ti (ti (an h1499 (ti (ti (an h1499 (ti (ti trivial))))))))
    obtain ⟨r1501, h1502, h⟩ := bs h
    have e1503 := (nspeculumbase_Gcd_ok k (w64 ((w64 (a1 * 1296000)).tdiv r1496)) r1483.1.Den _ h1502)
    obtain ⟨h1504, h⟩ := ifn h
    have e1505 := (ti (ti (an h1504 (ti (ti (ti (an h1504 (ti (ti (ti trivial))))))))))
    obtain ⟨r1506, h1507, h⟩ := bs h
    have e1508 := (nspeculumbase_Gcd_ok k r1483.1.Num (w64 (a2.tdiv r1496)) _ h1507)
    obtain ⟨h1509, h⟩ := ifn h
    have e1510 := (ti (ti (ti (an h1509 (ti (ti (an h1509 (ti (ti (ti trivial))))))))))
    obtain ⟨h1511, h⟩ := ifn h
    rcases ifs h with ⟨h1512, h⟩ | ⟨h1512, h⟩
    ·have e1513 := (ti (ti (ti (an h1511 (ti (ti (an (decide_eq_true h1512) (an (decide_eq_true h1512) (an (decide_eq_true h1512) (an (decide_eq_true h1512) (an (decide_eq_true h1512) (an (decide_eq_true h1512) trivial))))))))))))
     injection h with h; subst h
     exact fun_ok pm pn Go.Proofs.Try.func10 (r0 := VV.tu [VV.ag [vi 0, vi 0], vi 8]) (ans := [.reg (.n :: .n :: []), .reg (.n :: .call (VV.tu [VV.ag (c_SFrac r1483.1), vi r1483.2]) :: nN 6 []), .reg (.n :: .n :: []), .br false, .reg (.n :: .call (vb r1487) :: nN 3 (.call (vb r1491) :: .n :: .b false :: [])), .br false, .reg (nN 5 []), .reg (.n :: .n :: .call (vi r1496) :: .n :: []), .reg (nN 8 []), .reg (nN 3 (.call (vi r1501) :: .n :: [])), .reg (nN 10 []), .reg (nN 3 (.call (vi r1506) :: .n :: [])), .reg (nN 10 []), .reg (nN 6 (nS 5 (.b true :: []))), .br true, .reg (nN 3 [])]) (fr := true) (by kernel_rfl) (an (an (ti (ti trivial)) (an e1485 (an (an (ti (ti trivial)) (an (not_f (decide_eq_true h1486)) trivial)) (an (an e1494 (an (not_f h1495) trivial)) (an (ti (ti (ti (ti (ti trivial))))) (an (ti (ti (an e1498 (ti trivial)))) (an e1500 (an (ti (ti (ti (an e1503 (ti trivial))))) (an e1505 (an (ti (ti (ti (an e1508 (ti trivial))))) (an e1510 (an e1513 (an rt (an (ti (ti (ti trivial))) trivial)))))))))))))) (an (ti (ti (ti trivial))) (ti trivial))) (Wv.of_eq eqD2_4)
    ·obtain ⟨h1514, h⟩ := ifn h
     have e1515 := (ti (ti (ti (an h1511 (ti (ti (an (an (decide_eq_false h1512) trivial) (an (an (decide_eq_false h1512) trivial) (an (an (decide_eq_false h1512) trivial) (an (an (decide_eq_false h1512) h1514) (an (an (decide_eq_false h1512) trivial) (an (decide_eq_false h1512) trivial))))))))))))
     rcases ifs h with ⟨h1516, h⟩ | ⟨h1516, h⟩
     ·injection h with h; subst h
      exact fun_ok pm pn Go.Proofs.Try.func10 (r0 := VV.tu [VV.ag [vi 0, vi 0], vi 8]) (ans := [.reg (.n :: .n :: []), .reg (.n :: .call (VV.tu [VV.ag (c_SFrac r1483.1), vi r1483.2]) :: nN 6 []), .reg (.n :: .n :: []), .br false, .reg (.n :: .call (vb r1487) :: nN 3 (.call (vb r1491) :: .n :: .b false :: [])), .br false, .reg (nN 5 []), .reg (.n :: .n :: .call (vi r1496) :: .n :: []), .reg (nN 8 []), .reg (nN 3 (.call (vi r1501) :: .n :: [])), .reg (nN 10 []), .reg (nN 3 (.call (vi r1506) :: .n :: [])), .reg (nN 10 []), .reg (nN 11 (.b false :: [])), .br true, .reg (nN 3 [])]) (fr := true) (by kernel_rfl) (an (an (ti (ti trivial)) (an e1485 (an (an (ti (ti trivial)) (an (not_f (decide_eq_true h1486)) trivial)) (an (an e1494 (an (not_f h1495) trivial)) (an (ti (ti (ti (ti (ti trivial))))) (an (ti (ti (an e1498 (ti trivial)))) (an e1500 (an (ti (ti (ti (an e1503 (ti trivial))))) (an e1505 (an (ti (ti (ti (an e1508 (ti trivial))))) (an e1510 (an e1515 (an (decide_eq_true h1516) (an (ti (ti (ti trivial))) trivial)))))))))))))) (an (ti (ti (ti trivial))) (ti trivial))) (Wv.of_eq eqD2_4)
     ·have e1517 := (ti (ti (ti (ti (ti (ti (ti (ti (ti (ti (ti trivial)))))))))))
      injection h with h; subst h
      exact fun_ok pm pn Go.Proofs.Try.func10 (r0 := VV.tu [VV.ag [vi (w64 ((w64 ((w64 ((w64 (a1 * 1296000)).tdiv r1496)).tdiv r1501)) * (w64 (r1483.1.Num.tdiv r1506)))), vi (w64 ((w64 (r1483.1.Den.tdiv r1501)) * (w64 ((w64 (a2.tdiv r1496)).tdiv r1506))))], vi 0]) (ans := [.reg (.n :: .n :: []), .reg (.n :: .call (VV.tu [VV.ag (c_SFrac r1483.1), vi r1483.2]) :: nN 6 []), .reg (.n :: .n :: []), .br false, .reg (.n :: .call (vb r1487) :: nN 3 (.call (vb r1491) :: .n :: .b false :: [])), .br false, .reg (nN 5 []), .reg (.n :: .n :: .call (vi r1496) :: .n :: []), .reg (nN 8 []), .reg (nN 3 (.call (vi r1501) :: .n :: [])), .reg (nN 10 []), .reg (nN 3 (.call (vi r1506) :: .n :: [])), .reg (nN 10 []), .reg (nN 11 (.b false :: [])), .br false, .reg (nN 11 [])]) (fr := true) (by kernel_rfl) (an (an (ti (ti trivial)) (an e1485 (an (an (ti (ti trivial)) (an (not_f (decide_eq_true h1486)) trivial)) (an (an e1494 (an (not_f h1495) trivial)) (an (ti (ti (ti (ti (ti trivial))))) (an (ti (ti (an e1498 (ti trivial)))) (an e1500 (an (ti (ti (ti (an e1503 (ti trivial))))) (an e1505 (an (ti (ti (ti (an e1508 (ti trivial))))) (an e1510 (an (an e1515 (an (decide_eq_false h1516) trivial)) (an e1517 trivial))))))))))))) (an (ti (ti (ti trivial))) (ti trivial))) (Wv.of_eq (eqD2_14 a1 r1496 r1501 r1483 r1506 a2))
   ·injection h with h; subst h
    exact fun_ok pm pn Go.Proofs.Try.func10 (r0 := VV.tu [VV.ag [vi 0, vi 0], vi 2]) (ans := [.reg (.n :: .n :: []), .reg (.n :: .call (VV.tu [VV.ag (c_SFrac r1483.1), vi r1483.2]) :: nN 6 []), .reg (.n :: .n :: []), .br false, .reg (.n :: .call (vb r1487) :: nN 3 (.call (vb r1491) :: .n :: .b false :: [])), .br true, .reg (nN 3 [])]) (fr := true) (by kernel_rfl) (an (an (ti (ti trivial)) (an e1485 (an (an (ti (ti trivial)) (an (not_f (decide_eq_true h1486)) trivial)) (an e1494 (an (not_t (bool_f h1495)) (an (ti (ti (ti trivial))) trivial)))))) (an (ti (ti (ti trivial))) (ti trivial))) (Wv.of_eq eqD2_5)
  ·have e1518 := (ti (an e1489 (ti (ti (an (not_t (bool_f h1490)) (an (not_t (bool_f h1490)) (an (not_t (bool_f h1490)) (an (not_t (bool_f h1490)) trivial))))))))
   injection h with h; subst h
   exact fun_ok pm pn Go.Proofs.Try.func10 (r0 := VV.tu [VV.ag [vi 0, vi 0], vi 2]) (ans := [.reg (.n :: .n :: []), .reg (.n :: .call (VV.tu [VV.ag (c_SFrac r1483.1), vi r1483.2]) :: nN 6 []), .reg (.n :: .n :: []), .br false, .reg (.n :: .call (vb r1487) :: .n :: .n :: nS 3 (.b true :: [])), .br true, .reg (nN 3 [])]) (fr := true) (by kernel_rfl) (an (an (ti (ti trivial)) (an e1485 (an (an (ti (ti trivial)) (an (not_f (decide_eq_true h1486)) trivial)) (an e1518 (an rt (an (ti (ti (ti trivial))) trivial)))))) (an (ti (ti (ti trivial))) (ti trivial))) (Wv.of_eq eqD2_5)
 ·injection h with h; subst h
  exact fun_ok pm pn Go.Proofs.Try.func10 (r0 := VV.tu [VV.ag [vi 0, vi 0], vi r1483.2]) (ans := [.reg (.n :: .n :: []), .reg (.n :: .call (VV.tu [VV.ag (c_SFrac r1483.1), vi r1483.2]) :: nN 6 []), .reg (.n :: .n :: []), .br true, .reg (nN 4 [])]) (fr := true) (by kernel_rfl) (an (an (ti (ti trivial)) (an e1485 (an (ti (ti trivial)) (an (not_t (decide_eq_false h1486)) (an (ti (ti (ti (ti trivial)))) trivial))))) (an (ti (ti (ti trivial))) (ti trivial))) (Wv.of_eq (eqD2_6 r1483))
theorem eqD2_15 (z0 : (SFrac × Int)) : [VV.ag (c_SFrac z0.1), VV.ag (c_SFrac (⟨324000000, 21541⟩ : SFrac))] = [VV.ag (c_SFrac z0.1), VV.ag [vi 324000000, vi 21541]] := by first | rfl | (simp only [unfr_vi, List.map_cons, List.map_nil, un_i, unfr_c_SFrac]; done) | (simp only [unfr_vi, List.map_cons, List.map_nil, un_i, unfr_c_SFrac]; rfl) | (simp only [unfr_vi, List.map_cons, List.map_nil, un_i, unfr_c_SFrac, c_SFrac, List.length_cons, List.length_nil, List.length_append]; done)
def nspeculumbase_Floor (k : Nat) (a0 : Int) (a1 : Int) : Option Int :=
  if a1 ≠ 0 then (if (a0.tmod a1) < 0 then (some (w64 ((w64 (a0.tdiv a1)) - 1))) else (some (w64 (a0.tdiv a1)))) else none
theorem nspeculumbase_Floor_ok (k : Nat) (a0 : Int) (a1 : Int) (r : Int) (h : nspeculumbase_Floor k a0 a1 = some r) : VC Go.Proofs.Try.prog 28 [vi a0, vi a1] (vi r) := by
 unfold nspeculumbase_Floor at h
 obtain ⟨h1541, h⟩ := ifn h
 rcases ifs h with ⟨h1542, h⟩ | ⟨h1542, h⟩
 ·injection h with h; subst h
  exact fun_ok pm pn Go.Proofs.Try.func28 (r0 := vi (w64 ((w64 (a0.tdiv a1)) - 1))) (ans := [.reg (.n :: []), .reg (nN 4 []), .reg (nN 4 []), .br true, .reg (nN 3 []), .reg (.n :: .n :: [])]) (fr := true) (by kernel_rfl) (an (an (ti trivial) (an (ti (ti (an h1541 (ti trivial)))) (an (an (ti (ti (an h1541 (ti trivial)))) (an (decide_eq_true h1542) (ti (ti (ti trivial))))) (an (ti (ti trivial)) trivial)))) (ti trivial)) (Wv.refl _)
 ·injection h with h; subst h
  exact fun_ok pm pn Go.Proofs.Try.func28 (r0 := vi (w64 (a0.tdiv a1))) (ans := [.reg (.n :: []), .reg (nN 4 []), .reg (nN 4 []), .br false, .reg (.n :: .n :: [])]) (fr := true) (by kernel_rfl) (an (an (ti trivial) (an (ti (ti (an h1541 (ti trivial)))) (an (an (ti (ti (an h1541 (ti trivial)))) (an (decide_eq_false h1542) trivial)) (an (ti (ti trivial)) trivial)))) (ti trivial)) (Wv.refl _)
def nspeculumbase_Ceil (k : Nat) (a0 : Int) (a1 : Int) : Option Int :=
  (nspeculumbase_Floor k (w64 (0 - a0)) a1).bind fun r1549 => (some (w64 (0 - r1549)))
theorem nspeculumbase_Ceil_ok (k : Nat) (a0 : Int) (a1 : Int) (r : Int) (h : nspeculumbase_Ceil k a0 a1 = some r) : VC Go.Proofs.Try.prog 29 [vi a0, vi a1] (vi r) := by
 unfold nspeculumbase_Ceil at h
 obtain ⟨r1549, h1550, h⟩ := bs h
 have e1551 := (nspeculumbase_Floor_ok k (w64 (0 - a0)) a1 _ h1550)
 injection h with h; subst h
 exact fun_ok pm pn Go.Proofs.Try.func29 (r0 := vi (w64 (0 - r1549))) (ans := [.reg (.n :: []), .reg (nN 3 (.call (vi r1549) :: .n :: .n :: []))]) (fr := true) (by kernel_rfl) (an (an (ti trivial) (an (ti (ti (ti (an e1551 (ti (ti trivial)))))) trivial)) (ti trivial)) (Wv.refl _)
theorem eqD2_16 (z0 : Int) (z1 : Int) : VV.tu [VV.ag [vi z0, vi z1], vi 0] = VV.tu [VV.ag (c_SRange (⟨z0, z1⟩ : SRange)), vi 0] := by first | rfl | (simp only [unfr_vi, List.map_cons, List.map_nil, un_i, unfr_c_SRange]; done) | (simp only [unfr_vi, List.map_cons, List.map_nil, un_i, unfr_c_SRange]; rfl) | (simp only [unfr_vi, List.map_cons, List.map_nil, un_i, unfr_c_SRange, c_SRange, List.length_cons, List.length_nil, List.length_append]; done)
theorem eqD2_17  : VV.tu [VV.ag [vi 0, vi 0], vi 8] = VV.tu [VV.ag (c_SRange (⟨0, 0⟩ : SRange)), vi 8] := by first | rfl | (simp only [unfr_vi, List.map_cons, List.map_nil, un_i, unfr_c_SRange]; done) | (simp only [unfr_vi, List.map_cons, List.map_nil, un_i, unfr_c_SRange]; rfl) | (simp only [unfr_vi, List.map_cons, List.map_nil, un_i, unfr_c_SRange, c_SRange, List.length_cons, List.length_nil, List.length_append]; done)
def nspeculumref07_Drift (k : Nat) (a0 : (List SGearPair)) (a1 : A23) (a2 : Int) : Option (SRange × Int) :=
  (nspeculumref07_Rate k a0 a1.e0 a1.e1).bind fun r1558 => (if r1558.2 = 0 then ((nspeculumbase_Within k a2 0 1000000).bind fun r1563 => (if r1563 = true then ((nspeculumref01_Sub k r1558.1 (⟨324000000, 21541⟩ : SFrac)).bind fun r1567 => (if r1567.2 = 0 then ((nspeculumbase_Floor k (w64 (r1567.1.Num * a2)) (w64 (r1567.1.Den * 1000))).bind fun r1572 => ((nspeculumbase_Ceil k (w64 (r1567.1.Num * a2)) (w64 (r1567.1.Den * 1000))).bind fun r1575 => (some ((⟨r1572, r1575⟩ : SRange), 0)))) else (some ((⟨0, 0⟩ : SRange), 8)))) else (some ((⟨0, 0⟩ : SRange), 2)))) else (some ((⟨0, 0⟩ : SRange), r1558.2)))
theorem nspeculumref07_Drift_ok (k : Nat) (a0 : (List SGearPair)) (a1 : A23) (a2 : Int) (r : (SRange × Int)) (h : nspeculumref07_Drift k a0 a1 a2 = some r) : VC Go.Proofs.Try.prog 11 [VV.tr (List.flatMap c_SGearPair a0) a0.length, VV.ag (c_A23 a1), vi a2] (VV.tu [VV.ag (c_SRange r.1), vi r.2]) := by
 unfold nspeculumref07_Drift at h
 have e1556 := (show (0:Int) ≤ 0 ∧ (0:Int) < ((2 : Nat) : Int) from ⟨by decide, by decide⟩)
 have e1557 := (show (0:Int) ≤ 1 ∧ (1:Int) < ((2 : Nat) : Int) from ⟨by decide, by decide⟩)
 obtain ⟨r1558, h1559, h⟩ := bs h
 have e1560 := (nspeculumref07_Rate_ok k a0 a1.e0 a1.e1 _ h1559)
 have e1561 := (ti (an e1556 (ti (an e1557 (ti (an e1560 (ti (ti (ti (ti (ti (ti trivial))))))))))))
 rcases ifs h with ⟨h1562, h⟩ | ⟨h1562, h⟩
 ·obtain ⟨r1563, h1564, h⟩ := bs h
  have e1565 := (nspeculumbase_Within_ok k a2 0 1000000 _ h1564)
  rcases ifs h with ⟨h1566, h⟩ | ⟨h1566, h⟩
  ·obtain ⟨r1567, h1568, h⟩ := bs h
   have e1569 := (VC.args (nspeculumref01_Sub_ok k r1558.1 (⟨324000000, 21541⟩ : SFrac) _ h1568) (eqD2_15 r1558))
   have e1570 := (ti (ti (an e1569 (ti (ti (ti (ti (ti (ti trivial)))))))))
   rcases ifs h with ⟨h1571, h⟩ | ⟨h1571, h⟩
   ·obtain ⟨r1572, h1573, h⟩ := bs h
    have e1574 := (nspeculumbase_Floor_ok k (w64 (r1567.1.Num * a2)) (w64 (r1567.1.Den * 1000)) _ h1573)
    obtain ⟨r1575, h1576, h⟩ := bs h
    have e1577 := (nspeculumbase_Ceil_ok k (w64 (r1567.1.Num * a2)) (w64 (r1567.1.Den * 1000)) _ h1576)
    have e1578 := (ti (ti (ti (ti (ti (ti (ti (an e1574 (ti (ti (ti (ti (ti (ti (ti (an e1577 (ti (ti (ti trivial)))))))))))))))))))
    injection h with h; subst h
    exact fun_ok pm pn Go.Proofs.Try.func11 (r0 := VV.tu [VV.ag [vi r1572, vi r1575], vi 0]) (ans := [.reg (nN 3 []), .reg (nN 5 (.call (VV.tu [VV.ag (c_SFrac r1558.1), vi r1558.2]) :: nN 6 [])), .reg (.n :: .n :: []), .br false, .reg (.n :: .call (vb r1563) :: .n :: []), .br false, .reg (.n :: .n :: .call (VV.tu [VV.ag (c_SFrac r1567.1), vi r1567.2]) :: nN 6 []), .reg (.n :: .n :: []), .br false, .reg (nN 7 (.call (vi r1572) :: nN 7 (.call (vi r1575) :: nN 3 [])))]) (fr := true) (by kernel_rfl) (an (an (ti (ti (ti trivial))) (an e1561 (an (an (ti (ti trivial)) (an (not_f (decide_eq_true h1562)) trivial)) (an (an (ti (an e1565 (ti trivial))) (an (not_f h1566) trivial)) (an e1570 (an (an (ti (ti trivial)) (an (not_f (decide_eq_true h1571)) trivial)) (an e1578 trivial))))))) (an (ti (ti (ti trivial))) (ti trivial))) (Wv.of_eq (eqD2_16 r1572 r1575))
   ·injection h with h; subst h
    exact fun_ok pm pn Go.Proofs.Try.func11 (r0 := VV.tu [VV.ag [vi 0, vi 0], vi 8]) (ans := [.reg (nN 3 []), .reg (nN 5 (.call (VV.tu [VV.ag (c_SFrac r1558.1), vi r1558.2]) :: nN 6 [])), .reg (.n :: .n :: []), .br false, .reg (.n :: .call (vb r1563) :: .n :: []), .br false, .reg (.n :: .n :: .call (VV.tu [VV.ag (c_SFrac r1567.1), vi r1567.2]) :: nN 6 []), .reg (.n :: .n :: []), .br true, .reg (nN 3 [])]) (fr := true) (by kernel_rfl) (an (an (ti (ti (ti trivial))) (an e1561 (an (an (ti (ti trivial)) (an (not_f (decide_eq_true h1562)) trivial)) (an (an (ti (an e1565 (ti trivial))) (an (not_f h1566) trivial)) (an e1570 (an (ti (ti trivial)) (an (not_t (decide_eq_false h1571)) (an (ti (ti (ti trivial))) trivial)))))))) (an (ti (ti (ti trivial))) (ti trivial))) (Wv.of_eq eqD2_17)
  ·injection h with h; subst h
   exact fun_ok pm pn Go.Proofs.Try.func11 (r0 := VV.tu [VV.ag [vi 0, vi 0], vi 2]) (ans := [.reg (nN 3 []), .reg (nN 5 (.call (VV.tu [VV.ag (c_SFrac r1558.1), vi r1558.2]) :: nN 6 [])), .reg (.n :: .n :: []), .br false, .reg (.n :: .call (vb r1563) :: .n :: []), .br true, .reg (nN 3 [])]) (fr := true) (by kernel_rfl) (an (an (ti (ti (ti trivial))) (an e1561 (an (an (ti (ti trivial)) (an (not_f (decide_eq_true h1562)) trivial)) (an (ti (an e1565 (ti trivial))) (an (not_t (bool_f h1566)) (an (ti (ti (ti trivial))) trivial)))))) (an (ti (ti (ti trivial))) (ti trivial))) (Wv.of_eq eqD2_13)
 ·injection h with h; subst h
  exact fun_ok pm pn Go.Proofs.Try.func11 (r0 := VV.tu [VV.ag [vi 0, vi 0], vi r1558.2]) (ans := [.reg (nN 3 []), .reg (nN 5 (.call (VV.tu [VV.ag (c_SFrac r1558.1), vi r1558.2]) :: nN 6 [])), .reg (.n :: .n :: []), .br true, .reg (nN 4 [])]) (fr := true) (by kernel_rfl) (an (an (ti (ti (ti trivial))) (an e1561 (an (ti (ti trivial)) (an (not_t (decide_eq_false h1562)) (an (ti (ti (ti (ti trivial)))) trivial))))) (an (ti (ti (ti trivial))) (ti trivial))) (Wv.of_eq (eqD2_12 r1558))
def arD2_3 (z0 : (List SGearPair)) (z1 : (SFrac × Int)) : List Ans := (.n :: .call (VV.fr (List.flatMap c_SGearPair z0) z0.length) :: nN 4 (.call (VV.tu [VV.ag (c_SFrac z1.1), vi z1.2]) :: nN 6 []))
def arD2_4 (z0 : (List SGearPair)) (z1 : (SRange × Int)) : List Ans := (.n :: .call (VV.fr (List.flatMap c_SGearPair z0) z0.length) :: .n :: .n :: .call (VV.tu [VV.ag (c_SRange z1.1), vi z1.2]) :: nN 6 [])
def nspeculumlaw07_SupportDrives (k : Nat) (a0 : (List SGearPair)) (a1 : A23) (a2 : Int) : Option Bool :=
  (nawake k).bind fun r1601 => (if r1601 = true then ((nspeculumlaw07_short k a0).bind fun r1604 => (if r1604 = true then ((nspeculumlaw07_train k a0).bind fun r1608 => ((nsupport_Rate k r1608 a1.e0 a1.e1).bind fun r1613 => ((nsupport_Drift k r1608 a1 a2).bind fun r1619 => ((nspeculumref07_CheckTrain k a0).bind fun r1623 => (if r1623 = 0 then ((nspeculumref07_Rate k a0 a1.e0 a1.e1).bind fun r1629 => ((nspeculumref07_Drift k a0 a1 a2).bind fun r1633 => (if r1613.2 = r1629.2 then (if ((r1613.1.Num : Int) == r1629.1.Num && ((r1613.1.Den : Int) == r1629.1.Den && true)) = true then (if r1619.2 = r1633.2 then (some ((r1619.1.Lo : Int) == r1633.1.Lo && ((r1619.1.Hi : Int) == r1633.1.Hi && true))) else (some false)) else (some false)) else (some false)))) else (if r1613.2 = r1623 then (if r1619.2 = r1623 then (if ((r1613.1.Num : Int) == 0 && ((r1613.1.Den : Int) == 0 && true)) = true then (some ((r1619.1.Lo : Int) == 0 && ((r1619.1.Hi : Int) == 0 && true))) else (some false)) else (some false)) else (some false))))))) else (some true))) else (some false))
theorem nspeculumlaw07_SupportDrives_ok (k : Nat) (a0 : (List SGearPair)) (a1 : A23) (a2 : Int) (r : Bool) (h : nspeculumlaw07_SupportDrives k a0 a1 a2 = some r) : VC Go.Proofs.Try.prog 3 [VV.tr (List.flatMap c_SGearPair a0) a0.length, VV.ag (c_A23 a1), vi a2] (vb r) := by
 unfold nspeculumlaw07_SupportDrives at h
 obtain ⟨r1601, h1602, h⟩ := bs h
 rcases ifs h with ⟨h1603, h⟩ | ⟨h1603, h⟩
 ·obtain ⟨r1604, h1605, h⟩ := bs h
  have e1606 := (ti (an (nspeculumlaw07_short_ok k a0 _ h1605) (ti trivial)))
  rcases ifs h with ⟨h1607, h⟩ | ⟨h1607, h⟩
  ·obtain ⟨r1608, h1609, h⟩ := bs h
   have e1610 := (show VC Go.Proofs.Try.prog 7 [VV.tr (List.flatMap c_SGearPair a0) a0.length] (VV.fr (List.flatMap c_SGearPair r1608) r1608.length) from (VC.weak (nspeculumlaw07_train_ok k a0 _ h1609) (Wv.fw rfl rfl)))
   have e1611 := (show (0:Int) ≤ 0 ∧ (0:Int) < ((2 : Nat) : Int) from ⟨by decide, by decide⟩)
   have e1612 := (show (0:Int) ≤ 1 ∧ (1:Int) < ((2 : Nat) : Int) from ⟨by decide, by decide⟩)
   obtain ⟨r1613, h1614, h⟩ := bs h
   have e1615 := (nsupport_Rate_ok k r1608 a1.e0 a1.e1 _ h1614)
   have e1616 := (ti (an e1610 (an e1611 (ti (an e1612 (ti (an e1615 (ti (ti (ti (ti (ti (ti trivial)))))))))))))
   have e1618 := (show VC Go.Proofs.Try.prog 7 [VV.tr (List.flatMap c_SGearPair a0) a0.length] (VV.fr (List.flatMap c_SGearPair r1608) r1608.length) from (VC.weak (nspeculumlaw07_train_ok k a0 _ h1609) (Wv.fw rfl rfl)))
   obtain ⟨r1619, h1620, h⟩ := bs h
   have e1621 := (nsupport_Drift_ok k r1608 a1 a2 _ h1620)
   have e1622 := (ti (an e1618 (ti (ti (an e1621 (ti (ti (ti (ti (ti (ti trivial)))))))))))
   obtain ⟨r1623, h1624, h⟩ := bs h
   have e1625 := (nspeculumref07_CheckTrain_ok k a0 _ h1624)
   rcases ifs h with ⟨h1626, h⟩ | ⟨h1626, h⟩
   ·have e1627 := (show (0:Int) ≤ 0 ∧ (0:Int) < ((2 : Nat) : Int) from ⟨by decide, by decide⟩)
    have e1628 := (show (0:Int) ≤ 1 ∧ (1:Int) < ((2 : Nat) : Int) from ⟨by decide, by decide⟩)
    obtain ⟨r1629, h1630, h⟩ := bs h
    have e1631 := (nspeculumref07_Rate_ok k a0 a1.e0 a1.e1 _ h1630)
    have e1632 := (ti (an e1627 (ti (an e1628 (ti (an e1631 (ti (ti (ti (ti (ti (ti trivial))))))))))))
    obtain ⟨r1633, h1634, h⟩ := bs h
    have e1635 := (nspeculumref07_Drift_ok k a0 a1 a2 _ h1634)
    have e1636 := (ti (ti (ti (an e1635 (ti (ti (ti (ti (ti (ti trivial))))))))))
    rcases ifs h with ⟨h1637, h⟩ | ⟨h1637, h⟩
    ·have e1638 := (an (decide_eq_true h1637) (show List.map kdV [Value.int .i64 r1613.1.Num, Value.int .i64 r1613.1.Den] = List.map kdV [Value.int .i64 r1629.1.Num, Value.int .i64 r1629.1.Den] ∧ EqOK Go.Proofs.Try.prog 27 (List.map kdV [Value.int .i64 r1629.1.Num, Value.int .i64 r1629.1.Den]) from ⟨rfl, eqok27⟩))
     rcases ifs h with ⟨h1639, h⟩ | ⟨h1639, h⟩
     ·rcases ifs h with ⟨h1640, h⟩ | ⟨h1640, h⟩
      ·have e1641 := (an (decide_eq_true h1640) (show List.map kdV [Value.int .i64 r1619.1.Lo, Value.int .i64 r1619.1.Hi] = List.map kdV [Value.int .i64 r1633.1.Lo, Value.int .i64 r1633.1.Hi] ∧ EqOK Go.Proofs.Try.prog 33 (List.map kdV [Value.int .i64 r1633.1.Lo, Value.int .i64 r1633.1.Hi]) from ⟨rfl, eqok33⟩))
       have e1642 := (ti (ti (ti (ti (an (an (decide_eq_true h1637) trivial) (an (an (decide_eq_true h1637) trivial) (an e1638 (an (decide_eq_true h1637) (ti (an (an h1639 trivial) (an (an h1639 trivial) (an (an h1639 trivial) (an h1639 (ti (an (an (decide_eq_true h1640) trivial) (an (an (decide_eq_true h1640) trivial) (an e1641 (an (decide_eq_true h1640) (ti trivial)))))))))))))))))))
       injection h with h; subst h
       exact fun_ok pm pn Go.Proofs.Try.func3 (r0 := vb ((r1619.1.Lo : Int) == r1633.1.Lo && ((r1619.1.Hi : Int) == r1633.1.Hi && true))) (ans := [.reg (.n :: .n :: []), .reg (.call (vb r1601) :: .n :: []), .br false, .reg (.n :: .call (vb r1604) :: .n :: []), .br false, .reg (arD2_3 r1608 r1613), .reg (arD2_4 r1608 r1619), .reg (.n :: .call (vi r1623) :: .n :: []), .reg (.n :: .n :: []), .br false, .reg (nN 5 (.call (VV.tu [VV.ag (c_SFrac r1629.1), vi r1629.2]) :: nN 6 [])), .reg (nN 3 (.call (VV.tu [VV.ag (c_SRange r1633.1), vi r1633.2]) :: nN 6 [])), .reg (nN 7 (.b true :: nN 4 (.b true :: nN 4 (.b true :: .n :: []))))]) (fr := true) (by kernel_rfl) (an (an (ti (ti trivial)) (an (an (an (nawake_ok k _ h1602) (ti trivial)) (an (not_f h1603) trivial)) (an (an e1606 (an (not_f h1607) trivial)) (an e1616 (an e1622 (an (an (ti (an e1625 (ti trivial))) (an (ti (ti trivial)) (an (not_f (decide_eq_true h1626)) trivial))) (an e1632 (an e1636 (an e1642 trivial))))))))) (ti trivial)) (Wv.refl _)
      ·have e1643 := (ti (ti (ti (ti (an (an (decide_eq_true h1637) trivial) (an (an (decide_eq_true h1637) trivial) (an e1638 (an (decide_eq_true h1637) (ti (an (an h1639 trivial) (an (an h1639 trivial) (an (an h1639 trivial) (an h1639 (ti (an (decide_eq_false h1640) (an (decide_eq_false h1640) (an (decide_eq_false h1640) (an (decide_eq_false h1640) (ti trivial)))))))))))))))))))
       injection h with h; subst h
       exact fun_ok pm pn Go.Proofs.Try.func3 (r0 := vb false) (ans := [.reg (.n :: .n :: []), .reg (.call (vb r1601) :: .n :: []), .br false, .reg (.n :: .call (vb r1604) :: .n :: []), .br false, .reg (arD2_3 r1608 r1613), .reg (arD2_4 r1608 r1619), .reg (.n :: .call (vi r1623) :: .n :: []), .reg (.n :: .n :: []), .br false, .reg (nN 5 (.call (VV.tu [VV.ag (c_SFrac r1629.1), vi r1629.2]) :: nN 6 [])), .reg (nN 3 (.call (VV.tu [VV.ag (c_SRange r1633.1), vi r1633.2]) :: nN 6 [])), .reg (nN 7 (.b true :: nN 4 (.b true :: .n :: nS 3 (.b false :: .n :: []))))]) (fr := true) (by kernel_rfl) (an (an (ti (ti trivial)) (an (an (an (nawake_ok k _ h1602) (ti trivial)) (an (not_f h1603) trivial)) (an (an e1606 (an (not_f h1607) trivial)) (an e1616 (an e1622 (an (an (ti (an e1625 (ti trivial))) (an (ti (ti trivial)) (an (not_f (decide_eq_true h1626)) trivial))) (an e1632 (an e1636 (an e1643 trivial))))))))) (ti trivial)) (Wv.refl _)
     ·have e1644 := (ti (ti (ti (ti (an (an (decide_eq_true h1637) trivial) (an (an (decide_eq_true h1637) trivial) (an e1638 (an (decide_eq_true h1637) (ti (an (bool_f h1639) (an (bool_f h1639) (an (bool_f h1639) (an (bool_f h1639) (ti (an rf (an rf (an rf (an rf (ti trivial)))))))))))))))))))
      injection h with h; subst h
      exact fun_ok pm pn Go.Proofs.Try.func3 (r0 := vb false) (ans := [.reg (.n :: .n :: []), .reg (.call (vb r1601) :: .n :: []), .br false, .reg (.n :: .call (vb r1604) :: .n :: []), .br false, .reg (arD2_3 r1608 r1613), .reg (arD2_4 r1608 r1619), .reg (.n :: .call (vi r1623) :: .n :: []), .reg (.n :: .n :: []), .br false, .reg (nN 5 (.call (VV.tu [VV.ag (c_SFrac r1629.1), vi r1629.2]) :: nN 6 [])), .reg (nN 3 (.call (VV.tu [VV.ag (c_SRange r1633.1), vi r1633.2]) :: nN 6 [])), .reg (nN 7 (.b true :: .n :: nS 3 (.b false :: .n :: nS 3 (.b false :: .n :: []))))]) (fr := true) (by kernel_rfl) (an (an (ti (ti trivial)) (an (an (an (nawake_ok k _ h1602) (ti trivial)) (an (not_f h1603) trivial)) (an (an e1606 (an (not_f h1607) trivial)) (an e1616 (an e1622 (an (an (ti (an e1625 (ti trivial))) (an (ti (ti trivial)) (an (not_f (decide_eq_true h1626)) trivial))) (an e1632 (an e1636 (an e1644 trivial))))))))) (ti trivial)) (Wv.refl _)
    ·have e1645 := (ti (ti (ti (ti (an (decide_eq_false h1637) (an (decide_eq_false h1637) (an (decide_eq_false h1637) (an (decide_eq_false h1637) (ti (an rf (an rf (an rf (an rf (ti (an rf (an rf (an rf (an rf (ti trivial)))))))))))))))))))
     injection h with h; subst h
     exact fun_ok pm pn Go.Proofs.Try.func3 (r0 := vb false) (ans := [.reg (.n :: .n :: []), .reg (.call (vb r1601) :: .n :: []), .br false, .reg (.n :: .call (vb r1604) :: .n :: []), .br false, .reg (arD2_3 r1608 r1613), .reg (arD2_4 r1608 r1619), .reg (.n :: .call (vi r1623) :: .n :: []), .reg (.n :: .n :: []), .br false, .reg (nN 5 (.call (VV.tu [VV.ag (c_SFrac r1629.1), vi r1629.2]) :: nN 6 [])), .reg (nN 3 (.call (VV.tu [VV.ag (c_SRange r1633.1), vi r1633.2]) :: nN 6 [])), .reg (nN 4 (nS 3 (.b false :: .n :: nS 3 (.b false :: .n :: nS 3 (.b false :: .n :: [])))))]) (fr := true) (by kernel_rfl) (an (an (ti (ti trivial)) (an (an (an (nawake_ok k _ h1602) (ti trivial)) (an (not_f h1603) trivial)) (an (an e1606 (an (not_f h1607) trivial)) (an e1616 (an e1622 (an (an (ti (an e1625 (ti trivial))) (an (ti (ti trivial)) (an (not_f (decide_eq_true h1626)) trivial))) (an e1632 (an e1636 (an e1645 trivial))))))))) (ti trivial)) (Wv.refl _)
   ·rcases ifs h with ⟨h1646, h⟩ | ⟨h1646, h⟩
    ·rcases ifs h with ⟨h1647, h⟩ | ⟨h1647, h⟩
     ·have e1648 := (an (decide_eq_true h1647) (show List.map kdV [Value.int .i64 r1613.1.Num, Value.int .i64 r1613.1.Den] = List.map kdV [Value.int .i64 0, Value.int .i64 0] ∧ EqOK Go.Proofs.Try.prog 27 (List.map kdV [Value.int .i64 0, Value.int .i64 0]) from ⟨rfl, eqok27⟩))
      rcases ifs h with ⟨h1649, h⟩ | ⟨h1649, h⟩
      ·have e1650 := (an h1649 (show List.map kdV [Value.int .i64 r1619.1.Lo, Value.int .i64 r1619.1.Hi] = List.map kdV [Value.int .i64 0, Value.int .i64 0] ∧ EqOK Go.Proofs.Try.prog 33 (List.map kdV [Value.int .i64 0, Value.int .i64 0]) from ⟨rfl, eqok33⟩))
       have e1651 := (ti (ti (ti (ti (an (an (decide_eq_true h1646) trivial) (an (an (decide_eq_true h1646) trivial) (an (an (decide_eq_true h1646) trivial) (an (decide_eq_true h1646) (ti (an (an (decide_eq_true h1647) trivial) (an (an (decide_eq_true h1647) trivial) (an e1648 (an (decide_eq_true h1647) (ti (an (an h1649 trivial) (an (an h1649 trivial) (an e1650 (an h1649 (ti trivial)))))))))))))))))))
       injection h with h; subst h
       exact fun_ok pm pn Go.Proofs.Try.func3 (r0 := vb ((r1619.1.Lo : Int) == 0 && ((r1619.1.Hi : Int) == 0 && true))) (ans := [.reg (.n :: .n :: []), .reg (.call (vb r1601) :: .n :: []), .br false, .reg (.n :: .call (vb r1604) :: .n :: []), .br false, .reg (arD2_3 r1608 r1613), .reg (arD2_4 r1608 r1619), .reg (.n :: .call (vi r1623) :: .n :: []), .reg (.n :: .n :: []), .br true, .reg (nN 7 (.b true :: nN 4 (.b true :: nN 4 (.b true :: .n :: []))))]) (fr := true) (by kernel_rfl) (an (an (ti (ti trivial)) (an (an (an (nawake_ok k _ h1602) (ti trivial)) (an (not_f h1603) trivial)) (an (an e1606 (an (not_f h1607) trivial)) (an e1616 (an e1622 (an (ti (an e1625 (ti trivial))) (an (ti (ti trivial)) (an (not_t (decide_eq_false h1626)) (an e1651 trivial))))))))) (ti trivial)) (Wv.refl _)
      ·have e1652 := (ti (ti (ti (ti (an (an (decide_eq_true h1646) trivial) (an (an (decide_eq_true h1646) trivial) (an (an (decide_eq_true h1646) trivial) (an (decide_eq_true h1646) (ti (an (an (decide_eq_true h1647) trivial) (an (an (decide_eq_true h1647) trivial) (an e1648 (an (decide_eq_true h1647) (ti (an (bool_f h1649) (an (bool_f h1649) (an (bool_f h1649) (an (bool_f h1649) (ti trivial)))))))))))))))))))
       injection h with h; subst h
       exact fun_ok pm pn Go.Proofs.Try.func3 (r0 := vb false) (ans := [.reg (.n :: .n :: []), .reg (.call (vb r1601) :: .n :: []), .br false, .reg (.n :: .call (vb r1604) :: .n :: []), .br false, .reg (arD2_3 r1608 r1613), .reg (arD2_4 r1608 r1619), .reg (.n :: .call (vi r1623) :: .n :: []), .reg (.n :: .n :: []), .br true, .reg (nN 7 (.b true :: nN 4 (.b true :: .n :: nS 3 (.b false :: .n :: []))))]) (fr := true) (by kernel_rfl) (an (an (ti (ti trivial)) (an (an (an (nawake_ok k _ h1602) (ti trivial)) (an (not_f h1603) trivial)) (an (an e1606 (an (not_f h1607) trivial)) (an e1616 (an e1622 (an (ti (an e1625 (ti trivial))) (an (ti (ti trivial)) (an (not_t (decide_eq_false h1626)) (an e1652 trivial))))))))) (ti trivial)) (Wv.refl _)
     ·have e1653 := (ti (ti (ti (ti (an (an (decide_eq_true h1646) trivial) (an (an (decide_eq_true h1646) trivial) (an (an (decide_eq_true h1646) trivial) (an (decide_eq_true h1646) (ti (an (decide_eq_false h1647) (an (decide_eq_false h1647) (an (decide_eq_false h1647) (an (decide_eq_false h1647) (ti (an rf (an rf (an rf (an rf (ti trivial)))))))))))))))))))
      injection h with h; subst h
      exact fun_ok pm pn Go.Proofs.Try.func3 (r0 := vb false) (ans := [.reg (.n :: .n :: []), .reg (.call (vb r1601) :: .n :: []), .br false, .reg (.n :: .call (vb r1604) :: .n :: []), .br false, .reg (arD2_3 r1608 r1613), .reg (arD2_4 r1608 r1619), .reg (.n :: .call (vi r1623) :: .n :: []), .reg (.n :: .n :: []), .br true, .reg (nN 7 (.b true :: .n :: nS 3 (.b false :: .n :: nS 3 (.b false :: .n :: []))))]) (fr := true) (by kernel_rfl) (an (an (ti (ti trivial)) (an (an (an (nawake_ok k _ h1602) (ti trivial)) (an (not_f h1603) trivial)) (an (an e1606 (an (not_f h1607) trivial)) (an e1616 (an e1622 (an (ti (an e1625 (ti trivial))) (an (ti (ti trivial)) (an (not_t (decide_eq_false h1626)) (an e1653 trivial))))))))) (ti trivial)) (Wv.refl _)
    ·have e1654 := (ti (ti (ti (ti (an (decide_eq_false h1646) (an (decide_eq_false h1646) (an (decide_eq_false h1646) (an (decide_eq_false h1646) (ti (an rf (an rf (an rf (an rf (ti (an rf (an rf (an rf (an rf (ti trivial)))))))))))))))))))
     injection h with h; subst h
     exact fun_ok pm pn Go.Proofs.Try.func3 (r0 := vb false) (ans := [.reg (.n :: .n :: []), .reg (.call (vb r1601) :: .n :: []), .br false, .reg (.n :: .call (vb r1604) :: .n :: []), .br false, .reg (arD2_3 r1608 r1613), .reg (arD2_4 r1608 r1619), .reg (.n :: .call (vi r1623) :: .n :: []), .reg (.n :: .n :: []), .br true, .reg (nN 4 (nS 3 (.b false :: .n :: nS 3 (.b false :: .n :: nS 3 (.b false :: .n :: [])))))]) (fr := true) (by kernel_rfl) (an (an (ti (ti trivial)) (an (an (an (nawake_ok k _ h1602) (ti trivial)) (an (not_f h1603) trivial)) (an (an e1606 (an (not_f h1607) trivial)) (an e1616 (an e1622 (an (ti (an e1625 (ti trivial))) (an (ti (ti trivial)) (an (not_t (decide_eq_false h1626)) (an e1654 trivial))))))))) (ti trivial)) (Wv.refl _)
  ·injection h with h; subst h
   exact fun_ok pm pn Go.Proofs.Try.func3 (r0 := vb true) (ans := [.reg (.n :: .n :: []), .reg (.call (vb r1601) :: .n :: []), .br false, .reg (.n :: .call (vb r1604) :: .n :: []), .br true, .reg (.n :: [])]) (fr := true) (by kernel_rfl) (an (an (ti (ti trivial)) (an (an (an (nawake_ok k _ h1602) (ti trivial)) (an (not_f h1603) trivial)) (an e1606 (an (not_t (bool_f h1607)) (an (ti trivial) trivial))))) (ti trivial)) (Wv.refl _)
 ·injection h with h; subst h
  exact fun_ok pm pn Go.Proofs.Try.func3 (r0 := vb false) (ans := [.reg (.n :: .n :: []), .reg (.call (vb r1601) :: .n :: []), .br true, .reg (.n :: [])]) (fr := true) (by kernel_rfl) (an (an (ti (ti trivial)) (an (an (nawake_ok k _ h1602) (ti trivial)) (an (not_t (bool_f h1603)) (an (ti trivial) trivial)))) (ti trivial)) (Wv.refl _)
end Go.Proofs.Ytcjdpgoojhkaiaa.Vg

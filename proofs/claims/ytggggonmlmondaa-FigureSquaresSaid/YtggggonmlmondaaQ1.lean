/- Written by a program out of the program: what Go functions do, as plain functions, and their contracts. -/
import Derived.Test.YtggggonmlmondaaWa
namespace Go.Proofs.Ytggggonmlmondaa.Vg
set_option maxRecDepth 100000
set_option maxHeartbeats 4000000
set_option linter.unusedVariables false
set_option linter.unusedSimpArgs false
open Go Go.Proofs.Ytggggonmlmondaa.Ev Go.Proofs.Ytggggonmlmondaa.Vv
structure SRange where
  Lo : Int
  Hi : Int
  deriving Inhabited
def c_SRange (x : SRange) : List VV := [vi x.Lo, vi x.Hi]
theorem len_c_SRange (x : SRange) : (c_SRange x).length = 2 := rfl
theorem still_c_SRange (xs : List SRange) : (xs.flatMap c_SRange).all VV.still = true := all_flat (fun _ => rfl) xs
theorem isC_c_SRange (xs : List SRange) : (xs.flatMap c_SRange).all VV.isC = true := all_flat (fun _ => rfl) xs
theorem new0_c_SRange (xs : List SRange) : (xs.flatMap c_SRange).all new0 = true := all_flat (fun _ => rfl) xs
theorem unfr_c_SRange (xs : List SRange) : (xs.flatMap c_SRange).map unfr = xs.flatMap c_SRange := unfr_flat (fun _ => rfl) xs
structure SFrac where
  Num : Int
  Den : Int
  deriving Inhabited
def c_SFrac (x : SFrac) : List VV := [vi x.Num, vi x.Den]
theorem len_c_SFrac (x : SFrac) : (c_SFrac x).length = 2 := rfl
theorem still_c_SFrac (xs : List SFrac) : (xs.flatMap c_SFrac).all VV.still = true := all_flat (fun _ => rfl) xs
theorem isC_c_SFrac (xs : List SFrac) : (xs.flatMap c_SFrac).all VV.isC = true := all_flat (fun _ => rfl) xs
theorem new0_c_SFrac (xs : List SFrac) : (xs.flatMap c_SFrac).all new0 = true := all_flat (fun _ => rfl) xs
theorem unfr_c_SFrac (xs : List SFrac) : (xs.flatMap c_SFrac).map unfr = xs.flatMap c_SFrac := unfr_flat (fun _ => rfl) xs
structure A26 where
  e0 : SFrac
  e1 : SFrac
  deriving Inhabited
def c_A26 (x : A26) : List VV := [vi x.e0.Num, vi x.e0.Den, vi x.e1.Num, vi x.e1.Den]
theorem len_c_A26 (x : A26) : (c_A26 x).length = 4 := rfl
theorem still_c_A26 (xs : List A26) : (xs.flatMap c_A26).all VV.still = true := all_flat (fun _ => rfl) xs
theorem isC_c_A26 (xs : List A26) : (xs.flatMap c_A26).all VV.isC = true := all_flat (fun _ => rfl) xs
theorem new0_c_A26 (xs : List A26) : (xs.flatMap c_A26).all new0 = true := all_flat (fun _ => rfl) xs
theorem unfr_c_A26 (xs : List A26) : (xs.flatMap c_A26).map unfr = xs.flatMap c_A26 := unfr_flat (fun _ => rfl) xs
theorem ag3 : isAggT Go.Proofs.Try.prog 3 = some false := by kernel_rfl
theorem ag25 : isAggT Go.Proofs.Try.prog 25 = some true := by kernel_rfl
theorem sz25 : szOf Go.Proofs.Try.prog 25 = some 2 := by kernel_rfl
theorem ag54 : isAggT Go.Proofs.Try.prog 54 = some true := by kernel_rfl
theorem sz54 : szOf Go.Proofs.Try.prog 54 = some 2 := by kernel_rfl
def nspeculumlaw06_ranges (k : Nat) (a0 : (List SRange)) : Option (List SRange) :=
  if ([] : List SRange).length + a0.length ≤ 1000000000 then (some (([] : List SRange) ++ a0)) else none
theorem nspeculumlaw06_ranges_ok (k : Nat) (a0 : (List SRange)) (r : (List SRange)) (h : nspeculumlaw06_ranges k a0 = some r) : VC Go.Proofs.Try.prog 6 [VV.tr (List.flatMap c_SRange a0) a0.length] (VV.fw 2 (List.flatMap c_SRange r) r.length) := by
 unfold nspeculumlaw06_ranges at h
 obtain ⟨h103, h⟩ := ifn h
 have e104 := (show List.length [] = 0 * 2 ∧ List.length (List.flatMap c_SRange a0) = a0.length * 2 ∧ (0 + a0.length) * 16 ≤ 140737488355328 ∧ 0 + a0.length < 1099511627776 ∧ List.all (List.flatMap c_SRange a0) VV.still = true from ⟨(by rw [show [] = List.flatMap c_SRange ([] : List SRange) from rfl]; rw [flatMap_len len_c_SRange] <;> simp), (by rw [flatMap_len len_c_SRange] <;> simp), (by first | omega | (simp at h103 ⊢; omega)), (by first | omega | (simp at h103 ⊢; omega)), (by exact still_c_SRange _)⟩)
 injection h with h; subst h
 exact fun_ok pm pn Go.Proofs.Try.func6 (r0 := VV.fw 2 (List.drop 0 (List.map unfr ([] ++ (List.flatMap c_SRange a0)))) (0 + a0.length)) (ans := [.reg (.n :: []), .reg (nN 4 [])]) (fr := true) (by kernel_rfl) (an (an (ti trivial) (an (ti (ti (an e104 (ti trivial)))) trivial)) (an (show List.all ([] ++ (List.flatMap c_SRange a0)) new0 = true from (by rw [show [] ++ (List.flatMap c_SRange a0) = List.flatMap c_SRange (([] : List SRange) ++ a0) from (by rw [show [] = List.flatMap c_SRange ([] : List SRange) from rfl]; exact List.flatMap_append.symm)]; exact new0_c_SRange _)) trivial)) (Wv.of_eq (by simp only [show [] ++ (List.flatMap c_SRange a0) = List.flatMap c_SRange (([] : List SRange) ++ a0) from (by rw [show [] = List.flatMap c_SRange ([] : List SRange) from rfl]; exact List.flatMap_append.symm), drop0, unfr_vi, unfr_vb, unfr_vs, List.map_cons, List.map_nil, un_i, un_k, un_b, un_s, un_tr, un_fr, List.length_map, List.length_replicate, List.length_append, List.length_set, List.length_cons, List.length_nil, Nat.zero_add, unfr_c_SRange]))
def nfigure_isWithin (k : Nat) (a0 : Int) (a1 : Int) (a2 : Int) : Option Bool :=
  if a1 ≤ a0 then (some (decide (a0 ≤ a2))) else (some false)
theorem nfigure_isWithin_ok (k : Nat) (a0 : Int) (a1 : Int) (a2 : Int) (r : Bool) (h : nfigure_isWithin k a0 a1 a2 = some r) : VC Go.Proofs.Try.prog 32 [vi a0, vi a1, vi a2] (vb r) := by
 unfold nfigure_isWithin at h
 rcases ifs h with ⟨h108, h⟩ | ⟨h108, h⟩
 ·have e109 := (ti (ti (ti (ti (an (an (decide_eq_true h108) trivial) (an (an (decide_eq_true h108) trivial) (an (an (decide_eq_true h108) trivial) (an (decide_eq_true h108) (ti trivial)))))))))
  injection h with h; subst h
  exact fun_ok pm pn Go.Proofs.Try.func32 (r0 := vb (decide (a0 ≤ a2))) (ans := [.reg (.n :: []), .reg (nN 7 (.b true :: .n :: []))]) (fr := true) (by kernel_rfl) (an (an (ti trivial) (an e109 trivial)) (ti trivial)) (Wv.refl _)
 ·have e110 := (ti (ti (ti (ti (an (decide_eq_false h108) (an (decide_eq_false h108) (an (decide_eq_false h108) (an (decide_eq_false h108) (ti trivial)))))))))
  injection h with h; subst h
  exact fun_ok pm pn Go.Proofs.Try.func32 (r0 := vb false) (ans := [.reg (.n :: []), .reg (nN 4 (nS 3 (.b false :: .n :: [])))]) (fr := true) (by kernel_rfl) (an (an (ti trivial) (an e110 trivial)) (ti trivial)) (Wv.refl _)
def nfigure_areHeights_l0_0_h (a0 : (List Int)) (x7 : Int) : VS := ⟨mkA [(5, VV.tr (List.map vi a0) a0.length), (6, vi (a0.length : Int)), (7, vi x7)], [], .nil⟩
def nfigure_areHeights_l0_0_e0 (a0 : (List Int)) (r : Unit) : VS := ⟨mkA [(2, vb false)], [], .nil⟩
def nfigure_areHeights_l0_0_e1 (a0 : (List Int)) (r : Unit) : VS := ⟨mkA [], [], .nil⟩
def nfigure_areHeights_l0_0 (k : Nat) (a0 : (List Int)) : Nat → Int → Option (Sum Unit Unit)
  | 0, _ => none
  | fuel + 1, x7 => if x7 < (a0.length : Int) then (if 0 ≤ x7 ∧ x7 < (a0.length : Int) then ((nfigure_isWithin k (a0.getD x7.toNat 0) (-100000) 100000).bind fun r162 => (if r162 = true then (nfigure_areHeights_l0_0 k a0 fuel (w64 (x7 + 1))) else (some (.inl ())))) else none) else (some (.inr ()))
theorem nfigure_areHeights_l0_0_ok (k : Nat) (a0 : (List Int)) : ∀ (fuel : Nat) (x7 : Int) (r : Sum Unit Unit), nfigure_areHeights_l0_0 k a0 fuel x7 = some r → (match r with | .inl r => VLoop none Go.Proofs.Try.prog (szF Go.Proofs.Try.f33) (bodyOf Go.Proofs.Try.f33 0) (nfigure_areHeights_l0_0_h a0 x7) .ret (nfigure_areHeights_l0_0_e0 a0 r) | .inr r => VLoop none Go.Proofs.Try.prog (szF Go.Proofs.Try.f33) (bodyOf Go.Proofs.Try.f33 0) (nfigure_areHeights_l0_0_h a0 x7) (.exit 0) (nfigure_areHeights_l0_0_e1 a0 r)) := by
 intro fuel
 induction fuel with
 | zero => intro x7 r h; rw [nfigure_areHeights_l0_0.eq_1] at h; cases h
 | succ fuel ih =>
  intro x7 r h
  rw [nfigure_areHeights_l0_0.eq_2] at h
  rcases ifs h with ⟨h159, h⟩ | ⟨h159, h⟩
  ·obtain ⟨h160, h⟩ := ifn h
   have e161 := (show loadL Go.Proofs.Try.prog 3 (x7.toNat * 1) (List.map vi a0) = some (vi (a0.getD x7.toNat 0)) from ld_map ag3 vi a0 0 h160 (by omega))
   obtain ⟨r162, h163, h⟩ := bs h
   have e164 := (nfigure_isWithin_ok k (a0.getD x7.toNat 0) (-100000) 100000 _ h163)
   rcases ifs h with ⟨h165, h⟩ | ⟨h165, h⟩
   ·have h2 := ih _ _ h
    obtain ⟨q, hv, hq⟩ := pkR (rd := none) (P := Go.Proofs.Try.prog) (fn := Go.Proofs.Try.f33) (k := 0) (s := (nfigure_areHeights_l0_0_h a0 x7)) (ans := [.reg (.n :: []), .br true, .reg (.n :: .v (vi (a0.getD x7.toNat 0)) :: .n :: []), .reg (.n :: .call (vb r162) :: .n :: []), .br false, .reg (.n :: .n :: [])]) (c := ⟨[(5, none), (6, none), (7, none)], [], []⟩) (e := .normal) (s1 := (nfigure_areHeights_l0_0_h a0 (w64 (x7 + 1)))) (an (an (ti trivial) (an (an (decide_eq_true h159) trivial) (an (an (an h160 (an e161 (ti trivial))) (an (ti (an e164 (ti trivial))) (an (not_f h165) trivial))) (ti (ti trivial))))) (ti trivial)) (by kernel_rfl)
    cases r with
    | inl r => exact round_next pm pn hv hq h2
    | inr r =>
     exact round_next pm pn hv hq h2
   ·injection h with h; subst h
    exact round_stop (c := ⟨[(2, none)], [], []⟩) (s1 := (nfigure_areHeights_l0_0_e0 a0 ())) pm pn (ans := [.reg (.n :: []), .br true, .reg (.n :: .v (vi (a0.getD x7.toNat 0)) :: .n :: []), .reg (.n :: .call (vb r162) :: .n :: []), .br true, .reg (.n :: [])]) (by kernel_rfl) (by intro e; cases e) (an (an (ti trivial) (an (an (decide_eq_true h159) trivial) (an (an h160 (an e161 (ti trivial))) (an (ti (an e164 (ti trivial))) (an (not_t (bool_f h165)) (an (ti trivial) trivial)))))) (ti trivial))
  ·injection h with h; subst h
   exact round_stop (c := ⟨[], [], []⟩) (s1 := (nfigure_areHeights_l0_0_e1 a0 ())) pm pn (ans := [.reg (.n :: []), .br false]) (by kernel_rfl) (by intro e; cases e) (an (an (ti trivial) (an (decide_eq_false h159) trivial)) (ti trivial))
def nfigure_areHeights (k : Nat) (a0 : (List Int)) : Option Bool :=
  (nfigure_areHeights_l0_0 k a0 k 0).bind fun r167 => (match r167 with | .inl r168 => (some false) | .inr r169 => (some true))
theorem nfigure_areHeights_ok (k : Nat) (a0 : (List Int)) (r : Bool) (h : nfigure_areHeights k a0 = some r) : VC Go.Proofs.Try.prog 33 [VV.tr (List.map vi a0) a0.length] (vb r) := by
 unfold nfigure_areHeights at h
 obtain ⟨r167, h166, h⟩ := bs h
 have hph166 := nfigure_areHeights_l0_0_ok k a0 _ _ _ h166
 cases r167 with
 | inl r168 =>
  dsimp only at h
  have e170 := (an (ti trivial) (VRun.loop hph166))
  injection h with h; subst h
  exact fun_ok pm pn Go.Proofs.Try.func33 (r0 := vb false) (ans := [.reg (.n :: []), .reg (nN 3 []), .sub ⟨[(5, none), (6, none), (7, none)], [], []⟩ .ret (nfigure_areHeights_l0_0_e0 a0 r168)]) (fr := true) (by kernel_rfl) (an (an (ti trivial) (an (ti (ti (ti trivial))) e170)) (ti trivial)) (Wv.refl _)
 | inr r169 =>
  dsimp only at h
  have e171 := (an (ti trivial) (VRun.loop hph166))
  injection h with h; subst h
  exact fun_ok pm pn Go.Proofs.Try.func33 (r0 := vb true) (ans := [.reg (.n :: []), .reg (nN 3 []), .sub ⟨[(5, none), (6, none), (7, none)], [], []⟩ (.exit 0) (nfigure_areHeights_l0_0_e1 a0 r169), .reg (.n :: [])]) (fr := true) (by kernel_rfl) (an (an (ti trivial) (an (an (ti (ti (ti trivial))) e171) (an (ti trivial) trivial))) (ti trivial)) (Wv.refl _)
theorem eqQ1_0 (z0 : (List SRange)) : [VV.tr (List.map vi ([(z0.getD ((0 : Int)).toNat default).Lo, (z0.getD ((0 : Int)).toNat default).Hi] : List Int)) (([(z0.getD ((0 : Int)).toNat default).Lo, (z0.getD ((0 : Int)).toNat default).Hi] : List Int).length)] = [VV.tr [vi ((z0.getD ((0 : Int)).toNat default).Lo), vi ((z0.getD ((0 : Int)).toNat default).Hi)] 2] := by first | rfl | (simp only [unfr_vi, List.map_cons, List.map_nil, un_i, un_tr, List.length_map, List.length_cons, List.length_nil]; done) | (simp only [unfr_vi, List.map_cons, List.map_nil, un_i, un_tr, List.length_map, List.length_cons, List.length_nil]; rfl) | (simp only [unfr_vi, List.map_cons, List.map_nil, un_i, un_tr, List.length_map, List.length_cons, List.length_nil, List.length_cons, List.length_nil, List.length_append]; done)
theorem eqQ1_1 (z0 : (List SRange)) (z1 : Int) : [VV.tr (List.map vi ([(z0.getD z1.toNat default).Lo, (z0.getD z1.toNat default).Hi] : List Int)) (([(z0.getD z1.toNat default).Lo, (z0.getD z1.toNat default).Hi] : List Int).length)] = [VV.tr [vi ((z0.getD z1.toNat default).Lo), vi ((z0.getD z1.toNat default).Hi)] 2] := by first | rfl | (simp only [unfr_vi, List.map_cons, List.map_nil, un_i, un_tr, List.length_map, List.length_cons, List.length_nil]; done) | (simp only [unfr_vi, List.map_cons, List.map_nil, un_i, un_tr, List.length_map, List.length_cons, List.length_nil]; rfl) | (simp only [unfr_vi, List.map_cons, List.map_nil, un_i, un_tr, List.length_map, List.length_cons, List.length_nil, List.length_cons, List.length_nil, List.length_append]; done)
def nfigure_CheckEnclosure_l0_0_h (a0 : (List SRange)) (x11 : Int) : VS := ⟨mkA [(9, VV.tr (List.flatMap c_SRange a0) a0.length), (10, vi (a0.length : Int)), (11, vi x11)], [], .nil⟩
def nfigure_CheckEnclosure_l0_0_e0 (a0 : (List SRange)) (r : Int) : VS := ⟨mkA [(2, vi r)], [], .nil⟩
def nfigure_CheckEnclosure_l0_0_e1 (a0 : (List SRange)) (r : Unit) : VS := ⟨mkA [], [], .nil⟩
def nfigure_CheckEnclosure_l0_0 (k : Nat) (a0 : (List SRange)) : Nat → Int → Option (Sum Int Unit)
  | 0, _ => none
  | fuel + 1, x11 => if x11 < (a0.length : Int) then (if 0 ≤ x11 ∧ x11 < (a0.length : Int) then ((nfigure_areHeights k ([(a0.getD x11.toNat default).Lo, (a0.getD x11.toNat default).Hi] : List Int)).bind fun r222 => (if r222 = true then (if ((a0.getD x11.toNat default).Hi) < ((a0.getD x11.toNat default).Lo) then (some (.inl 9)) else (nfigure_CheckEnclosure_l0_0 k a0 fuel (w64 (x11 + 1)))) else (some (.inl 2)))) else none) else (some (.inr ()))
theorem nfigure_CheckEnclosure_l0_0_ok (k : Nat) (a0 : (List SRange)) : ∀ (fuel : Nat) (x11 : Int) (r : Sum Int Unit), nfigure_CheckEnclosure_l0_0 k a0 fuel x11 = some r → (match r with | .inl r => VLoop none Go.Proofs.Try.prog (szF Go.Proofs.Try.f15) (bodyOf Go.Proofs.Try.f15 0) (nfigure_CheckEnclosure_l0_0_h a0 x11) .ret (nfigure_CheckEnclosure_l0_0_e0 a0 r) | .inr r => VLoop none Go.Proofs.Try.prog (szF Go.Proofs.Try.f15) (bodyOf Go.Proofs.Try.f15 0) (nfigure_CheckEnclosure_l0_0_h a0 x11) (.exit 0) (nfigure_CheckEnclosure_l0_0_e1 a0 r)) := by
 intro fuel
 induction fuel with
 | zero => intro x11 r h; rw [nfigure_CheckEnclosure_l0_0.eq_1] at h; cases h
 | succ fuel ih =>
  intro x11 r h
  rw [nfigure_CheckEnclosure_l0_0.eq_2] at h
  rcases ifs h with ⟨h219, h⟩ | ⟨h219, h⟩
  ·obtain ⟨h220, h⟩ := ifn h
   have e221 := (show loadL Go.Proofs.Try.prog 54 (x11.toNat * 2) (List.flatMap c_SRange a0) = some (VV.ag (c_SRange (a0.getD x11.toNat default))) from ld_whole ag54 c_SRange 2 sz54 len_c_SRange a0 default h220 (by omega))
   obtain ⟨r222, h223, h⟩ := bs h
   have e224 := (VC.args (nfigure_areHeights_ok k ([(a0.getD x11.toNat default).Lo, (a0.getD x11.toNat default).Hi] : List Int) _ h223) (eqQ1_1 a0 x11))
   rcases ifs h with ⟨h225, h⟩ | ⟨h225, h⟩
   ·rcases ifs h with ⟨h226, h⟩ | ⟨h226, h⟩
    ·injection h with h; subst h
     exact round_stop (c := ⟨[(2, none)], [], []⟩) (s1 := (nfigure_CheckEnclosure_l0_0_e0 a0 9)) pm pn (ans := [.reg (.n :: []), .br true, .reg (.n :: .v (VV.ag (c_SRange (a0.getD x11.toNat default))) :: .n :: .n :: []), .reg (nN 4 (.v VV.any :: .call (vb r222) :: .n :: [])), .br false, .reg (nN 5 []), .br true, .reg (.n :: [])]) (by kernel_rfl) (by intro e; cases e) (an (an (ti trivial) (an (an (decide_eq_true h219) trivial) (an (an h220 (an e221 (ti (ti trivial)))) (an (an (ti (ti (ti (ti (ti (an e224 (ti trivial))))))) (an (not_f h225) trivial)) (an (ti (ti (ti (ti (ti trivial))))) (an (decide_eq_true h226) (an (ti trivial) trivial))))))) (ti trivial))
    ·have h2 := ih _ _ h
     obtain ⟨q, hv, hq⟩ := pkR (rd := none) (P := Go.Proofs.Try.prog) (fn := Go.Proofs.Try.f15) (k := 0) (s := (nfigure_CheckEnclosure_l0_0_h a0 x11)) (ans := [.reg (.n :: []), .br true, .reg (.n :: .v (VV.ag (c_SRange (a0.getD x11.toNat default))) :: .n :: .n :: []), .reg (nN 4 (.v VV.any :: .call (vb r222) :: .n :: [])), .br false, .reg (nN 5 []), .br false, .reg (.n :: .n :: [])]) (c := ⟨[(9, none), (10, none), (11, none)], [], []⟩) (e := .normal) (s1 := (nfigure_CheckEnclosure_l0_0_h a0 (w64 (x11 + 1)))) (an (an (ti trivial) (an (an (decide_eq_true h219) trivial) (an (an (an h220 (an e221 (ti (ti trivial)))) (an (an (ti (ti (ti (ti (ti (an e224 (ti trivial))))))) (an (not_f h225) trivial)) (an (ti (ti (ti (ti (ti trivial))))) (an (decide_eq_false h226) trivial)))) (ti (ti trivial))))) (ti trivial)) (by kernel_rfl)
     cases r with
     | inl r => exact round_next pm pn hv hq h2
     | inr r =>
      exact round_next pm pn hv hq h2
   ·injection h with h; subst h
    exact round_stop (c := ⟨[(2, none)], [], []⟩) (s1 := (nfigure_CheckEnclosure_l0_0_e0 a0 2)) pm pn (ans := [.reg (.n :: []), .br true, .reg (.n :: .v (VV.ag (c_SRange (a0.getD x11.toNat default))) :: .n :: .n :: []), .reg (nN 4 (.v VV.any :: .call (vb r222) :: .n :: [])), .br true, .reg (.n :: [])]) (by kernel_rfl) (by intro e; cases e) (an (an (ti trivial) (an (an (decide_eq_true h219) trivial) (an (an h220 (an e221 (ti (ti trivial)))) (an (ti (ti (ti (ti (ti (an e224 (ti trivial))))))) (an (not_t (bool_f h225)) (an (ti trivial) trivial)))))) (ti trivial))
  ·injection h with h; subst h
   exact round_stop (c := ⟨[], [], []⟩) (s1 := (nfigure_CheckEnclosure_l0_0_e1 a0 ())) pm pn (ans := [.reg (.n :: []), .br false]) (by kernel_rfl) (by intro e; cases e) (an (an (ti trivial) (an (decide_eq_false h219) trivial)) (ti trivial))
def nfigure_CheckEnclosure (k : Nat) (a0 : (List SRange)) : Option Int :=
  (nfigure_isWithin k (a0.length : Int) 1 40).bind fun r199 => (if r199 = true then ((nfigure_CheckEnclosure_l0_0 k a0 k 0).bind fun r228 => (match r228 with | .inl r229 => (some r229) | .inr r230 => (some 0))) else (some 10))
theorem nfigure_CheckEnclosure_ok (k : Nat) (a0 : (List SRange)) (r : Int) (h : nfigure_CheckEnclosure k a0 = some r) : VC Go.Proofs.Try.prog 15 [VV.tr (List.flatMap c_SRange a0) a0.length] (vi r) := by
 unfold nfigure_CheckEnclosure at h
 obtain ⟨r199, h200, h⟩ := bs h
 have e201 := (nfigure_isWithin_ok k (a0.length : Int) 1 40 _ h200)
 rcases ifs h with ⟨h202, h⟩ | ⟨h202, h⟩
 ·obtain ⟨r228, h227, h⟩ := bs h
  have hph227 := nfigure_CheckEnclosure_l0_0_ok k a0 _ _ _ h227
  cases r228 with
  | inl r229 =>
   dsimp only at h
   have e231 := (an (ti trivial) (VRun.loop hph227))
   injection h with h; subst h
   exact fun_ok pm pn Go.Proofs.Try.func15 (r0 := vi r229) (ans := [.reg (.n :: []), .reg (.n :: .n :: .call (vb r199) :: .n :: []), .br false, .reg (nN 3 []), .sub ⟨[(9, none), (10, none), (11, none)], [], []⟩ .ret (nfigure_CheckEnclosure_l0_0_e0 a0 r229)]) (fr := true) (by kernel_rfl) (an (an (ti trivial) (an (an (ti (ti (an e201 (ti trivial)))) (an (not_f h202) trivial)) (an (ti (ti (ti trivial))) e231))) (ti trivial)) (Wv.refl _)
  | inr r230 =>
   dsimp only at h
   have e232 := (an (ti trivial) (VRun.loop hph227))
   injection h with h; subst h
   exact fun_ok pm pn Go.Proofs.Try.func15 (r0 := vi 0) (ans := [.reg (.n :: []), .reg (.n :: .n :: .call (vb r199) :: .n :: []), .br false, .reg (nN 3 []), .sub ⟨[(9, none), (10, none), (11, none)], [], []⟩ (.exit 0) (nfigure_CheckEnclosure_l0_0_e1 a0 r230), .reg (.n :: [])]) (fr := true) (by kernel_rfl) (an (an (ti trivial) (an (an (ti (ti (an e201 (ti trivial)))) (an (not_f h202) trivial)) (an (an (ti (ti (ti trivial))) e232) (an (ti trivial) trivial)))) (ti trivial)) (Wv.refl _)
 ·injection h with h; subst h
  exact fun_ok pm pn Go.Proofs.Try.func15 (r0 := vi 10) (ans := [.reg (.n :: []), .reg (.n :: .n :: .call (vb r199) :: .n :: []), .br true, .reg (.n :: [])]) (fr := true) (by kernel_rfl) (an (an (ti trivial) (an (ti (ti (an e201 (ti trivial)))) (an (not_t (bool_f h202)) (an (ti trivial) trivial)))) (ti trivial)) (Wv.refl _)
def nfigure_divisor_l0_0_h  (x0 : Int) (x1 : Int) : VS := ⟨mkA [(0, vi x0), (1, vi x1)], [], .nil⟩
def nfigure_divisor_l0_0_e0  (r : Int) : VS := ⟨mkA [(0, vi r)], [], .nil⟩
def nfigure_divisor_l0_0 (k : Nat)  : Nat → Int → Int → Option (Int)
  | 0, _, _ => none
  | fuel + 1, x0, x1 => if x1 = 0 then (some x0) else (if x1 ≠ 0 then (nfigure_divisor_l0_0 k  fuel x1 (x0.tmod x1)) else none)
theorem nfigure_divisor_l0_0_ok (k : Nat)  : ∀ (fuel : Nat) (x0 : Int) (x1 : Int) (r : Int), nfigure_divisor_l0_0 k  fuel x0 x1 = some r → (VLoop none Go.Proofs.Try.prog (szF Go.Proofs.Try.f44) (bodyOf Go.Proofs.Try.f44 0) (nfigure_divisor_l0_0_h  x0 x1) (.exit 0) (nfigure_divisor_l0_0_e0  r)) := by
 intro fuel
 induction fuel with
 | zero => intro x0 x1 r h; rw [nfigure_divisor_l0_0.eq_1] at h; cases h
 | succ fuel ih =>
  intro x0 x1 r h
  rw [nfigure_divisor_l0_0.eq_2] at h
  rcases ifs h with ⟨h294, h⟩ | ⟨h294, h⟩
  ·injection h with h; subst h
   exact round_stop (c := ⟨[(0, none)], [], []⟩) (s1 := (nfigure_divisor_l0_0_e0  x0)) pm pn (ans := [.reg (.n :: .n :: []), .br false]) (by kernel_rfl) (by intro e; cases e) (an (an (ti (ti trivial)) (an (not_f (decide_eq_true h294)) trivial)) (ti trivial))
  ·obtain ⟨h295, h⟩ := ifn h
   have h2 := ih _ _ _ h
   obtain ⟨q, hv, hq⟩ := pkR (rd := none) (P := Go.Proofs.Try.prog) (fn := Go.Proofs.Try.f44) (k := 0) (s := (nfigure_divisor_l0_0_h  x0 x1)) (ans := [.reg (.n :: .n :: []), .br true, .reg (nN 6 [])]) (c := ⟨[(0, none), (1, none)], [], []⟩) (e := .normal) (s1 := (nfigure_divisor_l0_0_h  x1 (x0.tmod x1))) (an (an (an (ti (ti trivial)) (an (not_t (decide_eq_false h294)) trivial)) (ti (ti (ti (an h295 (ti (ti trivial))))))) (ti trivial)) (by kernel_rfl)
   exact round_next pm pn hv hq h2
def nfigure_divisor (k : Nat) (a0 : Int) (a1 : Int) : Option Int :=
  (nfigure_divisor_l0_0 k k a0 a1).bind fun r297 => (some (maxI r297 (w64 (0 - r297))))
theorem nfigure_divisor_ok (k : Nat) (a0 : Int) (a1 : Int) (r : Int) (h : nfigure_divisor k a0 a1 = some r) : VC Go.Proofs.Try.prog 44 [vi a0, vi a1] (vi r) := by
 unfold nfigure_divisor at h
 obtain ⟨r297, h296, h⟩ := bs h
 have hph296 := nfigure_divisor_l0_0_ok k  _ _ _ _ h296
 have e298 := (an (ti trivial) (VRun.loop hph296))
 injection h with h; subst h
 exact fun_ok pm pn Go.Proofs.Try.func44 (r0 := vi (maxI r297 (w64 (0 - r297)))) (ans := [.reg (.n :: []), .sub ⟨[(0, none), (1, none)], [], []⟩ (.exit 0) (nfigure_divisor_l0_0_e0  r297), .reg (nN 5 [])]) (fr := true) (by kernel_rfl) (an (an (ti trivial) (an e298 (an (ti (ti (ti (ti (ti trivial))))) trivial))) (ti trivial)) (Wv.refl _)
theorem eqQ1_2 (z0 : Int) (z1 : Int) (z2 : Int) : VV.ag [vi (w64 (z0.tdiv z1)), vi (w64 (z2.tdiv z1))] = VV.ag (c_SFrac (⟨w64 (z0.tdiv z1), w64 (z2.tdiv z1)⟩ : SFrac)) := by first | rfl | (simp only [unfr_vi, List.map_cons, List.map_nil, un_i, unfr_c_SFrac]; done) | (simp only [unfr_vi, List.map_cons, List.map_nil, un_i, unfr_c_SFrac]; rfl) | (simp only [unfr_vi, List.map_cons, List.map_nil, un_i, unfr_c_SFrac, c_SFrac, List.length_cons, List.length_nil, List.length_append]; done)
def nfigure_lowest (k : Nat) (a0 : Int) (a1 : Int) : Option SFrac :=
  (nfigure_divisor k a0 a1).bind fun r304 => (if r304 ≠ 0 then (some (⟨w64 (a0.tdiv r304), w64 (a1.tdiv r304)⟩ : SFrac)) else none)
theorem nfigure_lowest_ok (k : Nat) (a0 : Int) (a1 : Int) (r : SFrac) (h : nfigure_lowest k a0 a1 = some r) : VC Go.Proofs.Try.prog 26 [vi a0, vi a1] (VV.ag (c_SFrac r)) := by
 unfold nfigure_lowest at h
 obtain ⟨r304, h305, h⟩ := bs h
 have e306 := (ti (ti (an (nfigure_divisor_ok k a0 a1 _ h305) (ti trivial))))
 obtain ⟨h307, h⟩ := ifn h
 have e308 := (ti (ti (an h307 (ti (ti (an h307 (ti (ti trivial))))))))
 injection h with h; subst h
 exact fun_ok pm pn Go.Proofs.Try.func26 (r0 := VV.ag [vi (w64 (a0.tdiv r304)), vi (w64 (a1.tdiv r304))]) (ans := [.reg (.n :: []), .reg (.n :: .n :: .call (vi r304) :: .n :: []), .reg (nN 8 [])]) (fr := true) (by kernel_rfl) (an (an (ti trivial) (an e306 (an e308 trivial))) (an (ti (ti (ti trivial))) trivial)) (Wv.of_eq (eqQ1_2 a0 r304 a1))
def nfigure_total_l0_0_h (a0 : (List Int)) (x3 : Int) (x8 : Int) : VS := ⟨mkA [(3, vi x3), (6, VV.tr (List.map vi a0) a0.length), (7, vi (a0.length : Int)), (8, vi x8)], [], .nil⟩
def nfigure_total_l0_0_e0 (a0 : (List Int)) (r : Int) : VS := ⟨mkA [(3, vi r)], [], .nil⟩
def nfigure_total_l0_0 (k : Nat) (a0 : (List Int)) : Nat → Int → Int → Option (Int)
  | 0, _, _ => none
  | fuel + 1, x3, x8 => if x8 < (a0.length : Int) then (if 0 ≤ x8 ∧ x8 < (a0.length : Int) then (nfigure_total_l0_0 k a0 fuel (w64 (x3 + (a0.getD x8.toNat 0))) (w64 (x8 + 1))) else none) else (some x3)
theorem nfigure_total_l0_0_ok (k : Nat) (a0 : (List Int)) : ∀ (fuel : Nat) (x3 : Int) (x8 : Int) (r : Int), nfigure_total_l0_0 k a0 fuel x3 x8 = some r → (VLoop none Go.Proofs.Try.prog (szF Go.Proofs.Try.f50) (bodyOf Go.Proofs.Try.f50 0) (nfigure_total_l0_0_h a0 x3 x8) (.exit 0) (nfigure_total_l0_0_e0 a0 r)) := by
 intro fuel
 induction fuel with
 | zero => intro x3 x8 r h; rw [nfigure_total_l0_0.eq_1] at h; cases h
 | succ fuel ih =>
  intro x3 x8 r h
  rw [nfigure_total_l0_0.eq_2] at h
  rcases ifs h with ⟨h330, h⟩ | ⟨h330, h⟩
  ·obtain ⟨h331, h⟩ := ifn h
   have e332 := (show loadL Go.Proofs.Try.prog 3 (x8.toNat * 1) (List.map vi a0) = some (vi (a0.getD x8.toNat 0)) from ld_map ag3 vi a0 0 h331 (by omega))
   have h2 := ih _ _ _ h
   obtain ⟨q, hv, hq⟩ := pkR (rd := none) (P := Go.Proofs.Try.prog) (fn := Go.Proofs.Try.f50) (k := 0) (s := (nfigure_total_l0_0_h a0 x3 x8)) (ans := [.reg (.n :: []), .br true, .reg (.n :: .v (vi (a0.getD x8.toNat 0)) :: .n :: []), .reg (nN 4 []), .reg (.n :: .n :: [])]) (c := ⟨[(3, none), (6, none), (7, none), (8, none)], [], []⟩) (e := .normal) (s1 := (nfigure_total_l0_0_h a0 (w64 (x3 + (a0.getD x8.toNat 0))) (w64 (x8 + 1)))) (an (an (ti trivial) (an (an (decide_eq_true h330) trivial) (an (an (an h331 (an e332 (ti trivial))) (ti (ti (ti (ti trivial))))) (ti (ti trivial))))) (ti trivial)) (by kernel_rfl)
   exact round_next pm pn hv hq h2
  ·injection h with h; subst h
   exact round_stop (c := ⟨[(3, none)], [], []⟩) (s1 := (nfigure_total_l0_0_e0 a0 x3)) pm pn (ans := [.reg (.n :: []), .br false]) (by kernel_rfl) (by intro e; cases e) (an (an (ti trivial) (an (decide_eq_false h330) trivial)) (ti trivial))
def nfigure_total (k : Nat) (a0 : (List Int)) : Option Int :=
  (nfigure_total_l0_0 k a0 k 0 0).bind fun r334 => (some r334)
theorem nfigure_total_ok (k : Nat) (a0 : (List Int)) (r : Int) (h : nfigure_total k a0 = some r) : VC Go.Proofs.Try.prog 50 [VV.tr (List.map vi a0) a0.length] (vi r) := by
 unfold nfigure_total at h
 obtain ⟨r334, h333, h⟩ := bs h
 have hph333 := nfigure_total_l0_0_ok k a0 _ _ _ _ h333
 have e335 := (an (ti trivial) (VRun.loop hph333))
 injection h with h; subst h
 exact fun_ok pm pn Go.Proofs.Try.func50 (r0 := vi r334) (ans := [.reg (.n :: []), .reg (.n :: []), .reg (nN 3 []), .sub ⟨[(3, none), (6, none), (7, none), (8, none)], [], []⟩ (.exit 0) (nfigure_total_l0_0_e0 a0 r334), .reg (.n :: .n :: [])]) (fr := true) (by kernel_rfl) (an (an (ti trivial) (an (ti trivial) (an (an (ti (ti (ti trivial))) e335) (an (ti (ti trivial)) trivial)))) (ti trivial)) (Wv.refl _)
theorem eqQ1_3 (z0 : (List Int)) : [VV.tr (List.map vi z0) z0.length] = [VV.tr (List.drop 0 (List.map unfr (List.map vi z0))) z0.length] := by first | rfl | (simp only [drop0, unfr_vi, List.map_cons, List.map_nil, un_i, un_tr, List.length_map, List.length_cons, List.length_nil]; done) | (simp only [drop0, unfr_vi, List.map_cons, List.map_nil, un_i, un_tr, List.length_map, List.length_cons, List.length_nil]; rfl) | (simp only [drop0, unfr_vi, List.map_cons, List.map_nil, un_i, un_tr, List.length_map, List.length_cons, List.length_nil, List.length_cons, List.length_nil, List.length_append]; done)
def nfigure_nearestMean_l0_0_h (a0 : (List SRange)) (a1 : Int) (y1 : List Int) (x10 : Int) : VS := ⟨mkA [(1, vi a1), (4, VV.pt 0 0), (5, VV.rf 1 0 y1.length), (8, VV.tr (List.flatMap c_SRange a0) a0.length), (9, vi (a0.length : Int)), (10, vi x10)], [some ⟨true, 1, [vi 0, vi 0]⟩, some ⟨false, 1, List.map vi y1⟩], .nil⟩
def nfigure_nearestMean_l0_0_e0 (a0 : (List SRange)) (a1 : Int) (r : (List Int)) : VS := ⟨mkA [(1, vi a1), (4, VV.pt 0 0), (5, VV.rf 1 0 r.length)], [some ⟨true, 1, [vi 0, vi 0]⟩, some ⟨false, 1, List.map vi r⟩], .nil⟩
def nfigure_nearestMean_l0_0 (k : Nat) (a0 : (List SRange)) (a1 : Int) : Nat → (List Int) → Int → Option ((List Int))
  | 0, _, _ => none
  | fuel + 1, y1, x10 => if x10 < (a0.length : Int) then (if 0 ≤ x10 ∧ x10 < (a0.length : Int) then (if a1 < ((a0.getD x10.toNat default).Lo) then (if y1.length + ([(a0.getD x10.toNat default).Lo] : List Int).length ≤ 1000000000 then (nfigure_nearestMean_l0_0 k a0 a1 fuel (y1 ++ ([(a0.getD x10.toNat default).Lo] : List Int)) (w64 (x10 + 1))) else none) else (if ((a0.getD x10.toNat default).Hi) ≤ a1 then (if y1.length + ([(a0.getD x10.toNat default).Hi] : List Int).length ≤ 1000000000 then (nfigure_nearestMean_l0_0 k a0 a1 fuel (y1 ++ ([(a0.getD x10.toNat default).Hi] : List Int)) (w64 (x10 + 1))) else none) else (nfigure_nearestMean_l0_0 k a0 a1 fuel y1 (w64 (x10 + 1))))) else none) else (some y1)
theorem nfigure_nearestMean_l0_0_ok (k : Nat) (a0 : (List SRange)) (a1 : Int) : ∀ (fuel : Nat) (y1 : List Int) (x10 : Int) (r : (List Int)), nfigure_nearestMean_l0_0 k a0 a1 fuel y1 x10 = some r → (VLoop none Go.Proofs.Try.prog (szF Go.Proofs.Try.f35) (bodyOf Go.Proofs.Try.f35 0) (nfigure_nearestMean_l0_0_h a0 a1 y1 x10) (.exit 0) (nfigure_nearestMean_l0_0_e0 a0 a1 r)) := by
 intro fuel
 induction fuel with
 | zero => intro y1 x10 r h; rw [nfigure_nearestMean_l0_0.eq_1] at h; cases h
 | succ fuel ih =>
  intro y1 x10 r h
  rw [nfigure_nearestMean_l0_0.eq_2] at h
  rcases ifs h with ⟨h369, h⟩ | ⟨h369, h⟩
  ·obtain ⟨h370, h⟩ := ifn h
   have e371 := (show loadL Go.Proofs.Try.prog 54 (x10.toNat * 2) (List.flatMap c_SRange a0) = some (VV.ag (c_SRange (a0.getD x10.toNat default))) from ld_whole ag54 c_SRange 2 sz54 len_c_SRange a0 default h370 (by omega))
   rcases ifs h with ⟨h372, h⟩ | ⟨h372, h⟩
   ·obtain ⟨h373, h⟩ := ifn h
    have e374 := (show List.length (List.map vi y1) = y1.length * 1 ∧ List.length [vi ((a0.getD x10.toNat default).Lo)] = 1 * 1 ∧ (y1.length + 1) * 8 ≤ 140737488355328 ∧ y1.length + 1 < 1099511627776 ∧ List.all [vi ((a0.getD x10.toNat default).Lo)] VV.still = true from ⟨(by simp), (by rw [show [vi ((a0.getD x10.toNat default).Lo)] = List.map vi ([(a0.getD x10.toNat default).Lo] : List Int) from rfl]; simp), (by first | omega | (simp at h373 ⊢; omega)), (by first | omega | (simp at h373 ⊢; omega)), (by rw [show [vi ((a0.getD x10.toNat default).Lo)] = List.map vi ([(a0.getD x10.toNat default).Lo] : List Int) from rfl]; exact still_vi _)⟩)
    have h2 := ih _ _ _ h
    obtain ⟨q, hv, hq⟩ := pkR (rd := none) (P := Go.Proofs.Try.prog) (fn := Go.Proofs.Try.f35) (k := 0) (s := (nfigure_nearestMean_l0_0_h a0 a1 y1 x10)) (ans := [.reg (.n :: []), .br true, .reg (.n :: .v (VV.ag (c_SRange (a0.getD x10.toNat default))) :: .n :: .n :: []), .reg (nN 4 []), .br true, .reg (nN 6 []), .reg (.n :: .n :: [])]) (c := ⟨[(1, none), (4, none), (5, some (VV.rf 1 0 ((y1 ++ ([(a0.getD x10.toNat default).Lo] : List Int)).length))), (8, none), (9, none), (10, none)], [none, some (List.map vi (y1 ++ ([(a0.getD x10.toNat default).Lo] : List Int)))], []⟩) (e := .normal) (s1 := (nfigure_nearestMean_l0_0_h a0 a1 (y1 ++ ([(a0.getD x10.toNat default).Lo] : List Int)) (w64 (x10 + 1)))) (an (an (ti trivial) (an (an (decide_eq_true h369) trivial) (an (an (an h370 (an e371 (ti (ti trivial)))) (an (ti (ti (ti (ti trivial)))) (an (decide_eq_true h372) (ti (ti (ti (ti (an e374 (ti trivial))))))))) (ti (ti trivial))))) (an (an (show Wv (VV.rf 1 0 (y1.length + 1)) (VV.rf 1 0 ((y1 ++ ([(a0.getD x10.toNat default).Lo] : List Int)).length)) from (Wv.of_eq (by simp))) trivial) (an (show (List.map vi y1) ++ [vi ((a0.getD x10.toNat default).Lo)] = List.map vi (y1 ++ ([(a0.getD x10.toNat default).Lo] : List Int)) from (by rw [show [vi ((a0.getD x10.toNat default).Lo)] = List.map vi ([(a0.getD x10.toNat default).Lo] : List Int) from rfl]; exact List.map_append.symm)) trivial))) (by kernel_rfl)
    exact round_next pm pn hv hq h2
   ·rcases ifs h with ⟨h375, h⟩ | ⟨h375, h⟩
    ·obtain ⟨h376, h⟩ := ifn h
     have e377 := (show List.length (List.map vi y1) = y1.length * 1 ∧ List.length [vi ((a0.getD x10.toNat default).Hi)] = 1 * 1 ∧ (y1.length + 1) * 8 ≤ 140737488355328 ∧ y1.length + 1 < 1099511627776 ∧ List.all [vi ((a0.getD x10.toNat default).Hi)] VV.still = true from ⟨(by simp), (by rw [show [vi ((a0.getD x10.toNat default).Hi)] = List.map vi ([(a0.getD x10.toNat default).Hi] : List Int) from rfl]; simp), (by first | omega | (simp at h376 ⊢; omega)), (by first | omega | (simp at h376 ⊢; omega)), (by rw [show [vi ((a0.getD x10.toNat default).Hi)] = List.map vi ([(a0.getD x10.toNat default).Hi] : List Int) from rfl]; exact still_vi _)⟩)
     have h2 := ih _ _ _ h
     obtain ⟨q, hv, hq⟩ := pkR (rd := none) (P := Go.Proofs.Try.prog) (fn := Go.Proofs.Try.f35) (k := 0) (s := (nfigure_nearestMean_l0_0_h a0 a1 y1 x10)) (ans := [.reg (.n :: []), .br true, .reg (.n :: .v (VV.ag (c_SRange (a0.getD x10.toNat default))) :: .n :: .n :: []), .reg (nN 4 []), .br false, .reg (nN 4 []), .br true, .reg (nN 6 []), .reg (.n :: .n :: [])]) (c := ⟨[(1, none), (4, none), (5, some (VV.rf 1 0 ((y1 ++ ([(a0.getD x10.toNat default).Hi] : List Int)).length))), (8, none), (9, none), (10, none)], [none, some (List.map vi (y1 ++ ([(a0.getD x10.toNat default).Hi] : List Int)))], []⟩) (e := .normal) (s1 := (nfigure_nearestMean_l0_0_h a0 a1 (y1 ++ ([(a0.getD x10.toNat default).Hi] : List Int)) (w64 (x10 + 1)))) (an (an (ti trivial) (an (an (decide_eq_true h369) trivial) (an (an (an h370 (an e371 (ti (ti trivial)))) (an (ti (ti (ti (ti trivial)))) (an (decide_eq_false h372) (an (ti (ti (ti (ti trivial)))) (an (decide_eq_true h375) (ti (ti (ti (ti (an e377 (ti trivial))))))))))) (ti (ti trivial))))) (an (an (show Wv (VV.rf 1 0 (y1.length + 1)) (VV.rf 1 0 ((y1 ++ ([(a0.getD x10.toNat default).Hi] : List Int)).length)) from (Wv.of_eq (by simp))) trivial) (an (show (List.map vi y1) ++ [vi ((a0.getD x10.toNat default).Hi)] = List.map vi (y1 ++ ([(a0.getD x10.toNat default).Hi] : List Int)) from (by rw [show [vi ((a0.getD x10.toNat default).Hi)] = List.map vi ([(a0.getD x10.toNat default).Hi] : List Int) from rfl]; exact List.map_append.symm)) trivial))) (by kernel_rfl)
     exact round_next pm pn hv hq h2
    ·have h2 := ih _ _ _ h
     obtain ⟨q, hv, hq⟩ := pkR (rd := none) (P := Go.Proofs.Try.prog) (fn := Go.Proofs.Try.f35) (k := 0) (s := (nfigure_nearestMean_l0_0_h a0 a1 y1 x10)) (ans := [.reg (.n :: []), .br true, .reg (.n :: .v (VV.ag (c_SRange (a0.getD x10.toNat default))) :: .n :: .n :: []), .reg (nN 4 []), .br false, .reg (nN 4 []), .br false, .reg (.n :: .n :: [])]) (c := ⟨[(1, none), (4, none), (5, none), (8, none), (9, none), (10, none)], [none, none], []⟩) (e := .normal) (s1 := (nfigure_nearestMean_l0_0_h a0 a1 y1 (w64 (x10 + 1)))) (an (an (ti trivial) (an (an (decide_eq_true h369) trivial) (an (an (an h370 (an e371 (ti (ti trivial)))) (an (ti (ti (ti (ti trivial)))) (an (decide_eq_false h372) (an (ti (ti (ti (ti trivial)))) (an (decide_eq_false h375) trivial))))) (ti (ti trivial))))) (ti trivial)) (by kernel_rfl)
     exact round_next pm pn hv hq h2
  ·injection h with h; subst h
   exact round_stop (c := ⟨[(1, none), (4, none), (5, none)], [none, none], []⟩) (s1 := (nfigure_nearestMean_l0_0_e0 a0 a1 y1)) pm pn (ans := [.reg (.n :: []), .br false]) (by kernel_rfl) (by intro e; cases e) (an (an (ti trivial) (an (decide_eq_false h369) trivial)) (ti trivial))
def nfigure_nearestMean (k : Nat) (a0 : (List SRange)) (a1 : Int) : Option SFrac :=
  (nfigure_nearestMean_l0_0 k a0 a1 k ([] : List Int) 0).bind fun r379 => (if ((r379.length : Nat) : Int) = 0 then ((nfigure_lowest k a1 1).bind fun r382 => (some r382)) else ((nfigure_total k r379).bind fun r385 => ((nfigure_lowest k r385 ((r379.length : Nat) : Int)).bind fun r388 => (some r388))))
theorem nfigure_nearestMean_ok (k : Nat) (a0 : (List SRange)) (a1 : Int) (r : SFrac) (h : nfigure_nearestMean k a0 a1 = some r) : VC Go.Proofs.Try.prog 35 [VV.tr (List.flatMap c_SRange a0) a0.length, vi a1] (VV.ag (c_SFrac r)) := by
 unfold nfigure_nearestMean at h
 obtain ⟨r379, h378, h⟩ := bs h
 have hph378 := nfigure_nearestMean_l0_0_ok k a0 a1 _ _ _ _ h378
 have e380 := (an (ti trivial) (VRun.loop hph378))
 rcases ifs h with ⟨h381, h⟩ | ⟨h381, h⟩
 ·obtain ⟨r382, h383, h⟩ := bs h
  have e384 := (ti (an (nfigure_lowest_ok k a1 1 _ h383) (ti trivial)))
  injection h with h; subst h
  exact fun_ok pm pn Go.Proofs.Try.func35 (r0 := VV.ag (c_SFrac r382)) (ans := [.reg (.n :: []), .reg (.n :: []), .reg (nN 3 []), .sub ⟨[(1, none), (4, none), (5, none), (8, none), (9, none), (10, none)], [none], [.t 5 1]⟩ (.exit 0) (nfigure_nearestMean_l0_0_e0 a0 a1 r379), .reg (nN 3 []), .br true, .reg (.n :: .call (VV.ag (c_SFrac r382)) :: .n :: [])]) (fr := true) (by kernel_rfl) (an (an (ti trivial) (an (ti trivial) (an (an (ti (ti (ti trivial))) e380) (an (ti (ti (ti trivial))) (an (decide_eq_true h381) (an e384 trivial)))))) (an (ti (ti (ti trivial))) trivial)) (Wv.refl _)
 ·obtain ⟨r385, h386, h⟩ := bs h
  have e387 := (VC.args (nfigure_total_ok k r379 _ h386) (eqQ1_3 r379))
  obtain ⟨r388, h389, h⟩ := bs h
  have e390 := (nfigure_lowest_ok k r385 ((r379.length : Nat) : Int) _ h389)
  injection h with h; subst h
  exact fun_ok pm pn Go.Proofs.Try.func35 (r0 := VV.ag (c_SFrac r388)) (ans := [.reg (.n :: []), .reg (.n :: []), .reg (nN 3 []), .sub ⟨[(1, none), (4, none), (5, none), (8, none), (9, none), (10, none)], [none], [.t 5 1]⟩ (.exit 0) (nfigure_nearestMean_l0_0_e0 a0 a1 r379), .reg (nN 3 []), .br false, .reg (.n :: .call (vi r385) :: .n :: .n :: .call (VV.ag (c_SFrac r388)) :: .n :: [])]) (fr := true) (by kernel_rfl) (an (an (ti trivial) (an (ti trivial) (an (an (ti (ti (ti trivial))) e380) (an (an (ti (ti (ti trivial))) (an (decide_eq_false h381) trivial)) (an (ti (an e387 (ti (ti (an e390 (ti trivial)))))) trivial))))) (an (ti (ti (ti trivial))) trivial)) (Wv.refl _)
def nfigure_squareAbout_l0_0_h (a0 : (List SRange)) (a1 : SFrac) (x11 : Int) (x5 : Int) : VS := ⟨mkA [(0, VV.tr (List.flatMap c_SRange a0) a0.length), (3, VV.pt 0 0), (4, VV.pt 1 0), (5, vi x5), (9, VV.tr (List.flatMap c_SRange a0) a0.length), (10, vi (a0.length : Int)), (11, vi x11)], [some ⟨true, 1, c_SFrac a1⟩, some ⟨true, 1, [vi 0, vi 0]⟩], .nil⟩
def nfigure_squareAbout_l0_0_e0 (a0 : (List SRange)) (a1 : SFrac) (r : Int) : VS := ⟨mkA [(0, VV.tr (List.flatMap c_SRange a0) a0.length), (3, VV.pt 0 0), (4, VV.pt 1 0), (5, vi r)], [some ⟨true, 1, c_SFrac a1⟩, some ⟨true, 1, [vi 0, vi 0]⟩], .nil⟩
def nfigure_squareAbout_l0_0 (k : Nat) (a0 : (List SRange)) (a1 : SFrac) : Nat → Int → Int → Option (Int)
  | 0, _, _ => none
  | fuel + 1, x11, x5 => if x11 < (a0.length : Int) then (if 0 ≤ x11 ∧ x11 < (a0.length : Int) then (nfigure_squareAbout_l0_0 k a0 a1 fuel (w64 (x11 + 1)) (w64 (x5 + (w64 ((maxI (maxI (w64 ((w64 (((a0.getD x11.toNat default).Lo) * a1.Den)) - a1.Num)) (w64 (a1.Num - (w64 (((a0.getD x11.toNat default).Hi) * a1.Den))))) 0) * (maxI (maxI (w64 ((w64 (((a0.getD x11.toNat default).Lo) * a1.Den)) - a1.Num)) (w64 (a1.Num - (w64 (((a0.getD x11.toNat default).Hi) * a1.Den))))) 0)))))) else none) else (some x5)
theorem nfigure_squareAbout_l0_0_ok (k : Nat) (a0 : (List SRange)) (a1 : SFrac) : ∀ (fuel : Nat) (x11 : Int) (x5 : Int) (r : Int), nfigure_squareAbout_l0_0 k a0 a1 fuel x11 x5 = some r → (VLoop none Go.Proofs.Try.prog (szF Go.Proofs.Try.f34) (bodyOf Go.Proofs.Try.f34 0) (nfigure_squareAbout_l0_0_h a0 a1 x11 x5) (.exit 0) (nfigure_squareAbout_l0_0_e0 a0 a1 r)) := by
 intro fuel
 induction fuel with
 | zero => intro x11 x5 r h; rw [nfigure_squareAbout_l0_0.eq_1] at h; cases h
 | succ fuel ih =>
  intro x11 x5 r h
  rw [nfigure_squareAbout_l0_0.eq_2] at h
  rcases ifs h with ⟨h421, h⟩ | ⟨h421, h⟩
  ·obtain ⟨h422, h⟩ := ifn h
   have e423 := (show loadL Go.Proofs.Try.prog 54 (x11.toNat * 2) (List.flatMap c_SRange a0) = some (VV.ag (c_SRange (a0.getD x11.toNat default))) from ld_whole ag54 c_SRange 2 sz54 len_c_SRange a0 default h422 (by omega))
   have e424 := (ti (ti (ti (ti (ti (ti (ti (ti (ti (ti (ti (ti (ti (ti (ti (ti (ti (ti trivial))))))))))))))))))
   have h2 := ih _ _ _ h
   obtain ⟨q, hv, hq⟩ := pkR (rd := none) (P := Go.Proofs.Try.prog) (fn := Go.Proofs.Try.f34) (k := 0) (s := (nfigure_squareAbout_l0_0_h a0 a1 x11 x5)) (ans := [.reg (.n :: []), .br true, .reg (.n :: .v (VV.ag (c_SRange (a0.getD x11.toNat default))) :: .n :: .n :: []), .reg (nN 18 []), .reg (nN 6 []), .reg (.n :: .n :: [])]) (c := ⟨[(0, none), (3, none), (4, none), (5, none), (9, none), (10, none), (11, none)], [none, none], []⟩) (e := .normal) (s1 := (nfigure_squareAbout_l0_0_h a0 a1 (w64 (x11 + 1)) (w64 (x5 + (w64 ((maxI (maxI (w64 ((w64 (((a0.getD x11.toNat default).Lo) * a1.Den)) - a1.Num)) (w64 (a1.Num - (w64 (((a0.getD x11.toNat default).Hi) * a1.Den))))) 0) * (maxI (maxI (w64 ((w64 (((a0.getD x11.toNat default).Lo) * a1.Den)) - a1.Num)) (w64 (a1.Num - (w64 (((a0.getD x11.toNat default).Hi) * a1.Den))))) 0))))))) (an (an (ti trivial) (an (an (decide_eq_true h421) trivial) (an (an (an h422 (an e423 (ti (ti trivial)))) (an e424 (ti (ti (ti (ti (ti (ti trivial)))))))) (ti (ti trivial))))) (ti trivial)) (by kernel_rfl)
   exact round_next pm pn hv hq h2
  ·injection h with h; subst h
   exact round_stop (c := ⟨[(0, none), (3, none), (4, none), (5, none)], [none, none], []⟩) (s1 := (nfigure_squareAbout_l0_0_e0 a0 a1 x5)) pm pn (ans := [.reg (.n :: []), .br false]) (by kernel_rfl) (by intro e; cases e) (an (an (ti trivial) (an (decide_eq_false h421) trivial)) (ti trivial))
def nfigure_squareAbout (k : Nat) (a0 : (List SRange)) (a1 : SFrac) : Option SFrac :=
  (nfigure_squareAbout_l0_0 k a0 a1 k 0 0).bind fun r426 => ((nfigure_lowest k r426 (w64 ((w64 ((a0.length : Int) * a1.Den)) * a1.Den))).bind fun r428 => (some r428))
theorem nfigure_squareAbout_ok (k : Nat) (a0 : (List SRange)) (a1 : SFrac) (r : SFrac) (h : nfigure_squareAbout k a0 a1 = some r) : VC Go.Proofs.Try.prog 34 [VV.tr (List.flatMap c_SRange a0) a0.length, VV.ag (c_SFrac a1)] (VV.ag (c_SFrac r)) := by
 unfold nfigure_squareAbout at h
 obtain ⟨r426, h425, h⟩ := bs h
 have hph425 := nfigure_squareAbout_l0_0_ok k a0 a1 _ _ _ _ h425
 have e427 := (an (ti trivial) (VRun.loop hph425))
 obtain ⟨r428, h429, h⟩ := bs h
 have e430 := (nfigure_lowest_ok k r426 (w64 ((w64 ((a0.length : Int) * a1.Den)) * a1.Den)) _ h429)
 have e431 := (ti (ti (ti (ti (ti (ti (ti (ti (ti (an e430 (ti trivial)))))))))))
 injection h with h; subst h
 exact fun_ok pm pn Go.Proofs.Try.func34 (r0 := VV.ag (c_SFrac r428)) (ans := [.reg (.n :: .n :: []), .reg (.n :: []), .reg (nN 3 []), .sub ⟨[(0, none), (3, none), (4, none), (5, none), (9, none), (10, none), (11, none)], [none, none], []⟩ (.exit 0) (nfigure_squareAbout_l0_0_e0 a0 a1 r426), .reg (nN 9 (.call (VV.ag (c_SFrac r428)) :: .n :: []))]) (fr := true) (by kernel_rfl) (an (an (ti (ti trivial)) (an (ti trivial) (an (an (ti (ti (ti trivial))) e427) (an e431 trivial)))) (an (ti (ti (ti trivial))) trivial)) (Wv.refl _)
def arQ1_0 (z0 : SFrac) (z1 : SFrac) (z2 : SFrac) (z3 : SFrac) : List Ans := (nN 5 (.call (VV.ag (c_SFrac z0)) :: .call (VV.ag (c_SFrac z1)) :: nN 4 (.call (VV.ag (c_SFrac z2)) :: .call (VV.ag (c_SFrac z3)) :: .v VV.any :: .n :: .n :: [])))
def ncmp_isNaN_int_ (k : Nat) (a0 : Int) : Option Bool :=
  some (!(decide (a0 = a0)))
theorem ncmp_isNaN_int__ok (k : Nat) (a0 : Int) (r : Bool) (h : ncmp_isNaN_int_ k a0 = some r) : VC Go.Proofs.Try.prog 51 [vi a0] (vb r) := by
 unfold ncmp_isNaN_int_ at h
 injection h with h; subst h
 exact fun_ok pm pn Go.Proofs.Try.func51 (r0 := vb (!(decide (a0 = a0)))) (ans := [.reg (.n :: []), .reg (nN 4 [])]) (fr := true) (by kernel_rfl) (an (an (ti trivial) (an (ti (ti (ti (ti trivial)))) trivial)) (ti trivial)) (Wv.refl _)
def ncmp_Compare_int_ (k : Nat) (a0 : Int) (a1 : Int) : Option Int :=
  (ncmp_isNaN_int_ k a0).bind fun r518 => ((ncmp_isNaN_int_ k a1).bind fun r521 => (if r518 = true then (if r521 = true then (some 0) else (some (-1))) else (if r521 = true then (some 1) else (if a0 < a1 then (some (-1)) else (if a1 < a0 then (some 1) else (some 0))))))
theorem ncmp_Compare_int__ok (k : Nat) (a0 : Int) (a1 : Int) (r : Int) (h : ncmp_Compare_int_ k a0 a1 = some r) : VC Go.Proofs.Try.prog 38 [vi a0, vi a1] (vi r) := by
 unfold ncmp_Compare_int_ at h
 obtain ⟨r518, h519, h⟩ := bs h
 have e520 := (ti (an (ncmp_isNaN_int__ok k a0 _ h519) (ti trivial)))
 obtain ⟨r521, h522, h⟩ := bs h
 have e523 := (ti (an (ncmp_isNaN_int__ok k a1 _ h522) (ti trivial)))
 rcases ifs h with ⟨h524, h⟩ | ⟨h524, h⟩
 ·rcases ifs h with ⟨h525, h⟩ | ⟨h525, h⟩
  ·injection h with h; subst h
   exact fun_ok pm pn Go.Proofs.Try.func38 (r0 := vi 0) (ans := [.reg (.n :: []), .reg (.n :: .call (vb r518) :: .n :: []), .reg (.n :: .call (vb r521) :: .n :: []), .reg (.n :: []), .br true, .reg (.n :: []), .br true, .reg (.n :: [])]) (fr := true) (by kernel_rfl) (an (an (ti trivial) (an e520 (an e523 (an (ti trivial) (an h524 (an (ti trivial) (an h525 (an (ti trivial) trivial)))))))) (ti trivial)) (Wv.refl _)
  ·injection h with h; subst h
   exact fun_ok pm pn Go.Proofs.Try.func38 (r0 := vi (-1)) (ans := [.reg (.n :: []), .reg (.n :: .call (vb r518) :: .n :: []), .reg (.n :: .call (vb r521) :: .n :: []), .reg (.n :: []), .br true, .reg (.n :: []), .br false, .reg (.n :: [])]) (fr := true) (by kernel_rfl) (an (an (ti trivial) (an e520 (an e523 (an (ti trivial) (an h524 (an (an (ti trivial) (an (bool_f h525) trivial)) (an (ti trivial) trivial))))))) (ti trivial)) (Wv.refl _)
 ·rcases ifs h with ⟨h526, h⟩ | ⟨h526, h⟩
  ·injection h with h; subst h
   exact fun_ok pm pn Go.Proofs.Try.func38 (r0 := vi 1) (ans := [.reg (.n :: []), .reg (.n :: .call (vb r518) :: .n :: []), .reg (.n :: .call (vb r521) :: .n :: []), .reg (.n :: []), .br false, .reg (.n :: []), .br true, .reg (.n :: [])]) (fr := true) (by kernel_rfl) (an (an (ti trivial) (an e520 (an e523 (an (an (ti trivial) (an (bool_f h524) trivial)) (an (ti trivial) (an h526 (an (ti trivial) trivial))))))) (ti trivial)) (Wv.refl _)
  ·rcases ifs h with ⟨h527, h⟩ | ⟨h527, h⟩
   ·injection h with h; subst h
    exact fun_ok pm pn Go.Proofs.Try.func38 (r0 := vi (-1)) (ans := [.reg (.n :: []), .reg (.n :: .call (vb r518) :: .n :: []), .reg (.n :: .call (vb r521) :: .n :: []), .reg (.n :: []), .br false, .reg (.n :: []), .br false, .reg (nN 3 []), .br true, .reg (.n :: [])]) (fr := true) (by kernel_rfl) (an (an (ti trivial) (an e520 (an e523 (an (an (ti trivial) (an (bool_f h524) trivial)) (an (an (ti trivial) (an (bool_f h526) trivial)) (an (ti (ti (ti trivial))) (an (decide_eq_true h527) (an (ti trivial) trivial)))))))) (ti trivial)) (Wv.refl _)
   ·rcases ifs h with ⟨h528, h⟩ | ⟨h528, h⟩
    ·injection h with h; subst h
     exact fun_ok pm pn Go.Proofs.Try.func38 (r0 := vi 1) (ans := [.reg (.n :: []), .reg (.n :: .call (vb r518) :: .n :: []), .reg (.n :: .call (vb r521) :: .n :: []), .reg (.n :: []), .br false, .reg (.n :: []), .br false, .reg (nN 3 []), .br false, .reg (nN 3 []), .br true, .reg (.n :: [])]) (fr := true) (by kernel_rfl) (an (an (ti trivial) (an e520 (an e523 (an (an (ti trivial) (an (bool_f h524) trivial)) (an (an (ti trivial) (an (bool_f h526) trivial)) (an (an (ti (ti (ti trivial))) (an (decide_eq_false h527) trivial)) (an (ti (ti (ti trivial))) (an (decide_eq_true h528) (an (ti trivial) trivial))))))))) (ti trivial)) (Wv.refl _)
    ·injection h with h; subst h
     exact fun_ok pm pn Go.Proofs.Try.func38 (r0 := vi 0) (ans := [.reg (.n :: []), .reg (.n :: .call (vb r518) :: .n :: []), .reg (.n :: .call (vb r521) :: .n :: []), .reg (.n :: []), .br false, .reg (.n :: []), .br false, .reg (nN 3 []), .br false, .reg (nN 3 []), .br false, .reg (.n :: [])]) (fr := true) (by kernel_rfl) (an (an (ti trivial) (an e520 (an e523 (an (an (ti trivial) (an (bool_f h524) trivial)) (an (an (ti trivial) (an (bool_f h526) trivial)) (an (an (ti (ti (ti trivial))) (an (decide_eq_false h527) trivial)) (an (an (ti (ti (ti trivial))) (an (decide_eq_false h528) trivial)) (an (ti trivial) trivial)))))))) (ti trivial)) (Wv.refl _)
def nfigure_leastSquare_1 (k : Nat) (a0 : SFrac) (a1 : SFrac) : Option Int :=
  (ncmp_Compare_int_ k (w64 (a0.Num * a1.Den)) (w64 (a1.Num * a0.Den))).bind fun r533 => (some r533)
theorem nfigure_leastSquare_1_ok (k : Nat) (a0 : SFrac) (a1 : SFrac) (r : Int) (h : nfigure_leastSquare_1 k a0 a1 = some r) : VC Go.Proofs.Try.prog 37 [VV.ag (c_SFrac a0), VV.ag (c_SFrac a1)] (vi r) := by
 unfold nfigure_leastSquare_1 at h
 obtain ⟨r533, h534, h⟩ := bs h
 have e535 := (ncmp_Compare_int__ok k (w64 (a0.Num * a1.Den)) (w64 (a1.Num * a0.Den)) _ h534)
 have e536 := (ti (ti (ti (ti (ti (ti (ti (ti (ti (ti (an e535 (ti trivial))))))))))))
 injection h with h; subst h
 exact fun_ok pm pn Go.Proofs.Try.func37 (r0 := vi r533) (ans := [.reg (nN 3 []), .reg (nN 10 (.call (vi r533) :: .n :: []))]) (fr := true) (by kernel_rfl) (an (an (ti (ti (ti trivial))) (an e536 trivial)) (ti trivial)) (Wv.refl _)
theorem eqQ1_4 (z0 : (List SFrac)) (z1 : Int) (z2 : Int) (z3 : Int) : [VV.ag (c_SFrac (z0.getD z1.toNat default)), VV.ag (c_SFrac (⟨z2, z3⟩ : SFrac))] = [VV.ag (c_SFrac (z0.getD z1.toNat default)), VV.ag [vi z2, vi z3]] := by first | rfl | (simp only [unfr_vi, List.map_cons, List.map_nil, un_i, unfr_c_SFrac]; done) | (simp only [unfr_vi, List.map_cons, List.map_nil, un_i, unfr_c_SFrac]; rfl) | (simp only [unfr_vi, List.map_cons, List.map_nil, un_i, unfr_c_SFrac, c_SFrac, List.length_cons, List.length_nil, List.length_append]; done)
def arQ1_1 (z0 : (List SFrac)) (z1 : Int) (z2 : Int) : List Ans := (nN 4 (.v (VV.ag (c_SFrac (z0.getD z1.toNat default))) :: .n :: .call (vi z2) :: .n :: []))
def nslices_MinFunc_api_Frac_api_Frac__c1_figure_leastSquare_1_l0_0_h (a0 : (List SFrac)) (b1_0 : Int) (b1_1 : Int) (x6 : Int) : VS := ⟨mkA [(0, VV.tr (List.flatMap c_SFrac a0) a0.length), (1, VV.fn 37 []), (4, VV.pt 0 0), (5, VV.pt 1 0), (6, vi x6)], [some ⟨true, 1, [vi 0, vi 0]⟩, some ⟨true, 1, [vi b1_0, vi b1_1]⟩], .nil⟩
def nslices_MinFunc_api_Frac_api_Frac__c1_figure_leastSquare_1_l0_0_e0 (a0 : (List SFrac)) (r : Int × Int) : VS := ⟨mkA [(4, VV.pt 0 0), (5, VV.pt 1 0)], [some ⟨true, 1, [vi 0, vi 0]⟩, some ⟨true, 1, [vi r.1, vi r.2]⟩], .nil⟩
def nslices_MinFunc_api_Frac_api_Frac__c1_figure_leastSquare_1_l0_0 (k : Nat) (a0 : (List SFrac)) : Nat → Int → Int → Int → Option (Int × Int)
  | 0, _, _, _ => none
  | fuel + 1, b1_0, b1_1, x6 => if x6 < (a0.length : Int) then (if 0 ≤ x6 ∧ x6 < (a0.length : Int) then ((nfigure_leastSquare_1 k (a0.getD x6.toNat default) (⟨b1_0, b1_1⟩ : SFrac)).bind fun r588 => (if r588 < 0 then (nslices_MinFunc_api_Frac_api_Frac__c1_figure_leastSquare_1_l0_0 k a0 fuel ((a0.getD x6.toNat default).Num) ((a0.getD x6.toNat default).Den) (w64 (x6 + 1))) else (nslices_MinFunc_api_Frac_api_Frac__c1_figure_leastSquare_1_l0_0 k a0 fuel b1_0 b1_1 (w64 (x6 + 1))))) else none) else (some (b1_0, b1_1))
theorem nslices_MinFunc_api_Frac_api_Frac__c1_figure_leastSquare_1_l0_0_ok (k : Nat) (a0 : (List SFrac)) : ∀ (fuel : Nat) (b1_0 : Int) (b1_1 : Int) (x6 : Int) (r : Int × Int), nslices_MinFunc_api_Frac_api_Frac__c1_figure_leastSquare_1_l0_0 k a0 fuel b1_0 b1_1 x6 = some r → (VLoop none Go.Proofs.Try.prog (szF Go.Proofs.Try.f36) (bodyOf Go.Proofs.Try.f36 0) (nslices_MinFunc_api_Frac_api_Frac__c1_figure_leastSquare_1_l0_0_h a0 b1_0 b1_1 x6) (.exit 0) (nslices_MinFunc_api_Frac_api_Frac__c1_figure_leastSquare_1_l0_0_e0 a0 r)) := by
 intro fuel
 induction fuel with
 | zero => intro b1_0 b1_1 x6 r h; rw [nslices_MinFunc_api_Frac_api_Frac__c1_figure_leastSquare_1_l0_0.eq_1] at h; cases h
 | succ fuel ih =>
  intro b1_0 b1_1 x6 r h
  rw [nslices_MinFunc_api_Frac_api_Frac__c1_figure_leastSquare_1_l0_0.eq_2] at h
  rcases ifs h with ⟨h585, h⟩ | ⟨h585, h⟩
  ·obtain ⟨h586, h⟩ := ifn h
   have e587 := (show loadL Go.Proofs.Try.prog 25 (x6.toNat * 2) (List.flatMap c_SFrac a0) = some (VV.ag (c_SFrac (a0.getD x6.toNat default))) from ld_whole ag25 c_SFrac 2 sz25 len_c_SFrac a0 default h586 (by omega))
   obtain ⟨r588, h589, h⟩ := bs h
   have e590 := (VC.args (nfigure_leastSquare_1_ok k (a0.getD x6.toNat default) (⟨b1_0, b1_1⟩ : SFrac) _ h589) (eqQ1_4 a0 x6 b1_0 b1_1))
   have e591 := (ti (ti (ti (an h586 (an e587 (ti (an e590 (ti trivial))))))))
   rcases ifs h with ⟨h592, h⟩ | ⟨h592, h⟩
   ·have e593 := (show loadL Go.Proofs.Try.prog 25 (x6.toNat * 2) (List.flatMap c_SFrac a0) = some (VV.ag (c_SFrac (a0.getD x6.toNat default))) from ld_whole ag25 c_SFrac 2 sz25 len_c_SFrac a0 default h586 (by omega))
    have h2 := ih _ _ _ _ h
    obtain ⟨q, hv, hq⟩ := pkR (rd := none) (P := Go.Proofs.Try.prog) (fn := Go.Proofs.Try.f36) (k := 0) (s := (nslices_MinFunc_api_Frac_api_Frac__c1_figure_leastSquare_1_l0_0_h a0 b1_0 b1_1 x6)) (ans := [.reg (nN 4 []), .br true, .reg (arQ1_1 a0 x6 r588), .br true, .reg (nN 3 (.v (VV.ag (c_SFrac (a0.getD x6.toNat default))) :: .n :: [])), .reg (nN 3 [])]) (c := ⟨[(0, none), (1, none), (4, none), (5, none), (6, none)], [none, none], []⟩) (e := .normal) (s1 := (nslices_MinFunc_api_Frac_api_Frac__c1_figure_leastSquare_1_l0_0_h a0 ((a0.getD x6.toNat default).Num) ((a0.getD x6.toNat default).Den) (w64 (x6 + 1)))) (an (an (an (ti (ti (ti (ti trivial)))) (an (decide_eq_true h585) trivial)) (an (an e591 (an (decide_eq_true h592) (ti (ti (an h586 (an e593 (ti trivial))))))) (ti (ti (ti trivial))))) (ti trivial)) (by kernel_rfl)
    exact round_next pm pn hv hq h2
   ·have h2 := ih _ _ _ _ h
    obtain ⟨q, hv, hq⟩ := pkR (rd := none) (P := Go.Proofs.Try.prog) (fn := Go.Proofs.Try.f36) (k := 0) (s := (nslices_MinFunc_api_Frac_api_Frac__c1_figure_leastSquare_1_l0_0_h a0 b1_0 b1_1 x6)) (ans := [.reg (nN 4 []), .br true, .reg (arQ1_1 a0 x6 r588), .br false, .reg (nN 3 [])]) (c := ⟨[(0, none), (1, none), (4, none), (5, none), (6, none)], [none, none], []⟩) (e := .normal) (s1 := (nslices_MinFunc_api_Frac_api_Frac__c1_figure_leastSquare_1_l0_0_h a0 b1_0 b1_1 (w64 (x6 + 1)))) (an (an (an (ti (ti (ti (ti trivial)))) (an (decide_eq_true h585) trivial)) (an (an e591 (an (decide_eq_false h592) trivial)) (ti (ti (ti trivial))))) (ti trivial)) (by kernel_rfl)
    exact round_next pm pn hv hq h2
  ·injection h with h; subst h
   exact round_stop (c := ⟨[(4, none), (5, none)], [none, none], []⟩) (s1 := (nslices_MinFunc_api_Frac_api_Frac__c1_figure_leastSquare_1_l0_0_e0 a0 (b1_0, b1_1))) pm pn (ans := [.reg (nN 4 []), .br false]) (by kernel_rfl) (by intro e; cases e) (an (an (ti (ti (ti (ti trivial)))) (an (decide_eq_false h585) trivial)) (ti trivial))
theorem eqQ1_5 (z0 : Int × Int) : VV.ag [vi z0.1, vi z0.2] = VV.ag (c_SFrac (⟨z0.1, z0.2⟩ : SFrac)) := by first | rfl | (simp only [unfr_vi, List.map_cons, List.map_nil, un_i, unfr_c_SFrac]; done) | (simp only [unfr_vi, List.map_cons, List.map_nil, un_i, unfr_c_SFrac]; rfl) | (simp only [unfr_vi, List.map_cons, List.map_nil, un_i, unfr_c_SFrac, c_SFrac, List.length_cons, List.length_nil, List.length_append]; done)
def nslices_MinFunc_api_Frac_api_Frac__c1_figure_leastSquare_1 (k : Nat) (a0 : (List SFrac)) (a1 : Unit) : Option SFrac :=
  if (a0.length : Int) < 1 then none else (if (0 : Int) ≤ 0 ∧ 0 < (a0.length : Int) then ((nslices_MinFunc_api_Frac_api_Frac__c1_figure_leastSquare_1_l0_0 k a0 k ((a0.getD ((0 : Int)).toNat default).Num) ((a0.getD ((0 : Int)).toNat default).Den) 1).bind fun r595 => (some (⟨r595.1, r595.2⟩ : SFrac))) else none)
theorem nslices_MinFunc_api_Frac_api_Frac__c1_figure_leastSquare_1_ok (k : Nat) (a0 : (List SFrac)) (a1 : Unit) (r : SFrac) (h : nslices_MinFunc_api_Frac_api_Frac__c1_figure_leastSquare_1 k a0 a1 = some r) : VC Go.Proofs.Try.prog 36 [VV.tr (List.flatMap c_SFrac a0) a0.length, VV.fn 37 []] (VV.ag (c_SFrac r)) := by
 unfold nslices_MinFunc_api_Frac_api_Frac__c1_figure_leastSquare_1 at h
 rcases ifs h with ⟨h564, h⟩ | ⟨h564, h⟩
 ·cases h
 ·obtain ⟨h565, h⟩ := ifn h
  have e566 := (show loadL Go.Proofs.Try.prog 25 (((0 : Int)).toNat * 2) (List.flatMap c_SFrac a0) = some (VV.ag (c_SFrac (a0.getD ((0 : Int)).toNat default))) from ld_whole ag25 c_SFrac 2 sz25 len_c_SFrac a0 default h565 (by omega))
  obtain ⟨r595, h594, h⟩ := bs h
  have hph594 := nslices_MinFunc_api_Frac_api_Frac__c1_figure_leastSquare_1_l0_0_ok k a0 _ _ _ _ _ h594
  have e596 := (an (ti trivial) (VRun.loop hph594))
  injection h with h; subst h
  exact fun_ok pm pn Go.Proofs.Try.func36 (r0 := VV.ag [vi r595.1, vi r595.2]) (ans := [.reg (.n :: []), .reg (nN 3 []), .br false, .reg (.n :: .n :: .v (VV.ag (c_SFrac (a0.getD ((0 : Int)).toNat default))) :: .n :: .n :: []), .reg (.n :: []), .sub ⟨[(0, none), (1, none), (4, none), (5, none), (6, none)], [none, none], []⟩ (.exit 0) (nslices_MinFunc_api_Frac_api_Frac__c1_figure_leastSquare_1_l0_0_e0 a0 r595), .reg (.n :: .n :: [])]) (fr := true) (by kernel_rfl) (an (an (ti trivial) (an (an (ti (ti (ti trivial))) (an (decide_eq_false h564) trivial)) (an (ti (an h565 (an e566 (ti (ti trivial))))) (an (an (ti trivial) e596) (an (ti (ti trivial)) trivial))))) (an (ti (ti (ti trivial))) trivial)) (Wv.of_eq (eqQ1_5 r595))
theorem eqQ1_6 (z0 : (List SFrac)) : [VV.tr (List.flatMap c_SFrac z0) z0.length, VV.fn 37 []] = [VV.tr (List.drop 0 (List.map unfr (List.flatMap c_SFrac z0))) z0.length, VV.fn 37 []] := by first | rfl | (simp only [drop0, List.map_cons, List.map_nil, un_tr, List.length_map, List.length_cons, List.length_nil, unfr_c_SFrac]; done) | (simp only [drop0, List.map_cons, List.map_nil, un_tr, List.length_map, List.length_cons, List.length_nil, unfr_c_SFrac]; rfl) | (simp only [drop0, List.map_cons, List.map_nil, un_tr, List.length_map, List.length_cons, List.length_nil, unfr_c_SFrac, c_SFrac, List.length_cons, List.length_nil, List.length_append]; done)
def nfigure_leastSquare_l0_0_h (a0 : (List SRange)) (y1 : List SFrac) (x8 : Int) : VS := ⟨mkA [(0, VV.tr (List.flatMap c_SRange a0) a0.length), (2, VV.pt 0 0), (3, VV.rf 1 0 y1.length), (6, VV.tr (List.flatMap c_SRange a0) a0.length), (7, vi (a0.length : Int)), (8, vi x8)], [some ⟨true, 1, [vi 0, vi 0]⟩, some ⟨false, 2, List.flatMap c_SFrac y1⟩], .nil⟩
def nfigure_leastSquare_l0_0_e0 (a0 : (List SRange)) (r : (List SFrac)) : VS := ⟨mkA [(2, VV.pt 0 0), (3, VV.rf 1 0 r.length)], [some ⟨true, 1, [vi 0, vi 0]⟩, some ⟨false, 2, List.flatMap c_SFrac r⟩], .nil⟩
def nfigure_leastSquare_l0_0 (k : Nat) (a0 : (List SRange)) : Nat → (List SFrac) → Int → Option ((List SFrac))
  | 0, _, _ => none
  | fuel + 1, y1, x8 => if x8 < (a0.length : Int) then (if 0 ≤ x8 ∧ x8 < (a0.length : Int) then ((nfigure_nearestMean k a0 ((a0.getD x8.toNat default).Lo)).bind fun r657 => ((nfigure_squareAbout k a0 r657).bind fun r660 => ((nfigure_nearestMean k a0 ((a0.getD x8.toNat default).Hi)).bind fun r663 => ((nfigure_squareAbout k a0 r663).bind fun r666 => (if y1.length + ([r660, r666] : List SFrac).length ≤ 1000000000 then (nfigure_leastSquare_l0_0 k a0 fuel (y1 ++ ([r660, r666] : List SFrac)) (w64 (x8 + 1))) else none))))) else none) else (some y1)
theorem nfigure_leastSquare_l0_0_ok (k : Nat) (a0 : (List SRange)) : ∀ (fuel : Nat) (y1 : List SFrac) (x8 : Int) (r : (List SFrac)), nfigure_leastSquare_l0_0 k a0 fuel y1 x8 = some r → (VLoop none Go.Proofs.Try.prog (szF Go.Proofs.Try.f16) (bodyOf Go.Proofs.Try.f16 0) (nfigure_leastSquare_l0_0_h a0 y1 x8) (.exit 0) (nfigure_leastSquare_l0_0_e0 a0 r)) := by
 intro fuel
 induction fuel with
 | zero => intro y1 x8 r h; rw [nfigure_leastSquare_l0_0.eq_1] at h; cases h
 | succ fuel ih =>
  intro y1 x8 r h
  rw [nfigure_leastSquare_l0_0.eq_2] at h
  rcases ifs h with ⟨h654, h⟩ | ⟨h654, h⟩
  ·obtain ⟨h655, h⟩ := ifn h
   have e656 := (show loadL Go.Proofs.Try.prog 54 (x8.toNat * 2) (List.flatMap c_SRange a0) = some (VV.ag (c_SRange (a0.getD x8.toNat default))) from ld_whole ag54 c_SRange 2 sz54 len_c_SRange a0 default h655 (by omega))
   obtain ⟨r657, h658, h⟩ := bs h
   have e659 := (nfigure_nearestMean_ok k a0 ((a0.getD x8.toNat default).Lo) _ h658)
   obtain ⟨r660, h661, h⟩ := bs h
   have e662 := (nfigure_squareAbout_ok k a0 r657 _ h661)
   obtain ⟨r663, h664, h⟩ := bs h
   have e665 := (nfigure_nearestMean_ok k a0 ((a0.getD x8.toNat default).Hi) _ h664)
   obtain ⟨r666, h667, h⟩ := bs h
   have e668 := (nfigure_squareAbout_ok k a0 r663 _ h667)
   obtain ⟨h669, h⟩ := ifn h
   have e670 := (show List.length (List.flatMap c_SFrac y1) = y1.length * 2 ∧ List.length [vi r660.Num, vi r660.Den, vi r666.Num, vi r666.Den] = 2 * 2 ∧ (y1.length + 2) * 16 ≤ 140737488355328 ∧ y1.length + 2 < 1099511627776 ∧ List.all [vi r660.Num, vi r660.Den, vi r666.Num, vi r666.Den] VV.still = true from ⟨(by rw [flatMap_len len_c_SFrac] <;> simp), (by rw [show [vi r660.Num, vi r660.Den, vi r666.Num, vi r666.Den] = List.flatMap c_SFrac ([r660, r666] : List SFrac) from rfl]; rw [flatMap_len len_c_SFrac] <;> simp), (by first | omega | (simp at h669 ⊢; omega)), (by first | omega | (simp at h669 ⊢; omega)), (by rw [show [vi r660.Num, vi r660.Den, vi r666.Num, vi r666.Den] = List.flatMap c_SFrac ([r660, r666] : List SFrac) from rfl]; exact still_c_SFrac _)⟩)
   have e671 := (ti (ti (ti (ti (ti (an e659 (an e662 (ti (ti (ti (ti (an e665 (an e668 (ti (an e670 (ti trivial))))))))))))))))
   have h2 := ih _ _ _ h
   obtain ⟨q, hv, hq⟩ := pkR (rd := none) (P := Go.Proofs.Try.prog) (fn := Go.Proofs.Try.f16) (k := 0) (s := (nfigure_leastSquare_l0_0_h a0 y1 x8)) (ans := [.reg (.n :: []), .br true, .reg (.n :: .v (VV.ag (c_SRange (a0.getD x8.toNat default))) :: .n :: .n :: []), .reg (arQ1_0 r657 r660 r663 r666), .reg (.n :: .n :: [])]) (c := ⟨[(0, none), (2, none), (3, some (VV.rf 1 0 ((y1 ++ ([r660, r666] : List SFrac)).length))), (6, none), (7, none), (8, none)], [none, some (List.flatMap c_SFrac (y1 ++ ([r660, r666] : List SFrac)))], []⟩) (e := .normal) (s1 := (nfigure_leastSquare_l0_0_h a0 (y1 ++ ([r660, r666] : List SFrac)) (w64 (x8 + 1)))) (an (an (ti trivial) (an (an (decide_eq_true h654) trivial) (an (an (an h655 (an e656 (ti (ti trivial)))) e671) (ti (ti trivial))))) (an (an (show Wv (VV.rf 1 0 (y1.length + 2)) (VV.rf 1 0 ((y1 ++ ([r660, r666] : List SFrac)).length)) from (Wv.of_eq (by simp))) trivial) (an (show (List.flatMap c_SFrac y1) ++ [vi r660.Num, vi r660.Den, vi r666.Num, vi r666.Den] = List.flatMap c_SFrac (y1 ++ ([r660, r666] : List SFrac)) from (by rw [show [vi r660.Num, vi r660.Den, vi r666.Num, vi r666.Den] = List.flatMap c_SFrac ([r660, r666] : List SFrac) from rfl]; exact List.flatMap_append.symm)) trivial))) (by kernel_rfl)
   exact round_next pm pn hv hq h2
  ·injection h with h; subst h
   exact round_stop (c := ⟨[(2, none), (3, none)], [none, none], []⟩) (s1 := (nfigure_leastSquare_l0_0_e0 a0 y1)) pm pn (ans := [.reg (.n :: []), .br false]) (by kernel_rfl) (by intro e; cases e) (an (an (ti trivial) (an (decide_eq_false h654) trivial)) (ti trivial))
def nfigure_leastSquare (k : Nat) (a0 : (List SRange)) : Option SFrac :=
  (nfigure_leastSquare_l0_0 k a0 k ([] : List SFrac) 0).bind fun r673 => ((nslices_MinFunc_api_Frac_api_Frac__c1_figure_leastSquare_1 k r673 ()).bind fun r675 => (some r675))
theorem nfigure_leastSquare_ok (k : Nat) (a0 : (List SRange)) (r : SFrac) (h : nfigure_leastSquare k a0 = some r) : VC Go.Proofs.Try.prog 16 [VV.tr (List.flatMap c_SRange a0) a0.length] (VV.ag (c_SFrac r)) := by
 unfold nfigure_leastSquare at h
 obtain ⟨r673, h672, h⟩ := bs h
 have hph672 := nfigure_leastSquare_l0_0_ok k a0 _ _ _ _ h672
 have e674 := (an (ti trivial) (VRun.loop hph672))
 obtain ⟨r675, h676, h⟩ := bs h
 have e677 := (VC.args (nslices_MinFunc_api_Frac_api_Frac__c1_figure_leastSquare_1_ok k r673 () _ h676) (eqQ1_6 r673))
 injection h with h; subst h
 exact fun_ok pm pn Go.Proofs.Try.func16 (r0 := VV.ag (c_SFrac r675)) (ans := [.reg (.n :: []), .reg (.n :: []), .reg (nN 3 []), .sub ⟨[(0, none), (2, none), (3, none), (6, none), (7, none), (8, none)], [none], [.t 3 2]⟩ (.exit 0) (nfigure_leastSquare_l0_0_e0 a0 r673), .reg (.n :: .call (VV.ag (c_SFrac r675)) :: .n :: [])]) (fr := true) (by kernel_rfl) (an (an (ti trivial) (an (ti trivial) (an (an (ti (ti (ti trivial))) e674) (an (ti (an e677 (ti trivial))) trivial)))) (an (ti (ti (ti trivial))) trivial)) (Wv.refl _)
def nfigure_squareTimesDen_l0_0_h (a0 : (List Int)) (x3 : Int) (x9 : Int) : VS := ⟨mkA [(0, VV.tr (List.map vi a0) a0.length), (3, vi x3), (7, VV.tr (List.map vi a0) a0.length), (8, vi (a0.length : Int)), (9, vi x9)], [], .nil⟩
def nfigure_squareTimesDen_l0_0_e0 (a0 : (List Int)) (r : Int) : VS := ⟨mkA [(0, VV.tr (List.map vi a0) a0.length), (3, vi r)], [], .nil⟩
def nfigure_squareTimesDen_l0_0 (k : Nat) (a0 : (List Int)) : Nat → Int → Int → Option (Int)
  | 0, _, _ => none
  | fuel + 1, x3, x9 => if x9 < (a0.length : Int) then (if 0 ≤ x9 ∧ x9 < (a0.length : Int) then (nfigure_squareTimesDen_l0_0 k a0 fuel (w64 (x3 + (w64 ((a0.getD x9.toNat 0) * (a0.getD x9.toNat 0))))) (w64 (x9 + 1))) else none) else (some x3)
theorem nfigure_squareTimesDen_l0_0_ok (k : Nat) (a0 : (List Int)) : ∀ (fuel : Nat) (x3 : Int) (x9 : Int) (r : Int), nfigure_squareTimesDen_l0_0 k a0 fuel x3 x9 = some r → (VLoop none Go.Proofs.Try.prog (szF Go.Proofs.Try.f39) (bodyOf Go.Proofs.Try.f39 0) (nfigure_squareTimesDen_l0_0_h a0 x3 x9) (.exit 0) (nfigure_squareTimesDen_l0_0_e0 a0 r)) := by
 intro fuel
 induction fuel with
 | zero => intro x3 x9 r h; rw [nfigure_squareTimesDen_l0_0.eq_1] at h; cases h
 | succ fuel ih =>
  intro x3 x9 r h
  rw [nfigure_squareTimesDen_l0_0.eq_2] at h
  rcases ifs h with ⟨h743, h⟩ | ⟨h743, h⟩
  ·obtain ⟨h744, h⟩ := ifn h
   have e745 := (show loadL Go.Proofs.Try.prog 3 (x9.toNat * 1) (List.map vi a0) = some (vi (a0.getD x9.toNat 0)) from ld_map ag3 vi a0 0 h744 (by omega))
   have h2 := ih _ _ _ h
   obtain ⟨q, hv, hq⟩ := pkR (rd := none) (P := Go.Proofs.Try.prog) (fn := Go.Proofs.Try.f39) (k := 0) (s := (nfigure_squareTimesDen_l0_0_h a0 x3 x9)) (ans := [.reg (.n :: []), .br true, .reg (.n :: .v (vi (a0.getD x9.toNat 0)) :: .n :: []), .reg (nN 6 []), .reg (.n :: .n :: [])]) (c := ⟨[(0, none), (3, none), (7, none), (8, none), (9, none)], [], []⟩) (e := .normal) (s1 := (nfigure_squareTimesDen_l0_0_h a0 (w64 (x3 + (w64 ((a0.getD x9.toNat 0) * (a0.getD x9.toNat 0))))) (w64 (x9 + 1)))) (an (an (ti trivial) (an (an (decide_eq_true h743) trivial) (an (an (an h744 (an e745 (ti trivial))) (ti (ti (ti (ti (ti (ti trivial))))))) (ti (ti trivial))))) (ti trivial)) (by kernel_rfl)
   exact round_next pm pn hv hq h2
  ·injection h with h; subst h
   exact round_stop (c := ⟨[(0, none), (3, none)], [], []⟩) (s1 := (nfigure_squareTimesDen_l0_0_e0 a0 x3)) pm pn (ans := [.reg (.n :: []), .br false]) (by kernel_rfl) (by intro e; cases e) (an (an (ti trivial) (an (decide_eq_false h743) trivial)) (ti trivial))
def nfigure_squareTimesDen (k : Nat) (a0 : (List Int)) : Option Int :=
  (nfigure_squareTimesDen_l0_0 k a0 k 0 0).bind fun r747 => ((nfigure_total k a0).bind fun r749 => (some (w64 ((w64 ((a0.length : Int) * r747)) - (w64 (r749 * r749))))))
theorem nfigure_squareTimesDen_ok (k : Nat) (a0 : (List Int)) (r : Int) (h : nfigure_squareTimesDen k a0 = some r) : VC Go.Proofs.Try.prog 39 [VV.tr (List.map vi a0) a0.length] (vi r) := by
 unfold nfigure_squareTimesDen at h
 obtain ⟨r747, h746, h⟩ := bs h
 have hph746 := nfigure_squareTimesDen_l0_0_ok k a0 _ _ _ _ h746
 have e748 := (an (ti trivial) (VRun.loop hph746))
 obtain ⟨r749, h750, h⟩ := bs h
 have e751 := (ti (an (nfigure_total_ok k a0 _ h750) (ti trivial)))
 have e752 := (ti (ti (ti (ti (ti (ti (ti (ti (ti trivial)))))))))
 injection h with h; subst h
 exact fun_ok pm pn Go.Proofs.Try.func39 (r0 := vi (w64 ((w64 ((a0.length : Int) * r747)) - (w64 (r749 * r749))))) (ans := [.reg (.n :: []), .reg (.n :: []), .reg (nN 3 []), .sub ⟨[(0, none), (3, none), (7, none), (8, none), (9, none)], [], []⟩ (.exit 0) (nfigure_squareTimesDen_l0_0_e0 a0 r747), .reg (.n :: .call (vi r749) :: .n :: []), .reg (nN 9 [])]) (fr := true) (by kernel_rfl) (an (an (ti trivial) (an (ti trivial) (an (an (ti (ti (ti trivial))) e748) (an e751 (an e752 trivial))))) (ti trivial)) (Wv.refl _)
theorem eqQ1_7 (z0 : Int × (List Int)) : [VV.tr (List.map vi z0.2) z0.2.length] = [VV.tr (List.drop 0 (List.map unfr (List.map vi z0.2))) z0.2.length] := by first | rfl | (simp only [drop0, unfr_vi, List.map_cons, List.map_nil, un_i, un_tr, List.length_map, List.length_cons, List.length_nil]; done) | (simp only [drop0, unfr_vi, List.map_cons, List.map_nil, un_i, un_tr, List.length_map, List.length_cons, List.length_nil]; rfl) | (simp only [drop0, unfr_vi, List.map_cons, List.map_nil, un_i, un_tr, List.length_map, List.length_cons, List.length_nil, List.length_cons, List.length_nil, List.length_append]; done)
def nfigure_greatestSquare_l1_0_h (a0 : (List SRange)) (x13 : Int) (x14 : Int) (x4 : Int) (y1z : List Int) (x19 : Int) : VS := ⟨mkA [(0, VV.tr (List.flatMap c_SRange a0) a0.length), (2, VV.pt 0 0), (3, VV.rf 1 0 y1z.length), (4, vi x4), (5, vi x14), (13, vi x13), (14, vi x14), (17, VV.tr (List.flatMap c_SRange a0) a0.length), (18, vi (a0.length : Int)), (19, vi x19)], [some ⟨true, 1, [vi 0, vi 0]⟩, some ⟨false, 1, List.map vi y1z⟩], .nil⟩
def nfigure_greatestSquare_l1_0_e0 (a0 : (List SRange)) (x13 : Int) (x14 : Int) (x4 : Int) (r : (List Int)) : VS := ⟨mkA [(0, VV.tr (List.flatMap c_SRange a0) a0.length), (2, VV.pt 0 0), (3, VV.rf 1 0 r.length), (4, vi x4), (13, vi x13), (14, vi x14)], [some ⟨true, 1, [vi 0, vi 0]⟩, some ⟨false, 1, List.map vi r⟩], .nil⟩
def nfigure_greatestSquare_l1_0 (k : Nat) (a0 : (List SRange)) (x13 : Int) (x14 : Int) (x4 : Int) : Nat → (List Int) → Int → Option ((List Int))
  | 0, _, _ => none
  | fuel + 1, y1z, x19 => if x19 < (a0.length : Int) then (if 0 ≤ x19 ∧ x19 < (a0.length : Int) then (if 0 ≤ x19 ∧ x19 < (y1z.length : Int) then (if 0 ≤ x19 then (if (bits2 (fun _ x y => x &&& y) .i64 (x14.fdiv (2 ^ (min (x19 : Int).toNat 64))) 1) = 1 then (if 0 ≤ x19 ∧ x19 < ((y1z.set x19.toNat ((a0.getD x19.toNat default).Lo)).length : Int) then (if x19 < ((y1z.length : Nat) : Int) then (nfigure_greatestSquare_l1_0 k a0 x13 x14 x4 fuel ((y1z.set x19.toNat ((a0.getD x19.toNat default).Lo)).set x19.toNat ((a0.getD x19.toNat default).Hi)) (w64 (x19 + 1))) else none) else none) else (nfigure_greatestSquare_l1_0 k a0 x13 x14 x4 fuel (y1z.set x19.toNat ((a0.getD x19.toNat default).Lo)) (w64 (x19 + 1)))) else none) else none) else none) else (some y1z)
theorem nfigure_greatestSquare_l1_0_ok (k : Nat) (a0 : (List SRange)) (x13 : Int) (x14 : Int) (x4 : Int) : ∀ (fuel : Nat) (y1z : List Int) (x19 : Int) (r : (List Int)), nfigure_greatestSquare_l1_0 k a0 x13 x14 x4 fuel y1z x19 = some r → (VLoop none Go.Proofs.Try.prog (szF Go.Proofs.Try.f17) (bodyOf Go.Proofs.Try.f17 1) (nfigure_greatestSquare_l1_0_h a0 x13 x14 x4 y1z x19) (.exit 2) (nfigure_greatestSquare_l1_0_e0 a0 x13 x14 x4 r)) := by
 intro fuel
 induction fuel with
 | zero => intro y1z x19 r h; rw [nfigure_greatestSquare_l1_0.eq_1] at h; cases h
 | succ fuel ih =>
  intro y1z x19 r h
  rw [nfigure_greatestSquare_l1_0.eq_2] at h
  rcases ifs h with ⟨h950, h⟩ | ⟨h950, h⟩
  ·obtain ⟨h951, h⟩ := ifn h
   have e952 := (show loadL Go.Proofs.Try.prog 54 (x19.toNat * 2) (List.flatMap c_SRange a0) = some (VV.ag (c_SRange (a0.getD x19.toNat default))) from ld_whole ag54 c_SRange 2 sz54 len_c_SRange a0 default h951 (by omega))
   obtain ⟨h953, h⟩ := ifn h
   have e954 := (show (0 + x19.toNat * 1) + 1 ≤ List.length (List.map vi y1z) from (by simp only [List.length_map]; omega))
   obtain ⟨h955, h⟩ := ifn h
   rcases ifs h with ⟨h956, h⟩ | ⟨h956, h⟩
   ·obtain ⟨h957, h⟩ := ifn h
    obtain ⟨h958, h⟩ := ifn h
    have e959 := (show 0 ≤ x19 ∧ x19 < ((y1z.length : Nat) : Int) from ⟨h957.1, h958⟩)
    have e960 := (show (0 + x19.toNat * 1) + 1 ≤ List.length (putT (0 + x19.toNat * 1) (List.map vi y1z) [vi ((a0.getD x19.toNat default).Lo)]) from (by rw [show putT (0 + x19.toNat * 1) (List.map vi y1z) [vi ((a0.getD x19.toNat default).Lo)] = List.map vi (y1z.set x19.toNat ((a0.getD x19.toNat default).Lo)) from (by exact putT_vi y1z h953 ((a0.getD x19.toNat default).Lo) (by omega))]; simp only [List.length_map]; omega))
    have h2 := ih _ _ _ h
    obtain ⟨q, hv, hq⟩ := pkR (rd := none) (P := Go.Proofs.Try.prog) (fn := Go.Proofs.Try.f17) (k := 1) (s := (nfigure_greatestSquare_l1_0_h a0 x13 x14 x4 y1z x19)) (ans := [.reg (.n :: []), .br true, .reg (.n :: .n :: .v (VV.ag (c_SRange (a0.getD x19.toNat default))) :: nN 3 []), .reg (nN 6 []), .reg (nN 5 []), .br true, .reg (nN 6 []), .reg (.n :: .n :: [])]) (c := ⟨[(0, none), (2, none), (3, some (VV.rf 1 0 (((y1z.set x19.toNat ((a0.getD x19.toNat default).Lo)).set x19.toNat ((a0.getD x19.toNat default).Hi)).length))), (4, none), (5, none), (13, none), (14, none), (17, none), (18, none), (19, none)], [none, some (List.map vi ((y1z.set x19.toNat ((a0.getD x19.toNat default).Lo)).set x19.toNat ((a0.getD x19.toNat default).Hi)))], []⟩) (e := .normal) (s1 := (nfigure_greatestSquare_l1_0_h a0 x13 x14 x4 ((y1z.set x19.toNat ((a0.getD x19.toNat default).Lo)).set x19.toNat ((a0.getD x19.toNat default).Hi)) (w64 (x19 + 1)))) (an (an (ti trivial) (an (an (decide_eq_true h950) trivial) (an (an (ti (an h951 (an e952 (ti (ti (ti trivial)))))) (an (ti (ti (ti (ti (an h953 (an e954 trivial)))))) (an (ti (ti (an h955 (ti (ti trivial))))) (an (decide_eq_true h956) (ti (ti (ti (ti (an e959 (an e960 trivial)))))))))) (ti (ti trivial))))) (an (an (show Wv (VV.rf 1 0 y1z.length) (VV.rf 1 0 (((y1z.set x19.toNat ((a0.getD x19.toNat default).Lo)).set x19.toNat ((a0.getD x19.toNat default).Hi)).length)) from (Wv.of_eq (by simp))) trivial) (an (show putT (0 + x19.toNat * 1) (putT (0 + x19.toNat * 1) (List.map vi y1z) [vi ((a0.getD x19.toNat default).Lo)]) [vi ((a0.getD x19.toNat default).Hi)] = List.map vi ((y1z.set x19.toNat ((a0.getD x19.toNat default).Lo)).set x19.toNat ((a0.getD x19.toNat default).Hi)) from (by rw [show putT (0 + x19.toNat * 1) (List.map vi y1z) [vi ((a0.getD x19.toNat default).Lo)] = List.map vi (y1z.set x19.toNat ((a0.getD x19.toNat default).Lo)) from (by exact putT_vi y1z h953 ((a0.getD x19.toNat default).Lo) (by omega))]; exact putT_vi (y1z.set x19.toNat ((a0.getD x19.toNat default).Lo)) h957 ((a0.getD x19.toNat default).Hi) (by omega))) trivial))) (by kernel_rfl)
    exact round_next pm pn hv hq h2
   ·have h2 := ih _ _ _ h
    obtain ⟨q, hv, hq⟩ := pkR (rd := none) (P := Go.Proofs.Try.prog) (fn := Go.Proofs.Try.f17) (k := 1) (s := (nfigure_greatestSquare_l1_0_h a0 x13 x14 x4 y1z x19)) (ans := [.reg (.n :: []), .br true, .reg (.n :: .n :: .v (VV.ag (c_SRange (a0.getD x19.toNat default))) :: nN 3 []), .reg (nN 6 []), .reg (nN 5 []), .br false, .reg (.n :: .n :: [])]) (c := ⟨[(0, none), (2, none), (3, some (VV.rf 1 0 ((y1z.set x19.toNat ((a0.getD x19.toNat default).Lo)).length))), (4, none), (5, none), (13, none), (14, none), (17, none), (18, none), (19, none)], [none, some (List.map vi (y1z.set x19.toNat ((a0.getD x19.toNat default).Lo)))], []⟩) (e := .normal) (s1 := (nfigure_greatestSquare_l1_0_h a0 x13 x14 x4 (y1z.set x19.toNat ((a0.getD x19.toNat default).Lo)) (w64 (x19 + 1)))) (an (an (ti trivial) (an (an (decide_eq_true h950) trivial) (an (an (ti (an h951 (an e952 (ti (ti (ti trivial)))))) (an (ti (ti (ti (ti (an h953 (an e954 trivial)))))) (an (ti (ti (an h955 (ti (ti trivial))))) (an (decide_eq_false h956) trivial)))) (ti (ti trivial))))) (an (an (show Wv (VV.rf 1 0 y1z.length) (VV.rf 1 0 ((y1z.set x19.toNat ((a0.getD x19.toNat default).Lo)).length)) from (Wv.of_eq (by simp))) trivial) (an (show putT (0 + x19.toNat * 1) (List.map vi y1z) [vi ((a0.getD x19.toNat default).Lo)] = List.map vi (y1z.set x19.toNat ((a0.getD x19.toNat default).Lo)) from (by exact putT_vi y1z h953 ((a0.getD x19.toNat default).Lo) (by omega))) trivial))) (by kernel_rfl)
    exact round_next pm pn hv hq h2
  ·injection h with h; subst h
   exact round_stop (c := ⟨[(0, none), (2, none), (3, none), (4, none), (13, none), (14, none)], [none, none], []⟩) (s1 := (nfigure_greatestSquare_l1_0_e0 a0 x13 x14 x4 y1z)) pm pn (ans := [.reg (.n :: []), .br false]) (by kernel_rfl) (by intro e; cases e) (an (an (ti trivial) (an (decide_eq_false h950) trivial)) (ti trivial))
def nfigure_greatestSquare_l0_0_h (a0 : (List SRange)) (y1 : List Int) (x13 : Int) (x14 : Int) (x4 : Int) : VS := ⟨mkA [(0, VV.tr (List.flatMap c_SRange a0) a0.length), (2, VV.pt 0 0), (3, VV.rf 1 0 y1.length), (4, vi x4), (13, vi x13), (14, vi x14)], [some ⟨true, 1, [vi 0, vi 0]⟩, some ⟨false, 1, List.map vi y1⟩], .nil⟩
def nfigure_greatestSquare_l0_0_e0 (a0 : (List SRange)) (r : Int) : VS := ⟨mkA [(0, VV.tr (List.flatMap c_SRange a0) a0.length), (2, VV.pt 0 0), (4, vi r)], [some ⟨true, 1, [vi 0, vi 0]⟩], .nil⟩
def nfigure_greatestSquare_l0_0 (k : Nat) (a0 : (List SRange)) : Nat → (List Int) → Int → Int → Int → Option (Int)
  | 0, _, _, _, _ => none
  | fuel + 1, y1, x13, x14, x4 => if x14 < x13 then ((nfigure_greatestSquare_l1_0 k a0 x13 x14 x4 k y1 0).bind fun r962 => ((nfigure_squareTimesDen k r962).bind fun r964 => (nfigure_greatestSquare_l0_0 k a0 fuel r962 x13 (w64 (x14 + 1)) (maxI x4 r964)))) else (some x4)
theorem nfigure_greatestSquare_l0_0_ok (k : Nat) (a0 : (List SRange)) : ∀ (fuel : Nat) (y1 : List Int) (x13 : Int) (x14 : Int) (x4 : Int) (r : Int), nfigure_greatestSquare_l0_0 k a0 fuel y1 x13 x14 x4 = some r → (VLoop none Go.Proofs.Try.prog (szF Go.Proofs.Try.f17) (bodyOf Go.Proofs.Try.f17 0) (nfigure_greatestSquare_l0_0_h a0 y1 x13 x14 x4) (.exit 0) (nfigure_greatestSquare_l0_0_e0 a0 r)) := by
 intro fuel
 induction fuel with
 | zero => intro y1 x13 x14 x4 r h; rw [nfigure_greatestSquare_l0_0.eq_1] at h; cases h
 | succ fuel ih =>
  intro y1 x13 x14 x4 r h
  rw [nfigure_greatestSquare_l0_0.eq_2] at h
  rcases ifs h with ⟨h927, h⟩ | ⟨h927, h⟩
  ·obtain ⟨r962, h961, h⟩ := bs h
   have hph961 := nfigure_greatestSquare_l1_0_ok k a0 x13 x14 x4 _ _ _ _ h961
   have e963 := (an (ti trivial) (VRun.loop hph961))
   obtain ⟨r964, h965, h⟩ := bs h
   have e966 := (VC.args (nfigure_squareTimesDen_ok k r962 _ h965) (eqQ1_3 r962))
   have h2 := ih _ _ _ _ _ h
   obtain ⟨q, hv, hq⟩ := pkR (rd := none) (P := Go.Proofs.Try.prog) (fn := Go.Proofs.Try.f17) (k := 0) (s := (nfigure_greatestSquare_l0_0_h a0 y1 x13 x14 x4)) (ans := [.reg (.n :: []), .br true, .reg (.n :: .n :: []), .reg (nN 3 []), .sub ⟨[(0, none), (2, none), (3, none), (4, none), (5, none), (13, none), (14, none), (17, none), (18, none), (19, none)], [none, none], []⟩ (.exit 2) (nfigure_greatestSquare_l1_0_e0 a0 x13 x14 x4 r962), .reg (.n :: .n :: .call (vi r964) :: .n :: .n :: []), .reg (.n :: .n :: [])]) (c := ⟨[(0, none), (2, none), (3, none), (4, none), (13, none), (14, none)], [none, none], []⟩) (e := .normal) (s1 := (nfigure_greatestSquare_l0_0_h a0 r962 x13 (w64 (x14 + 1)) (maxI x4 r964))) (an (an (ti trivial) (an (an (decide_eq_true h927) trivial) (an (an (ti (ti trivial)) (an (an (ti (ti (ti trivial))) e963) (ti (ti (an e966 (ti (ti trivial))))))) (ti (ti trivial))))) (ti trivial)) (by kernel_rfl)
   exact round_next pm pn hv hq h2
  ·injection h with h; subst h
   exact round_stop (c := ⟨[(0, none), (2, none), (4, none)], [none], []⟩) (s1 := (nfigure_greatestSquare_l0_0_e0 a0 x4)) pm pn (ans := [.reg (.n :: []), .br false]) (by kernel_rfl) (by intro e; cases e) (an (an (ti trivial) (an (decide_eq_false h927) trivial)) (ti trivial))
def nfigure_greatestSquare (k : Nat) (a0 : (List SRange)) : Option SFrac :=
  if 0 ≤ (a0.length : Int) ∧ (a0.length : Int) ≤ 1000000000 then (if 0 ≤ (a0.length : Int) then ((nfigure_greatestSquare_l0_0 k a0 k (List.replicate (a0.length : Int).toNat (0 : Int)) (w64 (1 * 2 ^ (min ((a0.length : Int) : Int).toNat 64))) 0 0).bind fun r968 => ((nfigure_lowest k r968 (w64 ((a0.length : Int) * (a0.length : Int)))).bind fun r970 => (some r970))) else none) else none
theorem nfigure_greatestSquare_ok (k : Nat) (a0 : (List SRange)) (r : SFrac) (h : nfigure_greatestSquare k a0 = some r) : VC Go.Proofs.Try.prog 17 [VV.tr (List.flatMap c_SRange a0) a0.length] (VV.ag (c_SFrac r)) := by
 unfold nfigure_greatestSquare at h
 obtain ⟨h843, h⟩ := ifn h
 have e844 := (show 0 ≤ (a0.length : Int) ∧ (a0.length : Int) = (a0.length : Int) ∧ (8 * (a0.length : Int).toNat) ≤ 281474976710656 ∧ (a0.length : Int) < 1099511627776 from ⟨by omega, rfl, by omega, by omega⟩)
 obtain ⟨h845, h⟩ := ifn h
 obtain ⟨r968, h967, h⟩ := bs h
 have hph967 := nfigure_greatestSquare_l0_0_ok k a0 _ _ _ _ _ _ h967
 have e969 := (an (an (an (show Wv (VV.rf 1 0 ((a0.length : Int).toNat)) (VV.rf 1 0 ((List.replicate (a0.length : Int).toNat (0 : Int)).length)) from (Wv.of_eq (by simp))) trivial) (an (show List.replicate (a0.length : Int).toNat (VV.c (.int .i64 0)) = List.map vi (List.replicate (a0.length : Int).toNat (0 : Int)) from replicate_vi _) trivial)) (VRun.loop hph967))
 obtain ⟨r970, h971, h⟩ := bs h
 have e972 := (nfigure_lowest_ok k r968 (w64 ((a0.length : Int) * (a0.length : Int))) _ h971)
 have e973 := (ti (ti (ti (ti (ti (ti (an e972 (ti trivial))))))))
 injection h with h; subst h
 exact fun_ok pm pn Go.Proofs.Try.func17 (r0 := VV.ag (c_SFrac r970)) (ans := [.reg (.n :: []), .reg (nN 4 []), .reg (.n :: []), .reg (nN 4 []), .sub ⟨[(0, none), (2, none), (3, some (VV.rf 1 0 ((List.replicate (a0.length : Int).toNat (0 : Int)).length))), (4, none), (13, none), (14, none)], [none, some (List.map vi (List.replicate (a0.length : Int).toNat (0 : Int)))], []⟩ (.exit 0) (nfigure_greatestSquare_l0_0_e0 a0 r968), .reg (nN 6 (.call (VV.ag (c_SFrac r970)) :: .n :: []))]) (fr := true) (by kernel_rfl) (an (an (ti trivial) (an (ti (ti (an e844 (ti trivial)))) (an (ti trivial) (an (an (ti (ti (an h845 (ti trivial)))) e969) (an e973 trivial))))) (an (ti (ti (ti trivial))) trivial)) (Wv.refl _)
theorem eqQ1_8  : VV.tu [VV.ag [vi 0, vi 0, vi 0, vi 0], vi 8] = VV.tu [VV.ag [vi (((⟨(⟨0, 0⟩ : SFrac), (⟨0, 0⟩ : SFrac)⟩ : A26).e0).Num), vi (((⟨(⟨0, 0⟩ : SFrac), (⟨0, 0⟩ : SFrac)⟩ : A26).e0).Den), vi (((⟨(⟨0, 0⟩ : SFrac), (⟨0, 0⟩ : SFrac)⟩ : A26).e1).Num), vi (((⟨(⟨0, 0⟩ : SFrac), (⟨0, 0⟩ : SFrac)⟩ : A26).e1).Den)], vi 8] := by first | rfl | (simp only [unfr_vi, List.map_cons, List.map_nil, un_i]; done) | (simp only [unfr_vi, List.map_cons, List.map_nil, un_i]; rfl) | (simp only [unfr_vi, List.map_cons, List.map_nil, un_i, List.length_cons, List.length_nil, List.length_append]; done)
theorem eqQ1_9 (z0 : SFrac) (z1 : SFrac) : VV.tu [VV.ag [vi z0.Num, vi z0.Den, vi z1.Num, vi z1.Den], vi 0] = VV.tu [VV.ag [vi (((⟨z0, z1⟩ : A26).e0).Num), vi (((⟨z0, z1⟩ : A26).e0).Den), vi (((⟨z0, z1⟩ : A26).e1).Num), vi (((⟨z0, z1⟩ : A26).e1).Den)], vi 0] := by first | rfl | (simp only [unfr_vi, List.map_cons, List.map_nil, un_i]; done) | (simp only [unfr_vi, List.map_cons, List.map_nil, un_i]; rfl) | (simp only [unfr_vi, List.map_cons, List.map_nil, un_i, List.length_cons, List.length_nil, List.length_append]; done)
theorem eqQ1_10 (z0 : Int) : VV.tu [VV.ag [vi 0, vi 0, vi 0, vi 0], vi z0] = VV.tu [VV.ag [vi (((⟨(⟨0, 0⟩ : SFrac), (⟨0, 0⟩ : SFrac)⟩ : A26).e0).Num), vi (((⟨(⟨0, 0⟩ : SFrac), (⟨0, 0⟩ : SFrac)⟩ : A26).e0).Den), vi (((⟨(⟨0, 0⟩ : SFrac), (⟨0, 0⟩ : SFrac)⟩ : A26).e1).Num), vi (((⟨(⟨0, 0⟩ : SFrac), (⟨0, 0⟩ : SFrac)⟩ : A26).e1).Den)], vi z0] := by first | rfl | (simp only [unfr_vi, List.map_cons, List.map_nil, un_i]; done) | (simp only [unfr_vi, List.map_cons, List.map_nil, un_i]; rfl) | (simp only [unfr_vi, List.map_cons, List.map_nil, un_i, List.length_cons, List.length_nil, List.length_append]; done)
def nfigure_SquareRange (k : Nat) (a0 : (List SRange)) : Option (A26 × Int) :=
  (nfigure_CheckEnclosure k a0).bind fun r977 => (if r977 = 0 then (if 10 < (a0.length : Int) then (some ((⟨(⟨0, 0⟩ : SFrac), (⟨0, 0⟩ : SFrac)⟩ : A26), 8)) else ((nfigure_leastSquare k a0).bind fun r982 => ((nfigure_greatestSquare k a0).bind fun r984 => (some ((⟨r982, r984⟩ : A26), 0))))) else (some ((⟨(⟨0, 0⟩ : SFrac), (⟨0, 0⟩ : SFrac)⟩ : A26), r977)))
theorem nfigure_SquareRange_ok (k : Nat) (a0 : (List SRange)) (r : (A26 × Int)) (h : nfigure_SquareRange k a0 = some r) : VC Go.Proofs.Try.prog 5 [VV.tr (List.flatMap c_SRange a0) a0.length] (VV.tu [VV.ag (c_A26 r.1), vi r.2]) := by
 unfold nfigure_SquareRange at h
 obtain ⟨r977, h978, h⟩ := bs h
 have e979 := (ti (an (nfigure_CheckEnclosure_ok k a0 _ h978) (ti trivial)))
 rcases ifs h with ⟨h980, h⟩ | ⟨h980, h⟩
 ·rcases ifs h with ⟨h981, h⟩ | ⟨h981, h⟩
  ·injection h with h; subst h
   exact fun_ok pm pn Go.Proofs.Try.func5 (r0 := VV.tu [VV.ag [vi 0, vi 0, vi 0, vi 0], vi 8]) (ans := [.reg (.n :: .n :: []), .reg (.n :: .call (vi r977) :: .n :: []), .reg (.n :: .n :: []), .br false, .reg (nN 3 []), .br true, .reg (nN 3 [])]) (fr := true) (by kernel_rfl) (an (an (ti (ti trivial)) (an (an e979 (an (ti (ti trivial)) (an (not_f (decide_eq_true h980)) trivial))) (an (ti (ti (ti trivial))) (an (decide_eq_true h981) (an (ti (ti (ti trivial))) trivial))))) (an (ti (ti (ti (ti (ti trivial))))) (ti trivial))) (Wv.of_eq eqQ1_8)
  ·obtain ⟨r982, h983, h⟩ := bs h
   obtain ⟨r984, h985, h⟩ := bs h
   have e986 := (ti (an (nfigure_leastSquare_ok k a0 _ h983) (ti (an (nfigure_greatestSquare_ok k a0 _ h985) (ti (ti (ti trivial)))))))
   injection h with h; subst h
   exact fun_ok pm pn Go.Proofs.Try.func5 (r0 := VV.tu [VV.ag [vi r982.Num, vi r982.Den, vi r984.Num, vi r984.Den], vi 0]) (ans := [.reg (.n :: .n :: []), .reg (.n :: .call (vi r977) :: .n :: []), .reg (.n :: .n :: []), .br false, .reg (nN 3 []), .br false, .reg (.n :: .call (VV.ag (c_SFrac r982)) :: .n :: .call (VV.ag (c_SFrac r984)) :: nN 3 [])]) (fr := true) (by kernel_rfl) (an (an (ti (ti trivial)) (an (an e979 (an (ti (ti trivial)) (an (not_f (decide_eq_true h980)) trivial))) (an (an (ti (ti (ti trivial))) (an (decide_eq_false h981) trivial)) (an e986 trivial)))) (an (ti (ti (ti (ti (ti trivial))))) (ti trivial))) (Wv.of_eq (eqQ1_9 r982 r984))
 ·injection h with h; subst h
  exact fun_ok pm pn Go.Proofs.Try.func5 (r0 := VV.tu [VV.ag [vi 0, vi 0, vi 0, vi 0], vi r977]) (ans := [.reg (.n :: .n :: []), .reg (.n :: .call (vi r977) :: .n :: []), .reg (.n :: .n :: []), .br true, .reg (nN 4 [])]) (fr := true) (by kernel_rfl) (an (an (ti (ti trivial)) (an e979 (an (ti (ti trivial)) (an (not_t (decide_eq_false h980)) (an (ti (ti (ti (ti trivial)))) trivial))))) (an (ti (ti (ti (ti (ti trivial))))) (ti trivial))) (Wv.of_eq (eqQ1_10 r977))
def nspeculumbase_Within (k : Nat) (a0 : Int) (a1 : Int) (a2 : Int) : Option Bool :=
  if a1 ≤ a0 then (some (decide (a0 ≤ a2))) else (some false)
theorem nspeculumbase_Within_ok (k : Nat) (a0 : Int) (a1 : Int) (a2 : Int) (r : Bool) (h : nspeculumbase_Within k a0 a1 a2 = some r) : VC Go.Proofs.Try.prog 18 [vi a0, vi a1, vi a2] (vb r) := by
 unfold nspeculumbase_Within at h
 rcases ifs h with ⟨h990, h⟩ | ⟨h990, h⟩
 ·have e991 := (ti (ti (ti (ti (an (an (decide_eq_true h990) trivial) (an (an (decide_eq_true h990) trivial) (an (an (decide_eq_true h990) trivial) (an (decide_eq_true h990) (ti trivial)))))))))
  injection h with h; subst h
  exact fun_ok pm pn Go.Proofs.Try.func18 (r0 := vb (decide (a0 ≤ a2))) (ans := [.reg (.n :: []), .reg (nN 7 (.b true :: .n :: []))]) (fr := true) (by kernel_rfl) (an (an (ti trivial) (an e991 trivial)) (ti trivial)) (Wv.refl _)
 ·have e992 := (ti (ti (ti (ti (an (decide_eq_false h990) (an (decide_eq_false h990) (an (decide_eq_false h990) (an (decide_eq_false h990) (ti trivial)))))))))
  injection h with h; subst h
  exact fun_ok pm pn Go.Proofs.Try.func18 (r0 := vb false) (ans := [.reg (.n :: []), .reg (nN 4 (nS 3 (.b false :: .n :: [])))]) (fr := true) (by kernel_rfl) (an (an (ti trivial) (an e992 trivial)) (ti trivial)) (Wv.refl _)
def nspeculumref06_isHeight (k : Nat) (a0 : Int) : Option Bool :=
  (nspeculumbase_Within k a0 (-100000) 100000).bind fun r1003 => (some r1003)
theorem nspeculumref06_isHeight_ok (k : Nat) (a0 : Int) (r : Bool) (h : nspeculumref06_isHeight k a0 = some r) : VC Go.Proofs.Try.prog 19 [vi a0] (vb r) := by
 unfold nspeculumref06_isHeight at h
 obtain ⟨r1003, h1004, h⟩ := bs h
 have e1005 := (nspeculumbase_Within_ok k a0 (-100000) 100000 _ h1004)
 injection h with h; subst h
 exact fun_ok pm pn Go.Proofs.Try.func19 (r0 := vb r1003) (ans := [.reg (.n :: []), .reg (.n :: .call (vb r1003) :: .n :: [])]) (fr := true) (by kernel_rfl) (an (an (ti trivial) (an (ti (an e1005 (ti trivial))) trivial)) (ti trivial)) (Wv.refl _)
def arQ1_2 (z0 : (List SRange)) (z1 : Int) (z2 : Bool) (z3 : Bool) : List Ans := (nN 4 (.v (vi ((z0.getD z1.toNat default).Lo)) :: .call (vb z2) :: nN 6 (.v (vi ((z0.getD z1.toNat default).Hi)) :: .call (vb z3) :: .n :: .b false :: [])))
def arQ1_3 (z0 : (List SRange)) (z1 : Int) : List Ans := (nN 4 (.v (vi ((z0.getD z1.toNat default).Lo)) :: nN 4 (.v (vi ((z0.getD z1.toNat default).Hi)) :: .n :: [])))
def arQ1_4 (z0 : (List SRange)) (z1 : Int) (z2 : Bool) : List Ans := (nN 4 (.v (vi ((z0.getD z1.toNat default).Lo)) :: .call (vb z2) :: .n :: .n :: nS 7 (.b true :: [])))
def nspeculumref06_CheckEnclosure_l0_0_h (a0 : (List SRange)) (x3 : Int) : VS := ⟨mkA [(0, VV.tr (List.flatMap c_SRange a0) a0.length), (3, vi x3)], [], .nil⟩
def nspeculumref06_CheckEnclosure_l0_0_e0 (a0 : (List SRange)) (r : Int) : VS := ⟨mkA [(2, vi r)], [], .nil⟩
def nspeculumref06_CheckEnclosure_l0_0_e1 (a0 : (List SRange)) (r : Unit) : VS := ⟨mkA [], [], .nil⟩
def nspeculumref06_CheckEnclosure_l0_0 (k : Nat) (a0 : (List SRange)) : Nat → Int → Option (Sum Int Unit)
  | 0, _ => none
  | fuel + 1, x3 => if x3 < (a0.length : Int) then (if 0 ≤ x3 ∧ x3 < (a0.length : Int) then ((nspeculumref06_isHeight k ((a0.getD x3.toNat default).Lo)).bind fun r1106 => (if r1106 = true then ((nspeculumref06_isHeight k ((a0.getD x3.toNat default).Hi)).bind fun r1111 => (if r1111 = true then (if ((a0.getD x3.toNat default).Hi) < ((a0.getD x3.toNat default).Lo) then (some (.inl 9)) else (nspeculumref06_CheckEnclosure_l0_0 k a0 fuel (w64 (x3 + 1)))) else (some (.inl 2)))) else (some (.inl 2)))) else none) else (some (.inr ()))
theorem nspeculumref06_CheckEnclosure_l0_0_ok (k : Nat) (a0 : (List SRange)) : ∀ (fuel : Nat) (x3 : Int) (r : Sum Int Unit), nspeculumref06_CheckEnclosure_l0_0 k a0 fuel x3 = some r → (match r with | .inl r => VLoop none Go.Proofs.Try.prog (szF Go.Proofs.Try.f7) (bodyOf Go.Proofs.Try.f7 0) (nspeculumref06_CheckEnclosure_l0_0_h a0 x3) .ret (nspeculumref06_CheckEnclosure_l0_0_e0 a0 r) | .inr r => VLoop none Go.Proofs.Try.prog (szF Go.Proofs.Try.f7) (bodyOf Go.Proofs.Try.f7 0) (nspeculumref06_CheckEnclosure_l0_0_h a0 x3) (.exit 0) (nspeculumref06_CheckEnclosure_l0_0_e1 a0 r)) := by
 intro fuel
 induction fuel with
 | zero => intro x3 r h; rw [nspeculumref06_CheckEnclosure_l0_0.eq_1] at h; cases h
 | succ fuel ih =>
  intro x3 r h
  rw [nspeculumref06_CheckEnclosure_l0_0.eq_2] at h
  rcases ifs h with ⟨h1103, h⟩ | ⟨h1103, h⟩
  ·obtain ⟨h1104, h⟩ := ifn h
   have e1105 := (show loadL Go.Proofs.Try.prog 3 (x3.toNat * 2 + 0) (List.flatMap c_SRange a0) = some (vi ((a0.getD x3.toNat default).Lo)) from (ld_flat ag3 c_SRange 2 0 len_c_SRange (by omega) a0 default h1104 (by omega)).trans rfl)
   obtain ⟨r1106, h1107, h⟩ := bs h
   have e1108 := (nspeculumref06_isHeight_ok k ((a0.getD x3.toNat default).Lo) _ h1107)
   rcases ifs h with ⟨h1109, h⟩ | ⟨h1109, h⟩
   ·have e1110 := (an (not_f h1109) (show loadL Go.Proofs.Try.prog 3 (x3.toNat * 2 + 1) (List.flatMap c_SRange a0) = some (vi ((a0.getD x3.toNat default).Hi)) from (ld_flat ag3 c_SRange 2 1 len_c_SRange (by omega) a0 default h1104 (by omega)).trans rfl))
    obtain ⟨r1111, h1112, h⟩ := bs h
    have e1113 := (an (not_f h1109) (nspeculumref06_isHeight_ok k ((a0.getD x3.toNat default).Hi) _ h1112))
    have e1114 := (ti (ti (an h1104 (ti (an e1105 (an e1108 (ti (ti (an (an (not_f h1109) trivial) (an (an (not_f h1109) trivial) (an (an (not_f h1109) h1104) (an (an (not_f h1109) trivial) (an e1110 (an e1113 (an (an (not_f h1109) trivial) (an (not_f h1109) trivial))))))))))))))))
    rcases ifs h with ⟨h1115, h⟩ | ⟨h1115, h⟩
    ·have e1116 := (show loadL Go.Proofs.Try.prog 3 (x3.toNat * 2 + 0) (List.flatMap c_SRange a0) = some (vi ((a0.getD x3.toNat default).Lo)) from (ld_flat ag3 c_SRange 2 0 len_c_SRange (by omega) a0 default h1104 (by omega)).trans rfl)
     have e1117 := (show loadL Go.Proofs.Try.prog 3 (x3.toNat * 2 + 1) (List.flatMap c_SRange a0) = some (vi ((a0.getD x3.toNat default).Hi)) from (ld_flat ag3 c_SRange 2 1 len_c_SRange (by omega) a0 default h1104 (by omega)).trans rfl)
     have e1118 := (ti (ti (an h1104 (ti (an e1116 (ti (ti (an h1104 (ti (an e1117 (ti trivial)))))))))))
     rcases ifs h with ⟨h1119, h⟩ | ⟨h1119, h⟩
     ·injection h with h; subst h
      exact round_stop (c := ⟨[(2, none)], [], []⟩) (s1 := (nspeculumref06_CheckEnclosure_l0_0_e0 a0 9)) pm pn (ans := [.reg (nN 4 []), .br true, .reg (arQ1_2 a0 x3 r1106 r1111), .br false, .reg (arQ1_3 a0 x3), .br true, .reg (.n :: [])]) (by kernel_rfl) (by intro e; cases e) (an (an (an (ti (ti (ti (ti trivial)))) (an (decide_eq_true h1103) trivial)) (an (an e1114 (an (not_f h1115) trivial)) (an e1118 (an (decide_eq_true h1119) (an (ti trivial) trivial))))) (ti trivial))
     ·have h2 := ih _ _ h
      obtain ⟨q, hv, hq⟩ := pkR (rd := none) (P := Go.Proofs.Try.prog) (fn := Go.Proofs.Try.f7) (k := 0) (s := (nspeculumref06_CheckEnclosure_l0_0_h a0 x3)) (ans := [.reg (nN 4 []), .br true, .reg (arQ1_2 a0 x3 r1106 r1111), .br false, .reg (arQ1_3 a0 x3), .br false, .reg (nN 3 [])]) (c := ⟨[(0, none), (3, none)], [], []⟩) (e := .normal) (s1 := (nspeculumref06_CheckEnclosure_l0_0_h a0 (w64 (x3 + 1)))) (an (an (an (ti (ti (ti (ti trivial)))) (an (decide_eq_true h1103) trivial)) (an (an (an e1114 (an (not_f h1115) trivial)) (an e1118 (an (decide_eq_false h1119) trivial))) (ti (ti (ti trivial))))) (ti trivial)) (by kernel_rfl)
      cases r with
      | inl r => exact round_next pm pn hv hq h2
      | inr r =>
       exact round_next pm pn hv hq h2
    ·injection h with h; subst h
     exact round_stop (c := ⟨[(2, none)], [], []⟩) (s1 := (nspeculumref06_CheckEnclosure_l0_0_e0 a0 2)) pm pn (ans := [.reg (nN 4 []), .br true, .reg (arQ1_2 a0 x3 r1106 r1111), .br true, .reg (.n :: [])]) (by kernel_rfl) (by intro e; cases e) (an (an (an (ti (ti (ti (ti trivial)))) (an (decide_eq_true h1103) trivial)) (an e1114 (an (not_t (bool_f h1115)) (an (ti trivial) trivial)))) (ti trivial))
   ·have e1120 := (ti (ti (an h1104 (ti (an e1105 (an e1108 (ti (ti (an (not_t (bool_f h1109)) (an (not_t (bool_f h1109)) (an (not_t (bool_f h1109)) (an (not_t (bool_f h1109)) (an (not_t (bool_f h1109)) (an (not_t (bool_f h1109)) (an (not_t (bool_f h1109)) (an (not_t (bool_f h1109)) trivial))))))))))))))))
    injection h with h; subst h
    exact round_stop (c := ⟨[(2, none)], [], []⟩) (s1 := (nspeculumref06_CheckEnclosure_l0_0_e0 a0 2)) pm pn (ans := [.reg (nN 4 []), .br true, .reg (arQ1_4 a0 x3 r1106), .br true, .reg (.n :: [])]) (by kernel_rfl) (by intro e; cases e) (an (an (an (ti (ti (ti (ti trivial)))) (an (decide_eq_true h1103) trivial)) (an e1120 (an rt (an (ti trivial) trivial)))) (ti trivial))
  ·injection h with h; subst h
   exact round_stop (c := ⟨[], [], []⟩) (s1 := (nspeculumref06_CheckEnclosure_l0_0_e1 a0 ())) pm pn (ans := [.reg (nN 4 []), .br false]) (by kernel_rfl) (by intro e; cases e) (an (an (ti (ti (ti (ti trivial)))) (an (decide_eq_false h1103) trivial)) (ti trivial))
def nspeculumref06_CheckEnclosure (k : Nat) (a0 : (List SRange)) : Option Int :=
  (nspeculumbase_Within k (a0.length : Int) 1 40).bind fun r1063 => (if r1063 = true then ((nspeculumref06_CheckEnclosure_l0_0 k a0 k 0).bind fun r1122 => (match r1122 with | .inl r1123 => (some r1123) | .inr r1124 => (some 0))) else (some 10))
theorem nspeculumref06_CheckEnclosure_ok (k : Nat) (a0 : (List SRange)) (r : Int) (h : nspeculumref06_CheckEnclosure k a0 = some r) : VC Go.Proofs.Try.prog 7 [VV.tr (List.flatMap c_SRange a0) a0.length] (vi r) := by
 unfold nspeculumref06_CheckEnclosure at h
 obtain ⟨r1063, h1064, h⟩ := bs h
 have e1065 := (nspeculumbase_Within_ok k (a0.length : Int) 1 40 _ h1064)
 rcases ifs h with ⟨h1066, h⟩ | ⟨h1066, h⟩
 ·obtain ⟨r1122, h1121, h⟩ := bs h
  have hph1121 := nspeculumref06_CheckEnclosure_l0_0_ok k a0 _ _ _ h1121
  cases r1122 with
  | inl r1123 =>
   dsimp only at h
   have e1125 := (an (ti trivial) (VRun.loop hph1121))
   injection h with h; subst h
   exact fun_ok pm pn Go.Proofs.Try.func7 (r0 := vi r1123) (ans := [.reg (.n :: []), .reg (.n :: .n :: .call (vb r1063) :: .n :: []), .br false, .reg (.n :: []), .sub ⟨[(0, none), (3, none)], [], []⟩ .ret (nspeculumref06_CheckEnclosure_l0_0_e0 a0 r1123)]) (fr := true) (by kernel_rfl) (an (an (ti trivial) (an (an (ti (ti (an e1065 (ti trivial)))) (an (not_f h1066) trivial)) (an (ti trivial) e1125))) (ti trivial)) (Wv.refl _)
  | inr r1124 =>
   dsimp only at h
   have e1126 := (an (ti trivial) (VRun.loop hph1121))
   injection h with h; subst h
   exact fun_ok pm pn Go.Proofs.Try.func7 (r0 := vi 0) (ans := [.reg (.n :: []), .reg (.n :: .n :: .call (vb r1063) :: .n :: []), .br false, .reg (.n :: []), .sub ⟨[(0, none), (3, none)], [], []⟩ (.exit 0) (nspeculumref06_CheckEnclosure_l0_0_e1 a0 r1124), .reg (.n :: [])]) (fr := true) (by kernel_rfl) (an (an (ti trivial) (an (an (ti (ti (an e1065 (ti trivial)))) (an (not_f h1066) trivial)) (an (an (ti trivial) e1126) (an (ti trivial) trivial)))) (ti trivial)) (Wv.refl _)
 ·injection h with h; subst h
  exact fun_ok pm pn Go.Proofs.Try.func7 (r0 := vi 10) (ans := [.reg (.n :: []), .reg (.n :: .n :: .call (vb r1063) :: .n :: []), .br true, .reg (.n :: [])]) (fr := true) (by kernel_rfl) (an (an (ti trivial) (an (ti (ti (an e1065 (ti trivial)))) (an (not_t (bool_f h1066)) (an (ti trivial) trivial)))) (ti trivial)) (Wv.refl _)
def arQ1_5 (z0 : (List SRange)) (z1 : Int) : List Ans := (nN 5 (.v (vi ((z0.getD z1.toNat default).Lo)) :: nN 5 (.v (vi ((z0.getD z1.toNat default).Hi)) :: .n :: .v VV.any :: .n :: .n :: [])))
def nspeculumbase_Abs (k : Nat) (a0 : Int) : Option Int :=
  if a0 < 0 then (some (w64 (0 - a0))) else (some a0)
theorem nspeculumbase_Abs_ok (k : Nat) (a0 : Int) (r : Int) (h : nspeculumbase_Abs k a0 = some r) : VC Go.Proofs.Try.prog 52 [vi a0] (vi r) := by
 unfold nspeculumbase_Abs at h
 rcases ifs h with ⟨h1233, h⟩ | ⟨h1233, h⟩
 ·injection h with h; subst h
  exact fun_ok pm pn Go.Proofs.Try.func52 (r0 := vi (w64 (0 - a0))) (ans := [.reg (.n :: []), .reg (.n :: .n :: []), .br true, .reg (nN 3 [])]) (fr := true) (by kernel_rfl) (an (an (ti trivial) (an (ti (ti trivial)) (an (decide_eq_true h1233) (an (ti (ti (ti trivial))) trivial)))) (ti trivial)) (Wv.refl _)
 ·injection h with h; subst h
  exact fun_ok pm pn Go.Proofs.Try.func52 (r0 := vi a0) (ans := [.reg (.n :: []), .reg (.n :: .n :: []), .br false, .reg (.n :: .n :: [])]) (fr := true) (by kernel_rfl) (an (an (ti trivial) (an (an (ti (ti trivial)) (an (decide_eq_false h1233) trivial)) (an (ti (ti trivial)) trivial))) (ti trivial)) (Wv.refl _)
def nspeculumbase_Gcd_l0_0_h  (x0 : Int) (x1 : Int) : VS := ⟨mkA [(0, vi x0), (1, vi x1)], [], .nil⟩
def nspeculumbase_Gcd_l0_0_e0  (r : Int) : VS := ⟨mkA [(0, vi r)], [], .nil⟩
def nspeculumbase_Gcd_l0_0 (k : Nat)  : Nat → Int → Int → Option (Int)
  | 0, _, _ => none
  | fuel + 1, x0, x1 => if x1 = 0 then (some x0) else (if x1 ≠ 0 then (nspeculumbase_Gcd_l0_0 k  fuel x1 (x0.tmod x1)) else none)
theorem nspeculumbase_Gcd_l0_0_ok (k : Nat)  : ∀ (fuel : Nat) (x0 : Int) (x1 : Int) (r : Int), nspeculumbase_Gcd_l0_0 k  fuel x0 x1 = some r → (VLoop none Go.Proofs.Try.prog (szF Go.Proofs.Try.f40) (bodyOf Go.Proofs.Try.f40 0) (nspeculumbase_Gcd_l0_0_h  x0 x1) (.exit 0) (nspeculumbase_Gcd_l0_0_e0  r)) := by
 intro fuel
 induction fuel with
 | zero => intro x0 x1 r h; rw [nspeculumbase_Gcd_l0_0.eq_1] at h; cases h
 | succ fuel ih =>
  intro x0 x1 r h
  rw [nspeculumbase_Gcd_l0_0.eq_2] at h
  rcases ifs h with ⟨h1241, h⟩ | ⟨h1241, h⟩
  ·injection h with h; subst h
   exact round_stop (c := ⟨[(0, none)], [], []⟩) (s1 := (nspeculumbase_Gcd_l0_0_e0  x0)) pm pn (ans := [.reg (.n :: .n :: []), .br false]) (by kernel_rfl) (by intro e; cases e) (an (an (ti (ti trivial)) (an (not_f (decide_eq_true h1241)) trivial)) (ti trivial))
  ·obtain ⟨h1242, h⟩ := ifn h
   have h2 := ih _ _ _ h
   obtain ⟨q, hv, hq⟩ := pkR (rd := none) (P := Go.Proofs.Try.prog) (fn := Go.Proofs.Try.f40) (k := 0) (s := (nspeculumbase_Gcd_l0_0_h  x0 x1)) (ans := [.reg (.n :: .n :: []), .br true, .reg (nN 6 [])]) (c := ⟨[(0, none), (1, none)], [], []⟩) (e := .normal) (s1 := (nspeculumbase_Gcd_l0_0_h  x1 (x0.tmod x1))) (an (an (an (ti (ti trivial)) (an (not_t (decide_eq_false h1241)) trivial)) (ti (ti (ti (an h1242 (ti (ti trivial))))))) (ti trivial)) (by kernel_rfl)
   exact round_next pm pn hv hq h2
def nspeculumbase_Gcd (k : Nat) (a0 : Int) (a1 : Int) : Option Int :=
  (nspeculumbase_Gcd_l0_0 k k a0 a1).bind fun r1244 => ((nspeculumbase_Abs k r1244).bind fun r1246 => (some r1246))
theorem nspeculumbase_Gcd_ok (k : Nat) (a0 : Int) (a1 : Int) (r : Int) (h : nspeculumbase_Gcd k a0 a1 = some r) : VC Go.Proofs.Try.prog 40 [vi a0, vi a1] (vi r) := by
 unfold nspeculumbase_Gcd at h
 obtain ⟨r1244, h1243, h⟩ := bs h
 have hph1243 := nspeculumbase_Gcd_l0_0_ok k  _ _ _ _ h1243
 have e1245 := (an (ti trivial) (VRun.loop hph1243))
 obtain ⟨r1246, h1247, h⟩ := bs h
 have e1248 := (ti (an (nspeculumbase_Abs_ok k r1244 _ h1247) (ti trivial)))
 injection h with h; subst h
 exact fun_ok pm pn Go.Proofs.Try.func40 (r0 := vi r1246) (ans := [.reg (.n :: []), .sub ⟨[(0, none), (1, none)], [], []⟩ (.exit 0) (nspeculumbase_Gcd_l0_0_e0  r1244), .reg (.n :: .call (vi r1246) :: .n :: [])]) (fr := true) (by kernel_rfl) (an (an (ti trivial) (an e1245 (an e1248 trivial))) (ti trivial)) (Wv.refl _)
theorem eqQ1_11 (z0 : Int) (z1 : Int) (z2 : Int) : VV.ag [vi (w64 (z0.tdiv (w64 (0 - z1)))), vi (w64 (z2.tdiv (w64 (0 - z1))))] = VV.ag (c_SFrac (⟨w64 (z0.tdiv (w64 (0 - z1))), w64 (z2.tdiv (w64 (0 - z1)))⟩ : SFrac)) := by first | rfl | (simp only [unfr_vi, List.map_cons, List.map_nil, un_i, unfr_c_SFrac]; done) | (simp only [unfr_vi, List.map_cons, List.map_nil, un_i, unfr_c_SFrac]; rfl) | (simp only [unfr_vi, List.map_cons, List.map_nil, un_i, unfr_c_SFrac, c_SFrac, List.length_cons, List.length_nil, List.length_append]; done)
def nspeculumbase_Lowest (k : Nat) (a0 : Int) (a1 : Int) : Option SFrac :=
  (nspeculumbase_Gcd k a0 a1).bind fun r1257 => (if a1 < 0 then (if (w64 (0 - r1257)) ≠ 0 then (some (⟨w64 (a0.tdiv (w64 (0 - r1257))), w64 (a1.tdiv (w64 (0 - r1257)))⟩ : SFrac)) else none) else (if r1257 ≠ 0 then (some (⟨w64 (a0.tdiv r1257), w64 (a1.tdiv r1257)⟩ : SFrac)) else none))
theorem nspeculumbase_Lowest_ok (k : Nat) (a0 : Int) (a1 : Int) (r : SFrac) (h : nspeculumbase_Lowest k a0 a1 = some r) : VC Go.Proofs.Try.prog 20 [vi a0, vi a1] (VV.ag (c_SFrac r)) := by
 unfold nspeculumbase_Lowest at h
 obtain ⟨r1257, h1258, h⟩ := bs h
 have e1259 := (ti (ti (an (nspeculumbase_Gcd_ok k a0 a1 _ h1258) (ti trivial))))
 rcases ifs h with ⟨h1260, h⟩ | ⟨h1260, h⟩
 ·obtain ⟨h1261, h⟩ := ifn h
  have e1262 := (ti (ti (an h1261 (ti (ti (an h1261 (ti (ti trivial))))))))
  injection h with h; subst h
  exact fun_ok pm pn Go.Proofs.Try.func20 (r0 := VV.ag [vi (w64 (a0.tdiv (w64 (0 - r1257)))), vi (w64 (a1.tdiv (w64 (0 - r1257))))]) (ans := [.reg (.n :: []), .reg (.n :: .n :: .call (vi r1257) :: .n :: []), .reg (.n :: .n :: []), .br true, .reg (nN 3 []), .reg (nN 8 [])]) (fr := true) (by kernel_rfl) (an (an (ti trivial) (an e1259 (an (an (ti (ti trivial)) (an (decide_eq_true h1260) (ti (ti (ti trivial))))) (an e1262 trivial)))) (an (ti (ti (ti trivial))) trivial)) (Wv.of_eq (eqQ1_11 a0 r1257 a1))
 ·obtain ⟨h1263, h⟩ := ifn h
  have e1264 := (ti (ti (an h1263 (ti (ti (an h1263 (ti (ti trivial))))))))
  injection h with h; subst h
  exact fun_ok pm pn Go.Proofs.Try.func20 (r0 := VV.ag [vi (w64 (a0.tdiv r1257)), vi (w64 (a1.tdiv r1257))]) (ans := [.reg (.n :: []), .reg (.n :: .n :: .call (vi r1257) :: .n :: []), .reg (.n :: .n :: []), .br false, .reg (nN 8 [])]) (fr := true) (by kernel_rfl) (an (an (ti trivial) (an e1259 (an (an (ti (ti trivial)) (an (decide_eq_false h1260) trivial)) (an e1264 trivial)))) (an (ti (ti (ti trivial))) trivial)) (Wv.of_eq (eqQ1_2 a0 r1257 a1))
def arQ1_6 (z0 : (List SRange)) (z1 : Int) : List Ans := (nN 5 (.v (vi ((z0.getD z1.toNat default).Lo)) :: nN 7 (.v (vi ((z0.getD z1.toNat default).Hi)) :: nN 7 (.v VV.any :: .n :: .n :: []))))
def nspeculumref06_nearest_l0_0_h (a0 : (List SRange)) (a1 : SFrac) (y1 : List Int) (x6 : Int) : VS := ⟨mkA [(0, VV.tr (List.flatMap c_SRange a0) a0.length), (3, VV.pt 0 0), (5, VV.rf 1 0 y1.length), (6, vi x6)], [some ⟨true, 1, c_SFrac a1⟩, some ⟨false, 1, List.map vi y1⟩], .nil⟩
def nspeculumref06_nearest_l0_0_e0 (a0 : (List SRange)) (a1 : SFrac) (r : (List Int)) : VS := ⟨mkA [(5, VV.rf 1 0 r.length)], [some ⟨true, 1, c_SFrac a1⟩, some ⟨false, 1, List.map vi r⟩], .nil⟩
def nspeculumref06_nearest_l0_0 (k : Nat) (a0 : (List SRange)) (a1 : SFrac) : Nat → (List Int) → Int → Option ((List Int))
  | 0, _, _ => none
  | fuel + 1, y1, x6 => if x6 < (a0.length : Int) then (if 0 ≤ x6 ∧ x6 < (a0.length : Int) then (if y1.length + ([maxI (w64 (((a0.getD x6.toNat default).Lo) * a1.Den)) (minI (w64 (((a0.getD x6.toNat default).Hi) * a1.Den)) a1.Num)] : List Int).length ≤ 1000000000 then (nspeculumref06_nearest_l0_0 k a0 a1 fuel (y1 ++ ([maxI (w64 (((a0.getD x6.toNat default).Lo) * a1.Den)) (minI (w64 (((a0.getD x6.toNat default).Hi) * a1.Den)) a1.Num)] : List Int)) (w64 (x6 + 1))) else none) else none) else (some y1)
theorem nspeculumref06_nearest_l0_0_ok (k : Nat) (a0 : (List SRange)) (a1 : SFrac) : ∀ (fuel : Nat) (y1 : List Int) (x6 : Int) (r : (List Int)), nspeculumref06_nearest_l0_0 k a0 a1 fuel y1 x6 = some r → (VLoop none Go.Proofs.Try.prog (szF Go.Proofs.Try.f22) (bodyOf Go.Proofs.Try.f22 0) (nspeculumref06_nearest_l0_0_h a0 a1 y1 x6) (.exit 0) (nspeculumref06_nearest_l0_0_e0 a0 a1 r)) := by
 intro fuel
 induction fuel with
 | zero => intro y1 x6 r h; rw [nspeculumref06_nearest_l0_0.eq_1] at h; cases h
 | succ fuel ih =>
  intro y1 x6 r h
  rw [nspeculumref06_nearest_l0_0.eq_2] at h
  rcases ifs h with ⟨h1905, h⟩ | ⟨h1905, h⟩
  ·obtain ⟨h1906, h⟩ := ifn h
   have e1907 := (show loadL Go.Proofs.Try.prog 3 (x6.toNat * 2 + 0) (List.flatMap c_SRange a0) = some (vi ((a0.getD x6.toNat default).Lo)) from (ld_flat ag3 c_SRange 2 0 len_c_SRange (by omega) a0 default h1906 (by omega)).trans rfl)
   have e1908 := (show loadL Go.Proofs.Try.prog 3 (x6.toNat * 2 + 1) (List.flatMap c_SRange a0) = some (vi ((a0.getD x6.toNat default).Hi)) from (ld_flat ag3 c_SRange 2 1 len_c_SRange (by omega) a0 default h1906 (by omega)).trans rfl)
   obtain ⟨h1909, h⟩ := ifn h
   have e1910 := (show List.length (List.map vi y1) = y1.length * 1 ∧ List.length [vi (maxI (w64 (((a0.getD x6.toNat default).Lo) * a1.Den)) (minI (w64 (((a0.getD x6.toNat default).Hi) * a1.Den)) a1.Num))] = 1 * 1 ∧ (y1.length + 1) * 8 ≤ 140737488355328 ∧ y1.length + 1 < 1099511627776 ∧ List.all [vi (maxI (w64 (((a0.getD x6.toNat default).Lo) * a1.Den)) (minI (w64 (((a0.getD x6.toNat default).Hi) * a1.Den)) a1.Num))] VV.still = true from ⟨(by simp), (by rw [show [vi (maxI (w64 (((a0.getD x6.toNat default).Lo) * a1.Den)) (minI (w64 (((a0.getD x6.toNat default).Hi) * a1.Den)) a1.Num))] = List.map vi ([maxI (w64 (((a0.getD x6.toNat default).Lo) * a1.Den)) (minI (w64 (((a0.getD x6.toNat default).Hi) * a1.Den)) a1.Num)] : List Int) from rfl]; simp), (by first | omega | (simp at h1909 ⊢; omega)), (by first | omega | (simp at h1909 ⊢; omega)), (by rw [show [vi (maxI (w64 (((a0.getD x6.toNat default).Lo) * a1.Den)) (minI (w64 (((a0.getD x6.toNat default).Hi) * a1.Den)) a1.Num))] = List.map vi ([maxI (w64 (((a0.getD x6.toNat default).Lo) * a1.Den)) (minI (w64 (((a0.getD x6.toNat default).Hi) * a1.Den)) a1.Num)] : List Int) from rfl]; exact still_vi _)⟩)
   have e1911 := (ti (ti (ti (an h1906 (ti (an e1907 (ti (ti (ti (ti (ti (an h1906 (ti (an e1908 (ti (ti (ti (ti (ti (ti (ti (ti (an e1910 (ti trivial))))))))))))))))))))))))
   have h2 := ih _ _ _ h
   obtain ⟨q, hv, hq⟩ := pkR (rd := none) (P := Go.Proofs.Try.prog) (fn := Go.Proofs.Try.f22) (k := 0) (s := (nspeculumref06_nearest_l0_0_h a0 a1 y1 x6)) (ans := [.reg (nN 4 []), .br true, .reg (arQ1_6 a0 x6), .reg (nN 3 [])]) (c := ⟨[(0, none), (3, none), (5, some (VV.rf 1 0 ((y1 ++ ([maxI (w64 (((a0.getD x6.toNat default).Lo) * a1.Den)) (minI (w64 (((a0.getD x6.toNat default).Hi) * a1.Den)) a1.Num)] : List Int)).length))), (6, none)], [none, some (List.map vi (y1 ++ ([maxI (w64 (((a0.getD x6.toNat default).Lo) * a1.Den)) (minI (w64 (((a0.getD x6.toNat default).Hi) * a1.Den)) a1.Num)] : List Int)))], []⟩) (e := .normal) (s1 := (nspeculumref06_nearest_l0_0_h a0 a1 (y1 ++ ([maxI (w64 (((a0.getD x6.toNat default).Lo) * a1.Den)) (minI (w64 (((a0.getD x6.toNat default).Hi) * a1.Den)) a1.Num)] : List Int)) (w64 (x6 + 1)))) (an (an (an (ti (ti (ti (ti trivial)))) (an (decide_eq_true h1905) trivial)) (an e1911 (ti (ti (ti trivial))))) (an (an (show Wv (VV.rf 1 0 (y1.length + 1)) (VV.rf 1 0 ((y1 ++ ([maxI (w64 (((a0.getD x6.toNat default).Lo) * a1.Den)) (minI (w64 (((a0.getD x6.toNat default).Hi) * a1.Den)) a1.Num)] : List Int)).length)) from (Wv.of_eq (by simp))) trivial) (an (show (List.map vi y1) ++ [vi (maxI (w64 (((a0.getD x6.toNat default).Lo) * a1.Den)) (minI (w64 (((a0.getD x6.toNat default).Hi) * a1.Den)) a1.Num))] = List.map vi (y1 ++ ([maxI (w64 (((a0.getD x6.toNat default).Lo) * a1.Den)) (minI (w64 (((a0.getD x6.toNat default).Hi) * a1.Den)) a1.Num)] : List Int)) from (by rw [show [vi (maxI (w64 (((a0.getD x6.toNat default).Lo) * a1.Den)) (minI (w64 (((a0.getD x6.toNat default).Hi) * a1.Den)) a1.Num))] = List.map vi ([maxI (w64 (((a0.getD x6.toNat default).Lo) * a1.Den)) (minI (w64 (((a0.getD x6.toNat default).Hi) * a1.Den)) a1.Num)] : List Int) from rfl]; exact List.map_append.symm)) trivial))) (by kernel_rfl)
   exact round_next pm pn hv hq h2
  ·injection h with h; subst h
   exact round_stop (c := ⟨[(5, none)], [none, none], []⟩) (s1 := (nspeculumref06_nearest_l0_0_e0 a0 a1 y1)) pm pn (ans := [.reg (nN 4 []), .br false]) (by kernel_rfl) (by intro e; cases e) (an (an (ti (ti (ti (ti trivial)))) (an (decide_eq_false h1905) trivial)) (ti trivial))
theorem eqQ1_12 (z0 : (List Int)) : VV.fw 1 (List.drop 0 (List.map unfr (List.map vi z0))) z0.length = VV.fw 1 (List.map vi z0) z0.length := by first | rfl | (simp only [drop0, unfr_vi, List.map_cons, List.map_nil, un_i, List.length_map]; done) | (simp only [drop0, unfr_vi, List.map_cons, List.map_nil, un_i, List.length_map]; rfl) | (simp only [drop0, unfr_vi, List.map_cons, List.map_nil, un_i, List.length_map, List.length_cons, List.length_nil, List.length_append]; done)
def nspeculumref06_nearest (k : Nat) (a0 : (List SRange)) (a1 : SFrac) : Option (List Int) :=
  (nspeculumref06_nearest_l0_0 k a0 a1 k ([] : List Int) 0).bind fun r1913 => (some r1913)
theorem nspeculumref06_nearest_ok (k : Nat) (a0 : (List SRange)) (a1 : SFrac) (r : (List Int)) (h : nspeculumref06_nearest k a0 a1 = some r) : VC Go.Proofs.Try.prog 22 [VV.tr (List.flatMap c_SRange a0) a0.length, VV.ag (c_SFrac a1)] (VV.fw 1 (List.map vi r) r.length) := by
 unfold nspeculumref06_nearest at h
 obtain ⟨r1913, h1912, h⟩ := bs h
 have hph1912 := nspeculumref06_nearest_l0_0_ok k a0 a1 _ _ _ _ h1912
 have e1914 := (an (ti trivial) (VRun.loop hph1912))
 injection h with h; subst h
 exact fun_ok pm pn Go.Proofs.Try.func22 (r0 := VV.fw 1 (List.drop 0 (List.map unfr (List.map vi r1913))) r1913.length) (ans := [.reg (.n :: .n :: []), .reg (.n :: []), .reg (.n :: []), .sub ⟨[(0, none), (3, none), (5, none), (6, none)], [none], [.t 5 1]⟩ (.exit 0) (nspeculumref06_nearest_l0_0_e0 a0 a1 r1913), .reg (.n :: .n :: [])]) (fr := true) (by kernel_rfl) (an (an (ti (ti trivial)) (an (ti trivial) (an (an (ti trivial) e1914) (an (ti (ti trivial)) trivial)))) (an (show List.all (List.map vi r1913) new0 = true from (by exact new0_vi _)) trivial)) (Wv.of_eq (eqQ1_12 r1913))
def arQ1_7 (z0 : (List Int)) (z1 : Int) : List Ans := (nN 4 (.v (vi (z0.getD z1.toNat 0)) :: nN 5 (.v (vi (z0.getD z1.toNat 0)) :: nN 3 (.v (vi (z0.getD z1.toNat 0)) :: nN 4 []))))
def nspeculumref06_square_l0_0_h (a0 : (List Int)) (a1 : Int) (x6 : Int) (x7 : Int) (x8 : Int) : VS := ⟨mkA [(0, VV.tr (List.map vi a0) a0.length), (1, vi a1), (4, VV.pt 0 0), (5, vi (a0.length : Int)), (6, vi x6), (7, vi x7), (8, vi x8)], [some ⟨true, 1, [vi 0, vi 0]⟩], .nil⟩
def nspeculumref06_square_l0_0_e0 (a0 : (List Int)) (a1 : Int) (r : Int × Int) : VS := ⟨mkA [(1, vi a1), (4, VV.pt 0 0), (5, vi (a0.length : Int)), (6, vi r.1), (7, vi r.2)], [some ⟨true, 1, [vi 0, vi 0]⟩], .nil⟩
def nspeculumref06_square_l0_0 (k : Nat) (a0 : (List Int)) (a1 : Int) : Nat → Int → Int → Int → Option (Int × Int)
  | 0, _, _, _ => none
  | fuel + 1, x6, x7, x8 => if x8 < (a0.length : Int) then (if 0 ≤ x8 ∧ x8 < (a0.length : Int) then (nspeculumref06_square_l0_0 k a0 a1 fuel (w64 (x6 + (a0.getD x8.toNat 0))) (w64 (x7 + (w64 ((a0.getD x8.toNat 0) * (a0.getD x8.toNat 0))))) (w64 (x8 + 1))) else none) else (some (x6, x7))
theorem nspeculumref06_square_l0_0_ok (k : Nat) (a0 : (List Int)) (a1 : Int) : ∀ (fuel : Nat) (x6 : Int) (x7 : Int) (x8 : Int) (r : Int × Int), nspeculumref06_square_l0_0 k a0 a1 fuel x6 x7 x8 = some r → (VLoop none Go.Proofs.Try.prog (szF Go.Proofs.Try.f21) (bodyOf Go.Proofs.Try.f21 0) (nspeculumref06_square_l0_0_h a0 a1 x6 x7 x8) (.exit 0) (nspeculumref06_square_l0_0_e0 a0 a1 r)) := by
 intro fuel
 induction fuel with
 | zero => intro x6 x7 x8 r h; rw [nspeculumref06_square_l0_0.eq_1] at h; cases h
 | succ fuel ih =>
  intro x6 x7 x8 r h
  rw [nspeculumref06_square_l0_0.eq_2] at h
  rcases ifs h with ⟨h1956, h⟩ | ⟨h1956, h⟩
  ·obtain ⟨h1957, h⟩ := ifn h
   have e1958 := (show loadL Go.Proofs.Try.prog 3 (x8.toNat * 1) (List.map vi a0) = some (vi (a0.getD x8.toNat 0)) from ld_map ag3 vi a0 0 h1957 (by omega))
   have e1959 := (show loadL Go.Proofs.Try.prog 3 (x8.toNat * 1) (List.map vi a0) = some (vi (a0.getD x8.toNat 0)) from ld_map ag3 vi a0 0 h1957 (by omega))
   have e1960 := (show loadL Go.Proofs.Try.prog 3 (x8.toNat * 1) (List.map vi a0) = some (vi (a0.getD x8.toNat 0)) from ld_map ag3 vi a0 0 h1957 (by omega))
   have e1961 := (ti (ti (ti (an h1957 (an e1958 (ti (ti (ti (ti (an h1957 (an e1959 (ti (ti (an h1957 (an e1960 (ti (ti (ti (ti trivial)))))))))))))))))))
   have h2 := ih _ _ _ _ h
   obtain ⟨q, hv, hq⟩ := pkR (rd := none) (P := Go.Proofs.Try.prog) (fn := Go.Proofs.Try.f21) (k := 0) (s := (nspeculumref06_square_l0_0_h a0 a1 x6 x7 x8)) (ans := [.reg (nN 3 []), .br true, .reg (arQ1_7 a0 x8), .reg (nN 3 [])]) (c := ⟨[(0, none), (1, none), (4, none), (5, none), (6, none), (7, none), (8, none)], [none], []⟩) (e := .normal) (s1 := (nspeculumref06_square_l0_0_h a0 a1 (w64 (x6 + (a0.getD x8.toNat 0))) (w64 (x7 + (w64 ((a0.getD x8.toNat 0) * (a0.getD x8.toNat 0))))) (w64 (x8 + 1)))) (an (an (an (ti (ti (ti trivial))) (an (decide_eq_true h1956) trivial)) (an e1961 (ti (ti (ti trivial))))) (ti trivial)) (by kernel_rfl)
   exact round_next pm pn hv hq h2
  ·injection h with h; subst h
   exact round_stop (c := ⟨[(1, none), (4, none), (5, none), (6, none), (7, none)], [none], []⟩) (s1 := (nspeculumref06_square_l0_0_e0 a0 a1 (x6, x7))) pm pn (ans := [.reg (nN 3 []), .br false]) (by kernel_rfl) (by intro e; cases e) (an (an (ti (ti (ti trivial))) (an (decide_eq_false h1956) trivial)) (ti trivial))
def nspeculumref06_square (k : Nat) (a0 : (List Int)) (a1 : Int) : Option SFrac :=
  (nspeculumref06_square_l0_0 k a0 a1 k 0 0 0).bind fun r1963 => ((nspeculumbase_Lowest k (w64 ((w64 ((a0.length : Int) * r1963.2)) - (w64 (r1963.1 * r1963.1)))) (w64 ((w64 ((w64 ((a0.length : Int) * (a0.length : Int))) * a1)) * a1))).bind fun r1965 => (some r1965))
theorem nspeculumref06_square_ok (k : Nat) (a0 : (List Int)) (a1 : Int) (r : SFrac) (h : nspeculumref06_square k a0 a1 = some r) : VC Go.Proofs.Try.prog 21 [VV.tr (List.map vi a0) a0.length, vi a1] (VV.ag (c_SFrac r)) := by
 unfold nspeculumref06_square at h
 obtain ⟨r1963, h1962, h⟩ := bs h
 have hph1962 := nspeculumref06_square_l0_0_ok k a0 a1 _ _ _ _ _ h1962
 have e1964 := (an (ti trivial) (VRun.loop hph1962))
 obtain ⟨r1965, h1966, h⟩ := bs h
 have e1967 := (nspeculumbase_Lowest_ok k (w64 ((w64 ((a0.length : Int) * r1963.2)) - (w64 (r1963.1 * r1963.1)))) (w64 ((w64 ((w64 ((a0.length : Int) * (a0.length : Int))) * a1)) * a1)) _ h1966)
 have e1968 := (ti (ti (ti (ti (ti (ti (ti (ti (ti (ti (ti (ti (ti (ti (an e1967 (ti trivial))))))))))))))))
 injection h with h; subst h
 exact fun_ok pm pn Go.Proofs.Try.func21 (r0 := VV.ag (c_SFrac r1965)) (ans := [.reg (.n :: []), .reg (nN 5 []), .reg (.n :: []), .sub ⟨[(0, none), (1, none), (4, none), (5, none), (6, none), (7, none), (8, none)], [none], []⟩ (.exit 0) (nspeculumref06_square_l0_0_e0 a0 a1 r1963), .reg (nN 14 (.call (VV.ag (c_SFrac r1965)) :: .n :: []))]) (fr := true) (by kernel_rfl) (an (an (ti trivial) (an (ti (ti (ti (ti (ti trivial))))) (an (an (ti trivial) e1964) (an e1968 trivial)))) (an (ti (ti (ti trivial))) trivial)) (Wv.refl _)
def nspeculumbase_Floor (k : Nat) (a0 : Int) (a1 : Int) : Option Int :=
  if a1 ≠ 0 then (if (a0.tmod a1) < 0 then (some (w64 ((w64 (a0.tdiv a1)) - 1))) else (some (w64 (a0.tdiv a1)))) else none
theorem nspeculumbase_Floor_ok (k : Nat) (a0 : Int) (a1 : Int) (r : Int) (h : nspeculumbase_Floor k a0 a1 = some r) : VC Go.Proofs.Try.prog 41 [vi a0, vi a1] (vi r) := by
 unfold nspeculumbase_Floor at h
 obtain ⟨h1986, h⟩ := ifn h
 rcases ifs h with ⟨h1987, h⟩ | ⟨h1987, h⟩
 ·injection h with h; subst h
  exact fun_ok pm pn Go.Proofs.Try.func41 (r0 := vi (w64 ((w64 (a0.tdiv a1)) - 1))) (ans := [.reg (.n :: []), .reg (nN 4 []), .reg (nN 4 []), .br true, .reg (nN 3 []), .reg (.n :: .n :: [])]) (fr := true) (by kernel_rfl) (an (an (ti trivial) (an (ti (ti (an h1986 (ti trivial)))) (an (an (ti (ti (an h1986 (ti trivial)))) (an (decide_eq_true h1987) (ti (ti (ti trivial))))) (an (ti (ti trivial)) trivial)))) (ti trivial)) (Wv.refl _)
 ·injection h with h; subst h
  exact fun_ok pm pn Go.Proofs.Try.func41 (r0 := vi (w64 (a0.tdiv a1))) (ans := [.reg (.n :: []), .reg (nN 4 []), .reg (nN 4 []), .br false, .reg (.n :: .n :: [])]) (fr := true) (by kernel_rfl) (an (an (ti trivial) (an (ti (ti (an h1986 (ti trivial)))) (an (an (ti (ti (an h1986 (ti trivial)))) (an (decide_eq_false h1987) trivial)) (an (ti (ti trivial)) trivial)))) (ti trivial)) (Wv.refl _)
def nspeculumref06_less2 (k : Nat) (a0 : SFrac) (a1 : SFrac) : Option Bool :=
  (nspeculumbase_Floor k a0.Num a0.Den).bind fun r1997 => ((nspeculumbase_Floor k a1.Num a1.Den).bind fun r2000 => (if r1997 = r2000 then (some (decide ((w64 ((w64 (a0.Num - (w64 (r1997 * a0.Den)))) * a1.Den)) < (w64 ((w64 (a1.Num - (w64 (r2000 * a1.Den)))) * a0.Den))))) else (some (decide (r1997 < r2000)))))
theorem nspeculumref06_less2_ok (k : Nat) (a0 : SFrac) (a1 : SFrac) (r : Bool) (h : nspeculumref06_less2 k a0 a1 = some r) : VC Go.Proofs.Try.prog 23 [VV.ag (c_SFrac a0), VV.ag (c_SFrac a1)] (vb r) := by
 unfold nspeculumref06_less2 at h
 obtain ⟨r1997, h1998, h⟩ := bs h
 have e1999 := (nspeculumbase_Floor_ok k a0.Num a0.Den _ h1998)
 obtain ⟨r2000, h2001, h⟩ := bs h
 have e2002 := (nspeculumbase_Floor_ok k a1.Num a1.Den _ h2001)
 have e2003 := (ti (ti (ti (ti (an e1999 (ti (ti (ti (ti (an e2002 (ti (ti trivial))))))))))))
 rcases ifs h with ⟨h2004, h⟩ | ⟨h2004, h⟩
 ·have e2005 := (ti (ti (ti (ti (ti (ti (ti (ti (ti (ti (ti (ti (ti (ti (ti (ti (ti (ti (ti (ti (ti (ti trivial))))))))))))))))))))))
  injection h with h; subst h
  exact fun_ok pm pn Go.Proofs.Try.func23 (r0 := vb (decide ((w64 ((w64 (a0.Num - (w64 (r1997 * a0.Den)))) * a1.Den)) < (w64 ((w64 (a1.Num - (w64 (r2000 * a1.Den)))) * a0.Den))))) (ans := [.reg (nN 3 []), .reg (nN 4 (.call (vi r1997) :: nN 4 (.call (vi r2000) :: .n :: .n :: []))), .reg (nN 3 []), .br false, .reg (nN 22 [])]) (fr := true) (by kernel_rfl) (an (an (ti (ti (ti trivial))) (an e2003 (an (an (ti (ti (ti trivial))) (an (not_f (decide_eq_true h2004)) trivial)) (an e2005 trivial)))) (ti trivial)) (Wv.refl _)
 ·injection h with h; subst h
  exact fun_ok pm pn Go.Proofs.Try.func23 (r0 := vb (decide (r1997 < r2000))) (ans := [.reg (nN 3 []), .reg (nN 4 (.call (vi r1997) :: nN 4 (.call (vi r2000) :: .n :: .n :: []))), .reg (nN 3 []), .br true, .reg (nN 4 [])]) (fr := true) (by kernel_rfl) (an (an (ti (ti (ti trivial))) (an e2003 (an (ti (ti (ti trivial))) (an (not_t (decide_eq_false h2004)) (an (ti (ti (ti (ti trivial)))) trivial))))) (ti trivial)) (Wv.refl _)
theorem eqQ1_13 (z0 : SFrac) (z1 : Int) (z2 : Int) : [VV.ag (c_SFrac z0), VV.ag (c_SFrac (⟨z1, z2⟩ : SFrac))] = [VV.ag (c_SFrac z0), VV.ag [vi z1, vi z2]] := by first | rfl | (simp only [unfr_vi, List.map_cons, List.map_nil, un_i, unfr_c_SFrac]; done) | (simp only [unfr_vi, List.map_cons, List.map_nil, un_i, unfr_c_SFrac]; rfl) | (simp only [unfr_vi, List.map_cons, List.map_nil, un_i, unfr_c_SFrac, c_SFrac, List.length_cons, List.length_nil, List.length_append]; done)
def arQ1_8 (z0 : (List SFrac)) (z1 : Int) (z2 : (List Int)) (z3 : SFrac) : List Ans := (nN 4 (.v (VV.ag (c_SFrac (z0.getD z1.toNat default))) :: .call (VV.fr (List.map vi z2) z2.length) :: nN 4 (.v (vi ((z0.getD z1.toNat default).Den)) :: .call (VV.ag (c_SFrac z3)) :: .n :: .n :: [])))
theorem eqQ1_14 (z0 : (List Int)) : [VV.tr (List.map vi z0) z0.length, vi 1] = [VV.tr (List.drop 0 (List.map unfr (List.map vi z0))) z0.length, vi 1] := by first | rfl | (simp only [drop0, unfr_vi, List.map_cons, List.map_nil, un_i, un_tr, List.length_map, List.length_cons, List.length_nil]; done) | (simp only [drop0, unfr_vi, List.map_cons, List.map_nil, un_i, un_tr, List.length_map, List.length_cons, List.length_nil]; rfl) | (simp only [drop0, unfr_vi, List.map_cons, List.map_nil, un_i, un_tr, List.length_map, List.length_cons, List.length_nil, List.length_cons, List.length_nil, List.length_append]; done)
theorem eqQ1_15 (z0 : Int × Int) (z1 : SFrac) : [VV.ag (c_SFrac (⟨z0.1, z0.2⟩ : SFrac)), VV.ag (c_SFrac z1)] = [VV.ag [vi z0.1, vi z0.2], VV.ag (c_SFrac z1)] := by first | rfl | (simp only [unfr_vi, List.map_cons, List.map_nil, un_i, unfr_c_SFrac]; done) | (simp only [unfr_vi, List.map_cons, List.map_nil, un_i, unfr_c_SFrac]; rfl) | (simp only [unfr_vi, List.map_cons, List.map_nil, un_i, unfr_c_SFrac, c_SFrac, List.length_cons, List.length_nil, List.length_append]; done)
theorem eqQ1_16 (z0 : Int) (z1 : Int) (z2 : SFrac) : [VV.ag (c_SFrac (⟨z0, z1⟩ : SFrac)), VV.ag (c_SFrac z2)] = [VV.ag [vi z0, vi z1], VV.ag (c_SFrac z2)] := by first | rfl | (simp only [unfr_vi, List.map_cons, List.map_nil, un_i, unfr_c_SFrac]; done) | (simp only [unfr_vi, List.map_cons, List.map_nil, un_i, unfr_c_SFrac]; rfl) | (simp only [unfr_vi, List.map_cons, List.map_nil, un_i, unfr_c_SFrac, c_SFrac, List.length_cons, List.length_nil, List.length_append]; done)
def nspeculumref06_SquareRange_l0_0_h (a0 : (List SRange)) (y1 : List SFrac) (x4 : Int) : VS := ⟨mkA [(0, VV.tr (List.flatMap c_SRange a0) a0.length), (2, VV.pt 0 0), (3, VV.rf 1 0 y1.length), (4, vi x4)], [some ⟨true, 1, [vi 0, vi 0, vi 0, vi 0]⟩, some ⟨false, 2, List.flatMap c_SFrac y1⟩], .nil⟩
def nspeculumref06_SquareRange_l0_0_e0 (a0 : (List SRange)) (r : (List SFrac)) : VS := ⟨mkA [(0, VV.tr (List.flatMap c_SRange a0) a0.length), (2, VV.pt 0 0), (3, VV.rf 1 0 r.length)], [some ⟨true, 1, [vi 0, vi 0, vi 0, vi 0]⟩, some ⟨false, 2, List.flatMap c_SFrac r⟩], .nil⟩
def nspeculumref06_SquareRange_l0_0 (k : Nat) (a0 : (List SRange)) : Nat → (List SFrac) → Int → Option ((List SFrac))
  | 0, _, _ => none
  | fuel + 1, y1, x4 => if x4 < (a0.length : Int) then (if 0 ≤ x4 ∧ x4 < (a0.length : Int) then (if y1.length + ([(⟨(a0.getD x4.toNat default).Lo, 1⟩ : SFrac), (⟨(a0.getD x4.toNat default).Hi, 1⟩ : SFrac)] : List SFrac).length ≤ 1000000000 then (nspeculumref06_SquareRange_l0_0 k a0 fuel (y1 ++ ([(⟨(a0.getD x4.toNat default).Lo, 1⟩ : SFrac), (⟨(a0.getD x4.toNat default).Hi, 1⟩ : SFrac)] : List SFrac)) (w64 (x4 + 1))) else none) else none) else (some y1)
theorem nspeculumref06_SquareRange_l0_0_ok (k : Nat) (a0 : (List SRange)) : ∀ (fuel : Nat) (y1 : List SFrac) (x4 : Int) (r : (List SFrac)), nspeculumref06_SquareRange_l0_0 k a0 fuel y1 x4 = some r → (VLoop none Go.Proofs.Try.prog (szF Go.Proofs.Try.f8) (bodyOf Go.Proofs.Try.f8 0) (nspeculumref06_SquareRange_l0_0_h a0 y1 x4) (.exit 0) (nspeculumref06_SquareRange_l0_0_e0 a0 r)) := by
 intro fuel
 induction fuel with
 | zero => intro y1 x4 r h; rw [nspeculumref06_SquareRange_l0_0.eq_1] at h; cases h
 | succ fuel ih =>
  intro y1 x4 r h
  rw [nspeculumref06_SquareRange_l0_0.eq_2] at h
  rcases ifs h with ⟨h2259, h⟩ | ⟨h2259, h⟩
  ·obtain ⟨h2260, h⟩ := ifn h
   have e2261 := (show loadL Go.Proofs.Try.prog 3 (x4.toNat * 2 + 0) (List.flatMap c_SRange a0) = some (vi ((a0.getD x4.toNat default).Lo)) from (ld_flat ag3 c_SRange 2 0 len_c_SRange (by omega) a0 default h2260 (by omega)).trans rfl)
   have e2262 := (show loadL Go.Proofs.Try.prog 3 (x4.toNat * 2 + 1) (List.flatMap c_SRange a0) = some (vi ((a0.getD x4.toNat default).Hi)) from (ld_flat ag3 c_SRange 2 1 len_c_SRange (by omega) a0 default h2260 (by omega)).trans rfl)
   obtain ⟨h2263, h⟩ := ifn h
   have e2264 := (show List.length (List.flatMap c_SFrac y1) = y1.length * 2 ∧ List.length [vi ((a0.getD x4.toNat default).Lo), vi 1, vi ((a0.getD x4.toNat default).Hi), vi 1] = 2 * 2 ∧ (y1.length + 2) * 16 ≤ 140737488355328 ∧ y1.length + 2 < 1099511627776 ∧ List.all [vi ((a0.getD x4.toNat default).Lo), vi 1, vi ((a0.getD x4.toNat default).Hi), vi 1] VV.still = true from ⟨(by rw [flatMap_len len_c_SFrac] <;> simp), (by rw [show [vi ((a0.getD x4.toNat default).Lo), vi 1, vi ((a0.getD x4.toNat default).Hi), vi 1] = List.flatMap c_SFrac ([(⟨(a0.getD x4.toNat default).Lo, 1⟩ : SFrac), (⟨(a0.getD x4.toNat default).Hi, 1⟩ : SFrac)] : List SFrac) from rfl]; rw [flatMap_len len_c_SFrac] <;> simp), (by first | omega | (simp at h2263 ⊢; omega)), (by first | omega | (simp at h2263 ⊢; omega)), (by rw [show [vi ((a0.getD x4.toNat default).Lo), vi 1, vi ((a0.getD x4.toNat default).Hi), vi 1] = List.flatMap c_SFrac ([(⟨(a0.getD x4.toNat default).Lo, 1⟩ : SFrac), (⟨(a0.getD x4.toNat default).Hi, 1⟩ : SFrac)] : List SFrac) from rfl]; exact still_c_SFrac _)⟩)
   have e2265 := (ti (ti (ti (an h2260 (ti (an e2261 (ti (ti (ti (an h2260 (ti (an e2262 (ti (ti (an e2264 (ti trivial))))))))))))))))
   have h2 := ih _ _ _ h
   obtain ⟨q, hv, hq⟩ := pkR (rd := none) (P := Go.Proofs.Try.prog) (fn := Go.Proofs.Try.f8) (k := 0) (s := (nspeculumref06_SquareRange_l0_0_h a0 y1 x4)) (ans := [.reg (nN 4 []), .br true, .reg (arQ1_5 a0 x4), .reg (nN 3 [])]) (c := ⟨[(0, none), (2, none), (3, some (VV.rf 1 0 ((y1 ++ ([(⟨(a0.getD x4.toNat default).Lo, 1⟩ : SFrac), (⟨(a0.getD x4.toNat default).Hi, 1⟩ : SFrac)] : List SFrac)).length))), (4, none)], [none, some (List.flatMap c_SFrac (y1 ++ ([(⟨(a0.getD x4.toNat default).Lo, 1⟩ : SFrac), (⟨(a0.getD x4.toNat default).Hi, 1⟩ : SFrac)] : List SFrac)))], []⟩) (e := .normal) (s1 := (nspeculumref06_SquareRange_l0_0_h a0 (y1 ++ ([(⟨(a0.getD x4.toNat default).Lo, 1⟩ : SFrac), (⟨(a0.getD x4.toNat default).Hi, 1⟩ : SFrac)] : List SFrac)) (w64 (x4 + 1)))) (an (an (an (ti (ti (ti (ti trivial)))) (an (decide_eq_true h2259) trivial)) (an e2265 (ti (ti (ti trivial))))) (an (an (show Wv (VV.rf 1 0 (y1.length + 2)) (VV.rf 1 0 ((y1 ++ ([(⟨(a0.getD x4.toNat default).Lo, 1⟩ : SFrac), (⟨(a0.getD x4.toNat default).Hi, 1⟩ : SFrac)] : List SFrac)).length)) from (Wv.of_eq (by simp))) trivial) (an (show (List.flatMap c_SFrac y1) ++ [vi ((a0.getD x4.toNat default).Lo), vi 1, vi ((a0.getD x4.toNat default).Hi), vi 1] = List.flatMap c_SFrac (y1 ++ ([(⟨(a0.getD x4.toNat default).Lo, 1⟩ : SFrac), (⟨(a0.getD x4.toNat default).Hi, 1⟩ : SFrac)] : List SFrac)) from (by rw [show [vi ((a0.getD x4.toNat default).Lo), vi 1, vi ((a0.getD x4.toNat default).Hi), vi 1] = List.flatMap c_SFrac ([(⟨(a0.getD x4.toNat default).Lo, 1⟩ : SFrac), (⟨(a0.getD x4.toNat default).Hi, 1⟩ : SFrac)] : List SFrac) from rfl]; exact List.flatMap_append.symm)) trivial))) (by kernel_rfl)
   exact round_next pm pn hv hq h2
  ·injection h with h; subst h
   exact round_stop (c := ⟨[(0, none), (2, none), (3, none)], [none, none], []⟩) (s1 := (nspeculumref06_SquareRange_l0_0_e0 a0 y1)) pm pn (ans := [.reg (nN 4 []), .br false]) (by kernel_rfl) (by intro e; cases e) (an (an (ti (ti (ti (ti trivial)))) (an (decide_eq_false h2259) trivial)) (ti trivial))
def nspeculumref06_SquareRange_l3_0_h (a0 : (List SRange)) (r2267 : (List SFrac)) (x6 : Int) (y1z : List SFrac) (x7 : Int) (x10 : Int) (x8 : Int) (x9 : Int) : VS := ⟨mkA [(0, VV.tr (List.flatMap c_SRange a0) a0.length), (2, VV.pt 0 0), (3, VV.rf 1 0 y1z.length), (5, vi ((r2267.length : Nat) : Int)), (6, vi x6), (7, vi x7), (8, vi x8), (9, vi x9), (10, vi x10)], [some ⟨true, 1, [vi 0, vi 0, vi 0, vi 0]⟩, some ⟨false, 2, List.flatMap c_SFrac y1z⟩], .nil⟩
def nspeculumref06_SquareRange_l3_0_e0 (a0 : (List SRange)) (r2267 : (List SFrac)) (x6 : Int) (y1z : List SFrac) (x7 : Int) (r : Int × Int) : VS := ⟨mkA [(0, VV.tr (List.flatMap c_SRange a0) a0.length), (2, VV.pt 0 0), (3, VV.rf 1 0 y1z.length), (5, vi ((r2267.length : Nat) : Int)), (6, vi x6), (7, vi x7), (8, vi r.1), (9, vi r.2)], [some ⟨true, 1, [vi 0, vi 0, vi 0, vi 0]⟩, some ⟨false, 2, List.flatMap c_SFrac y1z⟩], .nil⟩
def nspeculumref06_SquareRange_l3_0 (k : Nat) (a0 : (List SRange)) (r2267 : (List SFrac)) (x6 : Int) (y1z : List SFrac) (x7 : Int) : Nat → Int → Int → Int → Option (Int × Int)
  | 0, _, _, _ => none
  | fuel + 1, x10, x8, x9 => if x10 < (a0.length : Int) then (if 0 ≤ x6 ∧ x6 < (y1z.length : Int) then (if 0 ≤ x10 ∧ x10 < (a0.length : Int) then (if (w64 (2 * ((a0.getD x10.toNat default).Hi))) < (w64 ((w64 ((w64 (2 * ((y1z.getD x6.toNat default).Num))) + 1)) - (w64 (2 * x7)))) then (if (w64 ((w64 ((w64 (2 * ((y1z.getD x6.toNat default).Num))) + 1)) - (w64 (2 * x7)))) < (w64 (2 * ((a0.getD x10.toNat default).Lo))) then (nspeculumref06_SquareRange_l3_0 k a0 r2267 x6 y1z x7 fuel (w64 (x10 + 1)) (w64 ((w64 (x8 + ((a0.getD x10.toNat default).Hi))) + ((a0.getD x10.toNat default).Lo))) (w64 ((w64 (x9 + 1)) + 1))) else (nspeculumref06_SquareRange_l3_0 k a0 r2267 x6 y1z x7 fuel (w64 (x10 + 1)) (w64 (x8 + ((a0.getD x10.toNat default).Hi))) (w64 (x9 + 1)))) else (if (w64 ((w64 ((w64 (2 * ((y1z.getD x6.toNat default).Num))) + 1)) - (w64 (2 * x7)))) < (w64 (2 * ((a0.getD x10.toNat default).Lo))) then (nspeculumref06_SquareRange_l3_0 k a0 r2267 x6 y1z x7 fuel (w64 (x10 + 1)) (w64 (x8 + ((a0.getD x10.toNat default).Lo))) (w64 (x9 + 1))) else (nspeculumref06_SquareRange_l3_0 k a0 r2267 x6 y1z x7 fuel (w64 (x10 + 1)) x8 x9))) else none) else none) else (some (x8, x9))
theorem nspeculumref06_SquareRange_l3_0_ok (k : Nat) (a0 : (List SRange)) (r2267 : (List SFrac)) (x6 : Int) (y1z : List SFrac) (x7 : Int) : ∀ (fuel : Nat) (x10 : Int) (x8 : Int) (x9 : Int) (r : Int × Int), nspeculumref06_SquareRange_l3_0 k a0 r2267 x6 y1z x7 fuel x10 x8 x9 = some r → (VLoop none Go.Proofs.Try.prog (szF Go.Proofs.Try.f8) (bodyOf Go.Proofs.Try.f8 3) (nspeculumref06_SquareRange_l3_0_h a0 r2267 x6 y1z x7 x10 x8 x9) (.exit 6) (nspeculumref06_SquareRange_l3_0_e0 a0 r2267 x6 y1z x7 r)) := by
 intro fuel
 induction fuel with
 | zero => intro x10 x8 x9 r h; rw [nspeculumref06_SquareRange_l3_0.eq_1] at h; cases h
 | succ fuel ih =>
  intro x10 x8 x9 r h
  rw [nspeculumref06_SquareRange_l3_0.eq_2] at h
  rcases ifs h with ⟨h2884, h⟩ | ⟨h2884, h⟩
  ·obtain ⟨h2885, h⟩ := ifn h
   have e2886 := (show loadL Go.Proofs.Try.prog 3 (0 + x6.toNat * 2 + 0) (List.flatMap c_SFrac y1z) = some (vi ((y1z.getD x6.toNat default).Num)) from (ld_flat ag3 c_SFrac 2 0 len_c_SFrac (by omega) y1z default h2885 (by omega)).trans rfl)
   have e2887 := (ti (ti (an h2885 (ti (an e2886 (ti (ti (ti (ti (ti (ti trivial)))))))))))
   obtain ⟨h2888, h⟩ := ifn h
   have e2889 := (show loadL Go.Proofs.Try.prog 3 (x10.toNat * 2 + 1) (List.flatMap c_SRange a0) = some (vi ((a0.getD x10.toNat default).Hi)) from (ld_flat ag3 c_SRange 2 1 len_c_SRange (by omega) a0 default h2888 (by omega)).trans rfl)
   have e2890 := (ti (ti (an h2888 (ti (an e2889 (ti (ti (ti trivial))))))))
   rcases ifs h with ⟨h2891, h⟩ | ⟨h2891, h⟩
   ·have e2892 := (show loadL Go.Proofs.Try.prog 3 (x10.toNat * 2 + 1) (List.flatMap c_SRange a0) = some (vi ((a0.getD x10.toNat default).Hi)) from (ld_flat ag3 c_SRange 2 1 len_c_SRange (by omega) a0 default h2888 (by omega)).trans rfl)
    have e2893 := (ti (ti (ti (an h2888 (ti (an e2892 (ti (ti (ti (ti (ti trivial)))))))))))
    have e2894 := (show loadL Go.Proofs.Try.prog 3 (x10.toNat * 2 + 0) (List.flatMap c_SRange a0) = some (vi ((a0.getD x10.toNat default).Lo)) from (ld_flat ag3 c_SRange 2 0 len_c_SRange (by omega) a0 default h2888 (by omega)).trans rfl)
    have e2895 := (ti (ti (an h2888 (ti (an e2894 (ti (ti (ti trivial))))))))
    rcases ifs h with ⟨h2896, h⟩ | ⟨h2896, h⟩
    ·have e2897 := (show loadL Go.Proofs.Try.prog 3 (x10.toNat * 2 + 0) (List.flatMap c_SRange a0) = some (vi ((a0.getD x10.toNat default).Lo)) from (ld_flat ag3 c_SRange 2 0 len_c_SRange (by omega) a0 default h2888 (by omega)).trans rfl)
     have e2898 := (ti (ti (ti (an h2888 (ti (an e2897 (ti (ti (ti (ti (ti trivial)))))))))))
     have h2 := ih _ _ _ _ h
     obtain ⟨q, hv, hq⟩ := pkR (rd := none) (P := Go.Proofs.Try.prog) (fn := Go.Proofs.Try.f8) (k := 3) (s := (nspeculumref06_SquareRange_l3_0_h a0 r2267 x6 y1z x7 x10 x8 x9)) (ans := [.reg (nN 4 []), .br true, .reg (nN 4 (.v (vi ((y1z.getD x6.toNat default).Num)) :: nN 6 [])), .reg (nN 4 (.v (vi ((a0.getD x10.toNat default).Hi)) :: nN 3 [])), .br true, .reg (nN 5 (.v (vi ((a0.getD x10.toNat default).Hi)) :: nN 5 [])), .reg (nN 4 (.v (vi ((a0.getD x10.toNat default).Lo)) :: nN 3 [])), .br true, .reg (nN 5 (.v (vi ((a0.getD x10.toNat default).Lo)) :: nN 5 [])), .reg (nN 3 [])]) (c := ⟨[(0, none), (2, none), (3, none), (5, none), (6, none), (7, none), (8, none), (9, none), (10, none)], [none, none], []⟩) (e := .normal) (s1 := (nspeculumref06_SquareRange_l3_0_h a0 r2267 x6 y1z x7 (w64 (x10 + 1)) (w64 ((w64 (x8 + ((a0.getD x10.toNat default).Hi))) + ((a0.getD x10.toNat default).Lo))) (w64 ((w64 (x9 + 1)) + 1)))) (an (an (an (ti (ti (ti (ti trivial)))) (an (decide_eq_true h2884) trivial)) (an (an e2887 (an (an e2890 (an (decide_eq_true h2891) e2893)) (an e2895 (an (decide_eq_true h2896) e2898)))) (ti (ti (ti trivial))))) (ti trivial)) (by kernel_rfl)
     exact round_next pm pn hv hq h2
    ·have h2 := ih _ _ _ _ h
     obtain ⟨q, hv, hq⟩ := pkR (rd := none) (P := Go.Proofs.Try.prog) (fn := Go.Proofs.Try.f8) (k := 3) (s := (nspeculumref06_SquareRange_l3_0_h a0 r2267 x6 y1z x7 x10 x8 x9)) (ans := [.reg (nN 4 []), .br true, .reg (nN 4 (.v (vi ((y1z.getD x6.toNat default).Num)) :: nN 6 [])), .reg (nN 4 (.v (vi ((a0.getD x10.toNat default).Hi)) :: nN 3 [])), .br true, .reg (nN 5 (.v (vi ((a0.getD x10.toNat default).Hi)) :: nN 5 [])), .reg (nN 4 (.v (vi ((a0.getD x10.toNat default).Lo)) :: nN 3 [])), .br false, .reg (nN 3 [])]) (c := ⟨[(0, none), (2, none), (3, none), (5, none), (6, none), (7, none), (8, none), (9, none), (10, none)], [none, none], []⟩) (e := .normal) (s1 := (nspeculumref06_SquareRange_l3_0_h a0 r2267 x6 y1z x7 (w64 (x10 + 1)) (w64 (x8 + ((a0.getD x10.toNat default).Hi))) (w64 (x9 + 1)))) (an (an (an (ti (ti (ti (ti trivial)))) (an (decide_eq_true h2884) trivial)) (an (an e2887 (an (an e2890 (an (decide_eq_true h2891) e2893)) (an e2895 (an (decide_eq_false h2896) trivial)))) (ti (ti (ti trivial))))) (ti trivial)) (by kernel_rfl)
     exact round_next pm pn hv hq h2
   ·have e2899 := (show loadL Go.Proofs.Try.prog 3 (x10.toNat * 2 + 0) (List.flatMap c_SRange a0) = some (vi ((a0.getD x10.toNat default).Lo)) from (ld_flat ag3 c_SRange 2 0 len_c_SRange (by omega) a0 default h2888 (by omega)).trans rfl)
    have e2900 := (ti (ti (an h2888 (ti (an e2899 (ti (ti (ti trivial))))))))
    rcases ifs h with ⟨h2901, h⟩ | ⟨h2901, h⟩
    ·have e2902 := (show loadL Go.Proofs.Try.prog 3 (x10.toNat * 2 + 0) (List.flatMap c_SRange a0) = some (vi ((a0.getD x10.toNat default).Lo)) from (ld_flat ag3 c_SRange 2 0 len_c_SRange (by omega) a0 default h2888 (by omega)).trans rfl)
     have e2903 := (ti (ti (ti (an h2888 (ti (an e2902 (ti (ti (ti (ti (ti trivial)))))))))))
     have h2 := ih _ _ _ _ h
     obtain ⟨q, hv, hq⟩ := pkR (rd := none) (P := Go.Proofs.Try.prog) (fn := Go.Proofs.Try.f8) (k := 3) (s := (nspeculumref06_SquareRange_l3_0_h a0 r2267 x6 y1z x7 x10 x8 x9)) (ans := [.reg (nN 4 []), .br true, .reg (nN 4 (.v (vi ((y1z.getD x6.toNat default).Num)) :: nN 6 [])), .reg (nN 4 (.v (vi ((a0.getD x10.toNat default).Hi)) :: nN 3 [])), .br false, .reg (nN 4 (.v (vi ((a0.getD x10.toNat default).Lo)) :: nN 3 [])), .br true, .reg (nN 5 (.v (vi ((a0.getD x10.toNat default).Lo)) :: nN 5 [])), .reg (nN 3 [])]) (c := ⟨[(0, none), (2, none), (3, none), (5, none), (6, none), (7, none), (8, none), (9, none), (10, none)], [none, none], []⟩) (e := .normal) (s1 := (nspeculumref06_SquareRange_l3_0_h a0 r2267 x6 y1z x7 (w64 (x10 + 1)) (w64 (x8 + ((a0.getD x10.toNat default).Lo))) (w64 (x9 + 1)))) (an (an (an (ti (ti (ti (ti trivial)))) (an (decide_eq_true h2884) trivial)) (an (an e2887 (an (an e2890 (an (decide_eq_false h2891) trivial)) (an e2900 (an (decide_eq_true h2901) e2903)))) (ti (ti (ti trivial))))) (ti trivial)) (by kernel_rfl)
     exact round_next pm pn hv hq h2
    ·have h2 := ih _ _ _ _ h
     obtain ⟨q, hv, hq⟩ := pkR (rd := none) (P := Go.Proofs.Try.prog) (fn := Go.Proofs.Try.f8) (k := 3) (s := (nspeculumref06_SquareRange_l3_0_h a0 r2267 x6 y1z x7 x10 x8 x9)) (ans := [.reg (nN 4 []), .br true, .reg (nN 4 (.v (vi ((y1z.getD x6.toNat default).Num)) :: nN 6 [])), .reg (nN 4 (.v (vi ((a0.getD x10.toNat default).Hi)) :: nN 3 [])), .br false, .reg (nN 4 (.v (vi ((a0.getD x10.toNat default).Lo)) :: nN 3 [])), .br false, .reg (nN 3 [])]) (c := ⟨[(0, none), (2, none), (3, none), (5, none), (6, none), (7, none), (8, none), (9, none), (10, none)], [none, none], []⟩) (e := .normal) (s1 := (nspeculumref06_SquareRange_l3_0_h a0 r2267 x6 y1z x7 (w64 (x10 + 1)) x8 x9)) (an (an (an (ti (ti (ti (ti trivial)))) (an (decide_eq_true h2884) trivial)) (an (an e2887 (an (an e2890 (an (decide_eq_false h2891) trivial)) (an e2900 (an (decide_eq_false h2901) trivial)))) (ti (ti (ti trivial))))) (ti trivial)) (by kernel_rfl)
     exact round_next pm pn hv hq h2
  ·injection h with h; subst h
   exact round_stop (c := ⟨[(0, none), (2, none), (3, none), (5, none), (6, none), (7, none), (8, none), (9, none)], [none, none], []⟩) (s1 := (nspeculumref06_SquareRange_l3_0_e0 a0 r2267 x6 y1z x7 (x8, x9))) pm pn (ans := [.reg (nN 4 []), .br false]) (by kernel_rfl) (by intro e; cases e) (an (an (ti (ti (ti (ti trivial)))) (an (decide_eq_false h2884) trivial)) (ti trivial))
def nspeculumref06_SquareRange_l2_0_h (a0 : (List SRange)) (r2267 : (List SFrac)) (x6 : Int) (y1z : List SFrac) (x7 : Int) : VS := ⟨mkA [(0, VV.tr (List.flatMap c_SRange a0) a0.length), (2, VV.pt 0 0), (3, VV.rf 1 0 y1z.length), (5, vi ((r2267.length : Nat) : Int)), (6, vi x6), (7, vi x7)], [some ⟨true, 1, [vi 0, vi 0, vi 0, vi 0]⟩, some ⟨false, 2, List.flatMap c_SFrac y1z⟩], .nil⟩
def nspeculumref06_SquareRange_l2_0_e0 (a0 : (List SRange)) (r2267 : (List SFrac)) (x6 : Int) (r : (List SFrac)) : VS := ⟨mkA [(0, VV.tr (List.flatMap c_SRange a0) a0.length), (2, VV.pt 0 0), (3, VV.rf 1 0 r.length), (5, vi ((r2267.length : Nat) : Int)), (6, vi x6)], [some ⟨true, 1, [vi 0, vi 0, vi 0, vi 0]⟩, some ⟨false, 2, List.flatMap c_SFrac r⟩], .nil⟩
def nspeculumref06_SquareRange_l2_0 (k : Nat) (a0 : (List SRange)) (r2267 : (List SFrac)) (x6 : Int) : Nat → (List SFrac) → Int → Option ((List SFrac))
  | 0, _, _ => none
  | fuel + 1, y1z, x7 => if x7 < 2 then ((nspeculumref06_SquareRange_l3_0 k a0 r2267 x6 y1z x7 k 0 0 0).bind fun r2905 => (if 0 < r2905.2 then ((nspeculumbase_Lowest k r2905.1 r2905.2).bind fun r2908 => (if y1z.length + ([r2908] : List SFrac).length ≤ 1000000000 then (nspeculumref06_SquareRange_l2_0 k a0 r2267 x6 fuel (y1z ++ ([r2908] : List SFrac)) (w64 (x7 + 1))) else none)) else (nspeculumref06_SquareRange_l2_0 k a0 r2267 x6 fuel y1z (w64 (x7 + 1))))) else (some y1z)
theorem nspeculumref06_SquareRange_l2_0_ok (k : Nat) (a0 : (List SRange)) (r2267 : (List SFrac)) (x6 : Int) : ∀ (fuel : Nat) (y1z : List SFrac) (x7 : Int) (r : (List SFrac)), nspeculumref06_SquareRange_l2_0 k a0 r2267 x6 fuel y1z x7 = some r → (VLoop none Go.Proofs.Try.prog (szF Go.Proofs.Try.f8) (bodyOf Go.Proofs.Try.f8 2) (nspeculumref06_SquareRange_l2_0_h a0 r2267 x6 y1z x7) (.exit 4) (nspeculumref06_SquareRange_l2_0_e0 a0 r2267 x6 r)) := by
 intro fuel
 induction fuel with
 | zero => intro y1z x7 r h; rw [nspeculumref06_SquareRange_l2_0.eq_1] at h; cases h
 | succ fuel ih =>
  intro y1z x7 r h
  rw [nspeculumref06_SquareRange_l2_0.eq_2] at h
  rcases ifs h with ⟨h2843, h⟩ | ⟨h2843, h⟩
  ·obtain ⟨r2905, h2904, h⟩ := bs h
   have hph2904 := nspeculumref06_SquareRange_l3_0_ok k a0 r2267 x6 y1z x7 _ _ _ _ _ h2904
   have e2906 := (an (ti trivial) (VRun.loop hph2904))
   rcases ifs h with ⟨h2907, h⟩ | ⟨h2907, h⟩
   ·obtain ⟨r2908, h2909, h⟩ := bs h
    have e2910 := (nspeculumbase_Lowest_ok k r2905.1 r2905.2 _ h2909)
    obtain ⟨h2911, h⟩ := ifn h
    have e2912 := (show List.length (List.flatMap c_SFrac y1z) = y1z.length * 2 ∧ List.length [vi r2908.Num, vi r2908.Den] = 1 * 2 ∧ (y1z.length + 1) * 16 ≤ 140737488355328 ∧ y1z.length + 1 < 1099511627776 ∧ List.all [vi r2908.Num, vi r2908.Den] VV.still = true from ⟨(by rw [flatMap_len len_c_SFrac] <;> simp), (by rw [show [vi r2908.Num, vi r2908.Den] = List.flatMap c_SFrac ([r2908] : List SFrac) from rfl]; rw [flatMap_len len_c_SFrac] <;> simp), (by first | omega | (simp at h2911 ⊢; omega)), (by first | omega | (simp at h2911 ⊢; omega)), (by rw [show [vi r2908.Num, vi r2908.Den] = List.flatMap c_SFrac ([r2908] : List SFrac) from rfl]; exact still_c_SFrac _)⟩)
    have e2913 := (ti (ti (ti (an e2910 (ti (an e2912 (ti trivial)))))))
    have h2 := ih _ _ _ h
    obtain ⟨q, hv, hq⟩ := pkR (rd := none) (P := Go.Proofs.Try.prog) (fn := Go.Proofs.Try.f8) (k := 2) (s := (nspeculumref06_SquareRange_l2_0_h a0 r2267 x6 y1z x7)) (ans := [.reg (.n :: .n :: []), .br true, .reg (.n :: .n :: []), .reg (.n :: []), .sub ⟨[(0, none), (2, none), (3, none), (5, none), (6, none), (7, none), (8, none), (9, none), (10, none)], [none, none], []⟩ (.exit 6) (nspeculumref06_SquareRange_l3_0_e0 a0 r2267 x6 y1z x7 r2905), .reg (.n :: .n :: []), .br true, .reg (nN 3 (.call (VV.ag (c_SFrac r2908)) :: nN 3 [])), .reg (nN 3 [])]) (c := ⟨[(0, none), (2, none), (3, some (VV.rf 1 0 ((y1z ++ ([r2908] : List SFrac)).length))), (5, none), (6, none), (7, none)], [none, some (List.flatMap c_SFrac (y1z ++ ([r2908] : List SFrac)))], []⟩) (e := .normal) (s1 := (nspeculumref06_SquareRange_l2_0_h a0 r2267 x6 (y1z ++ ([r2908] : List SFrac)) (w64 (x7 + 1)))) (an (an (an (ti (ti trivial)) (an (decide_eq_true h2843) trivial)) (an (an (ti (ti trivial)) (an (an (ti trivial) e2906) (an (ti (ti trivial)) (an (decide_eq_true h2907) e2913)))) (ti (ti (ti trivial))))) (an (an (show Wv (VV.rf 1 0 (y1z.length + 1)) (VV.rf 1 0 ((y1z ++ ([r2908] : List SFrac)).length)) from (Wv.of_eq (by simp))) trivial) (an (show (List.flatMap c_SFrac y1z) ++ [vi r2908.Num, vi r2908.Den] = List.flatMap c_SFrac (y1z ++ ([r2908] : List SFrac)) from (by rw [show [vi r2908.Num, vi r2908.Den] = List.flatMap c_SFrac ([r2908] : List SFrac) from rfl]; exact List.flatMap_append.symm)) trivial))) (by kernel_rfl)
    exact round_next pm pn hv hq h2
   ·have h2 := ih _ _ _ h
    obtain ⟨q, hv, hq⟩ := pkR (rd := none) (P := Go.Proofs.Try.prog) (fn := Go.Proofs.Try.f8) (k := 2) (s := (nspeculumref06_SquareRange_l2_0_h a0 r2267 x6 y1z x7)) (ans := [.reg (.n :: .n :: []), .br true, .reg (.n :: .n :: []), .reg (.n :: []), .sub ⟨[(0, none), (2, none), (3, none), (5, none), (6, none), (7, none), (8, none), (9, none), (10, none)], [none, none], []⟩ (.exit 6) (nspeculumref06_SquareRange_l3_0_e0 a0 r2267 x6 y1z x7 r2905), .reg (.n :: .n :: []), .br false, .reg (nN 3 [])]) (c := ⟨[(0, none), (2, none), (3, none), (5, none), (6, none), (7, none)], [none, none], []⟩) (e := .normal) (s1 := (nspeculumref06_SquareRange_l2_0_h a0 r2267 x6 y1z (w64 (x7 + 1)))) (an (an (an (ti (ti trivial)) (an (decide_eq_true h2843) trivial)) (an (an (ti (ti trivial)) (an (an (ti trivial) e2906) (an (ti (ti trivial)) (an (decide_eq_false h2907) trivial)))) (ti (ti (ti trivial))))) (ti trivial)) (by kernel_rfl)
    exact round_next pm pn hv hq h2
  ·injection h with h; subst h
   exact round_stop (c := ⟨[(0, none), (2, none), (3, none), (5, none), (6, none)], [none, none], []⟩) (s1 := (nspeculumref06_SquareRange_l2_0_e0 a0 r2267 x6 y1z)) pm pn (ans := [.reg (.n :: .n :: []), .br false]) (by kernel_rfl) (by intro e; cases e) (an (an (ti (ti trivial)) (an (decide_eq_false h2843) trivial)) (ti trivial))
def nspeculumref06_SquareRange_l1_0_h (a0 : (List SRange)) (r2267 : (List SFrac)) (y1 : List SFrac) (x6 : Int) : VS := ⟨mkA [(0, VV.tr (List.flatMap c_SRange a0) a0.length), (2, VV.pt 0 0), (3, VV.rf 1 0 y1.length), (5, vi ((r2267.length : Nat) : Int)), (6, vi x6)], [some ⟨true, 1, [vi 0, vi 0, vi 0, vi 0]⟩, some ⟨false, 2, List.flatMap c_SFrac y1⟩], .nil⟩
def nspeculumref06_SquareRange_l1_0_e0 (a0 : (List SRange)) (r2267 : (List SFrac)) (r : (List SFrac)) : VS := ⟨mkA [(0, VV.tr (List.flatMap c_SRange a0) a0.length), (2, VV.pt 0 0), (3, VV.rf 1 0 r.length)], [some ⟨true, 1, [vi 0, vi 0, vi 0, vi 0]⟩, some ⟨false, 2, List.flatMap c_SFrac r⟩], .nil⟩
def nspeculumref06_SquareRange_l1_0 (k : Nat) (a0 : (List SRange)) (r2267 : (List SFrac)) : Nat → (List SFrac) → Int → Option ((List SFrac))
  | 0, _, _ => none
  | fuel + 1, y1, x6 => if x6 < ((r2267.length : Nat) : Int) then ((nspeculumref06_SquareRange_l2_0 k a0 r2267 x6 k y1 0).bind fun r2915 => (nspeculumref06_SquareRange_l1_0 k a0 r2267 fuel r2915 (w64 (x6 + 1)))) else (some y1)
theorem nspeculumref06_SquareRange_l1_0_ok (k : Nat) (a0 : (List SRange)) (r2267 : (List SFrac)) : ∀ (fuel : Nat) (y1 : List SFrac) (x6 : Int) (r : (List SFrac)), nspeculumref06_SquareRange_l1_0 k a0 r2267 fuel y1 x6 = some r → (VLoop none Go.Proofs.Try.prog (szF Go.Proofs.Try.f8) (bodyOf Go.Proofs.Try.f8 1) (nspeculumref06_SquareRange_l1_0_h a0 r2267 y1 x6) (.exit 2) (nspeculumref06_SquareRange_l1_0_e0 a0 r2267 r)) := by
 intro fuel
 induction fuel with
 | zero => intro y1 x6 r h; rw [nspeculumref06_SquareRange_l1_0.eq_1] at h; cases h
 | succ fuel ih =>
  intro y1 x6 r h
  rw [nspeculumref06_SquareRange_l1_0.eq_2] at h
  rcases ifs h with ⟨h2701, h⟩ | ⟨h2701, h⟩
  ·obtain ⟨r2915, h2914, h⟩ := bs h
   have hph2914 := nspeculumref06_SquareRange_l2_0_ok k a0 r2267 x6 _ _ _ _ h2914
   have e2916 := (an (ti trivial) (VRun.loop hph2914))
   have h2 := ih _ _ _ h
   obtain ⟨q, hv, hq⟩ := pkR (rd := none) (P := Go.Proofs.Try.prog) (fn := Go.Proofs.Try.f8) (k := 1) (s := (nspeculumref06_SquareRange_l1_0_h a0 r2267 y1 x6)) (ans := [.reg (nN 3 []), .br true, .reg (.n :: []), .sub ⟨[(0, none), (2, none), (3, none), (5, none), (6, none), (7, none)], [none, none], []⟩ (.exit 4) (nspeculumref06_SquareRange_l2_0_e0 a0 r2267 x6 r2915), .reg (nN 3 [])]) (c := ⟨[(0, none), (2, none), (3, none), (5, none), (6, none)], [none, none], []⟩) (e := .normal) (s1 := (nspeculumref06_SquareRange_l1_0_h a0 r2267 r2915 (w64 (x6 + 1)))) (an (an (an (ti (ti (ti trivial))) (an (decide_eq_true h2701) trivial)) (an (an (ti trivial) e2916) (ti (ti (ti trivial))))) (ti trivial)) (by kernel_rfl)
   exact round_next pm pn hv hq h2
  ·injection h with h; subst h
   exact round_stop (c := ⟨[(0, none), (2, none), (3, none)], [none, none], []⟩) (s1 := (nspeculumref06_SquareRange_l1_0_e0 a0 r2267 y1)) pm pn (ans := [.reg (nN 3 []), .br false]) (by kernel_rfl) (by intro e; cases e) (an (an (ti (ti (ti trivial))) (an (decide_eq_false h2701) trivial)) (ti trivial))
def nspeculumref06_SquareRange_l4_0_h (a0 : (List SRange)) (r2918 : (List SFrac)) (b2_0 : Int) (b2_1 : Int) (x13 : Int) : VS := ⟨mkA [(0, VV.tr (List.flatMap c_SRange a0) a0.length), (2, VV.pt 0 0), (3, VV.rf 1 0 r2918.length), (12, VV.pt 2 0), (13, vi x13)], [some ⟨true, 1, [vi 0, vi 0, vi 0, vi 0]⟩, some ⟨false, 2, List.flatMap c_SFrac r2918⟩, some ⟨true, 1, [vi b2_0, vi b2_1]⟩], .nil⟩
def nspeculumref06_SquareRange_l4_0_e0 (a0 : (List SRange)) (r2918 : (List SFrac)) (r : Int × Int) : VS := ⟨mkA [(0, VV.tr (List.flatMap c_SRange a0) a0.length), (2, VV.pt 0 0), (12, VV.pt 2 0)], [some ⟨true, 1, [vi 0, vi 0, vi 0, vi 0]⟩, some ⟨false, 2, List.flatMap c_SFrac r2918⟩, some ⟨true, 1, [vi r.1, vi r.2]⟩], .nil⟩
def nspeculumref06_SquareRange_l4_0 (k : Nat) (a0 : (List SRange)) (r2918 : (List SFrac)) : Nat → Int → Int → Int → Option (Int × Int)
  | 0, _, _, _ => none
  | fuel + 1, b2_0, b2_1, x13 => if x13 < ((r2918.length : Nat) : Int) then (if 0 ≤ x13 ∧ x13 < (r2918.length : Int) then ((nspeculumref06_nearest k a0 (r2918.getD x13.toNat default)).bind fun r2963 => ((nspeculumref06_square k r2963 ((r2918.getD x13.toNat default).Den)).bind fun r2967 => ((nspeculumref06_less2 k r2967 (⟨b2_0, b2_1⟩ : SFrac)).bind fun r2971 => (if r2971 = true then (nspeculumref06_SquareRange_l4_0 k a0 r2918 fuel r2967.Num r2967.Den (w64 (x13 + 1))) else (nspeculumref06_SquareRange_l4_0 k a0 r2918 fuel b2_0 b2_1 (w64 (x13 + 1))))))) else none) else (some (b2_0, b2_1))
theorem nspeculumref06_SquareRange_l4_0_ok (k : Nat) (a0 : (List SRange)) (r2918 : (List SFrac)) : ∀ (fuel : Nat) (b2_0 : Int) (b2_1 : Int) (x13 : Int) (r : Int × Int), nspeculumref06_SquareRange_l4_0 k a0 r2918 fuel b2_0 b2_1 x13 = some r → (VLoop none Go.Proofs.Try.prog (szF Go.Proofs.Try.f8) (bodyOf Go.Proofs.Try.f8 4) (nspeculumref06_SquareRange_l4_0_h a0 r2918 b2_0 b2_1 x13) (.exit 8) (nspeculumref06_SquareRange_l4_0_e0 a0 r2918 r)) := by
 intro fuel
 induction fuel with
 | zero => intro b2_0 b2_1 x13 r h; rw [nspeculumref06_SquareRange_l4_0.eq_1] at h; cases h
 | succ fuel ih =>
  intro b2_0 b2_1 x13 r h
  rw [nspeculumref06_SquareRange_l4_0.eq_2] at h
  rcases ifs h with ⟨h2960, h⟩ | ⟨h2960, h⟩
  ·obtain ⟨h2961, h⟩ := ifn h
   have e2962 := (show loadL Go.Proofs.Try.prog 25 (0 + x13.toNat * 2) (List.flatMap c_SFrac r2918) = some (VV.ag (c_SFrac (r2918.getD x13.toNat default))) from ld_whole ag25 c_SFrac 2 sz25 len_c_SFrac r2918 default h2961 (by omega))
   obtain ⟨r2963, h2964, h⟩ := bs h
   have e2965 := (show VC Go.Proofs.Try.prog 22 [VV.tr (List.flatMap c_SRange a0) a0.length, VV.ag (c_SFrac (r2918.getD x13.toNat default))] (VV.fr (List.map vi r2963) r2963.length) from (VC.weak (nspeculumref06_nearest_ok k a0 (r2918.getD x13.toNat default) _ h2964) (Wv.fw rfl rfl)))
   have e2966 := (show loadL Go.Proofs.Try.prog 3 (0 + x13.toNat * 2 + 1) (List.flatMap c_SFrac r2918) = some (vi ((r2918.getD x13.toNat default).Den)) from (ld_flat ag3 c_SFrac 2 1 len_c_SFrac (by omega) r2918 default h2961 (by omega)).trans rfl)
   obtain ⟨r2967, h2968, h⟩ := bs h
   have e2969 := (nspeculumref06_square_ok k r2963 ((r2918.getD x13.toNat default).Den) _ h2968)
   have e2970 := (ti (ti (ti (an h2961 (an e2962 (an e2965 (ti (ti (an h2961 (ti (an e2966 (an e2969 (ti (ti trivial))))))))))))))
   obtain ⟨r2971, h2972, h⟩ := bs h
   have e2973 := (VC.args (nspeculumref06_less2_ok k r2967 (⟨b2_0, b2_1⟩ : SFrac) _ h2972) (eqQ1_13 r2967 b2_0 b2_1))
   rcases ifs h with ⟨h2974, h⟩ | ⟨h2974, h⟩
   ·have h2 := ih _ _ _ _ h
    obtain ⟨q, hv, hq⟩ := pkR (rd := none) (P := Go.Proofs.Try.prog) (fn := Go.Proofs.Try.f8) (k := 4) (s := (nspeculumref06_SquareRange_l4_0_h a0 r2918 b2_0 b2_1 x13)) (ans := [.reg (nN 4 []), .br true, .reg (arQ1_8 r2918 x13 r2963 r2967), .reg (.n :: .n :: .call (vb r2971) :: []), .br true, .reg (.n :: .n :: []), .reg (nN 3 [])]) (c := ⟨[(0, none), (2, none), (3, none), (12, none), (13, none)], [none, none, none], []⟩) (e := .normal) (s1 := (nspeculumref06_SquareRange_l4_0_h a0 r2918 r2967.Num r2967.Den (w64 (x13 + 1)))) (an (an (an (ti (ti (ti (ti trivial)))) (an (decide_eq_true h2960) trivial)) (an (an e2970 (an (ti (ti (an e2973 trivial))) (an h2974 (ti (ti trivial))))) (ti (ti (ti trivial))))) (ti trivial)) (by kernel_rfl)
    exact round_next pm pn hv hq h2
   ·have h2 := ih _ _ _ _ h
    obtain ⟨q, hv, hq⟩ := pkR (rd := none) (P := Go.Proofs.Try.prog) (fn := Go.Proofs.Try.f8) (k := 4) (s := (nspeculumref06_SquareRange_l4_0_h a0 r2918 b2_0 b2_1 x13)) (ans := [.reg (nN 4 []), .br true, .reg (arQ1_8 r2918 x13 r2963 r2967), .reg (.n :: .n :: .call (vb r2971) :: []), .br false, .reg (nN 3 [])]) (c := ⟨[(0, none), (2, none), (3, none), (12, none), (13, none)], [none, none, none], []⟩) (e := .normal) (s1 := (nspeculumref06_SquareRange_l4_0_h a0 r2918 b2_0 b2_1 (w64 (x13 + 1)))) (an (an (an (ti (ti (ti (ti trivial)))) (an (decide_eq_true h2960) trivial)) (an (an e2970 (an (ti (ti (an e2973 trivial))) (an (bool_f h2974) trivial))) (ti (ti (ti trivial))))) (ti trivial)) (by kernel_rfl)
    exact round_next pm pn hv hq h2
  ·injection h with h; subst h
   exact round_stop (c := ⟨[(0, none), (2, none), (12, none)], [none, none, none], []⟩) (s1 := (nspeculumref06_SquareRange_l4_0_e0 a0 r2918 (b2_0, b2_1))) pm pn (ans := [.reg (nN 4 []), .br false]) (by kernel_rfl) (by intro e; cases e) (an (an (ti (ti (ti (ti trivial)))) (an (decide_eq_false h2960) trivial)) (ti trivial))
def nspeculumref06_SquareRange_l6_0_h (a0 : (List SRange)) (r2918 : (List SFrac)) (r2976 : Int × Int) (b3_0 : Int) (b3_1 : Int) (x16 : Int) (y4 : List Int) (x18 : Int) : VS := ⟨mkA [(0, VV.tr (List.flatMap c_SRange a0) a0.length), (2, VV.pt 0 0), (12, VV.pt 2 0), (15, VV.pt 3 0), (16, vi x16), (17, VV.rf 4 0 y4.length), (18, vi x18)], [some ⟨true, 1, [vi 0, vi 0, vi 0, vi 0]⟩, some ⟨false, 2, List.flatMap c_SFrac r2918⟩, some ⟨true, 1, [vi r2976.1, vi r2976.2]⟩, some ⟨true, 1, [vi b3_0, vi b3_1]⟩, some ⟨false, 1, List.map vi y4⟩], .nil⟩
def nspeculumref06_SquareRange_l6_0_e0 (a0 : (List SRange)) (r2918 : (List SFrac)) (r2976 : Int × Int) (b3_0 : Int) (b3_1 : Int) (x16 : Int) (r : (List Int)) : VS := ⟨mkA [(0, VV.tr (List.flatMap c_SRange a0) a0.length), (2, VV.pt 0 0), (12, VV.pt 2 0), (15, VV.pt 3 0), (16, vi x16), (17, VV.rf 4 0 r.length)], [some ⟨true, 1, [vi 0, vi 0, vi 0, vi 0]⟩, some ⟨false, 2, List.flatMap c_SFrac r2918⟩, some ⟨true, 1, [vi r2976.1, vi r2976.2]⟩, some ⟨true, 1, [vi b3_0, vi b3_1]⟩, some ⟨false, 1, List.map vi r⟩], .nil⟩
def nspeculumref06_SquareRange_l6_0 (k : Nat) (a0 : (List SRange)) (r2918 : (List SFrac)) (r2976 : Int × Int) (b3_0 : Int) (b3_1 : Int) (x16 : Int) : Nat → (List Int) → Int → Option ((List Int))
  | 0, _, _ => none
  | fuel + 1, y4, x18 => if x18 < (a0.length : Int) then (if 0 ≤ x18 then (if (bits2 (fun _ x y => x &&& y) .i64 (x16.fdiv (2 ^ (min (x18 : Int).toNat 64))) 1) = 1 then (if 0 ≤ x18 ∧ x18 < (a0.length : Int) then (if y4.length + ([(a0.getD x18.toNat default).Hi] : List Int).length ≤ 1000000000 then (nspeculumref06_SquareRange_l6_0 k a0 r2918 r2976 b3_0 b3_1 x16 fuel (y4 ++ ([(a0.getD x18.toNat default).Hi] : List Int)) (w64 (x18 + 1))) else none) else none) else (if 0 ≤ x18 ∧ x18 < (a0.length : Int) then (if y4.length + ([(a0.getD x18.toNat default).Lo] : List Int).length ≤ 1000000000 then (nspeculumref06_SquareRange_l6_0 k a0 r2918 r2976 b3_0 b3_1 x16 fuel (y4 ++ ([(a0.getD x18.toNat default).Lo] : List Int)) (w64 (x18 + 1))) else none) else none)) else none) else (some y4)
theorem nspeculumref06_SquareRange_l6_0_ok (k : Nat) (a0 : (List SRange)) (r2918 : (List SFrac)) (r2976 : Int × Int) (b3_0 : Int) (b3_1 : Int) (x16 : Int) : ∀ (fuel : Nat) (y4 : List Int) (x18 : Int) (r : (List Int)), nspeculumref06_SquareRange_l6_0 k a0 r2918 r2976 b3_0 b3_1 x16 fuel y4 x18 = some r → (VLoop none Go.Proofs.Try.prog (szF Go.Proofs.Try.f8) (bodyOf Go.Proofs.Try.f8 6) (nspeculumref06_SquareRange_l6_0_h a0 r2918 r2976 b3_0 b3_1 x16 y4 x18) (.exit 12) (nspeculumref06_SquareRange_l6_0_e0 a0 r2918 r2976 b3_0 b3_1 x16 r)) := by
 intro fuel
 induction fuel with
 | zero => intro y4 x18 r h; rw [nspeculumref06_SquareRange_l6_0.eq_1] at h; cases h
 | succ fuel ih =>
  intro y4 x18 r h
  rw [nspeculumref06_SquareRange_l6_0.eq_2] at h
  rcases ifs h with ⟨h3147, h⟩ | ⟨h3147, h⟩
  ·obtain ⟨h3148, h⟩ := ifn h
   rcases ifs h with ⟨h3149, h⟩ | ⟨h3149, h⟩
   ·obtain ⟨h3150, h⟩ := ifn h
    have e3151 := (show loadL Go.Proofs.Try.prog 3 (x18.toNat * 2 + 1) (List.flatMap c_SRange a0) = some (vi ((a0.getD x18.toNat default).Hi)) from (ld_flat ag3 c_SRange 2 1 len_c_SRange (by omega) a0 default h3150 (by omega)).trans rfl)
    obtain ⟨h3152, h⟩ := ifn h
    have e3153 := (show List.length (List.map vi y4) = y4.length * 1 ∧ List.length [vi ((a0.getD x18.toNat default).Hi)] = 1 * 1 ∧ (y4.length + 1) * 8 ≤ 140737488355328 ∧ y4.length + 1 < 1099511627776 ∧ List.all [vi ((a0.getD x18.toNat default).Hi)] VV.still = true from ⟨(by simp), (by rw [show [vi ((a0.getD x18.toNat default).Hi)] = List.map vi ([(a0.getD x18.toNat default).Hi] : List Int) from rfl]; simp), (by first | omega | (simp at h3152 ⊢; omega)), (by first | omega | (simp at h3152 ⊢; omega)), (by rw [show [vi ((a0.getD x18.toNat default).Hi)] = List.map vi ([(a0.getD x18.toNat default).Hi] : List Int) from rfl]; exact still_vi _)⟩)
    have e3154 := (ti (ti (ti (an h3150 (ti (an e3151 (ti (an e3153 (ti trivial)))))))))
    have h2 := ih _ _ _ h
    obtain ⟨q, hv, hq⟩ := pkR (rd := none) (P := Go.Proofs.Try.prog) (fn := Go.Proofs.Try.f8) (k := 6) (s := (nspeculumref06_SquareRange_l6_0_h a0 r2918 r2976 b3_0 b3_1 x16 y4 x18)) (ans := [.reg (nN 4 []), .br true, .reg (nN 5 []), .br true, .reg (nN 5 (.v (vi ((a0.getD x18.toNat default).Hi)) :: nN 3 [])), .reg (nN 3 [])]) (c := ⟨[(0, none), (2, none), (12, none), (15, none), (16, none), (17, some (VV.rf 4 0 ((y4 ++ ([(a0.getD x18.toNat default).Hi] : List Int)).length))), (18, none)], [none, none, none, none, some (List.map vi (y4 ++ ([(a0.getD x18.toNat default).Hi] : List Int)))], []⟩) (e := .normal) (s1 := (nspeculumref06_SquareRange_l6_0_h a0 r2918 r2976 b3_0 b3_1 x16 (y4 ++ ([(a0.getD x18.toNat default).Hi] : List Int)) (w64 (x18 + 1)))) (an (an (an (ti (ti (ti (ti trivial)))) (an (decide_eq_true h3147) trivial)) (an (an (ti (ti (an h3148 (ti (ti trivial))))) (an (decide_eq_true h3149) e3154)) (ti (ti (ti trivial))))) (an (an (show Wv (VV.rf 4 0 (y4.length + 1)) (VV.rf 4 0 ((y4 ++ ([(a0.getD x18.toNat default).Hi] : List Int)).length)) from (Wv.of_eq (by simp))) trivial) (an (show (List.map vi y4) ++ [vi ((a0.getD x18.toNat default).Hi)] = List.map vi (y4 ++ ([(a0.getD x18.toNat default).Hi] : List Int)) from (by rw [show [vi ((a0.getD x18.toNat default).Hi)] = List.map vi ([(a0.getD x18.toNat default).Hi] : List Int) from rfl]; exact List.map_append.symm)) trivial))) (by kernel_rfl)
    exact round_next pm pn hv hq h2
   ·obtain ⟨h3155, h⟩ := ifn h
    have e3156 := (show loadL Go.Proofs.Try.prog 3 (x18.toNat * 2 + 0) (List.flatMap c_SRange a0) = some (vi ((a0.getD x18.toNat default).Lo)) from (ld_flat ag3 c_SRange 2 0 len_c_SRange (by omega) a0 default h3155 (by omega)).trans rfl)
    obtain ⟨h3157, h⟩ := ifn h
    have e3158 := (show List.length (List.map vi y4) = y4.length * 1 ∧ List.length [vi ((a0.getD x18.toNat default).Lo)] = 1 * 1 ∧ (y4.length + 1) * 8 ≤ 140737488355328 ∧ y4.length + 1 < 1099511627776 ∧ List.all [vi ((a0.getD x18.toNat default).Lo)] VV.still = true from ⟨(by simp), (by rw [show [vi ((a0.getD x18.toNat default).Lo)] = List.map vi ([(a0.getD x18.toNat default).Lo] : List Int) from rfl]; simp), (by first | omega | (simp at h3157 ⊢; omega)), (by first | omega | (simp at h3157 ⊢; omega)), (by rw [show [vi ((a0.getD x18.toNat default).Lo)] = List.map vi ([(a0.getD x18.toNat default).Lo] : List Int) from rfl]; exact still_vi _)⟩)
    have e3159 := (ti (ti (ti (an h3155 (ti (an e3156 (ti (an e3158 (ti trivial)))))))))
    have h2 := ih _ _ _ h
    obtain ⟨q, hv, hq⟩ := pkR (rd := none) (P := Go.Proofs.Try.prog) (fn := Go.Proofs.Try.f8) (k := 6) (s := (nspeculumref06_SquareRange_l6_0_h a0 r2918 r2976 b3_0 b3_1 x16 y4 x18)) (ans := [.reg (nN 4 []), .br true, .reg (nN 5 []), .br false, .reg (nN 5 (.v (vi ((a0.getD x18.toNat default).Lo)) :: nN 3 [])), .reg (nN 3 [])]) (c := ⟨[(0, none), (2, none), (12, none), (15, none), (16, none), (17, some (VV.rf 4 0 ((y4 ++ ([(a0.getD x18.toNat default).Lo] : List Int)).length))), (18, none)], [none, none, none, none, some (List.map vi (y4 ++ ([(a0.getD x18.toNat default).Lo] : List Int)))], []⟩) (e := .normal) (s1 := (nspeculumref06_SquareRange_l6_0_h a0 r2918 r2976 b3_0 b3_1 x16 (y4 ++ ([(a0.getD x18.toNat default).Lo] : List Int)) (w64 (x18 + 1)))) (an (an (an (ti (ti (ti (ti trivial)))) (an (decide_eq_true h3147) trivial)) (an (an (ti (ti (an h3148 (ti (ti trivial))))) (an (decide_eq_false h3149) e3159)) (ti (ti (ti trivial))))) (an (an (show Wv (VV.rf 4 0 (y4.length + 1)) (VV.rf 4 0 ((y4 ++ ([(a0.getD x18.toNat default).Lo] : List Int)).length)) from (Wv.of_eq (by simp))) trivial) (an (show (List.map vi y4) ++ [vi ((a0.getD x18.toNat default).Lo)] = List.map vi (y4 ++ ([(a0.getD x18.toNat default).Lo] : List Int)) from (by rw [show [vi ((a0.getD x18.toNat default).Lo)] = List.map vi ([(a0.getD x18.toNat default).Lo] : List Int) from rfl]; exact List.map_append.symm)) trivial))) (by kernel_rfl)
    exact round_next pm pn hv hq h2
  ·injection h with h; subst h
   exact round_stop (c := ⟨[(0, none), (2, none), (12, none), (15, none), (16, none), (17, none)], [none, none, none, none, none], []⟩) (s1 := (nspeculumref06_SquareRange_l6_0_e0 a0 r2918 r2976 b3_0 b3_1 x16 y4)) pm pn (ans := [.reg (nN 4 []), .br false]) (by kernel_rfl) (by intro e; cases e) (an (an (ti (ti (ti (ti trivial)))) (an (decide_eq_false h3147) trivial)) (ti trivial))
def nspeculumref06_SquareRange_l5_0_h (a0 : (List SRange)) (r2918 : (List SFrac)) (r2976 : Int × Int) (b3_0 : Int) (b3_1 : Int) (x16 : Int) : VS := ⟨mkA [(0, VV.tr (List.flatMap c_SRange a0) a0.length), (2, VV.pt 0 0), (12, VV.pt 2 0), (15, VV.pt 3 0), (16, vi x16)], [some ⟨true, 1, [vi 0, vi 0, vi 0, vi 0]⟩, some ⟨false, 2, List.flatMap c_SFrac r2918⟩, some ⟨true, 1, [vi r2976.1, vi r2976.2]⟩, some ⟨true, 1, [vi b3_0, vi b3_1]⟩], .nil⟩
def nspeculumref06_SquareRange_l5_0_e0 (a0 : (List SRange)) (r2918 : (List SFrac)) (r2976 : Int × Int) (r : Int × Int) : VS := ⟨mkA [(2, VV.pt 0 0), (12, VV.pt 2 0), (15, VV.pt 3 0)], [some ⟨true, 1, [vi 0, vi 0, vi 0, vi 0]⟩, some ⟨false, 2, List.flatMap c_SFrac r2918⟩, some ⟨true, 1, [vi r2976.1, vi r2976.2]⟩, some ⟨true, 1, [vi r.1, vi r.2]⟩], .nil⟩
def nspeculumref06_SquareRange_l5_0 (k : Nat) (a0 : (List SRange)) (r2918 : (List SFrac)) (r2976 : Int × Int) : Nat → Int → Int → Int → Option (Int × Int)
  | 0, _, _, _ => none
  | fuel + 1, b3_0, b3_1, x16 => if 0 ≤ (a0.length : Int) then (if x16 < (w64 (1 * 2 ^ (min ((a0.length : Int) : Int).toNat 64))) then ((nspeculumref06_SquareRange_l6_0 k a0 r2918 r2976 b3_0 b3_1 x16 k ([] : List Int) 0).bind fun r3161 => ((nspeculumref06_square k r3161 1).bind fun r3163 => ((nspeculumref06_less2 k (⟨b3_0, b3_1⟩ : SFrac) r3163).bind fun r3166 => (if r3166 = true then (nspeculumref06_SquareRange_l5_0 k a0 r2918 r2976 fuel r3163.Num r3163.Den (w64 (x16 + 1))) else (nspeculumref06_SquareRange_l5_0 k a0 r2918 r2976 fuel b3_0 b3_1 (w64 (x16 + 1))))))) else (some (b3_0, b3_1))) else none
theorem nspeculumref06_SquareRange_l5_0_ok (k : Nat) (a0 : (List SRange)) (r2918 : (List SFrac)) (r2976 : Int × Int) : ∀ (fuel : Nat) (b3_0 : Int) (b3_1 : Int) (x16 : Int) (r : Int × Int), nspeculumref06_SquareRange_l5_0 k a0 r2918 r2976 fuel b3_0 b3_1 x16 = some r → (VLoop none Go.Proofs.Try.prog (szF Go.Proofs.Try.f8) (bodyOf Go.Proofs.Try.f8 5) (nspeculumref06_SquareRange_l5_0_h a0 r2918 r2976 b3_0 b3_1 x16) (.exit 10) (nspeculumref06_SquareRange_l5_0_e0 a0 r2918 r2976 r)) := by
 intro fuel
 induction fuel with
 | zero => intro b3_0 b3_1 x16 r h; rw [nspeculumref06_SquareRange_l5_0.eq_1] at h; cases h
 | succ fuel ih =>
  intro b3_0 b3_1 x16 r h
  rw [nspeculumref06_SquareRange_l5_0.eq_2] at h
  obtain ⟨h3106, h⟩ := ifn h
  rcases ifs h with ⟨h3107, h⟩ | ⟨h3107, h⟩
  ·obtain ⟨r3161, h3160, h⟩ := bs h
   have hph3160 := nspeculumref06_SquareRange_l6_0_ok k a0 r2918 r2976 b3_0 b3_1 x16 _ _ _ _ h3160
   have e3162 := (an (ti trivial) (VRun.loop hph3160))
   obtain ⟨r3163, h3164, h⟩ := bs h
   have e3165 := (VC.args (nspeculumref06_square_ok k r3161 1 _ h3164) (eqQ1_14 r3161))
   obtain ⟨r3166, h3167, h⟩ := bs h
   have e3168 := (VC.args (nspeculumref06_less2_ok k (⟨b3_0, b3_1⟩ : SFrac) r3163 _ h3167) (eqQ1_16 b3_0 b3_1 r3163))
   rcases ifs h with ⟨h3169, h⟩ | ⟨h3169, h⟩
   ·have h2 := ih _ _ _ _ h
    obtain ⟨q, hv, hq⟩ := pkR (rd := none) (P := Go.Proofs.Try.prog) (fn := Go.Proofs.Try.f8) (k := 5) (s := (nspeculumref06_SquareRange_l5_0_h a0 r2918 r2976 b3_0 b3_1 x16)) (ans := [.reg (nN 5 []), .br true, .reg (.n :: []), .reg (.n :: []), .sub ⟨[(0, none), (2, none), (12, none), (15, none), (16, none), (17, none), (18, none)], [none, none, none, none], [.t 17 1]⟩ (.exit 12) (nspeculumref06_SquareRange_l6_0_e0 a0 r2918 r2976 b3_0 b3_1 x16 r3161), .reg (.n :: .call (VV.ag (c_SFrac r3163)) :: .n :: .n :: []), .reg (.n :: .n :: .call (vb r3166) :: []), .br true, .reg (.n :: .n :: []), .reg (nN 3 [])]) (c := ⟨[(0, none), (2, none), (12, none), (15, none), (16, none)], [none, none, none, none], []⟩) (e := .normal) (s1 := (nspeculumref06_SquareRange_l5_0_h a0 r2918 r2976 r3163.Num r3163.Den (w64 (x16 + 1)))) (an (an (an (ti (ti (ti (an h3106 (ti trivial))))) (an (decide_eq_true h3107) trivial)) (an (an (ti trivial) (an (an (ti trivial) e3162) (an (ti (an e3165 (ti (ti trivial)))) (an (ti (ti (an e3168 trivial))) (an h3169 (ti (ti trivial))))))) (ti (ti (ti trivial))))) (ti trivial)) (by kernel_rfl)
    exact round_next pm pn hv hq h2
   ·have h2 := ih _ _ _ _ h
    obtain ⟨q, hv, hq⟩ := pkR (rd := none) (P := Go.Proofs.Try.prog) (fn := Go.Proofs.Try.f8) (k := 5) (s := (nspeculumref06_SquareRange_l5_0_h a0 r2918 r2976 b3_0 b3_1 x16)) (ans := [.reg (nN 5 []), .br true, .reg (.n :: []), .reg (.n :: []), .sub ⟨[(0, none), (2, none), (12, none), (15, none), (16, none), (17, none), (18, none)], [none, none, none, none], [.t 17 1]⟩ (.exit 12) (nspeculumref06_SquareRange_l6_0_e0 a0 r2918 r2976 b3_0 b3_1 x16 r3161), .reg (.n :: .call (VV.ag (c_SFrac r3163)) :: .n :: .n :: []), .reg (.n :: .n :: .call (vb r3166) :: []), .br false, .reg (nN 3 [])]) (c := ⟨[(0, none), (2, none), (12, none), (15, none), (16, none)], [none, none, none, none], []⟩) (e := .normal) (s1 := (nspeculumref06_SquareRange_l5_0_h a0 r2918 r2976 b3_0 b3_1 (w64 (x16 + 1)))) (an (an (an (ti (ti (ti (an h3106 (ti trivial))))) (an (decide_eq_true h3107) trivial)) (an (an (ti trivial) (an (an (ti trivial) e3162) (an (ti (an e3165 (ti (ti trivial)))) (an (ti (ti (an e3168 trivial))) (an (bool_f h3169) trivial))))) (ti (ti (ti trivial))))) (ti trivial)) (by kernel_rfl)
    exact round_next pm pn hv hq h2
  ·injection h with h; subst h
   exact round_stop (c := ⟨[(2, none), (12, none), (15, none)], [none, none, none, none], []⟩) (s1 := (nspeculumref06_SquareRange_l5_0_e0 a0 r2918 r2976 (b3_0, b3_1))) pm pn (ans := [.reg (nN 5 []), .br false]) (by kernel_rfl) (by intro e; cases e) (an (an (ti (ti (ti (an h3106 (ti trivial))))) (an (decide_eq_false h3107) trivial)) (ti trivial))
def arQ1_9 (z0 : (List SFrac)) (z1 : (List Int)) (z2 : SFrac) : List Ans := (nN 3 (.v (VV.ag (c_SFrac (z0.getD ((0 : Int)).toNat default))) :: .call (VV.fr (List.map vi z1) z1.length) :: nN 3 (.v (vi ((z0.getD ((0 : Int)).toNat default).Den)) :: .call (VV.ag (c_SFrac z2)) :: .n :: .n :: [])))
theorem eqQ1_17 (z0 : Int × Int) (z1 : Int × Int) : VV.ag [vi z0.1, vi z0.2, vi z1.1, vi z1.2] = VV.ag [vi (((⟨(⟨z0.1, z0.2⟩ : SFrac), (⟨z1.1, z1.2⟩ : SFrac)⟩ : A26).e0).Num), vi (((⟨(⟨z0.1, z0.2⟩ : SFrac), (⟨z1.1, z1.2⟩ : SFrac)⟩ : A26).e0).Den), vi (((⟨(⟨z0.1, z0.2⟩ : SFrac), (⟨z1.1, z1.2⟩ : SFrac)⟩ : A26).e1).Num), vi (((⟨(⟨z0.1, z0.2⟩ : SFrac), (⟨z1.1, z1.2⟩ : SFrac)⟩ : A26).e1).Den)] := by first | rfl | (simp only [unfr_vi, List.map_cons, List.map_nil, un_i]; done) | (simp only [unfr_vi, List.map_cons, List.map_nil, un_i]; rfl) | (simp only [unfr_vi, List.map_cons, List.map_nil, un_i, List.length_cons, List.length_nil, List.length_append]; done)
def nspeculumref06_SquareRange (k : Nat) (a0 : (List SRange)) : Option A26 :=
  (nspeculumref06_SquareRange_l0_0 k a0 k ([] : List SFrac) 0).bind fun r2267 => ((nspeculumref06_SquareRange_l1_0 k a0 r2267 k r2267 0).bind fun r2918 => (if (0 : Int) ≤ 0 ∧ 0 < (r2918.length : Int) then ((nspeculumref06_nearest k a0 (r2918.getD ((0 : Int)).toNat default)).bind fun r2922 => ((nspeculumref06_square k r2922 ((r2918.getD ((0 : Int)).toNat default).Den)).bind fun r2926 => ((nspeculumref06_SquareRange_l4_0 k a0 r2918 k r2926.Num r2926.Den 1).bind fun r2976 => ((nspeculumref06_SquareRange_l5_0 k a0 r2918 r2976 k r2976.1 r2976.2 0).bind fun r3171 => (some (⟨(⟨r2976.1, r2976.2⟩ : SFrac), (⟨r3171.1, r3171.2⟩ : SFrac)⟩ : A26)))))) else none))
theorem nspeculumref06_SquareRange_ok (k : Nat) (a0 : (List SRange)) (r : A26) (h : nspeculumref06_SquareRange k a0 = some r) : VC Go.Proofs.Try.prog 8 [VV.tr (List.flatMap c_SRange a0) a0.length] (VV.ag (c_A26 r)) := by
 unfold nspeculumref06_SquareRange at h
 obtain ⟨r2267, h2266, h⟩ := bs h
 have hph2266 := nspeculumref06_SquareRange_l0_0_ok k a0 _ _ _ _ h2266
 have e2268 := (an (ti trivial) (VRun.loop hph2266))
 obtain ⟨r2918, h2917, h⟩ := bs h
 have hph2917 := nspeculumref06_SquareRange_l1_0_ok k a0 r2267 _ _ _ _ h2917
 have e2919 := (an (ti trivial) (VRun.loop hph2917))
 obtain ⟨h2920, h⟩ := ifn h
 have e2921 := (show loadL Go.Proofs.Try.prog 25 (0 + ((0 : Int)).toNat * 2) (List.flatMap c_SFrac r2918) = some (VV.ag (c_SFrac (r2918.getD ((0 : Int)).toNat default))) from ld_whole ag25 c_SFrac 2 sz25 len_c_SFrac r2918 default h2920 (by omega))
 obtain ⟨r2922, h2923, h⟩ := bs h
 have e2924 := (show VC Go.Proofs.Try.prog 22 [VV.tr (List.flatMap c_SRange a0) a0.length, VV.ag (c_SFrac (r2918.getD ((0 : Int)).toNat default))] (VV.fr (List.map vi r2922) r2922.length) from (VC.weak (nspeculumref06_nearest_ok k a0 (r2918.getD ((0 : Int)).toNat default) _ h2923) (Wv.fw rfl rfl)))
 have e2925 := (show loadL Go.Proofs.Try.prog 3 (0 + ((0 : Int)).toNat * 2 + 1) (List.flatMap c_SFrac r2918) = some (vi ((r2918.getD ((0 : Int)).toNat default).Den)) from (ld_flat ag3 c_SFrac 2 1 len_c_SFrac (by omega) r2918 default h2920 (by omega)).trans rfl)
 obtain ⟨r2926, h2927, h⟩ := bs h
 have e2928 := (nspeculumref06_square_ok k r2922 ((r2918.getD ((0 : Int)).toNat default).Den) _ h2927)
 have e2929 := (ti (ti (an h2920 (an e2921 (an e2924 (ti (an h2920 (ti (an e2925 (an e2928 (ti (ti trivial))))))))))))
 obtain ⟨r2976, h2975, h⟩ := bs h
 have hph2975 := nspeculumref06_SquareRange_l4_0_ok k a0 r2918 _ _ _ _ _ h2975
 have e2977 := (an (ti trivial) (VRun.loop hph2975))
 obtain ⟨r3171, h3170, h⟩ := bs h
 have hph3170 := nspeculumref06_SquareRange_l5_0_ok k a0 r2918 r2976 _ _ _ _ _ h3170
 have e3172 := (an (ti trivial) (VRun.loop hph3170))
 injection h with h; subst h
 exact fun_ok pm pn Go.Proofs.Try.func8 (r0 := VV.ag [vi r2976.1, vi r2976.2, vi r3171.1, vi r3171.2]) (ans := [.reg (.n :: []), .reg (.n :: []), .reg (.n :: []), .sub ⟨[(0, none), (2, none), (3, none), (4, none)], [none], [.t 3 2]⟩ (.exit 0) (nspeculumref06_SquareRange_l0_0_e0 a0 r2267), .reg (nN 3 []), .reg (.n :: []), .sub ⟨[(0, none), (2, none), (3, none), (5, none), (6, none)], [none, none], []⟩ (.exit 2) (nspeculumref06_SquareRange_l1_0_e0 a0 r2267 r2918), .reg (arQ1_9 r2918 r2922 r2926), .reg (.n :: []), .sub ⟨[(0, none), (2, none), (3, none), (12, none), (13, none)], [none, none, none], []⟩ (.exit 8) (nspeculumref06_SquareRange_l4_0_e0 a0 r2918 r2976), .reg (nN 3 []), .reg (.n :: []), .sub ⟨[(0, none), (2, none), (12, none), (15, none), (16, none)], [none, none, none, none], []⟩ (.exit 10) (nspeculumref06_SquareRange_l5_0_e0 a0 r2918 r2976 r3171), .reg (nN 4 [])]) (fr := true) (by kernel_rfl) (an (an (ti trivial) (an (ti trivial) (an (an (ti trivial) e2268) (an (ti (ti (ti trivial))) (an (an (ti trivial) e2919) (an e2929 (an (an (ti trivial) e2977) (an (ti (ti (ti trivial))) (an (an (ti trivial) e3172) (an (ti (ti (ti (ti trivial)))) trivial)))))))))) (an (ti (ti (ti (ti (ti trivial))))) trivial)) (Wv.of_eq (eqQ1_17 r2976 r3171))
end Go.Proofs.Ytggggonmlmondaa.Vg

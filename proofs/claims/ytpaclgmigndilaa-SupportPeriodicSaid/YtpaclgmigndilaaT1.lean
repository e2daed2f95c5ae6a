/- Written by a program out of the program: what Go functions do, as plain functions, and their contracts. -/
import Derived.Test.YtpaclgmigndilaaN1
namespace Go.Proofs.Ytpaclgmigndilaa.Vg
set_option maxRecDepth 100000
set_option maxHeartbeats 4000000
set_option linter.unusedVariables false
set_option linter.unusedSimpArgs false
open Go Go.Proofs.Ytpaclgmigndilaa.Ev Go.Proofs.Ytpaclgmigndilaa.Vv
structure SGearPair where
  Driver : Int
  Driven : Int
  deriving Inhabited
def c_SGearPair (x : SGearPair) : List VV := [vi x.Driver, vi x.Driven]
theorem len_c_SGearPair (x : SGearPair) : (c_SGearPair x).length = 2 := rfl
theorem still_c_SGearPair (xs : List SGearPair) : (xs.flatMap c_SGearPair).all VV.still = true := all_flat (fun _ => rfl) xs
theorem isC_c_SGearPair (xs : List SGearPair) : (xs.flatMap c_SGearPair).all VV.isC = true := all_flat (fun _ => rfl) xs
theorem new0_c_SGearPair (xs : List SGearPair) : (xs.flatMap c_SGearPair).all new0 = true := all_flat (fun _ => rfl) xs
theorem unfr_c_SGearPair (xs : List SGearPair) : (xs.flatMap c_SGearPair).map unfr = xs.flatMap c_SGearPair := unfr_flat (fun _ => rfl) xs
theorem ag3 : isAggT Go.Proofs.Try.prog 3 = some false := by kernel_rfl
theorem ag92 : isAggT Go.Proofs.Try.prog 92 = some true := by kernel_rfl
theorem sz92 : szOf Go.Proofs.Try.prog 92 = some 2 := by kernel_rfl
theorem eqok37 : EqOK Go.Proofs.Try.prog 37 [some (.i .i64), some (.i .i64)] := eqOK_of (by kernel_rfl) (by kernel_rfl) (eqT_struct Go.Proofs.Try.underlying37 (by kernel_rfl) (by kernel_rfl) (by kernel_rfl) (.cons (by decide +kernel) rfl (eqT_int Go.Proofs.Try.underlying3 (by kernel_rfl) (by kernel_rfl)) (.cons (by decide +kernel) rfl (eqT_int Go.Proofs.Try.underlying3 (by kernel_rfl) (by kernel_rfl)) .nil)))
def nawake (k : Nat) : Option Bool := some true
theorem nawake_ok (k : Nat) (r : Bool) (h : nawake k = some r) : VC Go.Proofs.Try.prog 11 [] (vb r) := by
  injection h with h; subst h
  exact vc_awake
def nspeculumlaw07_short (k : Nat) (a0 : (List SGearPair)) : Option Bool :=
  if (a0.length : Int) ≤ 5 then (some true) else (if 12 < (a0.length : Int) then (some (decide ((a0.length : Int) ≤ 15))) else (some false))
theorem nspeculumlaw07_short_ok (k : Nat) (a0 : (List SGearPair)) (r : Bool) (h : nspeculumlaw07_short k a0 = some r) : VC Go.Proofs.Try.prog 39 [VV.tr (List.flatMap c_SGearPair a0) a0.length] (vb r) := by
 unfold nspeculumlaw07_short at h
 rcases ifs h with ⟨h385, h⟩ | ⟨h385, h⟩
 ·have e386 := (ti (ti (ti (ti (an (decide_eq_true h385) (an (decide_eq_true h385) (an (decide_eq_true h385) (an (decide_eq_true h385) (ti (ti (ti (an (decide_eq_true h385) (an (decide_eq_true h385) (ti trivial))))))))))))))
  injection h with h; subst h
  exact fun_ok pm pn Go.Proofs.Try.func39 (r0 := vb true) (ans := [.reg (.n :: []), .reg (nN 4 (nS 8 (.b true :: .n :: [])))]) (fr := true) (by kernel_rfl) (an (an (ti trivial) (an e386 trivial)) (ti trivial)) (Wv.refl _)
 ·rcases ifs h with ⟨h387, h⟩ | ⟨h387, h⟩
  ·have e388 := (an (decide_eq_false h385) (decide_eq_true h387))
   have e389 := (ti (ti (ti (ti (an (an (decide_eq_false h385) trivial) (an (an (decide_eq_false h385) trivial) (an (an (decide_eq_false h385) trivial) (an (an (decide_eq_false h385) trivial) (an (an (decide_eq_true h387) trivial) (an (an (decide_eq_true h387) trivial) (an (an (decide_eq_true h387) trivial) (an e388 (an (decide_eq_false h385) (ti trivial))))))))))))))
   injection h with h; subst h
   exact fun_ok pm pn Go.Proofs.Try.func39 (r0 := vb (decide ((a0.length : Int) ≤ 15))) (ans := [.reg (.n :: []), .reg (nN 11 (.b true :: .b false :: .n :: []))]) (fr := true) (by kernel_rfl) (an (an (ti trivial) (an e389 trivial)) (ti trivial)) (Wv.refl _)
  ·have e390 := (an (decide_eq_false h385) (decide_eq_false h387))
   have e391 := (ti (ti (ti (ti (an (an (decide_eq_false h385) trivial) (an (an (decide_eq_false h385) trivial) (an (an (decide_eq_false h385) trivial) (an (an (decide_eq_false h385) trivial) (an (decide_eq_false h387) (an (decide_eq_false h387) (an (decide_eq_false h387) (an e390 (an (decide_eq_false h385) (ti trivial))))))))))))))
   injection h with h; subst h
   exact fun_ok pm pn Go.Proofs.Try.func39 (r0 := vb false) (ans := [.reg (.n :: []), .reg (nN 8 (nS 3 (.b false :: .b false :: .n :: [])))]) (fr := true) (by kernel_rfl) (an (an (ti trivial) (an e391 trivial)) (ti trivial)) (Wv.refl _)
def nspeculumlaw07_train (k : Nat) (a0 : (List SGearPair)) : Option (List SGearPair) :=
  if ([] : List SGearPair).length + a0.length ≤ 1000000000 then (some (([] : List SGearPair) ++ a0)) else none
theorem nspeculumlaw07_train_ok (k : Nat) (a0 : (List SGearPair)) (r : (List SGearPair)) (h : nspeculumlaw07_train k a0 = some r) : VC Go.Proofs.Try.prog 41 [VV.tr (List.flatMap c_SGearPair a0) a0.length] (VV.fw 2 (List.flatMap c_SGearPair r) r.length) := by
 unfold nspeculumlaw07_train at h
 obtain ⟨h398, h⟩ := ifn h
 have e399 := (show List.length [] = 0 * 2 ∧ List.length (List.flatMap c_SGearPair a0) = a0.length * 2 ∧ (0 + a0.length) * 16 ≤ 140737488355328 ∧ 0 + a0.length < 1099511627776 ∧ List.all (List.flatMap c_SGearPair a0) VV.still = true from ⟨(by rw [show [] = List.flatMap c_SGearPair ([] : List SGearPair) from rfl]; rw [flatMap_len len_c_SGearPair] <;> simp), (by rw [flatMap_len len_c_SGearPair] <;> simp), (by first | omega | (simp at h398 ⊢; omega)), (by first | omega | (simp at h398 ⊢; omega)), (by exact still_c_SGearPair _)⟩)
 injection h with h; subst h
 exact fun_ok pm pn Go.Proofs.Try.func41 (r0 := VV.fw 2 (List.drop 0 (List.map unfr ([] ++ (List.flatMap c_SGearPair a0)))) (0 + a0.length)) (ans := [.reg (.n :: []), .reg (nN 4 [])]) (fr := true) (by kernel_rfl) (an (an (ti trivial) (an (ti (ti (an e399 (ti trivial)))) trivial)) (an (show List.all ([] ++ (List.flatMap c_SGearPair a0)) new0 = true from (by rw [show [] ++ (List.flatMap c_SGearPair a0) = List.flatMap c_SGearPair (([] : List SGearPair) ++ a0) from (by rw [show [] = List.flatMap c_SGearPair ([] : List SGearPair) from rfl]; exact List.flatMap_append.symm)]; exact new0_c_SGearPair _)) trivial)) (Wv.of_eq (by simp only [show [] ++ (List.flatMap c_SGearPair a0) = List.flatMap c_SGearPair (([] : List SGearPair) ++ a0) from (by rw [show [] = List.flatMap c_SGearPair ([] : List SGearPair) from rfl]; exact List.flatMap_append.symm), drop0, unfr_vi, unfr_vb, unfr_vs, List.map_cons, List.map_nil, un_i, un_k, un_b, un_s, un_tr, un_fr, List.length_map, List.length_replicate, List.length_append, List.length_set, List.length_cons, List.length_nil, unfr_c_SFrac, unfr_c_SGearPair]))
def nsupport_areWithin_l0_0_h (a0 : Int) (a1 : Int) (a2 : (List Int)) (x11 : Int) : VS := ⟨mkA [(0, vi a0), (1, vi a1), (9, VV.tr (List.map vi a2) a2.length), (10, vi (a2.length : Int)), (11, vi x11)], [], .nil⟩
def nsupport_areWithin_l0_0_e0 (a0 : Int) (a1 : Int) (a2 : (List Int)) (r : Unit) : VS := ⟨mkA [(6, vb false)], [], .nil⟩
def nsupport_areWithin_l0_0_e1 (a0 : Int) (a1 : Int) (a2 : (List Int)) (r : Unit) : VS := ⟨mkA [], [], .nil⟩
def nsupport_areWithin_l0_0 (k : Nat) (a0 : Int) (a1 : Int) (a2 : (List Int)) : Nat → Int → Option (Sum Unit Unit)
  | 0, _ => none
  | fuel + 1, x11 => if x11 < (a2.length : Int) then (if 0 ≤ x11 ∧ x11 < (a2.length : Int) then (if (a2.getD x11.toNat 0) < a0 then (some (.inl ())) else (if a1 < (a2.getD x11.toNat 0) then (some (.inl ())) else (nsupport_areWithin_l0_0 k a0 a1 a2 fuel (w64 (x11 + 1))))) else none) else (some (.inr ()))
theorem nsupport_areWithin_l0_0_ok (k : Nat) (a0 : Int) (a1 : Int) (a2 : (List Int)) : ∀ (fuel : Nat) (x11 : Int) (r : Sum Unit Unit), nsupport_areWithin_l0_0 k a0 a1 a2 fuel x11 = some r → (match r with | .inl r => VLoop none Go.Proofs.Try.prog (szF Go.Proofs.Try.f59) (bodyOf Go.Proofs.Try.f59 0) (nsupport_areWithin_l0_0_h a0 a1 a2 x11) .ret (nsupport_areWithin_l0_0_e0 a0 a1 a2 r) | .inr r => VLoop none Go.Proofs.Try.prog (szF Go.Proofs.Try.f59) (bodyOf Go.Proofs.Try.f59 0) (nsupport_areWithin_l0_0_h a0 a1 a2 x11) (.exit 0) (nsupport_areWithin_l0_0_e1 a0 a1 a2 r)) := by
 intro fuel
 induction fuel with
 | zero => intro x11 r h; rw [nsupport_areWithin_l0_0.eq_1] at h; cases h
 | succ fuel ih =>
  intro x11 r h
  rw [nsupport_areWithin_l0_0.eq_2] at h
  rcases ifs h with ⟨h448, h⟩ | ⟨h448, h⟩
  ·obtain ⟨h449, h⟩ := ifn h
   have e450 := (show loadL Go.Proofs.Try.prog 3 (x11.toNat * 1) (List.map vi a2) = some (vi (a2.getD x11.toNat 0)) from ld_map ag3 vi a2 0 h449 (by omega))
   rcases ifs h with ⟨h451, h⟩ | ⟨h451, h⟩
   ·have e452 := (ti (ti (ti (ti (an (decide_eq_true h451) (an (decide_eq_true h451) (an (decide_eq_true h451) (an (decide_eq_true h451) trivial))))))))
    injection h with h; subst h
    exact round_stop (c := ⟨[(6, none)], [], []⟩) (s1 := (nsupport_areWithin_l0_0_e0 a0 a1 a2 ())) pm pn (ans := [.reg (.n :: []), .br true, .reg (.n :: .v (vi (a2.getD x11.toNat 0)) :: .n :: []), .reg (nN 4 (nS 3 (.b true :: []))), .br true, .reg (.n :: [])]) (by kernel_rfl) (by intro e; cases e) (an (an (ti trivial) (an (an (decide_eq_true h448) trivial) (an (an h449 (an e450 (ti trivial))) (an e452 (an rt (an (ti trivial) trivial)))))) (ti trivial))
   ·have e453 := (ti (ti (ti (ti (an (an (decide_eq_false h451) trivial) (an (an (decide_eq_false h451) trivial) (an (an (decide_eq_false h451) trivial) (an (decide_eq_false h451) trivial))))))))
    rcases ifs h with ⟨h454, h⟩ | ⟨h454, h⟩
    ·injection h with h; subst h
     exact round_stop (c := ⟨[(6, none)], [], []⟩) (s1 := (nsupport_areWithin_l0_0_e0 a0 a1 a2 ())) pm pn (ans := [.reg (.n :: []), .br true, .reg (.n :: .v (vi (a2.getD x11.toNat 0)) :: .n :: []), .reg (nN 7 (.b false :: [])), .br true, .reg (.n :: [])]) (by kernel_rfl) (by intro e; cases e) (an (an (ti trivial) (an (an (decide_eq_true h448) trivial) (an (an h449 (an e450 (ti trivial))) (an e453 (an (decide_eq_true h454) (an (ti trivial) trivial)))))) (ti trivial))
    ·have h2 := ih _ _ h
     obtain ⟨q, hv, hq⟩ := pkR (rd := none) (P := Go.Proofs.Try.prog) (fn := Go.Proofs.Try.f59) (k := 0) (s := (nsupport_areWithin_l0_0_h a0 a1 a2 x11)) (ans := [.reg (.n :: []), .br true, .reg (.n :: .v (vi (a2.getD x11.toNat 0)) :: .n :: []), .reg (nN 7 (.b false :: [])), .br false, .reg (.n :: .n :: [])]) (c := ⟨[(0, none), (1, none), (9, none), (10, none), (11, none)], [], []⟩) (e := .normal) (s1 := (nsupport_areWithin_l0_0_h a0 a1 a2 (w64 (x11 + 1)))) (an (an (ti trivial) (an (an (decide_eq_true h448) trivial) (an (an (an h449 (an e450 (ti trivial))) (an e453 (an (decide_eq_false h454) trivial))) (ti (ti trivial))))) (ti trivial)) (by kernel_rfl)
     cases r with
     | inl r => exact round_next pm pn hv hq h2
     | inr r =>
      exact round_next pm pn hv hq h2
  ·injection h with h; subst h
   exact round_stop (c := ⟨[], [], []⟩) (s1 := (nsupport_areWithin_l0_0_e1 a0 a1 a2 ())) pm pn (ans := [.reg (.n :: []), .br false]) (by kernel_rfl) (by intro e; cases e) (an (an (ti trivial) (an (decide_eq_false h448) trivial)) (ti trivial))
def nsupport_areWithin (k : Nat) (a0 : Int) (a1 : Int) (a2 : (List Int)) : Option Bool :=
  (nsupport_areWithin_l0_0 k a0 a1 a2 k 0).bind fun r456 => (match r456 with | .inl r457 => (some false) | .inr r458 => (some true))
theorem nsupport_areWithin_ok (k : Nat) (a0 : Int) (a1 : Int) (a2 : (List Int)) (r : Bool) (h : nsupport_areWithin k a0 a1 a2 = some r) : VC Go.Proofs.Try.prog 59 [vi a0, vi a1, VV.tr (List.map vi a2) a2.length] (vb r) := by
 unfold nsupport_areWithin at h
 obtain ⟨r456, h455, h⟩ := bs h
 have hph455 := nsupport_areWithin_l0_0_ok k a0 a1 a2 _ _ _ h455
 cases r456 with
 | inl r457 =>
  dsimp only at h
  have e459 := (an (ti trivial) (VRun.loop hph455))
  injection h with h; subst h
  exact fun_ok pm pn Go.Proofs.Try.func59 (r0 := vb false) (ans := [.reg (.n :: []), .reg (nN 3 []), .sub ⟨[(0, none), (1, none), (9, none), (10, none), (11, none)], [], []⟩ .ret (nsupport_areWithin_l0_0_e0 a0 a1 a2 r457)]) (fr := true) (by kernel_rfl) (an (an (ti trivial) (an (ti (ti (ti trivial))) e459)) (ti trivial)) (Wv.refl _)
 | inr r458 =>
  dsimp only at h
  have e460 := (an (ti trivial) (VRun.loop hph455))
  injection h with h; subst h
  exact fun_ok pm pn Go.Proofs.Try.func59 (r0 := vb true) (ans := [.reg (.n :: []), .reg (nN 3 []), .sub ⟨[(0, none), (1, none), (9, none), (10, none), (11, none)], [], []⟩ (.exit 0) (nsupport_areWithin_l0_0_e1 a0 a1 a2 r458), .reg (.n :: [])]) (fr := true) (by kernel_rfl) (an (an (ti trivial) (an (an (ti (ti (ti trivial))) e460) (an (ti trivial) trivial))) (ti trivial)) (Wv.refl _)
theorem eqT1_0 (z0 : (List SGearPair)) : [vi 1, vi 500, VV.tr (List.map vi ([(z0.getD ((0 : Int)).toNat default).Driver, (z0.getD ((0 : Int)).toNat default).Driven] : List Int)) (([(z0.getD ((0 : Int)).toNat default).Driver, (z0.getD ((0 : Int)).toNat default).Driven] : List Int).length)] = [vi 1, vi 500, VV.tr (List.drop 0 (List.map unfr [vi ((z0.getD ((0 : Int)).toNat default).Driver), vi ((z0.getD ((0 : Int)).toNat default).Driven)])) 2] := by first | rfl | (simp only [drop0, unfr_vi, List.map_cons, List.map_nil, un_i, un_tr, List.length_map, List.length_cons, List.length_nil]; done) | (simp only [drop0, unfr_vi, List.map_cons, List.map_nil, un_i, un_tr, List.length_map, List.length_cons, List.length_nil]; rfl) | (simp only [drop0, unfr_vi, List.map_cons, List.map_nil, un_i, un_tr, List.length_map, List.length_cons, List.length_nil, List.length_cons, List.length_nil, List.length_append]; done)
theorem eqT1_1 (z0 : (List SGearPair)) (z1 : Int) : [vi 1, vi 500, VV.tr (List.map vi ([(z0.getD z1.toNat default).Driver, (z0.getD z1.toNat default).Driven] : List Int)) (([(z0.getD z1.toNat default).Driver, (z0.getD z1.toNat default).Driven] : List Int).length)] = [vi 1, vi 500, VV.tr (List.drop 0 (List.map unfr [vi ((z0.getD z1.toNat default).Driver), vi ((z0.getD z1.toNat default).Driven)])) 2] := by first | rfl | (simp only [drop0, unfr_vi, List.map_cons, List.map_nil, un_i, un_tr, List.length_map, List.length_cons, List.length_nil]; done) | (simp only [drop0, unfr_vi, List.map_cons, List.map_nil, un_i, un_tr, List.length_map, List.length_cons, List.length_nil]; rfl) | (simp only [drop0, unfr_vi, List.map_cons, List.map_nil, un_i, un_tr, List.length_map, List.length_cons, List.length_nil, List.length_cons, List.length_nil, List.length_append]; done)
def nsupport_CheckTrain_l0_0_h (a0 : (List SGearPair)) (x10 : Int) : VS := ⟨mkA [(8, VV.tr (List.flatMap c_SGearPair a0) a0.length), (9, vi (a0.length : Int)), (10, vi x10)], [], .nil⟩
def nsupport_CheckTrain_l0_0_e0 (a0 : (List SGearPair)) (r : Unit) : VS := ⟨mkA [(2, vi 2)], [], .nil⟩
def nsupport_CheckTrain_l0_0_e1 (a0 : (List SGearPair)) (r : Unit) : VS := ⟨mkA [], [], .nil⟩
def nsupport_CheckTrain_l0_0 (k : Nat) (a0 : (List SGearPair)) : Nat → Int → Option (Sum Unit Unit)
  | 0, _ => none
  | fuel + 1, x10 => if x10 < (a0.length : Int) then (if 0 ≤ x10 ∧ x10 < (a0.length : Int) then ((nsupport_areWithin k 1 500 ([(a0.getD x10.toNat default).Driver, (a0.getD x10.toNat default).Driven] : List Int)).bind fun r503 => (if r503 = true then (nsupport_CheckTrain_l0_0 k a0 fuel (w64 (x10 + 1))) else (some (.inl ())))) else none) else (some (.inr ()))
theorem nsupport_CheckTrain_l0_0_ok (k : Nat) (a0 : (List SGearPair)) : ∀ (fuel : Nat) (x10 : Int) (r : Sum Unit Unit), nsupport_CheckTrain_l0_0 k a0 fuel x10 = some r → (match r with | .inl r => VLoop none Go.Proofs.Try.prog (szF Go.Proofs.Try.f44) (bodyOf Go.Proofs.Try.f44 0) (nsupport_CheckTrain_l0_0_h a0 x10) .ret (nsupport_CheckTrain_l0_0_e0 a0 r) | .inr r => VLoop none Go.Proofs.Try.prog (szF Go.Proofs.Try.f44) (bodyOf Go.Proofs.Try.f44 0) (nsupport_CheckTrain_l0_0_h a0 x10) (.exit 0) (nsupport_CheckTrain_l0_0_e1 a0 r)) := by
 intro fuel
 induction fuel with
 | zero => intro x10 r h; rw [nsupport_CheckTrain_l0_0.eq_1] at h; cases h
 | succ fuel ih =>
  intro x10 r h
  rw [nsupport_CheckTrain_l0_0.eq_2] at h
  rcases ifs h with ⟨h500, h⟩ | ⟨h500, h⟩
  ·obtain ⟨h501, h⟩ := ifn h
   have e502 := (show loadL Go.Proofs.Try.prog 92 (x10.toNat * 2) (List.flatMap c_SGearPair a0) = some (VV.ag (c_SGearPair (a0.getD x10.toNat default))) from ld_whole ag92 c_SGearPair 2 sz92 len_c_SGearPair a0 default h501 (by omega))
   obtain ⟨r503, h504, h⟩ := bs h
   have e505 := (VC.args (nsupport_areWithin_ok k 1 500 ([(a0.getD x10.toNat default).Driver, (a0.getD x10.toNat default).Driven] : List Int) _ h504) (eqT1_1 a0 x10))
   rcases ifs h with ⟨h506, h⟩ | ⟨h506, h⟩
   ·have h2 := ih _ _ h
    obtain ⟨q, hv, hq⟩ := pkR (rd := none) (P := Go.Proofs.Try.prog) (fn := Go.Proofs.Try.f44) (k := 0) (s := (nsupport_CheckTrain_l0_0_h a0 x10)) (ans := [.reg (.n :: []), .br true, .reg (.n :: .v (VV.ag (c_SGearPair (a0.getD x10.toNat default))) :: .n :: .n :: []), .reg (nN 5 (.call (vb r503) :: .n :: [])), .br false, .reg (.n :: .n :: [])]) (c := ⟨[(8, none), (9, none), (10, none)], [], []⟩) (e := .normal) (s1 := (nsupport_CheckTrain_l0_0_h a0 (w64 (x10 + 1)))) (an (an (ti trivial) (an (an (decide_eq_true h500) trivial) (an (an (an h501 (an e502 (ti (ti trivial)))) (an (ti (ti (ti (ti (ti (an e505 (ti trivial))))))) (an (not_f h506) trivial))) (ti (ti trivial))))) (ti trivial)) (by kernel_rfl)
    cases r with
    | inl r => exact round_next pm pn hv hq h2
    | inr r =>
     exact round_next pm pn hv hq h2
   ·injection h with h; subst h
    exact round_stop (c := ⟨[(2, none)], [], []⟩) (s1 := (nsupport_CheckTrain_l0_0_e0 a0 ())) pm pn (ans := [.reg (.n :: []), .br true, .reg (.n :: .v (VV.ag (c_SGearPair (a0.getD x10.toNat default))) :: .n :: .n :: []), .reg (nN 5 (.call (vb r503) :: .n :: [])), .br true, .reg (.n :: [])]) (by kernel_rfl) (by intro e; cases e) (an (an (ti trivial) (an (an (decide_eq_true h500) trivial) (an (an h501 (an e502 (ti (ti trivial)))) (an (ti (ti (ti (ti (ti (an e505 (ti trivial))))))) (an (not_t (bool_f h506)) (an (ti trivial) trivial)))))) (ti trivial))
  ·injection h with h; subst h
   exact round_stop (c := ⟨[], [], []⟩) (s1 := (nsupport_CheckTrain_l0_0_e1 a0 ())) pm pn (ans := [.reg (.n :: []), .br false]) (by kernel_rfl) (by intro e; cases e) (an (an (ti trivial) (an (decide_eq_false h500) trivial)) (ti trivial))
def nsupport_CheckTrain (k : Nat) (a0 : (List SGearPair)) : Option Int :=
  if 12 < (a0.length : Int) then (some 8) else ((nsupport_CheckTrain_l0_0 k a0 k 0).bind fun r508 => (match r508 with | .inl r509 => (some 2) | .inr r510 => (some 0)))
theorem nsupport_CheckTrain_ok (k : Nat) (a0 : (List SGearPair)) (r : Int) (h : nsupport_CheckTrain k a0 = some r) : VC Go.Proofs.Try.prog 44 [VV.tr (List.flatMap c_SGearPair a0) a0.length] (vi r) := by
 unfold nsupport_CheckTrain at h
 rcases ifs h with ⟨h485, h⟩ | ⟨h485, h⟩
 ·injection h with h; subst h
  exact fun_ok pm pn Go.Proofs.Try.func44 (r0 := vi 8) (ans := [.reg (.n :: []), .reg (nN 3 []), .br true, .reg (.n :: [])]) (fr := true) (by kernel_rfl) (an (an (ti trivial) (an (ti (ti (ti trivial))) (an (decide_eq_true h485) (an (ti trivial) trivial)))) (ti trivial)) (Wv.refl _)
 ·obtain ⟨r508, h507, h⟩ := bs h
  have hph507 := nsupport_CheckTrain_l0_0_ok k a0 _ _ _ h507
  cases r508 with
  | inl r509 =>
   dsimp only at h
   have e511 := (an (ti trivial) (VRun.loop hph507))
   injection h with h; subst h
   exact fun_ok pm pn Go.Proofs.Try.func44 (r0 := vi 2) (ans := [.reg (.n :: []), .reg (nN 3 []), .br false, .reg (nN 3 []), .sub ⟨[(8, none), (9, none), (10, none)], [], []⟩ .ret (nsupport_CheckTrain_l0_0_e0 a0 r509)]) (fr := true) (by kernel_rfl) (an (an (ti trivial) (an (an (ti (ti (ti trivial))) (an (decide_eq_false h485) trivial)) (an (ti (ti (ti trivial))) e511))) (ti trivial)) (Wv.refl _)
  | inr r510 =>
   dsimp only at h
   have e512 := (an (ti trivial) (VRun.loop hph507))
   injection h with h; subst h
   exact fun_ok pm pn Go.Proofs.Try.func44 (r0 := vi 0) (ans := [.reg (.n :: []), .reg (nN 3 []), .br false, .reg (nN 3 []), .sub ⟨[(8, none), (9, none), (10, none)], [], []⟩ (.exit 0) (nsupport_CheckTrain_l0_0_e1 a0 r510), .reg (.n :: [])]) (fr := true) (by kernel_rfl) (an (an (ti trivial) (an (an (ti (ti (ti trivial))) (an (decide_eq_false h485) trivial)) (an (an (ti (ti (ti trivial))) e512) (an (ti trivial) trivial)))) (ti trivial)) (Wv.refl _)
theorem eqT1_2  : VV.ag [vi 1, vi 1] = VV.ag (c_SFrac (⟨1, 1⟩ : SFrac)) := by first | rfl | (simp only [unfr_vi, List.map_cons, List.map_nil, un_i, unfr_c_SFrac]; done) | (simp only [unfr_vi, List.map_cons, List.map_nil, un_i, unfr_c_SFrac]; rfl) | (simp only [unfr_vi, List.map_cons, List.map_nil, un_i, unfr_c_SFrac, c_SFrac, List.length_cons, List.length_nil, List.length_append]; done)
def nsupport_one (k : Nat)  : Option SFrac :=
  some (⟨1, 1⟩ : SFrac)
theorem nsupport_one_ok (k : Nat)  (r : SFrac) (h : nsupport_one k  = some r) : VC Go.Proofs.Try.prog 112 [] (VV.ag (c_SFrac r)) := by
 unfold nsupport_one at h
 injection h with h; subst h
 exact fun_ok pm pn Go.Proofs.Try.func112 (r0 := VV.ag [vi 1, vi 1]) (ans := [.reg (.n :: []), .reg (.n :: .n :: [])]) (fr := true) (by kernel_rfl) (an (an (ti trivial) (an (ti (ti trivial)) trivial)) (an (ti (ti (ti trivial))) trivial)) (Wv.of_eq eqT1_2)
def nsupport_divisor_l0_0_h  (x0 : Int) (x1 : Int) : VS := ⟨mkA [(0, vi x0), (1, vi x1)], [], .nil⟩
def nsupport_divisor_l0_0_e0  (r : Int) : VS := ⟨mkA [(0, vi r)], [], .nil⟩
def nsupport_divisor_l0_0 (k : Nat)  : Nat → Int → Int → Option (Int)
  | 0, _, _ => none
  | fuel + 1, x0, x1 => if x1 = 0 then (some x0) else (if x1 ≠ 0 then (nsupport_divisor_l0_0 k  fuel x1 (x0.tmod x1)) else none)
theorem nsupport_divisor_l0_0_ok (k : Nat)  : ∀ (fuel : Nat) (x0 : Int) (x1 : Int) (r : Int), nsupport_divisor_l0_0 k  fuel x0 x1 = some r → (VLoop none Go.Proofs.Try.prog (szF Go.Proofs.Try.f81) (bodyOf Go.Proofs.Try.f81 0) (nsupport_divisor_l0_0_h  x0 x1) (.exit 0) (nsupport_divisor_l0_0_e0  r)) := by
 intro fuel
 induction fuel with
 | zero => intro x0 x1 r h; rw [nsupport_divisor_l0_0.eq_1] at h; cases h
 | succ fuel ih =>
  intro x0 x1 r h
  rw [nsupport_divisor_l0_0.eq_2] at h
  rcases ifs h with ⟨h539, h⟩ | ⟨h539, h⟩
  ·injection h with h; subst h
   exact round_stop (c := ⟨[(0, none)], [], []⟩) (s1 := (nsupport_divisor_l0_0_e0  x0)) pm pn (ans := [.reg (.n :: .n :: []), .br false]) (by kernel_rfl) (by intro e; cases e) (an (an (ti (ti trivial)) (an (not_f (decide_eq_true h539)) trivial)) (ti trivial))
  ·obtain ⟨h540, h⟩ := ifn h
   have h2 := ih _ _ _ h
   obtain ⟨q, hv, hq⟩ := pkR (rd := none) (P := Go.Proofs.Try.prog) (fn := Go.Proofs.Try.f81) (k := 0) (s := (nsupport_divisor_l0_0_h  x0 x1)) (ans := [.reg (.n :: .n :: []), .br true, .reg (nN 6 [])]) (c := ⟨[(0, none), (1, none)], [], []⟩) (e := .normal) (s1 := (nsupport_divisor_l0_0_h  x1 (x0.tmod x1))) (an (an (an (ti (ti trivial)) (an (not_t (decide_eq_false h539)) trivial)) (ti (ti (ti (an h540 (ti (ti trivial))))))) (ti trivial)) (by kernel_rfl)
   exact round_next pm pn hv hq h2
def nsupport_divisor (k : Nat) (a0 : Int) (a1 : Int) : Option Int :=
  (nsupport_divisor_l0_0 k k a0 a1).bind fun r542 => (some r542)
theorem nsupport_divisor_ok (k : Nat) (a0 : Int) (a1 : Int) (r : Int) (h : nsupport_divisor k a0 a1 = some r) : VC Go.Proofs.Try.prog 81 [vi a0, vi a1] (vi r) := by
 unfold nsupport_divisor at h
 obtain ⟨r542, h541, h⟩ := bs h
 have hph541 := nsupport_divisor_l0_0_ok k  _ _ _ _ h541
 have e543 := (an (ti trivial) (VRun.loop hph541))
 injection h with h; subst h
 exact fun_ok pm pn Go.Proofs.Try.func81 (r0 := vi r542) (ans := [.reg (.n :: []), .sub ⟨[(0, none), (1, none)], [], []⟩ (.exit 0) (nsupport_divisor_l0_0_e0  r542), .reg (.n :: .n :: [])]) (fr := true) (by kernel_rfl) (an (an (ti trivial) (an e543 (an (ti (ti trivial)) trivial))) (ti trivial)) (Wv.refl _)
theorem eqT1_3 (z0 : Int) (z1 : Int) (z2 : Int) : VV.ag [vi (w64 (z0.tdiv z1)), vi (w64 (z2.tdiv z1))] = VV.ag (c_SFrac (⟨w64 (z0.tdiv z1), w64 (z2.tdiv z1)⟩ : SFrac)) := by first | rfl | (simp only [unfr_vi, List.map_cons, List.map_nil, un_i, unfr_c_SFrac]; done) | (simp only [unfr_vi, List.map_cons, List.map_nil, un_i, unfr_c_SFrac]; rfl) | (simp only [unfr_vi, List.map_cons, List.map_nil, un_i, unfr_c_SFrac, c_SFrac, List.length_cons, List.length_nil, List.length_append]; done)
def nsupport_lowest (k : Nat) (a0 : Int) (a1 : Int) : Option SFrac :=
  (nsupport_divisor k a0 a1).bind fun r549 => (if r549 ≠ 0 then (some (⟨w64 (a0.tdiv r549), w64 (a1.tdiv r549)⟩ : SFrac)) else none)
theorem nsupport_lowest_ok (k : Nat) (a0 : Int) (a1 : Int) (r : SFrac) (h : nsupport_lowest k a0 a1 = some r) : VC Go.Proofs.Try.prog 101 [vi a0, vi a1] (VV.ag (c_SFrac r)) := by
 unfold nsupport_lowest at h
 obtain ⟨r549, h550, h⟩ := bs h
 have e551 := (ti (ti (an (nsupport_divisor_ok k a0 a1 _ h550) (ti trivial))))
 obtain ⟨h552, h⟩ := ifn h
 have e553 := (ti (ti (an h552 (ti (ti (an h552 (ti (ti trivial))))))))
 injection h with h; subst h
 exact fun_ok pm pn Go.Proofs.Try.func101 (r0 := VV.ag [vi (w64 (a0.tdiv r549)), vi (w64 (a1.tdiv r549))]) (ans := [.reg (.n :: []), .reg (.n :: .n :: .call (vi r549) :: .n :: []), .reg (nN 8 [])]) (fr := true) (by kernel_rfl) (an (an (ti trivial) (an e551 (an e553 trivial))) (an (ti (ti (ti trivial))) trivial)) (Wv.of_eq (eqT1_3 a0 r549 a1))
def nsupport_ratioOf (k : Nat) (a0 : SGearPair) : Option SFrac :=
  (nsupport_lowest k a0.Driver a0.Driven).bind fun r557 => (some r557)
theorem nsupport_ratioOf_ok (k : Nat) (a0 : SGearPair) (r : SFrac) (h : nsupport_ratioOf k a0 = some r) : VC Go.Proofs.Try.prog 83 [VV.ag (c_SGearPair a0)] (VV.ag (c_SFrac r)) := by
 unfold nsupport_ratioOf at h
 obtain ⟨r557, h558, h⟩ := bs h
 have e559 := (nsupport_lowest_ok k a0.Driver a0.Driven _ h558)
 injection h with h; subst h
 exact fun_ok pm pn Go.Proofs.Try.func83 (r0 := VV.ag (c_SFrac r557)) (ans := [.reg (.n :: .n :: []), .reg (nN 4 (.call (VV.ag (c_SFrac r557)) :: .n :: []))]) (fr := true) (by kernel_rfl) (an (an (ti (ti trivial)) (an (ti (ti (ti (ti (an e559 (ti trivial)))))) trivial)) (an (ti (ti (ti trivial))) trivial)) (Wv.refl _)
def arT1_0 (z0 : List SFrac) (z1 : Int) (z2 : SFrac) (z3 : (SFrac × Int)) : List Ans := (nN 3 (.v (VV.ag (c_SFrac (z0.getD z1.toNat default))) :: .n :: .call (VV.ag (c_SFrac z2)) :: .call (VV.tu [VV.ag (c_SFrac z3.1), vi z3.2]) :: nN 6 []))
def nsupport_products_l0_0_h (a0 : (List SGearPair)) (y0 : List SFrac) (x13 : Int) : VS := ⟨mkA [(4, VV.rf 0 0 y0.length), (11, VV.tr (List.flatMap c_SGearPair a0) a0.length), (12, vi (a0.length : Int)), (13, vi x13)], [some ⟨false, 2, List.flatMap c_SFrac y0⟩], .nil⟩
def nsupport_products_l0_0_e0 (a0 : (List SGearPair)) (r : Int) : VS := ⟨mkA [(2, VV.c (.slice none 0 0)), (3, vi r)], [], .nil⟩
def nsupport_products_l0_0_e1 (a0 : (List SGearPair)) (r : (List SFrac)) : VS := ⟨mkA [(4, VV.rf 0 0 r.length)], [some ⟨false, 2, List.flatMap c_SFrac r⟩], .nil⟩
def nsupport_products_l0_0 (k : Nat) (a0 : (List SGearPair)) : Nat → (List SFrac) → Int → Option (Sum Int (List SFrac))
  | 0, _, _ => none
  | fuel + 1, y0, x13 => if x13 < (a0.length : Int) then (if 0 ≤ x13 ∧ x13 < (a0.length : Int) then (if 0 ≤ x13 ∧ x13 < (y0.length : Int) then ((nsupport_ratioOf k (a0.getD x13.toNat default)).bind fun r645 => ((nnumber_Mul k (y0.getD x13.toNat default) r645).bind fun r648 => (if r648.2 = 0 then (if y0.length + ([r648.1] : List SFrac).length ≤ 1000000000 then (nsupport_products_l0_0 k a0 fuel (y0 ++ ([r648.1] : List SFrac)) (w64 (x13 + 1))) else none) else (some (.inl r648.2))))) else none) else none) else (some (.inr y0))
theorem nsupport_products_l0_0_ok (k : Nat) (a0 : (List SGearPair)) : ∀ (fuel : Nat) (y0 : List SFrac) (x13 : Int) (r : Sum Int (List SFrac)), nsupport_products_l0_0 k a0 fuel y0 x13 = some r → (match r with | .inl r => VLoop none Go.Proofs.Try.prog (szF Go.Proofs.Try.f92) (bodyOf Go.Proofs.Try.f92 0) (nsupport_products_l0_0_h a0 y0 x13) .ret (nsupport_products_l0_0_e0 a0 r) | .inr r => VLoop none Go.Proofs.Try.prog (szF Go.Proofs.Try.f92) (bodyOf Go.Proofs.Try.f92 0) (nsupport_products_l0_0_h a0 y0 x13) (.exit 0) (nsupport_products_l0_0_e1 a0 r)) := by
 intro fuel
 induction fuel with
 | zero => intro y0 x13 r h; rw [nsupport_products_l0_0.eq_1] at h; cases h
 | succ fuel ih =>
  intro y0 x13 r h
  rw [nsupport_products_l0_0.eq_2] at h
  rcases ifs h with ⟨h640, h⟩ | ⟨h640, h⟩
  ·obtain ⟨h641, h⟩ := ifn h
   have e642 := (show loadL Go.Proofs.Try.prog 92 (x13.toNat * 2) (List.flatMap c_SGearPair a0) = some (VV.ag (c_SGearPair (a0.getD x13.toNat default))) from ld_whole ag92 c_SGearPair 2 sz92 len_c_SGearPair a0 default h641 (by omega))
   obtain ⟨h643, h⟩ := ifn h
   have e644 := (show loadL Go.Proofs.Try.prog 37 (0 + x13.toNat * 2) (List.flatMap c_SFrac y0) = some (VV.ag (c_SFrac (y0.getD x13.toNat default))) from ld_whole ag37 c_SFrac 2 sz37 len_c_SFrac y0 default h643 (by omega))
   obtain ⟨r645, h646, h⟩ := bs h
   have e647 := (nsupport_ratioOf_ok k (a0.getD x13.toNat default) _ h646)
   obtain ⟨r648, h649, h⟩ := bs h
   have e650 := (nnumber_Mul_ok k (y0.getD x13.toNat default) r645 _ h649)
   have e651 := (ti (ti (an h643 (an e644 (ti (an e647 (an e650 (ti (ti (ti (ti (ti (ti trivial)))))))))))))
   rcases ifs h with ⟨h652, h⟩ | ⟨h652, h⟩
   ·obtain ⟨h653, h⟩ := ifn h
    have e654 := (show List.length (List.flatMap c_SFrac y0) = y0.length * 2 ∧ List.length [vi r648.1.Num, vi r648.1.Den] = 1 * 2 ∧ (y0.length + 1) * 16 ≤ 140737488355328 ∧ y0.length + 1 < 1099511627776 ∧ List.all [vi r648.1.Num, vi r648.1.Den] VV.still = true from ⟨(by rw [flatMap_len len_c_SFrac] <;> simp), (by rw [show [vi r648.1.Num, vi r648.1.Den] = List.flatMap c_SFrac ([r648.1] : List SFrac) from rfl]; rw [flatMap_len len_c_SFrac] <;> simp), (by first | omega | (simp at h653 ⊢; omega)), (by first | omega | (simp at h653 ⊢; omega)), (by rw [show [vi r648.1.Num, vi r648.1.Den] = List.flatMap c_SFrac ([r648.1] : List SFrac) from rfl]; exact still_c_SFrac _)⟩)
    have h2 := ih _ _ _ h
    obtain ⟨q, hv, hq⟩ := pkR (rd := none) (P := Go.Proofs.Try.prog) (fn := Go.Proofs.Try.f92) (k := 0) (s := (nsupport_products_l0_0_h a0 y0 x13)) (ans := [.reg (.n :: []), .br true, .reg (.n :: .n :: .v (VV.ag (c_SGearPair (a0.getD x13.toNat default))) :: nN 3 []), .reg (arT1_0 y0 x13 r645 r648), .reg (.n :: .n :: []), .br false, .reg (nN 5 []), .reg (.n :: .n :: [])]) (c := ⟨[(4, some (VV.rf 0 0 ((y0 ++ ([r648.1] : List SFrac)).length))), (11, none), (12, none), (13, none)], [some (List.flatMap c_SFrac (y0 ++ ([r648.1] : List SFrac)))], []⟩) (e := .normal) (s1 := (nsupport_products_l0_0_h a0 (y0 ++ ([r648.1] : List SFrac)) (w64 (x13 + 1)))) (an (an (ti trivial) (an (an (decide_eq_true h640) trivial) (an (an (ti (an h641 (an e642 (ti (ti (ti trivial)))))) (an e651 (an (an (ti (ti trivial)) (an (not_f (decide_eq_true h652)) trivial)) (ti (ti (ti (an e654 (ti trivial)))))))) (ti (ti trivial))))) (an (an (show Wv (VV.rf 0 0 (y0.length + 1)) (VV.rf 0 0 ((y0 ++ ([r648.1] : List SFrac)).length)) from (Wv.of_eq (by simp))) trivial) (an (show (List.flatMap c_SFrac y0) ++ [vi r648.1.Num, vi r648.1.Den] = List.flatMap c_SFrac (y0 ++ ([r648.1] : List SFrac)) from (by rw [show [vi r648.1.Num, vi r648.1.Den] = List.flatMap c_SFrac ([r648.1] : List SFrac) from rfl]; exact List.flatMap_append.symm)) trivial))) (by kernel_rfl)
    cases r with
    | inl r => exact round_next pm pn hv hq h2
    | inr r =>
     exact round_next pm pn hv hq h2
   ·injection h with h; subst h
    exact round_stop (c := ⟨[(2, none), (3, none)], [], []⟩) (s1 := (nsupport_products_l0_0_e0 a0 r648.2)) pm pn (ans := [.reg (.n :: []), .br true, .reg (.n :: .n :: .v (VV.ag (c_SGearPair (a0.getD x13.toNat default))) :: nN 3 []), .reg (arT1_0 y0 x13 r645 r648), .reg (.n :: .n :: []), .br true, .reg (nN 3 [])]) (by kernel_rfl) (by intro e; cases e) (an (an (ti trivial) (an (an (decide_eq_true h640) trivial) (an (ti (an h641 (an e642 (ti (ti (ti trivial)))))) (an e651 (an (ti (ti trivial)) (an (not_t (decide_eq_false h652)) (an (ti (ti (ti trivial))) trivial))))))) (ti trivial))
  ·injection h with h; subst h
   exact round_stop (c := ⟨[(4, none)], [none], []⟩) (s1 := (nsupport_products_l0_0_e1 a0 y0)) pm pn (ans := [.reg (.n :: []), .br false]) (by kernel_rfl) (by intro e; cases e) (an (an (ti trivial) (an (decide_eq_false h640) trivial)) (ti trivial))
theorem eqT1_4 (z0 : (List SFrac)) : VV.tu [VV.fw 2 (List.drop 0 (List.map unfr (List.flatMap c_SFrac z0))) z0.length, vi 0] = VV.tu [VV.fw 2 (List.flatMap c_SFrac z0) z0.length, vi 0] := by first | rfl | (simp only [drop0, unfr_vi, List.map_cons, List.map_nil, un_i, List.length_map, List.length_cons, List.length_nil, unfr_c_SFrac]; done) | (simp only [drop0, unfr_vi, List.map_cons, List.map_nil, un_i, List.length_map, List.length_cons, List.length_nil, unfr_c_SFrac]; rfl) | (simp only [drop0, unfr_vi, List.map_cons, List.map_nil, un_i, List.length_map, List.length_cons, List.length_nil, unfr_c_SFrac, c_SFrac, List.length_cons, List.length_nil, List.length_append]; done)
def nsupport_products (k : Nat) (a0 : (List SGearPair)) : Option ((List SFrac) × Int) :=
  (nsupport_one k).bind fun r606 => ((nsupport_products_l0_0 k a0 k ([r606] : List SFrac) 0).bind fun r656 => (match r656 with | .inl r657 => (some ([], r657)) | .inr r658 => (some (r658, 0))))
theorem nsupport_products_ok (k : Nat) (a0 : (List SGearPair)) (r : ((List SFrac) × Int)) (h : nsupport_products k a0 = some r) : VC Go.Proofs.Try.prog 92 [VV.tr (List.flatMap c_SGearPair a0) a0.length] (VV.tu [VV.fw 2 (List.flatMap c_SFrac r.1) r.1.length, vi r.2]) := by
 unfold nsupport_products at h
 obtain ⟨r606, h607, h⟩ := bs h
 obtain ⟨r656, h655, h⟩ := bs h
 have hph655 := nsupport_products_l0_0_ok k a0 _ _ _ _ h655
 cases r656 with
 | inl r657 =>
  dsimp only at h
  have e659 := (an (an (an (show Wv (VV.rf 0 0 1) (VV.rf 0 0 (([r606] : List SFrac).length)) from (Wv.of_eq (by simp))) trivial) (an (show [vi r606.Num, vi r606.Den] = List.flatMap c_SFrac ([r606] : List SFrac) from rfl) trivial)) (VRun.loop hph655))
  injection h with h; subst h
  exact fun_ok pm pn Go.Proofs.Try.func92 (r0 := VV.tu [VV.c (.slice none 0 0), vi r657]) (ans := [.reg (.n :: .n :: []), .reg (.call (VV.ag (c_SFrac r606)) :: .n :: .n :: []), .reg (nN 3 []), .sub ⟨[(4, some (VV.rf 0 0 (([r606] : List SFrac).length))), (11, none), (12, none), (13, none)], [some (List.flatMap c_SFrac ([r606] : List SFrac))], []⟩ .ret (nsupport_products_l0_0_e0 a0 r657)]) (fr := true) (by kernel_rfl) (an (an (ti (ti trivial)) (an (an (nsupport_one_ok k _ h607) (ti (ti trivial))) (an (ti (ti (ti trivial))) e659))) (ti (ti trivial))) (Wv.tuL (.cons Wv.nilFw (.cons (Wv.refl _) .nil)))
 | inr r658 =>
  dsimp only at h
  have e660 := (an (an (an (show Wv (VV.rf 0 0 1) (VV.rf 0 0 (([r606] : List SFrac).length)) from (Wv.of_eq (by simp))) trivial) (an (show [vi r606.Num, vi r606.Den] = List.flatMap c_SFrac ([r606] : List SFrac) from rfl) trivial)) (VRun.loop hph655))
  injection h with h; subst h
  exact fun_ok pm pn Go.Proofs.Try.func92 (r0 := VV.tu [VV.fw 2 (List.drop 0 (List.map unfr (List.flatMap c_SFrac r658))) r658.length, vi 0]) (ans := [.reg (.n :: .n :: []), .reg (.call (VV.ag (c_SFrac r606)) :: .n :: .n :: []), .reg (nN 3 []), .sub ⟨[(4, some (VV.rf 0 0 (([r606] : List SFrac).length))), (11, none), (12, none), (13, none)], [some (List.flatMap c_SFrac ([r606] : List SFrac))], []⟩ (.exit 0) (nsupport_products_l0_0_e1 a0 r658), .reg (nN 3 [])]) (fr := true) (by kernel_rfl) (an (an (ti (ti trivial)) (an (an (nsupport_one_ok k _ h607) (ti (ti trivial))) (an (an (ti (ti (ti trivial))) e660) (an (ti (ti (ti trivial))) trivial)))) (an (show List.all (List.flatMap c_SFrac r658) new0 = true from (by exact new0_c_SFrac _)) (ti trivial))) (Wv.of_eq (eqT1_4 r658))
def arT1_1 (z0 : ((List SFrac) × Int)) : List Ans := (.n :: .call (VV.tu [VV.fr (List.flatMap c_SFrac z0.1) z0.1.length, vi z0.2]) :: nN 4 [])
def nsupport_beginnings (k : Nat) (a0 : (List SGearPair)) : Option ((List SFrac) × Int) :=
  (nsupport_CheckTrain k a0).bind fun r664 => (if r664 = 0 then ((nsupport_products k a0).bind fun r668 => (some (r668.1, r668.2))) else (some ([], r664)))
theorem nsupport_beginnings_ok (k : Nat) (a0 : (List SGearPair)) (r : ((List SFrac) × Int)) (h : nsupport_beginnings k a0 = some r) : VC Go.Proofs.Try.prog 80 [VV.tr (List.flatMap c_SGearPair a0) a0.length] (VV.tu [VV.fr (List.flatMap c_SFrac r.1) r.1.length, vi r.2]) := by
 unfold nsupport_beginnings at h
 obtain ⟨r664, h665, h⟩ := bs h
 have e666 := (ti (an (nsupport_CheckTrain_ok k a0 _ h665) (ti trivial)))
 rcases ifs h with ⟨h667, h⟩ | ⟨h667, h⟩
 ·obtain ⟨r668, h669, h⟩ := bs h
  have e670 := (show VC Go.Proofs.Try.prog 92 [VV.tr (List.flatMap c_SGearPair a0) a0.length] (VV.tu [VV.fr (List.flatMap c_SFrac r668.1) r668.1.length, vi r668.2]) from (VC.weak (nsupport_products_ok k a0 _ h669) (Wv.tuL (.cons (Wv.fw rfl rfl) (.cons (Wv.refl _) .nil)))))
  injection h with h; subst h
  exact fun_ok pm pn Go.Proofs.Try.func80 (r0 := VV.tu [VV.fr (List.flatMap c_SFrac r668.1) r668.1.length, vi r668.2]) (ans := [.reg (.n :: .n :: []), .reg (.n :: .call (vi r664) :: .n :: []), .reg (.n :: .n :: []), .br false, .reg (arT1_1 r668)]) (fr := true) (by kernel_rfl) (an (an (ti (ti trivial)) (an (an e666 (an (ti (ti trivial)) (an (not_f (decide_eq_true h667)) trivial))) (an (ti (an e670 (ti (ti (ti (ti trivial)))))) trivial))) (ti (ti trivial))) (Wv.refl _)
 ·injection h with h; subst h
  exact fun_ok pm pn Go.Proofs.Try.func80 (r0 := VV.tu [VV.c (.slice none 0 0), vi r664]) (ans := [.reg (.n :: .n :: []), .reg (.n :: .call (vi r664) :: .n :: []), .reg (.n :: .n :: []), .br true, .reg (nN 3 [])]) (fr := true) (by kernel_rfl) (an (an (ti (ti trivial)) (an e666 (an (ti (ti trivial)) (an (not_t (decide_eq_false h667)) (an (ti (ti (ti trivial))) trivial))))) (ti (ti trivial))) (Wv.tuL (.cons Wv.nilFr (.cons (Wv.refl _) .nil)))
def arT1_2 (z0 : ((List SFrac) × Int)) : List Ans := (.n :: .call (VV.tu [VV.fr (List.flatMap c_SFrac z0.1) z0.1.length, vi z0.2]) :: nN 5 [])
def arT1_3 (z0 : ((List SFrac) × Int)) (z1 : (List SGearPair)) : List Ans := (nN 4 (.v (VV.ag (c_SFrac (z0.1.getD (z1.length : Int).toNat default))) :: .n :: .n :: []))
theorem eqT1_5 (z0 : ((List SFrac) × Int)) : VV.tu [VV.ag [vi 0, vi 0], vi z0.2] = VV.tu [VV.ag (c_SFrac (⟨0, 0⟩ : SFrac)), vi z0.2] := by first | rfl | (simp only [unfr_vi, List.map_cons, List.map_nil, un_i, unfr_c_SFrac]; done) | (simp only [unfr_vi, List.map_cons, List.map_nil, un_i, unfr_c_SFrac]; rfl) | (simp only [unfr_vi, List.map_cons, List.map_nil, un_i, unfr_c_SFrac, c_SFrac, List.length_cons, List.length_nil, List.length_append]; done)
def nsupport_Ratio (k : Nat) (a0 : (List SGearPair)) : Option (SFrac × Int) :=
  (nsupport_beginnings k a0).bind fun r678 => (if r678.2 = 0 then (if 0 ≤ (a0.length : Int) ∧ (a0.length : Int) < (r678.1.length : Int) then (some ((r678.1.getD (a0.length : Int).toNat default), 0)) else none) else (some ((⟨0, 0⟩ : SFrac), r678.2)))
theorem nsupport_Ratio_ok (k : Nat) (a0 : (List SGearPair)) (r : (SFrac × Int)) (h : nsupport_Ratio k a0 = some r) : VC Go.Proofs.Try.prog 40 [VV.tr (List.flatMap c_SGearPair a0) a0.length] (VV.tu [VV.ag (c_SFrac r.1), vi r.2]) := by
 unfold nsupport_Ratio at h
 obtain ⟨r678, h679, h⟩ := bs h
 have e680 := (ti (an (nsupport_beginnings_ok k a0 _ h679) (ti (ti (ti (ti (ti trivial)))))))
 rcases ifs h with ⟨h681, h⟩ | ⟨h681, h⟩
 ·obtain ⟨h682, h⟩ := ifn h
  have e683 := (show loadL Go.Proofs.Try.prog 37 ((a0.length : Int).toNat * 2) (List.flatMap c_SFrac r678.1) = some (VV.ag (c_SFrac (r678.1.getD (a0.length : Int).toNat default))) from ld_whole ag37 c_SFrac 2 sz37 len_c_SFrac r678.1 default h682 (by omega))
  have e684 := (ti (ti (ti (an h682 (an e683 (ti (ti trivial)))))))
  injection h with h; subst h
  exact fun_ok pm pn Go.Proofs.Try.func40 (r0 := VV.tu [VV.ag (c_SFrac (r678.1.getD (a0.length : Int).toNat default)), vi 0]) (ans := [.reg (.n :: .n :: []), .reg (arT1_2 r678), .reg (.n :: .n :: []), .br false, .reg (arT1_3 r678 a0)]) (fr := true) (by kernel_rfl) (an (an (ti (ti trivial)) (an e680 (an (an (ti (ti trivial)) (an (not_f (decide_eq_true h681)) trivial)) (an e684 trivial)))) (an (ti (ti (ti trivial))) (ti trivial))) (Wv.refl _)
 ·injection h with h; subst h
  exact fun_ok pm pn Go.Proofs.Try.func40 (r0 := VV.tu [VV.ag [vi 0, vi 0], vi r678.2]) (ans := [.reg (.n :: .n :: []), .reg (arT1_2 r678), .reg (.n :: .n :: []), .br true, .reg (nN 4 [])]) (fr := true) (by kernel_rfl) (an (an (ti (ti trivial)) (an e680 (an (ti (ti trivial)) (an (not_t (decide_eq_false h681)) (an (ti (ti (ti (ti trivial)))) trivial))))) (an (ti (ti (ti trivial))) (ti trivial))) (Wv.of_eq (eqT1_5 r678))
def nsupport_Returns_l0_0_h (r727 : ((List SFrac) × Int)) (x19 : Int) (x6 : Int) : VS := ⟨mkA [(6, vi x6), (17, VV.fr (List.flatMap c_SFrac r727.1) r727.1.length), (18, vi (r727.1.length : Int)), (19, vi x19)], [], .nil⟩
def nsupport_Returns_l0_0_e0 (r727 : ((List SFrac) × Int)) (r : Unit) : VS := ⟨mkA [(2, vi 0), (3, vi 8)], [], .nil⟩
def nsupport_Returns_l0_0_e1 (r727 : ((List SFrac) × Int)) (r : Int) : VS := ⟨mkA [(6, vi r)], [], .nil⟩
def nsupport_Returns_l0_0 (k : Nat) (r727 : ((List SFrac) × Int)) : Nat → Int → Int → Option (Sum Unit Int)
  | 0, _, _ => none
  | fuel + 1, x19, x6 => if x19 < (r727.1.length : Int) then (if 0 ≤ x19 ∧ x19 < (r727.1.length : Int) then ((nsupport_divisor k x6 ((r727.1.getD x19.toNat default).Den)).bind fun r752 => (if r752 ≠ 0 then (if 1000000000 < (w64 (x6 * (w64 (((r727.1.getD x19.toNat default).Den).tdiv r752)))) then (some (.inl ())) else (nsupport_Returns_l0_0 k r727 fuel (w64 (x19 + 1)) (w64 (x6 * (w64 (((r727.1.getD x19.toNat default).Den).tdiv r752)))))) else none)) else none) else (some (.inr x6))
theorem nsupport_Returns_l0_0_ok (k : Nat) (r727 : ((List SFrac) × Int)) : ∀ (fuel : Nat) (x19 : Int) (x6 : Int) (r : Sum Unit Int), nsupport_Returns_l0_0 k r727 fuel x19 x6 = some r → (match r with | .inl r => VLoop none Go.Proofs.Try.prog (szF Go.Proofs.Try.f42) (bodyOf Go.Proofs.Try.f42 0) (nsupport_Returns_l0_0_h r727 x19 x6) .ret (nsupport_Returns_l0_0_e0 r727 r) | .inr r => VLoop none Go.Proofs.Try.prog (szF Go.Proofs.Try.f42) (bodyOf Go.Proofs.Try.f42 0) (nsupport_Returns_l0_0_h r727 x19 x6) (.exit 0) (nsupport_Returns_l0_0_e1 r727 r)) := by
 intro fuel
 induction fuel with
 | zero => intro x19 x6 r h; rw [nsupport_Returns_l0_0.eq_1] at h; cases h
 | succ fuel ih =>
  intro x19 x6 r h
  rw [nsupport_Returns_l0_0.eq_2] at h
  rcases ifs h with ⟨h749, h⟩ | ⟨h749, h⟩
  ·obtain ⟨h750, h⟩ := ifn h
   have e751 := (show loadL Go.Proofs.Try.prog 37 (x19.toNat * 2) (List.flatMap c_SFrac r727.1) = some (VV.ag (c_SFrac (r727.1.getD x19.toNat default))) from ld_whole ag37 c_SFrac 2 sz37 len_c_SFrac r727.1 default h750 (by omega))
   obtain ⟨r752, h753, h⟩ := bs h
   have e754 := (nsupport_divisor_ok k x6 ((r727.1.getD x19.toNat default).Den) _ h753)
   obtain ⟨h755, h⟩ := ifn h
   have e756 := (ti (ti (ti (ti (ti (ti (an e754 (an h755 (ti (ti trivial))))))))))
   rcases ifs h with ⟨h757, h⟩ | ⟨h757, h⟩
   ·injection h with h; subst h
    exact round_stop (c := ⟨[(2, none), (3, none)], [], []⟩) (s1 := (nsupport_Returns_l0_0_e0 r727 ())) pm pn (ans := [.reg (.n :: []), .br true, .reg (.n :: .v (VV.ag (c_SFrac (r727.1.getD x19.toNat default))) :: .n :: .n :: []), .reg (nN 6 (.call (vi r752) :: nN 3 [])), .reg (.n :: .n :: []), .br true, .reg (.n :: .n :: [])]) (by kernel_rfl) (by intro e; cases e) (an (an (ti trivial) (an (an (decide_eq_true h749) trivial) (an (an h750 (an e751 (ti (ti trivial)))) (an e756 (an (ti (ti trivial)) (an (decide_eq_true h757) (an (ti (ti trivial)) trivial))))))) (ti trivial))
   ·have h2 := ih _ _ _ h
    obtain ⟨q, hv, hq⟩ := pkR (rd := none) (P := Go.Proofs.Try.prog) (fn := Go.Proofs.Try.f42) (k := 0) (s := (nsupport_Returns_l0_0_h r727 x19 x6)) (ans := [.reg (.n :: []), .br true, .reg (.n :: .v (VV.ag (c_SFrac (r727.1.getD x19.toNat default))) :: .n :: .n :: []), .reg (nN 6 (.call (vi r752) :: nN 3 [])), .reg (.n :: .n :: []), .br false, .reg (.n :: .n :: [])]) (c := ⟨[(6, none), (17, none), (18, none), (19, none)], [], []⟩) (e := .normal) (s1 := (nsupport_Returns_l0_0_h r727 (w64 (x19 + 1)) (w64 (x6 * (w64 (((r727.1.getD x19.toNat default).Den).tdiv r752)))))) (an (an (ti trivial) (an (an (decide_eq_true h749) trivial) (an (an (an h750 (an e751 (ti (ti trivial)))) (an e756 (an (ti (ti trivial)) (an (decide_eq_false h757) trivial)))) (ti (ti trivial))))) (ti trivial)) (by kernel_rfl)
    cases r with
    | inl r => exact round_next pm pn hv hq h2
    | inr r =>
     exact round_next pm pn hv hq h2
  ·injection h with h; subst h
   exact round_stop (c := ⟨[(6, none)], [], []⟩) (s1 := (nsupport_Returns_l0_0_e1 r727 x6)) pm pn (ans := [.reg (.n :: []), .br false]) (by kernel_rfl) (by intro e; cases e) (an (an (ti trivial) (an (decide_eq_false h749) trivial)) (ti trivial))
def nsupport_Returns (k : Nat) (a0 : (List SGearPair)) : Option (Int × Int) :=
  (nsupport_beginnings k a0).bind fun r727 => (if r727.2 = 0 then ((nsupport_Returns_l0_0 k r727 k 0 1).bind fun r759 => (match r759 with | .inl r760 => (some (0, 8)) | .inr r761 => (some (r761, 0)))) else (some (0, r727.2)))
theorem nsupport_Returns_ok (k : Nat) (a0 : (List SGearPair)) (r : (Int × Int)) (h : nsupport_Returns k a0 = some r) : VC Go.Proofs.Try.prog 42 [VV.tr (List.flatMap c_SGearPair a0) a0.length] (VV.tu [vi r.1, vi r.2]) := by
 unfold nsupport_Returns at h
 obtain ⟨r727, h728, h⟩ := bs h
 have e729 := (ti (an (nsupport_beginnings_ok k a0 _ h728) (ti (ti (ti (ti (ti trivial)))))))
 rcases ifs h with ⟨h730, h⟩ | ⟨h730, h⟩
 ·obtain ⟨r759, h758, h⟩ := bs h
  have hph758 := nsupport_Returns_l0_0_ok k r727 _ _ _ _ h758
  cases r759 with
  | inl r760 =>
   dsimp only at h
   have e762 := (an (ti trivial) (VRun.loop hph758))
   injection h with h; subst h
   exact fun_ok pm pn Go.Proofs.Try.func42 (r0 := VV.tu [vi 0, vi 8]) (ans := [.reg (.n :: .n :: []), .reg (arT1_2 r727), .reg (.n :: .n :: []), .br false, .reg (.n :: []), .reg (nN 3 []), .sub ⟨[(6, none), (17, none), (18, none), (19, none)], [], []⟩ .ret (nsupport_Returns_l0_0_e0 r727 r760)]) (fr := true) (by kernel_rfl) (an (an (ti (ti trivial)) (an e729 (an (an (ti (ti trivial)) (an (not_f (decide_eq_true h730)) trivial)) (an (ti trivial) (an (ti (ti (ti trivial))) e762))))) (ti (ti trivial))) (Wv.refl _)
  | inr r761 =>
   dsimp only at h
   have e763 := (an (ti trivial) (VRun.loop hph758))
   injection h with h; subst h
   exact fun_ok pm pn Go.Proofs.Try.func42 (r0 := VV.tu [vi r761, vi 0]) (ans := [.reg (.n :: .n :: []), .reg (arT1_2 r727), .reg (.n :: .n :: []), .br false, .reg (.n :: []), .reg (nN 3 []), .sub ⟨[(6, none), (17, none), (18, none), (19, none)], [], []⟩ (.exit 0) (nsupport_Returns_l0_0_e1 r727 r761), .reg (nN 3 [])]) (fr := true) (by kernel_rfl) (an (an (ti (ti trivial)) (an e729 (an (an (ti (ti trivial)) (an (not_f (decide_eq_true h730)) trivial)) (an (ti trivial) (an (an (ti (ti (ti trivial))) e763) (an (ti (ti (ti trivial))) trivial)))))) (ti (ti trivial))) (Wv.refl _)
 ·injection h with h; subst h
  exact fun_ok pm pn Go.Proofs.Try.func42 (r0 := VV.tu [vi 0, vi r727.2]) (ans := [.reg (.n :: .n :: []), .reg (arT1_2 r727), .reg (.n :: .n :: []), .br true, .reg (nN 3 [])]) (fr := true) (by kernel_rfl) (an (an (ti (ti trivial)) (an e729 (an (ti (ti trivial)) (an (not_t (decide_eq_false h730)) (an (ti (ti (ti trivial))) trivial))))) (ti (ti trivial))) (Wv.refl _)
def nspeculumbase_Within (k : Nat) (a0 : Int) (a1 : Int) (a2 : Int) : Option Bool :=
  if a1 ≤ a0 then (some (decide (a0 ≤ a2))) else (some false)
theorem nspeculumbase_Within_ok (k : Nat) (a0 : Int) (a1 : Int) (a2 : Int) (r : Bool) (h : nspeculumbase_Within k a0 a1 a2 = some r) : VC Go.Proofs.Try.prog 16 [vi a0, vi a1, vi a2] (vb r) := by
 unfold nspeculumbase_Within at h
 rcases ifs h with ⟨h774, h⟩ | ⟨h774, h⟩
 ·have e775 := (ti (ti (ti (ti (an (an (decide_eq_true h774) trivial) (an (an (decide_eq_true h774) trivial) (an (an (decide_eq_true h774) trivial) (an (decide_eq_true h774) (ti trivial)))))))))
  injection h with h; subst h
  exact fun_ok pm pn Go.Proofs.Try.func16 (r0 := vb (decide (a0 ≤ a2))) (ans := [.reg (.n :: []), .reg (nN 7 (.b true :: .n :: []))]) (fr := true) (by kernel_rfl) (an (an (ti trivial) (an e775 trivial)) (ti trivial)) (Wv.refl _)
 ·have e776 := (ti (ti (ti (ti (an (decide_eq_false h774) (an (decide_eq_false h774) (an (decide_eq_false h774) (an (decide_eq_false h774) (ti trivial)))))))))
  injection h with h; subst h
  exact fun_ok pm pn Go.Proofs.Try.func16 (r0 := vb false) (ans := [.reg (.n :: []), .reg (nN 4 (nS 3 (.b false :: .n :: [])))]) (fr := true) (by kernel_rfl) (an (an (ti trivial) (an e776 trivial)) (ti trivial)) (Wv.refl _)
def nspeculumref07_isTeeth (k : Nat) (a0 : Int) : Option Bool :=
  (nspeculumbase_Within k a0 1 500).bind fun r780 => (some r780)
theorem nspeculumref07_isTeeth_ok (k : Nat) (a0 : Int) (r : Bool) (h : nspeculumref07_isTeeth k a0 = some r) : VC Go.Proofs.Try.prog 82 [vi a0] (vb r) := by
 unfold nspeculumref07_isTeeth at h
 obtain ⟨r780, h781, h⟩ := bs h
 have e782 := (nspeculumbase_Within_ok k a0 1 500 _ h781)
 injection h with h; subst h
 exact fun_ok pm pn Go.Proofs.Try.func82 (r0 := vb r780) (ans := [.reg (.n :: []), .reg (.n :: .call (vb r780) :: .n :: [])]) (fr := true) (by kernel_rfl) (an (an (ti trivial) (an (ti (an e782 (ti trivial))) trivial)) (ti trivial)) (Wv.refl _)
def arT1_4 (z0 : (List SGearPair)) (z1 : Int) (z2 : Bool) (z3 : Bool) : List Ans := (nN 4 (.v (vi ((z0.getD z1.toNat default).Driver)) :: .call (vb z2) :: nN 6 (.v (vi ((z0.getD z1.toNat default).Driven)) :: .call (vb z3) :: .n :: .b false :: [])))
def arT1_5 (z0 : (List SGearPair)) (z1 : Int) (z2 : Bool) : List Ans := (nN 4 (.v (vi ((z0.getD z1.toNat default).Driver)) :: .call (vb z2) :: .n :: .n :: nS 7 (.b true :: [])))
def nspeculumref07_CheckTrain_l0_0_h (a0 : (List SGearPair)) (x3 : Int) : VS := ⟨mkA [(0, VV.tr (List.flatMap c_SGearPair a0) a0.length), (3, vi x3)], [], .nil⟩
def nspeculumref07_CheckTrain_l0_0_e0 (a0 : (List SGearPair)) (r : Unit) : VS := ⟨mkA [(2, vi 2)], [], .nil⟩
def nspeculumref07_CheckTrain_l0_0_e1 (a0 : (List SGearPair)) (r : Unit) : VS := ⟨mkA [], [], .nil⟩
def nspeculumref07_CheckTrain_l0_0 (k : Nat) (a0 : (List SGearPair)) : Nat → Int → Option (Sum Unit Unit)
  | 0, _ => none
  | fuel + 1, x3 => if x3 < (a0.length : Int) then (if 0 ≤ x3 ∧ x3 < (a0.length : Int) then ((nspeculumref07_isTeeth k ((a0.getD x3.toNat default).Driver)).bind fun r860 => (if r860 = true then ((nspeculumref07_isTeeth k ((a0.getD x3.toNat default).Driven)).bind fun r865 => (if r865 = true then (nspeculumref07_CheckTrain_l0_0 k a0 fuel (w64 (x3 + 1))) else (some (.inl ())))) else (some (.inl ())))) else none) else (some (.inr ()))
theorem nspeculumref07_CheckTrain_l0_0_ok (k : Nat) (a0 : (List SGearPair)) : ∀ (fuel : Nat) (x3 : Int) (r : Sum Unit Unit), nspeculumref07_CheckTrain_l0_0 k a0 fuel x3 = some r → (match r with | .inl r => VLoop none Go.Proofs.Try.prog (szF Go.Proofs.Try.f43) (bodyOf Go.Proofs.Try.f43 0) (nspeculumref07_CheckTrain_l0_0_h a0 x3) .ret (nspeculumref07_CheckTrain_l0_0_e0 a0 r) | .inr r => VLoop none Go.Proofs.Try.prog (szF Go.Proofs.Try.f43) (bodyOf Go.Proofs.Try.f43 0) (nspeculumref07_CheckTrain_l0_0_h a0 x3) (.exit 0) (nspeculumref07_CheckTrain_l0_0_e1 a0 r)) := by
 intro fuel
 induction fuel with
 | zero => intro x3 r h; rw [nspeculumref07_CheckTrain_l0_0.eq_1] at h; cases h
 | succ fuel ih =>
  intro x3 r h
  rw [nspeculumref07_CheckTrain_l0_0.eq_2] at h
  rcases ifs h with ⟨h857, h⟩ | ⟨h857, h⟩
  ·obtain ⟨h858, h⟩ := ifn h
   have e859 := (show loadL Go.Proofs.Try.prog 3 (x3.toNat * 2 + 0) (List.flatMap c_SGearPair a0) = some (vi ((a0.getD x3.toNat default).Driver)) from (ld_flat ag3 c_SGearPair 2 0 len_c_SGearPair (by omega) a0 default h858 (by omega)).trans rfl)
   obtain ⟨r860, h861, h⟩ := bs h
   have e862 := (nspeculumref07_isTeeth_ok k ((a0.getD x3.toNat default).Driver) _ h861)
   rcases ifs h with ⟨h863, h⟩ | ⟨h863, h⟩
   ·have e864 := (an (not_f h863) (show loadL Go.Proofs.Try.prog 3 (x3.toNat * 2 + 1) (List.flatMap c_SGearPair a0) = some (vi ((a0.getD x3.toNat default).Driven)) from (ld_flat ag3 c_SGearPair 2 1 len_c_SGearPair (by omega) a0 default h858 (by omega)).trans rfl))
    obtain ⟨r865, h866, h⟩ := bs h
    have e867 := (an (not_f h863) (nspeculumref07_isTeeth_ok k ((a0.getD x3.toNat default).Driven) _ h866))
    have e868 := (ti (ti (an h858 (ti (an e859 (an e862 (ti (ti (an (an (not_f h863) trivial) (an (an (not_f h863) trivial) (an (an (not_f h863) h858) (an (an (not_f h863) trivial) (an e864 (an e867 (an (an (not_f h863) trivial) (an (not_f h863) trivial))))))))))))))))
    rcases ifs h with ⟨h869, h⟩ | ⟨h869, h⟩
    ·have h2 := ih _ _ h
     obtain ⟨q, hv, hq⟩ := pkR (rd := none) (P := Go.Proofs.Try.prog) (fn := Go.Proofs.Try.f43) (k := 0) (s := (nspeculumref07_CheckTrain_l0_0_h a0 x3)) (ans := [.reg (nN 4 []), .br true, .reg (arT1_4 a0 x3 r860 r865), .br false, .reg (nN 3 [])]) (c := ⟨[(0, none), (3, none)], [], []⟩) (e := .normal) (s1 := (nspeculumref07_CheckTrain_l0_0_h a0 (w64 (x3 + 1)))) (an (an (an (ti (ti (ti (ti trivial)))) (an (decide_eq_true h857) trivial)) (an (an e868 (an (not_f h869) trivial)) (ti (ti (ti trivial))))) (ti trivial)) (by kernel_rfl)
     cases r with
     | inl r => exact round_next pm pn hv hq h2
     | inr r =>
      exact round_next pm pn hv hq h2
    ·injection h with h; subst h
     exact round_stop (c := ⟨[(2, none)], [], []⟩) (s1 := (nspeculumref07_CheckTrain_l0_0_e0 a0 ())) pm pn (ans := [.reg (nN 4 []), .br true, .reg (arT1_4 a0 x3 r860 r865), .br true, .reg (.n :: [])]) (by kernel_rfl) (by intro e; cases e) (an (an (an (ti (ti (ti (ti trivial)))) (an (decide_eq_true h857) trivial)) (an e868 (an (not_t (bool_f h869)) (an (ti trivial) trivial)))) (ti trivial))
   ·have e870 := (ti (ti (an h858 (ti (an e859 (an e862 (ti (ti (an (not_t (bool_f h863)) (an (not_t (bool_f h863)) (an (not_t (bool_f h863)) (an (not_t (bool_f h863)) (an (not_t (bool_f h863)) (an (not_t (bool_f h863)) (an (not_t (bool_f h863)) (an (not_t (bool_f h863)) trivial))))))))))))))))
    injection h with h; subst h
    exact round_stop (c := ⟨[(2, none)], [], []⟩) (s1 := (nspeculumref07_CheckTrain_l0_0_e0 a0 ())) pm pn (ans := [.reg (nN 4 []), .br true, .reg (arT1_5 a0 x3 r860), .br true, .reg (.n :: [])]) (by kernel_rfl) (by intro e; cases e) (an (an (an (ti (ti (ti (ti trivial)))) (an (decide_eq_true h857) trivial)) (an e870 (an rt (an (ti trivial) trivial)))) (ti trivial))
  ·injection h with h; subst h
   exact round_stop (c := ⟨[], [], []⟩) (s1 := (nspeculumref07_CheckTrain_l0_0_e1 a0 ())) pm pn (ans := [.reg (nN 4 []), .br false]) (by kernel_rfl) (by intro e; cases e) (an (an (ti (ti (ti (ti trivial)))) (an (decide_eq_false h857) trivial)) (ti trivial))
def nspeculumref07_CheckTrain (k : Nat) (a0 : (List SGearPair)) : Option Int :=
  if 12 < (a0.length : Int) then (some 8) else ((nspeculumref07_CheckTrain_l0_0 k a0 k 0).bind fun r872 => (match r872 with | .inl r873 => (some 2) | .inr r874 => (some 0)))
theorem nspeculumref07_CheckTrain_ok (k : Nat) (a0 : (List SGearPair)) (r : Int) (h : nspeculumref07_CheckTrain k a0 = some r) : VC Go.Proofs.Try.prog 43 [VV.tr (List.flatMap c_SGearPair a0) a0.length] (vi r) := by
 unfold nspeculumref07_CheckTrain at h
 rcases ifs h with ⟨h828, h⟩ | ⟨h828, h⟩
 ·injection h with h; subst h
  exact fun_ok pm pn Go.Proofs.Try.func43 (r0 := vi 8) (ans := [.reg (.n :: []), .reg (nN 3 []), .br true, .reg (.n :: [])]) (fr := true) (by kernel_rfl) (an (an (ti trivial) (an (ti (ti (ti trivial))) (an (decide_eq_true h828) (an (ti trivial) trivial)))) (ti trivial)) (Wv.refl _)
 ·obtain ⟨r872, h871, h⟩ := bs h
  have hph871 := nspeculumref07_CheckTrain_l0_0_ok k a0 _ _ _ h871
  cases r872 with
  | inl r873 =>
   dsimp only at h
   have e875 := (an (ti trivial) (VRun.loop hph871))
   injection h with h; subst h
   exact fun_ok pm pn Go.Proofs.Try.func43 (r0 := vi 2) (ans := [.reg (.n :: []), .reg (nN 3 []), .br false, .reg (.n :: []), .sub ⟨[(0, none), (3, none)], [], []⟩ .ret (nspeculumref07_CheckTrain_l0_0_e0 a0 r873)]) (fr := true) (by kernel_rfl) (an (an (ti trivial) (an (an (ti (ti (ti trivial))) (an (decide_eq_false h828) trivial)) (an (ti trivial) e875))) (ti trivial)) (Wv.refl _)
  | inr r874 =>
   dsimp only at h
   have e876 := (an (ti trivial) (VRun.loop hph871))
   injection h with h; subst h
   exact fun_ok pm pn Go.Proofs.Try.func43 (r0 := vi 0) (ans := [.reg (.n :: []), .reg (nN 3 []), .br false, .reg (.n :: []), .sub ⟨[(0, none), (3, none)], [], []⟩ (.exit 0) (nspeculumref07_CheckTrain_l0_0_e1 a0 r874), .reg (.n :: [])]) (fr := true) (by kernel_rfl) (an (an (ti trivial) (an (an (ti (ti (ti trivial))) (an (decide_eq_false h828) trivial)) (an (an (ti trivial) e876) (an (ti trivial) trivial)))) (ti trivial)) (Wv.refl _)
theorem eqT1_6 (z0 : SGearPair) : [VV.tr (List.flatMap c_SGearPair ([z0] : List SGearPair)) (([z0] : List SGearPair).length)] = [VV.tr (List.drop 0 (List.map unfr [vi z0.Driver, vi z0.Driven])) 1] := by first | rfl | (simp only [drop0, unfr_vi, List.map_cons, List.map_nil, un_i, un_tr, List.length_map, List.length_cons, List.length_nil, unfr_c_SGearPair]; done) | (simp only [drop0, unfr_vi, List.map_cons, List.map_nil, un_i, un_tr, List.length_map, List.length_cons, List.length_nil, unfr_c_SGearPair]; rfl) | (simp only [drop0, unfr_vi, List.map_cons, List.map_nil, un_i, un_tr, List.length_map, List.length_cons, List.length_nil, unfr_c_SGearPair, c_SGearPair, List.length_cons, List.length_nil, List.length_append]; done)
def nsupport_MeetAgain (k : Nat) (a0 : SGearPair) : Option (Int × Int) :=
  (nsupport_CheckTrain k ([a0] : List SGearPair)).bind fun r897 => (if r897 = 0 then ((nsupport_ratioOf k a0).bind fun r901 => (some (r901.Den, 0))) else (some (0, r897)))
theorem nsupport_MeetAgain_ok (k : Nat) (a0 : SGearPair) (r : (Int × Int)) (h : nsupport_MeetAgain k a0 = some r) : VC Go.Proofs.Try.prog 45 [VV.ag (c_SGearPair a0)] (VV.tu [vi r.1, vi r.2]) := by
 unfold nsupport_MeetAgain at h
 obtain ⟨r897, h898, h⟩ := bs h
 have e899 := (VC.args (nsupport_CheckTrain_ok k ([a0] : List SGearPair) _ h898) (eqT1_6 a0))
 rcases ifs h with ⟨h900, h⟩ | ⟨h900, h⟩
 ·obtain ⟨r901, h902, h⟩ := bs h
  have e903 := (ti (an (nsupport_ratioOf_ok k a0 _ h902) (ti (ti (ti trivial)))))
  injection h with h; subst h
  exact fun_ok pm pn Go.Proofs.Try.func45 (r0 := VV.tu [vi r901.Den, vi 0]) (ans := [.reg (nN 3 []), .reg (.n :: .n :: .call (vi r897) :: .n :: []), .reg (.n :: .n :: []), .br false, .reg (.n :: .call (VV.ag (c_SFrac r901)) :: nN 3 [])]) (fr := true) (by kernel_rfl) (an (an (ti (ti (ti trivial))) (an (an (ti (ti (an e899 (ti trivial)))) (an (ti (ti trivial)) (an (not_f (decide_eq_true h900)) trivial))) (an e903 trivial))) (ti (ti trivial))) (Wv.refl _)
 ·injection h with h; subst h
  exact fun_ok pm pn Go.Proofs.Try.func45 (r0 := VV.tu [vi 0, vi r897]) (ans := [.reg (nN 3 []), .reg (.n :: .n :: .call (vi r897) :: .n :: []), .reg (.n :: .n :: []), .br true, .reg (nN 3 [])]) (fr := true) (by kernel_rfl) (an (an (ti (ti (ti trivial))) (an (ti (ti (an e899 (ti trivial)))) (an (ti (ti trivial)) (an (not_t (decide_eq_false h900)) (an (ti (ti (ti trivial))) trivial))))) (ti (ti trivial))) (Wv.refl _)
def nspeculumref07_MeetAgain (k : Nat) (a0 : SGearPair) : Option Int :=
  (nspeculumbase_Gcd k a0.Driver a0.Driven).bind fun r926 => (if r926 ≠ 0 then (some (w64 (a0.Driven.tdiv r926))) else none)
theorem nspeculumref07_MeetAgain_ok (k : Nat) (a0 : SGearPair) (r : Int) (h : nspeculumref07_MeetAgain k a0 = some r) : VC Go.Proofs.Try.prog 46 [VV.ag (c_SGearPair a0)] (vi r) := by
 unfold nspeculumref07_MeetAgain at h
 obtain ⟨r926, h927, h⟩ := bs h
 have e928 := (nspeculumbase_Gcd_ok k a0.Driver a0.Driven _ h927)
 obtain ⟨h929, h⟩ := ifn h
 have e930 := (ti (ti (ti (ti (ti (ti (an e928 (an h929 (ti trivial)))))))))
 injection h with h; subst h
 exact fun_ok pm pn Go.Proofs.Try.func46 (r0 := vi (w64 (a0.Driven.tdiv r926))) (ans := [.reg (.n :: .n :: []), .reg (nN 6 (.call (vi r926) :: .n :: .n :: []))]) (fr := true) (by kernel_rfl) (an (an (ti (ti trivial)) (an e930 trivial)) (ti trivial)) (Wv.refl _)
def arT1_6 (z0 : (List SGearPair)) (z1 : Int) (z2 : (Int × Int)) : List Ans := (nN 3 (.v (VV.ag (c_SGearPair (z0.getD z1.toNat default))) :: .call (VV.tu [vi z2.1, vi z2.2]) :: nN 5 []))
def arT1_7 (z0 : (List SGearPair)) (z1 : Int) (z2 : Int) : List Ans := (nN 4 (.v (VV.tr (List.flatMap c_SGearPair (sl z0 ((z1).toNat) ((w64 (z1 + 1)).toNat))) ((sl z0 ((z1).toNat) ((w64 (z1 + 1)).toNat)).length)) :: .call (vi z2) :: .n :: []))
def arT1_8 (z0 : (List SGearPair)) (z1 : Int) (z2 : Int) : List Ans := (nN 7 (.skip :: .skip :: .b false :: .b false :: nN 8 (.v (VV.ag (c_SGearPair (z0.getD z1.toNat default))) :: .call (vi z2) :: .n :: .b true :: .b false :: [])))
def nspeculumref07_of (k : Nat) (a0 : SGearPair) : Option SFrac :=
  (nspeculumbase_Lowest k a0.Driver a0.Driven).bind fun r1043 => (some r1043)
theorem nspeculumref07_of_ok (k : Nat) (a0 : SGearPair) (r : SFrac) (h : nspeculumref07_of k a0 = some r) : VC Go.Proofs.Try.prog 94 [VV.ag (c_SGearPair a0)] (VV.ag (c_SFrac r)) := by
 unfold nspeculumref07_of at h
 obtain ⟨r1043, h1044, h⟩ := bs h
 have e1045 := (nspeculumbase_Lowest_ok k a0.Driver a0.Driven _ h1044)
 injection h with h; subst h
 exact fun_ok pm pn Go.Proofs.Try.func94 (r0 := VV.ag (c_SFrac r1043)) (ans := [.reg (.n :: .n :: []), .reg (nN 4 (.call (VV.ag (c_SFrac r1043)) :: .n :: []))]) (fr := true) (by kernel_rfl) (an (an (ti (ti trivial)) (an (ti (ti (ti (ti (an e1045 (ti trivial)))))) trivial)) (an (ti (ti (ti trivial))) trivial)) (Wv.refl _)
def arT1_9 (z0 : List SFrac) (z1 : Int) (z2 : (List SGearPair)) (z3 : SFrac) (z4 : (SFrac × Int)) : List Ans := (nN 3 (.v (VV.ag (c_SFrac (z0.getD z1.toNat default))) :: nN 3 (.v (VV.ag (c_SGearPair (z2.getD z1.toNat default))) :: .call (VV.ag (c_SFrac z3)) :: .call (VV.tu [VV.ag (c_SFrac z4.1), vi z4.2]) :: nN 6 [])))
def nspeculumref07_Beginnings_l0_0_h (a0 : (List SGearPair)) (y0 : List SFrac) (x5 : Int) : VS := ⟨mkA [(0, VV.tr (List.flatMap c_SGearPair a0) a0.length), (4, VV.rf 0 0 y0.length), (5, vi x5)], [some ⟨false, 2, List.flatMap c_SFrac y0⟩], .nil⟩
def nspeculumref07_Beginnings_l0_0_e0 (a0 : (List SGearPair)) (r : Unit) : VS := ⟨mkA [(2, VV.c (.slice none 0 0)), (3, vb false)], [], .nil⟩
def nspeculumref07_Beginnings_l0_0_e1 (a0 : (List SGearPair)) (r : (List SFrac)) : VS := ⟨mkA [(4, VV.rf 0 0 r.length)], [some ⟨false, 2, List.flatMap c_SFrac r⟩], .nil⟩
def nspeculumref07_Beginnings_l0_0 (k : Nat) (a0 : (List SGearPair)) : Nat → (List SFrac) → Int → Option (Sum Unit (List SFrac))
  | 0, _, _ => none
  | fuel + 1, y0, x5 => if x5 < (a0.length : Int) then (if 0 ≤ x5 ∧ x5 < (y0.length : Int) then (if 0 ≤ x5 ∧ x5 < (a0.length : Int) then ((nspeculumref07_of k (a0.getD x5.toNat default)).bind fun r1129 => ((nspeculumref01_Mul k (y0.getD x5.toNat default) r1129).bind fun r1132 => (if r1132.2 = 0 then (if y0.length + ([r1132.1] : List SFrac).length ≤ 1000000000 then (nspeculumref07_Beginnings_l0_0 k a0 fuel (y0 ++ ([r1132.1] : List SFrac)) (w64 (x5 + 1))) else none) else (some (.inl ()))))) else none) else none) else (some (.inr y0))
theorem nspeculumref07_Beginnings_l0_0_ok (k : Nat) (a0 : (List SGearPair)) : ∀ (fuel : Nat) (y0 : List SFrac) (x5 : Int) (r : Sum Unit (List SFrac)), nspeculumref07_Beginnings_l0_0 k a0 fuel y0 x5 = some r → (match r with | .inl r => VLoop none Go.Proofs.Try.prog (szF Go.Proofs.Try.f84) (bodyOf Go.Proofs.Try.f84 0) (nspeculumref07_Beginnings_l0_0_h a0 y0 x5) .ret (nspeculumref07_Beginnings_l0_0_e0 a0 r) | .inr r => VLoop none Go.Proofs.Try.prog (szF Go.Proofs.Try.f84) (bodyOf Go.Proofs.Try.f84 0) (nspeculumref07_Beginnings_l0_0_h a0 y0 x5) (.exit 0) (nspeculumref07_Beginnings_l0_0_e1 a0 r)) := by
 intro fuel
 induction fuel with
 | zero => intro y0 x5 r h; rw [nspeculumref07_Beginnings_l0_0.eq_1] at h; cases h
 | succ fuel ih =>
  intro y0 x5 r h
  rw [nspeculumref07_Beginnings_l0_0.eq_2] at h
  rcases ifs h with ⟨h1124, h⟩ | ⟨h1124, h⟩
  ·obtain ⟨h1125, h⟩ := ifn h
   have e1126 := (show loadL Go.Proofs.Try.prog 37 (0 + x5.toNat * 2) (List.flatMap c_SFrac y0) = some (VV.ag (c_SFrac (y0.getD x5.toNat default))) from ld_whole ag37 c_SFrac 2 sz37 len_c_SFrac y0 default h1125 (by omega))
   obtain ⟨h1127, h⟩ := ifn h
   have e1128 := (show loadL Go.Proofs.Try.prog 92 (x5.toNat * 2) (List.flatMap c_SGearPair a0) = some (VV.ag (c_SGearPair (a0.getD x5.toNat default))) from ld_whole ag92 c_SGearPair 2 sz92 len_c_SGearPair a0 default h1127 (by omega))
   obtain ⟨r1129, h1130, h⟩ := bs h
   have e1131 := (nspeculumref07_of_ok k (a0.getD x5.toNat default) _ h1130)
   obtain ⟨r1132, h1133, h⟩ := bs h
   have e1134 := (nspeculumref01_Mul_ok k (y0.getD x5.toNat default) r1129 _ h1133)
   have e1135 := (ti (ti (an h1125 (an e1126 (ti (ti (an h1127 (an e1128 (an e1131 (an e1134 (ti (ti (ti (ti (ti (ti trivial))))))))))))))))
   rcases ifs h with ⟨h1136, h⟩ | ⟨h1136, h⟩
   ·obtain ⟨h1137, h⟩ := ifn h
    have e1138 := (show List.length (List.flatMap c_SFrac y0) = y0.length * 2 ∧ List.length [vi r1132.1.Num, vi r1132.1.Den] = 1 * 2 ∧ (y0.length + 1) * 16 ≤ 140737488355328 ∧ y0.length + 1 < 1099511627776 ∧ List.all [vi r1132.1.Num, vi r1132.1.Den] VV.still = true from ⟨(by rw [flatMap_len len_c_SFrac] <;> simp), (by rw [show [vi r1132.1.Num, vi r1132.1.Den] = List.flatMap c_SFrac ([r1132.1] : List SFrac) from rfl]; rw [flatMap_len len_c_SFrac] <;> simp), (by first | omega | (simp at h1137 ⊢; omega)), (by first | omega | (simp at h1137 ⊢; omega)), (by rw [show [vi r1132.1.Num, vi r1132.1.Den] = List.flatMap c_SFrac ([r1132.1] : List SFrac) from rfl]; exact still_c_SFrac _)⟩)
    have h2 := ih _ _ _ h
    obtain ⟨q, hv, hq⟩ := pkR (rd := none) (P := Go.Proofs.Try.prog) (fn := Go.Proofs.Try.f84) (k := 0) (s := (nspeculumref07_Beginnings_l0_0_h a0 y0 x5)) (ans := [.reg (nN 4 []), .br true, .reg (arT1_9 y0 x5 a0 r1129 r1132), .reg (.n :: .n :: []), .br false, .reg (nN 5 []), .reg (nN 3 [])]) (c := ⟨[(0, none), (4, some (VV.rf 0 0 ((y0 ++ ([r1132.1] : List SFrac)).length))), (5, none)], [some (List.flatMap c_SFrac (y0 ++ ([r1132.1] : List SFrac)))], []⟩) (e := .normal) (s1 := (nspeculumref07_Beginnings_l0_0_h a0 (y0 ++ ([r1132.1] : List SFrac)) (w64 (x5 + 1)))) (an (an (an (ti (ti (ti (ti trivial)))) (an (decide_eq_true h1124) trivial)) (an (an e1135 (an (an (ti (ti trivial)) (an (not_f (decide_eq_true h1136)) trivial)) (ti (ti (ti (an e1138 (ti trivial))))))) (ti (ti (ti trivial))))) (an (an (show Wv (VV.rf 0 0 (y0.length + 1)) (VV.rf 0 0 ((y0 ++ ([r1132.1] : List SFrac)).length)) from (Wv.of_eq (by simp))) trivial) (an (show (List.flatMap c_SFrac y0) ++ [vi r1132.1.Num, vi r1132.1.Den] = List.flatMap c_SFrac (y0 ++ ([r1132.1] : List SFrac)) from (by rw [show [vi r1132.1.Num, vi r1132.1.Den] = List.flatMap c_SFrac ([r1132.1] : List SFrac) from rfl]; exact List.flatMap_append.symm)) trivial))) (by kernel_rfl)
    cases r with
    | inl r => exact round_next pm pn hv hq h2
    | inr r =>
     exact round_next pm pn hv hq h2
   ·injection h with h; subst h
    exact round_stop (c := ⟨[(2, none), (3, none)], [], []⟩) (s1 := (nspeculumref07_Beginnings_l0_0_e0 a0 ())) pm pn (ans := [.reg (nN 4 []), .br true, .reg (arT1_9 y0 x5 a0 r1129 r1132), .reg (.n :: .n :: []), .br true, .reg (.n :: .n :: [])]) (by kernel_rfl) (by intro e; cases e) (an (an (an (ti (ti (ti (ti trivial)))) (an (decide_eq_true h1124) trivial)) (an e1135 (an (ti (ti trivial)) (an (not_t (decide_eq_false h1136)) (an (ti (ti trivial)) trivial))))) (ti trivial))
  ·injection h with h; subst h
   exact round_stop (c := ⟨[(4, none)], [none], []⟩) (s1 := (nspeculumref07_Beginnings_l0_0_e1 a0 y0)) pm pn (ans := [.reg (nN 4 []), .br false]) (by kernel_rfl) (by intro e; cases e) (an (an (ti (ti (ti (ti trivial)))) (an (decide_eq_false h1124) trivial)) (ti trivial))
theorem eqT1_7 (z0 : (List SFrac)) : VV.tu [VV.fw 2 (List.drop 0 (List.map unfr (List.flatMap c_SFrac z0))) z0.length, vb true] = VV.tu [VV.fw 2 (List.flatMap c_SFrac z0) z0.length, vb true] := by first | rfl | (simp only [drop0, unfr_vb, List.map_cons, List.map_nil, un_b, List.length_map, List.length_cons, List.length_nil, unfr_c_SFrac]; done) | (simp only [drop0, unfr_vb, List.map_cons, List.map_nil, un_b, List.length_map, List.length_cons, List.length_nil, unfr_c_SFrac]; rfl) | (simp only [drop0, unfr_vb, List.map_cons, List.map_nil, un_b, List.length_map, List.length_cons, List.length_nil, unfr_c_SFrac, c_SFrac, List.length_cons, List.length_nil, List.length_append]; done)
def nspeculumref07_Beginnings (k : Nat) (a0 : (List SGearPair)) : Option ((List SFrac) × Bool) :=
  (nspeculumref07_Beginnings_l0_0 k a0 k ([(⟨1, 1⟩ : SFrac)] : List SFrac) 0).bind fun r1140 => (match r1140 with | .inl r1141 => (some ([], false)) | .inr r1142 => (some (r1142, true)))
theorem nspeculumref07_Beginnings_ok (k : Nat) (a0 : (List SGearPair)) (r : ((List SFrac) × Bool)) (h : nspeculumref07_Beginnings k a0 = some r) : VC Go.Proofs.Try.prog 84 [VV.tr (List.flatMap c_SGearPair a0) a0.length] (VV.tu [VV.fw 2 (List.flatMap c_SFrac r.1) r.1.length, vb r.2]) := by
 unfold nspeculumref07_Beginnings at h
 obtain ⟨r1140, h1139, h⟩ := bs h
 have hph1139 := nspeculumref07_Beginnings_l0_0_ok k a0 _ _ _ _ h1139
 cases r1140 with
 | inl r1141 =>
  dsimp only at h
  have e1143 := (an (an (an (show Wv (VV.rf 0 0 1) (VV.rf 0 0 (([(⟨1, 1⟩ : SFrac)] : List SFrac).length)) from (Wv.of_eq (by simp))) trivial) (an (show [vi 1, vi 1] = List.flatMap c_SFrac ([(⟨1, 1⟩ : SFrac)] : List SFrac) from rfl) trivial)) (VRun.loop hph1139))
  injection h with h; subst h
  exact fun_ok pm pn Go.Proofs.Try.func84 (r0 := VV.tu [VV.c (.slice none 0 0), vb false]) (ans := [.reg (.n :: .n :: []), .reg (nN 3 []), .reg (.n :: []), .sub ⟨[(0, none), (4, some (VV.rf 0 0 (([(⟨1, 1⟩ : SFrac)] : List SFrac).length))), (5, none)], [some (List.flatMap c_SFrac ([(⟨1, 1⟩ : SFrac)] : List SFrac))], []⟩ .ret (nspeculumref07_Beginnings_l0_0_e0 a0 r1141)]) (fr := true) (by kernel_rfl) (an (an (ti (ti trivial)) (an (ti (ti (ti trivial))) (an (ti trivial) e1143))) (ti (ti trivial))) (Wv.tuL (.cons Wv.nilFw (.cons (Wv.refl _) .nil)))
 | inr r1142 =>
  dsimp only at h
  have e1144 := (an (an (an (show Wv (VV.rf 0 0 1) (VV.rf 0 0 (([(⟨1, 1⟩ : SFrac)] : List SFrac).length)) from (Wv.of_eq (by simp))) trivial) (an (show [vi 1, vi 1] = List.flatMap c_SFrac ([(⟨1, 1⟩ : SFrac)] : List SFrac) from rfl) trivial)) (VRun.loop hph1139))
  injection h with h; subst h
  exact fun_ok pm pn Go.Proofs.Try.func84 (r0 := VV.tu [VV.fw 2 (List.drop 0 (List.map unfr (List.flatMap c_SFrac r1142))) r1142.length, vb true]) (ans := [.reg (.n :: .n :: []), .reg (nN 3 []), .reg (.n :: []), .sub ⟨[(0, none), (4, some (VV.rf 0 0 (([(⟨1, 1⟩ : SFrac)] : List SFrac).length))), (5, none)], [some (List.flatMap c_SFrac ([(⟨1, 1⟩ : SFrac)] : List SFrac))], []⟩ (.exit 0) (nspeculumref07_Beginnings_l0_0_e1 a0 r1142), .reg (nN 3 [])]) (fr := true) (by kernel_rfl) (an (an (ti (ti trivial)) (an (ti (ti (ti trivial))) (an (an (ti trivial) e1144) (an (ti (ti (ti trivial))) trivial)))) (an (show List.all (List.flatMap c_SFrac r1142) new0 = true from (by exact new0_c_SFrac _)) (ti trivial))) (Wv.of_eq (eqT1_7 r1142))
def arT1_10 (z0 : ((List SFrac) × Bool)) : List Ans := (.n :: .call (VV.tu [VV.fr (List.flatMap c_SFrac z0.1) z0.1.length, vb z0.2]) :: nN 5 [])
def arT1_11 (z0 : ((List SFrac) × Bool)) (z1 : (List SGearPair)) : List Ans := (nN 4 (.v (VV.ag (c_SFrac (z0.1.getD (z1.length : Int).toNat default))) :: .n :: .n :: []))
theorem eqT1_8  : VV.tu [VV.ag [vi 0, vi 0], vi 8] = VV.tu [VV.ag (c_SFrac (⟨0, 0⟩ : SFrac)), vi 8] := by first | rfl | (simp only [unfr_vi, List.map_cons, List.map_nil, un_i, unfr_c_SFrac]; done) | (simp only [unfr_vi, List.map_cons, List.map_nil, un_i, unfr_c_SFrac]; rfl) | (simp only [unfr_vi, List.map_cons, List.map_nil, un_i, unfr_c_SFrac, c_SFrac, List.length_cons, List.length_nil, List.length_append]; done)
def nspeculumref07_Ratio (k : Nat) (a0 : (List SGearPair)) : Option (SFrac × Int) :=
  (nspeculumref07_Beginnings k a0).bind fun r1152 => (if r1152.2 = true then (if 0 ≤ (a0.length : Int) ∧ (a0.length : Int) < (r1152.1.length : Int) then (some ((r1152.1.getD (a0.length : Int).toNat default), 0)) else none) else (some ((⟨0, 0⟩ : SFrac), 8)))
theorem nspeculumref07_Ratio_ok (k : Nat) (a0 : (List SGearPair)) (r : (SFrac × Int)) (h : nspeculumref07_Ratio k a0 = some r) : VC Go.Proofs.Try.prog 47 [VV.tr (List.flatMap c_SGearPair a0) a0.length] (VV.tu [VV.ag (c_SFrac r.1), vi r.2]) := by
 unfold nspeculumref07_Ratio at h
 obtain ⟨r1152, h1153, h⟩ := bs h
 have e1154 := (show VC Go.Proofs.Try.prog 84 [VV.tr (List.flatMap c_SGearPair a0) a0.length] (VV.tu [VV.fr (List.flatMap c_SFrac r1152.1) r1152.1.length, vb r1152.2]) from (VC.weak (nspeculumref07_Beginnings_ok k a0 _ h1153) (Wv.tuL (.cons (Wv.fw rfl rfl) (.cons (Wv.refl _) .nil)))))
 rcases ifs h with ⟨h1155, h⟩ | ⟨h1155, h⟩
 ·obtain ⟨h1156, h⟩ := ifn h
  have e1157 := (show loadL Go.Proofs.Try.prog 37 ((a0.length : Int).toNat * 2) (List.flatMap c_SFrac r1152.1) = some (VV.ag (c_SFrac (r1152.1.getD (a0.length : Int).toNat default))) from ld_whole ag37 c_SFrac 2 sz37 len_c_SFrac r1152.1 default h1156 (by omega))
  have e1158 := (ti (ti (ti (an h1156 (an e1157 (ti (ti trivial)))))))
  injection h with h; subst h
  exact fun_ok pm pn Go.Proofs.Try.func47 (r0 := VV.tu [VV.ag (c_SFrac (r1152.1.getD (a0.length : Int).toNat default)), vi 0]) (ans := [.reg (.n :: .n :: []), .reg (arT1_10 r1152), .reg (.n :: .n :: []), .br false, .reg (arT1_11 r1152 a0)]) (fr := true) (by kernel_rfl) (an (an (ti (ti trivial)) (an (ti (an e1154 (ti (ti (ti (ti (ti trivial))))))) (an (an (ti (ti trivial)) (an (not_f h1155) trivial)) (an e1158 trivial)))) (an (ti (ti (ti trivial))) (ti trivial))) (Wv.refl _)
 ·injection h with h; subst h
  exact fun_ok pm pn Go.Proofs.Try.func47 (r0 := VV.tu [VV.ag [vi 0, vi 0], vi 8]) (ans := [.reg (.n :: .n :: []), .reg (arT1_10 r1152), .reg (.n :: .n :: []), .br true, .reg (nN 3 [])]) (fr := true) (by kernel_rfl) (an (an (ti (ti trivial)) (an (ti (an e1154 (ti (ti (ti (ti (ti trivial))))))) (an (ti (ti trivial)) (an (not_t (bool_f h1155)) (an (ti (ti (ti trivial))) trivial))))) (an (ti (ti (ti trivial))) (ti trivial))) (Wv.of_eq eqT1_8)
def arT1_12 (z0 : ((List SFrac) × Bool)) (z1 : Int) (z2 : Int) : List Ans := (nN 6 (.v (vi ((z0.1.getD z1.toNat default).Den)) :: .call (vi z2) :: nN 5 (.v (vi ((z0.1.getD z1.toNat default).Den)) :: .n :: .n :: [])))
def nspeculumref07_Returns_l0_0_h (r1202 : ((List SFrac) × Bool)) (x6 : Int) (x7 : Int) : VS := ⟨mkA [(4, VV.fr (List.flatMap c_SFrac r1202.1) r1202.1.length), (6, vi x6), (7, vi x7)], [], .nil⟩
def nspeculumref07_Returns_l0_0_e0 (r1202 : ((List SFrac) × Bool)) (r : Unit) : VS := ⟨mkA [(2, vi 0), (3, vi 8)], [], .nil⟩
def nspeculumref07_Returns_l0_0_e1 (r1202 : ((List SFrac) × Bool)) (r : Int) : VS := ⟨mkA [(6, vi r)], [], .nil⟩
def nspeculumref07_Returns_l0_0 (k : Nat) (r1202 : ((List SFrac) × Bool)) : Nat → Int → Int → Option (Sum Unit Int)
  | 0, _, _ => none
  | fuel + 1, x6, x7 => if x7 < (r1202.1.length : Int) then (if 0 ≤ x7 ∧ x7 < (r1202.1.length : Int) then ((nspeculumbase_Gcd k x6 ((r1202.1.getD x7.toNat default).Den)).bind fun r1229 => (if r1229 ≠ 0 then (if 1000000000 < (w64 ((w64 (x6.tdiv r1229)) * ((r1202.1.getD x7.toNat default).Den))) then (some (.inl ())) else (nspeculumref07_Returns_l0_0 k r1202 fuel (w64 ((w64 (x6.tdiv r1229)) * ((r1202.1.getD x7.toNat default).Den))) (w64 (x7 + 1)))) else none)) else none) else (some (.inr x6))
theorem nspeculumref07_Returns_l0_0_ok (k : Nat) (r1202 : ((List SFrac) × Bool)) : ∀ (fuel : Nat) (x6 : Int) (x7 : Int) (r : Sum Unit Int), nspeculumref07_Returns_l0_0 k r1202 fuel x6 x7 = some r → (match r with | .inl r => VLoop none Go.Proofs.Try.prog (szF Go.Proofs.Try.f48) (bodyOf Go.Proofs.Try.f48 0) (nspeculumref07_Returns_l0_0_h r1202 x6 x7) .ret (nspeculumref07_Returns_l0_0_e0 r1202 r) | .inr r => VLoop none Go.Proofs.Try.prog (szF Go.Proofs.Try.f48) (bodyOf Go.Proofs.Try.f48 0) (nspeculumref07_Returns_l0_0_h r1202 x6 x7) (.exit 0) (nspeculumref07_Returns_l0_0_e1 r1202 r)) := by
 intro fuel
 induction fuel with
 | zero => intro x6 x7 r h; rw [nspeculumref07_Returns_l0_0.eq_1] at h; cases h
 | succ fuel ih =>
  intro x6 x7 r h
  rw [nspeculumref07_Returns_l0_0.eq_2] at h
  rcases ifs h with ⟨h1226, h⟩ | ⟨h1226, h⟩
  ·obtain ⟨h1227, h⟩ := ifn h
   have e1228 := (show loadL Go.Proofs.Try.prog 3 (x7.toNat * 2 + 1) (List.flatMap c_SFrac r1202.1) = some (vi ((r1202.1.getD x7.toNat default).Den)) from (ld_flat ag3 c_SFrac 2 1 len_c_SFrac (by omega) r1202.1 default h1227 (by omega)).trans rfl)
   obtain ⟨r1229, h1230, h⟩ := bs h
   have e1231 := (nspeculumbase_Gcd_ok k x6 ((r1202.1.getD x7.toNat default).Den) _ h1230)
   obtain ⟨h1232, h⟩ := ifn h
   have e1233 := (show loadL Go.Proofs.Try.prog 3 (x7.toNat * 2 + 1) (List.flatMap c_SFrac r1202.1) = some (vi ((r1202.1.getD x7.toNat default).Den)) from (ld_flat ag3 c_SFrac 2 1 len_c_SFrac (by omega) r1202.1 default h1227 (by omega)).trans rfl)
   have e1234 := (ti (ti (ti (ti (an h1227 (ti (an e1228 (an e1231 (an h1232 (ti (ti (an h1227 (ti (an e1233 (ti (ti trivial))))))))))))))))
   rcases ifs h with ⟨h1235, h⟩ | ⟨h1235, h⟩
   ·injection h with h; subst h
    exact round_stop (c := ⟨[(2, none), (3, none)], [], []⟩) (s1 := (nspeculumref07_Returns_l0_0_e0 r1202 ())) pm pn (ans := [.reg (nN 4 []), .br true, .reg (arT1_12 r1202 x7 r1229), .reg (.n :: .n :: []), .br true, .reg (.n :: .n :: [])]) (by kernel_rfl) (by intro e; cases e) (an (an (an (ti (ti (ti (ti trivial)))) (an (decide_eq_true h1226) trivial)) (an e1234 (an (ti (ti trivial)) (an (decide_eq_true h1235) (an (ti (ti trivial)) trivial))))) (ti trivial))
   ·have h2 := ih _ _ _ h
    obtain ⟨q, hv, hq⟩ := pkR (rd := none) (P := Go.Proofs.Try.prog) (fn := Go.Proofs.Try.f48) (k := 0) (s := (nspeculumref07_Returns_l0_0_h r1202 x6 x7)) (ans := [.reg (nN 4 []), .br true, .reg (arT1_12 r1202 x7 r1229), .reg (.n :: .n :: []), .br false, .reg (nN 3 [])]) (c := ⟨[(4, none), (6, none), (7, none)], [], []⟩) (e := .normal) (s1 := (nspeculumref07_Returns_l0_0_h r1202 (w64 ((w64 (x6.tdiv r1229)) * ((r1202.1.getD x7.toNat default).Den))) (w64 (x7 + 1)))) (an (an (an (ti (ti (ti (ti trivial)))) (an (decide_eq_true h1226) trivial)) (an (an e1234 (an (ti (ti trivial)) (an (decide_eq_false h1235) trivial))) (ti (ti (ti trivial))))) (ti trivial)) (by kernel_rfl)
    cases r with
    | inl r => exact round_next pm pn hv hq h2
    | inr r =>
     exact round_next pm pn hv hq h2
  ·injection h with h; subst h
   exact round_stop (c := ⟨[(6, none)], [], []⟩) (s1 := (nspeculumref07_Returns_l0_0_e1 r1202 x6)) pm pn (ans := [.reg (nN 4 []), .br false]) (by kernel_rfl) (by intro e; cases e) (an (an (ti (ti (ti (ti trivial)))) (an (decide_eq_false h1226) trivial)) (ti trivial))
def nspeculumref07_Returns (k : Nat) (a0 : (List SGearPair)) : Option (Int × Int) :=
  (nspeculumref07_Beginnings k a0).bind fun r1202 => (if r1202.2 = true then ((nspeculumref07_Returns_l0_0 k r1202 k 1 0).bind fun r1237 => (match r1237 with | .inl r1238 => (some (0, 8)) | .inr r1239 => (some (r1239, 0)))) else (some (0, 8)))
theorem nspeculumref07_Returns_ok (k : Nat) (a0 : (List SGearPair)) (r : (Int × Int)) (h : nspeculumref07_Returns k a0 = some r) : VC Go.Proofs.Try.prog 48 [VV.tr (List.flatMap c_SGearPair a0) a0.length] (VV.tu [vi r.1, vi r.2]) := by
 unfold nspeculumref07_Returns at h
 obtain ⟨r1202, h1203, h⟩ := bs h
 have e1204 := (show VC Go.Proofs.Try.prog 84 [VV.tr (List.flatMap c_SGearPair a0) a0.length] (VV.tu [VV.fr (List.flatMap c_SFrac r1202.1) r1202.1.length, vb r1202.2]) from (VC.weak (nspeculumref07_Beginnings_ok k a0 _ h1203) (Wv.tuL (.cons (Wv.fw rfl rfl) (.cons (Wv.refl _) .nil)))))
 rcases ifs h with ⟨h1205, h⟩ | ⟨h1205, h⟩
 ·obtain ⟨r1237, h1236, h⟩ := bs h
  have hph1236 := nspeculumref07_Returns_l0_0_ok k r1202 _ _ _ _ h1236
  cases r1237 with
  | inl r1238 =>
   dsimp only at h
   have e1240 := (an (ti trivial) (VRun.loop hph1236))
   injection h with h; subst h
   exact fun_ok pm pn Go.Proofs.Try.func48 (r0 := VV.tu [vi 0, vi 8]) (ans := [.reg (.n :: .n :: []), .reg (arT1_10 r1202), .reg (.n :: .n :: []), .br false, .reg (.n :: []), .reg (.n :: []), .sub ⟨[(4, none), (6, none), (7, none)], [], []⟩ .ret (nspeculumref07_Returns_l0_0_e0 r1202 r1238)]) (fr := true) (by kernel_rfl) (an (an (ti (ti trivial)) (an (ti (an e1204 (ti (ti (ti (ti (ti trivial))))))) (an (an (ti (ti trivial)) (an (not_f h1205) trivial)) (an (ti trivial) (an (ti trivial) e1240))))) (ti (ti trivial))) (Wv.refl _)
  | inr r1239 =>
   dsimp only at h
   have e1241 := (an (ti trivial) (VRun.loop hph1236))
   injection h with h; subst h
   exact fun_ok pm pn Go.Proofs.Try.func48 (r0 := VV.tu [vi r1239, vi 0]) (ans := [.reg (.n :: .n :: []), .reg (arT1_10 r1202), .reg (.n :: .n :: []), .br false, .reg (.n :: []), .reg (.n :: []), .sub ⟨[(4, none), (6, none), (7, none)], [], []⟩ (.exit 0) (nspeculumref07_Returns_l0_0_e1 r1202 r1239), .reg (nN 3 [])]) (fr := true) (by kernel_rfl) (an (an (ti (ti trivial)) (an (ti (an e1204 (ti (ti (ti (ti (ti trivial))))))) (an (an (ti (ti trivial)) (an (not_f h1205) trivial)) (an (ti trivial) (an (an (ti trivial) e1241) (an (ti (ti (ti trivial))) trivial)))))) (ti (ti trivial))) (Wv.refl _)
 ·injection h with h; subst h
  exact fun_ok pm pn Go.Proofs.Try.func48 (r0 := VV.tu [vi 0, vi 8]) (ans := [.reg (.n :: .n :: []), .reg (arT1_10 r1202), .reg (.n :: .n :: []), .br true, .reg (.n :: .n :: [])]) (fr := true) (by kernel_rfl) (an (an (ti (ti trivial)) (an (ti (an e1204 (ti (ti (ti (ti (ti trivial))))))) (an (ti (ti trivial)) (an (not_t (bool_f h1205)) (an (ti (ti trivial)) trivial))))) (ti (ti trivial))) (Wv.refl _)
def nspeculumlaw07_SupportTrains_l0_0_h (a0 : (List SGearPair)) (r1286 : (SFrac × Int)) (r1291 : (Int × Int)) (r1294 : Int) (x8 : Int) : VS := ⟨mkA [(0, VV.tr (List.flatMap c_SGearPair a0) a0.length), (3, VV.pt 0 0), (4, vi r1286.2), (5, vi r1291.1), (6, vi r1291.2), (7, vi r1294), (8, vi x8)], [some ⟨true, 1, c_SFrac r1286.1⟩], .nil⟩
def nspeculumlaw07_SupportTrains_l0_0_e0 (a0 : (List SGearPair)) (r1286 : (SFrac × Int)) (r1291 : (Int × Int)) (r1294 : Int) (r : Unit) : VS := ⟨mkA [(2, vb false)], [], .nil⟩
def nspeculumlaw07_SupportTrains_l0_0_e1 (a0 : (List SGearPair)) (r1286 : (SFrac × Int)) (r1291 : (Int × Int)) (r1294 : Int) (r : Unit) : VS := ⟨mkA [(0, VV.tr (List.flatMap c_SGearPair a0) a0.length), (3, VV.pt 0 0), (4, vi r1286.2), (5, vi r1291.1), (6, vi r1291.2), (7, vi r1294)], [some ⟨true, 1, c_SFrac r1286.1⟩], .nil⟩
def nspeculumlaw07_SupportTrains_l0_0 (k : Nat) (a0 : (List SGearPair)) (r1286 : (SFrac × Int)) (r1291 : (Int × Int)) (r1294 : Int) : Nat → Int → Option (Sum Unit Unit)
  | 0, _ => none
  | fuel + 1, x8 => if x8 < (a0.length : Int) then (if x8 < 3 then (if 0 ≤ x8 ∧ x8 < (a0.length : Int) then ((nsupport_MeetAgain k (a0.getD x8.toNat default)).bind fun r1385 => (if 0 ≤ x8 ∧ x8 ≤ w64 (x8 + 1) ∧ w64 (x8 + 1) ≤ (a0.length : Int) then ((nspeculumref07_CheckTrain k (sl a0 ((x8).toNat) ((w64 (x8 + 1)).toNat))).bind fun r1391 => (if r1385.2 = r1391 then (if r1391 = 0 then ((nspeculumref07_MeetAgain k (a0.getD x8.toNat default)).bind fun r1402 => (if r1385.1 = r1402 then (nspeculumlaw07_SupportTrains_l0_0 k a0 r1286 r1291 r1294 fuel (w64 (x8 + 1))) else (some (.inl ())))) else (if r1385.1 = 0 then (nspeculumlaw07_SupportTrains_l0_0 k a0 r1286 r1291 r1294 fuel (w64 (x8 + 1))) else (some (.inl ())))) else (some (.inl ())))) else none)) else none) else (some (.inr ()))) else (some (.inr ()))
theorem nspeculumlaw07_SupportTrains_l0_0_ok (k : Nat) (a0 : (List SGearPair)) (r1286 : (SFrac × Int)) (r1291 : (Int × Int)) (r1294 : Int) : ∀ (fuel : Nat) (x8 : Int) (r : Sum Unit Unit), nspeculumlaw07_SupportTrains_l0_0 k a0 r1286 r1291 r1294 fuel x8 = some r → (match r with | .inl r => VLoop none Go.Proofs.Try.prog (szF Go.Proofs.Try.f8) (bodyOf Go.Proofs.Try.f8 0) (nspeculumlaw07_SupportTrains_l0_0_h a0 r1286 r1291 r1294 x8) .ret (nspeculumlaw07_SupportTrains_l0_0_e0 a0 r1286 r1291 r1294 r) | .inr r => VLoop none Go.Proofs.Try.prog (szF Go.Proofs.Try.f8) (bodyOf Go.Proofs.Try.f8 0) (nspeculumlaw07_SupportTrains_l0_0_h a0 r1286 r1291 r1294 x8) (.exit 0) (nspeculumlaw07_SupportTrains_l0_0_e1 a0 r1286 r1291 r1294 r)) := by
 intro fuel
 induction fuel with
 | zero => intro x8 r h; rw [nspeculumlaw07_SupportTrains_l0_0.eq_1] at h; cases h
 | succ fuel ih =>
  intro x8 r h
  rw [nspeculumlaw07_SupportTrains_l0_0.eq_2] at h
  rcases ifs h with ⟨h1380, h⟩ | ⟨h1380, h⟩
  ·have e1381 := (ti (ti (ti (ti (ti (an (an (decide_eq_true h1380) trivial) (an (an (decide_eq_true h1380) trivial) (an (decide_eq_true h1380) trivial))))))))
   rcases ifs h with ⟨h1382, h⟩ | ⟨h1382, h⟩
   ·obtain ⟨h1383, h⟩ := ifn h
    have e1384 := (show loadL Go.Proofs.Try.prog 92 (x8.toNat * 2) (List.flatMap c_SGearPair a0) = some (VV.ag (c_SGearPair (a0.getD x8.toNat default))) from ld_whole ag92 c_SGearPair 2 sz92 len_c_SGearPair a0 default h1383 (by omega))
    obtain ⟨r1385, h1386, h⟩ := bs h
    have e1387 := (nsupport_MeetAgain_ok k (a0.getD x8.toNat default) _ h1386)
    have e1388 := (ti (ti (an h1383 (an e1384 (an e1387 (ti (ti (ti (ti (ti trivial))))))))))
    obtain ⟨h1389, h⟩ := ifn h
    have e1390 := (show (0 ≤ x8 ∧ 0 ≤ w64 (x8 + 1) ∧ (x8).toNat ≤ (w64 (x8 + 1)).toNat ∧ (w64 (x8 + 1)).toNat ≤ a0.length ∧ (w64 (x8 + 1)).toNat * 2 ≤ List.length (List.flatMap c_SGearPair a0)) ∧ VV.tr (List.take (((w64 (x8 + 1)).toNat - (x8).toNat) * 2) (List.drop ((x8).toNat * 2) (List.flatMap c_SGearPair a0))) ((w64 (x8 + 1)).toNat - (x8).toNat) = VV.tr (List.flatMap c_SGearPair (sl a0 ((x8).toNat) ((w64 (x8 + 1)).toNat))) ((sl a0 ((x8).toNat) ((w64 (x8 + 1)).toNat)).length) from ⟨⟨h1389.1, (by have := h1389; omega), (by have := h1389; omega), (by have := h1389; omega), (by rw [flatMap_len len_c_SGearPair]; have := h1389; omega)⟩, (by exact sl_flat len_c_SGearPair a0 ((x8).toNat) ((w64 (x8 + 1)).toNat) (by have := h1389; omega) (by have := h1389; omega))⟩)
    obtain ⟨r1391, h1392, h⟩ := bs h
    have e1393 := (nspeculumref07_CheckTrain_ok k (sl a0 ((x8).toNat) ((w64 (x8 + 1)).toNat)) _ h1392)
    have e1394 := (ti (ti (ti (ti (an e1390 (an e1393 (ti trivial)))))))
    rcases ifs h with ⟨h1395, h⟩ | ⟨h1395, h⟩
    ·have e1396 := (an (not_f (decide_eq_true h1395)) trivial)
     have e1397 := (an (not_f (decide_eq_true h1395)) trivial)
     have e1398 := (an (not_f (decide_eq_true h1395)) trivial)
     rcases ifs h with ⟨h1399, h⟩ | ⟨h1399, h⟩
     ·have e1400 := (an (not_f (decide_eq_true h1395)) (not_f (decide_eq_true h1399)))
      have e1401 := (an (decide_eq_true h1399) (show loadL Go.Proofs.Try.prog 92 (x8.toNat * 2) (List.flatMap c_SGearPair a0) = some (VV.ag (c_SGearPair (a0.getD x8.toNat default))) from ld_whole ag92 c_SGearPair 2 sz92 len_c_SGearPair a0 default h1383 (by omega)))
      obtain ⟨r1402, h1403, h⟩ := bs h
      have e1404 := (an (decide_eq_true h1399) (nspeculumref07_MeetAgain_ok k (a0.getD x8.toNat default) _ h1403))
      have e1405 := (ti (ti (ti (ti (an e1396 (an e1397 (an e1398 (an (not_f (decide_eq_true h1399)) (an (not_f (decide_eq_true h1399)) (an e1400 (an (not_f (decide_eq_true h1395)) (ti (an (an rf trivial) (an (an rf trivial) (an (an rf trivial) (an (an (decide_eq_true h1399) trivial) (an (an (decide_eq_true h1399) trivial) (an (an (decide_eq_true h1399) trivial) (an (an (decide_eq_true h1399) h1383) (an e1401 (an e1404 (an (an (decide_eq_true h1399) trivial) (an (an rf (decide_eq_true h1399)) (an rf trivial))))))))))))))))))))))))
      rcases ifs h with ⟨h1406, h⟩ | ⟨h1406, h⟩
      ·have h2 := ih _ _ h
       obtain ⟨q, hv, hq⟩ := pkR (rd := none) (P := Go.Proofs.Try.prog) (fn := Go.Proofs.Try.f8) (k := 0) (s := (nspeculumlaw07_SupportTrains_l0_0_h a0 r1286 r1291 r1294 x8)) (ans := [.reg (nN 7 (.b true :: [])), .br true, .reg (arT1_6 a0 x8 r1385), .reg (arT1_7 a0 x8 r1391), .reg (arT1_8 a0 x8 r1402), .br false, .reg (nN 3 [])]) (c := ⟨[(0, none), (3, none), (4, none), (5, none), (6, none), (7, none), (8, none)], [none], []⟩) (e := .normal) (s1 := (nspeculumlaw07_SupportTrains_l0_0_h a0 r1286 r1291 r1294 (w64 (x8 + 1)))) (an (an (an e1381 (an (decide_eq_true h1382) trivial)) (an (an e1388 (an e1394 (an e1405 (an (not_f (decide_eq_true h1406)) trivial)))) (ti (ti (ti trivial))))) (ti trivial)) (by kernel_rfl)
       cases r with
       | inl r => exact round_next pm pn hv hq h2
       | inr r =>
        exact round_next pm pn hv hq h2
      ·injection h with h; subst h
       exact round_stop (c := ⟨[(2, none)], [], []⟩) (s1 := (nspeculumlaw07_SupportTrains_l0_0_e0 a0 r1286 r1291 r1294 ())) pm pn (ans := [.reg (nN 7 (.b true :: [])), .br true, .reg (arT1_6 a0 x8 r1385), .reg (arT1_7 a0 x8 r1391), .reg (arT1_8 a0 x8 r1402), .br true, .reg (.n :: [])]) (by kernel_rfl) (by intro e; cases e) (an (an (an e1381 (an (decide_eq_true h1382) trivial)) (an e1388 (an e1394 (an e1405 (an (not_t (decide_eq_false h1406)) (an (ti trivial) trivial)))))) (ti trivial))
     ·have e1407 := (an (not_t (decide_eq_false h1399)) trivial)
      have e1408 := (an (not_t (decide_eq_false h1399)) trivial)
      have e1409 := (an (not_f (decide_eq_true h1395)) (not_t (decide_eq_false h1399)))
      rcases ifs h with ⟨h1410, h⟩ | ⟨h1410, h⟩
      ·have e1411 := (an (not_f (decide_eq_true h1410)) trivial)
       have e1412 := (an (not_f (decide_eq_true h1410)) trivial)
       have e1413 := (an (not_f (decide_eq_true h1410)) trivial)
       have e1414 := (an (not_f (decide_eq_true h1410)) (decide_eq_false h1399))
       have e1415 := (ti (ti (ti (ti (an e1396 (an e1397 (an e1398 (an e1407 (an e1408 (an e1409 (an (not_f (decide_eq_true h1395)) (ti (an e1411 (an e1412 (an e1413 (an (decide_eq_false h1399) (an (decide_eq_false h1399) (an (decide_eq_false h1399) (an (decide_eq_false h1399) (an (decide_eq_false h1399) (an (decide_eq_false h1399) (an (decide_eq_false h1399) (an e1414 (an (not_f (decide_eq_true h1410)) trivial))))))))))))))))))))))))
       have h2 := ih _ _ h
       obtain ⟨q, hv, hq⟩ := pkR (rd := none) (P := Go.Proofs.Try.prog) (fn := Go.Proofs.Try.f8) (k := 0) (s := (nspeculumlaw07_SupportTrains_l0_0_h a0 r1286 r1291 r1294 x8)) (ans := [.reg (nN 7 (.b true :: [])), .br true, .reg (arT1_6 a0 x8 r1385), .reg (arT1_7 a0 x8 r1391), .reg (nN 9 (.b true :: .b false :: nN 4 (nS 7 (.b false :: .b false :: [])))), .br false, .reg (nN 3 [])]) (c := ⟨[(0, none), (3, none), (4, none), (5, none), (6, none), (7, none), (8, none)], [none], []⟩) (e := .normal) (s1 := (nspeculumlaw07_SupportTrains_l0_0_h a0 r1286 r1291 r1294 (w64 (x8 + 1)))) (an (an (an e1381 (an (decide_eq_true h1382) trivial)) (an (an e1388 (an e1394 (an e1415 (an rf trivial)))) (ti (ti (ti trivial))))) (ti trivial)) (by kernel_rfl)
       cases r with
       | inl r => exact round_next pm pn hv hq h2
       | inr r =>
        exact round_next pm pn hv hq h2
      ·have e1416 := (ti (ti (ti (ti (an e1396 (an e1397 (an e1398 (an e1407 (an e1408 (an e1409 (an (not_f (decide_eq_true h1395)) (ti (an (not_t (decide_eq_false h1410)) (an (not_t (decide_eq_false h1410)) (an (not_t (decide_eq_false h1410)) (ti (ti (ti (ti (ti (ti (ti (an (not_t (decide_eq_false h1410)) (an (not_t (decide_eq_false h1410)) trivial))))))))))))))))))))))))
       injection h with h; subst h
       exact round_stop (c := ⟨[(2, none)], [], []⟩) (s1 := (nspeculumlaw07_SupportTrains_l0_0_e0 a0 r1286 r1291 r1294 ())) pm pn (ans := [.reg (nN 7 (.b true :: [])), .br true, .reg (arT1_6 a0 x8 r1385), .reg (arT1_7 a0 x8 r1391), .reg (nN 9 (.b true :: .b false :: .n :: nS 11 (.b true :: []))), .br true, .reg (.n :: [])]) (by kernel_rfl) (by intro e; cases e) (an (an (an e1381 (an (decide_eq_true h1382) trivial)) (an e1388 (an e1394 (an e1416 (an rt (an (ti trivial) trivial)))))) (ti trivial))
    ·have e1417 := (ti (ti (ti (ti (an (not_t (decide_eq_false h1395)) (an (not_t (decide_eq_false h1395)) (an (not_t (decide_eq_false h1395)) (ti (ti (an (not_t (decide_eq_false h1395)) (an (not_t (decide_eq_false h1395)) (ti (an rt (an rt (an rt (ti (ti (ti (ti (ti (ti (ti (an rt (an rt trivial))))))))))))))))))))))))
     injection h with h; subst h
     exact round_stop (c := ⟨[(2, none)], [], []⟩) (s1 := (nspeculumlaw07_SupportTrains_l0_0_e0 a0 r1286 r1291 r1294 ())) pm pn (ans := [.reg (nN 7 (.b true :: [])), .br true, .reg (arT1_6 a0 x8 r1385), .reg (arT1_7 a0 x8 r1391), .reg (nN 4 (nS 6 (.b true :: .n :: nS 11 (.b true :: [])))), .br true, .reg (.n :: [])]) (by kernel_rfl) (by intro e; cases e) (an (an (an e1381 (an (decide_eq_true h1382) trivial)) (an e1388 (an e1394 (an e1417 (an rt (an (ti trivial) trivial)))))) (ti trivial))
   ·injection h with h; subst h
    exact round_stop (c := ⟨[(0, none), (3, none), (4, none), (5, none), (6, none), (7, none)], [none], []⟩) (s1 := (nspeculumlaw07_SupportTrains_l0_0_e1 a0 r1286 r1291 r1294 ())) pm pn (ans := [.reg (nN 7 (.b true :: [])), .br false]) (by kernel_rfl) (by intro e; cases e) (an (an e1381 (an (decide_eq_false h1382) trivial)) (ti trivial))
  ·have e1418 := (ti (ti (ti (ti (ti (an (decide_eq_false h1380) (an (decide_eq_false h1380) (an (decide_eq_false h1380) trivial))))))))
   injection h with h; subst h
   exact round_stop (c := ⟨[(0, none), (3, none), (4, none), (5, none), (6, none), (7, none)], [none], []⟩) (s1 := (nspeculumlaw07_SupportTrains_l0_0_e1 a0 r1286 r1291 r1294 ())) pm pn (ans := [.reg (nN 5 (.skip :: .skip :: .b false :: [])), .br false]) (by kernel_rfl) (by intro e; cases e) (an (an e1418 (an rf trivial)) (ti trivial))
def arT1_13 (z0 : (List SGearPair)) (z1 : (SFrac × Int)) : List Ans := (.n :: .call (VV.fr (List.flatMap c_SGearPair z0) z0.length) :: .call (VV.tu [VV.ag (c_SFrac z1.1), vi z1.2]) :: nN 6 [])
def arT1_14 (z0 : (List SGearPair)) (z1 : (Int × Int)) : List Ans := (.n :: .call (VV.fr (List.flatMap c_SGearPair z0) z0.length) :: .call (VV.tu [vi z1.1, vi z1.2]) :: nN 5 [])
def arT1_15 (z0 : (List SGearPair)) (z1 : Int) : List Ans := (.n :: .call (VV.fr (List.flatMap c_SGearPair z0) z0.length) :: .call (vi z1) :: .n :: .n :: [])
def arT1_16  : List Ans := (nN 4 (nS 3 (.b false :: .n :: nS 3 (.b false :: .n :: .skip :: .skip :: .b false :: .n :: []))))
def nspeculumlaw07_SupportTrains (k : Nat) (a0 : (List SGearPair)) : Option Bool :=
  (nawake k).bind fun r1276 => (if r1276 = true then ((nspeculumlaw07_short k a0).bind fun r1279 => (if r1279 = true then ((nspeculumlaw07_train k a0).bind fun r1283 => ((nsupport_Ratio k r1283).bind fun r1286 => ((nsupport_Returns k r1283).bind fun r1291 => ((nspeculumref07_CheckTrain k a0).bind fun r1294 => ((nsupport_CheckTrain k r1283).bind fun r1299 => (if r1299 = r1294 then ((nspeculumlaw07_SupportTrains_l0_0 k a0 r1286 r1291 r1294 k 0).bind fun r1420 => (match r1420 with | .inl r1421 => (some false) | .inr r1422 => (if r1294 = 0 then ((nspeculumref07_Ratio k a0).bind fun r1426 => ((nspeculumref07_Returns k a0).bind fun r1429 => (if r1286.2 = r1426.2 then (if ((r1286.1.Num : Int) == r1426.1.Num && ((r1286.1.Den : Int) == r1426.1.Den && true)) = true then (if r1291.2 = r1429.2 then (if r1291.1 = r1429.1 then (if r1429.2 = 0 then (if r1286.1.Den ≠ 0 then (some (decide ((r1291.1.tmod r1286.1.Den) = 0))) else none) else (some true)) else (some false)) else (some false)) else (some false)) else (some false)))) else (if r1286.2 = r1294 then (if r1291.2 = r1294 then (if ((r1286.1.Num : Int) == 0 && ((r1286.1.Den : Int) == 0 && true)) = true then (some (decide (r1291.1 = 0))) else (some false)) else (some false)) else (some false))))) else (some false))))))) else (some true))) else (some false))
theorem nspeculumlaw07_SupportTrains_ok (k : Nat) (a0 : (List SGearPair)) (r : Bool) (h : nspeculumlaw07_SupportTrains k a0 = some r) : VC Go.Proofs.Try.prog 8 [VV.tr (List.flatMap c_SGearPair a0) a0.length] (vb r) := by
 unfold nspeculumlaw07_SupportTrains at h
 obtain ⟨r1276, h1277, h⟩ := bs h
 rcases ifs h with ⟨h1278, h⟩ | ⟨h1278, h⟩
 ·obtain ⟨r1279, h1280, h⟩ := bs h
  have e1281 := (ti (an (nspeculumlaw07_short_ok k a0 _ h1280) (ti trivial)))
  rcases ifs h with ⟨h1282, h⟩ | ⟨h1282, h⟩
  ·obtain ⟨r1283, h1284, h⟩ := bs h
   have e1285 := (show VC Go.Proofs.Try.prog 41 [VV.tr (List.flatMap c_SGearPair a0) a0.length] (VV.fr (List.flatMap c_SGearPair r1283) r1283.length) from (VC.weak (nspeculumlaw07_train_ok k a0 _ h1284) (Wv.fw rfl rfl)))
   obtain ⟨r1286, h1287, h⟩ := bs h
   have e1288 := (ti (an e1285 (an (nsupport_Ratio_ok k r1283 _ h1287) (ti (ti (ti (ti (ti (ti trivial)))))))))
   have e1290 := (show VC Go.Proofs.Try.prog 41 [VV.tr (List.flatMap c_SGearPair a0) a0.length] (VV.fr (List.flatMap c_SGearPair r1283) r1283.length) from (VC.weak (nspeculumlaw07_train_ok k a0 _ h1284) (Wv.fw rfl rfl)))
   obtain ⟨r1291, h1292, h⟩ := bs h
   have e1293 := (ti (an e1290 (an (nsupport_Returns_ok k r1283 _ h1292) (ti (ti (ti (ti (ti trivial))))))))
   obtain ⟨r1294, h1295, h⟩ := bs h
   have e1296 := (nspeculumref07_CheckTrain_ok k a0 _ h1295)
   have e1298 := (show VC Go.Proofs.Try.prog 41 [VV.tr (List.flatMap c_SGearPair a0) a0.length] (VV.fr (List.flatMap c_SGearPair r1283) r1283.length) from (VC.weak (nspeculumlaw07_train_ok k a0 _ h1284) (Wv.fw rfl rfl)))
   obtain ⟨r1299, h1300, h⟩ := bs h
   have e1301 := (nsupport_CheckTrain_ok k r1283 _ h1300)
   rcases ifs h with ⟨h1302, h⟩ | ⟨h1302, h⟩
   ·obtain ⟨r1420, h1419, h⟩ := bs h
    have hph1419 := nspeculumlaw07_SupportTrains_l0_0_ok k a0 r1286 r1291 r1294 _ _ _ h1419
    cases r1420 with
    | inl r1421 =>
     dsimp only at h
     have e1423 := (an (ti trivial) (VRun.loop hph1419))
     injection h with h; subst h
     exact fun_ok pm pn Go.Proofs.Try.func8 (r0 := vb false) (ans := [.reg (.n :: []), .reg (.call (vb r1276) :: .n :: []), .br false, .reg (.n :: .call (vb r1279) :: .n :: []), .br false, .reg (arT1_13 r1283 r1286), .reg (arT1_14 r1283 r1291), .reg (.n :: .call (vi r1294) :: .n :: []), .reg (arT1_15 r1283 r1299), .br false, .reg (.n :: []), .sub ⟨[(0, none), (3, none), (4, none), (5, none), (6, none), (7, none), (8, none)], [none], []⟩ .ret (nspeculumlaw07_SupportTrains_l0_0_e0 a0 r1286 r1291 r1294 r1421)]) (fr := true) (by kernel_rfl) (an (an (ti trivial) (an (an (an (nawake_ok k _ h1277) (ti trivial)) (an (not_f h1278) trivial)) (an (an e1281 (an (not_f h1282) trivial)) (an e1288 (an e1293 (an (ti (an e1296 (ti trivial))) (an (an (ti (an e1298 (an e1301 (ti (ti trivial))))) (an (not_f (decide_eq_true h1302)) trivial)) (an (ti trivial) e1423)))))))) (ti trivial)) (Wv.refl _)
    | inr r1422 =>
     dsimp only at h
     have e1424 := (an (ti trivial) (VRun.loop hph1419))
     rcases ifs h with ⟨h1425, h⟩ | ⟨h1425, h⟩
     ·obtain ⟨r1426, h1427, h⟩ := bs h
      have e1428 := (ti (an (nspeculumref07_Ratio_ok k a0 _ h1427) (ti (ti (ti (ti (ti (ti trivial))))))))
      obtain ⟨r1429, h1430, h⟩ := bs h
      have e1431 := (nspeculumref07_Returns_ok k a0 _ h1430)
      rcases ifs h with ⟨h1432, h⟩ | ⟨h1432, h⟩
      ·have e1433 := (an (not_f (decide_eq_true h1432)) trivial)
       have e1434 := (an (not_f (decide_eq_true h1432)) trivial)
       have e1435 := (an (not_f (decide_eq_true h1432)) (show List.map kdV [Value.int .i64 r1286.1.Num, Value.int .i64 r1286.1.Den] = List.map kdV [Value.int .i64 r1426.1.Num, Value.int .i64 r1426.1.Den] ∧ EqOK Go.Proofs.Try.prog 37 (List.map kdV [Value.int .i64 r1426.1.Num, Value.int .i64 r1426.1.Den]) from ⟨rfl, eqok37⟩))
       rcases ifs h with ⟨h1436, h⟩ | ⟨h1436, h⟩
       ·rcases ifs h with ⟨h1437, h⟩ | ⟨h1437, h⟩
        ·have e1438 := (an (not_f (decide_eq_true h1437)) trivial)
         have e1439 := (an (not_f (decide_eq_true h1437)) trivial)
         have e1440 := (an (not_f (decide_eq_true h1437)) trivial)
         have e1441 := (ti (ti (ti (ti (an e1433 (an e1434 (an e1435 (an (not_f (decide_eq_true h1432)) (ti (an (an (not_f h1436) trivial) (an (an (not_f h1436) trivial) (an (an (not_f h1436) trivial) (an (not_f h1436) (ti (an e1438 (an e1439 (an e1440 (an (not_f (decide_eq_true h1437)) trivial))))))))))))))))))
         rcases ifs h with ⟨h1442, h⟩ | ⟨h1442, h⟩
         ·rcases ifs h with ⟨h1443, h⟩ | ⟨h1443, h⟩
          ·have e1444 := (an (not_f (decide_eq_true h1443)) trivial)
           have e1445 := (an (not_f (decide_eq_true h1443)) trivial)
           have e1446 := (an (not_f (decide_eq_true h1443)) trivial)
           obtain ⟨h1447, h⟩ := ifn h
           have e1448 := (an (not_f (decide_eq_true h1443)) h1447)
           have e1449 := (an (not_f (decide_eq_true h1443)) trivial)
           have e1450 := (ti (ti (ti (an e1444 (an e1445 (an e1446 (an e1448 (an e1449 (an (not_f (decide_eq_true h1443)) (ti trivial))))))))))
           injection h with h; subst h
           exact fun_ok pm pn Go.Proofs.Try.func8 (r0 := vb (decide ((r1291.1.tmod r1286.1.Den) = 0))) (ans := [.reg (.n :: []), .reg (.call (vb r1276) :: .n :: []), .br false, .reg (.n :: .call (vb r1279) :: .n :: []), .br false, .reg (arT1_13 r1283 r1286), .reg (arT1_14 r1283 r1291), .reg (.n :: .call (vi r1294) :: .n :: []), .reg (arT1_15 r1283 r1299), .br false, .reg (.n :: []), .sub ⟨[(0, none), (3, none), (4, none), (5, none), (6, none), (7, none), (8, none)], [none], []⟩ (.exit 0) (nspeculumlaw07_SupportTrains_l0_0_e1 a0 r1286 r1291 r1294 r1422), .reg (.n :: .n :: []), .br false, .reg (.n :: .call (VV.tu [VV.ag (c_SFrac r1426.1), vi r1426.2]) :: nN 6 []), .reg (.n :: .call (VV.tu [vi r1429.1, vi r1429.2]) :: nN 5 []), .reg (nN 7 (.b false :: nN 4 (.b false :: nN 4 (.b false :: [])))), .br false, .reg (nN 8 (.b false :: .n :: []))]) (fr := true) (by kernel_rfl) (an (an (ti trivial) (an (an (an (nawake_ok k _ h1277) (ti trivial)) (an (not_f h1278) trivial)) (an (an e1281 (an (not_f h1282) trivial)) (an e1288 (an e1293 (an (ti (an e1296 (ti trivial))) (an (an (ti (an e1298 (an e1301 (ti (ti trivial))))) (an (not_f (decide_eq_true h1302)) trivial)) (an (an (ti trivial) e1424) (an (an (ti (ti trivial)) (an (not_f (decide_eq_true h1425)) trivial)) (an e1428 (an (ti (an e1431 (ti (ti (ti (ti (ti trivial))))))) (an (an e1441 (an (not_f (decide_eq_true h1442)) trivial)) (an e1450 trivial))))))))))))) (ti trivial)) (Wv.refl _)
          ·have e1451 := (ti (ti (ti (an (not_t (decide_eq_false h1443)) (an (not_t (decide_eq_false h1443)) (an (not_t (decide_eq_false h1443)) (an (not_t (decide_eq_false h1443)) (an (not_t (decide_eq_false h1443)) (an (not_t (decide_eq_false h1443)) (ti trivial))))))))))
           injection h with h; subst h
           exact fun_ok pm pn Go.Proofs.Try.func8 (r0 := vb true) (ans := [.reg (.n :: []), .reg (.call (vb r1276) :: .n :: []), .br false, .reg (.n :: .call (vb r1279) :: .n :: []), .br false, .reg (arT1_13 r1283 r1286), .reg (arT1_14 r1283 r1291), .reg (.n :: .call (vi r1294) :: .n :: []), .reg (arT1_15 r1283 r1299), .br false, .reg (.n :: []), .sub ⟨[(0, none), (3, none), (4, none), (5, none), (6, none), (7, none), (8, none)], [none], []⟩ (.exit 0) (nspeculumlaw07_SupportTrains_l0_0_e1 a0 r1286 r1291 r1294 r1422), .reg (.n :: .n :: []), .br false, .reg (.n :: .call (VV.tu [VV.ag (c_SFrac r1426.1), vi r1426.2]) :: nN 6 []), .reg (.n :: .call (VV.tu [vi r1429.1, vi r1429.2]) :: nN 5 []), .reg (nN 7 (.b false :: nN 4 (.b false :: nN 4 (.b false :: [])))), .br false, .reg (nN 3 (nS 5 (.b true :: .n :: [])))]) (fr := true) (by kernel_rfl) (an (an (ti trivial) (an (an (an (nawake_ok k _ h1277) (ti trivial)) (an (not_f h1278) trivial)) (an (an e1281 (an (not_f h1282) trivial)) (an e1288 (an e1293 (an (ti (an e1296 (ti trivial))) (an (an (ti (an e1298 (an e1301 (ti (ti trivial))))) (an (not_f (decide_eq_true h1302)) trivial)) (an (an (ti trivial) e1424) (an (an (ti (ti trivial)) (an (not_f (decide_eq_true h1425)) trivial)) (an e1428 (an (ti (an e1431 (ti (ti (ti (ti (ti trivial))))))) (an (an e1441 (an (not_f (decide_eq_true h1442)) trivial)) (an e1451 trivial))))))))))))) (ti trivial)) (Wv.refl _)
         ·injection h with h; subst h
          exact fun_ok pm pn Go.Proofs.Try.func8 (r0 := vb false) (ans := [.reg (.n :: []), .reg (.call (vb r1276) :: .n :: []), .br false, .reg (.n :: .call (vb r1279) :: .n :: []), .br false, .reg (arT1_13 r1283 r1286), .reg (arT1_14 r1283 r1291), .reg (.n :: .call (vi r1294) :: .n :: []), .reg (arT1_15 r1283 r1299), .br false, .reg (.n :: []), .sub ⟨[(0, none), (3, none), (4, none), (5, none), (6, none), (7, none), (8, none)], [none], []⟩ (.exit 0) (nspeculumlaw07_SupportTrains_l0_0_e1 a0 r1286 r1291 r1294 r1422), .reg (.n :: .n :: []), .br false, .reg (.n :: .call (VV.tu [VV.ag (c_SFrac r1426.1), vi r1426.2]) :: nN 6 []), .reg (.n :: .call (VV.tu [vi r1429.1, vi r1429.2]) :: nN 5 []), .reg (nN 7 (.b false :: nN 4 (.b false :: nN 4 (.b false :: [])))), .br true, .reg (.n :: [])]) (fr := true) (by kernel_rfl) (an (an (ti trivial) (an (an (an (nawake_ok k _ h1277) (ti trivial)) (an (not_f h1278) trivial)) (an (an e1281 (an (not_f h1282) trivial)) (an e1288 (an e1293 (an (ti (an e1296 (ti trivial))) (an (an (ti (an e1298 (an e1301 (ti (ti trivial))))) (an (not_f (decide_eq_true h1302)) trivial)) (an (an (ti trivial) e1424) (an (an (ti (ti trivial)) (an (not_f (decide_eq_true h1425)) trivial)) (an e1428 (an (ti (an e1431 (ti (ti (ti (ti (ti trivial))))))) (an e1441 (an (not_t (decide_eq_false h1442)) (an (ti trivial) trivial)))))))))))))) (ti trivial)) (Wv.refl _)
        ·have e1452 := (ti (ti (ti (ti (an e1433 (an e1434 (an e1435 (an (not_f (decide_eq_true h1432)) (ti (an (an (not_f h1436) trivial) (an (an (not_f h1436) trivial) (an (an (not_f h1436) trivial) (an (not_f h1436) (ti (an (not_t (decide_eq_false h1437)) (an (not_t (decide_eq_false h1437)) (an (not_t (decide_eq_false h1437)) (an (not_t (decide_eq_false h1437)) trivial))))))))))))))))))
         injection h with h; subst h
         exact fun_ok pm pn Go.Proofs.Try.func8 (r0 := vb false) (ans := [.reg (.n :: []), .reg (.call (vb r1276) :: .n :: []), .br false, .reg (.n :: .call (vb r1279) :: .n :: []), .br false, .reg (arT1_13 r1283 r1286), .reg (arT1_14 r1283 r1291), .reg (.n :: .call (vi r1294) :: .n :: []), .reg (arT1_15 r1283 r1299), .br false, .reg (.n :: []), .sub ⟨[(0, none), (3, none), (4, none), (5, none), (6, none), (7, none), (8, none)], [none], []⟩ (.exit 0) (nspeculumlaw07_SupportTrains_l0_0_e1 a0 r1286 r1291 r1294 r1422), .reg (.n :: .n :: []), .br false, .reg (.n :: .call (VV.tu [VV.ag (c_SFrac r1426.1), vi r1426.2]) :: nN 6 []), .reg (.n :: .call (VV.tu [vi r1429.1, vi r1429.2]) :: nN 5 []), .reg (nN 7 (.b false :: nN 4 (.b false :: .n :: nS 3 (.b true :: [])))), .br true, .reg (.n :: [])]) (fr := true) (by kernel_rfl) (an (an (ti trivial) (an (an (an (nawake_ok k _ h1277) (ti trivial)) (an (not_f h1278) trivial)) (an (an e1281 (an (not_f h1282) trivial)) (an e1288 (an e1293 (an (ti (an e1296 (ti trivial))) (an (an (ti (an e1298 (an e1301 (ti (ti trivial))))) (an (not_f (decide_eq_true h1302)) trivial)) (an (an (ti trivial) e1424) (an (an (ti (ti trivial)) (an (not_f (decide_eq_true h1425)) trivial)) (an e1428 (an (ti (an e1431 (ti (ti (ti (ti (ti trivial))))))) (an e1452 (an rt (an (ti trivial) trivial)))))))))))))) (ti trivial)) (Wv.refl _)
       ·have e1453 := (ti (ti (ti (ti (an e1433 (an e1434 (an e1435 (an (not_f (decide_eq_true h1432)) (ti (an (not_t (bool_f h1436)) (an (not_t (bool_f h1436)) (an (not_t (bool_f h1436)) (an (not_t (bool_f h1436)) (ti (an rt (an rt (an rt (an rt trivial))))))))))))))))))
        injection h with h; subst h
        exact fun_ok pm pn Go.Proofs.Try.func8 (r0 := vb false) (ans := [.reg (.n :: []), .reg (.call (vb r1276) :: .n :: []), .br false, .reg (.n :: .call (vb r1279) :: .n :: []), .br false, .reg (arT1_13 r1283 r1286), .reg (arT1_14 r1283 r1291), .reg (.n :: .call (vi r1294) :: .n :: []), .reg (arT1_15 r1283 r1299), .br false, .reg (.n :: []), .sub ⟨[(0, none), (3, none), (4, none), (5, none), (6, none), (7, none), (8, none)], [none], []⟩ (.exit 0) (nspeculumlaw07_SupportTrains_l0_0_e1 a0 r1286 r1291 r1294 r1422), .reg (.n :: .n :: []), .br false, .reg (.n :: .call (VV.tu [VV.ag (c_SFrac r1426.1), vi r1426.2]) :: nN 6 []), .reg (.n :: .call (VV.tu [vi r1429.1, vi r1429.2]) :: nN 5 []), .reg (nN 7 (.b false :: .n :: nS 3 (.b true :: .n :: nS 3 (.b true :: [])))), .br true, .reg (.n :: [])]) (fr := true) (by kernel_rfl) (an (an (ti trivial) (an (an (an (nawake_ok k _ h1277) (ti trivial)) (an (not_f h1278) trivial)) (an (an e1281 (an (not_f h1282) trivial)) (an e1288 (an e1293 (an (ti (an e1296 (ti trivial))) (an (an (ti (an e1298 (an e1301 (ti (ti trivial))))) (an (not_f (decide_eq_true h1302)) trivial)) (an (an (ti trivial) e1424) (an (an (ti (ti trivial)) (an (not_f (decide_eq_true h1425)) trivial)) (an e1428 (an (ti (an e1431 (ti (ti (ti (ti (ti trivial))))))) (an e1453 (an rt (an (ti trivial) trivial)))))))))))))) (ti trivial)) (Wv.refl _)
      ·have e1454 := (ti (ti (ti (ti (an (not_t (decide_eq_false h1432)) (an (not_t (decide_eq_false h1432)) (an (not_t (decide_eq_false h1432)) (an (not_t (decide_eq_false h1432)) (ti (an rt (an rt (an rt (an rt (ti (an rt (an rt (an rt (an rt trivial))))))))))))))))))
       injection h with h; subst h
       exact fun_ok pm pn Go.Proofs.Try.func8 (r0 := vb false) (ans := [.reg (.n :: []), .reg (.call (vb r1276) :: .n :: []), .br false, .reg (.n :: .call (vb r1279) :: .n :: []), .br false, .reg (arT1_13 r1283 r1286), .reg (arT1_14 r1283 r1291), .reg (.n :: .call (vi r1294) :: .n :: []), .reg (arT1_15 r1283 r1299), .br false, .reg (.n :: []), .sub ⟨[(0, none), (3, none), (4, none), (5, none), (6, none), (7, none), (8, none)], [none], []⟩ (.exit 0) (nspeculumlaw07_SupportTrains_l0_0_e1 a0 r1286 r1291 r1294 r1422), .reg (.n :: .n :: []), .br false, .reg (.n :: .call (VV.tu [VV.ag (c_SFrac r1426.1), vi r1426.2]) :: nN 6 []), .reg (.n :: .call (VV.tu [vi r1429.1, vi r1429.2]) :: nN 5 []), .reg (nN 4 (nS 3 (.b true :: .n :: nS 3 (.b true :: .n :: nS 3 (.b true :: []))))), .br true, .reg (.n :: [])]) (fr := true) (by kernel_rfl) (an (an (ti trivial) (an (an (an (nawake_ok k _ h1277) (ti trivial)) (an (not_f h1278) trivial)) (an (an e1281 (an (not_f h1282) trivial)) (an e1288 (an e1293 (an (ti (an e1296 (ti trivial))) (an (an (ti (an e1298 (an e1301 (ti (ti trivial))))) (an (not_f (decide_eq_true h1302)) trivial)) (an (an (ti trivial) e1424) (an (an (ti (ti trivial)) (an (not_f (decide_eq_true h1425)) trivial)) (an e1428 (an (ti (an e1431 (ti (ti (ti (ti (ti trivial))))))) (an e1454 (an rt (an (ti trivial) trivial)))))))))))))) (ti trivial)) (Wv.refl _)
     ·rcases ifs h with ⟨h1455, h⟩ | ⟨h1455, h⟩
      ·rcases ifs h with ⟨h1456, h⟩ | ⟨h1456, h⟩
       ·have e1457 := (an (decide_eq_true h1456) (show List.map kdV [Value.int .i64 r1286.1.Num, Value.int .i64 r1286.1.Den] = List.map kdV [Value.int .i64 0, Value.int .i64 0] ∧ EqOK Go.Proofs.Try.prog 37 (List.map kdV [Value.int .i64 0, Value.int .i64 0]) from ⟨rfl, eqok37⟩))
        rcases ifs h with ⟨h1458, h⟩ | ⟨h1458, h⟩
        ·have e1459 := (ti (ti (ti (ti (an (an (decide_eq_true h1455) trivial) (an (an (decide_eq_true h1455) trivial) (an (an (decide_eq_true h1455) trivial) (an (decide_eq_true h1455) (ti (an (an (decide_eq_true h1456) trivial) (an (an (decide_eq_true h1456) trivial) (an e1457 (an (decide_eq_true h1456) (ti (an (an h1458 trivial) (an (an h1458 trivial) (an h1458 (ti trivial))))))))))))))))))
         injection h with h; subst h
         exact fun_ok pm pn Go.Proofs.Try.func8 (r0 := vb (decide (r1291.1 = 0))) (ans := [.reg (.n :: []), .reg (.call (vb r1276) :: .n :: []), .br false, .reg (.n :: .call (vb r1279) :: .n :: []), .br false, .reg (arT1_13 r1283 r1286), .reg (arT1_14 r1283 r1291), .reg (.n :: .call (vi r1294) :: .n :: []), .reg (arT1_15 r1283 r1299), .br false, .reg (.n :: []), .sub ⟨[(0, none), (3, none), (4, none), (5, none), (6, none), (7, none), (8, none)], [none], []⟩ (.exit 0) (nspeculumlaw07_SupportTrains_l0_0_e1 a0 r1286 r1291 r1294 r1422), .reg (.n :: .n :: []), .br true, .reg (nN 7 (.b true :: nN 4 (.b true :: nN 3 (.b true :: .n :: []))))]) (fr := true) (by kernel_rfl) (an (an (ti trivial) (an (an (an (nawake_ok k _ h1277) (ti trivial)) (an (not_f h1278) trivial)) (an (an e1281 (an (not_f h1282) trivial)) (an e1288 (an e1293 (an (ti (an e1296 (ti trivial))) (an (an (ti (an e1298 (an e1301 (ti (ti trivial))))) (an (not_f (decide_eq_true h1302)) trivial)) (an (an (ti trivial) e1424) (an (ti (ti trivial)) (an (not_t (decide_eq_false h1425)) (an e1459 trivial))))))))))) (ti trivial)) (Wv.refl _)
        ·have e1460 := (ti (ti (ti (ti (an (an (decide_eq_true h1455) trivial) (an (an (decide_eq_true h1455) trivial) (an (an (decide_eq_true h1455) trivial) (an (decide_eq_true h1455) (ti (an (an (decide_eq_true h1456) trivial) (an (an (decide_eq_true h1456) trivial) (an e1457 (an (decide_eq_true h1456) (ti (an (bool_f h1458) (an (bool_f h1458) (an (bool_f h1458) (ti trivial))))))))))))))))))
         injection h with h; subst h
         exact fun_ok pm pn Go.Proofs.Try.func8 (r0 := vb false) (ans := [.reg (.n :: []), .reg (.call (vb r1276) :: .n :: []), .br false, .reg (.n :: .call (vb r1279) :: .n :: []), .br false, .reg (arT1_13 r1283 r1286), .reg (arT1_14 r1283 r1291), .reg (.n :: .call (vi r1294) :: .n :: []), .reg (arT1_15 r1283 r1299), .br false, .reg (.n :: []), .sub ⟨[(0, none), (3, none), (4, none), (5, none), (6, none), (7, none), (8, none)], [none], []⟩ (.exit 0) (nspeculumlaw07_SupportTrains_l0_0_e1 a0 r1286 r1291 r1294 r1422), .reg (.n :: .n :: []), .br true, .reg (nN 7 (.b true :: nN 4 (.b true :: .n :: .skip :: .skip :: .b false :: .n :: [])))]) (fr := true) (by kernel_rfl) (an (an (ti trivial) (an (an (an (nawake_ok k _ h1277) (ti trivial)) (an (not_f h1278) trivial)) (an (an e1281 (an (not_f h1282) trivial)) (an e1288 (an e1293 (an (ti (an e1296 (ti trivial))) (an (an (ti (an e1298 (an e1301 (ti (ti trivial))))) (an (not_f (decide_eq_true h1302)) trivial)) (an (an (ti trivial) e1424) (an (ti (ti trivial)) (an (not_t (decide_eq_false h1425)) (an e1460 trivial))))))))))) (ti trivial)) (Wv.refl _)
       ·have e1461 := (ti (ti (ti (ti (an (an (decide_eq_true h1455) trivial) (an (an (decide_eq_true h1455) trivial) (an (an (decide_eq_true h1455) trivial) (an (decide_eq_true h1455) (ti (an (decide_eq_false h1456) (an (decide_eq_false h1456) (an (decide_eq_false h1456) (an (decide_eq_false h1456) (ti (an rf (an rf (an rf (ti trivial))))))))))))))))))
        injection h with h; subst h
        exact fun_ok pm pn Go.Proofs.Try.func8 (r0 := vb false) (ans := [.reg (.n :: []), .reg (.call (vb r1276) :: .n :: []), .br false, .reg (.n :: .call (vb r1279) :: .n :: []), .br false, .reg (arT1_13 r1283 r1286), .reg (arT1_14 r1283 r1291), .reg (.n :: .call (vi r1294) :: .n :: []), .reg (arT1_15 r1283 r1299), .br false, .reg (.n :: []), .sub ⟨[(0, none), (3, none), (4, none), (5, none), (6, none), (7, none), (8, none)], [none], []⟩ (.exit 0) (nspeculumlaw07_SupportTrains_l0_0_e1 a0 r1286 r1291 r1294 r1422), .reg (.n :: .n :: []), .br true, .reg (nN 7 (.b true :: .n :: nS 3 (.b false :: .n :: .skip :: .skip :: .b false :: .n :: [])))]) (fr := true) (by kernel_rfl) (an (an (ti trivial) (an (an (an (nawake_ok k _ h1277) (ti trivial)) (an (not_f h1278) trivial)) (an (an e1281 (an (not_f h1282) trivial)) (an e1288 (an e1293 (an (ti (an e1296 (ti trivial))) (an (an (ti (an e1298 (an e1301 (ti (ti trivial))))) (an (not_f (decide_eq_true h1302)) trivial)) (an (an (ti trivial) e1424) (an (ti (ti trivial)) (an (not_t (decide_eq_false h1425)) (an e1461 trivial))))))))))) (ti trivial)) (Wv.refl _)
      ·have e1462 := (ti (ti (ti (ti (an (decide_eq_false h1455) (an (decide_eq_false h1455) (an (decide_eq_false h1455) (an (decide_eq_false h1455) (ti (an rf (an rf (an rf (an rf (ti (an rf (an rf (an rf (ti trivial))))))))))))))))))
       injection h with h; subst h
       exact fun_ok pm pn Go.Proofs.Try.func8 (r0 := vb false) (ans := [.reg (.n :: []), .reg (.call (vb r1276) :: .n :: []), .br false, .reg (.n :: .call (vb r1279) :: .n :: []), .br false, .reg (arT1_13 r1283 r1286), .reg (arT1_14 r1283 r1291), .reg (.n :: .call (vi r1294) :: .n :: []), .reg (arT1_15 r1283 r1299), .br false, .reg (.n :: []), .sub ⟨[(0, none), (3, none), (4, none), (5, none), (6, none), (7, none), (8, none)], [none], []⟩ (.exit 0) (nspeculumlaw07_SupportTrains_l0_0_e1 a0 r1286 r1291 r1294 r1422), .reg (.n :: .n :: []), .br true, .reg arT1_16]) (fr := true) (by kernel_rfl) (an (an (ti trivial) (an (an (an (nawake_ok k _ h1277) (ti trivial)) (an (not_f h1278) trivial)) (an (an e1281 (an (not_f h1282) trivial)) (an e1288 (an e1293 (an (ti (an e1296 (ti trivial))) (an (an (ti (an e1298 (an e1301 (ti (ti trivial))))) (an (not_f (decide_eq_true h1302)) trivial)) (an (an (ti trivial) e1424) (an (ti (ti trivial)) (an (not_t (decide_eq_false h1425)) (an e1462 trivial))))))))))) (ti trivial)) (Wv.refl _)
   ·injection h with h; subst h
    exact fun_ok pm pn Go.Proofs.Try.func8 (r0 := vb false) (ans := [.reg (.n :: []), .reg (.call (vb r1276) :: .n :: []), .br false, .reg (.n :: .call (vb r1279) :: .n :: []), .br false, .reg (arT1_13 r1283 r1286), .reg (arT1_14 r1283 r1291), .reg (.n :: .call (vi r1294) :: .n :: []), .reg (arT1_15 r1283 r1299), .br true, .reg (.n :: [])]) (fr := true) (by kernel_rfl) (an (an (ti trivial) (an (an (an (nawake_ok k _ h1277) (ti trivial)) (an (not_f h1278) trivial)) (an (an e1281 (an (not_f h1282) trivial)) (an e1288 (an e1293 (an (ti (an e1296 (ti trivial))) (an (ti (an e1298 (an e1301 (ti (ti trivial))))) (an (not_t (decide_eq_false h1302)) (an (ti trivial) trivial))))))))) (ti trivial)) (Wv.refl _)
  ·injection h with h; subst h
   exact fun_ok pm pn Go.Proofs.Try.func8 (r0 := vb true) (ans := [.reg (.n :: []), .reg (.call (vb r1276) :: .n :: []), .br false, .reg (.n :: .call (vb r1279) :: .n :: []), .br true, .reg (.n :: [])]) (fr := true) (by kernel_rfl) (an (an (ti trivial) (an (an (an (nawake_ok k _ h1277) (ti trivial)) (an (not_f h1278) trivial)) (an e1281 (an (not_t (bool_f h1282)) (an (ti trivial) trivial))))) (ti trivial)) (Wv.refl _)
 ·injection h with h; subst h
  exact fun_ok pm pn Go.Proofs.Try.func8 (r0 := vb false) (ans := [.reg (.n :: []), .reg (.call (vb r1276) :: .n :: []), .br true, .reg (.n :: [])]) (fr := true) (by kernel_rfl) (an (an (ti trivial) (an (an (nawake_ok k _ h1277) (ti trivial)) (an (not_t (bool_f h1278)) (an (ti trivial) trivial)))) (ti trivial)) (Wv.refl _)
end Go.Proofs.Ytpaclgmigndilaa.Vg

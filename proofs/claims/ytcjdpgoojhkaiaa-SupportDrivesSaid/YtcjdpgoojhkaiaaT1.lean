/- Written by a program out of the program: what Go functions do, as plain functions, and their contracts. -/
import Derived.Test.YtcjdpgoojhkaiaaN1
namespace Go.Proofs.Ytcjdpgoojhkaiaa.Vg
set_option maxRecDepth 100000
set_option maxHeartbeats 4000000
set_option linter.unusedVariables false
set_option linter.unusedSimpArgs false
open Go Go.Proofs.Ytcjdpgoojhkaiaa.Ev Go.Proofs.Ytcjdpgoojhkaiaa.Vv
structure SGearPair where
  Driver : Int
  Driven : Int
  deriving Inhabited
def c_SGearPair (x : SGearPair) : List VV := [vi x.Driver, vi x.Driven]
theorem len_c_SGearPair (x : SGearPair) : (c_SGearPair x).length = 2 := rfl
theorem still_c_SGearPair (xs : List SGearPair) : (xs.flatMap c_SGearPair).all VV.still = true := all_flat (fun _ => rfl) xs
theorem isC_c_SGearPair (xs : List SGearPair) : (xs.flatMap c_SGearPair).all VV.isC = true := all_flat (fun _ => rfl) xs
theorem new0_c_SGearPair (xs : List SGearPair) : (xs.flatMap c_SGearPair).all new0 = true := all_flat (fun _ => rfl) xs
theorem unfr_c_SGearPair (xs : List SGearPair) : (xs.flatMap c_SGearPair).map unfr = xs.flatMap c_SGearPair := unfr_flat (fun _ => rfl) xs
theorem ag3 : isAggT Go.Proofs.Try.prog 3 = some false := by kernel_rfl
theorem ag50 : isAggT Go.Proofs.Try.prog 50 = some true := by kernel_rfl
theorem sz50 : szOf Go.Proofs.Try.prog 50 = some 2 := by kernel_rfl
def nsupport_areWithin_l0_0_h (a0 : Int) (a1 : Int) (a2 : (List Int)) (x11 : Int) : VS := ⟨mkA [(0, vi a0), (1, vi a1), (9, VV.tr (List.map vi a2) a2.length), (10, vi (a2.length : Int)), (11, vi x11)], [], .nil⟩
def nsupport_areWithin_l0_0_e0 (a0 : Int) (a1 : Int) (a2 : (List Int)) (r : Unit) : VS := ⟨mkA [(6, vb false)], [], .nil⟩
def nsupport_areWithin_l0_0_e1 (a0 : Int) (a1 : Int) (a2 : (List Int)) (r : Unit) : VS := ⟨mkA [], [], .nil⟩
def nsupport_areWithin_l0_0 (k : Nat) (a0 : Int) (a1 : Int) (a2 : (List Int)) : Nat → Int → Option (Sum Unit Unit)
  | 0, _ => none
  | fuel + 1, x11 => if x11 < (a2.length : Int) then (if 0 ≤ x11 ∧ x11 < (a2.length : Int) then (if (a2.getD x11.toNat 0) < a0 then (some (.inl ())) else (if a1 < (a2.getD x11.toNat 0) then (some (.inl ())) else (nsupport_areWithin_l0_0 k a0 a1 a2 fuel (w64 (x11 + 1))))) else none) else (some (.inr ()))
theorem nsupport_areWithin_l0_0_ok (k : Nat) (a0 : Int) (a1 : Int) (a2 : (List Int)) : ∀ (fuel : Nat) (x11 : Int) (r : Sum Unit Unit), nsupport_areWithin_l0_0 k a0 a1 a2 fuel x11 = some r → (match r with | .inl r => VLoop none Go.Proofs.Try.prog (szF Go.Proofs.Try.f18) (bodyOf Go.Proofs.Try.f18 0) (nsupport_areWithin_l0_0_h a0 a1 a2 x11) .ret (nsupport_areWithin_l0_0_e0 a0 a1 a2 r) | .inr r => VLoop none Go.Proofs.Try.prog (szF Go.Proofs.Try.f18) (bodyOf Go.Proofs.Try.f18 0) (nsupport_areWithin_l0_0_h a0 a1 a2 x11) (.exit 0) (nsupport_areWithin_l0_0_e1 a0 a1 a2 r)) := by
 intro fuel
 induction fuel with
 | zero => intro x11 r h; rw [nsupport_areWithin_l0_0.eq_1] at h; cases h
 | succ fuel ih =>
  intro x11 r h
  rw [nsupport_areWithin_l0_0.eq_2] at h
  rcases ifs h with ⟨h444, h⟩ | ⟨h444, h⟩
  ·obtain ⟨h445, h⟩ := ifn h
   have e446 := (show loadL Go.Proofs.Try.prog 3 (x11.toNat * 1) (List.map vi a2) = some (vi (a2.getD x11.toNat 0)) from ld_map ag3 vi a2 0 h445 (by omega))
   rcases ifs h with ⟨h447, h⟩ | ⟨h447, h⟩
   ·have e448 := (ti (ti (ti (ti (an (decide_eq_true h447) (an (decide_eq_true h447) (an (decide_eq_true h447) (an (decide_eq_true h447) trivial))))))))
    injection h with h; subst h
    exact round_stop (c := ⟨[(6, none)], [], []⟩) (s1 := (nsupport_areWithin_l0_0_e0 a0 a1 a2 ())) pm pn (ans := [.reg (.n :: []), .br true, .reg (.n :: .v (vi (a2.getD x11.toNat 0)) :: .n :: []), .reg (nN 4 (nS 3 (.b true :: []))), .br true, .reg (.n :: [])]) (by kernel_rfl) (by intro e; cases e) (an (an (ti trivial) (an (an (decide_eq_true h444) trivial) (an (an h445 (an e446 (ti trivial))) (an e448 (an rt (an (ti trivial) trivial)))))) (ti trivial))
   ·have e449 := (ti (ti (ti (ti (an (an (decide_eq_false h447) trivial) (an (an (decide_eq_false h447) trivial) (an (an (decide_eq_false h447) trivial) (an (decide_eq_false h447) trivial))))))))
    rcases ifs h with ⟨h450, h⟩ | ⟨h450, h⟩
    ·injection h with h; subst h
     exact round_stop (c := ⟨[(6, none)], [], []⟩) (s1 := (nsupport_areWithin_l0_0_e0 a0 a1 a2 ())) pm pn (ans := [.reg (.n :: []), .br true, .reg (.n :: .v (vi (a2.getD x11.toNat 0)) :: .n :: []), .reg (nN 7 (.b false :: [])), .br true, .reg (.n :: [])]) (by kernel_rfl) (by intro e; cases e) (an (an (ti trivial) (an (an (decide_eq_true h444) trivial) (an (an h445 (an e446 (ti trivial))) (an e449 (an (decide_eq_true h450) (an (ti trivial) trivial)))))) (ti trivial))
    ·have h2 := ih _ _ h
     obtain ⟨q, hv, hq⟩ := pkR (rd := none) (P := Go.Proofs.Try.prog) (fn := Go.Proofs.Try.f18) (k := 0) (s := (nsupport_areWithin_l0_0_h a0 a1 a2 x11)) (ans := [.reg (.n :: []), .br true, .reg (.n :: .v (vi (a2.getD x11.toNat 0)) :: .n :: []), .reg (nN 7 (.b false :: [])), .br false, .reg (.n :: .n :: [])]) (c := ⟨[(0, none), (1, none), (9, none), (10, none), (11, none)], [], []⟩) (e := .normal) (s1 := (nsupport_areWithin_l0_0_h a0 a1 a2 (w64 (x11 + 1)))) (an (an (ti trivial) (an (an (decide_eq_true h444) trivial) (an (an (an h445 (an e446 (ti trivial))) (an e449 (an (decide_eq_false h450) trivial))) (ti (ti trivial))))) (ti trivial)) (by kernel_rfl)
     cases r with
     | inl r => exact round_next pm pn hv hq h2
     | inr r =>
      exact round_next pm pn hv hq h2
  ·injection h with h; subst h
   exact round_stop (c := ⟨[], [], []⟩) (s1 := (nsupport_areWithin_l0_0_e1 a0 a1 a2 ())) pm pn (ans := [.reg (.n :: []), .br false]) (by kernel_rfl) (by intro e; cases e) (an (an (ti trivial) (an (decide_eq_false h444) trivial)) (ti trivial))
def nsupport_areWithin (k : Nat) (a0 : Int) (a1 : Int) (a2 : (List Int)) : Option Bool :=
  (nsupport_areWithin_l0_0 k a0 a1 a2 k 0).bind fun r452 => (match r452 with | .inl r453 => (some false) | .inr r454 => (some true))
theorem nsupport_areWithin_ok (k : Nat) (a0 : Int) (a1 : Int) (a2 : (List Int)) (r : Bool) (h : nsupport_areWithin k a0 a1 a2 = some r) : VC Go.Proofs.Try.prog 18 [vi a0, vi a1, VV.tr (List.map vi a2) a2.length] (vb r) := by
 unfold nsupport_areWithin at h
 obtain ⟨r452, h451, h⟩ := bs h
 have hph451 := nsupport_areWithin_l0_0_ok k a0 a1 a2 _ _ _ h451
 cases r452 with
 | inl r453 =>
  dsimp only at h
  have e455 := (an (ti trivial) (VRun.loop hph451))
  injection h with h; subst h
  exact fun_ok pm pn Go.Proofs.Try.func18 (r0 := vb false) (ans := [.reg (.n :: []), .reg (nN 3 []), .sub ⟨[(0, none), (1, none), (9, none), (10, none), (11, none)], [], []⟩ .ret (nsupport_areWithin_l0_0_e0 a0 a1 a2 r453)]) (fr := true) (by kernel_rfl) (an (an (ti trivial) (an (ti (ti (ti trivial))) e455)) (ti trivial)) (Wv.refl _)
 | inr r454 =>
  dsimp only at h
  have e456 := (an (ti trivial) (VRun.loop hph451))
  injection h with h; subst h
  exact fun_ok pm pn Go.Proofs.Try.func18 (r0 := vb true) (ans := [.reg (.n :: []), .reg (nN 3 []), .sub ⟨[(0, none), (1, none), (9, none), (10, none), (11, none)], [], []⟩ (.exit 0) (nsupport_areWithin_l0_0_e1 a0 a1 a2 r454), .reg (.n :: [])]) (fr := true) (by kernel_rfl) (an (an (ti trivial) (an (an (ti (ti (ti trivial))) e456) (an (ti trivial) trivial))) (ti trivial)) (Wv.refl _)
theorem eqT1_0 (z0 : (List SGearPair)) : [vi 1, vi 500, VV.tr (List.map vi ([(z0.getD ((0 : Int)).toNat default).Driver, (z0.getD ((0 : Int)).toNat default).Driven] : List Int)) (([(z0.getD ((0 : Int)).toNat default).Driver, (z0.getD ((0 : Int)).toNat default).Driven] : List Int).length)] = [vi 1, vi 500, VV.tr [vi ((z0.getD ((0 : Int)).toNat default).Driver), vi ((z0.getD ((0 : Int)).toNat default).Driven)] 2] := by first | rfl | (simp only [unfr_vi, List.map_cons, List.map_nil, un_i, un_tr, List.length_map, List.length_cons, List.length_nil]; done) | (simp only [unfr_vi, List.map_cons, List.map_nil, un_i, un_tr, List.length_map, List.length_cons, List.length_nil]; rfl) | (simp only [unfr_vi, List.map_cons, List.map_nil, un_i, un_tr, List.length_map, List.length_cons, List.length_nil, List.length_cons, List.length_nil, List.length_append]; done)
theorem eqT1_1 (z0 : (List SGearPair)) (z1 : Int) : [vi 1, vi 500, VV.tr (List.map vi ([(z0.getD z1.toNat default).Driver, (z0.getD z1.toNat default).Driven] : List Int)) (([(z0.getD z1.toNat default).Driver, (z0.getD z1.toNat default).Driven] : List Int).length)] = [vi 1, vi 500, VV.tr [vi ((z0.getD z1.toNat default).Driver), vi ((z0.getD z1.toNat default).Driven)] 2] := by first | rfl | (simp only [unfr_vi, List.map_cons, List.map_nil, un_i, un_tr, List.length_map, List.length_cons, List.length_nil]; done) | (simp only [unfr_vi, List.map_cons, List.map_nil, un_i, un_tr, List.length_map, List.length_cons, List.length_nil]; rfl) | (simp only [unfr_vi, List.map_cons, List.map_nil, un_i, un_tr, List.length_map, List.length_cons, List.length_nil, List.length_cons, List.length_nil, List.length_append]; done)
def nsupport_CheckTrain_l0_0_h (a0 : (List SGearPair)) (x10 : Int) : VS := ⟨mkA [(8, VV.tr (List.flatMap c_SGearPair a0) a0.length), (9, vi (a0.length : Int)), (10, vi x10)], [], .nil⟩
def nsupport_CheckTrain_l0_0_e0 (a0 : (List SGearPair)) (r : Unit) : VS := ⟨mkA [(2, vi 2)], [], .nil⟩
def nsupport_CheckTrain_l0_0_e1 (a0 : (List SGearPair)) (r : Unit) : VS := ⟨mkA [], [], .nil⟩
def nsupport_CheckTrain_l0_0 (k : Nat) (a0 : (List SGearPair)) : Nat → Int → Option (Sum Unit Unit)
  | 0, _ => none
  | fuel + 1, x10 => if x10 < (a0.length : Int) then (if 0 ≤ x10 ∧ x10 < (a0.length : Int) then ((nsupport_areWithin k 1 500 ([(a0.getD x10.toNat default).Driver, (a0.getD x10.toNat default).Driven] : List Int)).bind fun r499 => (if r499 = true then (nsupport_CheckTrain_l0_0 k a0 fuel (w64 (x10 + 1))) else (some (.inl ())))) else none) else (some (.inr ()))
theorem nsupport_CheckTrain_l0_0_ok (k : Nat) (a0 : (List SGearPair)) : ∀ (fuel : Nat) (x10 : Int) (r : Sum Unit Unit), nsupport_CheckTrain_l0_0 k a0 fuel x10 = some r → (match r with | .inl r => VLoop none Go.Proofs.Try.prog (szF Go.Proofs.Try.f55) (bodyOf Go.Proofs.Try.f55 0) (nsupport_CheckTrain_l0_0_h a0 x10) .ret (nsupport_CheckTrain_l0_0_e0 a0 r) | .inr r => VLoop none Go.Proofs.Try.prog (szF Go.Proofs.Try.f55) (bodyOf Go.Proofs.Try.f55 0) (nsupport_CheckTrain_l0_0_h a0 x10) (.exit 0) (nsupport_CheckTrain_l0_0_e1 a0 r)) := by
 intro fuel
 induction fuel with
 | zero => intro x10 r h; rw [nsupport_CheckTrain_l0_0.eq_1] at h; cases h
 | succ fuel ih =>
  intro x10 r h
  rw [nsupport_CheckTrain_l0_0.eq_2] at h
  rcases ifs h with ⟨h496, h⟩ | ⟨h496, h⟩
  ·obtain ⟨h497, h⟩ := ifn h
   have e498 := (show loadL Go.Proofs.Try.prog 50 (x10.toNat * 2) (List.flatMap c_SGearPair a0) = some (VV.ag (c_SGearPair (a0.getD x10.toNat default))) from ld_whole ag50 c_SGearPair 2 sz50 len_c_SGearPair a0 default h497 (by omega))
   obtain ⟨r499, h500, h⟩ := bs h
   have e501 := (VC.args (nsupport_areWithin_ok k 1 500 ([(a0.getD x10.toNat default).Driver, (a0.getD x10.toNat default).Driven] : List Int) _ h500) (eqT1_1 a0 x10))
   rcases ifs h with ⟨h502, h⟩ | ⟨h502, h⟩
   ·have h2 := ih _ _ h
    obtain ⟨q, hv, hq⟩ := pkR (rd := none) (P := Go.Proofs.Try.prog) (fn := Go.Proofs.Try.f55) (k := 0) (s := (nsupport_CheckTrain_l0_0_h a0 x10)) (ans := [.reg (.n :: []), .br true, .reg (.n :: .v (VV.ag (c_SGearPair (a0.getD x10.toNat default))) :: .n :: .n :: []), .reg (nN 4 (.v VV.any :: .call (vb r499) :: .n :: [])), .br false, .reg (.n :: .n :: [])]) (c := ⟨[(8, none), (9, none), (10, none)], [], []⟩) (e := .normal) (s1 := (nsupport_CheckTrain_l0_0_h a0 (w64 (x10 + 1)))) (an (an (ti trivial) (an (an (decide_eq_true h496) trivial) (an (an (an h497 (an e498 (ti (ti trivial)))) (an (ti (ti (ti (ti (ti (an e501 (ti trivial))))))) (an (not_f h502) trivial))) (ti (ti trivial))))) (ti trivial)) (by kernel_rfl)
    cases r with
    | inl r => exact round_next pm pn hv hq h2
    | inr r =>
     exact round_next pm pn hv hq h2
   ·injection h with h; subst h
    exact round_stop (c := ⟨[(2, none)], [], []⟩) (s1 := (nsupport_CheckTrain_l0_0_e0 a0 ())) pm pn (ans := [.reg (.n :: []), .br true, .reg (.n :: .v (VV.ag (c_SGearPair (a0.getD x10.toNat default))) :: .n :: .n :: []), .reg (nN 4 (.v VV.any :: .call (vb r499) :: .n :: [])), .br true, .reg (.n :: [])]) (by kernel_rfl) (by intro e; cases e) (an (an (ti trivial) (an (an (decide_eq_true h496) trivial) (an (an h497 (an e498 (ti (ti trivial)))) (an (ti (ti (ti (ti (ti (an e501 (ti trivial))))))) (an (not_t (bool_f h502)) (an (ti trivial) trivial)))))) (ti trivial))
  ·injection h with h; subst h
   exact round_stop (c := ⟨[], [], []⟩) (s1 := (nsupport_CheckTrain_l0_0_e1 a0 ())) pm pn (ans := [.reg (.n :: []), .br false]) (by kernel_rfl) (by intro e; cases e) (an (an (ti trivial) (an (decide_eq_false h496) trivial)) (ti trivial))
def nsupport_CheckTrain (k : Nat) (a0 : (List SGearPair)) : Option Int :=
  if 12 < (a0.length : Int) then (some 8) else ((nsupport_CheckTrain_l0_0 k a0 k 0).bind fun r504 => (match r504 with | .inl r505 => (some 2) | .inr r506 => (some 0)))
theorem nsupport_CheckTrain_ok (k : Nat) (a0 : (List SGearPair)) (r : Int) (h : nsupport_CheckTrain k a0 = some r) : VC Go.Proofs.Try.prog 55 [VV.tr (List.flatMap c_SGearPair a0) a0.length] (vi r) := by
 unfold nsupport_CheckTrain at h
 rcases ifs h with ⟨h481, h⟩ | ⟨h481, h⟩
 ·injection h with h; subst h
  exact fun_ok pm pn Go.Proofs.Try.func55 (r0 := vi 8) (ans := [.reg (.n :: []), .reg (nN 3 []), .br true, .reg (.n :: [])]) (fr := true) (by kernel_rfl) (an (an (ti trivial) (an (ti (ti (ti trivial))) (an (decide_eq_true h481) (an (ti trivial) trivial)))) (ti trivial)) (Wv.refl _)
 ·obtain ⟨r504, h503, h⟩ := bs h
  have hph503 := nsupport_CheckTrain_l0_0_ok k a0 _ _ _ h503
  cases r504 with
  | inl r505 =>
   dsimp only at h
   have e507 := (an (ti trivial) (VRun.loop hph503))
   injection h with h; subst h
   exact fun_ok pm pn Go.Proofs.Try.func55 (r0 := vi 2) (ans := [.reg (.n :: []), .reg (nN 3 []), .br false, .reg (nN 3 []), .sub ⟨[(8, none), (9, none), (10, none)], [], []⟩ .ret (nsupport_CheckTrain_l0_0_e0 a0 r505)]) (fr := true) (by kernel_rfl) (an (an (ti trivial) (an (an (ti (ti (ti trivial))) (an (decide_eq_false h481) trivial)) (an (ti (ti (ti trivial))) e507))) (ti trivial)) (Wv.refl _)
  | inr r506 =>
   dsimp only at h
   have e508 := (an (ti trivial) (VRun.loop hph503))
   injection h with h; subst h
   exact fun_ok pm pn Go.Proofs.Try.func55 (r0 := vi 0) (ans := [.reg (.n :: []), .reg (nN 3 []), .br false, .reg (nN 3 []), .sub ⟨[(8, none), (9, none), (10, none)], [], []⟩ (.exit 0) (nsupport_CheckTrain_l0_0_e1 a0 r506), .reg (.n :: [])]) (fr := true) (by kernel_rfl) (an (an (ti trivial) (an (an (ti (ti (ti trivial))) (an (decide_eq_false h481) trivial)) (an (an (ti (ti (ti trivial))) e508) (an (ti trivial) trivial)))) (ti trivial)) (Wv.refl _)
theorem eqT1_2  : VV.ag [vi 1, vi 1] = VV.ag (c_SFrac (⟨1, 1⟩ : SFrac)) := by first | rfl | (simp only [unfr_vi, List.map_cons, List.map_nil, un_i, unfr_c_SFrac]; done) | (simp only [unfr_vi, List.map_cons, List.map_nil, un_i, unfr_c_SFrac]; rfl) | (simp only [unfr_vi, List.map_cons, List.map_nil, un_i, unfr_c_SFrac, c_SFrac, List.length_cons, List.length_nil, List.length_append]; done)
def nsupport_one (k : Nat)  : Option SFrac :=
  some (⟨1, 1⟩ : SFrac)
theorem nsupport_one_ok (k : Nat)  (r : SFrac) (h : nsupport_one k  = some r) : VC Go.Proofs.Try.prog 51 [] (VV.ag (c_SFrac r)) := by
 unfold nsupport_one at h
 injection h with h; subst h
 exact fun_ok pm pn Go.Proofs.Try.func51 (r0 := VV.ag [vi 1, vi 1]) (ans := [.reg (.n :: []), .reg (.n :: .n :: [])]) (fr := true) (by kernel_rfl) (an (an (ti trivial) (an (ti (ti trivial)) trivial)) (an (ti (ti (ti trivial))) trivial)) (Wv.of_eq eqT1_2)
def nsupport_divisor_l0_0_h  (x0 : Int) (x1 : Int) : VS := ⟨mkA [(0, vi x0), (1, vi x1)], [], .nil⟩
def nsupport_divisor_l0_0_e0  (r : Int) : VS := ⟨mkA [(0, vi r)], [], .nil⟩
def nsupport_divisor_l0_0 (k : Nat)  : Nat → Int → Int → Option (Int)
  | 0, _, _ => none
  | fuel + 1, x0, x1 => if x1 = 0 then (some x0) else (if x1 ≠ 0 then (nsupport_divisor_l0_0 k  fuel x1 (x0.tmod x1)) else none)
theorem nsupport_divisor_l0_0_ok (k : Nat)  : ∀ (fuel : Nat) (x0 : Int) (x1 : Int) (r : Int), nsupport_divisor_l0_0 k  fuel x0 x1 = some r → (VLoop none Go.Proofs.Try.prog (szF Go.Proofs.Try.f33) (bodyOf Go.Proofs.Try.f33 0) (nsupport_divisor_l0_0_h  x0 x1) (.exit 0) (nsupport_divisor_l0_0_e0  r)) := by
 intro fuel
 induction fuel with
 | zero => intro x0 x1 r h; rw [nsupport_divisor_l0_0.eq_1] at h; cases h
 | succ fuel ih =>
  intro x0 x1 r h
  rw [nsupport_divisor_l0_0.eq_2] at h
  rcases ifs h with ⟨h535, h⟩ | ⟨h535, h⟩
  ·injection h with h; subst h
   exact round_stop (c := ⟨[(0, none)], [], []⟩) (s1 := (nsupport_divisor_l0_0_e0  x0)) pm pn (ans := [.reg (.n :: .n :: []), .br false]) (by kernel_rfl) (by intro e; cases e) (an (an (ti (ti trivial)) (an (not_f (decide_eq_true h535)) trivial)) (ti trivial))
  ·obtain ⟨h536, h⟩ := ifn h
   have h2 := ih _ _ _ h
   obtain ⟨q, hv, hq⟩ := pkR (rd := none) (P := Go.Proofs.Try.prog) (fn := Go.Proofs.Try.f33) (k := 0) (s := (nsupport_divisor_l0_0_h  x0 x1)) (ans := [.reg (.n :: .n :: []), .br true, .reg (nN 6 [])]) (c := ⟨[(0, none), (1, none)], [], []⟩) (e := .normal) (s1 := (nsupport_divisor_l0_0_h  x1 (x0.tmod x1))) (an (an (an (ti (ti trivial)) (an (not_t (decide_eq_false h535)) trivial)) (ti (ti (ti (an h536 (ti (ti trivial))))))) (ti trivial)) (by kernel_rfl)
   exact round_next pm pn hv hq h2
def nsupport_divisor (k : Nat) (a0 : Int) (a1 : Int) : Option Int :=
  (nsupport_divisor_l0_0 k k a0 a1).bind fun r538 => (some r538)
theorem nsupport_divisor_ok (k : Nat) (a0 : Int) (a1 : Int) (r : Int) (h : nsupport_divisor k a0 a1 = some r) : VC Go.Proofs.Try.prog 33 [vi a0, vi a1] (vi r) := by
 unfold nsupport_divisor at h
 obtain ⟨r538, h537, h⟩ := bs h
 have hph537 := nsupport_divisor_l0_0_ok k  _ _ _ _ h537
 have e539 := (an (ti trivial) (VRun.loop hph537))
 injection h with h; subst h
 exact fun_ok pm pn Go.Proofs.Try.func33 (r0 := vi r538) (ans := [.reg (.n :: []), .sub ⟨[(0, none), (1, none)], [], []⟩ (.exit 0) (nsupport_divisor_l0_0_e0  r538), .reg (.n :: .n :: [])]) (fr := true) (by kernel_rfl) (an (an (ti trivial) (an e539 (an (ti (ti trivial)) trivial))) (ti trivial)) (Wv.refl _)
theorem eqT1_3 (z0 : Int) (z1 : Int) (z2 : Int) : VV.ag [vi (w64 (z0.tdiv z1)), vi (w64 (z2.tdiv z1))] = VV.ag (c_SFrac (⟨w64 (z0.tdiv z1), w64 (z2.tdiv z1)⟩ : SFrac)) := by first | rfl | (simp only [unfr_vi, List.map_cons, List.map_nil, un_i, unfr_c_SFrac]; done) | (simp only [unfr_vi, List.map_cons, List.map_nil, un_i, unfr_c_SFrac]; rfl) | (simp only [unfr_vi, List.map_cons, List.map_nil, un_i, unfr_c_SFrac, c_SFrac, List.length_cons, List.length_nil, List.length_append]; done)
def nsupport_lowest (k : Nat) (a0 : Int) (a1 : Int) : Option SFrac :=
  (nsupport_divisor k a0 a1).bind fun r545 => (if r545 ≠ 0 then (some (⟨w64 (a0.tdiv r545), w64 (a1.tdiv r545)⟩ : SFrac)) else none)
theorem nsupport_lowest_ok (k : Nat) (a0 : Int) (a1 : Int) (r : SFrac) (h : nsupport_lowest k a0 a1 = some r) : VC Go.Proofs.Try.prog 71 [vi a0, vi a1] (VV.ag (c_SFrac r)) := by
 unfold nsupport_lowest at h
 obtain ⟨r545, h546, h⟩ := bs h
 have e547 := (ti (ti (an (nsupport_divisor_ok k a0 a1 _ h546) (ti trivial))))
 obtain ⟨h548, h⟩ := ifn h
 have e549 := (ti (ti (an h548 (ti (ti (an h548 (ti (ti trivial))))))))
 injection h with h; subst h
 exact fun_ok pm pn Go.Proofs.Try.func71 (r0 := VV.ag [vi (w64 (a0.tdiv r545)), vi (w64 (a1.tdiv r545))]) (ans := [.reg (.n :: []), .reg (.n :: .n :: .call (vi r545) :: .n :: []), .reg (nN 8 [])]) (fr := true) (by kernel_rfl) (an (an (ti trivial) (an e547 (an e549 trivial))) (an (ti (ti (ti trivial))) trivial)) (Wv.of_eq (eqT1_3 a0 r545 a1))
def nsupport_ratioOf (k : Nat) (a0 : SGearPair) : Option SFrac :=
  (nsupport_lowest k a0.Driver a0.Driven).bind fun r553 => (some r553)
theorem nsupport_ratioOf_ok (k : Nat) (a0 : SGearPair) (r : SFrac) (h : nsupport_ratioOf k a0 = some r) : VC Go.Proofs.Try.prog 72 [VV.ag (c_SGearPair a0)] (VV.ag (c_SFrac r)) := by
 unfold nsupport_ratioOf at h
 obtain ⟨r553, h554, h⟩ := bs h
 have e555 := (nsupport_lowest_ok k a0.Driver a0.Driven _ h554)
 injection h with h; subst h
 exact fun_ok pm pn Go.Proofs.Try.func72 (r0 := VV.ag (c_SFrac r553)) (ans := [.reg (.n :: .n :: []), .reg (nN 4 (.call (VV.ag (c_SFrac r553)) :: .n :: []))]) (fr := true) (by kernel_rfl) (an (an (ti (ti trivial)) (an (ti (ti (ti (ti (an e555 (ti trivial)))))) trivial)) (an (ti (ti (ti trivial))) trivial)) (Wv.refl _)
def arT1_0 (z0 : List SFrac) (z1 : Int) (z2 : SFrac) (z3 : (SFrac × Int)) : List Ans := (nN 3 (.v (VV.ag (c_SFrac (z0.getD z1.toNat default))) :: .n :: .call (VV.ag (c_SFrac z2)) :: .call (VV.tu [VV.ag (c_SFrac z3.1), vi z3.2]) :: nN 6 []))
def nsupport_products_l0_0_h (a0 : (List SGearPair)) (y0 : List SFrac) (x13 : Int) : VS := ⟨mkA [(4, VV.rf 0 0 y0.length), (11, VV.tr (List.flatMap c_SGearPair a0) a0.length), (12, vi (a0.length : Int)), (13, vi x13)], [some ⟨false, 2, List.flatMap c_SFrac y0⟩], .nil⟩
def nsupport_products_l0_0_e0 (a0 : (List SGearPair)) (r : Int) : VS := ⟨mkA [(2, VV.c (.slice none 0 0)), (3, vi r)], [], .nil⟩
def nsupport_products_l0_0_e1 (a0 : (List SGearPair)) (r : (List SFrac)) : VS := ⟨mkA [(4, VV.rf 0 0 r.length)], [some ⟨false, 2, List.flatMap c_SFrac r⟩], .nil⟩
def nsupport_products_l0_0 (k : Nat) (a0 : (List SGearPair)) : Nat → (List SFrac) → Int → Option (Sum Int (List SFrac))
  | 0, _, _ => none
  | fuel + 1, y0, x13 => if x13 < (a0.length : Int) then (if 0 ≤ x13 ∧ x13 < (a0.length : Int) then (if 0 ≤ x13 ∧ x13 < (y0.length : Int) then ((nsupport_ratioOf k (a0.getD x13.toNat default)).bind fun r641 => ((nnumber_Mul k (y0.getD x13.toNat default) r641).bind fun r644 => (if r644.2 = 0 then (if y0.length + ([r644.1] : List SFrac).length ≤ 1000000000 then (nsupport_products_l0_0 k a0 fuel (y0 ++ ([r644.1] : List SFrac)) (w64 (x13 + 1))) else none) else (some (.inl r644.2))))) else none) else none) else (some (.inr y0))
theorem nsupport_products_l0_0_ok (k : Nat) (a0 : (List SGearPair)) : ∀ (fuel : Nat) (y0 : List SFrac) (x13 : Int) (r : Sum Int (List SFrac)), nsupport_products_l0_0 k a0 fuel y0 x13 = some r → (match r with | .inl r => VLoop none Go.Proofs.Try.prog (szF Go.Proofs.Try.f56) (bodyOf Go.Proofs.Try.f56 0) (nsupport_products_l0_0_h a0 y0 x13) .ret (nsupport_products_l0_0_e0 a0 r) | .inr r => VLoop none Go.Proofs.Try.prog (szF Go.Proofs.Try.f56) (bodyOf Go.Proofs.Try.f56 0) (nsupport_products_l0_0_h a0 y0 x13) (.exit 0) (nsupport_products_l0_0_e1 a0 r)) := by
 intro fuel
 induction fuel with
 | zero => intro y0 x13 r h; rw [nsupport_products_l0_0.eq_1] at h; cases h
 | succ fuel ih =>
  intro y0 x13 r h
  rw [nsupport_products_l0_0.eq_2] at h
  rcases ifs h with ⟨h636, h⟩ | ⟨h636, h⟩
  ·obtain ⟨h637, h⟩ := ifn h
   have e638 := (show loadL Go.Proofs.Try.prog 50 (x13.toNat * 2) (List.flatMap c_SGearPair a0) = some (VV.ag (c_SGearPair (a0.getD x13.toNat default))) from ld_whole ag50 c_SGearPair 2 sz50 len_c_SGearPair a0 default h637 (by omega))
   obtain ⟨h639, h⟩ := ifn h
   have e640 := (show loadL Go.Proofs.Try.prog 27 (0 + x13.toNat * 2) (List.flatMap c_SFrac y0) = some (VV.ag (c_SFrac (y0.getD x13.toNat default))) from ld_whole ag27 c_SFrac 2 sz27 len_c_SFrac y0 default h639 (by omega))
   obtain ⟨r641, h642, h⟩ := bs h
   have e643 := (nsupport_ratioOf_ok k (a0.getD x13.toNat default) _ h642)
   obtain ⟨r644, h645, h⟩ := bs h
   have e646 := (nnumber_Mul_ok k (y0.getD x13.toNat default) r641 _ h645)
   have e647 := (ti (ti (an h639 (an e640 (ti (an e643 (an e646 (ti (ti (ti (ti (ti (ti trivial)))))))))))))
   rcases ifs h with ⟨h648, h⟩ | ⟨h648, h⟩
   ·obtain ⟨h649, h⟩ := ifn h
    have e650 := (show List.length (List.flatMap c_SFrac y0) = y0.length * 2 ∧ List.length [vi r644.1.Num, vi r644.1.Den] = 1 * 2 ∧ (y0.length + 1) * 16 ≤ 140737488355328 ∧ y0.length + 1 < 1099511627776 ∧ List.all [vi r644.1.Num, vi r644.1.Den] VV.still = true from ⟨(by rw [flatMap_len len_c_SFrac] <;> simp), (by rw [show [vi r644.1.Num, vi r644.1.Den] = List.flatMap c_SFrac ([r644.1] : List SFrac) from rfl]; rw [flatMap_len len_c_SFrac] <;> simp), (by first | omega | (simp at h649 ⊢; omega)), (by first | omega | (simp at h649 ⊢; omega)), (by rw [show [vi r644.1.Num, vi r644.1.Den] = List.flatMap c_SFrac ([r644.1] : List SFrac) from rfl]; exact still_c_SFrac _)⟩)
    have h2 := ih _ _ _ h
    obtain ⟨q, hv, hq⟩ := pkR (rd := none) (P := Go.Proofs.Try.prog) (fn := Go.Proofs.Try.f56) (k := 0) (s := (nsupport_products_l0_0_h a0 y0 x13)) (ans := [.reg (.n :: []), .br true, .reg (.n :: .n :: .v (VV.ag (c_SGearPair (a0.getD x13.toNat default))) :: nN 3 []), .reg (arT1_0 y0 x13 r641 r644), .reg (.n :: .n :: []), .br false, .reg (nN 5 []), .reg (.n :: .n :: [])]) (c := ⟨[(4, some (VV.rf 0 0 ((y0 ++ ([r644.1] : List SFrac)).length))), (11, none), (12, none), (13, none)], [some (List.flatMap c_SFrac (y0 ++ ([r644.1] : List SFrac)))], []⟩) (e := .normal) (s1 := (nsupport_products_l0_0_h a0 (y0 ++ ([r644.1] : List SFrac)) (w64 (x13 + 1)))) (an (an (ti trivial) (an (an (decide_eq_true h636) trivial) (an (an (ti (an h637 (an e638 (ti (ti (ti trivial)))))) (an e647 (an (an (ti (ti trivial)) (an (not_f (decide_eq_true h648)) trivial)) (ti (ti (ti (an e650 (ti trivial)))))))) (ti (ti trivial))))) (an (an (show Wv (VV.rf 0 0 (y0.length + 1)) (VV.rf 0 0 ((y0 ++ ([r644.1] : List SFrac)).length)) from (Wv.of_eq (by simp))) trivial) (an (show (List.flatMap c_SFrac y0) ++ [vi r644.1.Num, vi r644.1.Den] = List.flatMap c_SFrac (y0 ++ ([r644.1] : List SFrac)) from (by rw [show [vi r644.1.Num, vi r644.1.Den] = List.flatMap c_SFrac ([r644.1] : List SFrac) from rfl]; exact List.flatMap_append.symm)) trivial))) (by kernel_rfl)
    cases r with
    | inl r => exact round_next pm pn hv hq h2
    | inr r =>
     exact round_next pm pn hv hq h2
   ·injection h with h; subst h
    exact round_stop (c := ⟨[(2, none), (3, none)], [], []⟩) (s1 := (nsupport_products_l0_0_e0 a0 r644.2)) pm pn (ans := [.reg (.n :: []), .br true, .reg (.n :: .n :: .v (VV.ag (c_SGearPair (a0.getD x13.toNat default))) :: nN 3 []), .reg (arT1_0 y0 x13 r641 r644), .reg (.n :: .n :: []), .br true, .reg (nN 3 [])]) (by kernel_rfl) (by intro e; cases e) (an (an (ti trivial) (an (an (decide_eq_true h636) trivial) (an (ti (an h637 (an e638 (ti (ti (ti trivial)))))) (an e647 (an (ti (ti trivial)) (an (not_t (decide_eq_false h648)) (an (ti (ti (ti trivial))) trivial))))))) (ti trivial))
  ·injection h with h; subst h
   exact round_stop (c := ⟨[(4, none)], [none], []⟩) (s1 := (nsupport_products_l0_0_e1 a0 y0)) pm pn (ans := [.reg (.n :: []), .br false]) (by kernel_rfl) (by intro e; cases e) (an (an (ti trivial) (an (decide_eq_false h636) trivial)) (ti trivial))
theorem eqT1_4 (z0 : (List SFrac)) : VV.tu [VV.fw 2 (List.drop 0 (List.map unfr (List.flatMap c_SFrac z0))) z0.length, vi 0] = VV.tu [VV.fw 2 (List.flatMap c_SFrac z0) z0.length, vi 0] := by first | rfl | (simp only [drop0, unfr_vi, List.map_cons, List.map_nil, un_i, List.length_map, List.length_cons, List.length_nil, unfr_c_SFrac]; done) | (simp only [drop0, unfr_vi, List.map_cons, List.map_nil, un_i, List.length_map, List.length_cons, List.length_nil, unfr_c_SFrac]; rfl) | (simp only [drop0, unfr_vi, List.map_cons, List.map_nil, un_i, List.length_map, List.length_cons, List.length_nil, unfr_c_SFrac, c_SFrac, List.length_cons, List.length_nil, List.length_append]; done)
def nsupport_products (k : Nat) (a0 : (List SGearPair)) : Option ((List SFrac) × Int) :=
  (nsupport_one k).bind fun r602 => ((nsupport_products_l0_0 k a0 k ([r602] : List SFrac) 0).bind fun r652 => (match r652 with | .inl r653 => (some ([], r653)) | .inr r654 => (some (r654, 0))))
theorem nsupport_products_ok (k : Nat) (a0 : (List SGearPair)) (r : ((List SFrac) × Int)) (h : nsupport_products k a0 = some r) : VC Go.Proofs.Try.prog 56 [VV.tr (List.flatMap c_SGearPair a0) a0.length] (VV.tu [VV.fw 2 (List.flatMap c_SFrac r.1) r.1.length, vi r.2]) := by
 unfold nsupport_products at h
 obtain ⟨r602, h603, h⟩ := bs h
 obtain ⟨r652, h651, h⟩ := bs h
 have hph651 := nsupport_products_l0_0_ok k a0 _ _ _ _ h651
 cases r652 with
 | inl r653 =>
  dsimp only at h
  have e655 := (an (an (an (show Wv (VV.rf 0 0 1) (VV.rf 0 0 (([r602] : List SFrac).length)) from (Wv.of_eq (by simp))) trivial) (an (show [vi r602.Num, vi r602.Den] = List.flatMap c_SFrac ([r602] : List SFrac) from rfl) trivial)) (VRun.loop hph651))
  injection h with h; subst h
  exact fun_ok pm pn Go.Proofs.Try.func56 (r0 := VV.tu [VV.c (.slice none 0 0), vi r653]) (ans := [.reg (.n :: .n :: []), .reg (.call (VV.ag (c_SFrac r602)) :: .n :: .n :: []), .reg (nN 3 []), .sub ⟨[(4, some (VV.rf 0 0 (([r602] : List SFrac).length))), (11, none), (12, none), (13, none)], [some (List.flatMap c_SFrac ([r602] : List SFrac))], []⟩ .ret (nsupport_products_l0_0_e0 a0 r653)]) (fr := true) (by kernel_rfl) (an (an (ti (ti trivial)) (an (an (nsupport_one_ok k _ h603) (ti (ti trivial))) (an (ti (ti (ti trivial))) e655))) (ti (ti trivial))) (Wv.tuL (.cons Wv.nilFw (.cons (Wv.refl _) .nil)))
 | inr r654 =>
  dsimp only at h
  have e656 := (an (an (an (show Wv (VV.rf 0 0 1) (VV.rf 0 0 (([r602] : List SFrac).length)) from (Wv.of_eq (by simp))) trivial) (an (show [vi r602.Num, vi r602.Den] = List.flatMap c_SFrac ([r602] : List SFrac) from rfl) trivial)) (VRun.loop hph651))
  injection h with h; subst h
  exact fun_ok pm pn Go.Proofs.Try.func56 (r0 := VV.tu [VV.fw 2 (List.drop 0 (List.map unfr (List.flatMap c_SFrac r654))) r654.length, vi 0]) (ans := [.reg (.n :: .n :: []), .reg (.call (VV.ag (c_SFrac r602)) :: .n :: .n :: []), .reg (nN 3 []), .sub ⟨[(4, some (VV.rf 0 0 (([r602] : List SFrac).length))), (11, none), (12, none), (13, none)], [some (List.flatMap c_SFrac ([r602] : List SFrac))], []⟩ (.exit 0) (nsupport_products_l0_0_e1 a0 r654), .reg (nN 3 [])]) (fr := true) (by kernel_rfl) (an (an (ti (ti trivial)) (an (an (nsupport_one_ok k _ h603) (ti (ti trivial))) (an (an (ti (ti (ti trivial))) e656) (an (ti (ti (ti trivial))) trivial)))) (an (show List.all (List.flatMap c_SFrac r654) new0 = true from (by exact new0_c_SFrac _)) (ti trivial))) (Wv.of_eq (eqT1_4 r654))
def arT1_1 (z0 : ((List SFrac) × Int)) : List Ans := (.n :: .call (VV.tu [VV.fr (List.flatMap c_SFrac z0.1) z0.1.length, vi z0.2]) :: nN 4 [])
def nsupport_beginnings (k : Nat) (a0 : (List SGearPair)) : Option ((List SFrac) × Int) :=
  (nsupport_CheckTrain k a0).bind fun r660 => (if r660 = 0 then ((nsupport_products k a0).bind fun r664 => (some (r664.1, r664.2))) else (some ([], r660)))
theorem nsupport_beginnings_ok (k : Nat) (a0 : (List SGearPair)) (r : ((List SFrac) × Int)) (h : nsupport_beginnings k a0 = some r) : VC Go.Proofs.Try.prog 32 [VV.tr (List.flatMap c_SGearPair a0) a0.length] (VV.tu [VV.fr (List.flatMap c_SFrac r.1) r.1.length, vi r.2]) := by
 unfold nsupport_beginnings at h
 obtain ⟨r660, h661, h⟩ := bs h
 have e662 := (ti (an (nsupport_CheckTrain_ok k a0 _ h661) (ti trivial)))
 rcases ifs h with ⟨h663, h⟩ | ⟨h663, h⟩
 ·obtain ⟨r664, h665, h⟩ := bs h
  have e666 := (show VC Go.Proofs.Try.prog 56 [VV.tr (List.flatMap c_SGearPair a0) a0.length] (VV.tu [VV.fr (List.flatMap c_SFrac r664.1) r664.1.length, vi r664.2]) from (VC.weak (nsupport_products_ok k a0 _ h665) (Wv.tuL (.cons (Wv.fw rfl rfl) (.cons (Wv.refl _) .nil)))))
  injection h with h; subst h
  exact fun_ok pm pn Go.Proofs.Try.func32 (r0 := VV.tu [VV.fr (List.flatMap c_SFrac r664.1) r664.1.length, vi r664.2]) (ans := [.reg (.n :: .n :: []), .reg (.n :: .call (vi r660) :: .n :: []), .reg (.n :: .n :: []), .br false, .reg (arT1_1 r664)]) (fr := true) (by kernel_rfl) (an (an (ti (ti trivial)) (an (an e662 (an (ti (ti trivial)) (an (not_f (decide_eq_true h663)) trivial))) (an (ti (an e666 (ti (ti (ti (ti trivial)))))) trivial))) (ti (ti trivial))) (Wv.refl _)
 ·injection h with h; subst h
  exact fun_ok pm pn Go.Proofs.Try.func32 (r0 := VV.tu [VV.c (.slice none 0 0), vi r660]) (ans := [.reg (.n :: .n :: []), .reg (.n :: .call (vi r660) :: .n :: []), .reg (.n :: .n :: []), .br true, .reg (nN 3 [])]) (fr := true) (by kernel_rfl) (an (an (ti (ti trivial)) (an e662 (an (ti (ti trivial)) (an (not_t (decide_eq_false h663)) (an (ti (ti (ti trivial))) trivial))))) (ti (ti trivial))) (Wv.tuL (.cons Wv.nilFr (.cons (Wv.refl _) .nil)))
def arT1_2 (z0 : ((List SFrac) × Int)) : List Ans := (.n :: .call (VV.tu [VV.fr (List.flatMap c_SFrac z0.1) z0.1.length, vi z0.2]) :: nN 5 [])
def arT1_3 (z0 : ((List SFrac) × Int)) (z1 : (List SGearPair)) : List Ans := (nN 4 (.v (VV.ag (c_SFrac (z0.1.getD (z1.length : Int).toNat default))) :: .n :: .n :: []))
theorem eqT1_5 (z0 : ((List SFrac) × Int)) : VV.tu [VV.ag [vi 0, vi 0], vi z0.2] = VV.tu [VV.ag (c_SFrac (⟨0, 0⟩ : SFrac)), vi z0.2] := by first | rfl | (simp only [unfr_vi, List.map_cons, List.map_nil, un_i, unfr_c_SFrac]; done) | (simp only [unfr_vi, List.map_cons, List.map_nil, un_i, unfr_c_SFrac]; rfl) | (simp only [unfr_vi, List.map_cons, List.map_nil, un_i, unfr_c_SFrac, c_SFrac, List.length_cons, List.length_nil, List.length_append]; done)
def nsupport_Ratio (k : Nat) (a0 : (List SGearPair)) : Option (SFrac × Int) :=
  (nsupport_beginnings k a0).bind fun r674 => (if r674.2 = 0 then (if 0 ≤ (a0.length : Int) ∧ (a0.length : Int) < (r674.1.length : Int) then (some ((r674.1.getD (a0.length : Int).toNat default), 0)) else none) else (some ((⟨0, 0⟩ : SFrac), r674.2)))
theorem nsupport_Ratio_ok (k : Nat) (a0 : (List SGearPair)) (r : (SFrac × Int)) (h : nsupport_Ratio k a0 = some r) : VC Go.Proofs.Try.prog 17 [VV.tr (List.flatMap c_SGearPair a0) a0.length] (VV.tu [VV.ag (c_SFrac r.1), vi r.2]) := by
 unfold nsupport_Ratio at h
 obtain ⟨r674, h675, h⟩ := bs h
 have e676 := (ti (an (nsupport_beginnings_ok k a0 _ h675) (ti (ti (ti (ti (ti trivial)))))))
 rcases ifs h with ⟨h677, h⟩ | ⟨h677, h⟩
 ·obtain ⟨h678, h⟩ := ifn h
  have e679 := (show loadL Go.Proofs.Try.prog 27 ((a0.length : Int).toNat * 2) (List.flatMap c_SFrac r674.1) = some (VV.ag (c_SFrac (r674.1.getD (a0.length : Int).toNat default))) from ld_whole ag27 c_SFrac 2 sz27 len_c_SFrac r674.1 default h678 (by omega))
  have e680 := (ti (ti (ti (an h678 (an e679 (ti (ti trivial)))))))
  injection h with h; subst h
  exact fun_ok pm pn Go.Proofs.Try.func17 (r0 := VV.tu [VV.ag (c_SFrac (r674.1.getD (a0.length : Int).toNat default)), vi 0]) (ans := [.reg (.n :: .n :: []), .reg (arT1_2 r674), .reg (.n :: .n :: []), .br false, .reg (arT1_3 r674 a0)]) (fr := true) (by kernel_rfl) (an (an (ti (ti trivial)) (an e676 (an (an (ti (ti trivial)) (an (not_f (decide_eq_true h677)) trivial)) (an e680 trivial)))) (an (ti (ti (ti trivial))) (ti trivial))) (Wv.refl _)
 ·injection h with h; subst h
  exact fun_ok pm pn Go.Proofs.Try.func17 (r0 := VV.tu [VV.ag [vi 0, vi 0], vi r674.2]) (ans := [.reg (.n :: .n :: []), .reg (arT1_2 r674), .reg (.n :: .n :: []), .br true, .reg (nN 4 [])]) (fr := true) (by kernel_rfl) (an (an (ti (ti trivial)) (an e676 (an (ti (ti trivial)) (an (not_t (decide_eq_false h677)) (an (ti (ti (ti (ti trivial)))) trivial))))) (an (ti (ti (ti trivial))) (ti trivial))) (Wv.of_eq (eqT1_5 r674))
def nspeculumlaw07_train (k : Nat) (a0 : (List SGearPair)) : Option (List SGearPair) :=
  if ([] : List SGearPair).length + a0.length ≤ 1000000000 then (some (([] : List SGearPair) ++ a0)) else none
theorem nspeculumlaw07_train_ok (k : Nat) (a0 : (List SGearPair)) (r : (List SGearPair)) (h : nspeculumlaw07_train k a0 = some r) : VC Go.Proofs.Try.prog 7 [VV.tr (List.flatMap c_SGearPair a0) a0.length] (VV.fw 2 (List.flatMap c_SGearPair r) r.length) := by
 unfold nspeculumlaw07_train at h
 obtain ⟨h683, h⟩ := ifn h
 have e684 := (show List.length [] = 0 * 2 ∧ List.length (List.flatMap c_SGearPair a0) = a0.length * 2 ∧ (0 + a0.length) * 16 ≤ 140737488355328 ∧ 0 + a0.length < 1099511627776 ∧ List.all (List.flatMap c_SGearPair a0) VV.still = true from ⟨(by rw [show [] = List.flatMap c_SGearPair ([] : List SGearPair) from rfl]; rw [flatMap_len len_c_SGearPair] <;> simp), (by rw [flatMap_len len_c_SGearPair] <;> simp), (by first | omega | (simp at h683 ⊢; omega)), (by first | omega | (simp at h683 ⊢; omega)), (by exact still_c_SGearPair _)⟩)
 injection h with h; subst h
 exact fun_ok pm pn Go.Proofs.Try.func7 (r0 := VV.fw 2 (List.drop 0 (List.map unfr ([] ++ (List.flatMap c_SGearPair a0)))) (0 + a0.length)) (ans := [.reg (.n :: []), .reg (nN 4 [])]) (fr := true) (by kernel_rfl) (an (an (ti trivial) (an (ti (ti (an e684 (ti trivial)))) trivial)) (an (show List.all ([] ++ (List.flatMap c_SGearPair a0)) new0 = true from (by rw [show [] ++ (List.flatMap c_SGearPair a0) = List.flatMap c_SGearPair (([] : List SGearPair) ++ a0) from (by rw [show [] = List.flatMap c_SGearPair ([] : List SGearPair) from rfl]; exact List.flatMap_append.symm)]; exact new0_c_SGearPair _)) trivial)) (Wv.of_eq (by simp only [show [] ++ (List.flatMap c_SGearPair a0) = List.flatMap c_SGearPair (([] : List SGearPair) ++ a0) from (by rw [show [] = List.flatMap c_SGearPair ([] : List SGearPair) from rfl]; exact List.flatMap_append.symm), drop0, unfr_vi, unfr_vb, unfr_vs, List.map_cons, List.map_nil, un_i, un_k, un_b, un_s, un_tr, un_fr, List.length_map, List.length_replicate, List.length_append, List.length_set, List.length_cons, List.length_nil, Nat.zero_add, unfr_c_SFrac, unfr_c_SGearPair]))
def nspeculumlaw07_short (k : Nat) (a0 : (List SGearPair)) : Option Bool :=
  if (a0.length : Int) ≤ 5 then (some true) else (if 12 < (a0.length : Int) then (some (decide ((a0.length : Int) ≤ 15))) else (some false))
theorem nspeculumlaw07_short_ok (k : Nat) (a0 : (List SGearPair)) (r : Bool) (h : nspeculumlaw07_short k a0 = some r) : VC Go.Proofs.Try.prog 5 [VV.tr (List.flatMap c_SGearPair a0) a0.length] (vb r) := by
 unfold nspeculumlaw07_short at h
 rcases ifs h with ⟨h692, h⟩ | ⟨h692, h⟩
 ·have e693 := (ti (ti (ti (ti (an (decide_eq_true h692) (an (decide_eq_true h692) (an (decide_eq_true h692) (an (decide_eq_true h692) (ti (ti (ti (an (decide_eq_true h692) (an (decide_eq_true h692) (ti trivial))))))))))))))
  injection h with h; subst h
  exact fun_ok pm pn Go.Proofs.Try.func5 (r0 := vb true) (ans := [.reg (.n :: []), .reg (nN 4 (nS 8 (.b true :: .n :: [])))]) (fr := true) (by kernel_rfl) (an (an (ti trivial) (an e693 trivial)) (ti trivial)) (Wv.refl _)
 ·rcases ifs h with ⟨h694, h⟩ | ⟨h694, h⟩
  ·have e695 := (an (decide_eq_false h692) (decide_eq_true h694))
   have e696 := (ti (ti (ti (ti (an (an (decide_eq_false h692) trivial) (an (an (decide_eq_false h692) trivial) (an (an (decide_eq_false h692) trivial) (an (an (decide_eq_false h692) trivial) (an (an (decide_eq_true h694) trivial) (an (an (decide_eq_true h694) trivial) (an (an (decide_eq_true h694) trivial) (an e695 (an (decide_eq_false h692) (ti trivial))))))))))))))
   injection h with h; subst h
   exact fun_ok pm pn Go.Proofs.Try.func5 (r0 := vb (decide ((a0.length : Int) ≤ 15))) (ans := [.reg (.n :: []), .reg (nN 11 (.b true :: .b false :: .n :: []))]) (fr := true) (by kernel_rfl) (an (an (ti trivial) (an e696 trivial)) (ti trivial)) (Wv.refl _)
  ·have e697 := (an (decide_eq_false h692) (decide_eq_false h694))
   have e698 := (ti (ti (ti (ti (an (an (decide_eq_false h692) trivial) (an (an (decide_eq_false h692) trivial) (an (an (decide_eq_false h692) trivial) (an (an (decide_eq_false h692) trivial) (an (decide_eq_false h694) (an (decide_eq_false h694) (an (decide_eq_false h694) (an e697 (an (decide_eq_false h692) (ti trivial))))))))))))))
   injection h with h; subst h
   exact fun_ok pm pn Go.Proofs.Try.func5 (r0 := vb false) (ans := [.reg (.n :: []), .reg (nN 8 (nS 3 (.b false :: .b false :: .n :: [])))]) (fr := true) (by kernel_rfl) (an (an (ti trivial) (an e698 trivial)) (ti trivial)) (Wv.refl _)
def nspeculumbase_Within (k : Nat) (a0 : Int) (a1 : Int) (a2 : Int) : Option Bool :=
  if a1 ≤ a0 then (some (decide (a0 ≤ a2))) else (some false)
theorem nspeculumbase_Within_ok (k : Nat) (a0 : Int) (a1 : Int) (a2 : Int) (r : Bool) (h : nspeculumbase_Within k a0 a1 a2 = some r) : VC Go.Proofs.Try.prog 25 [vi a0, vi a1, vi a2] (vb r) := by
 unfold nspeculumbase_Within at h
 rcases ifs h with ⟨h706, h⟩ | ⟨h706, h⟩
 ·have e707 := (ti (ti (ti (ti (an (an (decide_eq_true h706) trivial) (an (an (decide_eq_true h706) trivial) (an (an (decide_eq_true h706) trivial) (an (decide_eq_true h706) (ti trivial)))))))))
  injection h with h; subst h
  exact fun_ok pm pn Go.Proofs.Try.func25 (r0 := vb (decide (a0 ≤ a2))) (ans := [.reg (.n :: []), .reg (nN 7 (.b true :: .n :: []))]) (fr := true) (by kernel_rfl) (an (an (ti trivial) (an e707 trivial)) (ti trivial)) (Wv.refl _)
 ·have e708 := (ti (ti (ti (ti (an (decide_eq_false h706) (an (decide_eq_false h706) (an (decide_eq_false h706) (an (decide_eq_false h706) (ti trivial)))))))))
  injection h with h; subst h
  exact fun_ok pm pn Go.Proofs.Try.func25 (r0 := vb false) (ans := [.reg (.n :: []), .reg (nN 4 (nS 3 (.b false :: .n :: [])))]) (fr := true) (by kernel_rfl) (an (an (ti trivial) (an e708 trivial)) (ti trivial)) (Wv.refl _)
def nspeculumref07_isTeeth (k : Nat) (a0 : Int) : Option Bool :=
  (nspeculumbase_Within k a0 1 500).bind fun r712 => (some r712)
theorem nspeculumref07_isTeeth_ok (k : Nat) (a0 : Int) (r : Bool) (h : nspeculumref07_isTeeth k a0 = some r) : VC Go.Proofs.Try.prog 23 [vi a0] (vb r) := by
 unfold nspeculumref07_isTeeth at h
 obtain ⟨r712, h713, h⟩ := bs h
 have e714 := (nspeculumbase_Within_ok k a0 1 500 _ h713)
 injection h with h; subst h
 exact fun_ok pm pn Go.Proofs.Try.func23 (r0 := vb r712) (ans := [.reg (.n :: []), .reg (.n :: .call (vb r712) :: .n :: [])]) (fr := true) (by kernel_rfl) (an (an (ti trivial) (an (ti (an e714 (ti trivial))) trivial)) (ti trivial)) (Wv.refl _)
def arT1_4 (z0 : (List SGearPair)) (z1 : Int) (z2 : Bool) (z3 : Bool) : List Ans := (nN 4 (.v (vi ((z0.getD z1.toNat default).Driver)) :: .call (vb z2) :: nN 6 (.v (vi ((z0.getD z1.toNat default).Driven)) :: .call (vb z3) :: .n :: .b false :: [])))
def arT1_5 (z0 : (List SGearPair)) (z1 : Int) (z2 : Bool) : List Ans := (nN 4 (.v (vi ((z0.getD z1.toNat default).Driver)) :: .call (vb z2) :: .n :: .n :: nS 7 (.b true :: [])))
def nspeculumref07_CheckTrain_l0_0_h (a0 : (List SGearPair)) (x3 : Int) : VS := ⟨mkA [(0, VV.tr (List.flatMap c_SGearPair a0) a0.length), (3, vi x3)], [], .nil⟩
def nspeculumref07_CheckTrain_l0_0_e0 (a0 : (List SGearPair)) (r : Unit) : VS := ⟨mkA [(2, vi 2)], [], .nil⟩
def nspeculumref07_CheckTrain_l0_0_e1 (a0 : (List SGearPair)) (r : Unit) : VS := ⟨mkA [], [], .nil⟩
def nspeculumref07_CheckTrain_l0_0 (k : Nat) (a0 : (List SGearPair)) : Nat → Int → Option (Sum Unit Unit)
  | 0, _ => none
  | fuel + 1, x3 => if x3 < (a0.length : Int) then (if 0 ≤ x3 ∧ x3 < (a0.length : Int) then ((nspeculumref07_isTeeth k ((a0.getD x3.toNat default).Driver)).bind fun r792 => (if r792 = true then ((nspeculumref07_isTeeth k ((a0.getD x3.toNat default).Driven)).bind fun r797 => (if r797 = true then (nspeculumref07_CheckTrain_l0_0 k a0 fuel (w64 (x3 + 1))) else (some (.inl ())))) else (some (.inl ())))) else none) else (some (.inr ()))
theorem nspeculumref07_CheckTrain_l0_0_ok (k : Nat) (a0 : (List SGearPair)) : ∀ (fuel : Nat) (x3 : Int) (r : Sum Unit Unit), nspeculumref07_CheckTrain_l0_0 k a0 fuel x3 = some r → (match r with | .inl r => VLoop none Go.Proofs.Try.prog (szF Go.Proofs.Try.f9) (bodyOf Go.Proofs.Try.f9 0) (nspeculumref07_CheckTrain_l0_0_h a0 x3) .ret (nspeculumref07_CheckTrain_l0_0_e0 a0 r) | .inr r => VLoop none Go.Proofs.Try.prog (szF Go.Proofs.Try.f9) (bodyOf Go.Proofs.Try.f9 0) (nspeculumref07_CheckTrain_l0_0_h a0 x3) (.exit 0) (nspeculumref07_CheckTrain_l0_0_e1 a0 r)) := by
 intro fuel
 induction fuel with
 | zero => intro x3 r h; rw [nspeculumref07_CheckTrain_l0_0.eq_1] at h; cases h
 | succ fuel ih =>
  intro x3 r h
  rw [nspeculumref07_CheckTrain_l0_0.eq_2] at h
  rcases ifs h with ⟨h789, h⟩ | ⟨h789, h⟩
  ·obtain ⟨h790, h⟩ := ifn h
   have e791 := (show loadL Go.Proofs.Try.prog 3 (x3.toNat * 2 + 0) (List.flatMap c_SGearPair a0) = some (vi ((a0.getD x3.toNat default).Driver)) from (ld_flat ag3 c_SGearPair 2 0 len_c_SGearPair (by omega) a0 default h790 (by omega)).trans rfl)
   obtain ⟨r792, h793, h⟩ := bs h
   have e794 := (nspeculumref07_isTeeth_ok k ((a0.getD x3.toNat default).Driver) _ h793)
   rcases ifs h with ⟨h795, h⟩ | ⟨h795, h⟩
   ·have e796 := (an (not_f h795) (show loadL Go.Proofs.Try.prog 3 (x3.toNat * 2 + 1) (List.flatMap c_SGearPair a0) = some (vi ((a0.getD x3.toNat default).Driven)) from (ld_flat ag3 c_SGearPair 2 1 len_c_SGearPair (by omega) a0 default h790 (by omega)).trans rfl))
    obtain ⟨r797, h798, h⟩ := bs h
    have e799 := (an (not_f h795) (nspeculumref07_isTeeth_ok k ((a0.getD x3.toNat default).Driven) _ h798))
    have e800 := (ti (ti (an h790 (ti (an e791 (an e794 (ti (ti (an (an (not_f h795) trivial) (an (an (not_f h795) trivial) (an (an (not_f h795) h790) (an (an (not_f h795) trivial) (an e796 (an e799 (an (an (not_f h795) trivial) (an (not_f h795) trivial))))))))))))))))
    rcases ifs h with ⟨h801, h⟩ | ⟨h801, h⟩
    ·have h2 := ih _ _ h
     obtain ⟨q, hv, hq⟩ := pkR (rd := none) (P := Go.Proofs.Try.prog) (fn := Go.Proofs.Try.f9) (k := 0) (s := (nspeculumref07_CheckTrain_l0_0_h a0 x3)) (ans := [.reg (nN 4 []), .br true, .reg (arT1_4 a0 x3 r792 r797), .br false, .reg (nN 3 [])]) (c := ⟨[(0, none), (3, none)], [], []⟩) (e := .normal) (s1 := (nspeculumref07_CheckTrain_l0_0_h a0 (w64 (x3 + 1)))) (an (an (an (ti (ti (ti (ti trivial)))) (an (decide_eq_true h789) trivial)) (an (an e800 (an (not_f h801) trivial)) (ti (ti (ti trivial))))) (ti trivial)) (by kernel_rfl)
     cases r with
     | inl r => exact round_next pm pn hv hq h2
     | inr r =>
      exact round_next pm pn hv hq h2
    ·injection h with h; subst h
     exact round_stop (c := ⟨[(2, none)], [], []⟩) (s1 := (nspeculumref07_CheckTrain_l0_0_e0 a0 ())) pm pn (ans := [.reg (nN 4 []), .br true, .reg (arT1_4 a0 x3 r792 r797), .br true, .reg (.n :: [])]) (by kernel_rfl) (by intro e; cases e) (an (an (an (ti (ti (ti (ti trivial)))) (an (decide_eq_true h789) trivial)) (an e800 (an (not_t (bool_f h801)) (an (ti trivial) trivial)))) (ti trivial))
   ·have e802 := (ti (ti (an h790 (ti (an e791 (an e794 (ti (ti (an (not_t (bool_f h795)) (an (not_t (bool_f h795)) (an (not_t (bool_f h795)) (an (not_t (bool_f h795)) (an (not_t (bool_f h795)) (an (not_t (bool_f h795)) (an (not_t (bool_f h795)) (an (not_t (bool_f h795)) trivial))))))))))))))))
    injection h with h; subst h
    exact round_stop (c := ⟨[(2, none)], [], []⟩) (s1 := (nspeculumref07_CheckTrain_l0_0_e0 a0 ())) pm pn (ans := [.reg (nN 4 []), .br true, .reg (arT1_5 a0 x3 r792), .br true, .reg (.n :: [])]) (by kernel_rfl) (by intro e; cases e) (an (an (an (ti (ti (ti (ti trivial)))) (an (decide_eq_true h789) trivial)) (an e802 (an rt (an (ti trivial) trivial)))) (ti trivial))
  ·injection h with h; subst h
   exact round_stop (c := ⟨[], [], []⟩) (s1 := (nspeculumref07_CheckTrain_l0_0_e1 a0 ())) pm pn (ans := [.reg (nN 4 []), .br false]) (by kernel_rfl) (by intro e; cases e) (an (an (ti (ti (ti (ti trivial)))) (an (decide_eq_false h789) trivial)) (ti trivial))
def nspeculumref07_CheckTrain (k : Nat) (a0 : (List SGearPair)) : Option Int :=
  if 12 < (a0.length : Int) then (some 8) else ((nspeculumref07_CheckTrain_l0_0 k a0 k 0).bind fun r804 => (match r804 with | .inl r805 => (some 2) | .inr r806 => (some 0)))
theorem nspeculumref07_CheckTrain_ok (k : Nat) (a0 : (List SGearPair)) (r : Int) (h : nspeculumref07_CheckTrain k a0 = some r) : VC Go.Proofs.Try.prog 9 [VV.tr (List.flatMap c_SGearPair a0) a0.length] (vi r) := by
 unfold nspeculumref07_CheckTrain at h
 rcases ifs h with ⟨h760, h⟩ | ⟨h760, h⟩
 ·injection h with h; subst h
  exact fun_ok pm pn Go.Proofs.Try.func9 (r0 := vi 8) (ans := [.reg (.n :: []), .reg (nN 3 []), .br true, .reg (.n :: [])]) (fr := true) (by kernel_rfl) (an (an (ti trivial) (an (ti (ti (ti trivial))) (an (decide_eq_true h760) (an (ti trivial) trivial)))) (ti trivial)) (Wv.refl _)
 ·obtain ⟨r804, h803, h⟩ := bs h
  have hph803 := nspeculumref07_CheckTrain_l0_0_ok k a0 _ _ _ h803
  cases r804 with
  | inl r805 =>
   dsimp only at h
   have e807 := (an (ti trivial) (VRun.loop hph803))
   injection h with h; subst h
   exact fun_ok pm pn Go.Proofs.Try.func9 (r0 := vi 2) (ans := [.reg (.n :: []), .reg (nN 3 []), .br false, .reg (.n :: []), .sub ⟨[(0, none), (3, none)], [], []⟩ .ret (nspeculumref07_CheckTrain_l0_0_e0 a0 r805)]) (fr := true) (by kernel_rfl) (an (an (ti trivial) (an (an (ti (ti (ti trivial))) (an (decide_eq_false h760) trivial)) (an (ti trivial) e807))) (ti trivial)) (Wv.refl _)
  | inr r806 =>
   dsimp only at h
   have e808 := (an (ti trivial) (VRun.loop hph803))
   injection h with h; subst h
   exact fun_ok pm pn Go.Proofs.Try.func9 (r0 := vi 0) (ans := [.reg (.n :: []), .reg (nN 3 []), .br false, .reg (.n :: []), .sub ⟨[(0, none), (3, none)], [], []⟩ (.exit 0) (nspeculumref07_CheckTrain_l0_0_e1 a0 r806), .reg (.n :: [])]) (fr := true) (by kernel_rfl) (an (an (ti trivial) (an (an (ti (ti (ti trivial))) (an (decide_eq_false h760) trivial)) (an (an (ti trivial) e808) (an (ti trivial) trivial)))) (ti trivial)) (Wv.refl _)
def nspeculumref07_of (k : Nat) (a0 : SGearPair) : Option SFrac :=
  (nspeculumbase_Lowest k a0.Driver a0.Driven).bind fun r819 => (some r819)
theorem nspeculumref07_of_ok (k : Nat) (a0 : SGearPair) (r : SFrac) (h : nspeculumref07_of k a0 = some r) : VC Go.Proofs.Try.prog 65 [VV.ag (c_SGearPair a0)] (VV.ag (c_SFrac r)) := by
 unfold nspeculumref07_of at h
 obtain ⟨r819, h820, h⟩ := bs h
 have e821 := (nspeculumbase_Lowest_ok k a0.Driver a0.Driven _ h820)
 injection h with h; subst h
 exact fun_ok pm pn Go.Proofs.Try.func65 (r0 := VV.ag (c_SFrac r819)) (ans := [.reg (.n :: .n :: []), .reg (nN 4 (.call (VV.ag (c_SFrac r819)) :: .n :: []))]) (fr := true) (by kernel_rfl) (an (an (ti (ti trivial)) (an (ti (ti (ti (ti (an e821 (ti trivial)))))) trivial)) (an (ti (ti (ti trivial))) trivial)) (Wv.refl _)
def arT1_6 (z0 : List SFrac) (z1 : Int) (z2 : (List SGearPair)) (z3 : SFrac) (z4 : (SFrac × Int)) : List Ans := (nN 3 (.v (VV.ag (c_SFrac (z0.getD z1.toNat default))) :: nN 3 (.v (VV.ag (c_SGearPair (z2.getD z1.toNat default))) :: .call (VV.ag (c_SFrac z3)) :: .call (VV.tu [VV.ag (c_SFrac z4.1), vi z4.2]) :: nN 6 [])))
def nspeculumref07_Beginnings_l0_0_h (a0 : (List SGearPair)) (y0 : List SFrac) (x5 : Int) : VS := ⟨mkA [(0, VV.tr (List.flatMap c_SGearPair a0) a0.length), (4, VV.rf 0 0 y0.length), (5, vi x5)], [some ⟨false, 2, List.flatMap c_SFrac y0⟩], .nil⟩
def nspeculumref07_Beginnings_l0_0_e0 (a0 : (List SGearPair)) (r : Unit) : VS := ⟨mkA [(2, VV.c (.slice none 0 0)), (3, vb false)], [], .nil⟩
def nspeculumref07_Beginnings_l0_0_e1 (a0 : (List SGearPair)) (r : (List SFrac)) : VS := ⟨mkA [(4, VV.rf 0 0 r.length)], [some ⟨false, 2, List.flatMap c_SFrac r⟩], .nil⟩
def nspeculumref07_Beginnings_l0_0 (k : Nat) (a0 : (List SGearPair)) : Nat → (List SFrac) → Int → Option (Sum Unit (List SFrac))
  | 0, _, _ => none
  | fuel + 1, y0, x5 => if x5 < (a0.length : Int) then (if 0 ≤ x5 ∧ x5 < (y0.length : Int) then (if 0 ≤ x5 ∧ x5 < (a0.length : Int) then ((nspeculumref07_of k (a0.getD x5.toNat default)).bind fun r905 => ((nspeculumref01_Mul k (y0.getD x5.toNat default) r905).bind fun r908 => (if r908.2 = 0 then (if y0.length + ([r908.1] : List SFrac).length ≤ 1000000000 then (nspeculumref07_Beginnings_l0_0 k a0 fuel (y0 ++ ([r908.1] : List SFrac)) (w64 (x5 + 1))) else none) else (some (.inl ()))))) else none) else none) else (some (.inr y0))
theorem nspeculumref07_Beginnings_l0_0_ok (k : Nat) (a0 : (List SGearPair)) : ∀ (fuel : Nat) (y0 : List SFrac) (x5 : Int) (r : Sum Unit (List SFrac)), nspeculumref07_Beginnings_l0_0 k a0 fuel y0 x5 = some r → (match r with | .inl r => VLoop none Go.Proofs.Try.prog (szF Go.Proofs.Try.f40) (bodyOf Go.Proofs.Try.f40 0) (nspeculumref07_Beginnings_l0_0_h a0 y0 x5) .ret (nspeculumref07_Beginnings_l0_0_e0 a0 r) | .inr r => VLoop none Go.Proofs.Try.prog (szF Go.Proofs.Try.f40) (bodyOf Go.Proofs.Try.f40 0) (nspeculumref07_Beginnings_l0_0_h a0 y0 x5) (.exit 0) (nspeculumref07_Beginnings_l0_0_e1 a0 r)) := by
 intro fuel
 induction fuel with
 | zero => intro y0 x5 r h; rw [nspeculumref07_Beginnings_l0_0.eq_1] at h; cases h
 | succ fuel ih =>
  intro y0 x5 r h
  rw [nspeculumref07_Beginnings_l0_0.eq_2] at h
  rcases ifs h with ⟨h900, h⟩ | ⟨h900, h⟩
  ·obtain ⟨h901, h⟩ := ifn h
   have e902 := (show loadL Go.Proofs.Try.prog 27 (0 + x5.toNat * 2) (List.flatMap c_SFrac y0) = some (VV.ag (c_SFrac (y0.getD x5.toNat default))) from ld_whole ag27 c_SFrac 2 sz27 len_c_SFrac y0 default h901 (by omega))
   obtain ⟨h903, h⟩ := ifn h
   have e904 := (show loadL Go.Proofs.Try.prog 50 (x5.toNat * 2) (List.flatMap c_SGearPair a0) = some (VV.ag (c_SGearPair (a0.getD x5.toNat default))) from ld_whole ag50 c_SGearPair 2 sz50 len_c_SGearPair a0 default h903 (by omega))
   obtain ⟨r905, h906, h⟩ := bs h
   have e907 := (nspeculumref07_of_ok k (a0.getD x5.toNat default) _ h906)
   obtain ⟨r908, h909, h⟩ := bs h
   have e910 := (nspeculumref01_Mul_ok k (y0.getD x5.toNat default) r905 _ h909)
   have e911 := (ti (ti (an h901 (an e902 (ti (ti (an h903 (an e904 (an e907 (an e910 (ti (ti (ti (ti (ti (ti trivial))))))))))))))))
   rcases ifs h with ⟨h912, h⟩ | ⟨h912, h⟩
   ·obtain ⟨h913, h⟩ := ifn h
    have e914 := (show List.length (List.flatMap c_SFrac y0) = y0.length * 2 ∧ List.length [vi r908.1.Num, vi r908.1.Den] = 1 * 2 ∧ (y0.length + 1) * 16 ≤ 140737488355328 ∧ y0.length + 1 < 1099511627776 ∧ List.all [vi r908.1.Num, vi r908.1.Den] VV.still = true from ⟨(by rw [flatMap_len len_c_SFrac] <;> simp), (by rw [show [vi r908.1.Num, vi r908.1.Den] = List.flatMap c_SFrac ([r908.1] : List SFrac) from rfl]; rw [flatMap_len len_c_SFrac] <;> simp), (by first | omega | (simp at h913 ⊢; omega)), (by first | omega | (simp at h913 ⊢; omega)), (by rw [show [vi r908.1.Num, vi r908.1.Den] = List.flatMap c_SFrac ([r908.1] : List SFrac) from rfl]; exact still_c_SFrac _)⟩)
    have h2 := ih _ _ _ h
    obtain ⟨q, hv, hq⟩ := pkR (rd := none) (P := Go.Proofs.Try.prog) (fn := Go.Proofs.Try.f40) (k := 0) (s := (nspeculumref07_Beginnings_l0_0_h a0 y0 x5)) (ans := [.reg (nN 4 []), .br true, .reg (arT1_6 y0 x5 a0 r905 r908), .reg (.n :: .n :: []), .br false, .reg (nN 5 []), .reg (nN 3 [])]) (c := ⟨[(0, none), (4, some (VV.rf 0 0 ((y0 ++ ([r908.1] : List SFrac)).length))), (5, none)], [some (List.flatMap c_SFrac (y0 ++ ([r908.1] : List SFrac)))], []⟩) (e := .normal) (s1 := (nspeculumref07_Beginnings_l0_0_h a0 (y0 ++ ([r908.1] : List SFrac)) (w64 (x5 + 1)))) (an (an (an (ti (ti (ti (ti trivial)))) (an (decide_eq_true h900) trivial)) (an (an e911 (an (an (ti (ti trivial)) (an (not_f (decide_eq_true h912)) trivial)) (ti (ti (ti (an e914 (ti trivial))))))) (ti (ti (ti trivial))))) (an (an (show Wv (VV.rf 0 0 (y0.length + 1)) (VV.rf 0 0 ((y0 ++ ([r908.1] : List SFrac)).length)) from (Wv.of_eq (by simp))) trivial) (an (show (List.flatMap c_SFrac y0) ++ [vi r908.1.Num, vi r908.1.Den] = List.flatMap c_SFrac (y0 ++ ([r908.1] : List SFrac)) from (by rw [show [vi r908.1.Num, vi r908.1.Den] = List.flatMap c_SFrac ([r908.1] : List SFrac) from rfl]; exact List.flatMap_append.symm)) trivial))) (by kernel_rfl)
    cases r with
    | inl r => exact round_next pm pn hv hq h2
    | inr r =>
     exact round_next pm pn hv hq h2
   ·injection h with h; subst h
    exact round_stop (c := ⟨[(2, none), (3, none)], [], []⟩) (s1 := (nspeculumref07_Beginnings_l0_0_e0 a0 ())) pm pn (ans := [.reg (nN 4 []), .br true, .reg (arT1_6 y0 x5 a0 r905 r908), .reg (.n :: .n :: []), .br true, .reg (.n :: .n :: [])]) (by kernel_rfl) (by intro e; cases e) (an (an (an (ti (ti (ti (ti trivial)))) (an (decide_eq_true h900) trivial)) (an e911 (an (ti (ti trivial)) (an (not_t (decide_eq_false h912)) (an (ti (ti trivial)) trivial))))) (ti trivial))
  ·injection h with h; subst h
   exact round_stop (c := ⟨[(4, none)], [none], []⟩) (s1 := (nspeculumref07_Beginnings_l0_0_e1 a0 y0)) pm pn (ans := [.reg (nN 4 []), .br false]) (by kernel_rfl) (by intro e; cases e) (an (an (ti (ti (ti (ti trivial)))) (an (decide_eq_false h900) trivial)) (ti trivial))
theorem eqT1_6 (z0 : (List SFrac)) : VV.tu [VV.fw 2 (List.drop 0 (List.map unfr (List.flatMap c_SFrac z0))) z0.length, vb true] = VV.tu [VV.fw 2 (List.flatMap c_SFrac z0) z0.length, vb true] := by first | rfl | (simp only [drop0, unfr_vb, List.map_cons, List.map_nil, un_b, List.length_map, List.length_cons, List.length_nil, unfr_c_SFrac]; done) | (simp only [drop0, unfr_vb, List.map_cons, List.map_nil, un_b, List.length_map, List.length_cons, List.length_nil, unfr_c_SFrac]; rfl) | (simp only [drop0, unfr_vb, List.map_cons, List.map_nil, un_b, List.length_map, List.length_cons, List.length_nil, unfr_c_SFrac, c_SFrac, List.length_cons, List.length_nil, List.length_append]; done)
def nspeculumref07_Beginnings (k : Nat) (a0 : (List SGearPair)) : Option ((List SFrac) × Bool) :=
  (nspeculumref07_Beginnings_l0_0 k a0 k ([(⟨1, 1⟩ : SFrac)] : List SFrac) 0).bind fun r916 => (match r916 with | .inl r917 => (some ([], false)) | .inr r918 => (some (r918, true)))
theorem nspeculumref07_Beginnings_ok (k : Nat) (a0 : (List SGearPair)) (r : ((List SFrac) × Bool)) (h : nspeculumref07_Beginnings k a0 = some r) : VC Go.Proofs.Try.prog 40 [VV.tr (List.flatMap c_SGearPair a0) a0.length] (VV.tu [VV.fw 2 (List.flatMap c_SFrac r.1) r.1.length, vb r.2]) := by
 unfold nspeculumref07_Beginnings at h
 obtain ⟨r916, h915, h⟩ := bs h
 have hph915 := nspeculumref07_Beginnings_l0_0_ok k a0 _ _ _ _ h915
 cases r916 with
 | inl r917 =>
  dsimp only at h
  have e919 := (an (an (an (show Wv (VV.rf 0 0 1) (VV.rf 0 0 (([(⟨1, 1⟩ : SFrac)] : List SFrac).length)) from (Wv.of_eq (by simp))) trivial) (an (show [vi 1, vi 1] = List.flatMap c_SFrac ([(⟨1, 1⟩ : SFrac)] : List SFrac) from rfl) trivial)) (VRun.loop hph915))
  injection h with h; subst h
  exact fun_ok pm pn Go.Proofs.Try.func40 (r0 := VV.tu [VV.c (.slice none 0 0), vb false]) (ans := [.reg (.n :: .n :: []), .reg (nN 3 []), .reg (.n :: []), .sub ⟨[(0, none), (4, some (VV.rf 0 0 (([(⟨1, 1⟩ : SFrac)] : List SFrac).length))), (5, none)], [some (List.flatMap c_SFrac ([(⟨1, 1⟩ : SFrac)] : List SFrac))], []⟩ .ret (nspeculumref07_Beginnings_l0_0_e0 a0 r917)]) (fr := true) (by kernel_rfl) (an (an (ti (ti trivial)) (an (ti (ti (ti trivial))) (an (ti trivial) e919))) (ti (ti trivial))) (Wv.tuL (.cons Wv.nilFw (.cons (Wv.refl _) .nil)))
 | inr r918 =>
  dsimp only at h
  have e920 := (an (an (an (show Wv (VV.rf 0 0 1) (VV.rf 0 0 (([(⟨1, 1⟩ : SFrac)] : List SFrac).length)) from (Wv.of_eq (by simp))) trivial) (an (show [vi 1, vi 1] = List.flatMap c_SFrac ([(⟨1, 1⟩ : SFrac)] : List SFrac) from rfl) trivial)) (VRun.loop hph915))
  injection h with h; subst h
  exact fun_ok pm pn Go.Proofs.Try.func40 (r0 := VV.tu [VV.fw 2 (List.drop 0 (List.map unfr (List.flatMap c_SFrac r918))) r918.length, vb true]) (ans := [.reg (.n :: .n :: []), .reg (nN 3 []), .reg (.n :: []), .sub ⟨[(0, none), (4, some (VV.rf 0 0 (([(⟨1, 1⟩ : SFrac)] : List SFrac).length))), (5, none)], [some (List.flatMap c_SFrac ([(⟨1, 1⟩ : SFrac)] : List SFrac))], []⟩ (.exit 0) (nspeculumref07_Beginnings_l0_0_e1 a0 r918), .reg (nN 3 [])]) (fr := true) (by kernel_rfl) (an (an (ti (ti trivial)) (an (ti (ti (ti trivial))) (an (an (ti trivial) e920) (an (ti (ti (ti trivial))) trivial)))) (an (show List.all (List.flatMap c_SFrac r918) new0 = true from (by exact new0_c_SFrac _)) (ti trivial))) (Wv.of_eq (eqT1_6 r918))
def arT1_7 (z0 : ((List SFrac) × Bool)) : List Ans := (.n :: .call (VV.tu [VV.fr (List.flatMap c_SFrac z0.1) z0.1.length, vb z0.2]) :: nN 5 [])
def arT1_8 (z0 : ((List SFrac) × Bool)) (z1 : (List SGearPair)) : List Ans := (nN 4 (.v (VV.ag (c_SFrac (z0.1.getD (z1.length : Int).toNat default))) :: .n :: .n :: []))
theorem eqT1_7  : VV.tu [VV.ag [vi 0, vi 0], vi 8] = VV.tu [VV.ag (c_SFrac (⟨0, 0⟩ : SFrac)), vi 8] := by first | rfl | (simp only [unfr_vi, List.map_cons, List.map_nil, un_i, unfr_c_SFrac]; done) | (simp only [unfr_vi, List.map_cons, List.map_nil, un_i, unfr_c_SFrac]; rfl) | (simp only [unfr_vi, List.map_cons, List.map_nil, un_i, unfr_c_SFrac, c_SFrac, List.length_cons, List.length_nil, List.length_append]; done)
def nspeculumref07_Ratio (k : Nat) (a0 : (List SGearPair)) : Option (SFrac × Int) :=
  (nspeculumref07_Beginnings k a0).bind fun r928 => (if r928.2 = true then (if 0 ≤ (a0.length : Int) ∧ (a0.length : Int) < (r928.1.length : Int) then (some ((r928.1.getD (a0.length : Int).toNat default), 0)) else none) else (some ((⟨0, 0⟩ : SFrac), 8)))
theorem nspeculumref07_Ratio_ok (k : Nat) (a0 : (List SGearPair)) (r : (SFrac × Int)) (h : nspeculumref07_Ratio k a0 = some r) : VC Go.Proofs.Try.prog 24 [VV.tr (List.flatMap c_SGearPair a0) a0.length] (VV.tu [VV.ag (c_SFrac r.1), vi r.2]) := by
 unfold nspeculumref07_Ratio at h
 obtain ⟨r928, h929, h⟩ := bs h
 have e930 := (show VC Go.Proofs.Try.prog 40 [VV.tr (List.flatMap c_SGearPair a0) a0.length] (VV.tu [VV.fr (List.flatMap c_SFrac r928.1) r928.1.length, vb r928.2]) from (VC.weak (nspeculumref07_Beginnings_ok k a0 _ h929) (Wv.tuL (.cons (Wv.fw rfl rfl) (.cons (Wv.refl _) .nil)))))
 rcases ifs h with ⟨h931, h⟩ | ⟨h931, h⟩
 ·obtain ⟨h932, h⟩ := ifn h
  have e933 := (show loadL Go.Proofs.Try.prog 27 ((a0.length : Int).toNat * 2) (List.flatMap c_SFrac r928.1) = some (VV.ag (c_SFrac (r928.1.getD (a0.length : Int).toNat default))) from ld_whole ag27 c_SFrac 2 sz27 len_c_SFrac r928.1 default h932 (by omega))
  have e934 := (ti (ti (ti (an h932 (an e933 (ti (ti trivial)))))))
  injection h with h; subst h
  exact fun_ok pm pn Go.Proofs.Try.func24 (r0 := VV.tu [VV.ag (c_SFrac (r928.1.getD (a0.length : Int).toNat default)), vi 0]) (ans := [.reg (.n :: .n :: []), .reg (arT1_7 r928), .reg (.n :: .n :: []), .br false, .reg (arT1_8 r928 a0)]) (fr := true) (by kernel_rfl) (an (an (ti (ti trivial)) (an (ti (an e930 (ti (ti (ti (ti (ti trivial))))))) (an (an (ti (ti trivial)) (an (not_f h931) trivial)) (an e934 trivial)))) (an (ti (ti (ti trivial))) (ti trivial))) (Wv.refl _)
 ·injection h with h; subst h
  exact fun_ok pm pn Go.Proofs.Try.func24 (r0 := VV.tu [VV.ag [vi 0, vi 0], vi 8]) (ans := [.reg (.n :: .n :: []), .reg (arT1_7 r928), .reg (.n :: .n :: []), .br true, .reg (nN 3 [])]) (fr := true) (by kernel_rfl) (an (an (ti (ti trivial)) (an (ti (an e930 (ti (ti (ti (ti (ti trivial))))))) (an (ti (ti trivial)) (an (not_t (bool_f h931)) (an (ti (ti (ti trivial))) trivial))))) (an (ti (ti (ti trivial))) (ti trivial))) (Wv.of_eq eqT1_7)
end Go.Proofs.Ytcjdpgoojhkaiaa.Vg

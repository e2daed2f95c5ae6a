import Derived.Test.YtlhnkehohknhbaaB6
namespace Go.Proofs.Ytlhnkehohknhbaa.Vg
set_option maxRecDepth 100000
set_option maxHeartbeats 4000000
set_option linter.unusedVariables false
set_option linter.unusedSimpArgs false
open Go Go.Proofs.Ytlhnkehohknhbaa.Ev Go.Proofs.Ytlhnkehohknhbaa.Vv
def v_41 (x : List Int) : VV := VV.tr (List.map vi x) x.length
def f_41 (x : List Int) : VV := VV.fr (List.map vi x) x.length
theorem unfr_v_41 (xs : List (List Int)) : (xs.map v_41).map unfr = xs.map v_41 := unfr_map (fun _ => rfl) xs
theorem still_f_41 (xs : List (List Int)) : (xs.map f_41).all VV.still = true := all_map (fun _ => rfl) xs
theorem unfr_f_41 (xs : List (List Int)) : (xs.map f_41).map unfr = xs.map v_41 := unfr_map (fun _ => rfl) xs
theorem new0_f_41 (xs : List (List Int)) : (xs.map f_41).all new0 = true := all_map (fun _ => rfl) xs
theorem ag153 : isAggT Go.Proofs.Try.prog 153 = some true := by kernel_rfl
theorem sz153 : szOf Go.Proofs.Try.prog 153 = some 8 := by kernel_rfl
def arB8_0 (z0 : Stour) (z1 : Int) : List Ans := (.n :: .n :: .v (VV.ag [vs (((z0.stops.getD z1.toNat default).SkyTarget).Name), vi (((z0.stops.getD z1.toNat default).SkyTarget).Azimuth), vi (((z0.stops.getD z1.toNat default).SkyTarget).Height), vi (((z0.stops.getD z1.toNat default).SkyTarget).From), vi (((z0.stops.getD z1.toNat default).SkyTarget).To), vi (((z0.stops.getD z1.toNat default).SkyTarget).Dwell), VV.tr (List.map vi ((z0.stops.getD z1.toNat default).turns)) (((z0.stops.getD z1.toNat default).turns).length), VV.tr (List.map vi ((z0.stops.getD z1.toNat default).positions)) (((z0.stops.getD z1.toNat default).positions).length)]) :: nN 3 [])
def arB8_1 (z0 : (List (List Int))) (z1 : Int) : List Ans := (nN 3 (.v (VV.tr (List.map vi (z0.getD z1.toNat default)) ((z0.getD z1.toNat default).length)) :: nN 5 []))
def arB8_2 (z0 : (List (List Int))) (z1 : Int) : List Ans := (.n :: .v (VV.tr (List.map vi (z0.getD z1.toNat default)) ((z0.getD z1.toNat default).length)) :: .n :: [])
def n_point_tour_checkPotentials_l0_0_h (a0 : Stour) (a1 : (List (List Int))) (x18 : Int) : VS := ⟨mkA [(1, VV.tr (List.map v_41 a1) a1.length), (16, VV.tr (List.flatMap c_Sstop a0.stops) a0.stops.length), (17, vi (a0.stops.length : Int)), (18, vi x18)], [], .nil⟩
def n_point_tour_checkPotentials_l0_0_e0 (a0 : Stour) (a1 : (List (List Int))) (r : Unit) : VS := ⟨mkA [(4, vi 10)], [], .nil⟩
def n_point_tour_checkPotentials_l0_0_e1 (a0 : Stour) (a1 : (List (List Int))) (r : Unit) : VS := ⟨mkA [(1, VV.tr (List.map v_41 a1) a1.length)], [], .nil⟩
def n_point_tour_checkPotentials_l0_0 (k : Nat) (a0 : Stour) (a1 : (List (List Int))) : Nat -> Int -> Option (Sum Unit Unit)
 | 0, _ => none
 | fuel + 1, x18 => if x18 < (a0.stops.length : Int) then (if 0 <= x18 /\ x18 < (a0.stops.length : Int) then (if 0 <= x18 /\ x18 < (a1.length : Int) then (if ((a1.getD x18.toNat default).length : Int) = (((a0.stops.getD x18.toNat default).turns).length : Int) then (n_point_tour_checkPotentials_l0_0 k a0 a1 fuel (w64 (x18 + 1))) else (some (.inl ()))) else none) else none) else (some (.inr ()))
theorem n_point_tour_checkPotentials_l0_0_ok (k : Nat) (a0 : Stour) (a1 : (List (List Int))) : ∀ (fuel : Nat) (x18 : Int) (r : Sum Unit Unit), n_point_tour_checkPotentials_l0_0 k a0 a1 fuel x18 = some r -> (match r with | .inl r => VLoop none Go.Proofs.Try.prog (szF Go.Proofs.Try.f117) (bodyOf Go.Proofs.Try.f117 0) (n_point_tour_checkPotentials_l0_0_h a0 a1 x18) .ret (n_point_tour_checkPotentials_l0_0_e0 a0 a1 r) | .inr r => VLoop none Go.Proofs.Try.prog (szF Go.Proofs.Try.f117) (bodyOf Go.Proofs.Try.f117 0) (n_point_tour_checkPotentials_l0_0_h a0 a1 x18) (.exit 0) (n_point_tour_checkPotentials_l0_0_e1 a0 a1 r)) := by
 intro fuel
 induction fuel with
 | zero => intro x18 r h; rw [n_point_tour_checkPotentials_l0_0.eq_1] at h; cases h
 | succ fuel ih =>
  intro x18 r h
  rw [n_point_tour_checkPotentials_l0_0.eq_2] at h
  rcases ifs h with ⟨h2550, h⟩ | ⟨h2550, h⟩
  ·obtain ⟨h2551, h⟩ := ifn h
   have e2552 := (show loadL Go.Proofs.Try.prog 153 (x18.toNat * 8) (List.flatMap c_Sstop a0.stops) = some (VV.ag [vs (((a0.stops.getD x18.toNat default).SkyTarget).Name), vi (((a0.stops.getD x18.toNat default).SkyTarget).Azimuth), vi (((a0.stops.getD x18.toNat default).SkyTarget).Height), vi (((a0.stops.getD x18.toNat default).SkyTarget).From), vi (((a0.stops.getD x18.toNat default).SkyTarget).To), vi (((a0.stops.getD x18.toNat default).SkyTarget).Dwell), VV.tr (List.map vi ((a0.stops.getD x18.toNat default).turns)) (((a0.stops.getD x18.toNat default).turns).length), VV.tr (List.map vi ((a0.stops.getD x18.toNat default).positions)) (((a0.stops.getD x18.toNat default).positions).length)]) from ld_whole ag153 c_Sstop 8 sz153 len_c_Sstop a0.stops default h2551 (by omega))
   obtain ⟨h2553, h⟩ := ifn h
   have e2554 := (show loadL Go.Proofs.Try.prog 41 (x18.toNat * 1) (List.map v_41 a1) = some (VV.tr (List.map vi (a1.getD x18.toNat default)) ((a1.getD x18.toNat default).length)) from ld_map ag41 v_41 a1 default h2553 (by omega))
   have e2555 := (ti (ti (an h2553 (an e2554 (ti (ti (ti (ti (ti trivial)))))))))
   rcases ifs h with ⟨h2556, h⟩ | ⟨h2556, h⟩
   ·have h2 := ih _ _ h
    obtain ⟨q, hv, hq⟩ := pkR (rd := none) (P := Go.Proofs.Try.prog) (fn := Go.Proofs.Try.f117) (k := 0) (s := (n_point_tour_checkPotentials_l0_0_h a0 a1 x18)) (ans := [.reg (.n :: []), .br true, .reg (arB8_0 a0 x18), .reg (arB8_1 a1 x18), .br false, .reg (.n :: .n :: [])]) (c := ⟨[(1, none), (16, none), (17, none), (18, none)], [], []⟩) (e := .normal) (s1 := (n_point_tour_checkPotentials_l0_0_h a0 a1 (w64 (x18 + 1)))) (an (an (ti trivial) (an (an (decide_eq_true h2550) trivial) (an (an (ti (an h2551 (an e2552 (ti (ti (ti trivial)))))) (an e2555 (an (not_f (decide_eq_true h2556)) trivial))) (ti (ti trivial))))) (ti trivial)) (by kernel_rfl)
    cases r with
    | inl r => exact round_next pm pn hv hq h2
    | inr r =>
     exact round_next pm pn hv hq h2
   ·injection h with h; subst h
    exact round_stop (c := ⟨[(4, none)], [], []⟩) (s1 := (n_point_tour_checkPotentials_l0_0_e0 a0 a1 ())) pm pn (ans := [.reg (.n :: []), .br true, .reg (arB8_0 a0 x18), .reg (arB8_1 a1 x18), .br true, .reg (.n :: [])]) (by kernel_rfl) (by intro e; cases e) (an (an (ti trivial) (an (an (decide_eq_true h2550) trivial) (an (ti (an h2551 (an e2552 (ti (ti (ti trivial)))))) (an e2555 (an (not_t (decide_eq_false h2556)) (an (ti trivial) trivial)))))) (ti trivial))
  ·injection h with h; subst h
   exact round_stop (c := ⟨[(1, none)], [], []⟩) (s1 := (n_point_tour_checkPotentials_l0_0_e1 a0 a1 ())) pm pn (ans := [.reg (.n :: []), .br false]) (by kernel_rfl) (by intro e; cases e) (an (an (ti trivial) (an (decide_eq_false h2550) trivial)) (ti trivial))
def n_point_tour_checkPotentials_l1_0_h (a1 : (List (List Int))) (x35 : Int) : VS := ⟨mkA [(33, VV.tr (List.map v_41 a1) a1.length), (34, vi (a1.length : Int)), (35, vi x35)], [], .nil⟩
def n_point_tour_checkPotentials_l1_0_e0 (a1 : (List (List Int))) (r : Unit) : VS := ⟨mkA [(4, vi 2)], [], .nil⟩
def n_point_tour_checkPotentials_l1_0_e1 (a1 : (List (List Int))) (r : Unit) : VS := ⟨mkA [], [], .nil⟩
def n_point_tour_checkPotentials_l1_0 (k : Nat) (a1 : (List (List Int))) : Nat -> Int -> Option (Sum Unit Unit)
 | 0, _ => none
 | fuel + 1, x35 => if x35 < (a1.length : Int) then (if 0 <= x35 /\ x35 < (a1.length : Int) then ((npoint_areSmall k 1000000000000 (a1.getD x35.toNat default)).bind fun r2580 => (if r2580 = true then (n_point_tour_checkPotentials_l1_0 k a1 fuel (w64 (x35 + 1))) else (some (.inl ())))) else none) else (some (.inr ()))
theorem n_point_tour_checkPotentials_l1_0_ok (k : Nat) (a1 : (List (List Int))) : ∀ (fuel : Nat) (x35 : Int) (r : Sum Unit Unit), n_point_tour_checkPotentials_l1_0 k a1 fuel x35 = some r -> (match r with | .inl r => VLoop none Go.Proofs.Try.prog (szF Go.Proofs.Try.f117) (bodyOf Go.Proofs.Try.f117 1) (n_point_tour_checkPotentials_l1_0_h a1 x35) .ret (n_point_tour_checkPotentials_l1_0_e0 a1 r) | .inr r => VLoop none Go.Proofs.Try.prog (szF Go.Proofs.Try.f117) (bodyOf Go.Proofs.Try.f117 1) (n_point_tour_checkPotentials_l1_0_h a1 x35) (.exit 2) (n_point_tour_checkPotentials_l1_0_e1 a1 r)) := by
 intro fuel
 induction fuel with
 | zero => intro x35 r h; rw [n_point_tour_checkPotentials_l1_0.eq_1] at h; cases h
 | succ fuel ih =>
  intro x35 r h
  rw [n_point_tour_checkPotentials_l1_0.eq_2] at h
  rcases ifs h with ⟨h2577, h⟩ | ⟨h2577, h⟩
  ·obtain ⟨h2578, h⟩ := ifn h
   have e2579 := (show loadL Go.Proofs.Try.prog 41 (x35.toNat * 1) (List.map v_41 a1) = some (VV.tr (List.map vi (a1.getD x35.toNat default)) ((a1.getD x35.toNat default).length)) from ld_map ag41 v_41 a1 default h2578 (by omega))
   obtain ⟨r2580, h2581, h⟩ := bs h
   have e2582 := (npoint_areSmall_ok k 1000000000000 (a1.getD x35.toNat default) _ h2581)
   rcases ifs h with ⟨h2583, h⟩ | ⟨h2583, h⟩
   ·have h2 := ih _ _ h
    obtain ⟨q, hv, hq⟩ := pkR (rd := none) (P := Go.Proofs.Try.prog) (fn := Go.Proofs.Try.f117) (k := 1) (s := (n_point_tour_checkPotentials_l1_0_h a1 x35)) (ans := [.reg (.n :: []), .br true, .reg (arB8_2 a1 x35), .reg (.n :: .call (vb r2580) :: .n :: []), .br false, .reg (.n :: .n :: [])]) (c := ⟨[(33, none), (34, none), (35, none)], [], []⟩) (e := .normal) (s1 := (n_point_tour_checkPotentials_l1_0_h a1 (w64 (x35 + 1)))) (an (an (ti trivial) (an (an (decide_eq_true h2577) trivial) (an (an (an h2578 (an e2579 (ti trivial))) (an (ti (an e2582 (ti trivial))) (an (not_f h2583) trivial))) (ti (ti trivial))))) (ti trivial)) (by kernel_rfl)
    cases r with
    | inl r => exact round_next pm pn hv hq h2
    | inr r =>
     exact round_next pm pn hv hq h2
   ·injection h with h; subst h
    exact round_stop (c := ⟨[(4, none)], [], []⟩) (s1 := (n_point_tour_checkPotentials_l1_0_e0 a1 ())) pm pn (ans := [.reg (.n :: []), .br true, .reg (arB8_2 a1 x35), .reg (.n :: .call (vb r2580) :: .n :: []), .br true, .reg (.n :: [])]) (by kernel_rfl) (by intro e; cases e) (an (an (ti trivial) (an (an (decide_eq_true h2577) trivial) (an (an h2578 (an e2579 (ti trivial))) (an (ti (an e2582 (ti trivial))) (an (not_t (bool_f h2583)) (an (ti trivial) trivial)))))) (ti trivial))
  ·injection h with h; subst h
   exact round_stop (c := ⟨[], [], []⟩) (s1 := (n_point_tour_checkPotentials_l1_0_e1 a1 ())) pm pn (ans := [.reg (.n :: []), .br false]) (by kernel_rfl) (by intro e; cases e) (an (an (ti trivial) (an (decide_eq_false h2577) trivial)) (ti trivial))
def n_point_tour_checkPotentials (k : Nat) (a0 : Stour) (a1 : (List (List Int))) : Option Int :=
 if (a1.length : Int) = (a0.stops.length : Int) then ((n_point_tour_checkPotentials_l0_0 k a0 a1 k 0).bind fun r2558 => (match r2558 with | .inl r2559 => (some 10) | .inr r2560 => ((n_point_tour_checkPotentials_l1_0 k a1 k 0).bind fun r2585 => (match r2585 with | .inl r2586 => (some 2) | .inr r2587 => (some 0))))) else (some 10)
theorem n_point_tour_checkPotentials_ok (k : Nat) (a0 : Stour) (a1 : (List (List Int))) (r : Int) (h : n_point_tour_checkPotentials k a0 a1 = some r) : VC Go.Proofs.Try.prog 117 [VV.ag (c_Stour a0), VV.tr (List.map v_41 a1) a1.length] (vi r) := by
 unfold n_point_tour_checkPotentials at h
 rcases ifs h with ⟨h2535, h⟩ | ⟨h2535, h⟩
 ·obtain ⟨r2558, h2557, h⟩ := bs h
  have hph2557 := n_point_tour_checkPotentials_l0_0_ok k a0 a1 _ _ _ h2557
  cases r2558 with
  | inl r2559 =>
   dsimp only at h
   have e2561 := (an (ti trivial) (VRun.loop hph2557))
   injection h with h; subst h
   exact fun_ok pm pn Go.Proofs.Try.func117 (r0 := vi 10) (ans := [.reg (.n :: .n :: []), .reg (nN 6 []), .br false, .reg (nN 4 []), .sub ⟨[(1, none), (16, none), (17, none), (18, none)], [], []⟩ .ret (n_point_tour_checkPotentials_l0_0_e0 a0 a1 r2559)]) (fr := true) (by kernel_rfl) (an (an (ti (ti trivial)) (an (an (ti (ti (ti (ti (ti (ti trivial)))))) (an (not_f (decide_eq_true h2535)) trivial)) (an (ti (ti (ti (ti trivial)))) e2561))) (ti trivial)) (Wv.refl _)
  | inr r2560 =>
   dsimp only at h
   have e2562 := (an (ti trivial) (VRun.loop hph2557))
   obtain ⟨r2585, h2584, h⟩ := bs h
   have hph2584 := n_point_tour_checkPotentials_l1_0_ok k a1 _ _ _ h2584
   cases r2585 with
   | inl r2586 =>
    dsimp only at h
    have e2588 := (an (ti trivial) (VRun.loop hph2584))
    injection h with h; subst h
    exact fun_ok pm pn Go.Proofs.Try.func117 (r0 := vi 2) (ans := [.reg (.n :: .n :: []), .reg (nN 6 []), .br false, .reg (nN 4 []), .sub ⟨[(1, none), (16, none), (17, none), (18, none)], [], []⟩ (.exit 0) (n_point_tour_checkPotentials_l0_0_e1 a0 a1 r2560), .reg (nN 3 []), .sub ⟨[(33, none), (34, none), (35, none)], [], []⟩ .ret (n_point_tour_checkPotentials_l1_0_e0 a1 r2586)]) (fr := true) (by kernel_rfl) (an (an (ti (ti trivial)) (an (an (ti (ti (ti (ti (ti (ti trivial)))))) (an (not_f (decide_eq_true h2535)) trivial)) (an (an (ti (ti (ti (ti trivial)))) e2562) (an (ti (ti (ti trivial))) e2588)))) (ti trivial)) (Wv.refl _)
   | inr r2587 =>
    dsimp only at h
    have e2589 := (an (ti trivial) (VRun.loop hph2584))
    injection h with h; subst h
    exact fun_ok pm pn Go.Proofs.Try.func117 (r0 := vi 0) (ans := [.reg (.n :: .n :: []), .reg (nN 6 []), .br false, .reg (nN 4 []), .sub ⟨[(1, none), (16, none), (17, none), (18, none)], [], []⟩ (.exit 0) (n_point_tour_checkPotentials_l0_0_e1 a0 a1 r2560), .reg (nN 3 []), .sub ⟨[(33, none), (34, none), (35, none)], [], []⟩ (.exit 2) (n_point_tour_checkPotentials_l1_0_e1 a1 r2587), .reg (.n :: [])]) (fr := true) (by kernel_rfl) (an (an (ti (ti trivial)) (an (an (ti (ti (ti (ti (ti (ti trivial)))))) (an (not_f (decide_eq_true h2535)) trivial)) (an (an (ti (ti (ti (ti trivial)))) e2562) (an (an (ti (ti (ti trivial))) e2589) (an (ti trivial) trivial))))) (ti trivial)) (Wv.refl _)
 ·injection h with h; subst h
  exact fun_ok pm pn Go.Proofs.Try.func117 (r0 := vi 10) (ans := [.reg (.n :: .n :: []), .reg (nN 6 []), .br true, .reg (.n :: [])]) (fr := true) (by kernel_rfl) (an (an (ti (ti trivial)) (an (ti (ti (ti (ti (ti (ti trivial)))))) (an (not_t (decide_eq_false h2535)) (an (ti trivial) trivial)))) (ti trivial)) (Wv.refl _)
def arB8_3 (z0 : (List (List Int))) (z1 : Int) (z2 : Int) : List Ans := (.n :: .n :: .v (vi ((z0.getD (w64 (z1 - 1)).toNat default).getD z2.toNat 0)) :: .n :: .n :: [])
def arB8_5 (z0 : List Int) (z1 : Int) (z2 : Stour) (z3 : Int) (z4 : Int) (z5 : Int) : List Ans := (nN 5 (.v (vi (z0.getD z1.toNat 0)) :: nN 4 (.v (vi (((z2.stops.getD (w64 (z3 - 1)).toNat default).positions).getD z4.toNat 0)) :: .n :: .call (vi z5) :: nN 4 [])))
def arB8_6 (z0 : Stour) (z1 : Int) (z2 : Int) : List Ans := (.n :: .n :: .v (vi (((z0.stops.getD z1.toNat default).positions).getD z2.toNat 0)) :: .n :: .n :: [])
def arB8_8 (z0 : List Int) (z1 : Int) (z2 : Stour) (z3 : Int) (z4 : Int) : List Ans := (nN 5 (.v (vi (z0.getD z1.toNat 0)) :: nN 4 (.v (vi (([z2.begin] : List Int).getD z3.toNat 0)) :: .n :: .call (vi z4) :: nN 4 [])))
def n_point_tour_highest_l1_0_h (a0 : Stour) (a1 : Int) (a2 : (List (List Int))) (x47 : Int) (y3z : List Int) (x57 : Int) : VS := ⟨mkA [(7, VV.tr (List.map vi ((a0.stops.getD (w64 (a1 - 1)).toNat default).positions)) (((a0.stops.getD (w64 (a1 - 1)).toNat default).positions).length)), (8, VV.tr (List.map vi (a2.getD (w64 (a1 - 1)).toNat default)) ((a2.getD (w64 (a1 - 1)).toNat default).length)), (9, VV.rf 3 0 y3z.length), (10, vi x47), (11, vi (((a0.stops.getD a1.toNat default).positions).getD x47.toNat 0)), (45, VV.tr (List.map vi ((a0.stops.getD a1.toNat default).positions)) (((a0.stops.getD a1.toNat default).positions).length)), (46, vi (((a0.stops.getD a1.toNat default).positions).length : Int)), (47, vi x47), (55, VV.tr (List.map vi (a2.getD (w64 (a1 - 1)).toNat default)) ((a2.getD (w64 (a1 - 1)).toNat default).length)), (56, vi ((a2.getD (w64 (a1 - 1)).toNat default).length : Int)), (57, vi x57)], [some ⟨true, 1, c_Stour a0⟩, some ⟨false, 1, [vi a0.begin]⟩, some ⟨false, 1, [vi 0]⟩, some ⟨false, 1, List.map vi y3z⟩], .nil⟩
def n_point_tour_highest_l1_0_e0 (a0 : Stour) (a1 : Int) (a2 : (List (List Int))) (x47 : Int) (r : (List Int)) : VS := ⟨mkA [(7, VV.tr (List.map vi ((a0.stops.getD (w64 (a1 - 1)).toNat default).positions)) (((a0.stops.getD (w64 (a1 - 1)).toNat default).positions).length)), (8, VV.tr (List.map vi (a2.getD (w64 (a1 - 1)).toNat default)) ((a2.getD (w64 (a1 - 1)).toNat default).length)), (9, VV.rf 3 0 r.length), (45, VV.tr (List.map vi ((a0.stops.getD a1.toNat default).positions)) (((a0.stops.getD a1.toNat default).positions).length)), (46, vi (((a0.stops.getD a1.toNat default).positions).length : Int)), (47, vi x47)], [some ⟨true, 1, c_Stour a0⟩, some ⟨false, 1, [vi a0.begin]⟩, some ⟨false, 1, [vi 0]⟩, some ⟨false, 1, List.map vi r⟩], .nil⟩
def n_point_tour_highest_l1_0 (k : Nat) (a0 : Stour) (a1 : Int) (a2 : (List (List Int))) (x47 : Int) : Nat -> (List Int) -> Int -> Option ((List Int))
 | 0, _, _ => none
 | fuel + 1, y3z, x57 => if x57 < ((a2.getD (w64 (a1 - 1)).toNat default).length : Int) then (if 0 <= x57 /\ x57 < ((a2.getD (w64 (a1 - 1)).toNat default).length : Int) then (if 0 <= x47 /\ x47 < (y3z.length : Int) then (if 0 <= x57 /\ x57 < (((a0.stops.getD (w64 (a1 - 1)).toNat default).positions).length : Int) then ((npoint_costBetween k (((a0.stops.getD (w64 (a1 - 1)).toNat default).positions).getD x57.toNat 0) (((a0.stops.getD a1.toNat default).positions).getD x47.toNat 0)).bind fun r3076 => (n_point_tour_highest_l1_0 k a0 a1 a2 x47 fuel (y3z.set x47.toNat (minI (y3z.getD x47.toNat 0) (w64 (((a2.getD (w64 (a1 - 1)).toNat default).getD x57.toNat 0) + r3076)))) (w64 (x57 + 1)))) else none) else none) else none) else (some y3z)
theorem n_point_tour_highest_l1_0_ok (k : Nat) (a0 : Stour) (a1 : Int) (a2 : (List (List Int))) (x47 : Int) : ∀ (fuel : Nat) (y3z : List Int) (x57 : Int) (r : (List Int)), n_point_tour_highest_l1_0 k a0 a1 a2 x47 fuel y3z x57 = some r -> (VLoop none Go.Proofs.Try.prog (szF Go.Proofs.Try.f118) (bodyOf Go.Proofs.Try.f118 1) (n_point_tour_highest_l1_0_h a0 a1 a2 x47 y3z x57) (.exit 2) (n_point_tour_highest_l1_0_e0 a0 a1 a2 x47 r)) := by
 intro fuel
 induction fuel with
 | zero => intro y3z x57 r h; rw [n_point_tour_highest_l1_0.eq_1] at h; cases h
 | succ fuel ih =>
  intro y3z x57 r h
  rw [n_point_tour_highest_l1_0.eq_2] at h
  rcases ifs h with ⟨h3069, h⟩ | ⟨h3069, h⟩
  ·obtain ⟨h3070, h⟩ := ifn h
   have e3071 := (show loadL Go.Proofs.Try.prog 3 (x57.toNat * 1) (List.map vi (a2.getD (w64 (a1 - 1)).toNat default)) = some (vi ((a2.getD (w64 (a1 - 1)).toNat default).getD x57.toNat 0)) from ld_map ag3 vi (a2.getD (w64 (a1 - 1)).toNat default) 0 h3070 (by omega))
   obtain ⟨h3072, h⟩ := ifn h
   have e3073 := (show loadL Go.Proofs.Try.prog 3 (0 + x47.toNat * 1) (List.map vi y3z) = some (vi (y3z.getD x47.toNat 0)) from ld_map ag3 vi y3z 0 h3072 (by omega))
   obtain ⟨h3074, h⟩ := ifn h
   have e3075 := (show loadL Go.Proofs.Try.prog 3 (x57.toNat * 1) (List.map vi ((a0.stops.getD (w64 (a1 - 1)).toNat default).positions)) = some (vi (((a0.stops.getD (w64 (a1 - 1)).toNat default).positions).getD x57.toNat 0)) from ld_map ag3 vi ((a0.stops.getD (w64 (a1 - 1)).toNat default).positions) 0 h3074 (by omega))
   obtain ⟨r3076, h3077, h⟩ := bs h
   have e3078 := (npoint_costBetween_ok k (((a0.stops.getD (w64 (a1 - 1)).toNat default).positions).getD x57.toNat 0) (((a0.stops.getD a1.toNat default).positions).getD x47.toNat 0) _ h3077)
   have e3079 := (show (0 + x47.toNat * 1) + 1 <= List.length (List.map vi y3z) from (by simp only [List.length_map]; omega))
   have e3080 := (ti (ti (ti (ti (an h3072 (an e3073 (ti (ti (ti (an h3074 (an e3075 (ti (an e3078 (ti (ti (an h3072 (an e3079 trivial)))))))))))))))))
   have h2 := ih _ _ _ h
   obtain ⟨q, hv, hq⟩ := pkR (rd := none) (P := Go.Proofs.Try.prog) (fn := Go.Proofs.Try.f118) (k := 1) (s := (n_point_tour_highest_l1_0_h a0 a1 a2 x47 y3z x57)) (ans := [.reg (.n :: []), .br true, .reg (arB8_3 a2 a1 x57), .reg (arB8_5 y3z x47 a0 a1 x57 r3076), .reg (.n :: .n :: [])]) (c := ⟨[(7, none), (8, none), (9, some (VV.rf 3 0 ((y3z.set x47.toNat (minI (y3z.getD x47.toNat 0) (w64 (((a2.getD (w64 (a1 - 1)).toNat default).getD x57.toNat 0) + r3076)))).length))), (10, none), (11, none), (45, none), (46, none), (47, none), (55, none), (56, none), (57, none)], [none, none, none, some (List.map vi (y3z.set x47.toNat (minI (y3z.getD x47.toNat 0) (w64 (((a2.getD (w64 (a1 - 1)).toNat default).getD x57.toNat 0) + r3076)))))], []⟩) (e := .normal) (s1 := (n_point_tour_highest_l1_0_h a0 a1 a2 x47 (y3z.set x47.toNat (minI (y3z.getD x47.toNat 0) (w64 (((a2.getD (w64 (a1 - 1)).toNat default).getD x57.toNat 0) + r3076)))) (w64 (x57 + 1)))) (an (an (ti trivial) (an (an (decide_eq_true h3069) trivial) (an (an (ti (an h3070 (an e3071 (ti (ti trivial))))) e3080) (ti (ti trivial))))) (an (an (show Wv (VV.rf 3 0 y3z.length) (VV.rf 3 0 ((y3z.set x47.toNat (minI (y3z.getD x47.toNat 0) (w64 (((a2.getD (w64 (a1 - 1)).toNat default).getD x57.toNat 0) + r3076)))).length)) from (Wv.of_eq (by simp))) trivial) (an (show putT (0 + x47.toNat * 1) (List.map vi y3z) [vi (minI (y3z.getD x47.toNat 0) (w64 (((a2.getD (w64 (a1 - 1)).toNat default).getD x57.toNat 0) + r3076)))] = List.map vi (y3z.set x47.toNat (minI (y3z.getD x47.toNat 0) (w64 (((a2.getD (w64 (a1 - 1)).toNat default).getD x57.toNat 0) + r3076)))) from (by exact putT_vi y3z h3072 (minI (y3z.getD x47.toNat 0) (w64 (((a2.getD (w64 (a1 - 1)).toNat default).getD x57.toNat 0) + r3076))) (by omega))) trivial))) (by kernel_rfl)
   exact round_next pm pn hv hq h2
  ·injection h with h; subst h
   exact round_stop (c := ⟨[(7, none), (8, none), (9, none), (45, none), (46, none), (47, none)], [none, none, none, none], []⟩) (s1 := (n_point_tour_highest_l1_0_e0 a0 a1 a2 x47 y3z)) pm pn (ans := [.reg (.n :: []), .br false]) (by kernel_rfl) (by intro e; cases e) (an (an (ti trivial) (an (decide_eq_false h3069) trivial)) (ti trivial))
def n_point_tour_highest_l0_0_h (a0 : Stour) (a1 : Int) (a2 : (List (List Int))) (y3 : List Int) (x47 : Int) : VS := ⟨mkA [(7, VV.tr (List.map vi ((a0.stops.getD (w64 (a1 - 1)).toNat default).positions)) (((a0.stops.getD (w64 (a1 - 1)).toNat default).positions).length)), (8, VV.tr (List.map vi (a2.getD (w64 (a1 - 1)).toNat default)) ((a2.getD (w64 (a1 - 1)).toNat default).length)), (9, VV.rf 3 0 y3.length), (45, VV.tr (List.map vi ((a0.stops.getD a1.toNat default).positions)) (((a0.stops.getD a1.toNat default).positions).length)), (46, vi (((a0.stops.getD a1.toNat default).positions).length : Int)), (47, vi x47)], [some ⟨true, 1, c_Stour a0⟩, some ⟨false, 1, [vi a0.begin]⟩, some ⟨false, 1, [vi 0]⟩, some ⟨false, 1, List.map vi y3⟩], .nil⟩
def n_point_tour_highest_l0_0_e0 (a0 : Stour) (a1 : Int) (a2 : (List (List Int))) (r : (List Int)) : VS := ⟨mkA [(9, VV.rf 3 0 r.length)], [some ⟨true, 1, c_Stour a0⟩, some ⟨false, 1, [vi a0.begin]⟩, some ⟨false, 1, [vi 0]⟩, some ⟨false, 1, List.map vi r⟩], .nil⟩
def n_point_tour_highest_l0_0 (k : Nat) (a0 : Stour) (a1 : Int) (a2 : (List (List Int))) : Nat -> (List Int) -> Int -> Option ((List Int))
 | 0, _, _ => none
 | fuel + 1, y3, x47 => if x47 < (((a0.stops.getD a1.toNat default).positions).length : Int) then (if 0 <= x47 /\ x47 < (((a0.stops.getD a1.toNat default).positions).length : Int) then (if 0 <= x47 /\ x47 < (y3.length : Int) then ((n_point_tour_highest_l1_0 k a0 a1 a2 x47 k (y3.set x47.toNat 9223372036854775807) 0).bind fun r3082 => (n_point_tour_highest_l0_0 k a0 a1 a2 fuel r3082 (w64 (x47 + 1)))) else none) else none) else (some y3)
theorem n_point_tour_highest_l0_0_ok (k : Nat) (a0 : Stour) (a1 : Int) (a2 : (List (List Int))) : ∀ (fuel : Nat) (y3 : List Int) (x47 : Int) (r : (List Int)), n_point_tour_highest_l0_0 k a0 a1 a2 fuel y3 x47 = some r -> (VLoop none Go.Proofs.Try.prog (szF Go.Proofs.Try.f118) (bodyOf Go.Proofs.Try.f118 0) (n_point_tour_highest_l0_0_h a0 a1 a2 y3 x47) (.exit 0) (n_point_tour_highest_l0_0_e0 a0 a1 a2 r)) := by
 intro fuel
 induction fuel with
 | zero => intro y3 x47 r h; rw [n_point_tour_highest_l0_0.eq_1] at h; cases h
 | succ fuel ih =>
  intro y3 x47 r h
  rw [n_point_tour_highest_l0_0.eq_2] at h
  rcases ifs h with ⟨h3037, h⟩ | ⟨h3037, h⟩
  ·obtain ⟨h3038, h⟩ := ifn h
   have e3039 := (show loadL Go.Proofs.Try.prog 3 (x47.toNat * 1) (List.map vi ((a0.stops.getD a1.toNat default).positions)) = some (vi (((a0.stops.getD a1.toNat default).positions).getD x47.toNat 0)) from ld_map ag3 vi ((a0.stops.getD a1.toNat default).positions) 0 h3038 (by omega))
   obtain ⟨h3040, h⟩ := ifn h
   have e3041 := (show (0 + x47.toNat * 1) + 1 <= List.length (List.map vi y3) from (by simp only [List.length_map]; omega))
   obtain ⟨r3082, h3081, h⟩ := bs h
   have hph3081 := n_point_tour_highest_l1_0_ok k a0 a1 a2 x47 _ _ _ _ h3081
   have e3083 := (an (an (an (show Wv (VV.rf 3 0 y3.length) (VV.rf 3 0 ((y3.set x47.toNat 9223372036854775807).length)) from (Wv.of_eq (by simp))) trivial) (an (show putT (0 + x47.toNat * 1) (List.map vi y3) [vi 9223372036854775807] = List.map vi (y3.set x47.toNat 9223372036854775807) from (by exact putT_vi y3 h3040 9223372036854775807 (by omega))) trivial)) (VRun.loop hph3081))
   have h2 := ih _ _ _ h
   obtain ⟨q, hv, hq⟩ := pkR (rd := none) (P := Go.Proofs.Try.prog) (fn := Go.Proofs.Try.f118) (k := 0) (s := (n_point_tour_highest_l0_0_h a0 a1 a2 y3 x47)) (ans := [.reg (.n :: []), .br true, .reg (arB8_6 a0 a1 x47), .reg (nN 4 []), .reg (nN 3 []), .sub ⟨[(7, none), (8, none), (9, some (VV.rf 3 0 ((y3.set x47.toNat 9223372036854775807).length))), (10, none), (11, none), (45, none), (46, none), (47, none), (55, none), (56, none), (57, none)], [none, none, none, some (List.map vi (y3.set x47.toNat 9223372036854775807))], []⟩ (.exit 2) (n_point_tour_highest_l1_0_e0 a0 a1 a2 x47 r3082), .reg (.n :: .n :: [])]) (c := ⟨[(7, none), (8, none), (9, none), (45, none), (46, none), (47, none)], [none, none, none, none], []⟩) (e := .normal) (s1 := (n_point_tour_highest_l0_0_h a0 a1 a2 r3082 (w64 (x47 + 1)))) (an (an (ti trivial) (an (an (decide_eq_true h3037) trivial) (an (an (ti (an h3038 (an e3039 (ti (ti trivial))))) (an (ti (ti (an h3040 (an e3041 trivial)))) (an (ti (ti (ti trivial))) e3083))) (ti (ti trivial))))) (ti trivial)) (by kernel_rfl)
   exact round_next pm pn hv hq h2
  ·injection h with h; subst h
   exact round_stop (c := ⟨[(9, none)], [none, none, none, none], []⟩) (s1 := (n_point_tour_highest_l0_0_e0 a0 a1 a2 y3)) pm pn (ans := [.reg (.n :: []), .br false]) (by kernel_rfl) (by intro e; cases e) (an (an (ti trivial) (an (decide_eq_false h3037) trivial)) (ti trivial))
def arB8_9 (z0 : Stour) (z1 : Int) (z2 : (List (List Int))) : List Ans := (nN 6 (.v (VV.tr (List.map vi ((z0.stops.getD (w64 (z1 - 1)).toNat default).positions)) (((z0.stops.getD (w64 (z1 - 1)).toNat default).positions).length)) :: nN 4 (.v (VV.tr (List.map vi (z2.getD (w64 (z1 - 1)).toNat default)) ((z2.getD (w64 (z1 - 1)).toNat default).length)) :: .n :: .n :: [])))
def arB8_10 (z0 : Stour) (z1 : Int) : List Ans := (nN 5 (.v (VV.tr (List.map vi ((z0.stops.getD z1.toNat default).positions)) (((z0.stops.getD z1.toNat default).positions).length)) :: nN 3 []))
def arB8_11 (z0 : Stour) (z1 : Int) : List Ans := (nN 5 (.v (VV.tr (List.map vi ((z0.stops.getD z1.toNat default).positions)) (((z0.stops.getD z1.toNat default).positions).length)) :: .n :: .n :: []))
theorem eqB8_0 (z0 : (List Int)) : VV.fw 1 (List.drop 0 (List.map unfr (List.map vi z0))) z0.length = VV.fw 1 (List.map vi z0) z0.length := by first | rfl | simp only [drop0, unfr_vi, List.map_cons, List.map_nil, un_i, List.length_map]
def n_point_tour_highest_l1_1_h (a0 : Stour) (a1 : Int) (x47 : Int) (y3z : List Int) (x57 : Int) : VS := ⟨mkA [(7, VV.rf 1 0 1), (8, VV.rf 2 0 1), (9, VV.rf 3 0 y3z.length), (10, vi x47), (11, vi (((a0.stops.getD a1.toNat default).positions).getD x47.toNat 0)), (45, VV.tr (List.map vi ((a0.stops.getD a1.toNat default).positions)) (((a0.stops.getD a1.toNat default).positions).length)), (46, vi (((a0.stops.getD a1.toNat default).positions).length : Int)), (47, vi x47), (55, VV.rf 2 0 1), (56, vi ((1 : Nat) : Int)), (57, vi x57)], [some ⟨true, 1, c_Stour a0⟩, some ⟨false, 1, [vi a0.begin]⟩, some ⟨false, 1, [vi 0]⟩, some ⟨false, 1, List.map vi y3z⟩], .nil⟩
def n_point_tour_highest_l1_1_e0 (a0 : Stour) (a1 : Int) (x47 : Int) (r : (List Int)) : VS := ⟨mkA [(7, VV.rf 1 0 1), (8, VV.rf 2 0 1), (9, VV.rf 3 0 r.length), (45, VV.tr (List.map vi ((a0.stops.getD a1.toNat default).positions)) (((a0.stops.getD a1.toNat default).positions).length)), (46, vi (((a0.stops.getD a1.toNat default).positions).length : Int)), (47, vi x47)], [some ⟨true, 1, c_Stour a0⟩, some ⟨false, 1, [vi a0.begin]⟩, some ⟨false, 1, [vi 0]⟩, some ⟨false, 1, List.map vi r⟩], .nil⟩
def n_point_tour_highest_l1_1 (k : Nat) (a0 : Stour) (a1 : Int) (x47 : Int) : Nat -> (List Int) -> Int -> Option ((List Int))
 | 0, _, _ => none
 | fuel + 1, y3z, x57 => if x57 < ((1 : Nat) : Int) then (if 0 <= x57 /\ x57 < (([0] : List Int).length : Int) then (if 0 <= x47 /\ x47 < (y3z.length : Int) then (if 0 <= x57 /\ x57 < (([a0.begin] : List Int).length : Int) then ((npoint_costBetween k (([a0.begin] : List Int).getD x57.toNat 0) (((a0.stops.getD a1.toNat default).positions).getD x47.toNat 0)).bind fun r3250 => (n_point_tour_highest_l1_1 k a0 a1 x47 fuel (y3z.set x47.toNat (minI (y3z.getD x47.toNat 0) (w64 ((([0] : List Int).getD x57.toNat 0) + r3250)))) (w64 (x57 + 1)))) else none) else none) else none) else (some y3z)
theorem n_point_tour_highest_l1_1_ok (k : Nat) (a0 : Stour) (a1 : Int) (x47 : Int) : ∀ (fuel : Nat) (y3z : List Int) (x57 : Int) (r : (List Int)), n_point_tour_highest_l1_1 k a0 a1 x47 fuel y3z x57 = some r -> (VLoop none Go.Proofs.Try.prog (szF Go.Proofs.Try.f118) (bodyOf Go.Proofs.Try.f118 1) (n_point_tour_highest_l1_1_h a0 a1 x47 y3z x57) (.exit 2) (n_point_tour_highest_l1_1_e0 a0 a1 x47 r)) := by
 intro fuel
 induction fuel with
 | zero => intro y3z x57 r h; rw [n_point_tour_highest_l1_1.eq_1] at h; cases h
 | succ fuel ih =>
  intro y3z x57 r h
  rw [n_point_tour_highest_l1_1.eq_2] at h
  rcases ifs h with ⟨h3241, h⟩ | ⟨h3241, h⟩
  ·obtain ⟨h3242, h⟩ := ifn h
   have e3243 := (show 0 <= x57 /\ x57 < ((1 : Nat) : Int) from ⟨h3242.1, h3241⟩)
   have e3244 := (show loadL Go.Proofs.Try.prog 3 (0 + x57.toNat * 1) [vi 0] = some (vi (([0] : List Int).getD x57.toNat 0)) from (by rw [show [vi 0] = List.map vi ([0] : List Int) from rfl]; exact ld_map ag3 vi ([0] : List Int) 0 h3242 (by omega)))
   obtain ⟨h3245, h⟩ := ifn h
   have e3246 := (show loadL Go.Proofs.Try.prog 3 (0 + x47.toNat * 1) (List.map vi y3z) = some (vi (y3z.getD x47.toNat 0)) from ld_map ag3 vi y3z 0 h3245 (by omega))
   obtain ⟨h3247, h⟩ := ifn h
   have e3248 := (show 0 <= x57 /\ x57 < ((1 : Nat) : Int) from ⟨h3247.1, h3241⟩)
   have e3249 := (show loadL Go.Proofs.Try.prog 3 (0 + x57.toNat * 1) [vi a0.begin] = some (vi (([a0.begin] : List Int).getD x57.toNat 0)) from (by rw [show [vi a0.begin] = List.map vi ([a0.begin] : List Int) from rfl]; exact ld_map ag3 vi ([a0.begin] : List Int) 0 h3247 (by omega)))
   obtain ⟨r3250, h3251, h⟩ := bs h
   have e3252 := (npoint_costBetween_ok k (([a0.begin] : List Int).getD x57.toNat 0) (((a0.stops.getD a1.toNat default).positions).getD x47.toNat 0) _ h3251)
   have e3253 := (show (0 + x47.toNat * 1) + 1 <= List.length (List.map vi y3z) from (by simp only [List.length_map]; omega))
   have e3254 := (ti (ti (ti (ti (an h3245 (an e3246 (ti (ti (ti (an e3248 (an e3249 (ti (an e3252 (ti (ti (an h3245 (an e3253 trivial)))))))))))))))))
   have h2 := ih _ _ _ h
   obtain ⟨q, hv, hq⟩ := pkR (rd := none) (P := Go.Proofs.Try.prog) (fn := Go.Proofs.Try.f118) (k := 1) (s := (n_point_tour_highest_l1_1_h a0 a1 x47 y3z x57)) (ans := [.reg (.n :: []), .br true, .reg (.n :: .n :: .v (vi (([0] : List Int).getD x57.toNat 0)) :: .n :: .n :: []), .reg (arB8_8 y3z x47 a0 x57 r3250), .reg (.n :: .n :: [])]) (c := ⟨[(7, none), (8, none), (9, some (VV.rf 3 0 ((y3z.set x47.toNat (minI (y3z.getD x47.toNat 0) (w64 ((([0] : List Int).getD x57.toNat 0) + r3250)))).length))), (10, none), (11, none), (45, none), (46, none), (47, none), (55, none), (56, none), (57, none)], [none, none, none, some (List.map vi (y3z.set x47.toNat (minI (y3z.getD x47.toNat 0) (w64 ((([0] : List Int).getD x57.toNat 0) + r3250)))))], []⟩) (e := .normal) (s1 := (n_point_tour_highest_l1_1_h a0 a1 x47 (y3z.set x47.toNat (minI (y3z.getD x47.toNat 0) (w64 ((([0] : List Int).getD x57.toNat 0) + r3250)))) (w64 (x57 + 1)))) (an (an (ti trivial) (an (an (decide_eq_true h3241) trivial) (an (an (ti (an e3243 (an e3244 (ti (ti trivial))))) e3254) (ti (ti trivial))))) (an (an (show Wv (VV.rf 3 0 y3z.length) (VV.rf 3 0 ((y3z.set x47.toNat (minI (y3z.getD x47.toNat 0) (w64 ((([0] : List Int).getD x57.toNat 0) + r3250)))).length)) from (Wv.of_eq (by simp))) trivial) (an (show putT (0 + x47.toNat * 1) (List.map vi y3z) [vi (minI (y3z.getD x47.toNat 0) (w64 ((([0] : List Int).getD x57.toNat 0) + r3250)))] = List.map vi (y3z.set x47.toNat (minI (y3z.getD x47.toNat 0) (w64 ((([0] : List Int).getD x57.toNat 0) + r3250)))) from (by exact putT_vi y3z h3245 (minI (y3z.getD x47.toNat 0) (w64 ((([0] : List Int).getD x57.toNat 0) + r3250))) (by omega))) trivial))) (by kernel_rfl)
   exact round_next pm pn hv hq h2
  ·injection h with h; subst h
   exact round_stop (c := ⟨[(7, none), (8, none), (9, none), (45, none), (46, none), (47, none)], [none, none, none, none], []⟩) (s1 := (n_point_tour_highest_l1_1_e0 a0 a1 x47 y3z)) pm pn (ans := [.reg (.n :: []), .br false]) (by kernel_rfl) (by intro e; cases e) (an (an (ti trivial) (an (decide_eq_false h3241) trivial)) (ti trivial))
def n_point_tour_highest_l0_1_h (a0 : Stour) (a1 : Int) (y3 : List Int) (x47 : Int) : VS := ⟨mkA [(7, VV.rf 1 0 1), (8, VV.rf 2 0 1), (9, VV.rf 3 0 y3.length), (45, VV.tr (List.map vi ((a0.stops.getD a1.toNat default).positions)) (((a0.stops.getD a1.toNat default).positions).length)), (46, vi (((a0.stops.getD a1.toNat default).positions).length : Int)), (47, vi x47)], [some ⟨true, 1, c_Stour a0⟩, some ⟨false, 1, [vi a0.begin]⟩, some ⟨false, 1, [vi 0]⟩, some ⟨false, 1, List.map vi y3⟩], .nil⟩
def n_point_tour_highest_l0_1_e0 (a0 : Stour) (a1 : Int) (r : (List Int)) : VS := ⟨mkA [(9, VV.rf 3 0 r.length)], [some ⟨true, 1, c_Stour a0⟩, some ⟨false, 1, [vi a0.begin]⟩, some ⟨false, 1, [vi 0]⟩, some ⟨false, 1, List.map vi r⟩], .nil⟩
def n_point_tour_highest_l0_1 (k : Nat) (a0 : Stour) (a1 : Int) : Nat -> (List Int) -> Int -> Option ((List Int))
 | 0, _, _ => none
 | fuel + 1, y3, x47 => if x47 < (((a0.stops.getD a1.toNat default).positions).length : Int) then (if 0 <= x47 /\ x47 < (((a0.stops.getD a1.toNat default).positions).length : Int) then (if 0 <= x47 /\ x47 < (y3.length : Int) then ((n_point_tour_highest_l1_1 k a0 a1 x47 k (y3.set x47.toNat 9223372036854775807) 0).bind fun r3256 => (n_point_tour_highest_l0_1 k a0 a1 fuel r3256 (w64 (x47 + 1)))) else none) else none) else (some y3)
theorem n_point_tour_highest_l0_1_ok (k : Nat) (a0 : Stour) (a1 : Int) : ∀ (fuel : Nat) (y3 : List Int) (x47 : Int) (r : (List Int)), n_point_tour_highest_l0_1 k a0 a1 fuel y3 x47 = some r -> (VLoop none Go.Proofs.Try.prog (szF Go.Proofs.Try.f118) (bodyOf Go.Proofs.Try.f118 0) (n_point_tour_highest_l0_1_h a0 a1 y3 x47) (.exit 0) (n_point_tour_highest_l0_1_e0 a0 a1 r)) := by
 intro fuel
 induction fuel with
 | zero => intro y3 x47 r h; rw [n_point_tour_highest_l0_1.eq_1] at h; cases h
 | succ fuel ih =>
  intro y3 x47 r h
  rw [n_point_tour_highest_l0_1.eq_2] at h
  rcases ifs h with ⟨h3204, h⟩ | ⟨h3204, h⟩
  ·obtain ⟨h3205, h⟩ := ifn h
   have e3206 := (show loadL Go.Proofs.Try.prog 3 (x47.toNat * 1) (List.map vi ((a0.stops.getD a1.toNat default).positions)) = some (vi (((a0.stops.getD a1.toNat default).positions).getD x47.toNat 0)) from ld_map ag3 vi ((a0.stops.getD a1.toNat default).positions) 0 h3205 (by omega))
   obtain ⟨h3207, h⟩ := ifn h
   have e3208 := (show (0 + x47.toNat * 1) + 1 <= List.length (List.map vi y3) from (by simp only [List.length_map]; omega))
   obtain ⟨r3256, h3255, h⟩ := bs h
   have hph3255 := n_point_tour_highest_l1_1_ok k a0 a1 x47 _ _ _ _ h3255
   have e3257 := (an (an (an (show Wv (VV.rf 3 0 y3.length) (VV.rf 3 0 ((y3.set x47.toNat 9223372036854775807).length)) from (Wv.of_eq (by simp))) trivial) (an (show putT (0 + x47.toNat * 1) (List.map vi y3) [vi 9223372036854775807] = List.map vi (y3.set x47.toNat 9223372036854775807) from (by exact putT_vi y3 h3207 9223372036854775807 (by omega))) trivial)) (VRun.loop hph3255))
   have h2 := ih _ _ _ h
   obtain ⟨q, hv, hq⟩ := pkR (rd := none) (P := Go.Proofs.Try.prog) (fn := Go.Proofs.Try.f118) (k := 0) (s := (n_point_tour_highest_l0_1_h a0 a1 y3 x47)) (ans := [.reg (.n :: []), .br true, .reg (arB8_6 a0 a1 x47), .reg (nN 4 []), .reg (nN 3 []), .sub ⟨[(7, none), (8, none), (9, some (VV.rf 3 0 ((y3.set x47.toNat 9223372036854775807).length))), (10, none), (11, none), (45, none), (46, none), (47, none), (55, none), (56, none), (57, none)], [none, none, none, some (List.map vi (y3.set x47.toNat 9223372036854775807))], []⟩ (.exit 2) (n_point_tour_highest_l1_1_e0 a0 a1 x47 r3256), .reg (.n :: .n :: [])]) (c := ⟨[(7, none), (8, none), (9, none), (45, none), (46, none), (47, none)], [none, none, none, none], []⟩) (e := .normal) (s1 := (n_point_tour_highest_l0_1_h a0 a1 r3256 (w64 (x47 + 1)))) (an (an (ti trivial) (an (an (decide_eq_true h3204) trivial) (an (an (ti (an h3205 (an e3206 (ti (ti trivial))))) (an (ti (ti (an h3207 (an e3208 trivial)))) (an (ti (ti (ti trivial))) e3257))) (ti (ti trivial))))) (ti trivial)) (by kernel_rfl)
   exact round_next pm pn hv hq h2
  ·injection h with h; subst h
   exact round_stop (c := ⟨[(9, none)], [none, none, none, none], []⟩) (s1 := (n_point_tour_highest_l0_1_e0 a0 a1 y3)) pm pn (ans := [.reg (.n :: []), .br false]) (by kernel_rfl) (by intro e; cases e) (an (an (ti trivial) (an (decide_eq_false h3204) trivial)) (ti trivial))
def n_point_tour_highest (k : Nat) (a0 : Stour) (a1 : Int) (a2 : (List (List Int))) : Option (List Int) :=
 if 0 < a1 then (if 0 <= w64 (a1 - 1) /\ w64 (a1 - 1) < (a0.stops.length : Int) then (if 0 <= w64 (a1 - 1) /\ w64 (a1 - 1) < (a2.length : Int) then (if 0 <= a1 /\ a1 < (a0.stops.length : Int) then (if 0 <= (((a0.stops.getD a1.toNat default).positions).length : Int) /\ (((a0.stops.getD a1.toNat default).positions).length : Int) <= 1000000000 then ((n_point_tour_highest_l0_0 k a0 a1 a2 k (List.replicate (((a0.stops.getD a1.toNat default).positions).length : Int).toNat (0 : Int)) 0).bind fun r3085 => (some r3085)) else none) else none) else none) else none) else (if 0 <= a1 /\ a1 < (a0.stops.length : Int) then (if 0 <= (((a0.stops.getD a1.toNat default).positions).length : Int) /\ (((a0.stops.getD a1.toNat default).positions).length : Int) <= 1000000000 then ((n_point_tour_highest_l0_1 k a0 a1 k (List.replicate (((a0.stops.getD a1.toNat default).positions).length : Int).toNat (0 : Int)) 0).bind fun r3259 => (some r3259)) else none) else none)
theorem n_point_tour_highest_ok (k : Nat) (a0 : Stour) (a1 : Int) (a2 : (List (List Int))) (r : (List Int)) (h : n_point_tour_highest k a0 a1 a2 = some r) : VC Go.Proofs.Try.prog 118 [VV.ag (c_Stour a0), vi a1, VV.tr (List.map v_41 a2) a2.length] (VV.fw 1 (List.map vi r) r.length) := by
 unfold n_point_tour_highest at h
 rcases ifs h with ⟨h2928, h⟩ | ⟨h2928, h⟩
 ·obtain ⟨h2929, h⟩ := ifn h
  have e2930 := (show loadL Go.Proofs.Try.prog 41 ((w64 (a1 - 1)).toNat * 8 + 7) (List.flatMap c_Sstop a0.stops) = some (VV.tr (List.map vi ((a0.stops.getD (w64 (a1 - 1)).toNat default).positions)) (((a0.stops.getD (w64 (a1 - 1)).toNat default).positions).length)) from (ld_flat ag41 c_Sstop 8 7 len_c_Sstop (by omega) a0.stops default h2929 (by omega)).trans rfl)
  obtain ⟨h2931, h⟩ := ifn h
  have e2932 := (show loadL Go.Proofs.Try.prog 41 ((w64 (a1 - 1)).toNat * 1) (List.map v_41 a2) = some (VV.tr (List.map vi (a2.getD (w64 (a1 - 1)).toNat default)) ((a2.getD (w64 (a1 - 1)).toNat default).length)) from ld_map ag41 v_41 a2 default h2931 (by omega))
  have e2933 := (ti (ti (ti (ti (an h2929 (ti (an e2930 (ti (ti (ti (an h2931 (an e2932 (ti (ti trivial))))))))))))))
  obtain ⟨h2934, h⟩ := ifn h
  have e2935 := (show loadL Go.Proofs.Try.prog 41 (a1.toNat * 8 + 7) (List.flatMap c_Sstop a0.stops) = some (VV.tr (List.map vi ((a0.stops.getD a1.toNat default).positions)) (((a0.stops.getD a1.toNat default).positions).length)) from (ld_flat ag41 c_Sstop 8 7 len_c_Sstop (by omega) a0.stops default h2934 (by omega)).trans rfl)
  obtain ⟨h2936, h⟩ := ifn h
  have e2937 := (show 0 <= (((a0.stops.getD a1.toNat default).positions).length : Int) /\ (((a0.stops.getD a1.toNat default).positions).length : Int) = (((a0.stops.getD a1.toNat default).positions).length : Int) /\ (8 * (((a0.stops.getD a1.toNat default).positions).length : Int).toNat) <= 281474976710656 /\ (((a0.stops.getD a1.toNat default).positions).length : Int) < 1099511627776 from ⟨by omega, rfl, by omega, by omega⟩)
  have e2938 := (ti (ti (ti (an h2934 (ti (an e2935 (ti (an e2937 (ti trivial)))))))))
  have e2939 := (show loadL Go.Proofs.Try.prog 41 (a1.toNat * 8 + 7) (List.flatMap c_Sstop a0.stops) = some (VV.tr (List.map vi ((a0.stops.getD a1.toNat default).positions)) (((a0.stops.getD a1.toNat default).positions).length)) from (ld_flat ag41 c_Sstop 8 7 len_c_Sstop (by omega) a0.stops default h2934 (by omega)).trans rfl)
  have e2940 := (ti (ti (ti (an h2934 (ti (an e2939 (ti (ti trivial))))))))
  obtain ⟨r3085, h3084, h⟩ := bs h
  have hph3084 := n_point_tour_highest_l0_0_ok k a0 a1 a2 _ _ _ _ h3084
  have e3086 := (an (an (an (show Wv (VV.rf 3 0 ((((a0.stops.getD a1.toNat default).positions).length : Int).toNat)) (VV.rf 3 0 ((List.replicate (((a0.stops.getD a1.toNat default).positions).length : Int).toNat (0 : Int)).length)) from (Wv.of_eq (by simp))) trivial) (an (show List.replicate (((a0.stops.getD a1.toNat default).positions).length : Int).toNat (VV.c (.int .i64 0)) = List.map vi (List.replicate (((a0.stops.getD a1.toNat default).positions).length : Int).toNat (0 : Int)) from replicate_vi _) trivial)) (VRun.loop hph3084))
  injection h with h; subst h
  exact fun_ok pm pn Go.Proofs.Try.func118 (r0 := VV.fw 1 (List.drop 0 (List.map unfr (List.map vi r3085))) r3085.length) (ans := [.reg (.n :: .n :: []), .reg (nN 6 []), .reg (.n :: .n :: []), .br true, .reg (arB8_9 a0 a1 a2), .reg (arB8_10 a0 a1), .reg (arB8_11 a0 a1), .sub ⟨[(7, none), (8, none), (9, some (VV.rf 3 0 ((List.replicate (((a0.stops.getD a1.toNat default).positions).length : Int).toNat (0 : Int)).length))), (45, none), (46, none), (47, none)], [none, none, none, some (List.map vi (List.replicate (((a0.stops.getD a1.toNat default).positions).length : Int).toNat (0 : Int)))], []⟩ (.exit 0) (n_point_tour_highest_l0_0_e0 a0 a1 a2 r3085), .reg (.n :: .n :: [])]) (fr := true) (by kernel_rfl) (an (an (ti (ti trivial)) (an (ti (ti (ti (ti (ti (ti trivial)))))) (an (an (ti (ti trivial)) (an (decide_eq_true h2928) e2933)) (an e2938 (an (an e2940 e3086) (an (ti (ti trivial)) trivial)))))) (an (show List.all (List.map vi r3085) new0 = true from (by exact new0_vi _)) trivial)) (Wv.of_eq (eqB8_0 r3085))
 ·obtain ⟨h3087, h⟩ := ifn h
  have e3088 := (show loadL Go.Proofs.Try.prog 41 (a1.toNat * 8 + 7) (List.flatMap c_Sstop a0.stops) = some (VV.tr (List.map vi ((a0.stops.getD a1.toNat default).positions)) (((a0.stops.getD a1.toNat default).positions).length)) from (ld_flat ag41 c_Sstop 8 7 len_c_Sstop (by omega) a0.stops default h3087 (by omega)).trans rfl)
  obtain ⟨h3089, h⟩ := ifn h
  have e3090 := (show 0 <= (((a0.stops.getD a1.toNat default).positions).length : Int) /\ (((a0.stops.getD a1.toNat default).positions).length : Int) = (((a0.stops.getD a1.toNat default).positions).length : Int) /\ (8 * (((a0.stops.getD a1.toNat default).positions).length : Int).toNat) <= 281474976710656 /\ (((a0.stops.getD a1.toNat default).positions).length : Int) < 1099511627776 from ⟨by omega, rfl, by omega, by omega⟩)
  have e3091 := (ti (ti (ti (an h3087 (ti (an e3088 (ti (an e3090 (ti trivial)))))))))
  have e3092 := (show loadL Go.Proofs.Try.prog 41 (a1.toNat * 8 + 7) (List.flatMap c_Sstop a0.stops) = some (VV.tr (List.map vi ((a0.stops.getD a1.toNat default).positions)) (((a0.stops.getD a1.toNat default).positions).length)) from (ld_flat ag41 c_Sstop 8 7 len_c_Sstop (by omega) a0.stops default h3087 (by omega)).trans rfl)
  have e3093 := (ti (ti (ti (an h3087 (ti (an e3092 (ti (ti trivial))))))))
  obtain ⟨r3259, h3258, h⟩ := bs h
  have hph3258 := n_point_tour_highest_l0_1_ok k a0 a1 _ _ _ _ h3258
  have e3260 := (an (an (an (show Wv (VV.rf 3 0 ((((a0.stops.getD a1.toNat default).positions).length : Int).toNat)) (VV.rf 3 0 ((List.replicate (((a0.stops.getD a1.toNat default).positions).length : Int).toNat (0 : Int)).length)) from (Wv.of_eq (by simp))) trivial) (an (show List.replicate (((a0.stops.getD a1.toNat default).positions).length : Int).toNat (VV.c (.int .i64 0)) = List.map vi (List.replicate (((a0.stops.getD a1.toNat default).positions).length : Int).toNat (0 : Int)) from replicate_vi _) trivial)) (VRun.loop hph3258))
  injection h with h; subst h
  exact fun_ok pm pn Go.Proofs.Try.func118 (r0 := VV.fw 1 (List.drop 0 (List.map unfr (List.map vi r3259))) r3259.length) (ans := [.reg (.n :: .n :: []), .reg (nN 6 []), .reg (.n :: .n :: []), .br false, .reg (arB8_10 a0 a1), .reg (arB8_11 a0 a1), .sub ⟨[(7, none), (8, none), (9, some (VV.rf 3 0 ((List.replicate (((a0.stops.getD a1.toNat default).positions).length : Int).toNat (0 : Int)).length))), (45, none), (46, none), (47, none)], [none, none, none, some (List.map vi (List.replicate (((a0.stops.getD a1.toNat default).positions).length : Int).toNat (0 : Int)))], []⟩ (.exit 0) (n_point_tour_highest_l0_1_e0 a0 a1 r3259), .reg (.n :: .n :: [])]) (fr := true) (by kernel_rfl) (an (an (ti (ti trivial)) (an (ti (ti (ti (ti (ti (ti trivial)))))) (an (an (ti (ti trivial)) (an (decide_eq_false h2928) trivial)) (an e3091 (an (an e3093 e3260) (an (ti (ti trivial)) trivial)))))) (an (show List.all (List.map vi r3259) new0 = true from (by exact new0_vi _)) trivial)) (Wv.of_eq (eqB8_0 r3259))
def arB8_13 (z0 : (List (List Int))) (z1 : Int) (z2 : Int) : List Ans := (nN 3 (.v (VV.tr (List.map vi (z0.getD z1.toNat default)) ((z0.getD z1.toNat default).length)) :: .n :: .n :: .v (vi ((z0.getD z1.toNat default).getD z2.toNat 0)) :: .n :: .n :: []))
def nslices_Min_int_int__l0_0_h (a0 : (List Int)) (x3 : Int) (x4 : Int) : VS := ⟨mkA [(0, VV.tr (List.map vi a0) a0.length), (3, vi x3), (4, vi x4)], [], .nil⟩
def nslices_Min_int_int__l0_0_e0 (a0 : (List Int)) (r : Int) : VS := ⟨mkA [(3, vi r)], [], .nil⟩
def nslices_Min_int_int__l0_0 (k : Nat) (a0 : (List Int)) : Nat -> Int -> Int -> Option (Int)
 | 0, _, _ => none
 | fuel + 1, x3, x4 => if x4 < (a0.length : Int) then (if 0 <= x4 /\ x4 < (a0.length : Int) then (nslices_Min_int_int__l0_0 k a0 fuel (minI x3 (a0.getD x4.toNat 0)) (w64 (x4 + 1))) else none) else (some x3)
theorem nslices_Min_int_int__l0_0_ok (k : Nat) (a0 : (List Int)) : ∀ (fuel : Nat) (x3 : Int) (x4 : Int) (r : Int), nslices_Min_int_int__l0_0 k a0 fuel x3 x4 = some r -> (VLoop none Go.Proofs.Try.prog (szF Go.Proofs.Try.f140) (bodyOf Go.Proofs.Try.f140 0) (nslices_Min_int_int__l0_0_h a0 x3 x4) (.exit 0) (nslices_Min_int_int__l0_0_e0 a0 r)) := by
 intro fuel
 induction fuel with
 | zero => intro x3 x4 r h; rw [nslices_Min_int_int__l0_0.eq_1] at h; cases h
 | succ fuel ih =>
  intro x3 x4 r h
  rw [nslices_Min_int_int__l0_0.eq_2] at h
  rcases ifs h with ⟨h3409, h⟩ | ⟨h3409, h⟩
  ·obtain ⟨h3410, h⟩ := ifn h
   have e3411 := (show loadL Go.Proofs.Try.prog 3 (x4.toNat * 1) (List.map vi a0) = some (vi (a0.getD x4.toNat 0)) from ld_map ag3 vi a0 0 h3410 (by omega))
   have e3412 := (ti (ti (ti (an h3410 (an e3411 (ti (ti trivial)))))))
   have h2 := ih _ _ _ h
   obtain ⟨q, hv, hq⟩ := pkR (rd := none) (P := Go.Proofs.Try.prog) (fn := Go.Proofs.Try.f140) (k := 0) (s := (nslices_Min_int_int__l0_0_h a0 x3 x4)) (ans := [.reg (nN 4 []), .br true, .reg (nN 4 (.v (vi (a0.getD x4.toNat 0)) :: .n :: .n :: [])), .reg (nN 3 [])]) (c := ⟨[(0, none), (3, none), (4, none)], [], []⟩) (e := .normal) (s1 := (nslices_Min_int_int__l0_0_h a0 (minI x3 (a0.getD x4.toNat 0)) (w64 (x4 + 1)))) (an (an (an (ti (ti (ti (ti trivial)))) (an (decide_eq_true h3409) trivial)) (an e3412 (ti (ti (ti trivial))))) (ti trivial)) (by kernel_rfl)
   exact round_next pm pn hv hq h2
  ·injection h with h; subst h
   exact round_stop (c := ⟨[(3, none)], [], []⟩) (s1 := (nslices_Min_int_int__l0_0_e0 a0 x3)) pm pn (ans := [.reg (nN 4 []), .br false]) (by kernel_rfl) (by intro e; cases e) (an (an (ti (ti (ti (ti trivial)))) (an (decide_eq_false h3409) trivial)) (ti trivial))
def nslices_Min_int_int_ (k : Nat) (a0 : (List Int)) : Option Int :=
 if (a0.length : Int) < 1 then none else (if (0 : Int) <= 0 /\ 0 < (a0.length : Int) then ((nslices_Min_int_int__l0_0 k a0 k (a0.getD ((0 : Int)).toNat 0) 1).bind fun r3414 => (some r3414)) else none)
theorem nslices_Min_int_int__ok (k : Nat) (a0 : (List Int)) (r : Int) (h : nslices_Min_int_int_ k a0 = some r) : VC Go.Proofs.Try.prog 140 [VV.tr (List.map vi a0) a0.length] (vi r) := by
 unfold nslices_Min_int_int_ at h
 rcases ifs h with ⟨h3398, h⟩ | ⟨h3398, h⟩
 ·cases h
 ·obtain ⟨h3399, h⟩ := ifn h
  have e3400 := (show loadL Go.Proofs.Try.prog 3 (((0 : Int)).toNat * 1) (List.map vi a0) = some (vi (a0.getD ((0 : Int)).toNat 0)) from ld_map ag3 vi a0 0 h3399 (by omega))
  obtain ⟨r3414, h3413, h⟩ := bs h
  have hph3413 := nslices_Min_int_int__l0_0_ok k a0 _ _ _ _ h3413
  have e3415 := (an (ti trivial) (VRun.loop hph3413))
  injection h with h; subst h
  exact fun_ok pm pn Go.Proofs.Try.func140 (r0 := vi r3414) (ans := [.reg (.n :: []), .reg (nN 3 []), .br false, .reg (.n :: .n :: .v (vi (a0.getD ((0 : Int)).toNat 0)) :: .n :: []), .reg (.n :: []), .sub ⟨[(0, none), (3, none), (4, none)], [], []⟩ (.exit 0) (nslices_Min_int_int__l0_0_e0 a0 r3414), .reg (.n :: .n :: [])]) (fr := true) (by kernel_rfl) (an (an (ti trivial) (an (an (ti (ti (ti trivial))) (an (decide_eq_false h3398) trivial)) (an (ti (an h3399 (an e3400 (ti trivial)))) (an (an (ti trivial) e3415) (an (ti (ti trivial)) trivial))))) (ti trivial)) (Wv.refl _)
def arB8_14 (z0 : (List (List Int))) (z1 : Int) : List Ans := (nN 5 (.v (VV.tr (List.map vi (z0.getD (w64 ((z0.length : Int) - 1)).toNat default)) ((z0.getD (w64 ((z0.length : Int) - 1)).toNat default).length)) :: .call (vi z1) :: .n :: []))
def npoint_boundOf (k : Nat) (a0 : (List (List Int))) : Option Int :=
 if (a0.length : Int) = 0 then (some 0) else (if 0 <= w64 ((a0.length : Int) - 1) /\ w64 ((a0.length : Int) - 1) < (a0.length : Int) then ((nslices_Min_int_int_ k (a0.getD (w64 ((a0.length : Int) - 1)).toNat default)).bind fun r3423 => (some r3423)) else none)
theorem npoint_boundOf_ok (k : Nat) (a0 : (List (List Int))) (r : Int) (h : npoint_boundOf k a0 = some r) : VC Go.Proofs.Try.prog 119 [VV.tr (List.map v_41 a0) a0.length] (vi r) := by
 unfold npoint_boundOf at h
 rcases ifs h with ⟨h3420, h⟩ | ⟨h3420, h⟩
 ·injection h with h; subst h
  exact fun_ok pm pn Go.Proofs.Try.func119 (r0 := vi 0) (ans := [.reg (.n :: []), .reg (nN 3 []), .br true, .reg (.n :: [])]) (fr := true) (by kernel_rfl) (an (an (ti trivial) (an (ti (ti (ti trivial))) (an (decide_eq_true h3420) (an (ti trivial) trivial)))) (ti trivial)) (Wv.refl _)
 ·obtain ⟨h3421, h⟩ := ifn h
  have e3422 := (show loadL Go.Proofs.Try.prog 41 ((w64 ((a0.length : Int) - 1)).toNat * 1) (List.map v_41 a0) = some (VV.tr (List.map vi (a0.getD (w64 ((a0.length : Int) - 1)).toNat default)) ((a0.getD (w64 ((a0.length : Int) - 1)).toNat default).length)) from ld_map ag41 v_41 a0 default h3421 (by omega))
  obtain ⟨r3423, h3424, h⟩ := bs h
  have e3425 := (nslices_Min_int_int__ok k (a0.getD (w64 ((a0.length : Int) - 1)).toNat default) _ h3424)
  have e3426 := (ti (ti (ti (ti (an h3421 (an e3422 (an e3425 (ti trivial))))))))
  injection h with h; subst h
  exact fun_ok pm pn Go.Proofs.Try.func119 (r0 := vi r3423) (ans := [.reg (.n :: []), .reg (nN 3 []), .br false, .reg (arB8_14 a0 r3423)]) (fr := true) (by kernel_rfl) (an (an (ti trivial) (an (an (ti (ti (ti trivial))) (an (decide_eq_false h3420) trivial)) (an e3426 trivial))) (ti trivial)) (Wv.refl _)
def npoint_CheckLeast_l1_0_h (a0 : SSkyMount) (a2 : A23) (a3 : (List (List Int))) (r3430 : (Stour × Int × Int)) (x37 : Int) (r3514 : (List Int)) (x45 : Int) : VS := ⟨mkA [(3, VV.tr (List.map v_41 a3) a3.length), (10, VV.pt 2 0), (14, vi x37), (36, vi (r3430.1.stops.length : Int)), (37, vi x37), (43, VV.fr (List.map vi r3514) r3514.length), (44, vi (r3514.length : Int)), (45, vi x45)], [some ⟨true, 1, c_SSkyMount a0⟩, some ⟨true, 1, c_A23 a2⟩, some ⟨true, 1, g_Stour r3430.1⟩], .nil⟩
def npoint_CheckLeast_l1_0_e0 (a0 : SSkyMount) (a2 : A23) (a3 : (List (List Int))) (r3430 : (Stour × Int × Int)) (x37 : Int) (r3514 : (List Int)) (r : Unit) : VS := ⟨mkA [(8, vi 0), (9, vi 22)], [], .nil⟩
def npoint_CheckLeast_l1_0_e1 (a0 : SSkyMount) (a2 : A23) (a3 : (List (List Int))) (r3430 : (Stour × Int × Int)) (x37 : Int) (r3514 : (List Int)) (r : Unit) : VS := ⟨mkA [(3, VV.tr (List.map v_41 a3) a3.length), (10, VV.pt 2 0), (36, vi (r3430.1.stops.length : Int)), (37, vi x37)], [some ⟨true, 1, c_SSkyMount a0⟩, some ⟨true, 1, c_A23 a2⟩, some ⟨true, 1, g_Stour r3430.1⟩], .nil⟩
def npoint_CheckLeast_l1_0 (k : Nat) (a0 : SSkyMount) (a2 : A23) (a3 : (List (List Int))) (r3430 : (Stour × Int × Int)) (x37 : Int) (r3514 : (List Int)) : Nat -> Int -> Option (Sum Unit Unit)
 | 0, _ => none
 | fuel + 1, x45 => if x45 < (r3514.length : Int) then (if 0 <= x45 /\ x45 < (r3514.length : Int) then (if 0 <= x37 /\ x37 < (a3.length : Int) then (if 0 <= x45 /\ x45 < ((a3.getD x37.toNat default).length : Int) then (if (r3514.getD x45.toNat 0) < ((a3.getD x37.toNat default).getD x45.toNat 0) then (some (.inl ())) else (npoint_CheckLeast_l1_0 k a0 a2 a3 r3430 x37 r3514 fuel (w64 (x45 + 1)))) else none) else none) else none) else (some (.inr ()))
theorem npoint_CheckLeast_l1_0_ok (k : Nat) (a0 : SSkyMount) (a2 : A23) (a3 : (List (List Int))) (r3430 : (Stour × Int × Int)) (x37 : Int) (r3514 : (List Int)) : ∀ (fuel : Nat) (x45 : Int) (r : Sum Unit Unit), npoint_CheckLeast_l1_0 k a0 a2 a3 r3430 x37 r3514 fuel x45 = some r -> (match r with | .inl r => VLoop none Go.Proofs.Try.prog (szF Go.Proofs.Try.f69) (bodyOf Go.Proofs.Try.f69 1) (npoint_CheckLeast_l1_0_h a0 a2 a3 r3430 x37 r3514 x45) .ret (npoint_CheckLeast_l1_0_e0 a0 a2 a3 r3430 x37 r3514 r) | .inr r => VLoop none Go.Proofs.Try.prog (szF Go.Proofs.Try.f69) (bodyOf Go.Proofs.Try.f69 1) (npoint_CheckLeast_l1_0_h a0 a2 a3 r3430 x37 r3514 x45) (.exit 2) (npoint_CheckLeast_l1_0_e1 a0 a2 a3 r3430 x37 r3514 r)) := by
 intro fuel
 induction fuel with
 | zero => intro x45 r h; rw [npoint_CheckLeast_l1_0.eq_1] at h; cases h
 | succ fuel ih =>
  intro x45 r h
  rw [npoint_CheckLeast_l1_0.eq_2] at h
  rcases ifs h with ⟨h3535, h⟩ | ⟨h3535, h⟩
  ·obtain ⟨h3536, h⟩ := ifn h
   have e3537 := (show loadL Go.Proofs.Try.prog 3 (x45.toNat * 1) (List.map vi r3514) = some (vi (r3514.getD x45.toNat 0)) from ld_map ag3 vi r3514 0 h3536 (by omega))
   obtain ⟨h3538, h⟩ := ifn h
   have e3539 := (show loadL Go.Proofs.Try.prog 41 (x37.toNat * 1) (List.map v_41 a3) = some (VV.tr (List.map vi (a3.getD x37.toNat default)) ((a3.getD x37.toNat default).length)) from ld_map ag41 v_41 a3 default h3538 (by omega))
   obtain ⟨h3540, h⟩ := ifn h
   have e3541 := (show loadL Go.Proofs.Try.prog 3 (x45.toNat * 1) (List.map vi (a3.getD x37.toNat default)) = some (vi ((a3.getD x37.toNat default).getD x45.toNat 0)) from ld_map ag3 vi (a3.getD x37.toNat default) 0 h3540 (by omega))
   have e3542 := (ti (ti (an h3538 (an e3539 (ti (an h3540 (an e3541 (ti (ti trivial)))))))))
   rcases ifs h with ⟨h3543, h⟩ | ⟨h3543, h⟩
   ·injection h with h; subst h
    exact round_stop (c := ⟨[(8, none), (9, none)], [], []⟩) (s1 := (npoint_CheckLeast_l1_0_e0 a0 a2 a3 r3430 x37 r3514 ())) pm pn (ans := [.reg (.n :: []), .br true, .reg (.n :: .n :: .v (vi (r3514.getD x45.toNat 0)) :: .n :: .n :: []), .reg (arB8_13 a3 x37 x45), .br true, .reg (.n :: .n :: [])]) (by kernel_rfl) (by intro e; cases e) (an (an (ti trivial) (an (an (decide_eq_true h3535) trivial) (an (ti (an h3536 (an e3537 (ti (ti trivial))))) (an e3542 (an (decide_eq_true h3543) (an (ti (ti trivial)) trivial)))))) (ti trivial))
   ·have h2 := ih _ _ h
    obtain ⟨q, hv, hq⟩ := pkR (rd := none) (P := Go.Proofs.Try.prog) (fn := Go.Proofs.Try.f69) (k := 1) (s := (npoint_CheckLeast_l1_0_h a0 a2 a3 r3430 x37 r3514 x45)) (ans := [.reg (.n :: []), .br true, .reg (.n :: .n :: .v (vi (r3514.getD x45.toNat 0)) :: .n :: .n :: []), .reg (arB8_13 a3 x37 x45), .br false, .reg (.n :: .n :: [])]) (c := ⟨[(3, none), (10, none), (14, none), (36, none), (37, none), (43, none), (44, none), (45, none)], [none, none, none], []⟩) (e := .normal) (s1 := (npoint_CheckLeast_l1_0_h a0 a2 a3 r3430 x37 r3514 (w64 (x45 + 1)))) (an (an (ti trivial) (an (an (decide_eq_true h3535) trivial) (an (an (ti (an h3536 (an e3537 (ti (ti trivial))))) (an e3542 (an (decide_eq_false h3543) trivial))) (ti (ti trivial))))) (ti trivial)) (by kernel_rfl)
    cases r with
    | inl r => exact round_next pm pn hv hq h2
    | inr r =>
     exact round_next pm pn hv hq h2
  ·injection h with h; subst h
   exact round_stop (c := ⟨[(3, none), (10, none), (36, none), (37, none)], [none, none, none], []⟩) (s1 := (npoint_CheckLeast_l1_0_e1 a0 a2 a3 r3430 x37 r3514 ())) pm pn (ans := [.reg (.n :: []), .br false]) (by kernel_rfl) (by intro e; cases e) (an (an (ti trivial) (an (decide_eq_false h3535) trivial)) (ti trivial))
def npoint_CheckLeast_l0_0_h (a0 : SSkyMount) (a2 : A23) (a3 : (List (List Int))) (r3430 : (Stour × Int × Int)) (x37 : Int) : VS := ⟨mkA [(3, VV.tr (List.map v_41 a3) a3.length), (10, VV.pt 2 0), (36, vi (r3430.1.stops.length : Int)), (37, vi x37)], [some ⟨true, 1, c_SSkyMount a0⟩, some ⟨true, 1, c_A23 a2⟩, some ⟨true, 1, g_Stour r3430.1⟩], .nil⟩
def npoint_CheckLeast_l0_0_e0 (a0 : SSkyMount) (a2 : A23) (a3 : (List (List Int))) (r3430 : (Stour × Int × Int)) (r : Unit) : VS := ⟨mkA [(8, vi 0), (9, vi 22)], [], .nil⟩
def npoint_CheckLeast_l0_0_e1 (a0 : SSkyMount) (a2 : A23) (a3 : (List (List Int))) (r3430 : (Stour × Int × Int)) (r : Unit) : VS := ⟨mkA [(3, VV.tr (List.map v_41 a3) a3.length)], [], .nil⟩
def npoint_CheckLeast_l0_0 (k : Nat) (a0 : SSkyMount) (a2 : A23) (a3 : (List (List Int))) (r3430 : (Stour × Int × Int)) : Nat -> Int -> Option (Sum Unit Unit)
 | 0, _ => none
 | fuel + 1, x37 => if x37 < (r3430.1.stops.length : Int) then ((n_point_tour_highest k r3430.1 x37 a3).bind fun r3514 => ((npoint_CheckLeast_l1_0 k a0 a2 a3 r3430 x37 r3514 k 0).bind fun r3545 => (match r3545 with | .inl r3546 => (some (.inl ())) | .inr r3547 => (npoint_CheckLeast_l0_0 k a0 a2 a3 r3430 fuel (w64 (x37 + 1)))))) else (some (.inr ()))
theorem npoint_CheckLeast_l0_0_ok (k : Nat) (a0 : SSkyMount) (a2 : A23) (a3 : (List (List Int))) (r3430 : (Stour × Int × Int)) : ∀ (fuel : Nat) (x37 : Int) (r : Sum Unit Unit), npoint_CheckLeast_l0_0 k a0 a2 a3 r3430 fuel x37 = some r -> (match r with | .inl r => VLoop none Go.Proofs.Try.prog (szF Go.Proofs.Try.f69) (bodyOf Go.Proofs.Try.f69 0) (npoint_CheckLeast_l0_0_h a0 a2 a3 r3430 x37) .ret (npoint_CheckLeast_l0_0_e0 a0 a2 a3 r3430 r) | .inr r => VLoop none Go.Proofs.Try.prog (szF Go.Proofs.Try.f69) (bodyOf Go.Proofs.Try.f69 0) (npoint_CheckLeast_l0_0_h a0 a2 a3 r3430 x37) (.exit 0) (npoint_CheckLeast_l0_0_e1 a0 a2 a3 r3430 r)) := by
 intro fuel
 induction fuel with
 | zero => intro x37 r h; rw [npoint_CheckLeast_l0_0.eq_1] at h; cases h
 | succ fuel ih =>
  intro x37 r h
  rw [npoint_CheckLeast_l0_0.eq_2] at h
  rcases ifs h with ⟨h3513, h⟩ | ⟨h3513, h⟩
  ·obtain ⟨r3514, h3515, h⟩ := bs h
   have e3516 := (show VC Go.Proofs.Try.prog 118 [VV.ag (c_Stour r3430.1), vi x37, VV.tr (List.map v_41 a3) a3.length] (VV.fr (List.map vi r3514) r3514.length) from (VC.weak (n_point_tour_highest_ok k r3430.1 x37 a3 _ h3515) (Wv.fw rfl rfl)))
   obtain ⟨r3545, h3544, h⟩ := bs h
   have hph3544 := npoint_CheckLeast_l1_0_ok k a0 a2 a3 r3430 x37 r3514 _ _ _ h3544
   cases r3545 with
   | inl r3546 =>
    dsimp only at h
    have e3548 := (an (ti trivial) (VRun.loop hph3544))
    injection h with h; subst h
    exact round_stop (c := ⟨[(8, none), (9, none)], [], []⟩) (s1 := (npoint_CheckLeast_l0_0_e0 a0 a2 a3 r3430 ())) pm pn (ans := [.reg (.n :: []), .br true, .reg (.n :: .n :: []), .reg (nN 3 (.call (VV.fr (List.map vi r3514) r3514.length) :: .n :: .n :: [])), .sub ⟨[(3, none), (10, none), (14, none), (36, none), (37, none), (43, none), (44, none), (45, none)], [none, none, none], []⟩ .ret (npoint_CheckLeast_l1_0_e0 a0 a2 a3 r3430 x37 r3514 r3546)]) (by kernel_rfl) (by intro e; cases e) (an (an (ti trivial) (an (an (decide_eq_true h3513) trivial) (an (ti (ti trivial)) (an (ti (ti (ti (an e3516 (ti (ti trivial)))))) e3548)))) (ti trivial))
   | inr r3547 =>
    dsimp only at h
    have e3549 := (an (ti trivial) (VRun.loop hph3544))
    have h2 := ih _ _ h
    obtain ⟨q, hv, hq⟩ := pkR (rd := none) (P := Go.Proofs.Try.prog) (fn := Go.Proofs.Try.f69) (k := 0) (s := (npoint_CheckLeast_l0_0_h a0 a2 a3 r3430 x37)) (ans := [.reg (.n :: []), .br true, .reg (.n :: .n :: []), .reg (nN 3 (.call (VV.fr (List.map vi r3514) r3514.length) :: .n :: .n :: [])), .sub ⟨[(3, none), (10, none), (14, none), (36, none), (37, none), (43, none), (44, none), (45, none)], [none, none, none], []⟩ (.exit 2) (npoint_CheckLeast_l1_0_e1 a0 a2 a3 r3430 x37 r3514 r3547), .reg (.n :: .n :: [])]) (c := ⟨[(3, none), (10, none), (36, none), (37, none)], [none, none, none], []⟩) (e := .normal) (s1 := (npoint_CheckLeast_l0_0_h a0 a2 a3 r3430 (w64 (x37 + 1)))) (an (an (ti trivial) (an (an (decide_eq_true h3513) trivial) (an (an (ti (ti trivial)) (an (ti (ti (ti (an e3516 (ti (ti trivial)))))) e3549)) (ti (ti trivial))))) (ti trivial)) (by kernel_rfl)
    cases r with
    | inl r => exact round_next pm pn hv hq h2
    | inr r =>
     exact round_next pm pn hv hq h2
  ·injection h with h; subst h
   exact round_stop (c := ⟨[(3, none)], [], []⟩) (s1 := (npoint_CheckLeast_l0_0_e1 a0 a2 a3 r3430 ())) pm pn (ans := [.reg (.n :: []), .br false]) (by kernel_rfl) (by intro e; cases e) (an (an (ti trivial) (an (decide_eq_false h3513) trivial)) (ti trivial))
def npoint_CheckLeast (k : Nat) (a0 : SSkyMount) (a1 : (List SSkyTarget)) (a2 : A23) (a3 : (List (List Int))) : Option (Int × Int) :=
 (npoint_tourOf k a0 a1 a2).bind fun r3430 => (if r3430.2.2 = 0 then ((n_point_tour_checkPotentials k r3430.1 a3).bind fun r3435 => (if r3435 = 0 then ((npoint_CheckLeast_l0_0 k a0 a2 a3 r3430 k 0).bind fun r3551 => (match r3551 with | .inl r3552 => (some (0, 22)) | .inr r3553 => ((npoint_boundOf k a3).bind fun r3556 => (some (r3556, 0))))) else (some (0, r3435)))) else (some (0, r3430.2.2)))
theorem npoint_CheckLeast_ok (k : Nat) (a0 : SSkyMount) (a1 : (List SSkyTarget)) (a2 : A23) (a3 : (List (List Int))) (r : (Int × Int)) (h : npoint_CheckLeast k a0 a1 a2 a3 = some r) : VC Go.Proofs.Try.prog 69 [VV.ag (c_SSkyMount a0), VV.tr (List.flatMap c_SSkyTarget a1) a1.length, VV.ag (c_A23 a2), VV.tr (List.map v_41 a3) a3.length] (VV.tu [vi r.1, vi r.2]) := by
 unfold npoint_CheckLeast at h
 obtain ⟨r3430, h3431, h⟩ := bs h
 have e3432 := (show VC Go.Proofs.Try.prog 114 [VV.ag (c_SSkyMount a0), VV.tr (List.flatMap c_SSkyTarget a1) a1.length, VV.ag (c_A23 a2)] (VV.tu [VV.ag (g_Stour r3430.1), vi r3430.2.1, vi r3430.2.2]) from (VC.weak (npoint_tourOf_ok k a0 a1 a2 _ h3431) (Wv.tuL (.cons (Wv.agL (.cons (Wv.refl _) (.cons (Wv.fw rfl rfl) .nil))) (.cons (Wv.refl _) (.cons (Wv.refl _) .nil))))))
 have e3433 := (ti (ti (ti (an e3432 (ti (ti (ti (ti (ti (ti (ti (ti trivial))))))))))))
 rcases ifs h with ⟨h3434, h⟩ | ⟨h3434, h⟩
 ·obtain ⟨r3435, h3436, h⟩ := bs h
  have e3437 := (n_point_tour_checkPotentials_ok k r3430.1 a3 _ h3436)
  rcases ifs h with ⟨h3438, h⟩ | ⟨h3438, h⟩
  ·obtain ⟨r3551, h3550, h⟩ := bs h
   have hph3550 := npoint_CheckLeast_l0_0_ok k a0 a2 a3 r3430 _ _ _ h3550
   cases r3551 with
   | inl r3552 =>
    dsimp only at h
    have e3554 := (an (ti trivial) (VRun.loop hph3550))
    injection h with h; subst h
    exact fun_ok pm pn Go.Proofs.Try.func69 (r0 := VV.tu [vi 0, vi 22]) (ans := [.reg (nN 4 []), .reg (nN 3 (.call (VV.tu [VV.ag (g_Stour r3430.1), vi r3430.2.1, vi r3430.2.2]) :: nN 8 [])), .reg (.n :: .n :: []), .br false, .reg (.n :: .n :: .call (vi r3435) :: .n :: []), .reg (.n :: .n :: []), .br false, .reg (nN 4 []), .sub ⟨[(3, none), (10, none), (36, none), (37, none)], [none, none, none], []⟩ .ret (npoint_CheckLeast_l0_0_e0 a0 a2 a3 r3430 r3552)]) (fr := true) (by kernel_rfl) (an (an (ti (ti (ti (ti trivial)))) (an e3433 (an (an (ti (ti trivial)) (an (not_f (decide_eq_true h3434)) trivial)) (an (an (ti (ti (an e3437 (ti trivial)))) (an (ti (ti trivial)) (an (not_f (decide_eq_true h3438)) trivial))) (an (ti (ti (ti (ti trivial)))) e3554))))) (ti (ti trivial))) (Wv.refl _)
   | inr r3553 =>
    dsimp only at h
    have e3555 := (an (ti trivial) (VRun.loop hph3550))
    obtain ⟨r3556, h3557, h⟩ := bs h
    have e3558 := (ti (an (npoint_boundOf_ok k a3 _ h3557) (ti (ti trivial))))
    injection h with h; subst h
    exact fun_ok pm pn Go.Proofs.Try.func69 (r0 := VV.tu [vi r3556, vi 0]) (ans := [.reg (nN 4 []), .reg (nN 3 (.call (VV.tu [VV.ag (g_Stour r3430.1), vi r3430.2.1, vi r3430.2.2]) :: nN 8 [])), .reg (.n :: .n :: []), .br false, .reg (.n :: .n :: .call (vi r3435) :: .n :: []), .reg (.n :: .n :: []), .br false, .reg (nN 4 []), .sub ⟨[(3, none), (10, none), (36, none), (37, none)], [none, none, none], []⟩ (.exit 0) (npoint_CheckLeast_l0_0_e1 a0 a2 a3 r3430 r3553), .reg (.n :: .call (vi r3556) :: .n :: .n :: [])]) (fr := true) (by kernel_rfl) (an (an (ti (ti (ti (ti trivial)))) (an e3433 (an (an (ti (ti trivial)) (an (not_f (decide_eq_true h3434)) trivial)) (an (an (ti (ti (an e3437 (ti trivial)))) (an (ti (ti trivial)) (an (not_f (decide_eq_true h3438)) trivial))) (an (an (ti (ti (ti (ti trivial)))) e3555) (an e3558 trivial)))))) (ti (ti trivial))) (Wv.refl _)
  ·injection h with h; subst h
   exact fun_ok pm pn Go.Proofs.Try.func69 (r0 := VV.tu [vi 0, vi r3435]) (ans := [.reg (nN 4 []), .reg (nN 3 (.call (VV.tu [VV.ag (g_Stour r3430.1), vi r3430.2.1, vi r3430.2.2]) :: nN 8 [])), .reg (.n :: .n :: []), .br false, .reg (.n :: .n :: .call (vi r3435) :: .n :: []), .reg (.n :: .n :: []), .br true, .reg (nN 3 [])]) (fr := true) (by kernel_rfl) (an (an (ti (ti (ti (ti trivial)))) (an e3433 (an (an (ti (ti trivial)) (an (not_f (decide_eq_true h3434)) trivial)) (an (ti (ti (an e3437 (ti trivial)))) (an (ti (ti trivial)) (an (not_t (decide_eq_false h3438)) (an (ti (ti (ti trivial))) trivial))))))) (ti (ti trivial))) (Wv.refl _)
 ·injection h with h; subst h
  exact fun_ok pm pn Go.Proofs.Try.func69 (r0 := VV.tu [vi 0, vi r3430.2.2]) (ans := [.reg (nN 4 []), .reg (nN 3 (.call (VV.tu [VV.ag (g_Stour r3430.1), vi r3430.2.1, vi r3430.2.2]) :: nN 8 [])), .reg (.n :: .n :: []), .br true, .reg (nN 3 [])]) (fr := true) (by kernel_rfl) (an (an (ti (ti (ti (ti trivial)))) (an e3433 (an (ti (ti trivial)) (an (not_t (decide_eq_false h3434)) (an (ti (ti (ti trivial))) trivial))))) (ti (ti trivial))) (Wv.refl _)
def arB8_15 (z0 : (List SSkyTarget)) (z1 : Int) (z2 : ((List Int) × Int)) : List Ans := (nN 4 (.v (VV.ag (c_SSkyTarget (z0.getD z1.toNat default))) :: .n :: .n :: .call (VV.tu [VV.fr (List.map vi z2.1) z2.1.length, vi z2.2]) :: nN 5 []))
def arB8_16 (z0 : (List (List Int))) (z1 : Int) : List Ans := (nN 3 (.v (VV.tr (List.map vi (z0.getD z1.toNat default)) ((z0.getD z1.toNat default).length)) :: nN 4 []))
def arB8_19 (z0 : (List (List Int))) (z1 : Int) : List Ans := (nN 4 (.v (VV.tr (List.map vi (z0.getD z1.toNat default)) ((z0.getD z1.toNat default).length)) :: .n :: .n :: []))
def arB8_20 (z0 : (List (List Int))) (z1 : Int) (z2 : Int) (z3 : Bool) : List Ans := (nN 3 (.v (VV.tr (List.map vi (z0.getD z1.toNat default)) ((z0.getD z1.toNat default).length)) :: .n :: .n :: .v (vi ((z0.getD z1.toNat default).getD z2.toNat 0)) :: .call (vb z3) :: .n :: []))
def arB8_22 (z0 : (List (List Int))) (z1 : Int) (z2 : Int) : List Ans := (.n :: .n :: .v (VV.tr (List.map vi (z0.getD ((0 : Int)).toNat default)) ((z0.getD ((0 : Int)).toNat default).length)) :: .n :: .n :: .v (vi ((z0.getD ((0 : Int)).toNat default).getD z1.toNat 0)) :: nN 3 (.call (vi z2) :: .n :: []))
def arB8_24 (z0 : (List (List Int))) (z1 : Int) (z2 : Int) (z3 : Int) (z4 : (List SSkyTarget)) (z5 : ((List Int) × Int)) (z6 : Int) (z7 : Int) : List Ans := (nN 3 (.v (VV.tr (List.map vi (z0.getD z1.toNat default)) ((z0.getD z1.toNat default).length)) :: .n :: .n :: .v (vi ((z0.getD z1.toNat default).getD z2.toNat 0)) :: nN 4 (.v (VV.tr (List.map vi (z0.getD (w64 (z1 - 1)).toNat default)) ((z0.getD (w64 (z1 - 1)).toNat default).length)) :: .n :: .n :: .v (vi ((z0.getD (w64 (z1 - 1)).toNat default).getD z3.toNat 0)) :: nN 5 (.v (VV.ag (c_SSkyTarget (z4.getD (w64 (z1 - 1)).toNat default))) :: nN 5 (.v (vi (z5.1.getD z3.toNat 0)) :: .call (vi z6) :: .n :: .call (vi z7) :: .n :: .n :: [])))))
def arB8_25 (z0 : (List SSkyTarget)) (z1 : Int) (z2 : ((List Int) × Int)) (z3 : Int) (z4 : Int) : List Ans := (nN 4 (.v (VV.ag (c_SSkyTarget (z0.getD z1.toNat default))) :: nN 5 (.v (vi (z2.1.getD z3.toNat 0)) :: .call (vi z4) :: .n :: [])))
def arB8_26 (z0 : (List SSkyTarget)) (z1 : Int) (z2 : ((List Int) × Int)) : List Ans := (nN 5 (.v (VV.ag (c_SSkyTarget (z0.getD (w64 (z1 - 1)).toNat default))) :: .n :: .n :: .call (VV.tu [VV.fr (List.map vi z2.1) z2.1.length, vi z2.2]) :: nN 5 []))
def nspeculumref09_least_l0_0_h (a0 : (List Int)) (x3 : Int) (x4 : Int) : VS := ⟨mkA [(0, VV.tr (List.map vi a0) a0.length), (3, vi x3), (4, vi x4)], [], .nil⟩
def nspeculumref09_least_l0_0_e0 (a0 : (List Int)) (r : Int) : VS := ⟨mkA [(3, vi r)], [], .nil⟩
def nspeculumref09_least_l0_0 (k : Nat) (a0 : (List Int)) : Nat -> Int -> Int -> Option (Int)
 | 0, _, _ => none
 | fuel + 1, x3, x4 => if x4 < (a0.length : Int) then (if 0 <= x4 /\ x4 < (a0.length : Int) then (nspeculumref09_least_l0_0 k a0 fuel (minI x3 (a0.getD x4.toNat 0)) (w64 (x4 + 1))) else none) else (some x3)
theorem nspeculumref09_least_l0_0_ok (k : Nat) (a0 : (List Int)) : ∀ (fuel : Nat) (x3 : Int) (x4 : Int) (r : Int), nspeculumref09_least_l0_0 k a0 fuel x3 x4 = some r -> (VLoop none Go.Proofs.Try.prog (szF Go.Proofs.Try.f122) (bodyOf Go.Proofs.Try.f122 0) (nspeculumref09_least_l0_0_h a0 x3 x4) (.exit 0) (nspeculumref09_least_l0_0_e0 a0 r)) := by
 intro fuel
 induction fuel with
 | zero => intro x3 x4 r h; rw [nspeculumref09_least_l0_0.eq_1] at h; cases h
 | succ fuel ih =>
  intro x3 x4 r h
  rw [nspeculumref09_least_l0_0.eq_2] at h
  rcases ifs h with ⟨h4475, h⟩ | ⟨h4475, h⟩
  ·obtain ⟨h4476, h⟩ := ifn h
   have e4477 := (show loadL Go.Proofs.Try.prog 3 (x4.toNat * 1) (List.map vi a0) = some (vi (a0.getD x4.toNat 0)) from ld_map ag3 vi a0 0 h4476 (by omega))
   have e4478 := (ti (ti (ti (an h4476 (an e4477 (ti (ti trivial)))))))
   have h2 := ih _ _ _ h
   obtain ⟨q, hv, hq⟩ := pkR (rd := none) (P := Go.Proofs.Try.prog) (fn := Go.Proofs.Try.f122) (k := 0) (s := (nspeculumref09_least_l0_0_h a0 x3 x4)) (ans := [.reg (nN 4 []), .br true, .reg (nN 4 (.v (vi (a0.getD x4.toNat 0)) :: .n :: .n :: [])), .reg (nN 3 [])]) (c := ⟨[(0, none), (3, none), (4, none)], [], []⟩) (e := .normal) (s1 := (nspeculumref09_least_l0_0_h a0 (minI x3 (a0.getD x4.toNat 0)) (w64 (x4 + 1)))) (an (an (an (ti (ti (ti (ti trivial)))) (an (decide_eq_true h4475) trivial)) (an e4478 (ti (ti (ti trivial))))) (ti trivial)) (by kernel_rfl)
   exact round_next pm pn hv hq h2
  ·injection h with h; subst h
   exact round_stop (c := ⟨[(3, none)], [], []⟩) (s1 := (nspeculumref09_least_l0_0_e0 a0 x3)) pm pn (ans := [.reg (nN 4 []), .br false]) (by kernel_rfl) (by intro e; cases e) (an (an (ti (ti (ti (ti trivial)))) (an (decide_eq_false h4475) trivial)) (ti trivial))
def nspeculumref09_least (k : Nat) (a0 : (List Int)) : Option Int :=
 if (0 : Int) <= 0 /\ 0 < (a0.length : Int) then ((nspeculumref09_least_l0_0 k a0 k (a0.getD ((0 : Int)).toNat 0) 1).bind fun r4480 => (some r4480)) else none
theorem nspeculumref09_least_ok (k : Nat) (a0 : (List Int)) (r : Int) (h : nspeculumref09_least k a0 = some r) : VC Go.Proofs.Try.prog 122 [VV.tr (List.map vi a0) a0.length] (vi r) := by
 unfold nspeculumref09_least at h
 obtain ⟨h4465, h⟩ := ifn h
 have e4466 := (show loadL Go.Proofs.Try.prog 3 (((0 : Int)).toNat * 1) (List.map vi a0) = some (vi (a0.getD ((0 : Int)).toNat 0)) from ld_map ag3 vi a0 0 h4465 (by omega))
 obtain ⟨r4480, h4479, h⟩ := bs h
 have hph4479 := nspeculumref09_least_l0_0_ok k a0 _ _ _ _ h4479
 have e4481 := (an (ti trivial) (VRun.loop hph4479))
 injection h with h; subst h
 exact fun_ok pm pn Go.Proofs.Try.func122 (r0 := vi r4480) (ans := [.reg (.n :: []), .reg (.n :: .n :: .v (vi (a0.getD ((0 : Int)).toNat 0)) :: .n :: []), .reg (.n :: []), .sub ⟨[(0, none), (3, none), (4, none)], [], []⟩ (.exit 0) (nspeculumref09_least_l0_0_e0 a0 r4480), .reg (.n :: .n :: [])]) (fr := true) (by kernel_rfl) (an (an (ti trivial) (an (ti (an h4465 (an e4466 (ti trivial)))) (an (an (ti trivial) e4481) (an (ti (ti trivial)) trivial)))) (ti trivial)) (Wv.refl _)
def nspeculumref09_CheckLeast_l0_0_h (a0 : SSkyMount) (a1 : (List SSkyTarget)) (a2 : A23) (a3 : (List (List Int))) (x10 : Int) : VS := ⟨mkA [(1, VV.tr (List.flatMap c_SSkyTarget a1) a1.length), (3, VV.tr (List.map v_41 a3) a3.length), (4, VV.pt 0 0), (6, VV.pt 1 0), (10, vi x10)], [some ⟨true, 1, c_SSkyMount a0⟩, some ⟨true, 1, c_A23 a2⟩], .nil⟩
def nspeculumref09_CheckLeast_l0_0_e0 (a0 : SSkyMount) (a1 : (List SSkyTarget)) (a2 : A23) (a3 : (List (List Int))) (r : Unit) : VS := ⟨mkA [(8, vi 0), (9, vi 10)], [], .nil⟩
def nspeculumref09_CheckLeast_l0_0_e1 (a0 : SSkyMount) (a1 : (List SSkyTarget)) (a2 : A23) (a3 : (List (List Int))) (r : Unit) : VS := ⟨mkA [(1, VV.tr (List.flatMap c_SSkyTarget a1) a1.length), (3, VV.tr (List.map v_41 a3) a3.length), (4, VV.pt 0 0), (6, VV.pt 1 0)], [some ⟨true, 1, c_SSkyMount a0⟩, some ⟨true, 1, c_A23 a2⟩], .nil⟩
def nspeculumref09_CheckLeast_l0_0 (k : Nat) (a0 : SSkyMount) (a1 : (List SSkyTarget)) (a2 : A23) (a3 : (List (List Int))) : Nat -> Int -> Option (Sum Unit Unit)
 | 0, _ => none
 | fuel + 1, x10 => if x10 < (a1.length : Int) then (if 0 <= x10 /\ x10 < (a1.length : Int) then ((nspeculumref09_Turns k a0 (a1.getD x10.toNat default) a2.e0).bind fun r4515 => (if 0 <= x10 /\ x10 < (a3.length : Int) then (if ((a3.getD x10.toNat default).length : Int) = (r4515.1.length : Int) then (nspeculumref09_CheckLeast_l0_0 k a0 a1 a2 a3 fuel (w64 (x10 + 1))) else (some (.inl ()))) else none)) else none) else (some (.inr ()))
theorem nspeculumref09_CheckLeast_l0_0_ok (k : Nat) (a0 : SSkyMount) (a1 : (List SSkyTarget)) (a2 : A23) (a3 : (List (List Int))) : ∀ (fuel : Nat) (x10 : Int) (r : Sum Unit Unit), nspeculumref09_CheckLeast_l0_0 k a0 a1 a2 a3 fuel x10 = some r -> (match r with | .inl r => VLoop none Go.Proofs.Try.prog (szF Go.Proofs.Try.f72) (bodyOf Go.Proofs.Try.f72 0) (nspeculumref09_CheckLeast_l0_0_h a0 a1 a2 a3 x10) .ret (nspeculumref09_CheckLeast_l0_0_e0 a0 a1 a2 a3 r) | .inr r => VLoop none Go.Proofs.Try.prog (szF Go.Proofs.Try.f72) (bodyOf Go.Proofs.Try.f72 0) (nspeculumref09_CheckLeast_l0_0_h a0 a1 a2 a3 x10) (.exit 0) (nspeculumref09_CheckLeast_l0_0_e1 a0 a1 a2 a3 r)) := by
 intro fuel
 induction fuel with
 | zero => intro x10 r h; rw [nspeculumref09_CheckLeast_l0_0.eq_1] at h; cases h
 | succ fuel ih =>
  intro x10 r h
  rw [nspeculumref09_CheckLeast_l0_0.eq_2] at h
  rcases ifs h with ⟨h4511, h⟩ | ⟨h4511, h⟩
  ·obtain ⟨h4512, h⟩ := ifn h
   have e4513 := (show loadL Go.Proofs.Try.prog 83 (x10.toNat * 6) (List.flatMap c_SSkyTarget a1) = some (VV.ag (c_SSkyTarget (a1.getD x10.toNat default))) from ld_whole ag83 c_SSkyTarget 6 sz83 len_c_SSkyTarget a1 default h4512 (by omega))
   have e4514 := (show (0:Int) <= 0 /\ (0:Int) < ((2 : Nat) : Int) from ⟨by decide, by decide⟩)
   obtain ⟨r4515, h4516, h⟩ := bs h
   have e4517 := (show VC Go.Proofs.Try.prog 59 [VV.ag (c_SSkyMount a0), VV.ag (c_SSkyTarget (a1.getD x10.toNat default)), vi a2.e0] (VV.tu [VV.fr (List.map vi r4515.1) r4515.1.length, vi r4515.2]) from (VC.weak (nspeculumref09_Turns_ok k a0 (a1.getD x10.toNat default) a2.e0 _ h4516) (Wv.tuL (.cons (Wv.fw rfl rfl) (.cons (Wv.refl _) .nil)))))
   have e4518 := (ti (ti (ti (an h4512 (an e4513 (an e4514 (ti (an e4517 (ti (ti (ti (ti (ti trivial)))))))))))))
   obtain ⟨h4519, h⟩ := ifn h
   have e4520 := (show loadL Go.Proofs.Try.prog 41 (x10.toNat * 1) (List.map v_41 a3) = some (VV.tr (List.map vi (a3.getD x10.toNat default)) ((a3.getD x10.toNat default).length)) from ld_map ag41 v_41 a3 default h4519 (by omega))
   have e4521 := (ti (ti (an h4519 (an e4520 (ti (ti (ti (ti trivial))))))))
   rcases ifs h with ⟨h4522, h⟩ | ⟨h4522, h⟩
   ·have h2 := ih _ _ h
    obtain ⟨q, hv, hq⟩ := pkR (rd := none) (P := Go.Proofs.Try.prog) (fn := Go.Proofs.Try.f72) (k := 0) (s := (nspeculumref09_CheckLeast_l0_0_h a0 a1 a2 a3 x10)) (ans := [.reg (nN 4 []), .br true, .reg (arB8_15 a1 x10 r4515), .reg (arB8_16 a3 x10), .br false, .reg (nN 3 [])]) (c := ⟨[(1, none), (3, none), (4, none), (6, none), (10, none)], [none, none], []⟩) (e := .normal) (s1 := (nspeculumref09_CheckLeast_l0_0_h a0 a1 a2 a3 (w64 (x10 + 1)))) (an (an (an (ti (ti (ti (ti trivial)))) (an (decide_eq_true h4511) trivial)) (an (an e4518 (an e4521 (an (not_f (decide_eq_true h4522)) trivial))) (ti (ti (ti trivial))))) (ti trivial)) (by kernel_rfl)
    cases r with
    | inl r => exact round_next pm pn hv hq h2
    | inr r =>
     exact round_next pm pn hv hq h2
   ·injection h with h; subst h
    exact round_stop (c := ⟨[(8, none), (9, none)], [], []⟩) (s1 := (nspeculumref09_CheckLeast_l0_0_e0 a0 a1 a2 a3 ())) pm pn (ans := [.reg (nN 4 []), .br true, .reg (arB8_15 a1 x10 r4515), .reg (arB8_16 a3 x10), .br true, .reg (.n :: .n :: [])]) (by kernel_rfl) (by intro e; cases e) (an (an (an (ti (ti (ti (ti trivial)))) (an (decide_eq_true h4511) trivial)) (an e4518 (an e4521 (an (not_t (decide_eq_false h4522)) (an (ti (ti trivial)) trivial))))) (ti trivial))
  ·injection h with h; subst h
   exact round_stop (c := ⟨[(1, none), (3, none), (4, none), (6, none)], [none, none], []⟩) (s1 := (nspeculumref09_CheckLeast_l0_0_e1 a0 a1 a2 a3 ())) pm pn (ans := [.reg (nN 4 []), .br false]) (by kernel_rfl) (by intro e; cases e) (an (an (ti (ti (ti (ti trivial)))) (an (decide_eq_false h4511) trivial)) (ti trivial))
def nspeculumref09_CheckLeast_l2_0_h (a0 : SSkyMount) (a1 : (List SSkyTarget)) (a2 : A23) (a3 : (List (List Int))) (x13 : Int) (x14 : Int) : VS := ⟨mkA [(1, VV.tr (List.flatMap c_SSkyTarget a1) a1.length), (3, VV.tr (List.map v_41 a3) a3.length), (4, VV.pt 0 0), (6, VV.pt 1 0), (13, vi x13), (14, vi x14)], [some ⟨true, 1, c_SSkyMount a0⟩, some ⟨true, 1, c_A23 a2⟩], .nil⟩
def nspeculumref09_CheckLeast_l2_0_e0 (a0 : SSkyMount) (a1 : (List SSkyTarget)) (a2 : A23) (a3 : (List (List Int))) (x13 : Int) (r : Unit) : VS := ⟨mkA [(8, vi 0), (9, vi 2)], [], .nil⟩
def nspeculumref09_CheckLeast_l2_0_e1 (a0 : SSkyMount) (a1 : (List SSkyTarget)) (a2 : A23) (a3 : (List (List Int))) (x13 : Int) (r : Unit) : VS := ⟨mkA [(1, VV.tr (List.flatMap c_SSkyTarget a1) a1.length), (3, VV.tr (List.map v_41 a3) a3.length), (4, VV.pt 0 0), (6, VV.pt 1 0), (13, vi x13)], [some ⟨true, 1, c_SSkyMount a0⟩, some ⟨true, 1, c_A23 a2⟩], .nil⟩
def nspeculumref09_CheckLeast_l2_0 (k : Nat) (a0 : SSkyMount) (a1 : (List SSkyTarget)) (a2 : A23) (a3 : (List (List Int))) (x13 : Int) : Nat -> Int -> Option (Sum Unit Unit)
 | 0, _ => none
 | fuel + 1, x14 => if 0 <= x13 /\ x13 < (a3.length : Int) then (if x14 < ((a3.getD x13.toNat default).length : Int) then (if 0 <= x14 /\ x14 < ((a3.getD x13.toNat default).length : Int) then ((nspeculumbase_Within k ((a3.getD x13.toNat default).getD x14.toNat 0) (-1000000000000) 1000000000000).bind fun r4647 => (if r4647 = true then (nspeculumref09_CheckLeast_l2_0 k a0 a1 a2 a3 x13 fuel (w64 (x14 + 1))) else (some (.inl ())))) else none) else (some (.inr ()))) else none
theorem nspeculumref09_CheckLeast_l2_0_ok (k : Nat) (a0 : SSkyMount) (a1 : (List SSkyTarget)) (a2 : A23) (a3 : (List (List Int))) (x13 : Int) : ∀ (fuel : Nat) (x14 : Int) (r : Sum Unit Unit), nspeculumref09_CheckLeast_l2_0 k a0 a1 a2 a3 x13 fuel x14 = some r -> (match r with | .inl r => VLoop none Go.Proofs.Try.prog (szF Go.Proofs.Try.f72) (bodyOf Go.Proofs.Try.f72 2) (nspeculumref09_CheckLeast_l2_0_h a0 a1 a2 a3 x13 x14) .ret (nspeculumref09_CheckLeast_l2_0_e0 a0 a1 a2 a3 x13 r) | .inr r => VLoop none Go.Proofs.Try.prog (szF Go.Proofs.Try.f72) (bodyOf Go.Proofs.Try.f72 2) (nspeculumref09_CheckLeast_l2_0_h a0 a1 a2 a3 x13 x14) (.exit 4) (nspeculumref09_CheckLeast_l2_0_e1 a0 a1 a2 a3 x13 r)) := by
 intro fuel
 induction fuel with
 | zero => intro x14 r h; rw [nspeculumref09_CheckLeast_l2_0.eq_1] at h; cases h
 | succ fuel ih =>
  intro x14 r h
  rw [nspeculumref09_CheckLeast_l2_0.eq_2] at h
  obtain ⟨h4640, h⟩ := ifn h
  have e4641 := (show loadL Go.Proofs.Try.prog 41 (x13.toNat * 1) (List.map v_41 a3) = some (VV.tr (List.map vi (a3.getD x13.toNat default)) ((a3.getD x13.toNat default).length)) from ld_map ag41 v_41 a3 default h4640 (by omega))
  have e4642 := (ti (ti (ti (an h4640 (an e4641 (ti (ti trivial)))))))
  rcases ifs h with ⟨h4643, h⟩ | ⟨h4643, h⟩
  ·have e4644 := (show loadL Go.Proofs.Try.prog 41 (x13.toNat * 1) (List.map v_41 a3) = some (VV.tr (List.map vi (a3.getD x13.toNat default)) ((a3.getD x13.toNat default).length)) from ld_map ag41 v_41 a3 default h4640 (by omega))
   obtain ⟨h4645, h⟩ := ifn h
   have e4646 := (show loadL Go.Proofs.Try.prog 3 (x14.toNat * 1) (List.map vi (a3.getD x13.toNat default)) = some (vi ((a3.getD x13.toNat default).getD x14.toNat 0)) from ld_map ag3 vi (a3.getD x13.toNat default) 0 h4645 (by omega))
   obtain ⟨r4647, h4648, h⟩ := bs h
   have e4649 := (nspeculumbase_Within_ok k ((a3.getD x13.toNat default).getD x14.toNat 0) (-1000000000000) 1000000000000 _ h4648)
   have e4650 := (ti (ti (an h4640 (an e4644 (ti (an h4645 (an e4646 (an e4649 (ti trivial)))))))))
   rcases ifs h with ⟨h4651, h⟩ | ⟨h4651, h⟩
   ·have h2 := ih _ _ h
    obtain ⟨q, hv, hq⟩ := pkR (rd := none) (P := Go.Proofs.Try.prog) (fn := Go.Proofs.Try.f72) (k := 2) (s := (nspeculumref09_CheckLeast_l2_0_h a0 a1 a2 a3 x13 x14)) (ans := [.reg (arB8_19 a3 x13), .br true, .reg (arB8_20 a3 x13 x14 r4647), .br false, .reg (nN 3 [])]) (c := ⟨[(1, none), (3, none), (4, none), (6, none), (13, none), (14, none)], [none, none], []⟩) (e := .normal) (s1 := (nspeculumref09_CheckLeast_l2_0_h a0 a1 a2 a3 x13 (w64 (x14 + 1)))) (an (an (an e4642 (an (decide_eq_true h4643) trivial)) (an (an e4650 (an (not_f h4651) trivial)) (ti (ti (ti trivial))))) (ti trivial)) (by kernel_rfl)
    cases r with
    | inl r => exact round_next pm pn hv hq h2
    | inr r =>
     exact round_next pm pn hv hq h2
   ·injection h with h; subst h
    exact round_stop (c := ⟨[(8, none), (9, none)], [], []⟩) (s1 := (nspeculumref09_CheckLeast_l2_0_e0 a0 a1 a2 a3 x13 ())) pm pn (ans := [.reg (arB8_19 a3 x13), .br true, .reg (arB8_20 a3 x13 x14 r4647), .br true, .reg (.n :: .n :: [])]) (by kernel_rfl) (by intro e; cases e) (an (an (an e4642 (an (decide_eq_true h4643) trivial)) (an e4650 (an (not_t (bool_f h4651)) (an (ti (ti trivial)) trivial)))) (ti trivial))
  ·injection h with h; subst h
   exact round_stop (c := ⟨[(1, none), (3, none), (4, none), (6, none), (13, none)], [none, none], []⟩) (s1 := (nspeculumref09_CheckLeast_l2_0_e1 a0 a1 a2 a3 x13 ())) pm pn (ans := [.reg (arB8_19 a3 x13), .br false]) (by kernel_rfl) (by intro e; cases e) (an (an e4642 (an (decide_eq_false h4643) trivial)) (ti trivial))
def nspeculumref09_CheckLeast_l1_0_h (a0 : SSkyMount) (a1 : (List SSkyTarget)) (a2 : A23) (a3 : (List (List Int))) (x13 : Int) : VS := ⟨mkA [(1, VV.tr (List.flatMap c_SSkyTarget a1) a1.length), (3, VV.tr (List.map v_41 a3) a3.length), (4, VV.pt 0 0), (6, VV.pt 1 0), (13, vi x13)], [some ⟨true, 1, c_SSkyMount a0⟩, some ⟨true, 1, c_A23 a2⟩], .nil⟩
def nspeculumref09_CheckLeast_l1_0_e0 (a0 : SSkyMount) (a1 : (List SSkyTarget)) (a2 : A23) (a3 : (List (List Int))) (r : Unit) : VS := ⟨mkA [(8, vi 0), (9, vi 2)], [], .nil⟩
def nspeculumref09_CheckLeast_l1_0_e1 (a0 : SSkyMount) (a1 : (List SSkyTarget)) (a2 : A23) (a3 : (List (List Int))) (r : Unit) : VS := ⟨mkA [(1, VV.tr (List.flatMap c_SSkyTarget a1) a1.length), (3, VV.tr (List.map v_41 a3) a3.length), (4, VV.pt 0 0), (6, VV.pt 1 0)], [some ⟨true, 1, c_SSkyMount a0⟩, some ⟨true, 1, c_A23 a2⟩], .nil⟩
def nspeculumref09_CheckLeast_l1_0 (k : Nat) (a0 : SSkyMount) (a1 : (List SSkyTarget)) (a2 : A23) (a3 : (List (List Int))) : Nat -> Int -> Option (Sum Unit Unit)
 | 0, _ => none
 | fuel + 1, x13 => if x13 < (a1.length : Int) then ((nspeculumref09_CheckLeast_l2_0 k a0 a1 a2 a3 x13 k 0).bind fun r4653 => (match r4653 with | .inl r4654 => (some (.inl ())) | .inr r4655 => (nspeculumref09_CheckLeast_l1_0 k a0 a1 a2 a3 fuel (w64 (x13 + 1))))) else (some (.inr ()))
theorem nspeculumref09_CheckLeast_l1_0_ok (k : Nat) (a0 : SSkyMount) (a1 : (List SSkyTarget)) (a2 : A23) (a3 : (List (List Int))) : ∀ (fuel : Nat) (x13 : Int) (r : Sum Unit Unit), nspeculumref09_CheckLeast_l1_0 k a0 a1 a2 a3 fuel x13 = some r -> (match r with | .inl r => VLoop none Go.Proofs.Try.prog (szF Go.Proofs.Try.f72) (bodyOf Go.Proofs.Try.f72 1) (nspeculumref09_CheckLeast_l1_0_h a0 a1 a2 a3 x13) .ret (nspeculumref09_CheckLeast_l1_0_e0 a0 a1 a2 a3 r) | .inr r => VLoop none Go.Proofs.Try.prog (szF Go.Proofs.Try.f72) (bodyOf Go.Proofs.Try.f72 1) (nspeculumref09_CheckLeast_l1_0_h a0 a1 a2 a3 x13) (.exit 2) (nspeculumref09_CheckLeast_l1_0_e1 a0 a1 a2 a3 r)) := by
 intro fuel
 induction fuel with
 | zero => intro x13 r h; rw [nspeculumref09_CheckLeast_l1_0.eq_1] at h; cases h
 | succ fuel ih =>
  intro x13 r h
  rw [nspeculumref09_CheckLeast_l1_0.eq_2] at h
  rcases ifs h with ⟨h4615, h⟩ | ⟨h4615, h⟩
  ·obtain ⟨r4653, h4652, h⟩ := bs h
   have hph4652 := nspeculumref09_CheckLeast_l2_0_ok k a0 a1 a2 a3 x13 _ _ _ h4652
   cases r4653 with
   | inl r4654 =>
    dsimp only at h
    have e4656 := (an (ti trivial) (VRun.loop hph4652))
    injection h with h; subst h
    exact round_stop (c := ⟨[(8, none), (9, none)], [], []⟩) (s1 := (nspeculumref09_CheckLeast_l1_0_e0 a0 a1 a2 a3 ())) pm pn (ans := [.reg (nN 4 []), .br true, .reg (.n :: []), .sub ⟨[(1, none), (3, none), (4, none), (6, none), (13, none), (14, none)], [none, none], []⟩ .ret (nspeculumref09_CheckLeast_l2_0_e0 a0 a1 a2 a3 x13 r4654)]) (by kernel_rfl) (by intro e; cases e) (an (an (an (ti (ti (ti (ti trivial)))) (an (decide_eq_true h4615) trivial)) (an (ti trivial) e4656)) (ti trivial))
   | inr r4655 =>
    dsimp only at h
    have e4657 := (an (ti trivial) (VRun.loop hph4652))
    have h2 := ih _ _ h
    obtain ⟨q, hv, hq⟩ := pkR (rd := none) (P := Go.Proofs.Try.prog) (fn := Go.Proofs.Try.f72) (k := 1) (s := (nspeculumref09_CheckLeast_l1_0_h a0 a1 a2 a3 x13)) (ans := [.reg (nN 4 []), .br true, .reg (.n :: []), .sub ⟨[(1, none), (3, none), (4, none), (6, none), (13, none), (14, none)], [none, none], []⟩ (.exit 4) (nspeculumref09_CheckLeast_l2_0_e1 a0 a1 a2 a3 x13 r4655), .reg (nN 3 [])]) (c := ⟨[(1, none), (3, none), (4, none), (6, none), (13, none)], [none, none], []⟩) (e := .normal) (s1 := (nspeculumref09_CheckLeast_l1_0_h a0 a1 a2 a3 (w64 (x13 + 1)))) (an (an (an (ti (ti (ti (ti trivial)))) (an (decide_eq_true h4615) trivial)) (an (an (ti trivial) e4657) (ti (ti (ti trivial))))) (ti trivial)) (by kernel_rfl)
    cases r with
    | inl r => exact round_next pm pn hv hq h2
    | inr r =>
     exact round_next pm pn hv hq h2
  ·injection h with h; subst h
   exact round_stop (c := ⟨[(1, none), (3, none), (4, none), (6, none)], [none, none], []⟩) (s1 := (nspeculumref09_CheckLeast_l1_0_e1 a0 a1 a2 a3 ())) pm pn (ans := [.reg (nN 4 []), .br false]) (by kernel_rfl) (by intro e; cases e) (an (an (ti (ti (ti (ti trivial)))) (an (decide_eq_false h4615) trivial)) (ti trivial))
def nspeculumref09_CheckLeast_l5_0_h (a0 : SSkyMount) (a1 : (List SSkyTarget)) (a2 : A23) (a3 : (List (List Int))) (x15 : Int) (r5056 : ((List Int) × Int)) (x18 : Int) (r5266 : Int) (r5284 : ((List Int) × Int)) (x22 : Int) : VS := ⟨mkA [(1, VV.tr (List.flatMap c_SSkyTarget a1) a1.length), (3, VV.tr (List.map v_41 a3) a3.length), (4, VV.pt 0 0), (6, VV.pt 1 0), (15, vi x15), (16, VV.fr (List.map vi r5056.1) r5056.1.length), (18, vi x18), (19, vi r5266), (20, VV.fr (List.map vi r5284.1) r5284.1.length), (22, vi x22)], [some ⟨true, 1, c_SSkyMount a0⟩, some ⟨true, 1, c_A23 a2⟩], .nil⟩
def nspeculumref09_CheckLeast_l5_0_e0 (a0 : SSkyMount) (a1 : (List SSkyTarget)) (a2 : A23) (a3 : (List (List Int))) (x15 : Int) (r5056 : ((List Int) × Int)) (x18 : Int) (r5266 : Int) (r5284 : ((List Int) × Int)) (r : Unit) : VS := ⟨mkA [(8, vi 0), (9, vi 22)], [], .nil⟩
def nspeculumref09_CheckLeast_l5_0_e1 (a0 : SSkyMount) (a1 : (List SSkyTarget)) (a2 : A23) (a3 : (List (List Int))) (x15 : Int) (r5056 : ((List Int) × Int)) (x18 : Int) (r5266 : Int) (r5284 : ((List Int) × Int)) (r : Unit) : VS := ⟨mkA [(1, VV.tr (List.flatMap c_SSkyTarget a1) a1.length), (3, VV.tr (List.map v_41 a3) a3.length), (4, VV.pt 0 0), (6, VV.pt 1 0), (15, vi x15), (16, VV.fr (List.map vi r5056.1) r5056.1.length), (18, vi x18)], [some ⟨true, 1, c_SSkyMount a0⟩, some ⟨true, 1, c_A23 a2⟩], .nil⟩
def nspeculumref09_CheckLeast_l5_0 (k : Nat) (a0 : SSkyMount) (a1 : (List SSkyTarget)) (a2 : A23) (a3 : (List (List Int))) (x15 : Int) (r5056 : ((List Int) × Int)) (x18 : Int) (r5266 : Int) (r5284 : ((List Int) × Int)) : Nat -> Int -> Option (Sum Unit Unit)
 | 0, _ => none
 | fuel + 1, x22 => if x22 < (r5284.1.length : Int) then (if 0 <= x15 /\ x15 < (a3.length : Int) then (if 0 <= x18 /\ x18 < ((a3.getD x15.toNat default).length : Int) then (if 0 <= w64 (x15 - 1) /\ w64 (x15 - 1) < (a3.length : Int) then (if 0 <= x22 /\ x22 < ((a3.getD (w64 (x15 - 1)).toNat default).length : Int) then (if 0 <= w64 (x15 - 1) /\ w64 (x15 - 1) < (a1.length : Int) then (if 0 <= x22 /\ x22 < (r5284.1.length : Int) then ((nspeculumref09_Position k a0 (a1.getD (w64 (x15 - 1)).toNat default) a2.e0 (r5284.1.getD x22.toNat 0)).bind fun r5346 => ((nspeculumref09_Cost k r5346 r5266).bind fun r5349 => (if (w64 (((a3.getD (w64 (x15 - 1)).toNat default).getD x22.toNat 0) + r5349)) < ((a3.getD x15.toNat default).getD x18.toNat 0) then (some (.inl ())) else (nspeculumref09_CheckLeast_l5_0 k a0 a1 a2 a3 x15 r5056 x18 r5266 r5284 fuel (w64 (x22 + 1)))))) else none) else none) else none) else none) else none) else none) else (some (.inr ()))
theorem nspeculumref09_CheckLeast_l5_0_ok (k : Nat) (a0 : SSkyMount) (a1 : (List SSkyTarget)) (a2 : A23) (a3 : (List (List Int))) (x15 : Int) (r5056 : ((List Int) × Int)) (x18 : Int) (r5266 : Int) (r5284 : ((List Int) × Int)) : ∀ (fuel : Nat) (x22 : Int) (r : Sum Unit Unit), nspeculumref09_CheckLeast_l5_0 k a0 a1 a2 a3 x15 r5056 x18 r5266 r5284 fuel x22 = some r -> (match r with | .inl r => VLoop none Go.Proofs.Try.prog (szF Go.Proofs.Try.f72) (bodyOf Go.Proofs.Try.f72 5) (nspeculumref09_CheckLeast_l5_0_h a0 a1 a2 a3 x15 r5056 x18 r5266 r5284 x22) .ret (nspeculumref09_CheckLeast_l5_0_e0 a0 a1 a2 a3 x15 r5056 x18 r5266 r5284 r) | .inr r => VLoop none Go.Proofs.Try.prog (szF Go.Proofs.Try.f72) (bodyOf Go.Proofs.Try.f72 5) (nspeculumref09_CheckLeast_l5_0_h a0 a1 a2 a3 x15 r5056 x18 r5266 r5284 x22) (.exit 10) (nspeculumref09_CheckLeast_l5_0_e1 a0 a1 a2 a3 x15 r5056 x18 r5266 r5284 r)) := by
 intro fuel
 induction fuel with
 | zero => intro x22 r h; rw [nspeculumref09_CheckLeast_l5_0.eq_1] at h; cases h
 | succ fuel ih =>
  intro x22 r h
  rw [nspeculumref09_CheckLeast_l5_0.eq_2] at h
  rcases ifs h with ⟨h5332, h⟩ | ⟨h5332, h⟩
  ·obtain ⟨h5333, h⟩ := ifn h
   have e5334 := (show loadL Go.Proofs.Try.prog 41 (x15.toNat * 1) (List.map v_41 a3) = some (VV.tr (List.map vi (a3.getD x15.toNat default)) ((a3.getD x15.toNat default).length)) from ld_map ag41 v_41 a3 default h5333 (by omega))
   obtain ⟨h5335, h⟩ := ifn h
   have e5336 := (show loadL Go.Proofs.Try.prog 3 (x18.toNat * 1) (List.map vi (a3.getD x15.toNat default)) = some (vi ((a3.getD x15.toNat default).getD x18.toNat 0)) from ld_map ag3 vi (a3.getD x15.toNat default) 0 h5335 (by omega))
   obtain ⟨h5337, h⟩ := ifn h
   have e5338 := (show loadL Go.Proofs.Try.prog 41 ((w64 (x15 - 1)).toNat * 1) (List.map v_41 a3) = some (VV.tr (List.map vi (a3.getD (w64 (x15 - 1)).toNat default)) ((a3.getD (w64 (x15 - 1)).toNat default).length)) from ld_map ag41 v_41 a3 default h5337 (by omega))
   obtain ⟨h5339, h⟩ := ifn h
   have e5340 := (show loadL Go.Proofs.Try.prog 3 (x22.toNat * 1) (List.map vi (a3.getD (w64 (x15 - 1)).toNat default)) = some (vi ((a3.getD (w64 (x15 - 1)).toNat default).getD x22.toNat 0)) from ld_map ag3 vi (a3.getD (w64 (x15 - 1)).toNat default) 0 h5339 (by omega))
   obtain ⟨h5341, h⟩ := ifn h
   have e5342 := (show loadL Go.Proofs.Try.prog 83 ((w64 (x15 - 1)).toNat * 6) (List.flatMap c_SSkyTarget a1) = some (VV.ag (c_SSkyTarget (a1.getD (w64 (x15 - 1)).toNat default))) from ld_whole ag83 c_SSkyTarget 6 sz83 len_c_SSkyTarget a1 default h5341 (by omega))
   have e5343 := (show (0:Int) <= 0 /\ (0:Int) < ((2 : Nat) : Int) from ⟨by decide, by decide⟩)
   obtain ⟨h5344, h⟩ := ifn h
   have e5345 := (show loadL Go.Proofs.Try.prog 3 (x22.toNat * 1) (List.map vi r5284.1) = some (vi (r5284.1.getD x22.toNat 0)) from ld_map ag3 vi r5284.1 0 h5344 (by omega))
   obtain ⟨r5346, h5347, h⟩ := bs h
   have e5348 := (nspeculumref09_Position_ok k a0 (a1.getD (w64 (x15 - 1)).toNat default) a2.e0 (r5284.1.getD x22.toNat 0) _ h5347)
   obtain ⟨r5349, h5350, h⟩ := bs h
   have e5351 := (nspeculumref09_Cost_ok k r5346 r5266 _ h5350)
   have e5352 := (ti (ti (an h5333 (an e5334 (ti (an h5335 (an e5336 (ti (ti (ti (an h5337 (an e5338 (ti (an h5339 (an e5340 (ti (ti (ti (ti (an h5341 (an e5342 (an e5343 (ti (ti (ti (an h5344 (an e5345 (an e5348 (ti (an e5351 (ti (ti trivial))))))))))))))))))))))))))))))))
   rcases ifs h with ⟨h5353, h⟩ | ⟨h5353, h⟩
   ·injection h with h; subst h
    exact round_stop (c := ⟨[(8, none), (9, none)], [], []⟩) (s1 := (nspeculumref09_CheckLeast_l5_0_e0 a0 a1 a2 a3 x15 r5056 x18 r5266 r5284 ())) pm pn (ans := [.reg (nN 4 []), .br true, .reg (arB8_24 a3 x15 x18 x22 a1 r5284 r5346 r5349), .br true, .reg (.n :: .n :: [])]) (by kernel_rfl) (by intro e; cases e) (an (an (an (ti (ti (ti (ti trivial)))) (an (decide_eq_true h5332) trivial)) (an e5352 (an (decide_eq_true h5353) (an (ti (ti trivial)) trivial)))) (ti trivial))
   ·have h2 := ih _ _ h
    obtain ⟨q, hv, hq⟩ := pkR (rd := none) (P := Go.Proofs.Try.prog) (fn := Go.Proofs.Try.f72) (k := 5) (s := (nspeculumref09_CheckLeast_l5_0_h a0 a1 a2 a3 x15 r5056 x18 r5266 r5284 x22)) (ans := [.reg (nN 4 []), .br true, .reg (arB8_24 a3 x15 x18 x22 a1 r5284 r5346 r5349), .br false, .reg (nN 3 [])]) (c := ⟨[(1, none), (3, none), (4, none), (6, none), (15, none), (16, none), (18, none), (19, none), (20, none), (22, none)], [none, none], []⟩) (e := .normal) (s1 := (nspeculumref09_CheckLeast_l5_0_h a0 a1 a2 a3 x15 r5056 x18 r5266 r5284 (w64 (x22 + 1)))) (an (an (an (ti (ti (ti (ti trivial)))) (an (decide_eq_true h5332) trivial)) (an (an e5352 (an (decide_eq_false h5353) trivial)) (ti (ti (ti trivial))))) (ti trivial)) (by kernel_rfl)
    cases r with
    | inl r => exact round_next pm pn hv hq h2
    | inr r =>
     exact round_next pm pn hv hq h2
  ·injection h with h; subst h
   exact round_stop (c := ⟨[(1, none), (3, none), (4, none), (6, none), (15, none), (16, none), (18, none)], [none, none], []⟩) (s1 := (nspeculumref09_CheckLeast_l5_0_e1 a0 a1 a2 a3 x15 r5056 x18 r5266 r5284 ())) pm pn (ans := [.reg (nN 4 []), .br false]) (by kernel_rfl) (by intro e; cases e) (an (an (ti (ti (ti (ti trivial)))) (an (decide_eq_false h5332) trivial)) (ti trivial))
def nspeculumref09_CheckLeast_l4_0_h (a0 : SSkyMount) (a1 : (List SSkyTarget)) (a2 : A23) (a3 : (List (List Int))) (x15 : Int) (r5056 : ((List Int) × Int)) (x18 : Int) : VS := ⟨mkA [(1, VV.tr (List.flatMap c_SSkyTarget a1) a1.length), (3, VV.tr (List.map v_41 a3) a3.length), (4, VV.pt 0 0), (6, VV.pt 1 0), (15, vi x15), (16, VV.fr (List.map vi r5056.1) r5056.1.length), (18, vi x18)], [some ⟨true, 1, c_SSkyMount a0⟩, some ⟨true, 1, c_A23 a2⟩], .nil⟩
def nspeculumref09_CheckLeast_l4_0_e0 (a0 : SSkyMount) (a1 : (List SSkyTarget)) (a2 : A23) (a3 : (List (List Int))) (x15 : Int) (r5056 : ((List Int) × Int)) (r : Unit) : VS := ⟨mkA [(8, vi 0), (9, vi 22)], [], .nil⟩
def nspeculumref09_CheckLeast_l4_0_e1 (a0 : SSkyMount) (a1 : (List SSkyTarget)) (a2 : A23) (a3 : (List (List Int))) (x15 : Int) (r5056 : ((List Int) × Int)) (r : Unit) : VS := ⟨mkA [(1, VV.tr (List.flatMap c_SSkyTarget a1) a1.length), (3, VV.tr (List.map v_41 a3) a3.length), (4, VV.pt 0 0), (6, VV.pt 1 0), (15, vi x15)], [some ⟨true, 1, c_SSkyMount a0⟩, some ⟨true, 1, c_A23 a2⟩], .nil⟩
def nspeculumref09_CheckLeast_l4_0 (k : Nat) (a0 : SSkyMount) (a1 : (List SSkyTarget)) (a2 : A23) (a3 : (List (List Int))) (x15 : Int) (r5056 : ((List Int) × Int)) : Nat -> Int -> Option (Sum Unit Unit)
 | 0, _ => none
 | fuel + 1, x18 => if x18 < (r5056.1.length : Int) then (if 0 <= x15 /\ x15 < (a1.length : Int) then (if 0 <= x18 /\ x18 < (r5056.1.length : Int) then ((nspeculumref09_Position k a0 (a1.getD x15.toNat default) a2.e0 (r5056.1.getD x18.toNat 0)).bind fun r5266 => (if x15 = 0 then (if (0 : Int) <= 0 /\ 0 < (a3.length : Int) then (if 0 <= x18 /\ x18 < ((a3.getD ((0 : Int)).toNat default).length : Int) then ((nspeculumref09_Cost k a2.e1 r5266).bind fun r5276 => (if r5276 < ((a3.getD ((0 : Int)).toNat default).getD x18.toNat 0) then (some (.inl ())) else (nspeculumref09_CheckLeast_l4_0 k a0 a1 a2 a3 x15 r5056 fuel (w64 (x18 + 1))))) else none) else none) else (if 0 <= w64 (x15 - 1) /\ w64 (x15 - 1) < (a1.length : Int) then ((nspeculumref09_Turns k a0 (a1.getD (w64 (x15 - 1)).toNat default) a2.e0).bind fun r5284 => ((nspeculumref09_CheckLeast_l5_0 k a0 a1 a2 a3 x15 r5056 x18 r5266 r5284 k 0).bind fun r5355 => (match r5355 with | .inl r5356 => (some (.inl ())) | .inr r5357 => (nspeculumref09_CheckLeast_l4_0 k a0 a1 a2 a3 x15 r5056 fuel (w64 (x18 + 1)))))) else none))) else none) else none) else (some (.inr ()))
theorem nspeculumref09_CheckLeast_l4_0_ok (k : Nat) (a0 : SSkyMount) (a1 : (List SSkyTarget)) (a2 : A23) (a3 : (List (List Int))) (x15 : Int) (r5056 : ((List Int) × Int)) : ∀ (fuel : Nat) (x18 : Int) (r : Sum Unit Unit), nspeculumref09_CheckLeast_l4_0 k a0 a1 a2 a3 x15 r5056 fuel x18 = some r -> (match r with | .inl r => VLoop none Go.Proofs.Try.prog (szF Go.Proofs.Try.f72) (bodyOf Go.Proofs.Try.f72 4) (nspeculumref09_CheckLeast_l4_0_h a0 a1 a2 a3 x15 r5056 x18) .ret (nspeculumref09_CheckLeast_l4_0_e0 a0 a1 a2 a3 x15 r5056 r) | .inr r => VLoop none Go.Proofs.Try.prog (szF Go.Proofs.Try.f72) (bodyOf Go.Proofs.Try.f72 4) (nspeculumref09_CheckLeast_l4_0_h a0 a1 a2 a3 x15 r5056 x18) (.exit 8) (nspeculumref09_CheckLeast_l4_0_e1 a0 a1 a2 a3 x15 r5056 r)) := by
 intro fuel
 induction fuel with
 | zero => intro x18 r h; rw [nspeculumref09_CheckLeast_l4_0.eq_1] at h; cases h
 | succ fuel ih =>
  intro x18 r h
  rw [nspeculumref09_CheckLeast_l4_0.eq_2] at h
  rcases ifs h with ⟨h5260, h⟩ | ⟨h5260, h⟩
  ·obtain ⟨h5261, h⟩ := ifn h
   have e5262 := (show loadL Go.Proofs.Try.prog 83 (x15.toNat * 6) (List.flatMap c_SSkyTarget a1) = some (VV.ag (c_SSkyTarget (a1.getD x15.toNat default))) from ld_whole ag83 c_SSkyTarget 6 sz83 len_c_SSkyTarget a1 default h5261 (by omega))
   have e5263 := (show (0:Int) <= 0 /\ (0:Int) < ((2 : Nat) : Int) from ⟨by decide, by decide⟩)
   obtain ⟨h5264, h⟩ := ifn h
   have e5265 := (show loadL Go.Proofs.Try.prog 3 (x18.toNat * 1) (List.map vi r5056.1) = some (vi (r5056.1.getD x18.toNat 0)) from ld_map ag3 vi r5056.1 0 h5264 (by omega))
   obtain ⟨r5266, h5267, h⟩ := bs h
   have e5268 := (nspeculumref09_Position_ok k a0 (a1.getD x15.toNat default) a2.e0 (r5056.1.getD x18.toNat 0) _ h5267)
   have e5269 := (ti (ti (ti (an h5261 (an e5262 (an e5263 (ti (ti (ti (an h5264 (an e5265 (an e5268 (ti trivial)))))))))))))
   rcases ifs h with ⟨h5270, h⟩ | ⟨h5270, h⟩
   ·obtain ⟨h5271, h⟩ := ifn h
    have e5272 := (show loadL Go.Proofs.Try.prog 41 (((0 : Int)).toNat * 1) (List.map v_41 a3) = some (VV.tr (List.map vi (a3.getD ((0 : Int)).toNat default)) ((a3.getD ((0 : Int)).toNat default).length)) from ld_map ag41 v_41 a3 default h5271 (by omega))
    obtain ⟨h5273, h⟩ := ifn h
    have e5274 := (show loadL Go.Proofs.Try.prog 3 (x18.toNat * 1) (List.map vi (a3.getD ((0 : Int)).toNat default)) = some (vi ((a3.getD ((0 : Int)).toNat default).getD x18.toNat 0)) from ld_map ag3 vi (a3.getD ((0 : Int)).toNat default) 0 h5273 (by omega))
    have e5275 := (show (0:Int) <= 1 /\ (1:Int) < ((2 : Nat) : Int) from ⟨by decide, by decide⟩)
    obtain ⟨r5276, h5277, h⟩ := bs h
    have e5278 := (nspeculumref09_Cost_ok k a2.e1 r5266 _ h5277)
    have e5279 := (ti (an h5271 (an e5272 (ti (an h5273 (an e5274 (an e5275 (ti (ti (an e5278 (ti trivial)))))))))))
    rcases ifs h with ⟨h5280, h⟩ | ⟨h5280, h⟩
    ·injection h with h; subst h
     exact round_stop (c := ⟨[(8, none), (9, none)], [], []⟩) (s1 := (nspeculumref09_CheckLeast_l4_0_e0 a0 a1 a2 a3 x15 r5056 ())) pm pn (ans := [.reg (nN 4 []), .br true, .reg (arB8_25 a1 x15 r5056 x18 r5266), .reg (.n :: .n :: []), .br true, .reg (arB8_22 a3 x18 r5276), .br true, .reg (.n :: .n :: [])]) (by kernel_rfl) (by intro e; cases e) (an (an (an (ti (ti (ti (ti trivial)))) (an (decide_eq_true h5260) trivial)) (an e5269 (an (ti (ti trivial)) (an (decide_eq_true h5270) (an e5279 (an (decide_eq_true h5280) (an (ti (ti trivial)) trivial))))))) (ti trivial))
    ·have h2 := ih _ _ h
     obtain ⟨q, hv, hq⟩ := pkR (rd := none) (P := Go.Proofs.Try.prog) (fn := Go.Proofs.Try.f72) (k := 4) (s := (nspeculumref09_CheckLeast_l4_0_h a0 a1 a2 a3 x15 r5056 x18)) (ans := [.reg (nN 4 []), .br true, .reg (arB8_25 a1 x15 r5056 x18 r5266), .reg (.n :: .n :: []), .br true, .reg (arB8_22 a3 x18 r5276), .br false, .reg (nN 3 [])]) (c := ⟨[(1, none), (3, none), (4, none), (6, none), (15, none), (16, none), (18, none)], [none, none], []⟩) (e := .normal) (s1 := (nspeculumref09_CheckLeast_l4_0_h a0 a1 a2 a3 x15 r5056 (w64 (x18 + 1)))) (an (an (an (ti (ti (ti (ti trivial)))) (an (decide_eq_true h5260) trivial)) (an (an e5269 (an (ti (ti trivial)) (an (decide_eq_true h5270) (an (an e5279 (an (decide_eq_false h5280) trivial)) trivial)))) (ti (ti (ti trivial))))) (ti trivial)) (by kernel_rfl)
     cases r with
     | inl r => exact round_next pm pn hv hq h2
     | inr r =>
      exact round_next pm pn hv hq h2
   ·obtain ⟨h5281, h⟩ := ifn h
    have e5282 := (show loadL Go.Proofs.Try.prog 83 ((w64 (x15 - 1)).toNat * 6) (List.flatMap c_SSkyTarget a1) = some (VV.ag (c_SSkyTarget (a1.getD (w64 (x15 - 1)).toNat default))) from ld_whole ag83 c_SSkyTarget 6 sz83 len_c_SSkyTarget a1 default h5281 (by omega))
    have e5283 := (show (0:Int) <= 0 /\ (0:Int) < ((2 : Nat) : Int) from ⟨by decide, by decide⟩)
    obtain ⟨r5284, h5285, h⟩ := bs h
    have e5286 := (show VC Go.Proofs.Try.prog 59 [VV.ag (c_SSkyMount a0), VV.ag (c_SSkyTarget (a1.getD (w64 (x15 - 1)).toNat default)), vi a2.e0] (VV.tu [VV.fr (List.map vi r5284.1) r5284.1.length, vi r5284.2]) from (VC.weak (nspeculumref09_Turns_ok k a0 (a1.getD (w64 (x15 - 1)).toNat default) a2.e0 _ h5285) (Wv.tuL (.cons (Wv.fw rfl rfl) (.cons (Wv.refl _) .nil)))))
    have e5287 := (ti (ti (ti (ti (an h5281 (an e5282 (an e5283 (ti (an e5286 (ti (ti (ti (ti (ti trivial))))))))))))))
    obtain ⟨r5355, h5354, h⟩ := bs h
    have hph5354 := nspeculumref09_CheckLeast_l5_0_ok k a0 a1 a2 a3 x15 r5056 x18 r5266 r5284 _ _ _ h5354
    cases r5355 with
    | inl r5356 =>
     dsimp only at h
     have e5358 := (an (ti trivial) (VRun.loop hph5354))
     injection h with h; subst h
     exact round_stop (c := ⟨[(8, none), (9, none)], [], []⟩) (s1 := (nspeculumref09_CheckLeast_l4_0_e0 a0 a1 a2 a3 x15 r5056 ())) pm pn (ans := [.reg (nN 4 []), .br true, .reg (arB8_25 a1 x15 r5056 x18 r5266), .reg (.n :: .n :: []), .br false, .reg (arB8_26 a1 x15 r5284), .reg (.n :: []), .sub ⟨[(1, none), (3, none), (4, none), (6, none), (15, none), (16, none), (18, none), (19, none), (20, none), (22, none)], [none, none], []⟩ .ret (nspeculumref09_CheckLeast_l5_0_e0 a0 a1 a2 a3 x15 r5056 x18 r5266 r5284 r5356)]) (by kernel_rfl) (by intro e; cases e) (an (an (an (ti (ti (ti (ti trivial)))) (an (decide_eq_true h5260) trivial)) (an e5269 (an (an (ti (ti trivial)) (an (decide_eq_false h5270) trivial)) (an e5287 (an (ti trivial) e5358))))) (ti trivial))
    | inr r5357 =>
     dsimp only at h
     have e5359 := (an (ti trivial) (VRun.loop hph5354))
     have h2 := ih _ _ h
     obtain ⟨q, hv, hq⟩ := pkR (rd := none) (P := Go.Proofs.Try.prog) (fn := Go.Proofs.Try.f72) (k := 4) (s := (nspeculumref09_CheckLeast_l4_0_h a0 a1 a2 a3 x15 r5056 x18)) (ans := [.reg (nN 4 []), .br true, .reg (arB8_25 a1 x15 r5056 x18 r5266), .reg (.n :: .n :: []), .br false, .reg (arB8_26 a1 x15 r5284), .reg (.n :: []), .sub ⟨[(1, none), (3, none), (4, none), (6, none), (15, none), (16, none), (18, none), (19, none), (20, none), (22, none)], [none, none], []⟩ (.exit 10) (nspeculumref09_CheckLeast_l5_0_e1 a0 a1 a2 a3 x15 r5056 x18 r5266 r5284 r5357), .reg (nN 3 [])]) (c := ⟨[(1, none), (3, none), (4, none), (6, none), (15, none), (16, none), (18, none)], [none, none], []⟩) (e := .normal) (s1 := (nspeculumref09_CheckLeast_l4_0_h a0 a1 a2 a3 x15 r5056 (w64 (x18 + 1)))) (an (an (an (ti (ti (ti (ti trivial)))) (an (decide_eq_true h5260) trivial)) (an (an e5269 (an (an (ti (ti trivial)) (an (decide_eq_false h5270) trivial)) (an e5287 (an (ti trivial) e5359)))) (ti (ti (ti trivial))))) (ti trivial)) (by kernel_rfl)
     cases r with
     | inl r => exact round_next pm pn hv hq h2
     | inr r =>
      exact round_next pm pn hv hq h2
  ·injection h with h; subst h
   exact round_stop (c := ⟨[(1, none), (3, none), (4, none), (6, none), (15, none)], [none, none], []⟩) (s1 := (nspeculumref09_CheckLeast_l4_0_e1 a0 a1 a2 a3 x15 r5056 ())) pm pn (ans := [.reg (nN 4 []), .br false]) (by kernel_rfl) (by intro e; cases e) (an (an (ti (ti (ti (ti trivial)))) (an (decide_eq_false h5260) trivial)) (ti trivial))
def nspeculumref09_CheckLeast_l3_0_h (a0 : SSkyMount) (a1 : (List SSkyTarget)) (a2 : A23) (a3 : (List (List Int))) (x15 : Int) : VS := ⟨mkA [(1, VV.tr (List.flatMap c_SSkyTarget a1) a1.length), (3, VV.tr (List.map v_41 a3) a3.length), (4, VV.pt 0 0), (6, VV.pt 1 0), (15, vi x15)], [some ⟨true, 1, c_SSkyMount a0⟩, some ⟨true, 1, c_A23 a2⟩], .nil⟩
def nspeculumref09_CheckLeast_l3_0_e0 (a0 : SSkyMount) (a1 : (List SSkyTarget)) (a2 : A23) (a3 : (List (List Int))) (r : Unit) : VS := ⟨mkA [(8, vi 0), (9, vi 22)], [], .nil⟩
def nspeculumref09_CheckLeast_l3_0_e1 (a0 : SSkyMount) (a1 : (List SSkyTarget)) (a2 : A23) (a3 : (List (List Int))) (r : Unit) : VS := ⟨mkA [(1, VV.tr (List.flatMap c_SSkyTarget a1) a1.length), (3, VV.tr (List.map v_41 a3) a3.length)], [], .nil⟩
def nspeculumref09_CheckLeast_l3_0 (k : Nat) (a0 : SSkyMount) (a1 : (List SSkyTarget)) (a2 : A23) (a3 : (List (List Int))) : Nat -> Int -> Option (Sum Unit Unit)
 | 0, _ => none
 | fuel + 1, x15 => if x15 < (a1.length : Int) then (if 0 <= x15 /\ x15 < (a1.length : Int) then ((nspeculumref09_Turns k a0 (a1.getD x15.toNat default) a2.e0).bind fun r5056 => ((nspeculumref09_CheckLeast_l4_0 k a0 a1 a2 a3 x15 r5056 k 0).bind fun r5361 => (match r5361 with | .inl r5362 => (some (.inl ())) | .inr r5363 => (nspeculumref09_CheckLeast_l3_0 k a0 a1 a2 a3 fuel (w64 (x15 + 1)))))) else none) else (some (.inr ()))
theorem nspeculumref09_CheckLeast_l3_0_ok (k : Nat) (a0 : SSkyMount) (a1 : (List SSkyTarget)) (a2 : A23) (a3 : (List (List Int))) : ∀ (fuel : Nat) (x15 : Int) (r : Sum Unit Unit), nspeculumref09_CheckLeast_l3_0 k a0 a1 a2 a3 fuel x15 = some r -> (match r with | .inl r => VLoop none Go.Proofs.Try.prog (szF Go.Proofs.Try.f72) (bodyOf Go.Proofs.Try.f72 3) (nspeculumref09_CheckLeast_l3_0_h a0 a1 a2 a3 x15) .ret (nspeculumref09_CheckLeast_l3_0_e0 a0 a1 a2 a3 r) | .inr r => VLoop none Go.Proofs.Try.prog (szF Go.Proofs.Try.f72) (bodyOf Go.Proofs.Try.f72 3) (nspeculumref09_CheckLeast_l3_0_h a0 a1 a2 a3 x15) (.exit 6) (nspeculumref09_CheckLeast_l3_0_e1 a0 a1 a2 a3 r)) := by
 intro fuel
 induction fuel with
 | zero => intro x15 r h; rw [nspeculumref09_CheckLeast_l3_0.eq_1] at h; cases h
 | succ fuel ih =>
  intro x15 r h
  rw [nspeculumref09_CheckLeast_l3_0.eq_2] at h
  rcases ifs h with ⟨h5052, h⟩ | ⟨h5052, h⟩
  ·obtain ⟨h5053, h⟩ := ifn h
   have e5054 := (show loadL Go.Proofs.Try.prog 83 (x15.toNat * 6) (List.flatMap c_SSkyTarget a1) = some (VV.ag (c_SSkyTarget (a1.getD x15.toNat default))) from ld_whole ag83 c_SSkyTarget 6 sz83 len_c_SSkyTarget a1 default h5053 (by omega))
   have e5055 := (show (0:Int) <= 0 /\ (0:Int) < ((2 : Nat) : Int) from ⟨by decide, by decide⟩)
   obtain ⟨r5056, h5057, h⟩ := bs h
   have e5058 := (show VC Go.Proofs.Try.prog 59 [VV.ag (c_SSkyMount a0), VV.ag (c_SSkyTarget (a1.getD x15.toNat default)), vi a2.e0] (VV.tu [VV.fr (List.map vi r5056.1) r5056.1.length, vi r5056.2]) from (VC.weak (nspeculumref09_Turns_ok k a0 (a1.getD x15.toNat default) a2.e0 _ h5057) (Wv.tuL (.cons (Wv.fw rfl rfl) (.cons (Wv.refl _) .nil)))))
   have e5059 := (ti (ti (ti (an h5053 (an e5054 (an e5055 (ti (an e5058 (ti (ti (ti (ti (ti trivial)))))))))))))
   obtain ⟨r5361, h5360, h⟩ := bs h
   have hph5360 := nspeculumref09_CheckLeast_l4_0_ok k a0 a1 a2 a3 x15 r5056 _ _ _ h5360
   cases r5361 with
   | inl r5362 =>
    dsimp only at h
    have e5364 := (an (ti trivial) (VRun.loop hph5360))
    injection h with h; subst h
    exact round_stop (c := ⟨[(8, none), (9, none)], [], []⟩) (s1 := (nspeculumref09_CheckLeast_l3_0_e0 a0 a1 a2 a3 ())) pm pn (ans := [.reg (nN 4 []), .br true, .reg (arB8_15 a1 x15 r5056), .reg (.n :: []), .sub ⟨[(1, none), (3, none), (4, none), (6, none), (15, none), (16, none), (18, none)], [none, none], []⟩ .ret (nspeculumref09_CheckLeast_l4_0_e0 a0 a1 a2 a3 x15 r5056 r5362)]) (by kernel_rfl) (by intro e; cases e) (an (an (an (ti (ti (ti (ti trivial)))) (an (decide_eq_true h5052) trivial)) (an e5059 (an (ti trivial) e5364))) (ti trivial))
   | inr r5363 =>
    dsimp only at h
    have e5365 := (an (ti trivial) (VRun.loop hph5360))
    have h2 := ih _ _ h
    obtain ⟨q, hv, hq⟩ := pkR (rd := none) (P := Go.Proofs.Try.prog) (fn := Go.Proofs.Try.f72) (k := 3) (s := (nspeculumref09_CheckLeast_l3_0_h a0 a1 a2 a3 x15)) (ans := [.reg (nN 4 []), .br true, .reg (arB8_15 a1 x15 r5056), .reg (.n :: []), .sub ⟨[(1, none), (3, none), (4, none), (6, none), (15, none), (16, none), (18, none)], [none, none], []⟩ (.exit 8) (nspeculumref09_CheckLeast_l4_0_e1 a0 a1 a2 a3 x15 r5056 r5363), .reg (nN 3 [])]) (c := ⟨[(1, none), (3, none), (4, none), (6, none), (15, none)], [none, none], []⟩) (e := .normal) (s1 := (nspeculumref09_CheckLeast_l3_0_h a0 a1 a2 a3 (w64 (x15 + 1)))) (an (an (an (ti (ti (ti (ti trivial)))) (an (decide_eq_true h5052) trivial)) (an (an e5059 (an (ti trivial) e5365)) (ti (ti (ti trivial))))) (ti trivial)) (by kernel_rfl)
    cases r with
    | inl r => exact round_next pm pn hv hq h2
    | inr r =>
     exact round_next pm pn hv hq h2
  ·injection h with h; subst h
   exact round_stop (c := ⟨[(1, none), (3, none)], [], []⟩) (s1 := (nspeculumref09_CheckLeast_l3_0_e1 a0 a1 a2 a3 ())) pm pn (ans := [.reg (nN 4 []), .br false]) (by kernel_rfl) (by intro e; cases e) (an (an (ti (ti (ti (ti trivial)))) (an (decide_eq_false h5052) trivial)) (ti trivial))
def arB8_27 (z0 : (List (List Int))) (z1 : Int) : List Ans := (nN 5 (.v (VV.tr (List.map vi (z0.getD (w64 ((z0.length : Int) - 1)).toNat default)) ((z0.getD (w64 ((z0.length : Int) - 1)).toNat default).length)) :: .call (vi z1) :: .n :: .n :: []))
def nspeculumref09_CheckLeast (k : Nat) (a0 : SSkyMount) (a1 : (List SSkyTarget)) (a2 : A23) (a3 : (List (List Int))) : Option (Int × Int) :=
 if (a3.length : Int) = (a1.length : Int) then ((nspeculumref09_CheckLeast_l0_0 k a0 a1 a2 a3 k 0).bind fun r4524 => (match r4524 with | .inl r4525 => (some (0, 10)) | .inr r4526 => ((nspeculumref09_CheckLeast_l1_0 k a0 a1 a2 a3 k 0).bind fun r4659 => (match r4659 with | .inl r4660 => (some (0, 2)) | .inr r4661 => ((nspeculumref09_CheckLeast_l3_0 k a0 a1 a2 a3 k 0).bind fun r5367 => (match r5367 with | .inl r5368 => (some (0, 22)) | .inr r5369 => (if (a1.length : Int) = 0 then (some (0, 0)) else (if 0 <= w64 ((a3.length : Int) - 1) /\ w64 ((a3.length : Int) - 1) < (a3.length : Int) then ((nspeculumref09_least k (a3.getD (w64 ((a3.length : Int) - 1)).toNat default)).bind fun r5375 => (some (r5375, 0))) else none)))))))) else (some (0, 10))
theorem nspeculumref09_CheckLeast_ok (k : Nat) (a0 : SSkyMount) (a1 : (List SSkyTarget)) (a2 : A23) (a3 : (List (List Int))) (r : (Int × Int)) (h : nspeculumref09_CheckLeast k a0 a1 a2 a3 = some r) : VC Go.Proofs.Try.prog 72 [VV.ag (c_SSkyMount a0), VV.tr (List.flatMap c_SSkyTarget a1) a1.length, VV.ag (c_A23 a2), VV.tr (List.map v_41 a3) a3.length] (VV.tu [vi r.1, vi r.2]) := by
 unfold nspeculumref09_CheckLeast at h
 rcases ifs h with ⟨h4486, h⟩ | ⟨h4486, h⟩
 ·obtain ⟨r4524, h4523, h⟩ := bs h
  have hph4523 := nspeculumref09_CheckLeast_l0_0_ok k a0 a1 a2 a3 _ _ _ h4523
  cases r4524 with
  | inl r4525 =>
   dsimp only at h
   have e4527 := (an (ti trivial) (VRun.loop hph4523))
   injection h with h; subst h
   exact fun_ok pm pn Go.Proofs.Try.func72 (r0 := VV.tu [vi 0, vi 10]) (ans := [.reg (nN 4 []), .reg (nN 5 []), .br false, .reg (.n :: []), .sub ⟨[(1, none), (3, none), (4, none), (6, none), (10, none)], [none, none], []⟩ .ret (nspeculumref09_CheckLeast_l0_0_e0 a0 a1 a2 a3 r4525)]) (fr := true) (by kernel_rfl) (an (an (ti (ti (ti (ti trivial)))) (an (an (ti (ti (ti (ti (ti trivial))))) (an (not_f (decide_eq_true h4486)) trivial)) (an (ti trivial) e4527))) (ti (ti trivial))) (Wv.refl _)
  | inr r4526 =>
   dsimp only at h
   have e4528 := (an (ti trivial) (VRun.loop hph4523))
   obtain ⟨r4659, h4658, h⟩ := bs h
   have hph4658 := nspeculumref09_CheckLeast_l1_0_ok k a0 a1 a2 a3 _ _ _ h4658
   cases r4659 with
   | inl r4660 =>
    dsimp only at h
    have e4662 := (an (ti trivial) (VRun.loop hph4658))
    injection h with h; subst h
    exact fun_ok pm pn Go.Proofs.Try.func72 (r0 := VV.tu [vi 0, vi 2]) (ans := [.reg (nN 4 []), .reg (nN 5 []), .br false, .reg (.n :: []), .sub ⟨[(1, none), (3, none), (4, none), (6, none), (10, none)], [none, none], []⟩ (.exit 0) (nspeculumref09_CheckLeast_l0_0_e1 a0 a1 a2 a3 r4526), .reg (.n :: []), .sub ⟨[(1, none), (3, none), (4, none), (6, none), (13, none)], [none, none], []⟩ .ret (nspeculumref09_CheckLeast_l1_0_e0 a0 a1 a2 a3 r4660)]) (fr := true) (by kernel_rfl) (an (an (ti (ti (ti (ti trivial)))) (an (an (ti (ti (ti (ti (ti trivial))))) (an (not_f (decide_eq_true h4486)) trivial)) (an (an (ti trivial) e4528) (an (ti trivial) e4662)))) (ti (ti trivial))) (Wv.refl _)
   | inr r4661 =>
    dsimp only at h
    have e4663 := (an (ti trivial) (VRun.loop hph4658))
    obtain ⟨r5367, h5366, h⟩ := bs h
    have hph5366 := nspeculumref09_CheckLeast_l3_0_ok k a0 a1 a2 a3 _ _ _ h5366
    cases r5367 with
    | inl r5368 =>
     dsimp only at h
     have e5370 := (an (ti trivial) (VRun.loop hph5366))
     injection h with h; subst h
     exact fun_ok pm pn Go.Proofs.Try.func72 (r0 := VV.tu [vi 0, vi 22]) (ans := [.reg (nN 4 []), .reg (nN 5 []), .br false, .reg (.n :: []), .sub ⟨[(1, none), (3, none), (4, none), (6, none), (10, none)], [none, none], []⟩ (.exit 0) (nspeculumref09_CheckLeast_l0_0_e1 a0 a1 a2 a3 r4526), .reg (.n :: []), .sub ⟨[(1, none), (3, none), (4, none), (6, none), (13, none)], [none, none], []⟩ (.exit 2) (nspeculumref09_CheckLeast_l1_0_e1 a0 a1 a2 a3 r4661), .reg (.n :: []), .sub ⟨[(1, none), (3, none), (4, none), (6, none), (15, none)], [none, none], []⟩ .ret (nspeculumref09_CheckLeast_l3_0_e0 a0 a1 a2 a3 r5368)]) (fr := true) (by kernel_rfl) (an (an (ti (ti (ti (ti trivial)))) (an (an (ti (ti (ti (ti (ti trivial))))) (an (not_f (decide_eq_true h4486)) trivial)) (an (an (ti trivial) e4528) (an (an (ti trivial) e4663) (an (ti trivial) e5370))))) (ti (ti trivial))) (Wv.refl _)
    | inr r5369 =>
     dsimp only at h
     have e5371 := (an (ti trivial) (VRun.loop hph5366))
     rcases ifs h with ⟨h5372, h⟩ | ⟨h5372, h⟩
     ·injection h with h; subst h
      exact fun_ok pm pn Go.Proofs.Try.func72 (r0 := VV.tu [vi 0, vi 0]) (ans := [.reg (nN 4 []), .reg (nN 5 []), .br false, .reg (.n :: []), .sub ⟨[(1, none), (3, none), (4, none), (6, none), (10, none)], [none, none], []⟩ (.exit 0) (nspeculumref09_CheckLeast_l0_0_e1 a0 a1 a2 a3 r4526), .reg (.n :: []), .sub ⟨[(1, none), (3, none), (4, none), (6, none), (13, none)], [none, none], []⟩ (.exit 2) (nspeculumref09_CheckLeast_l1_0_e1 a0 a1 a2 a3 r4661), .reg (.n :: []), .sub ⟨[(1, none), (3, none), (4, none), (6, none), (15, none)], [none, none], []⟩ (.exit 6) (nspeculumref09_CheckLeast_l3_0_e1 a0 a1 a2 a3 r5369), .reg (nN 3 []), .br true, .reg (.n :: .n :: [])]) (fr := true) (by kernel_rfl) (an (an (ti (ti (ti (ti trivial)))) (an (an (ti (ti (ti (ti (ti trivial))))) (an (not_f (decide_eq_true h4486)) trivial)) (an (an (ti trivial) e4528) (an (an (ti trivial) e4663) (an (an (ti trivial) e5371) (an (ti (ti (ti trivial))) (an (decide_eq_true h5372) (an (ti (ti trivial)) trivial)))))))) (ti (ti trivial))) (Wv.refl _)
     ·obtain ⟨h5373, h⟩ := ifn h
      have e5374 := (show loadL Go.Proofs.Try.prog 41 ((w64 ((a3.length : Int) - 1)).toNat * 1) (List.map v_41 a3) = some (VV.tr (List.map vi (a3.getD (w64 ((a3.length : Int) - 1)).toNat default)) ((a3.getD (w64 ((a3.length : Int) - 1)).toNat default).length)) from ld_map ag41 v_41 a3 default h5373 (by omega))
      obtain ⟨r5375, h5376, h⟩ := bs h
      have e5377 := (nspeculumref09_least_ok k (a3.getD (w64 ((a3.length : Int) - 1)).toNat default) _ h5376)
      have e5378 := (ti (ti (ti (ti (an h5373 (an e5374 (an e5377 (ti (ti trivial)))))))))
      injection h with h; subst h
      exact fun_ok pm pn Go.Proofs.Try.func72 (r0 := VV.tu [vi r5375, vi 0]) (ans := [.reg (nN 4 []), .reg (nN 5 []), .br false, .reg (.n :: []), .sub ⟨[(1, none), (3, none), (4, none), (6, none), (10, none)], [none, none], []⟩ (.exit 0) (nspeculumref09_CheckLeast_l0_0_e1 a0 a1 a2 a3 r4526), .reg (.n :: []), .sub ⟨[(1, none), (3, none), (4, none), (6, none), (13, none)], [none, none], []⟩ (.exit 2) (nspeculumref09_CheckLeast_l1_0_e1 a0 a1 a2 a3 r4661), .reg (.n :: []), .sub ⟨[(1, none), (3, none), (4, none), (6, none), (15, none)], [none, none], []⟩ (.exit 6) (nspeculumref09_CheckLeast_l3_0_e1 a0 a1 a2 a3 r5369), .reg (nN 3 []), .br false, .reg (arB8_27 a3 r5375)]) (fr := true) (by kernel_rfl) (an (an (ti (ti (ti (ti trivial)))) (an (an (ti (ti (ti (ti (ti trivial))))) (an (not_f (decide_eq_true h4486)) trivial)) (an (an (ti trivial) e4528) (an (an (ti trivial) e4663) (an (an (ti trivial) e5371) (an (an (ti (ti (ti trivial))) (an (decide_eq_false h5372) trivial)) (an e5378 trivial))))))) (ti (ti trivial))) (Wv.refl _)
 ·injection h with h; subst h
  exact fun_ok pm pn Go.Proofs.Try.func72 (r0 := VV.tu [vi 0, vi 10]) (ans := [.reg (nN 4 []), .reg (nN 5 []), .br true, .reg (.n :: .n :: [])]) (fr := true) (by kernel_rfl) (an (an (ti (ti (ti (ti trivial)))) (an (ti (ti (ti (ti (ti trivial))))) (an (not_t (decide_eq_false h4486)) (an (ti (ti trivial)) trivial)))) (ti (ti trivial))) (Wv.refl _)
end Go.Proofs.Ytlhnkehohknhbaa.Vg

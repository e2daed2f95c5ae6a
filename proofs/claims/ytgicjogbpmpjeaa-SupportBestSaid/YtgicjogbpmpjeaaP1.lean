/- Written by a program out of the program: what Go functions do, as plain functions, and their contracts. -/
import Derived.Test.YtgicjogbpmpjeaaNQ
namespace Go.Proofs.Ytgicjogbpmpjeaa.Vg
set_option maxRecDepth 100000
set_option maxHeartbeats 4000000
set_option linter.unusedVariables false
set_option linter.unusedSimpArgs false
open Go Go.Proofs.Ytgicjogbpmpjeaa.Ev Go.Proofs.Ytgicjogbpmpjeaa.Vv
structure SFrac where
  Num : Int
  Den : Int
  deriving Inhabited
def c_SFrac (x : SFrac) : List VV := [vi x.Num, vi x.Den]
theorem len_c_SFrac (x : SFrac) : (c_SFrac x).length = 2 := rfl
theorem still_c_SFrac (xs : List SFrac) : (xs.flatMap c_SFrac).all VV.still = true := all_flat (fun _ => rfl) xs
theorem isC_c_SFrac (xs : List SFrac) : (xs.flatMap c_SFrac).all VV.isC = true := all_flat (fun _ => rfl) xs
theorem new0_c_SFrac (xs : List SFrac) : (xs.flatMap c_SFrac).all new0 = true := all_flat (fun _ => rfl) xs
theorem unfr_c_SFrac (xs : List SFrac) : (xs.flatMap c_SFrac).map unfr = xs.flatMap c_SFrac := unfr_flat (fun _ => rfl) xs
structure SGearPair where
  Driver : Int
  Driven : Int
  deriving Inhabited
def c_SGearPair (x : SGearPair) : List VV := [vi x.Driver, vi x.Driven]
theorem len_c_SGearPair (x : SGearPair) : (c_SGearPair x).length = 2 := rfl
theorem still_c_SGearPair (xs : List SGearPair) : (xs.flatMap c_SGearPair).all VV.still = true := all_flat (fun _ => rfl) xs
theorem isC_c_SGearPair (xs : List SGearPair) : (xs.flatMap c_SGearPair).all VV.isC = true := all_flat (fun _ => rfl) xs
theorem new0_c_SGearPair (xs : List SGearPair) : (xs.flatMap c_SGearPair).all new0 = true := all_flat (fun _ => rfl) xs
theorem unfr_c_SGearPair (xs : List SGearPair) : (xs.flatMap c_SGearPair).map unfr = xs.flatMap c_SGearPair := unfr_flat (fun _ => rfl) xs
theorem ag3 : isAggT Go.Proofs.Try.prog 3 = some false := by kernel_rfl
def nnumber_size (k : Nat) (a0 : Int) : Option Int :=
  if a0 < 0 then (some (IntKind.u64.wrap (0 - (IntKind.u64.wrap a0)))) else (some (IntKind.u64.wrap a0))
theorem nnumber_size_ok (k : Nat) (a0 : Int) (r : Int) (h : nnumber_size k a0 = some r) : VC Go.Proofs.Try.prog 54 [vi a0] (VV.c (.int .u64 r)) := by
 unfold nnumber_size at h
 rcases ifs h with ⟨h104, h⟩ | ⟨h104, h⟩
 ·injection h with h; subst h
  exact fun_ok pm pn Go.Proofs.Try.func54 (r0 := VV.c (.int .u64 (IntKind.u64.wrap (0 - (IntKind.u64.wrap a0))))) (ans := [.reg (.n :: []), .reg (.n :: .n :: []), .br true, .reg (nN 4 [])]) (fr := true) (by kernel_rfl) (an (an (ti trivial) (an (ti (ti trivial)) (an (decide_eq_true h104) (an (ti (ti (ti (ti trivial)))) trivial)))) (ti trivial)) (Wv.refl _)
 ·injection h with h; subst h
  exact fun_ok pm pn Go.Proofs.Try.func54 (r0 := VV.c (.int .u64 (IntKind.u64.wrap a0))) (ans := [.reg (.n :: []), .reg (.n :: .n :: []), .br false, .reg (nN 3 [])]) (fr := true) (by kernel_rfl) (an (an (ti trivial) (an (an (ti (ti trivial)) (an (decide_eq_false h104) trivial)) (an (ti (ti (ti trivial))) trivial))) (ti trivial)) (Wv.refl _)
def nnumber_divisor_l0_0_h  (x0 : Int) (x1 : Int) : VS := ⟨mkA [(0, VV.c (.int .u64 x0)), (1, VV.c (.int .u64 x1))], [], .nil⟩
def nnumber_divisor_l0_0_e0  (r : Int) : VS := ⟨mkA [(0, VV.c (.int .u64 r))], [], .nil⟩
def nnumber_divisor_l0_0 (k : Nat)  : Nat → Int → Int → Option (Int)
  | 0, _, _ => none
  | fuel + 1, x0, x1 => if x1 = 0 then (some x0) else (if x1 ≠ 0 then (nnumber_divisor_l0_0 k  fuel x1 (x0.tmod x1)) else none)
theorem nnumber_divisor_l0_0_ok (k : Nat)  : ∀ (fuel : Nat) (x0 : Int) (x1 : Int) (r : Int), nnumber_divisor_l0_0 k  fuel x0 x1 = some r → (VLoop none Go.Proofs.Try.prog (szF Go.Proofs.Try.f53) (bodyOf Go.Proofs.Try.f53 0) (nnumber_divisor_l0_0_h  x0 x1) (.exit 0) (nnumber_divisor_l0_0_e0  r)) := by
 intro fuel
 induction fuel with
 | zero => intro x0 x1 r h; rw [nnumber_divisor_l0_0.eq_1] at h; cases h
 | succ fuel ih =>
  intro x0 x1 r h
  rw [nnumber_divisor_l0_0.eq_2] at h
  rcases ifs h with ⟨h124, h⟩ | ⟨h124, h⟩
  ·injection h with h; subst h
   exact round_stop (c := ⟨[(0, none)], [], []⟩) (s1 := (nnumber_divisor_l0_0_e0  x0)) pm pn (ans := [.reg (.n :: .n :: []), .br false]) (by kernel_rfl) (by intro e; cases e) (an (an (ti (ti trivial)) (an (not_f (decide_eq_true h124)) trivial)) (ti trivial))
  ·obtain ⟨h125, h⟩ := ifn h
   have h2 := ih _ _ _ h
   obtain ⟨q, hv, hq⟩ := pkR (rd := none) (P := Go.Proofs.Try.prog) (fn := Go.Proofs.Try.f53) (k := 0) (s := (nnumber_divisor_l0_0_h  x0 x1)) (ans := [.reg (.n :: .n :: []), .br true, .reg (nN 6 [])]) (c := ⟨[(0, none), (1, none)], [], []⟩) (e := .normal) (s1 := (nnumber_divisor_l0_0_h  x1 (x0.tmod x1))) (an (an (an (ti (ti trivial)) (an (not_t (decide_eq_false h124)) trivial)) (ti (ti (ti (an h125 (ti (ti trivial))))))) (ti trivial)) (by kernel_rfl)
   exact round_next pm pn hv hq h2
def nnumber_divisor (k : Nat) (a0 : Int) (a1 : Int) : Option Int :=
  (nnumber_divisor_l0_0 k k a0 a1).bind fun r127 => (some r127)
theorem nnumber_divisor_ok (k : Nat) (a0 : Int) (a1 : Int) (r : Int) (h : nnumber_divisor k a0 a1 = some r) : VC Go.Proofs.Try.prog 53 [VV.c (.int .u64 a0), VV.c (.int .u64 a1)] (VV.c (.int .u64 r)) := by
 unfold nnumber_divisor at h
 obtain ⟨r127, h126, h⟩ := bs h
 have hph126 := nnumber_divisor_l0_0_ok k  _ _ _ _ h126
 have e128 := (an (ti trivial) (VRun.loop hph126))
 injection h with h; subst h
 exact fun_ok pm pn Go.Proofs.Try.func53 (r0 := VV.c (.int .u64 r127)) (ans := [.reg (.n :: []), .sub ⟨[(0, none), (1, none)], [], []⟩ (.exit 0) (nnumber_divisor_l0_0_e0  r127), .reg (.n :: .n :: [])]) (fr := true) (by kernel_rfl) (an (an (ti trivial) (an e128 (an (ti (ti trivial)) trivial))) (ti trivial)) (Wv.refl _)
def arP1_0 (z0 : Int) (z1 : Int) (z2 : Int) : List Ans := (nN 6 (.call (VV.c (.int .u64 z0)) :: .n :: .n :: .call (VV.c (.int .u64 z1)) :: .call (VV.c (.int .u64 z2)) :: .n :: .b false :: []))
def nnumber_CheckFrac (k : Nat) (a0 : SFrac) : Option Int :=
  if a0.Den ≤ 0 then (some 3) else ((nnumber_size k a0.Num).bind fun r141 => ((nnumber_size k a0.Den).bind fun r144 => ((nnumber_divisor k r141 r144).bind fun r147 => (if r147 = 1 then (if 1000000000 < r141 then (some 2) else (if 1000000000 < a0.Den then (some 2) else (some 0))) else (some 3)))))
theorem nnumber_CheckFrac_ok (k : Nat) (a0 : SFrac) (r : Int) (h : nnumber_CheckFrac k a0 = some r) : VC Go.Proofs.Try.prog 32 [VV.ag (c_SFrac a0)] (vi r) := by
 unfold nnumber_CheckFrac at h
 rcases ifs h with ⟨h139, h⟩ | ⟨h139, h⟩
 ·have e140 := (ti (ti (ti (ti (an (decide_eq_true h139) (an (decide_eq_true h139) (an (decide_eq_true h139) (an (decide_eq_true h139) (an (decide_eq_true h139) (an (decide_eq_true h139) (an (decide_eq_true h139) (an (decide_eq_true h139) (an (decide_eq_true h139) trivial)))))))))))))
  injection h with h; subst h
  exact fun_ok pm pn Go.Proofs.Try.func32 (r0 := vi 3) (ans := [.reg (.n :: .n :: []), .reg (nN 4 (nS 8 (.b true :: []))), .br true, .reg (.n :: [])]) (fr := true) (by kernel_rfl) (an (an (ti (ti trivial)) (an e140 (an rt (an (ti trivial) trivial)))) (ti trivial)) (Wv.refl _)
 ·obtain ⟨r141, h142, h⟩ := bs h
  have e143 := (an (decide_eq_false h139) (nnumber_size_ok k a0.Num _ h142))
  obtain ⟨r144, h145, h⟩ := bs h
  have e146 := (an (decide_eq_false h139) (nnumber_size_ok k a0.Den _ h145))
  obtain ⟨r147, h148, h⟩ := bs h
  have e149 := (an (decide_eq_false h139) (nnumber_divisor_ok k r141 r144 _ h148))
  have e150 := (ti (ti (ti (ti (an (an (decide_eq_false h139) trivial) (an (an (decide_eq_false h139) trivial) (an e143 (an (an (decide_eq_false h139) trivial) (an (an (decide_eq_false h139) trivial) (an e146 (an e149 (an (an (decide_eq_false h139) trivial) (an (decide_eq_false h139) trivial)))))))))))))
  rcases ifs h with ⟨h151, h⟩ | ⟨h151, h⟩
  ·rcases ifs h with ⟨h153, h⟩ | ⟨h153, h⟩
   ·have e154 := (ti (ti (an (nnumber_size_ok k a0.Num _ h142) (ti (ti (an (decide_eq_true h153) (an (decide_eq_true h153) (an (decide_eq_true h153) (an (decide_eq_true h153) trivial)))))))))
    injection h with h; subst h
    exact fun_ok pm pn Go.Proofs.Try.func32 (r0 := vi 2) (ans := [.reg (.n :: .n :: []), .reg (arP1_0 r141 r144 r147), .br false, .reg (.n :: .n :: .call (VV.c (.int .u64 r141)) :: .n :: .n :: nS 3 (.b true :: [])), .br true, .reg (.n :: [])]) (fr := true) (by kernel_rfl) (an (an (ti (ti trivial)) (an (an e150 (an (not_f (decide_eq_true h151)) trivial)) (an e154 (an rt (an (ti trivial) trivial))))) (ti trivial)) (Wv.refl _)
   ·have e155 := (ti (ti (an (nnumber_size_ok k a0.Num _ h142) (ti (ti (an (an (decide_eq_false h153) trivial) (an (an (decide_eq_false h153) trivial) (an (an (decide_eq_false h153) trivial) (an (decide_eq_false h153) trivial)))))))))
    rcases ifs h with ⟨h156, h⟩ | ⟨h156, h⟩
    ·injection h with h; subst h
     exact fun_ok pm pn Go.Proofs.Try.func32 (r0 := vi 2) (ans := [.reg (.n :: .n :: []), .reg (arP1_0 r141 r144 r147), .br false, .reg (.n :: .n :: .call (VV.c (.int .u64 r141)) :: nN 5 (.b false :: [])), .br true, .reg (.n :: [])]) (fr := true) (by kernel_rfl) (an (an (ti (ti trivial)) (an (an e150 (an (not_f (decide_eq_true h151)) trivial)) (an e155 (an (decide_eq_true h156) (an (ti trivial) trivial))))) (ti trivial)) (Wv.refl _)
    ·injection h with h; subst h
     exact fun_ok pm pn Go.Proofs.Try.func32 (r0 := vi 0) (ans := [.reg (.n :: .n :: []), .reg (arP1_0 r141 r144 r147), .br false, .reg (.n :: .n :: .call (VV.c (.int .u64 r141)) :: nN 5 (.b false :: [])), .br false, .reg (.n :: [])]) (fr := true) (by kernel_rfl) (an (an (ti (ti trivial)) (an (an e150 (an (not_f (decide_eq_true h151)) trivial)) (an (an e155 (an (decide_eq_false h156) trivial)) (an (ti trivial) trivial)))) (ti trivial)) (Wv.refl _)
  ·injection h with h; subst h
   exact fun_ok pm pn Go.Proofs.Try.func32 (r0 := vi 3) (ans := [.reg (.n :: .n :: []), .reg (arP1_0 r141 r144 r147), .br true, .reg (.n :: [])]) (fr := true) (by kernel_rfl) (an (an (ti (ti trivial)) (an e150 (an (not_t (decide_eq_false h151)) (an (ti trivial) trivial)))) (ti trivial)) (Wv.refl _)
def nsupport_areWithin_l0_0_h (a0 : Int) (a1 : Int) (a2 : (List Int)) (x11 : Int) : VS := ⟨mkA [(0, vi a0), (1, vi a1), (9, VV.tr (List.map vi a2) a2.length), (10, vi (a2.length : Int)), (11, vi x11)], [], .nil⟩
def nsupport_areWithin_l0_0_e0 (a0 : Int) (a1 : Int) (a2 : (List Int)) (r : Unit) : VS := ⟨mkA [(6, vb false)], [], .nil⟩
def nsupport_areWithin_l0_0_e1 (a0 : Int) (a1 : Int) (a2 : (List Int)) (r : Unit) : VS := ⟨mkA [], [], .nil⟩
def nsupport_areWithin_l0_0 (k : Nat) (a0 : Int) (a1 : Int) (a2 : (List Int)) : Nat → Int → Option (Sum Unit Unit)
  | 0, _ => none
  | fuel + 1, x11 => if x11 < (a2.length : Int) then (if 0 ≤ x11 ∧ x11 < (a2.length : Int) then (if (a2.getD x11.toNat 0) < a0 then (some (.inl ())) else (if a1 < (a2.getD x11.toNat 0) then (some (.inl ())) else (nsupport_areWithin_l0_0 k a0 a1 a2 fuel (w64 (x11 + 1))))) else none) else (some (.inr ()))
theorem nsupport_areWithin_l0_0_ok (k : Nat) (a0 : Int) (a1 : Int) (a2 : (List Int)) : ∀ (fuel : Nat) (x11 : Int) (r : Sum Unit Unit), nsupport_areWithin_l0_0 k a0 a1 a2 fuel x11 = some r → (match r with | .inl r => VLoop none Go.Proofs.Try.prog (szF Go.Proofs.Try.f22) (bodyOf Go.Proofs.Try.f22 0) (nsupport_areWithin_l0_0_h a0 a1 a2 x11) .ret (nsupport_areWithin_l0_0_e0 a0 a1 a2 r) | .inr r => VLoop none Go.Proofs.Try.prog (szF Go.Proofs.Try.f22) (bodyOf Go.Proofs.Try.f22 0) (nsupport_areWithin_l0_0_h a0 a1 a2 x11) (.exit 0) (nsupport_areWithin_l0_0_e1 a0 a1 a2 r)) := by
 intro fuel
 induction fuel with
 | zero => intro x11 r h; rw [nsupport_areWithin_l0_0.eq_1] at h; cases h
 | succ fuel ih =>
  intro x11 r h
  rw [nsupport_areWithin_l0_0.eq_2] at h
  rcases ifs h with ⟨h204, h⟩ | ⟨h204, h⟩
  ·obtain ⟨h205, h⟩ := ifn h
   have e206 := (show loadL Go.Proofs.Try.prog 3 (x11.toNat * 1) (List.map vi a2) = some (vi (a2.getD x11.toNat 0)) from ld_map ag3 vi a2 0 h205 (by omega))
   rcases ifs h with ⟨h207, h⟩ | ⟨h207, h⟩
   ·have e208 := (ti (ti (ti (ti (an (decide_eq_true h207) (an (decide_eq_true h207) (an (decide_eq_true h207) (an (decide_eq_true h207) trivial))))))))
    injection h with h; subst h
    exact round_stop (c := ⟨[(6, none)], [], []⟩) (s1 := (nsupport_areWithin_l0_0_e0 a0 a1 a2 ())) pm pn (ans := [.reg (.n :: []), .br true, .reg (.n :: .v (vi (a2.getD x11.toNat 0)) :: .n :: []), .reg (nN 4 (nS 3 (.b true :: []))), .br true, .reg (.n :: [])]) (by kernel_rfl) (by intro e; cases e) (an (an (ti trivial) (an (an (decide_eq_true h204) trivial) (an (an h205 (an e206 (ti trivial))) (an e208 (an rt (an (ti trivial) trivial)))))) (ti trivial))
   ·have e209 := (ti (ti (ti (ti (an (an (decide_eq_false h207) trivial) (an (an (decide_eq_false h207) trivial) (an (an (decide_eq_false h207) trivial) (an (decide_eq_false h207) trivial))))))))
    rcases ifs h with ⟨h210, h⟩ | ⟨h210, h⟩
    ·injection h with h; subst h
     exact round_stop (c := ⟨[(6, none)], [], []⟩) (s1 := (nsupport_areWithin_l0_0_e0 a0 a1 a2 ())) pm pn (ans := [.reg (.n :: []), .br true, .reg (.n :: .v (vi (a2.getD x11.toNat 0)) :: .n :: []), .reg (nN 7 (.b false :: [])), .br true, .reg (.n :: [])]) (by kernel_rfl) (by intro e; cases e) (an (an (ti trivial) (an (an (decide_eq_true h204) trivial) (an (an h205 (an e206 (ti trivial))) (an e209 (an (decide_eq_true h210) (an (ti trivial) trivial)))))) (ti trivial))
    ·have h2 := ih _ _ h
     obtain ⟨q, hv, hq⟩ := pkR (rd := none) (P := Go.Proofs.Try.prog) (fn := Go.Proofs.Try.f22) (k := 0) (s := (nsupport_areWithin_l0_0_h a0 a1 a2 x11)) (ans := [.reg (.n :: []), .br true, .reg (.n :: .v (vi (a2.getD x11.toNat 0)) :: .n :: []), .reg (nN 7 (.b false :: [])), .br false, .reg (.n :: .n :: [])]) (c := ⟨[(0, none), (1, none), (9, none), (10, none), (11, none)], [], []⟩) (e := .normal) (s1 := (nsupport_areWithin_l0_0_h a0 a1 a2 (w64 (x11 + 1)))) (an (an (ti trivial) (an (an (decide_eq_true h204) trivial) (an (an (an h205 (an e206 (ti trivial))) (an e209 (an (decide_eq_false h210) trivial))) (ti (ti trivial))))) (ti trivial)) (by kernel_rfl)
     cases r with
     | inl r => exact round_next pm pn hv hq h2
     | inr r =>
      exact round_next pm pn hv hq h2
  ·injection h with h; subst h
   exact round_stop (c := ⟨[], [], []⟩) (s1 := (nsupport_areWithin_l0_0_e1 a0 a1 a2 ())) pm pn (ans := [.reg (.n :: []), .br false]) (by kernel_rfl) (by intro e; cases e) (an (an (ti trivial) (an (decide_eq_false h204) trivial)) (ti trivial))
def nsupport_areWithin (k : Nat) (a0 : Int) (a1 : Int) (a2 : (List Int)) : Option Bool :=
  (nsupport_areWithin_l0_0 k a0 a1 a2 k 0).bind fun r212 => (match r212 with | .inl r213 => (some false) | .inr r214 => (some true))
theorem nsupport_areWithin_ok (k : Nat) (a0 : Int) (a1 : Int) (a2 : (List Int)) (r : Bool) (h : nsupport_areWithin k a0 a1 a2 = some r) : VC Go.Proofs.Try.prog 22 [vi a0, vi a1, VV.tr (List.map vi a2) a2.length] (vb r) := by
 unfold nsupport_areWithin at h
 obtain ⟨r212, h211, h⟩ := bs h
 have hph211 := nsupport_areWithin_l0_0_ok k a0 a1 a2 _ _ _ h211
 cases r212 with
 | inl r213 =>
  dsimp only at h
  have e215 := (an (ti trivial) (VRun.loop hph211))
  injection h with h; subst h
  exact fun_ok pm pn Go.Proofs.Try.func22 (r0 := vb false) (ans := [.reg (.n :: []), .reg (nN 3 []), .sub ⟨[(0, none), (1, none), (9, none), (10, none), (11, none)], [], []⟩ .ret (nsupport_areWithin_l0_0_e0 a0 a1 a2 r213)]) (fr := true) (by kernel_rfl) (an (an (ti trivial) (an (ti (ti (ti trivial))) e215)) (ti trivial)) (Wv.refl _)
 | inr r214 =>
  dsimp only at h
  have e216 := (an (ti trivial) (VRun.loop hph211))
  injection h with h; subst h
  exact fun_ok pm pn Go.Proofs.Try.func22 (r0 := vb true) (ans := [.reg (.n :: []), .reg (nN 3 []), .sub ⟨[(0, none), (1, none), (9, none), (10, none), (11, none)], [], []⟩ (.exit 0) (nsupport_areWithin_l0_0_e1 a0 a1 a2 r214), .reg (.n :: [])]) (fr := true) (by kernel_rfl) (an (an (ti trivial) (an (an (ti (ti (ti trivial))) e216) (an (ti trivial) trivial))) (ti trivial)) (Wv.refl _)
theorem eqP1_0 (z0 : Int) (z1 : Int) : [vi 1, vi 500, VV.tr (List.map vi ([z0, z1] : List Int)) (([z0, z1] : List Int).length)] = [vi 1, vi 500, VV.tr [vi z0, vi z1] 2] := by first | rfl | (simp only [unfr_vi, List.map_cons, List.map_nil, un_i, un_tr, List.length_map, List.length_cons, List.length_nil]; done) | (simp only [unfr_vi, List.map_cons, List.map_nil, un_i, un_tr, List.length_map, List.length_cons, List.length_nil]; rfl) | (simp only [unfr_vi, List.map_cons, List.map_nil, un_i, un_tr, List.length_map, List.length_cons, List.length_nil, List.length_cons, List.length_nil, List.length_append]; done)
def nsupport_checkChoice (k : Nat) (a0 : SFrac) (a1 : Int) (a2 : Int) : Option Int :=
  (nnumber_CheckFrac k a0).bind fun r223 => (if r223 = 0 then (if a0.Num ≤ 0 then (some 2) else ((nsupport_areWithin k 1 500 ([a1, a2] : List Int)).bind fun r229 => (if r229 = true then (if a2 < a1 then (some 9) else (some 0)) else (some 2)))) else (some r223))
theorem nsupport_checkChoice_ok (k : Nat) (a0 : SFrac) (a1 : Int) (a2 : Int) (r : Int) (h : nsupport_checkChoice k a0 a1 a2 = some r) : VC Go.Proofs.Try.prog 17 [VV.ag (c_SFrac a0), vi a1, vi a2] (vi r) := by
 unfold nsupport_checkChoice at h
 obtain ⟨r223, h224, h⟩ := bs h
 have e225 := (ti (an (nnumber_CheckFrac_ok k a0 _ h224) (ti trivial)))
 rcases ifs h with ⟨h226, h⟩ | ⟨h226, h⟩
 ·rcases ifs h with ⟨h227, h⟩ | ⟨h227, h⟩
  ·have e228 := (ti (ti (ti (ti (an (decide_eq_true h227) (an (decide_eq_true h227) (an (decide_eq_true h227) (an (decide_eq_true h227) (an (decide_eq_true h227) (an (decide_eq_true h227) (ti trivial)))))))))))
   injection h with h; subst h
   exact fun_ok pm pn Go.Proofs.Try.func17 (r0 := vi 2) (ans := [.reg (.n :: .n :: []), .reg (.n :: .call (vi r223) :: .n :: []), .reg (.n :: .n :: []), .br false, .reg (nN 4 (nS 5 (.b true :: .n :: []))), .br true, .reg (.n :: [])]) (fr := true) (by kernel_rfl) (an (an (ti (ti trivial)) (an (an e225 (an (ti (ti trivial)) (an (not_f (decide_eq_true h226)) trivial))) (an e228 (an rt (an (ti trivial) trivial))))) (ti trivial)) (Wv.refl _)
  ·obtain ⟨r229, h230, h⟩ := bs h
   have e231 := (an (decide_eq_false h227) (VC.args (nsupport_areWithin_ok k 1 500 ([a1, a2] : List Int) _ h230) (eqP1_0 a1 a2)))
   have e232 := (ti (ti (ti (ti (an (an (decide_eq_false h227) trivial) (an (an (decide_eq_false h227) trivial) (an (an (decide_eq_false h227) trivial) (an e231 (an (an (decide_eq_false h227) trivial) (an (decide_eq_false h227) (ti trivial)))))))))))
   rcases ifs h with ⟨h233, h⟩ | ⟨h233, h⟩
   ·rcases ifs h with ⟨h234, h⟩ | ⟨h234, h⟩
    ·injection h with h; subst h
     exact fun_ok pm pn Go.Proofs.Try.func17 (r0 := vi 9) (ans := [.reg (.n :: .n :: []), .reg (.n :: .call (vi r223) :: .n :: []), .reg (.n :: .n :: []), .br false, .reg (nN 6 (.v VV.any :: .call (vb r229) :: .n :: .b false :: .n :: [])), .br false, .reg (nN 4 []), .br true, .reg (.n :: [])]) (fr := true) (by kernel_rfl) (an (an (ti (ti trivial)) (an (an e225 (an (ti (ti trivial)) (an (not_f (decide_eq_true h226)) trivial))) (an e232 (an (not_f h233) (an (ti (ti (ti (ti trivial)))) (an (decide_eq_true h234) (an (ti trivial) trivial))))))) (ti trivial)) (Wv.refl _)
    ·injection h with h; subst h
     exact fun_ok pm pn Go.Proofs.Try.func17 (r0 := vi 0) (ans := [.reg (.n :: .n :: []), .reg (.n :: .call (vi r223) :: .n :: []), .reg (.n :: .n :: []), .br false, .reg (nN 6 (.v VV.any :: .call (vb r229) :: .n :: .b false :: .n :: [])), .br false, .reg (nN 4 []), .br false, .reg (.n :: [])]) (fr := true) (by kernel_rfl) (an (an (ti (ti trivial)) (an (an e225 (an (ti (ti trivial)) (an (not_f (decide_eq_true h226)) trivial))) (an (an e232 (an (not_f h233) (an (ti (ti (ti (ti trivial)))) (an (decide_eq_false h234) trivial)))) (an (ti trivial) trivial)))) (ti trivial)) (Wv.refl _)
   ·injection h with h; subst h
    exact fun_ok pm pn Go.Proofs.Try.func17 (r0 := vi 2) (ans := [.reg (.n :: .n :: []), .reg (.n :: .call (vi r223) :: .n :: []), .reg (.n :: .n :: []), .br false, .reg (nN 6 (.v VV.any :: .call (vb r229) :: .n :: .b false :: .n :: [])), .br true, .reg (.n :: [])]) (fr := true) (by kernel_rfl) (an (an (ti (ti trivial)) (an (an e225 (an (ti (ti trivial)) (an (not_f (decide_eq_true h226)) trivial))) (an e232 (an (not_t (bool_f h233)) (an (ti trivial) trivial))))) (ti trivial)) (Wv.refl _)
 ·injection h with h; subst h
  exact fun_ok pm pn Go.Proofs.Try.func17 (r0 := vi r223) (ans := [.reg (.n :: .n :: []), .reg (.n :: .call (vi r223) :: .n :: []), .reg (.n :: .n :: []), .br true, .reg (.n :: .n :: [])]) (fr := true) (by kernel_rfl) (an (an (ti (ti trivial)) (an e225 (an (ti (ti trivial)) (an (not_t (decide_eq_false h226)) (an (ti (ti trivial)) trivial))))) (ti trivial)) (Wv.refl _)
def nsupport_nearest (k : Nat) (a0 : SFrac) (a1 : Int) (a2 : Int) : Option (Int × Int × Int × Int) :=
  some (a1, a2, a0.Num, a0.Den)
theorem nsupport_nearest_ok (k : Nat) (a0 : SFrac) (a1 : Int) (a2 : Int) (r : (Int × Int × Int × Int)) (h : nsupport_nearest k a0 a1 a2 = some r) : VC Go.Proofs.Try.prog 18 [VV.ag (c_SFrac a0), vi a1, vi a2] (VV.fn 33 [VV.tp [vi r.1] 0, VV.tp [vi r.2.1] 0, VV.tp [vi r.2.2.1, vi r.2.2.2] 0]) := by
 unfold nsupport_nearest at h
 injection h with h; subst h
 exact fun_ok pm pn Go.Proofs.Try.func18 (r0 := VV.fn 33 [VV.tp [vi a1] 0, VV.tp [vi a2] 0, VV.tp [vi a0.Num, vi a0.Den] 0]) (ans := [.reg (nN 4 []), .frz 0, .frz 1, .frz 2, .reg (.n :: .n :: [])]) (fr := false) (by kernel_rfl) (an (an (ti (ti (ti (ti trivial)))) (an (ti (ti trivial)) trivial)) (ti trivial)) (Wv.of_eq rfl)
def nsupport_off (k : Nat) (a0 : SGearPair) (a1 : SFrac) : Option Int :=
  some (maxI (w64 ((w64 (a0.Driver * a1.Den)) - (w64 (a0.Driven * a1.Num)))) (w64 (0 - (w64 ((w64 (a0.Driver * a1.Den)) - (w64 (a0.Driven * a1.Num)))))))
theorem nsupport_off_ok (k : Nat) (a0 : SGearPair) (a1 : SFrac) (r : Int) (h : nsupport_off k a0 a1 = some r) : VC Go.Proofs.Try.prog 25 [VV.ag (c_SGearPair a0), VV.ag (c_SFrac a1)] (vi r) := by
 unfold nsupport_off at h
 have e243 := (ti (ti (ti (ti (ti (ti (ti (ti (ti (ti (ti (ti trivial))))))))))))
 injection h with h; subst h
 exact fun_ok pm pn Go.Proofs.Try.func25 (r0 := vi (maxI (w64 ((w64 (a0.Driver * a1.Den)) - (w64 (a0.Driven * a1.Num)))) (w64 (0 - (w64 ((w64 (a0.Driver * a1.Den)) - (w64 (a0.Driven * a1.Num)))))))) (ans := [.reg (nN 3 []), .reg (nN 12 []), .reg (nN 5 [])]) (fr := true) (by kernel_rfl) (an (an (ti (ti (ti trivial))) (an e243 (an (ti (ti (ti (ti (ti trivial))))) trivial))) (ti trivial)) (Wv.refl _)
def ncmp_isNaN_int_ (k : Nat) (a0 : Int) : Option Bool :=
  some (!(decide (a0 = a0)))
theorem ncmp_isNaN_int__ok (k : Nat) (a0 : Int) (r : Bool) (h : ncmp_isNaN_int_ k a0 = some r) : VC Go.Proofs.Try.prog 55 [vi a0] (vb r) := by
 unfold ncmp_isNaN_int_ at h
 injection h with h; subst h
 exact fun_ok pm pn Go.Proofs.Try.func55 (r0 := vb (!(decide (a0 = a0)))) (ans := [.reg (.n :: []), .reg (nN 4 [])]) (fr := true) (by kernel_rfl) (an (an (ti trivial) (an (ti (ti (ti (ti trivial)))) trivial)) (ti trivial)) (Wv.refl _)
def ncmp_Compare_int_ (k : Nat) (a0 : Int) (a1 : Int) : Option Int :=
  (ncmp_isNaN_int_ k a0).bind fun r259 => ((ncmp_isNaN_int_ k a1).bind fun r262 => (if r259 = true then (if r262 = true then (some 0) else (some (-1))) else (if r262 = true then (some 1) else (if a0 < a1 then (some (-1)) else (if a1 < a0 then (some 1) else (some 0))))))
theorem ncmp_Compare_int__ok (k : Nat) (a0 : Int) (a1 : Int) (r : Int) (h : ncmp_Compare_int_ k a0 a1 = some r) : VC Go.Proofs.Try.prog 35 [vi a0, vi a1] (vi r) := by
 unfold ncmp_Compare_int_ at h
 obtain ⟨r259, h260, h⟩ := bs h
 have e261 := (ti (an (ncmp_isNaN_int__ok k a0 _ h260) (ti trivial)))
 obtain ⟨r262, h263, h⟩ := bs h
 have e264 := (ti (an (ncmp_isNaN_int__ok k a1 _ h263) (ti trivial)))
 rcases ifs h with ⟨h265, h⟩ | ⟨h265, h⟩
 ·rcases ifs h with ⟨h266, h⟩ | ⟨h266, h⟩
  ·injection h with h; subst h
   exact fun_ok pm pn Go.Proofs.Try.func35 (r0 := vi 0) (ans := [.reg (.n :: []), .reg (.n :: .call (vb r259) :: .n :: []), .reg (.n :: .call (vb r262) :: .n :: []), .reg (.n :: []), .br true, .reg (.n :: []), .br true, .reg (.n :: [])]) (fr := true) (by kernel_rfl) (an (an (ti trivial) (an e261 (an e264 (an (ti trivial) (an h265 (an (ti trivial) (an h266 (an (ti trivial) trivial)))))))) (ti trivial)) (Wv.refl _)
  ·injection h with h; subst h
   exact fun_ok pm pn Go.Proofs.Try.func35 (r0 := vi (-1)) (ans := [.reg (.n :: []), .reg (.n :: .call (vb r259) :: .n :: []), .reg (.n :: .call (vb r262) :: .n :: []), .reg (.n :: []), .br true, .reg (.n :: []), .br false, .reg (.n :: [])]) (fr := true) (by kernel_rfl) (an (an (ti trivial) (an e261 (an e264 (an (ti trivial) (an h265 (an (an (ti trivial) (an (bool_f h266) trivial)) (an (ti trivial) trivial))))))) (ti trivial)) (Wv.refl _)
 ·rcases ifs h with ⟨h267, h⟩ | ⟨h267, h⟩
  ·injection h with h; subst h
   exact fun_ok pm pn Go.Proofs.Try.func35 (r0 := vi 1) (ans := [.reg (.n :: []), .reg (.n :: .call (vb r259) :: .n :: []), .reg (.n :: .call (vb r262) :: .n :: []), .reg (.n :: []), .br false, .reg (.n :: []), .br true, .reg (.n :: [])]) (fr := true) (by kernel_rfl) (an (an (ti trivial) (an e261 (an e264 (an (an (ti trivial) (an (bool_f h265) trivial)) (an (ti trivial) (an h267 (an (ti trivial) trivial))))))) (ti trivial)) (Wv.refl _)
  ·rcases ifs h with ⟨h268, h⟩ | ⟨h268, h⟩
   ·injection h with h; subst h
    exact fun_ok pm pn Go.Proofs.Try.func35 (r0 := vi (-1)) (ans := [.reg (.n :: []), .reg (.n :: .call (vb r259) :: .n :: []), .reg (.n :: .call (vb r262) :: .n :: []), .reg (.n :: []), .br false, .reg (.n :: []), .br false, .reg (nN 3 []), .br true, .reg (.n :: [])]) (fr := true) (by kernel_rfl) (an (an (ti trivial) (an e261 (an e264 (an (an (ti trivial) (an (bool_f h265) trivial)) (an (an (ti trivial) (an (bool_f h267) trivial)) (an (ti (ti (ti trivial))) (an (decide_eq_true h268) (an (ti trivial) trivial)))))))) (ti trivial)) (Wv.refl _)
   ·rcases ifs h with ⟨h269, h⟩ | ⟨h269, h⟩
    ·injection h with h; subst h
     exact fun_ok pm pn Go.Proofs.Try.func35 (r0 := vi 1) (ans := [.reg (.n :: []), .reg (.n :: .call (vb r259) :: .n :: []), .reg (.n :: .call (vb r262) :: .n :: []), .reg (.n :: []), .br false, .reg (.n :: []), .br false, .reg (nN 3 []), .br false, .reg (nN 3 []), .br true, .reg (.n :: [])]) (fr := true) (by kernel_rfl) (an (an (ti trivial) (an e261 (an e264 (an (an (ti trivial) (an (bool_f h265) trivial)) (an (an (ti trivial) (an (bool_f h267) trivial)) (an (an (ti (ti (ti trivial))) (an (decide_eq_false h268) trivial)) (an (ti (ti (ti trivial))) (an (decide_eq_true h269) (an (ti trivial) trivial))))))))) (ti trivial)) (Wv.refl _)
    ·injection h with h; subst h
     exact fun_ok pm pn Go.Proofs.Try.func35 (r0 := vi 0) (ans := [.reg (.n :: []), .reg (.n :: .call (vb r259) :: .n :: []), .reg (.n :: .call (vb r262) :: .n :: []), .reg (.n :: []), .br false, .reg (.n :: []), .br false, .reg (nN 3 []), .br false, .reg (nN 3 []), .br false, .reg (.n :: [])]) (fr := true) (by kernel_rfl) (an (an (ti trivial) (an e261 (an e264 (an (an (ti trivial) (an (bool_f h265) trivial)) (an (an (ti trivial) (an (bool_f h267) trivial)) (an (an (ti (ti (ti trivial))) (an (decide_eq_false h268) trivial)) (an (an (ti (ti (ti trivial))) (an (decide_eq_false h269) trivial)) (an (ti trivial) trivial)))))))) (ti trivial)) (Wv.refl _)
def arP1_1 (z0 : Int) (z1 : Int) (z2 : Int) : List Ans := (.n :: .n :: .call (vi z0) :: nN 5 (.call (vi z1) :: nN 3 (.call (vi z2) :: .n :: [])))
def nsupport_compareOff (k : Nat) (a0 : SGearPair) (a1 : SGearPair) (a2 : SFrac) : Option Int :=
  (nsupport_off k a0 a2).bind fun r274 => ((nsupport_off k a1 a2).bind fun r276 => ((ncmp_Compare_int_ k (w64 (r274 * a1.Driven)) (w64 (r276 * a0.Driven))).bind fun r278 => (some r278)))
theorem nsupport_compareOff_ok (k : Nat) (a0 : SGearPair) (a1 : SGearPair) (a2 : SFrac) (r : Int) (h : nsupport_compareOff k a0 a1 a2 = some r) : VC Go.Proofs.Try.prog 23 [VV.ag (c_SGearPair a0), VV.ag (c_SGearPair a1), VV.ag (c_SFrac a2)] (vi r) := by
 unfold nsupport_compareOff at h
 obtain ⟨r274, h275, h⟩ := bs h
 obtain ⟨r276, h277, h⟩ := bs h
 obtain ⟨r278, h279, h⟩ := bs h
 have e280 := (ncmp_Compare_int__ok k (w64 (r274 * a1.Driven)) (w64 (r276 * a0.Driven)) _ h279)
 have e281 := (ti (ti (an (nsupport_off_ok k a0 a2 _ h275) (ti (ti (ti (ti (ti (an (nsupport_off_ok k a1 a2 _ h277) (ti (ti (ti (an e280 (ti trivial))))))))))))))
 injection h with h; subst h
 exact fun_ok pm pn Go.Proofs.Try.func23 (r0 := vi r278) (ans := [.reg (nN 4 []), .reg (arP1_1 r274 r276 r278)]) (fr := true) (by kernel_rfl) (an (an (ti (ti (ti (ti trivial)))) (an e281 trivial)) (ti trivial)) (Wv.refl _)
def ncmp_Or_int__l0_0_h (a0 : (List Int)) (x8 : Int) : VS := ⟨mkA [(3, vi 0), (6, VV.tr (List.map vi a0) a0.length), (7, vi (a0.length : Int)), (8, vi x8)], [], .nil⟩
def ncmp_Or_int__l0_0_e0 (a0 : (List Int)) (r : Int) : VS := ⟨mkA [(2, vi r)], [], .nil⟩
def ncmp_Or_int__l0_0_e1 (a0 : (List Int)) (r : Unit) : VS := ⟨mkA [(3, vi 0)], [], .nil⟩
def ncmp_Or_int__l0_0 (k : Nat) (a0 : (List Int)) : Nat → Int → Option (Sum Int Unit)
  | 0, _ => none
  | fuel + 1, x8 => if x8 < (a0.length : Int) then (if 0 ≤ x8 ∧ x8 < (a0.length : Int) then (if (a0.getD x8.toNat 0) = 0 then (ncmp_Or_int__l0_0 k a0 fuel (w64 (x8 + 1))) else (some (.inl (a0.getD x8.toNat 0)))) else none) else (some (.inr ()))
theorem ncmp_Or_int__l0_0_ok (k : Nat) (a0 : (List Int)) : ∀ (fuel : Nat) (x8 : Int) (r : Sum Int Unit), ncmp_Or_int__l0_0 k a0 fuel x8 = some r → (match r with | .inl r => VLoop none Go.Proofs.Try.prog (szF Go.Proofs.Try.f34) (bodyOf Go.Proofs.Try.f34 0) (ncmp_Or_int__l0_0_h a0 x8) .ret (ncmp_Or_int__l0_0_e0 a0 r) | .inr r => VLoop none Go.Proofs.Try.prog (szF Go.Proofs.Try.f34) (bodyOf Go.Proofs.Try.f34 0) (ncmp_Or_int__l0_0_h a0 x8) (.exit 0) (ncmp_Or_int__l0_0_e1 a0 r)) := by
 intro fuel
 induction fuel with
 | zero => intro x8 r h; rw [ncmp_Or_int__l0_0.eq_1] at h; cases h
 | succ fuel ih =>
  intro x8 r h
  rw [ncmp_Or_int__l0_0.eq_2] at h
  rcases ifs h with ⟨h317, h⟩ | ⟨h317, h⟩
  ·obtain ⟨h318, h⟩ := ifn h
   have e319 := (show loadL Go.Proofs.Try.prog 3 (x8.toNat * 1) (List.map vi a0) = some (vi (a0.getD x8.toNat 0)) from ld_map ag3 vi a0 0 h318 (by omega))
   rcases ifs h with ⟨h320, h⟩ | ⟨h320, h⟩
   ·have h2 := ih _ _ h
    obtain ⟨q, hv, hq⟩ := pkR (rd := none) (P := Go.Proofs.Try.prog) (fn := Go.Proofs.Try.f34) (k := 0) (s := (ncmp_Or_int__l0_0_h a0 x8)) (ans := [.reg (.n :: []), .br true, .reg (.n :: .v (vi (a0.getD x8.toNat 0)) :: .n :: []), .reg (nN 3 []), .br false, .reg (.n :: .n :: [])]) (c := ⟨[(3, none), (6, none), (7, none), (8, none)], [], []⟩) (e := .normal) (s1 := (ncmp_Or_int__l0_0_h a0 (w64 (x8 + 1)))) (an (an (ti trivial) (an (an (decide_eq_true h317) trivial) (an (an (an h318 (an e319 (ti trivial))) (an (ti (ti (ti trivial))) (an (not_f (decide_eq_true h320)) trivial))) (ti (ti trivial))))) (ti trivial)) (by kernel_rfl)
    cases r with
    | inl r => exact round_next pm pn hv hq h2
    | inr r =>
     exact round_next pm pn hv hq h2
   ·injection h with h; subst h
    exact round_stop (c := ⟨[(2, none)], [], []⟩) (s1 := (ncmp_Or_int__l0_0_e0 a0 (a0.getD x8.toNat 0))) pm pn (ans := [.reg (.n :: []), .br true, .reg (.n :: .v (vi (a0.getD x8.toNat 0)) :: .n :: []), .reg (nN 3 []), .br true, .reg (.n :: .n :: [])]) (by kernel_rfl) (by intro e; cases e) (an (an (ti trivial) (an (an (decide_eq_true h317) trivial) (an (an h318 (an e319 (ti trivial))) (an (ti (ti (ti trivial))) (an (not_t (decide_eq_false h320)) (an (ti (ti trivial)) trivial)))))) (ti trivial))
  ·injection h with h; subst h
   exact round_stop (c := ⟨[(3, none)], [], []⟩) (s1 := (ncmp_Or_int__l0_0_e1 a0 ())) pm pn (ans := [.reg (.n :: []), .br false]) (by kernel_rfl) (by intro e; cases e) (an (an (ti trivial) (an (decide_eq_false h317) trivial)) (ti trivial))
def ncmp_Or_int_ (k : Nat) (a0 : (List Int)) : Option Int :=
  (ncmp_Or_int__l0_0 k a0 k 0).bind fun r322 => (match r322 with | .inl r323 => (some r323) | .inr r324 => (some 0))
theorem ncmp_Or_int__ok (k : Nat) (a0 : (List Int)) (r : Int) (h : ncmp_Or_int_ k a0 = some r) : VC Go.Proofs.Try.prog 34 [VV.tr (List.map vi a0) a0.length] (vi r) := by
 unfold ncmp_Or_int_ at h
 obtain ⟨r322, h321, h⟩ := bs h
 have hph321 := ncmp_Or_int__l0_0_ok k a0 _ _ _ h321
 cases r322 with
 | inl r323 =>
  dsimp only at h
  have e325 := (an (ti trivial) (VRun.loop hph321))
  injection h with h; subst h
  exact fun_ok pm pn Go.Proofs.Try.func34 (r0 := vi r323) (ans := [.reg (.n :: []), .reg (.n :: []), .reg (nN 3 []), .sub ⟨[(3, none), (6, none), (7, none), (8, none)], [], []⟩ .ret (ncmp_Or_int__l0_0_e0 a0 r323)]) (fr := true) (by kernel_rfl) (an (an (ti trivial) (an (ti trivial) (an (ti (ti (ti trivial))) e325))) (ti trivial)) (Wv.refl _)
 | inr r324 =>
  dsimp only at h
  have e326 := (an (ti trivial) (VRun.loop hph321))
  injection h with h; subst h
  exact fun_ok pm pn Go.Proofs.Try.func34 (r0 := vi 0) (ans := [.reg (.n :: []), .reg (.n :: []), .reg (nN 3 []), .sub ⟨[(3, none), (6, none), (7, none), (8, none)], [], []⟩ (.exit 0) (ncmp_Or_int__l0_0_e1 a0 r324), .reg (.n :: .n :: [])]) (fr := true) (by kernel_rfl) (an (an (ti trivial) (an (ti trivial) (an (an (ti (ti (ti trivial))) e326) (an (ti (ti trivial)) trivial)))) (ti trivial)) (Wv.refl _)
theorem eqP1_1 (z0 : Int) (z1 : Int) (z2 : Int) : [VV.tr (List.map vi ([z0, z1, z2] : List Int)) (([z0, z1, z2] : List Int).length)] = [VV.tr [vi z0, vi z1, vi z2] 3] := by first | rfl | (simp only [unfr_vi, List.map_cons, List.map_nil, un_i, un_tr, List.length_map, List.length_cons, List.length_nil]; done) | (simp only [unfr_vi, List.map_cons, List.map_nil, un_i, un_tr, List.length_map, List.length_cons, List.length_nil]; rfl) | (simp only [unfr_vi, List.map_cons, List.map_nil, un_i, un_tr, List.length_map, List.length_cons, List.length_nil, List.length_cons, List.length_nil, List.length_append]; done)
def arP1_2 (z0 : Int) (z1 : Int) (z2 : Int) (z3 : Int) : List Ans := (nN 3 (.call (vi z0) :: nN 10 (.call (vi z1) :: nN 4 (.call (vi z2) :: .v VV.any :: .call (vi z3) :: .n :: .n :: []))))
def nsupport_isBetter (k : Nat) (a0 : SGearPair) (a1 : SGearPair) (a2 : SFrac) : Option Bool :=
  (nsupport_compareOff k a0 a1 a2).bind fun r331 => ((ncmp_Compare_int_ k (w64 (a0.Driver + a0.Driven)) (w64 (a1.Driver + a1.Driven))).bind fun r334 => ((ncmp_Compare_int_ k a0.Driver a1.Driver).bind fun r337 => ((ncmp_Or_int_ k ([r331, r334, r337] : List Int)).bind fun r340 => (some (decide (r340 < 0))))))
theorem nsupport_isBetter_ok (k : Nat) (a0 : SGearPair) (a1 : SGearPair) (a2 : SFrac) (r : Bool) (h : nsupport_isBetter k a0 a1 a2 = some r) : VC Go.Proofs.Try.prog 19 [VV.ag (c_SGearPair a0), VV.ag (c_SGearPair a1), VV.ag (c_SFrac a2)] (vb r) := by
 unfold nsupport_isBetter at h
 obtain ⟨r331, h332, h⟩ := bs h
 have e333 := (nsupport_compareOff_ok k a0 a1 a2 _ h332)
 obtain ⟨r334, h335, h⟩ := bs h
 have e336 := (ncmp_Compare_int__ok k (w64 (a0.Driver + a0.Driven)) (w64 (a1.Driver + a1.Driven)) _ h335)
 obtain ⟨r337, h338, h⟩ := bs h
 have e339 := (ncmp_Compare_int__ok k a0.Driver a1.Driver _ h338)
 obtain ⟨r340, h341, h⟩ := bs h
 have e342 := (VC.args (ncmp_Or_int__ok k ([r331, r334, r337] : List Int) _ h341) (eqP1_1 r331 r334 r337))
 have e343 := (ti (ti (ti (an e333 (ti (ti (ti (ti (ti (ti (ti (ti (ti (ti (an e336 (ti (ti (ti (ti (an e339 (ti (an e342 (ti (ti trivial))))))))))))))))))))))))
 injection h with h; subst h
 exact fun_ok pm pn Go.Proofs.Try.func19 (r0 := vb (decide (r340 < 0))) (ans := [.reg (nN 4 []), .reg (arP1_2 r331 r334 r337 r340)]) (fr := true) (by kernel_rfl) (an (an (ti (ti (ti (ti trivial)))) (an e343 trivial)) (ti trivial)) (Wv.refl _)
theorem eqP1_2 (z0 : Int × Int) (z1 : Int) (z2 : SFrac) : [VV.ag (c_SGearPair (⟨z0.1, z0.2⟩ : SGearPair)), VV.ag (c_SGearPair (⟨z1, z1⟩ : SGearPair)), VV.ag (c_SFrac z2)] = [VV.ag [vi z0.1, vi z0.2], VV.ag [vi z1, vi z1], VV.ag (c_SFrac z2)] := by first | rfl | (simp only [unfr_vi, List.map_cons, List.map_nil, un_i, unfr_c_SFrac, unfr_c_SGearPair]; done) | (simp only [unfr_vi, List.map_cons, List.map_nil, un_i, unfr_c_SFrac, unfr_c_SGearPair]; rfl) | (simp only [unfr_vi, List.map_cons, List.map_nil, un_i, unfr_c_SFrac, unfr_c_SGearPair, c_SGearPair, c_SFrac, List.length_cons, List.length_nil, List.length_append]; done)
theorem eqP1_3 (z0 : Int × Int) (z1 : Int) (z2 : Int) (z3 : SFrac) : [VV.ag (c_SGearPair (⟨z0.1, z0.2⟩ : SGearPair)), VV.ag (c_SGearPair (⟨z1, z2⟩ : SGearPair)), VV.ag (c_SFrac z3)] = [VV.ag [vi z0.1, vi z0.2], VV.ag [vi z1, vi z2], VV.ag (c_SFrac z3)] := by first | rfl | (simp only [unfr_vi, List.map_cons, List.map_nil, un_i, unfr_c_SFrac, unfr_c_SGearPair]; done) | (simp only [unfr_vi, List.map_cons, List.map_nil, un_i, unfr_c_SFrac, unfr_c_SGearPair]; rfl) | (simp only [unfr_vi, List.map_cons, List.map_nil, un_i, unfr_c_SFrac, unfr_c_SGearPair, c_SGearPair, c_SFrac, List.length_cons, List.length_nil, List.length_append]; done)
def nsupport_BestPair_r0 (k : Nat) (a0 : SFrac) (a1 : Int) (a2 : Int) (r364 : (Int × Int × Int × Int)) : List (Int × Int) → Int → Int → Option (Int × Int)
  | [], b2_0, b2_1 => some (b2_0, b2_1)
  | x :: xs, b2_0, b2_1 => (nsupport_isBetter k (⟨x.1, x.2⟩ : SGearPair) (⟨b2_0, b2_1⟩ : SGearPair) a0).bind fun r375 => (if r375 = true then (nsupport_BestPair_r0 k a0 a1 a2 r364 xs x.1 x.2) else (nsupport_BestPair_r0 k a0 a1 a2 r364 xs b2_0 b2_1))
theorem nsupport_BestPair_r0_ok (k : Nat) (a0 : SFrac) (a1 : Int) (a2 : Int) (r364 : (Int × Int × Int × Int)) : ∀ (xs : List (Int × Int)) (b2_0 : Int) (b2_1 : Int) (r : Int × Int), nsupport_BestPair_r0 k a0 a1 a2 r364 xs b2_0 b2_1 = some r → (VRange Go.Proofs.Try.prog (szF Go.Proofs.Try.f7) (.tmp 25) [26] (rAssign Go.Proofs.Try.f7 0) (rBody Go.Proofs.Try.f7 0) (xs.map encG) ⟨mkA [(3, VV.pt 0 0), (6, VV.pt 1 0), (7, vi 0), (9, VV.pt 2 0), (25, VV.fn 33 [VV.tp [vi r364.1] 0, VV.tp [vi r364.2.1] 0, VV.tp [vi r364.2.2.1, vi r364.2.2.2] 0])], [some ⟨true, 1, c_SFrac a0⟩, some ⟨true, 1, [vi 0, vi 0]⟩, some ⟨true, 1, [vi b2_0, vi b2_1]⟩], .nil⟩ .normal ⟨mkA [(3, VV.pt 0 0), (6, VV.pt 1 0), (7, vi 0), (9, VV.pt 2 0), (25, VV.fn 33 [VV.tp [vi r364.1] 0, VV.tp [vi r364.2.1] 0, VV.tp [vi r364.2.2.1, vi r364.2.2.2] 0])], [some ⟨true, 1, c_SFrac a0⟩, some ⟨true, 1, [vi 0, vi 0]⟩, some ⟨true, 1, [vi r.1, vi r.2]⟩], .nil⟩) := by
 intro xs
 induction xs with
 | nil => intro b2_0 b2_1 r h; rw [nsupport_BestPair_r0.eq_1] at h; injection h with h; subst h; exact .nil
 | cons x xs ih =>
  intro b2_0 b2_1 r h
  rw [nsupport_BestPair_r0.eq_2] at h
  obtain ⟨r375, h376, h⟩ := bs h
  have e377 := (VC.args (nsupport_isBetter_ok k (⟨x.1, x.2⟩ : SGearPair) (⟨b2_0, b2_1⟩ : SGearPair) a0 _ h376) (eqP1_3 x b2_0 b2_1 a0))
  rcases ifs h with ⟨h378, h⟩ | ⟨h378, h⟩
  ·have h2 := ih _ _ _ h
   have hr := rd_all (P := Go.Proofs.Try.prog) (sz := szF Go.Proofs.Try.f7) (assign := rAssign Go.Proofs.Try.f7 0) (body := rBody Go.Proofs.Try.f7 0) (s := (⟨mkA [(3, VV.pt 0 0), (6, VV.pt 1 0), (7, vi 0), (9, VV.pt 2 0), (25, VV.fn 33 [VV.tp [vi r364.1] 0, VV.tp [vi r364.2.1] 0, VV.tp [vi r364.2.2.1, vi r364.2.2.2] 0])], [some ⟨true, 1, c_SFrac a0⟩, some ⟨true, 1, [vi 0, vi 0]⟩, some ⟨true, 1, [vi b2_0, vi b2_1]⟩], .nil⟩ : VS)) (ps := [26]) (x := (encG x)) (sa := (stOf Go.Proofs.Try.prog (szF Go.Proofs.Try.f7) (rAssign Go.Proofs.Try.f7 0) [.reg (.n :: .n :: [])] (VS.enter (⟨mkA [(3, VV.pt 0 0), (6, VV.pt 1 0), (7, vi 0), (9, VV.pt 2 0), (25, VV.fn 33 [VV.tp [vi r364.1] 0, VV.tp [vi r364.2.1] 0, VV.tp [vi r364.2.2.1, vi r364.2.2.2] 0])], [some ⟨true, 1, c_SFrac a0⟩, some ⟨true, 1, [vi 0, vi 0]⟩, some ⟨true, 1, [vi b2_0, vi b2_1]⟩], .nil⟩ : VS) [26] (encG x)))) (s1 := stOf Go.Proofs.Try.prog (szF Go.Proofs.Try.f7) (rBody Go.Proofs.Try.f7 0) [.reg (nN 3 (.call (vb r375) :: [])), .br true, .reg (.n :: .n :: [])] (stOf Go.Proofs.Try.prog (szF Go.Proofs.Try.f7) (rAssign Go.Proofs.Try.f7 0) [.reg (.n :: .n :: [])] (VS.enter (⟨mkA [(3, VV.pt 0 0), (6, VV.pt 1 0), (7, vi 0), (9, VV.pt 2 0), (25, VV.fn 33 [VV.tp [vi r364.1] 0, VV.tp [vi r364.2.1] 0, VV.tp [vi r364.2.2.1, vi r364.2.2.2] 0])], [some ⟨true, 1, c_SFrac a0⟩, some ⟨true, 1, [vi 0, vi 0]⟩, some ⟨true, 1, [vi b2_0, vi b2_1]⟩], .nil⟩ : VS) [26] (encG x)))) (s2 := ⟨.nil, [some ⟨true, 1, c_SFrac a0⟩, some ⟨true, 1, [vi 0, vi 0]⟩, some ⟨true, 1, [vi x.1, vi x.2]⟩], (mkA [(3, VV.pt 0 0), (6, VV.pt 1 0), (7, vi 0), (9, VV.pt 2 0), (25, VV.fn 33 [VV.tp [vi r364.1] 0, VV.tp [vi r364.2.1] 0, VV.tp [vi r364.2.2.1, vi r364.2.2.2] 0])])⟩) (a1 := [.reg (.n :: .n :: [])]) (a2 := [.reg (nN 3 (.call (vb r375) :: [])), .br true, .reg (.n :: .n :: [])]) (c := ⟨[], [none, none, none], []⟩) (e := .normal) (q1 := ((True) ∧ (True) ∧ True)) (q2 := fun l => (((True) ∧ (True) ∧ (True) ∧ (VC Go.Proofs.Try.prog 19 [VV.ag [vi x.1, vi x.2], VV.ag [vi b2_0, vi b2_1], VV.ag (c_SFrac a0)] (vb r375)) ∧ True) ∧ ((r375 = true) ∧ ((True) ∧ (True) ∧ True)))) (p := ((True) ∧ ((True)))) pm pn (fun l => by kernel_rfl) (ti (ti trivial)) (fun l => by kernel_rfl) (fun l => (an (ti (ti (ti (an e377 trivial)))) (an h378 (ti (ti trivial))))) (by kernel_rfl) ⟨trivial, trivial⟩
   exact VRange.next (by kernel_rfl) rfl hr.1 hr.2 (by kernel_rfl) h2
  ·have h2 := ih _ _ _ h
   have hr := rd_all (P := Go.Proofs.Try.prog) (sz := szF Go.Proofs.Try.f7) (assign := rAssign Go.Proofs.Try.f7 0) (body := rBody Go.Proofs.Try.f7 0) (s := (⟨mkA [(3, VV.pt 0 0), (6, VV.pt 1 0), (7, vi 0), (9, VV.pt 2 0), (25, VV.fn 33 [VV.tp [vi r364.1] 0, VV.tp [vi r364.2.1] 0, VV.tp [vi r364.2.2.1, vi r364.2.2.2] 0])], [some ⟨true, 1, c_SFrac a0⟩, some ⟨true, 1, [vi 0, vi 0]⟩, some ⟨true, 1, [vi b2_0, vi b2_1]⟩], .nil⟩ : VS)) (ps := [26]) (x := (encG x)) (sa := (stOf Go.Proofs.Try.prog (szF Go.Proofs.Try.f7) (rAssign Go.Proofs.Try.f7 0) [.reg (.n :: .n :: [])] (VS.enter (⟨mkA [(3, VV.pt 0 0), (6, VV.pt 1 0), (7, vi 0), (9, VV.pt 2 0), (25, VV.fn 33 [VV.tp [vi r364.1] 0, VV.tp [vi r364.2.1] 0, VV.tp [vi r364.2.2.1, vi r364.2.2.2] 0])], [some ⟨true, 1, c_SFrac a0⟩, some ⟨true, 1, [vi 0, vi 0]⟩, some ⟨true, 1, [vi b2_0, vi b2_1]⟩], .nil⟩ : VS) [26] (encG x)))) (s1 := stOf Go.Proofs.Try.prog (szF Go.Proofs.Try.f7) (rBody Go.Proofs.Try.f7 0) [.reg (nN 3 (.call (vb r375) :: [])), .br false] (stOf Go.Proofs.Try.prog (szF Go.Proofs.Try.f7) (rAssign Go.Proofs.Try.f7 0) [.reg (.n :: .n :: [])] (VS.enter (⟨mkA [(3, VV.pt 0 0), (6, VV.pt 1 0), (7, vi 0), (9, VV.pt 2 0), (25, VV.fn 33 [VV.tp [vi r364.1] 0, VV.tp [vi r364.2.1] 0, VV.tp [vi r364.2.2.1, vi r364.2.2.2] 0])], [some ⟨true, 1, c_SFrac a0⟩, some ⟨true, 1, [vi 0, vi 0]⟩, some ⟨true, 1, [vi b2_0, vi b2_1]⟩], .nil⟩ : VS) [26] (encG x)))) (s2 := ⟨.nil, [some ⟨true, 1, c_SFrac a0⟩, some ⟨true, 1, [vi 0, vi 0]⟩, some ⟨true, 1, [vi b2_0, vi b2_1]⟩], (mkA [(3, VV.pt 0 0), (6, VV.pt 1 0), (7, vi 0), (9, VV.pt 2 0), (25, VV.fn 33 [VV.tp [vi r364.1] 0, VV.tp [vi r364.2.1] 0, VV.tp [vi r364.2.2.1, vi r364.2.2.2] 0])])⟩) (a1 := [.reg (.n :: .n :: [])]) (a2 := [.reg (nN 3 (.call (vb r375) :: [])), .br false]) (c := ⟨[], [none, none, none], []⟩) (e := .normal) (q1 := ((True) ∧ (True) ∧ True)) (q2 := fun l => (((True) ∧ (True) ∧ (True) ∧ (VC Go.Proofs.Try.prog 19 [VV.ag [vi x.1, vi x.2], VV.ag [vi b2_0, vi b2_1], VV.ag (c_SFrac a0)] (vb r375)) ∧ True) ∧ ((r375 = false) ∧ (True)))) (p := ((True) ∧ ((True)))) pm pn (fun l => by kernel_rfl) (ti (ti trivial)) (fun l => by kernel_rfl) (fun l => (an (ti (ti (ti (an e377 trivial)))) (an (bool_f h378) trivial))) (by kernel_rfl) ⟨trivial, trivial⟩
   exact VRange.next (by kernel_rfl) rfl hr.1 hr.2 (by kernel_rfl) h2
def arP1_3 (z0 : (Int × Int × Int × Int)) : List Ans := (nN 3 (.call (VV.fn 33 [VV.tp [vi z0.1] 0, VV.tp [vi z0.2.1] 0, VV.tp [vi z0.2.2.1, vi z0.2.2.2] 0]) :: []))
theorem eqP1_4 (z0 : Int × Int) : VV.tu [VV.ag [vi z0.1, vi z0.2], vi 0] = VV.tu [VV.ag (c_SGearPair (⟨z0.1, z0.2⟩ : SGearPair)), vi 0] := by first | rfl | (simp only [unfr_vi, List.map_cons, List.map_nil, un_i, unfr_c_SGearPair]; done) | (simp only [unfr_vi, List.map_cons, List.map_nil, un_i, unfr_c_SGearPair]; rfl) | (simp only [unfr_vi, List.map_cons, List.map_nil, un_i, unfr_c_SGearPair, c_SGearPair, List.length_cons, List.length_nil, List.length_append]; done)
theorem eqP1_5 (z0 : Int) : VV.tu [VV.ag [vi 0, vi 0], vi z0] = VV.tu [VV.ag (c_SGearPair (⟨0, 0⟩ : SGearPair)), vi z0] := by first | rfl | (simp only [unfr_vi, List.map_cons, List.map_nil, un_i, unfr_c_SGearPair]; done) | (simp only [unfr_vi, List.map_cons, List.map_nil, un_i, unfr_c_SGearPair]; rfl) | (simp only [unfr_vi, List.map_cons, List.map_nil, un_i, unfr_c_SGearPair, c_SGearPair, List.length_cons, List.length_nil, List.length_append]; done)
def nsupport_BestPair (k : Nat) (a0 : SFrac) (a1 : Int) (a2 : Int) : Option (SGearPair × Int) :=
  (nsupport_checkChoice k a0 a1 a2).bind fun r360 => (if r360 = 0 then ((nsupport_nearest k a0 a1 a2).bind fun r364 => (if NearOK r364 then ((nsupport_BestPair_r0 k a0 a1 a2 r364 (nearAll r364) a1 a1).bind fun r381 => (some ((⟨r381.1, r381.2⟩ : SGearPair), 0))) else none)) else (some ((⟨0, 0⟩ : SGearPair), r360)))
theorem nsupport_BestPair_ok (k : Nat) (a0 : SFrac) (a1 : Int) (a2 : Int) (r : (SGearPair × Int)) (h : nsupport_BestPair k a0 a1 a2 = some r) : VC Go.Proofs.Try.prog 7 [VV.ag (c_SFrac a0), vi a1, vi a2] (VV.tu [VV.ag (c_SGearPair r.1), vi r.2]) := by
 unfold nsupport_BestPair at h
 obtain ⟨r360, h361, h⟩ := bs h
 have e362 := (nsupport_checkChoice_ok k a0 a1 a2 _ h361)
 rcases ifs h with ⟨h363, h⟩ | ⟨h363, h⟩
 ·obtain ⟨r364, h365, h⟩ := bs h
  have e366 := (ti (ti (ti (an (nsupport_nearest_ok k a0 a1 a2 _ h365) trivial))))
  obtain ⟨h379, h⟩ := ifn h
  obtain ⟨r381, h380, h⟩ := bs h
  have hph380 := nsupport_BestPair_r0_ok k a0 a1 a2 r364 _ _ _ _ h380
  have e382 : ((((True)) ∧ ((True))) ∧ VRun none Go.Proofs.Try.prog (szF Go.Proofs.Try.f7) (.rangeFunc (.tmp 25) #[26] (rAssign Go.Proofs.Try.f7 0) (rBody Go.Proofs.Try.f7 0)) ⟨mkA [(3, VV.pt 0 0), (6, VV.pt 1 0), (7, vi 0), (9, VV.pt 2 0), (25, VV.fn 33 [VV.tp [vi r364.1] 0, VV.tp [vi r364.2.1] 0, VV.tp [vi r364.2.2.1, vi r364.2.2.2] 0])], [some ⟨true, 1, c_SFrac a0⟩, some ⟨true, 1, [vi 0, vi 0]⟩, some ⟨true, 1, [vi a1, vi a1]⟩], .nil⟩ .normal ⟨mkA [(3, VV.pt 0 0), (6, VV.pt 1 0), (7, vi 0), (9, VV.pt 2 0), (25, VV.fn 33 [VV.tp [vi r364.1] 0, VV.tp [vi r364.2.1] 0, VV.tp [vi r364.2.2.1, vi r364.2.2.2] 0])], [some ⟨true, 1, c_SFrac a0⟩, some ⟨true, 1, [vi 0, vi 0]⟩, some ⟨true, 1, [vi r381.1, vi r381.2]⟩], .nil⟩) := ⟨⟨trivial, trivial⟩, VRun.range pn rfl (by kernel_rfl) (it_near _ h379) (by kernel_rfl) (of_decide_eq_true (by kernel_rfl)) (by decide) hph380⟩
  injection h with h; subst h
  exact fun_ok pm pn Go.Proofs.Try.func7 (r0 := VV.tu [VV.ag [vi r381.1, vi r381.2], vi 0]) (ans := [.reg (nN 3 []), .reg (nN 3 (.call (vi r360) :: .n :: [])), .reg (.n :: .n :: []), .br false, .reg (nN 5 []), .reg (arP1_3 r364), .sub ⟨[(3, none), (6, none), (7, none), (9, none), (25, none)], [none, none, none], []⟩ .normal ⟨mkA [(3, VV.pt 0 0), (6, VV.pt 1 0), (7, vi 0), (9, VV.pt 2 0), (25, VV.fn 33 [VV.tp [vi r364.1] 0, VV.tp [vi r364.2.1] 0, VV.tp [vi r364.2.2.1, vi r364.2.2.2] 0])], [some ⟨true, 1, c_SFrac a0⟩, some ⟨true, 1, [vi 0, vi 0]⟩, some ⟨true, 1, [vi r381.1, vi r381.2]⟩], .nil⟩, .reg (nN 3 [])]) (fr := true) (by kernel_rfl) (an (an (ti (ti (ti trivial))) (an (an (ti (ti (ti (an e362 (ti trivial))))) (an (ti (ti trivial)) (an (not_f (decide_eq_true h363)) trivial))) (an (ti (ti (ti (ti (ti trivial))))) (an (an e366 e382) (an (ti (ti (ti trivial))) trivial))))) (an (ti (ti (ti trivial))) (ti trivial))) (Wv.of_eq (eqP1_4 r381))
 ·injection h with h; subst h
  exact fun_ok pm pn Go.Proofs.Try.func7 (r0 := VV.tu [VV.ag [vi 0, vi 0], vi r360]) (ans := [.reg (nN 3 []), .reg (nN 3 (.call (vi r360) :: .n :: [])), .reg (.n :: .n :: []), .br true, .reg (nN 4 [])]) (fr := true) (by kernel_rfl) (an (an (ti (ti (ti trivial))) (an (ti (ti (ti (an e362 (ti trivial))))) (an (ti (ti trivial)) (an (not_t (decide_eq_false h363)) (an (ti (ti (ti (ti trivial)))) trivial))))) (an (ti (ti (ti trivial))) (ti trivial))) (Wv.of_eq (eqP1_5 r360))
theorem eqP1_6 (z0 : Int) (z1 : Int) (z2 : SGearPair) : [vi z0, vi z1, VV.tr (List.map vi ([z2.Driver, z2.Driven] : List Int)) (([z2.Driver, z2.Driven] : List Int).length)] = [vi z0, vi z1, VV.tr [vi z2.Driver, vi z2.Driven] 2] := by first | rfl | (simp only [unfr_vi, List.map_cons, List.map_nil, un_i, un_tr, List.length_map, List.length_cons, List.length_nil]; done) | (simp only [unfr_vi, List.map_cons, List.map_nil, un_i, un_tr, List.length_map, List.length_cons, List.length_nil]; rfl) | (simp only [unfr_vi, List.map_cons, List.map_nil, un_i, un_tr, List.length_map, List.length_cons, List.length_nil, List.length_cons, List.length_nil, List.length_append]; done)
theorem eqP1_7 (z0 : Int × Int) (z1 : SGearPair) (z2 : SFrac) : [VV.ag (c_SGearPair (⟨z0.1, z0.2⟩ : SGearPair)), VV.ag (c_SGearPair z1), VV.ag (c_SFrac z2)] = [VV.ag [vi z0.1, vi z0.2], VV.ag (c_SGearPair z1), VV.ag (c_SFrac z2)] := by first | rfl | (simp only [unfr_vi, List.map_cons, List.map_nil, un_i, unfr_c_SFrac, unfr_c_SGearPair]; done) | (simp only [unfr_vi, List.map_cons, List.map_nil, un_i, unfr_c_SFrac, unfr_c_SGearPair]; rfl) | (simp only [unfr_vi, List.map_cons, List.map_nil, un_i, unfr_c_SFrac, unfr_c_SGearPair, c_SGearPair, c_SFrac, List.length_cons, List.length_nil, List.length_append]; done)
def nsupport_divisor_l0_0_h  (x0 : Int) (x1 : Int) : VS := ⟨mkA [(0, vi x0), (1, vi x1)], [], .nil⟩
def nsupport_divisor_l0_0_e0  (r : Int) : VS := ⟨mkA [(0, vi r)], [], .nil⟩
def nsupport_divisor_l0_0 (k : Nat)  : Nat → Int → Int → Option (Int)
  | 0, _, _ => none
  | fuel + 1, x0, x1 => if x1 = 0 then (some x0) else (if x1 ≠ 0 then (nsupport_divisor_l0_0 k  fuel x1 (x0.tmod x1)) else none)
theorem nsupport_divisor_l0_0_ok (k : Nat)  : ∀ (fuel : Nat) (x0 : Int) (x1 : Int) (r : Int), nsupport_divisor_l0_0 k  fuel x0 x1 = some r → (VLoop none Go.Proofs.Try.prog (szF Go.Proofs.Try.f31) (bodyOf Go.Proofs.Try.f31 0) (nsupport_divisor_l0_0_h  x0 x1) (.exit 0) (nsupport_divisor_l0_0_e0  r)) := by
 intro fuel
 induction fuel with
 | zero => intro x0 x1 r h; rw [nsupport_divisor_l0_0.eq_1] at h; cases h
 | succ fuel ih =>
  intro x0 x1 r h
  rw [nsupport_divisor_l0_0.eq_2] at h
  rcases ifs h with ⟨h428, h⟩ | ⟨h428, h⟩
  ·injection h with h; subst h
   exact round_stop (c := ⟨[(0, none)], [], []⟩) (s1 := (nsupport_divisor_l0_0_e0  x0)) pm pn (ans := [.reg (.n :: .n :: []), .br false]) (by kernel_rfl) (by intro e; cases e) (an (an (ti (ti trivial)) (an (not_f (decide_eq_true h428)) trivial)) (ti trivial))
  ·obtain ⟨h429, h⟩ := ifn h
   have h2 := ih _ _ _ h
   obtain ⟨q, hv, hq⟩ := pkR (rd := none) (P := Go.Proofs.Try.prog) (fn := Go.Proofs.Try.f31) (k := 0) (s := (nsupport_divisor_l0_0_h  x0 x1)) (ans := [.reg (.n :: .n :: []), .br true, .reg (nN 6 [])]) (c := ⟨[(0, none), (1, none)], [], []⟩) (e := .normal) (s1 := (nsupport_divisor_l0_0_h  x1 (x0.tmod x1))) (an (an (an (ti (ti trivial)) (an (not_t (decide_eq_false h428)) trivial)) (ti (ti (ti (an h429 (ti (ti trivial))))))) (ti trivial)) (by kernel_rfl)
   exact round_next pm pn hv hq h2
def nsupport_divisor (k : Nat) (a0 : Int) (a1 : Int) : Option Int :=
  (nsupport_divisor_l0_0 k k a0 a1).bind fun r431 => (some r431)
theorem nsupport_divisor_ok (k : Nat) (a0 : Int) (a1 : Int) (r : Int) (h : nsupport_divisor k a0 a1 = some r) : VC Go.Proofs.Try.prog 31 [vi a0, vi a1] (vi r) := by
 unfold nsupport_divisor at h
 obtain ⟨r431, h430, h⟩ := bs h
 have hph430 := nsupport_divisor_l0_0_ok k  _ _ _ _ h430
 have e432 := (an (ti trivial) (VRun.loop hph430))
 injection h with h; subst h
 exact fun_ok pm pn Go.Proofs.Try.func31 (r0 := vi r431) (ans := [.reg (.n :: []), .sub ⟨[(0, none), (1, none)], [], []⟩ (.exit 0) (nsupport_divisor_l0_0_e0  r431), .reg (.n :: .n :: [])]) (fr := true) (by kernel_rfl) (an (an (ti trivial) (an e432 (an (ti (ti trivial)) trivial))) (ti trivial)) (Wv.refl _)
theorem eqP1_8 (z0 : Int) (z1 : Int) (z2 : Int) : VV.ag [vi (w64 (z0.tdiv z1)), vi (w64 (z2.tdiv z1))] = VV.ag (c_SFrac (⟨w64 (z0.tdiv z1), w64 (z2.tdiv z1)⟩ : SFrac)) := by first | rfl | (simp only [unfr_vi, List.map_cons, List.map_nil, un_i, unfr_c_SFrac]; done) | (simp only [unfr_vi, List.map_cons, List.map_nil, un_i, unfr_c_SFrac]; rfl) | (simp only [unfr_vi, List.map_cons, List.map_nil, un_i, unfr_c_SFrac, c_SFrac, List.length_cons, List.length_nil, List.length_append]; done)
def nsupport_lowest (k : Nat) (a0 : Int) (a1 : Int) : Option SFrac :=
  (nsupport_divisor k a0 a1).bind fun r438 => (if r438 ≠ 0 then (some (⟨w64 (a0.tdiv r438), w64 (a1.tdiv r438)⟩ : SFrac)) else none)
theorem nsupport_lowest_ok (k : Nat) (a0 : Int) (a1 : Int) (r : SFrac) (h : nsupport_lowest k a0 a1 = some r) : VC Go.Proofs.Try.prog 37 [vi a0, vi a1] (VV.ag (c_SFrac r)) := by
 unfold nsupport_lowest at h
 obtain ⟨r438, h439, h⟩ := bs h
 have e440 := (ti (ti (an (nsupport_divisor_ok k a0 a1 _ h439) (ti trivial))))
 obtain ⟨h441, h⟩ := ifn h
 have e442 := (ti (ti (an h441 (ti (ti (an h441 (ti (ti trivial))))))))
 injection h with h; subst h
 exact fun_ok pm pn Go.Proofs.Try.func37 (r0 := VV.ag [vi (w64 (a0.tdiv r438)), vi (w64 (a1.tdiv r438))]) (ans := [.reg (.n :: []), .reg (.n :: .n :: .call (vi r438) :: .n :: []), .reg (nN 8 [])]) (fr := true) (by kernel_rfl) (an (an (ti trivial) (an e440 (an e442 trivial))) (an (ti (ti (ti trivial))) trivial)) (Wv.of_eq (eqP1_8 a0 r438 a1))
theorem eqP1_9  : VV.tu [VV.ag [vi 0, vi 0], vi 8] = VV.tu [VV.ag (c_SFrac (⟨0, 0⟩ : SFrac)), vi 8] := by first | rfl | (simp only [unfr_vi, List.map_cons, List.map_nil, un_i, unfr_c_SFrac]; done) | (simp only [unfr_vi, List.map_cons, List.map_nil, un_i, unfr_c_SFrac]; rfl) | (simp only [unfr_vi, List.map_cons, List.map_nil, un_i, unfr_c_SFrac, c_SFrac, List.length_cons, List.length_nil, List.length_append]; done)
def nsupport_small (k : Nat) (a0 : Int) (a1 : Int) : Option (SFrac × Int) :=
  (nsupport_lowest k a0 a1).bind fun r450 => ((nnumber_CheckFrac k r450).bind fun r453 => (if r453 = 0 then (some (r450, 0)) else (some ((⟨0, 0⟩ : SFrac), 8))))
theorem nsupport_small_ok (k : Nat) (a0 : Int) (a1 : Int) (r : (SFrac × Int)) (h : nsupport_small k a0 a1 = some r) : VC Go.Proofs.Try.prog 24 [vi a0, vi a1] (VV.tu [VV.ag (c_SFrac r.1), vi r.2]) := by
 unfold nsupport_small at h
 obtain ⟨r450, h451, h⟩ := bs h
 have e452 := (ti (ti (an (nsupport_lowest_ok k a0 a1 _ h451) (ti (ti trivial)))))
 obtain ⟨r453, h454, h⟩ := bs h
 have e455 := (ti (an (nnumber_CheckFrac_ok k r450 _ h454) (ti trivial)))
 rcases ifs h with ⟨h456, h⟩ | ⟨h456, h⟩
 ·injection h with h; subst h
  exact fun_ok pm pn Go.Proofs.Try.func24 (r0 := VV.tu [VV.ag (c_SFrac r450), vi 0]) (ans := [.reg (.n :: .n :: []), .reg (.n :: .n :: .call (VV.ag (c_SFrac r450)) :: .n :: .n :: []), .reg (.n :: .call (vi r453) :: .n :: []), .br false, .reg (nN 3 [])]) (fr := true) (by kernel_rfl) (an (an (ti (ti trivial)) (an e452 (an (an e455 (an (not_f (decide_eq_true h456)) trivial)) (an (ti (ti (ti trivial))) trivial)))) (an (ti (ti (ti trivial))) (ti trivial))) (Wv.refl _)
 ·injection h with h; subst h
  exact fun_ok pm pn Go.Proofs.Try.func24 (r0 := VV.tu [VV.ag [vi 0, vi 0], vi 8]) (ans := [.reg (.n :: .n :: []), .reg (.n :: .n :: .call (VV.ag (c_SFrac r450)) :: .n :: .n :: []), .reg (.n :: .call (vi r453) :: .n :: []), .br true, .reg (nN 3 [])]) (fr := true) (by kernel_rfl) (an (an (ti (ti trivial)) (an e452 (an e455 (an (not_t (decide_eq_false h456)) (an (ti (ti (ti trivial))) trivial))))) (an (ti (ti (ti trivial))) (ti trivial))) (Wv.of_eq eqP1_9)
def nsupport_CheckBest_r0 (k : Nat) (a0 : SFrac) (a1 : Int) (a2 : Int) (a3 : SGearPair) (r471 : (Int × Int × Int × Int)) : List (Int × Int) → Int → Option (Sum Int Int)
  | [], b3_0 => some (.inl b3_0)
  | x :: xs, b3_0 => (nsupport_compareOff k (⟨x.1, x.2⟩ : SGearPair) a3 a0).bind fun r482 => (if r482 < 0 then (some (.inr 22)) else (nsupport_CheckBest_r0 k a0 a1 a2 a3 r471 xs b3_0))
theorem nsupport_CheckBest_r0_ok (k : Nat) (a0 : SFrac) (a1 : Int) (a2 : Int) (a3 : SGearPair) (r471 : (Int × Int × Int × Int)) : ∀ (xs : List (Int × Int)) (b3_0 : Int) (r : Sum Int Int), nsupport_CheckBest_r0 k a0 a1 a2 a3 r471 xs b3_0 = some r → (match r with | .inl r => VRange Go.Proofs.Try.prog (szF Go.Proofs.Try.f10) (.tmp 33) [34] (rAssign Go.Proofs.Try.f10 0) (rBody Go.Proofs.Try.f10 0) (xs.map encG) ⟨mkA [(4, VV.pt 0 0), (7, VV.pt 1 0), (8, VV.pt 2 0), (9, VV.pt 3 0), (33, VV.fn 33 [VV.tp [vi r471.1] 0, VV.tp [vi r471.2.1] 0, VV.tp [vi r471.2.2.1, vi r471.2.2.2] 0])], [some ⟨true, 1, c_SFrac a0⟩, some ⟨true, 1, c_SGearPair a3⟩, some ⟨true, 1, [vi 0, vi 0]⟩, some ⟨true, 1, [vi b3_0]⟩], .nil⟩ .normal ⟨mkA [(4, VV.pt 0 0), (7, VV.pt 1 0), (8, VV.pt 2 0), (9, VV.pt 3 0), (33, VV.fn 33 [VV.tp [vi r471.1] 0, VV.tp [vi r471.2.1] 0, VV.tp [vi r471.2.2.1, vi r471.2.2.2] 0])], [some ⟨true, 1, c_SFrac a0⟩, some ⟨true, 1, c_SGearPair a3⟩, some ⟨true, 1, [vi 0, vi 0]⟩, some ⟨true, 1, [vi r]⟩], .nil⟩ | .inr r => VRange Go.Proofs.Try.prog (szF Go.Proofs.Try.f10) (.tmp 33) [34] (rAssign Go.Proofs.Try.f10 0) (rBody Go.Proofs.Try.f10 0) (xs.map encG) ⟨mkA [(4, VV.pt 0 0), (7, VV.pt 1 0), (8, VV.pt 2 0), (9, VV.pt 3 0), (33, VV.fn 33 [VV.tp [vi r471.1] 0, VV.tp [vi r471.2.1] 0, VV.tp [vi r471.2.2.1, vi r471.2.2.2] 0])], [some ⟨true, 1, c_SFrac a0⟩, some ⟨true, 1, c_SGearPair a3⟩, some ⟨true, 1, [vi 0, vi 0]⟩, some ⟨true, 1, [vi b3_0]⟩], .nil⟩ .ret ⟨mkA [(4, VV.pt 0 0), (7, VV.pt 1 0), (8, VV.pt 2 0), (9, VV.pt 3 0), (33, VV.fn 33 [VV.tp [vi r471.1] 0, VV.tp [vi r471.2.1] 0, VV.tp [vi r471.2.2.1, vi r471.2.2.2] 0])], [some ⟨true, 1, c_SFrac a0⟩, some ⟨true, 1, c_SGearPair a3⟩, some ⟨true, 1, [vi 0, vi 0]⟩, some ⟨true, 1, [vi r]⟩], .nil⟩) := by
 intro xs
 induction xs with
 | nil => intro b3_0 r h; rw [nsupport_CheckBest_r0.eq_1] at h; injection h with h; subst h; exact .nil
 | cons x xs ih =>
  intro b3_0 r h
  rw [nsupport_CheckBest_r0.eq_2] at h
  obtain ⟨r482, h483, h⟩ := bs h
  have e484 := (VC.args (nsupport_compareOff_ok k (⟨x.1, x.2⟩ : SGearPair) a3 a0 _ h483) (eqP1_7 x a3 a0))
  rcases ifs h with ⟨h485, h⟩ | ⟨h485, h⟩
  ·injection h with h; subst h
   have hr := rd_all (P := Go.Proofs.Try.prog) (sz := szF Go.Proofs.Try.f10) (assign := rAssign Go.Proofs.Try.f10 0) (body := rBody Go.Proofs.Try.f10 0) (s := (⟨mkA [(4, VV.pt 0 0), (7, VV.pt 1 0), (8, VV.pt 2 0), (9, VV.pt 3 0), (33, VV.fn 33 [VV.tp [vi r471.1] 0, VV.tp [vi r471.2.1] 0, VV.tp [vi r471.2.2.1, vi r471.2.2.2] 0])], [some ⟨true, 1, c_SFrac a0⟩, some ⟨true, 1, c_SGearPair a3⟩, some ⟨true, 1, [vi 0, vi 0]⟩, some ⟨true, 1, [vi b3_0]⟩], .nil⟩ : VS)) (ps := [34]) (x := (encG x)) (sa := (stOf Go.Proofs.Try.prog (szF Go.Proofs.Try.f10) (rAssign Go.Proofs.Try.f10 0) [.reg (.n :: .n :: [])] (VS.enter (⟨mkA [(4, VV.pt 0 0), (7, VV.pt 1 0), (8, VV.pt 2 0), (9, VV.pt 3 0), (33, VV.fn 33 [VV.tp [vi r471.1] 0, VV.tp [vi r471.2.1] 0, VV.tp [vi r471.2.2.1, vi r471.2.2.2] 0])], [some ⟨true, 1, c_SFrac a0⟩, some ⟨true, 1, c_SGearPair a3⟩, some ⟨true, 1, [vi 0, vi 0]⟩, some ⟨true, 1, [vi b3_0]⟩], .nil⟩ : VS) [34] (encG x)))) (s1 := stOf Go.Proofs.Try.prog (szF Go.Proofs.Try.f10) (rBody Go.Proofs.Try.f10 0) [.reg (nN 3 (.call (vi r482) :: .n :: [])), .br true, .reg (nN 3 [])] (stOf Go.Proofs.Try.prog (szF Go.Proofs.Try.f10) (rAssign Go.Proofs.Try.f10 0) [.reg (.n :: .n :: [])] (VS.enter (⟨mkA [(4, VV.pt 0 0), (7, VV.pt 1 0), (8, VV.pt 2 0), (9, VV.pt 3 0), (33, VV.fn 33 [VV.tp [vi r471.1] 0, VV.tp [vi r471.2.1] 0, VV.tp [vi r471.2.2.1, vi r471.2.2.2] 0])], [some ⟨true, 1, c_SFrac a0⟩, some ⟨true, 1, c_SGearPair a3⟩, some ⟨true, 1, [vi 0, vi 0]⟩, some ⟨true, 1, [vi b3_0]⟩], .nil⟩ : VS) [34] (encG x)))) (s2 := ⟨.nil, [some ⟨true, 1, c_SFrac a0⟩, some ⟨true, 1, c_SGearPair a3⟩, some ⟨true, 1, [vi 0, vi 0]⟩, some ⟨true, 1, [vi 22]⟩], (mkA [(4, VV.pt 0 0), (7, VV.pt 1 0), (8, VV.pt 2 0), (9, VV.pt 3 0), (33, VV.fn 33 [VV.tp [vi r471.1] 0, VV.tp [vi r471.2.1] 0, VV.tp [vi r471.2.2.1, vi r471.2.2.2] 0])])⟩) (a1 := [.reg (.n :: .n :: [])]) (a2 := [.reg (nN 3 (.call (vi r482) :: .n :: [])), .br true, .reg (nN 3 [])]) (c := ⟨[], [none, none, none, none], []⟩) (e := .ret) (q1 := ((True) ∧ (True) ∧ True)) (q2 := fun l => (((True) ∧ (True) ∧ (True) ∧ (VC Go.Proofs.Try.prog 23 [VV.ag [vi x.1, vi x.2], VV.ag (c_SGearPair a3), VV.ag (c_SFrac a0)] (vi r482)) ∧ (True) ∧ True) ∧ (((decide (r482 < 0)) = true) ∧ (((True) ∧ (True) ∧ (True) ∧ True) ∧ (True))))) (p := ((True) ∧ ((True)))) pm pn (fun l => by kernel_rfl) (ti (ti trivial)) (fun l => by kernel_rfl) (fun l => (an (ti (ti (ti (an e484 (ti trivial))))) (an (decide_eq_true h485) (an (ti (ti (ti trivial))) trivial)))) (by kernel_rfl) ⟨trivial, trivial⟩
   exact VRange.ret (by kernel_rfl) rfl hr.1 hr.2
  ·have h2 := ih _ _ h
   have hr := rd_all (P := Go.Proofs.Try.prog) (sz := szF Go.Proofs.Try.f10) (assign := rAssign Go.Proofs.Try.f10 0) (body := rBody Go.Proofs.Try.f10 0) (s := (⟨mkA [(4, VV.pt 0 0), (7, VV.pt 1 0), (8, VV.pt 2 0), (9, VV.pt 3 0), (33, VV.fn 33 [VV.tp [vi r471.1] 0, VV.tp [vi r471.2.1] 0, VV.tp [vi r471.2.2.1, vi r471.2.2.2] 0])], [some ⟨true, 1, c_SFrac a0⟩, some ⟨true, 1, c_SGearPair a3⟩, some ⟨true, 1, [vi 0, vi 0]⟩, some ⟨true, 1, [vi b3_0]⟩], .nil⟩ : VS)) (ps := [34]) (x := (encG x)) (sa := (stOf Go.Proofs.Try.prog (szF Go.Proofs.Try.f10) (rAssign Go.Proofs.Try.f10 0) [.reg (.n :: .n :: [])] (VS.enter (⟨mkA [(4, VV.pt 0 0), (7, VV.pt 1 0), (8, VV.pt 2 0), (9, VV.pt 3 0), (33, VV.fn 33 [VV.tp [vi r471.1] 0, VV.tp [vi r471.2.1] 0, VV.tp [vi r471.2.2.1, vi r471.2.2.2] 0])], [some ⟨true, 1, c_SFrac a0⟩, some ⟨true, 1, c_SGearPair a3⟩, some ⟨true, 1, [vi 0, vi 0]⟩, some ⟨true, 1, [vi b3_0]⟩], .nil⟩ : VS) [34] (encG x)))) (s1 := stOf Go.Proofs.Try.prog (szF Go.Proofs.Try.f10) (rBody Go.Proofs.Try.f10 0) [.reg (nN 3 (.call (vi r482) :: .n :: [])), .br false] (stOf Go.Proofs.Try.prog (szF Go.Proofs.Try.f10) (rAssign Go.Proofs.Try.f10 0) [.reg (.n :: .n :: [])] (VS.enter (⟨mkA [(4, VV.pt 0 0), (7, VV.pt 1 0), (8, VV.pt 2 0), (9, VV.pt 3 0), (33, VV.fn 33 [VV.tp [vi r471.1] 0, VV.tp [vi r471.2.1] 0, VV.tp [vi r471.2.2.1, vi r471.2.2.2] 0])], [some ⟨true, 1, c_SFrac a0⟩, some ⟨true, 1, c_SGearPair a3⟩, some ⟨true, 1, [vi 0, vi 0]⟩, some ⟨true, 1, [vi b3_0]⟩], .nil⟩ : VS) [34] (encG x)))) (s2 := ⟨.nil, [some ⟨true, 1, c_SFrac a0⟩, some ⟨true, 1, c_SGearPair a3⟩, some ⟨true, 1, [vi 0, vi 0]⟩, some ⟨true, 1, [vi b3_0]⟩], (mkA [(4, VV.pt 0 0), (7, VV.pt 1 0), (8, VV.pt 2 0), (9, VV.pt 3 0), (33, VV.fn 33 [VV.tp [vi r471.1] 0, VV.tp [vi r471.2.1] 0, VV.tp [vi r471.2.2.1, vi r471.2.2.2] 0])])⟩) (a1 := [.reg (.n :: .n :: [])]) (a2 := [.reg (nN 3 (.call (vi r482) :: .n :: [])), .br false]) (c := ⟨[], [none, none, none, none], []⟩) (e := .normal) (q1 := ((True) ∧ (True) ∧ True)) (q2 := fun l => (((True) ∧ (True) ∧ (True) ∧ (VC Go.Proofs.Try.prog 23 [VV.ag [vi x.1, vi x.2], VV.ag (c_SGearPair a3), VV.ag (c_SFrac a0)] (vi r482)) ∧ (True) ∧ True) ∧ (((decide (r482 < 0)) = false) ∧ (True)))) (p := ((True) ∧ ((True)))) pm pn (fun l => by kernel_rfl) (ti (ti trivial)) (fun l => by kernel_rfl) (fun l => (an (ti (ti (ti (an e484 (ti trivial))))) (an (decide_eq_false h485) trivial))) (by kernel_rfl) ⟨trivial, trivial⟩
   cases r with
   | inl r =>
    exact VRange.next (by kernel_rfl) rfl hr.1 hr.2 (by kernel_rfl) h2
   | inr r =>
    exact VRange.next (by kernel_rfl) rfl hr.1 hr.2 (by kernel_rfl) h2
def arP1_4 (z0 : Int) (z1 : (SFrac × Int)) : List Ans := (.n :: .n :: .call (vi z0) :: nN 5 (.call (VV.tu [VV.ag (c_SFrac z1.1), vi z1.2]) :: nN 4 []))
theorem eqP1_10 (z0 : Int) : VV.tu [VV.ag [vi 0, vi 0], vi z0] = VV.tu [VV.ag (c_SFrac (⟨0, 0⟩ : SFrac)), vi z0] := by first | rfl | (simp only [unfr_vi, List.map_cons, List.map_nil, un_i, unfr_c_SFrac]; done) | (simp only [unfr_vi, List.map_cons, List.map_nil, un_i, unfr_c_SFrac]; rfl) | (simp only [unfr_vi, List.map_cons, List.map_nil, un_i, unfr_c_SFrac, c_SFrac, List.length_cons, List.length_nil, List.length_append]; done)
theorem eqP1_11  : VV.tu [VV.ag [vi 0, vi 0], vi 2] = VV.tu [VV.ag (c_SFrac (⟨0, 0⟩ : SFrac)), vi 2] := by first | rfl | (simp only [unfr_vi, List.map_cons, List.map_nil, un_i, unfr_c_SFrac]; done) | (simp only [unfr_vi, List.map_cons, List.map_nil, un_i, unfr_c_SFrac]; rfl) | (simp only [unfr_vi, List.map_cons, List.map_nil, un_i, unfr_c_SFrac, c_SFrac, List.length_cons, List.length_nil, List.length_append]; done)
def nsupport_CheckBest (k : Nat) (a0 : SFrac) (a1 : Int) (a2 : Int) (a3 : SGearPair) : Option (SFrac × Int) :=
  (nsupport_checkChoice k a0 a1 a2).bind fun r462 => (if r462 = 0 then ((nsupport_areWithin k a1 a2 ([a3.Driver, a3.Driven] : List Int)).bind fun r466 => (if r466 = true then ((nsupport_nearest k a0 a1 a2).bind fun r471 => (if NearOK r471 then ((nsupport_CheckBest_r0 k a0 a1 a2 a3 r471 (nearAll r471) 0).bind fun r488 => (match r488 with | .inl r489 => ((nsupport_off k a3 a0).bind fun r492 => ((nsupport_small k r492 (w64 (a3.Driven * a0.Den))).bind fun r494 => (some (r494.1, r494.2)))) | .inr r490 => (some ((⟨0, 0⟩ : SFrac), r490)))) else none)) else (some ((⟨0, 0⟩ : SFrac), 2)))) else (some ((⟨0, 0⟩ : SFrac), r462)))
theorem nsupport_CheckBest_ok (k : Nat) (a0 : SFrac) (a1 : Int) (a2 : Int) (a3 : SGearPair) (r : (SFrac × Int)) (h : nsupport_CheckBest k a0 a1 a2 a3 = some r) : VC Go.Proofs.Try.prog 10 [VV.ag (c_SFrac a0), vi a1, vi a2, VV.ag (c_SGearPair a3)] (VV.tu [VV.ag (c_SFrac r.1), vi r.2]) := by
 unfold nsupport_CheckBest at h
 obtain ⟨r462, h463, h⟩ := bs h
 have e464 := (nsupport_checkChoice_ok k a0 a1 a2 _ h463)
 rcases ifs h with ⟨h465, h⟩ | ⟨h465, h⟩
 ·obtain ⟨r466, h467, h⟩ := bs h
  have e468 := (VC.args (nsupport_areWithin_ok k a1 a2 ([a3.Driver, a3.Driven] : List Int) _ h467) (eqP1_6 a1 a2 a3))
  have e469 := (ti (ti (ti (ti (ti (ti (ti (an e468 (ti trivial)))))))))
  rcases ifs h with ⟨h470, h⟩ | ⟨h470, h⟩
  ·obtain ⟨r471, h472, h⟩ := bs h
   have e473 := (ti (ti (ti (an (nsupport_nearest_ok k a0 a1 a2 _ h472) trivial))))
   obtain ⟨h486, h⟩ := ifn h
   obtain ⟨r488, h487, h⟩ := bs h
   have hph487 := nsupport_CheckBest_r0_ok k a0 a1 a2 a3 r471 _ _ _ h487
   cases r488 with
   | inl r489 =>
    dsimp only at h
    have e491 : ((((True)) ∧ ((True))) ∧ VRun none Go.Proofs.Try.prog (szF Go.Proofs.Try.f10) (.rangeFunc (.tmp 33) #[34] (rAssign Go.Proofs.Try.f10 0) (rBody Go.Proofs.Try.f10 0)) ⟨mkA [(4, VV.pt 0 0), (7, VV.pt 1 0), (8, VV.pt 2 0), (9, VV.pt 3 0), (33, VV.fn 33 [VV.tp [vi r471.1] 0, VV.tp [vi r471.2.1] 0, VV.tp [vi r471.2.2.1, vi r471.2.2.2] 0])], [some ⟨true, 1, c_SFrac a0⟩, some ⟨true, 1, c_SGearPair a3⟩, some ⟨true, 1, [vi 0, vi 0]⟩, some ⟨true, 1, [vi 0]⟩], .nil⟩ .normal ⟨mkA [(4, VV.pt 0 0), (7, VV.pt 1 0), (8, VV.pt 2 0), (9, VV.pt 3 0), (33, VV.fn 33 [VV.tp [vi r471.1] 0, VV.tp [vi r471.2.1] 0, VV.tp [vi r471.2.2.1, vi r471.2.2.2] 0])], [some ⟨true, 1, c_SFrac a0⟩, some ⟨true, 1, c_SGearPair a3⟩, some ⟨true, 1, [vi 0, vi 0]⟩, some ⟨true, 1, [vi r489]⟩], .nil⟩) := ⟨⟨trivial, trivial⟩, VRun.range pn rfl (by kernel_rfl) (it_near _ h486) (by kernel_rfl) (of_decide_eq_true (by kernel_rfl)) (by decide) hph487⟩
    obtain ⟨r492, h493, h⟩ := bs h
    obtain ⟨r494, h495, h⟩ := bs h
    have e496 := (nsupport_small_ok k r492 (w64 (a3.Driven * a0.Den)) _ h495)
    have e497 := (ti (ti (an (nsupport_off_ok k a3 a0 _ h493) (ti (ti (ti (ti (ti (an e496 (ti (ti (ti (ti trivial)))))))))))))
    injection h with h; subst h
    exact fun_ok pm pn Go.Proofs.Try.func10 (r0 := VV.tu [VV.ag (c_SFrac r494.1), vi r494.2]) (ans := [.reg (nN 4 []), .reg (nN 3 (.call (vi r462) :: .n :: [])), .reg (.n :: .n :: []), .br false, .reg (nN 6 (.v VV.any :: .call (vb r466) :: .n :: [])), .br false, .reg (arP1_3 r471), .sub ⟨[(4, none), (7, none), (8, none), (9, none), (33, none)], [none, none, none, none], []⟩ .normal ⟨mkA [(4, VV.pt 0 0), (7, VV.pt 1 0), (8, VV.pt 2 0), (9, VV.pt 3 0), (33, VV.fn 33 [VV.tp [vi r471.1] 0, VV.tp [vi r471.2.1] 0, VV.tp [vi r471.2.2.1, vi r471.2.2.2] 0])], [some ⟨true, 1, c_SFrac a0⟩, some ⟨true, 1, c_SGearPair a3⟩, some ⟨true, 1, [vi 0, vi 0]⟩, some ⟨true, 1, [vi r489]⟩], .nil⟩, .reg (arP1_4 r492 r494)]) (fr := true) (by kernel_rfl) (an (an (ti (ti (ti (ti trivial)))) (an (an (ti (ti (ti (an e464 (ti trivial))))) (an (ti (ti trivial)) (an (not_f (decide_eq_true h465)) trivial))) (an (an e469 (an (not_f h470) trivial)) (an (an e473 e491) (an e497 trivial))))) (an (ti (ti (ti trivial))) (an (ti trivial) trivial))) (Wv.refl _)
   | inr r490 =>
    dsimp only at h
    have e498 : ((((True)) ∧ ((True))) ∧ VRun none Go.Proofs.Try.prog (szF Go.Proofs.Try.f10) (.rangeFunc (.tmp 33) #[34] (rAssign Go.Proofs.Try.f10 0) (rBody Go.Proofs.Try.f10 0)) ⟨mkA [(4, VV.pt 0 0), (7, VV.pt 1 0), (8, VV.pt 2 0), (9, VV.pt 3 0), (33, VV.fn 33 [VV.tp [vi r471.1] 0, VV.tp [vi r471.2.1] 0, VV.tp [vi r471.2.2.1, vi r471.2.2.2] 0])], [some ⟨true, 1, c_SFrac a0⟩, some ⟨true, 1, c_SGearPair a3⟩, some ⟨true, 1, [vi 0, vi 0]⟩, some ⟨true, 1, [vi 0]⟩], .nil⟩ .ret ⟨mkA [(4, VV.pt 0 0), (7, VV.pt 1 0), (8, VV.pt 2 0), (9, VV.pt 3 0), (33, VV.fn 33 [VV.tp [vi r471.1] 0, VV.tp [vi r471.2.1] 0, VV.tp [vi r471.2.2.1, vi r471.2.2.2] 0])], [some ⟨true, 1, c_SFrac a0⟩, some ⟨true, 1, c_SGearPair a3⟩, some ⟨true, 1, [vi 0, vi 0]⟩, some ⟨true, 1, [vi r490]⟩], .nil⟩) := ⟨⟨trivial, trivial⟩, VRun.range pn rfl (by kernel_rfl) (it_near _ h486) (by kernel_rfl) (of_decide_eq_true (by kernel_rfl)) (by decide) hph487⟩
    injection h with h; subst h
    exact fun_ok pm pn Go.Proofs.Try.func10 (r0 := VV.tu [VV.ag [vi 0, vi 0], vi r490]) (ans := [.reg (nN 4 []), .reg (nN 3 (.call (vi r462) :: .n :: [])), .reg (.n :: .n :: []), .br false, .reg (nN 6 (.v VV.any :: .call (vb r466) :: .n :: [])), .br false, .reg (arP1_3 r471), .sub ⟨[(4, none), (7, none), (8, none), (9, none), (33, none)], [none, none, none, none], []⟩ .ret ⟨mkA [(4, VV.pt 0 0), (7, VV.pt 1 0), (8, VV.pt 2 0), (9, VV.pt 3 0), (33, VV.fn 33 [VV.tp [vi r471.1] 0, VV.tp [vi r471.2.1] 0, VV.tp [vi r471.2.2.1, vi r471.2.2.2] 0])], [some ⟨true, 1, c_SFrac a0⟩, some ⟨true, 1, c_SGearPair a3⟩, some ⟨true, 1, [vi 0, vi 0]⟩, some ⟨true, 1, [vi r490]⟩], .nil⟩]) (fr := true) (by kernel_rfl) (an (an (ti (ti (ti (ti trivial)))) (an (an (ti (ti (ti (an e464 (ti trivial))))) (an (ti (ti trivial)) (an (not_f (decide_eq_true h465)) trivial))) (an (an e469 (an (not_f h470) trivial)) (an e473 e498)))) (an (ti (ti (ti trivial))) (an (ti trivial) trivial))) (Wv.of_eq (eqP1_10 r490))
  ·injection h with h; subst h
   exact fun_ok pm pn Go.Proofs.Try.func10 (r0 := VV.tu [VV.ag [vi 0, vi 0], vi 2]) (ans := [.reg (nN 4 []), .reg (nN 3 (.call (vi r462) :: .n :: [])), .reg (.n :: .n :: []), .br false, .reg (nN 6 (.v VV.any :: .call (vb r466) :: .n :: [])), .br true, .reg (nN 3 [])]) (fr := true) (by kernel_rfl) (an (an (ti (ti (ti (ti trivial)))) (an (an (ti (ti (ti (an e464 (ti trivial))))) (an (ti (ti trivial)) (an (not_f (decide_eq_true h465)) trivial))) (an e469 (an (not_t (bool_f h470)) (an (ti (ti (ti trivial))) trivial))))) (an (ti (ti (ti trivial))) (an (ti trivial) trivial))) (Wv.of_eq eqP1_11)
 ·injection h with h; subst h
  exact fun_ok pm pn Go.Proofs.Try.func10 (r0 := VV.tu [VV.ag [vi 0, vi 0], vi r462]) (ans := [.reg (nN 4 []), .reg (nN 3 (.call (vi r462) :: .n :: [])), .reg (.n :: .n :: []), .br true, .reg (nN 4 [])]) (fr := true) (by kernel_rfl) (an (an (ti (ti (ti (ti trivial)))) (an (ti (ti (ti (an e464 (ti trivial))))) (an (ti (ti trivial)) (an (not_t (decide_eq_false h465)) (an (ti (ti (ti (ti trivial)))) trivial))))) (an (ti (ti (ti trivial))) (an (ti trivial) trivial))) (Wv.of_eq (eqP1_10 r462))
def nspeculumbase_Within (k : Nat) (a0 : Int) (a1 : Int) (a2 : Int) : Option Bool :=
  if a1 ≤ a0 then (some (decide (a0 ≤ a2))) else (some false)
theorem nspeculumbase_Within_ok (k : Nat) (a0 : Int) (a1 : Int) (a2 : Int) (r : Bool) (h : nspeculumbase_Within k a0 a1 a2 = some r) : VC Go.Proofs.Try.prog 6 [vi a0, vi a1, vi a2] (vb r) := by
 unfold nspeculumbase_Within at h
 rcases ifs h with ⟨h504, h⟩ | ⟨h504, h⟩
 ·have e505 := (ti (ti (ti (ti (an (an (decide_eq_true h504) trivial) (an (an (decide_eq_true h504) trivial) (an (an (decide_eq_true h504) trivial) (an (decide_eq_true h504) (ti trivial)))))))))
  injection h with h; subst h
  exact fun_ok pm pn Go.Proofs.Try.func6 (r0 := vb (decide (a0 ≤ a2))) (ans := [.reg (.n :: []), .reg (nN 7 (.b true :: .n :: []))]) (fr := true) (by kernel_rfl) (an (an (ti trivial) (an e505 trivial)) (ti trivial)) (Wv.refl _)
 ·have e506 := (ti (ti (ti (ti (an (decide_eq_false h504) (an (decide_eq_false h504) (an (decide_eq_false h504) (an (decide_eq_false h504) (ti trivial)))))))))
  injection h with h; subst h
  exact fun_ok pm pn Go.Proofs.Try.func6 (r0 := vb false) (ans := [.reg (.n :: []), .reg (nN 4 (nS 3 (.b false :: .n :: [])))]) (fr := true) (by kernel_rfl) (an (an (ti trivial) (an e506 trivial)) (ti trivial)) (Wv.refl _)
def nspeculumbase_Abs (k : Nat) (a0 : Int) : Option Int :=
  if a0 < 0 then (some (w64 (0 - a0))) else (some a0)
theorem nspeculumbase_Abs_ok (k : Nat) (a0 : Int) (r : Int) (h : nspeculumbase_Abs k a0 = some r) : VC Go.Proofs.Try.prog 38 [vi a0] (vi r) := by
 unfold nspeculumbase_Abs at h
 rcases ifs h with ⟨h512, h⟩ | ⟨h512, h⟩
 ·injection h with h; subst h
  exact fun_ok pm pn Go.Proofs.Try.func38 (r0 := vi (w64 (0 - a0))) (ans := [.reg (.n :: []), .reg (.n :: .n :: []), .br true, .reg (nN 3 [])]) (fr := true) (by kernel_rfl) (an (an (ti trivial) (an (ti (ti trivial)) (an (decide_eq_true h512) (an (ti (ti (ti trivial))) trivial)))) (ti trivial)) (Wv.refl _)
 ·injection h with h; subst h
  exact fun_ok pm pn Go.Proofs.Try.func38 (r0 := vi a0) (ans := [.reg (.n :: []), .reg (.n :: .n :: []), .br false, .reg (.n :: .n :: [])]) (fr := true) (by kernel_rfl) (an (an (ti trivial) (an (an (ti (ti trivial)) (an (decide_eq_false h512) trivial)) (an (ti (ti trivial)) trivial))) (ti trivial)) (Wv.refl _)
def nspeculumref07_off (k : Nat) (a0 : SFrac) (a1 : SGearPair) : Option (Int × Int) :=
  (nspeculumbase_Abs k (w64 ((w64 (a1.Driver * a0.Den)) - (w64 (a0.Num * a1.Driven))))).bind fun r517 => (some (r517, a1.Driven))
theorem nspeculumref07_off_ok (k : Nat) (a0 : SFrac) (a1 : SGearPair) (r : (Int × Int)) (h : nspeculumref07_off k a0 a1 = some r) : VC Go.Proofs.Try.prog 26 [VV.ag (c_SFrac a0), VV.ag (c_SGearPair a1)] (VV.tu [vi r.1, vi r.2]) := by
 unfold nspeculumref07_off at h
 obtain ⟨r517, h518, h⟩ := bs h
 have e519 := (nspeculumbase_Abs_ok k (w64 ((w64 (a1.Driver * a0.Den)) - (w64 (a0.Num * a1.Driven)))) _ h518)
 have e520 := (ti (ti (ti (ti (ti (ti (ti (ti (ti (ti (ti (an e519 (ti (ti (ti (ti trivial))))))))))))))))
 injection h with h; subst h
 exact fun_ok pm pn Go.Proofs.Try.func26 (r0 := VV.tu [vi r517, vi a1.Driven]) (ans := [.reg (nN 4 []), .reg (nN 11 (.call (vi r517) :: nN 4 []))]) (fr := true) (by kernel_rfl) (an (an (ti (ti (ti (ti trivial)))) (an e520 trivial)) (ti (ti trivial))) (Wv.refl _)
def nspeculumref07_Nearer (k : Nat) (a0 : SFrac) (a1 : SGearPair) (a2 : SGearPair) : Option Bool :=
  (nspeculumref07_off k a0 a1).bind fun r527 => ((nspeculumref07_off k a0 a2).bind fun r530 => (some (decide ((w64 (r527.1 * r530.2)) < (w64 (r530.1 * r527.2))))))
theorem nspeculumref07_Nearer_ok (k : Nat) (a0 : SFrac) (a1 : SGearPair) (a2 : SGearPair) (r : Bool) (h : nspeculumref07_Nearer k a0 a1 a2 = some r) : VC Go.Proofs.Try.prog 11 [VV.ag (c_SFrac a0), VV.ag (c_SGearPair a1), VV.ag (c_SGearPair a2)] (vb r) := by
 unfold nspeculumref07_Nearer at h
 obtain ⟨r527, h528, h⟩ := bs h
 have e529 := (ti (ti (an (nspeculumref07_off_ok k a0 a1 _ h528) (ti (ti (ti (ti (ti trivial))))))))
 obtain ⟨r530, h531, h⟩ := bs h
 have e532 := (ti (ti (an (nspeculumref07_off_ok k a0 a2 _ h531) (ti (ti (ti (ti (ti trivial))))))))
 injection h with h; subst h
 exact fun_ok pm pn Go.Proofs.Try.func11 (r0 := vb (decide ((w64 (r527.1 * r530.2)) < (w64 (r530.1 * r527.2))))) (ans := [.reg (nN 4 []), .reg (.n :: .n :: .call (VV.tu [vi r527.1, vi r527.2]) :: nN 5 []), .reg (.n :: .n :: .call (VV.tu [vi r530.1, vi r530.2]) :: nN 5 []), .reg (nN 8 [])]) (fr := true) (by kernel_rfl) (an (an (ti (ti (ti (ti trivial)))) (an e529 (an e532 (an (ti (ti (ti (ti (ti (ti (ti (ti trivial)))))))) trivial)))) (ti trivial)) (Wv.refl _)
theorem eqP1_12 (z0 : SFrac) (z1 : Int) : [VV.ag (c_SFrac z0), VV.ag (c_SGearPair (⟨z1, w64 ((w64 (2 * z1)) - z1)⟩ : SGearPair)), VV.ag (c_SGearPair (⟨z1, z1⟩ : SGearPair))] = [VV.ag (c_SFrac z0), VV.ag [vi z1, vi (w64 ((w64 (2 * z1)) - z1))], VV.ag [vi z1, vi z1]] := by first | rfl | (simp only [unfr_vi, List.map_cons, List.map_nil, un_i, unfr_c_SFrac, unfr_c_SGearPair]; done) | (simp only [unfr_vi, List.map_cons, List.map_nil, un_i, unfr_c_SFrac, unfr_c_SGearPair]; rfl) | (simp only [unfr_vi, List.map_cons, List.map_nil, un_i, unfr_c_SFrac, unfr_c_SGearPair, c_SFrac, c_SGearPair, List.length_cons, List.length_nil, List.length_append]; done)
theorem eqP1_13 (z0 : SFrac) (z1 : Int) (z2 : Int) (z3 : Int) : [VV.ag (c_SFrac z0), VV.ag (c_SGearPair (⟨z1, w64 ((w64 (2 * z2)) - z1)⟩ : SGearPair)), VV.ag (c_SGearPair (⟨z2, z3⟩ : SGearPair))] = [VV.ag (c_SFrac z0), VV.ag [vi z1, vi (w64 ((w64 (2 * z2)) - z1))], VV.ag [vi z2, vi z3]] := by first | rfl | (simp only [unfr_vi, List.map_cons, List.map_nil, un_i, unfr_c_SFrac, unfr_c_SGearPair]; done) | (simp only [unfr_vi, List.map_cons, List.map_nil, un_i, unfr_c_SFrac, unfr_c_SGearPair]; rfl) | (simp only [unfr_vi, List.map_cons, List.map_nil, un_i, unfr_c_SFrac, unfr_c_SGearPair, c_SFrac, c_SGearPair, List.length_cons, List.length_nil, List.length_append]; done)
theorem eqP1_14 (z0 : SFrac) (z1 : Int) (z2 : Int) (z3 : Int) (z4 : Int) : [VV.ag (c_SFrac z0), VV.ag (c_SGearPair (⟨z1, w64 ((w64 (2 * z2)) - z1)⟩ : SGearPair)), VV.ag (c_SGearPair (⟨z3, z4⟩ : SGearPair))] = [VV.ag (c_SFrac z0), VV.ag [vi z1, vi (w64 ((w64 (2 * z2)) - z1))], VV.ag [vi z3, vi z4]] := by first | rfl | (simp only [unfr_vi, List.map_cons, List.map_nil, un_i, unfr_c_SFrac, unfr_c_SGearPair]; done) | (simp only [unfr_vi, List.map_cons, List.map_nil, un_i, unfr_c_SFrac, unfr_c_SGearPair]; rfl) | (simp only [unfr_vi, List.map_cons, List.map_nil, un_i, unfr_c_SFrac, unfr_c_SGearPair, c_SFrac, c_SGearPair, List.length_cons, List.length_nil, List.length_append]; done)
theorem eqP1_15 (z0 : SFrac) (z1 : Int) (z2 : Int) (z3 : Int) (z4 : Int) : [VV.ag (c_SFrac z0), VV.ag (c_SGearPair (⟨z1, w64 (z2 - z1)⟩ : SGearPair)), VV.ag (c_SGearPair (⟨z3, z4⟩ : SGearPair))] = [VV.ag (c_SFrac z0), VV.ag [vi z1, vi (w64 (z2 - z1))], VV.ag [vi z3, vi z4]] := by first | rfl | (simp only [unfr_vi, List.map_cons, List.map_nil, un_i, unfr_c_SFrac, unfr_c_SGearPair]; done) | (simp only [unfr_vi, List.map_cons, List.map_nil, un_i, unfr_c_SFrac, unfr_c_SGearPair]; rfl) | (simp only [unfr_vi, List.map_cons, List.map_nil, un_i, unfr_c_SFrac, unfr_c_SGearPair, c_SFrac, c_SGearPair, List.length_cons, List.length_nil, List.length_append]; done)
def nspeculumref07_BestPair_l1_0_h (a0 : SFrac) (a1 : Int) (a2 : Int) (x8 : Int) (b2_0z : Int) (b2_1z : Int) (x9 : Int) : VS := ⟨mkA [(1, vi a1), (2, vi a2), (3, VV.pt 0 0), (6, VV.pt 1 0), (7, VV.pt 2 0), (8, vi x8), (9, vi x9)], [some ⟨true, 1, c_SFrac a0⟩, some ⟨true, 1, [vi 0, vi 0]⟩, some ⟨true, 1, [vi b2_0z, vi b2_1z]⟩], .nil⟩
def nspeculumref07_BestPair_l1_0_e0 (a0 : SFrac) (a1 : Int) (a2 : Int) (x8 : Int) (r : Int × Int) : VS := ⟨mkA [(1, vi a1), (2, vi a2), (3, VV.pt 0 0), (6, VV.pt 1 0), (7, VV.pt 2 0), (8, vi x8)], [some ⟨true, 1, c_SFrac a0⟩, some ⟨true, 1, [vi 0, vi 0]⟩, some ⟨true, 1, [vi r.1, vi r.2]⟩], .nil⟩
def nspeculumref07_BestPair_l1_0 (k : Nat) (a0 : SFrac) (a1 : Int) (a2 : Int) (x8 : Int) : Nat → Int → Int → Int → Option (Int × Int)
  | 0, _, _, _ => none
  | fuel + 1, b2_0z, b2_1z, x9 => if x9 ≤ a2 then ((nspeculumbase_Within k (w64 (x8 - x9)) a1 a2).bind fun r761 => (if r761 = true then ((nspeculumref07_Nearer k a0 (⟨x9, w64 (x8 - x9)⟩ : SGearPair) (⟨b2_0z, b2_1z⟩ : SGearPair)).bind fun r765 => (if r765 = true then (nspeculumref07_BestPair_l1_0 k a0 a1 a2 x8 fuel x9 (w64 (x8 - x9)) (w64 (x9 + 1))) else (nspeculumref07_BestPair_l1_0 k a0 a1 a2 x8 fuel b2_0z b2_1z (w64 (x9 + 1))))) else (nspeculumref07_BestPair_l1_0 k a0 a1 a2 x8 fuel b2_0z b2_1z (w64 (x9 + 1))))) else (some (b2_0z, b2_1z))
theorem nspeculumref07_BestPair_l1_0_ok (k : Nat) (a0 : SFrac) (a1 : Int) (a2 : Int) (x8 : Int) : ∀ (fuel : Nat) (b2_0z : Int) (b2_1z : Int) (x9 : Int) (r : Int × Int), nspeculumref07_BestPair_l1_0 k a0 a1 a2 x8 fuel b2_0z b2_1z x9 = some r → (VLoop none Go.Proofs.Try.prog (szF Go.Proofs.Try.f9) (bodyOf Go.Proofs.Try.f9 1) (nspeculumref07_BestPair_l1_0_h a0 a1 a2 x8 b2_0z b2_1z x9) (.exit 2) (nspeculumref07_BestPair_l1_0_e0 a0 a1 a2 x8 r)) := by
 intro fuel
 induction fuel with
 | zero => intro b2_0z b2_1z x9 r h; rw [nspeculumref07_BestPair_l1_0.eq_1] at h; cases h
 | succ fuel ih =>
  intro b2_0z b2_1z x9 r h
  rw [nspeculumref07_BestPair_l1_0.eq_2] at h
  rcases ifs h with ⟨h760, h⟩ | ⟨h760, h⟩
  ·obtain ⟨r761, h762, h⟩ := bs h
   have e763 := (nspeculumbase_Within_ok k (w64 (x8 - x9)) a1 a2 _ h762)
   rcases ifs h with ⟨h764, h⟩ | ⟨h764, h⟩
   ·obtain ⟨r765, h766, h⟩ := bs h
    have e767 := (an h764 (VC.args (nspeculumref07_Nearer_ok k a0 (⟨x9, w64 (x8 - x9)⟩ : SGearPair) (⟨b2_0z, b2_1z⟩ : SGearPair) _ h766) (eqP1_15 a0 x9 x8 b2_0z b2_1z)))
    have e768 := (ti (ti (ti (ti (an e763 (ti (an (an h764 trivial) (an (an h764 trivial) (an (an h764 trivial) (an e767 (an h764 trivial)))))))))))
    rcases ifs h with ⟨h769, h⟩ | ⟨h769, h⟩
    ·have h2 := ih _ _ _ _ h
     obtain ⟨q, hv, hq⟩ := pkR (rd := none) (P := Go.Proofs.Try.prog) (fn := Go.Proofs.Try.f9) (k := 1) (s := (nspeculumref07_BestPair_l1_0_h a0 a1 a2 x8 b2_0z b2_1z x9)) (ans := [.reg (nN 3 []), .br true, .reg (nN 7 []), .reg (nN 4 (.call (vb r761) :: nN 4 (.call (vb r765) :: .b true :: []))), .br true, .reg (.n :: .n :: []), .reg (nN 3 [])]) (c := ⟨[(1, none), (2, none), (3, none), (6, none), (7, none), (8, none), (9, none)], [none, none, none], []⟩) (e := .normal) (s1 := (nspeculumref07_BestPair_l1_0_h a0 a1 a2 x8 x9 (w64 (x8 - x9)) (w64 (x9 + 1)))) (an (an (an (ti (ti (ti trivial))) (an (decide_eq_true h760) trivial)) (an (an (ti (ti (ti (ti (ti (ti (ti trivial))))))) (an e768 (an h769 (ti (ti trivial))))) (ti (ti (ti trivial))))) (ti trivial)) (by kernel_rfl)
     exact round_next pm pn hv hq h2
    ·have h2 := ih _ _ _ _ h
     obtain ⟨q, hv, hq⟩ := pkR (rd := none) (P := Go.Proofs.Try.prog) (fn := Go.Proofs.Try.f9) (k := 1) (s := (nspeculumref07_BestPair_l1_0_h a0 a1 a2 x8 b2_0z b2_1z x9)) (ans := [.reg (nN 3 []), .br true, .reg (nN 7 []), .reg (nN 4 (.call (vb r761) :: nN 4 (.call (vb r765) :: .b true :: []))), .br false, .reg (nN 3 [])]) (c := ⟨[(1, none), (2, none), (3, none), (6, none), (7, none), (8, none), (9, none)], [none, none, none], []⟩) (e := .normal) (s1 := (nspeculumref07_BestPair_l1_0_h a0 a1 a2 x8 b2_0z b2_1z (w64 (x9 + 1)))) (an (an (an (ti (ti (ti trivial))) (an (decide_eq_true h760) trivial)) (an (an (ti (ti (ti (ti (ti (ti (ti trivial))))))) (an e768 (an (bool_f h769) trivial))) (ti (ti (ti trivial))))) (ti trivial)) (by kernel_rfl)
     exact round_next pm pn hv hq h2
   ·have e770 := (ti (ti (ti (ti (an e763 (ti (an (bool_f h764) (an (bool_f h764) (an (bool_f h764) (an (bool_f h764) (an (bool_f h764) trivial)))))))))))
    have h2 := ih _ _ _ _ h
    obtain ⟨q, hv, hq⟩ := pkR (rd := none) (P := Go.Proofs.Try.prog) (fn := Go.Proofs.Try.f9) (k := 1) (s := (nspeculumref07_BestPair_l1_0_h a0 a1 a2 x8 b2_0z b2_1z x9)) (ans := [.reg (nN 3 []), .br true, .reg (nN 7 []), .reg (nN 4 (.call (vb r761) :: .n :: nS 4 (.b false :: []))), .br false, .reg (nN 3 [])]) (c := ⟨[(1, none), (2, none), (3, none), (6, none), (7, none), (8, none), (9, none)], [none, none, none], []⟩) (e := .normal) (s1 := (nspeculumref07_BestPair_l1_0_h a0 a1 a2 x8 b2_0z b2_1z (w64 (x9 + 1)))) (an (an (an (ti (ti (ti trivial))) (an (decide_eq_true h760) trivial)) (an (an (ti (ti (ti (ti (ti (ti (ti trivial))))))) (an e770 (an rf trivial))) (ti (ti (ti trivial))))) (ti trivial)) (by kernel_rfl)
    exact round_next pm pn hv hq h2
  ·injection h with h; subst h
   exact round_stop (c := ⟨[(1, none), (2, none), (3, none), (6, none), (7, none), (8, none)], [none, none, none], []⟩) (s1 := (nspeculumref07_BestPair_l1_0_e0 a0 a1 a2 x8 (b2_0z, b2_1z))) pm pn (ans := [.reg (nN 3 []), .br false]) (by kernel_rfl) (by intro e; cases e) (an (an (ti (ti (ti trivial))) (an (decide_eq_false h760) trivial)) (ti trivial))
def nspeculumref07_BestPair_l0_0_h (a0 : SFrac) (a1 : Int) (a2 : Int) (b2_0 : Int) (b2_1 : Int) (x8 : Int) : VS := ⟨mkA [(1, vi a1), (2, vi a2), (3, VV.pt 0 0), (6, VV.pt 1 0), (7, VV.pt 2 0), (8, vi x8)], [some ⟨true, 1, c_SFrac a0⟩, some ⟨true, 1, [vi 0, vi 0]⟩, some ⟨true, 1, [vi b2_0, vi b2_1]⟩], .nil⟩
def nspeculumref07_BestPair_l0_0_e0 (a0 : SFrac) (a1 : Int) (a2 : Int) (r : Int × Int) : VS := ⟨mkA [(6, VV.pt 1 0), (7, VV.pt 2 0)], [some ⟨true, 1, c_SFrac a0⟩, some ⟨true, 1, [vi 0, vi 0]⟩, some ⟨true, 1, [vi r.1, vi r.2]⟩], .nil⟩
def nspeculumref07_BestPair_l0_0 (k : Nat) (a0 : SFrac) (a1 : Int) (a2 : Int) : Nat → Int → Int → Int → Option (Int × Int)
  | 0, _, _, _ => none
  | fuel + 1, b2_0, b2_1, x8 => if x8 ≤ (w64 (2 * a2)) then ((nspeculumref07_BestPair_l1_0 k a0 a1 a2 x8 k b2_0 b2_1 a1).bind fun r772 => (nspeculumref07_BestPair_l0_0 k a0 a1 a2 fuel r772.1 r772.2 (w64 (x8 + 1)))) else (some (b2_0, b2_1))
theorem nspeculumref07_BestPair_l0_0_ok (k : Nat) (a0 : SFrac) (a1 : Int) (a2 : Int) : ∀ (fuel : Nat) (b2_0 : Int) (b2_1 : Int) (x8 : Int) (r : Int × Int), nspeculumref07_BestPair_l0_0 k a0 a1 a2 fuel b2_0 b2_1 x8 = some r → (VLoop none Go.Proofs.Try.prog (szF Go.Proofs.Try.f9) (bodyOf Go.Proofs.Try.f9 0) (nspeculumref07_BestPair_l0_0_h a0 a1 a2 b2_0 b2_1 x8) (.exit 0) (nspeculumref07_BestPair_l0_0_e0 a0 a1 a2 r)) := by
 intro fuel
 induction fuel with
 | zero => intro b2_0 b2_1 x8 r h; rw [nspeculumref07_BestPair_l0_0.eq_1] at h; cases h
 | succ fuel ih =>
  intro b2_0 b2_1 x8 r h
  rw [nspeculumref07_BestPair_l0_0.eq_2] at h
  rcases ifs h with ⟨h737, h⟩ | ⟨h737, h⟩
  ·obtain ⟨r772, h771, h⟩ := bs h
   have hph771 := nspeculumref07_BestPair_l1_0_ok k a0 a1 a2 x8 _ _ _ _ _ h771
   have e773 := (an (ti trivial) (VRun.loop hph771))
   have h2 := ih _ _ _ _ h
   obtain ⟨q, hv, hq⟩ := pkR (rd := none) (P := Go.Proofs.Try.prog) (fn := Go.Proofs.Try.f9) (k := 0) (s := (nspeculumref07_BestPair_l0_0_h a0 a1 a2 b2_0 b2_1 x8)) (ans := [.reg (nN 4 []), .br true, .reg (.n :: .n :: []), .sub ⟨[(1, none), (2, none), (3, none), (6, none), (7, none), (8, none), (9, none)], [none, none, none], []⟩ (.exit 2) (nspeculumref07_BestPair_l1_0_e0 a0 a1 a2 x8 r772), .reg (nN 3 [])]) (c := ⟨[(1, none), (2, none), (3, none), (6, none), (7, none), (8, none)], [none, none, none], []⟩) (e := .normal) (s1 := (nspeculumref07_BestPair_l0_0_h a0 a1 a2 r772.1 r772.2 (w64 (x8 + 1)))) (an (an (an (ti (ti (ti (ti trivial)))) (an (decide_eq_true h737) trivial)) (an (an (ti (ti trivial)) e773) (ti (ti (ti trivial))))) (ti trivial)) (by kernel_rfl)
   exact round_next pm pn hv hq h2
  ·injection h with h; subst h
   exact round_stop (c := ⟨[(6, none), (7, none)], [none, none, none], []⟩) (s1 := (nspeculumref07_BestPair_l0_0_e0 a0 a1 a2 (b2_0, b2_1))) pm pn (ans := [.reg (nN 4 []), .br false]) (by kernel_rfl) (by intro e; cases e) (an (an (ti (ti (ti (ti trivial)))) (an (decide_eq_false h737) trivial)) (ti trivial))
theorem eqP1_16 (z0 : Int × Int) : VV.ag [vi z0.1, vi z0.2] = VV.ag (c_SGearPair (⟨z0.1, z0.2⟩ : SGearPair)) := by first | rfl | (simp only [unfr_vi, List.map_cons, List.map_nil, un_i, unfr_c_SGearPair]; done) | (simp only [unfr_vi, List.map_cons, List.map_nil, un_i, unfr_c_SGearPair]; rfl) | (simp only [unfr_vi, List.map_cons, List.map_nil, un_i, unfr_c_SGearPair, c_SGearPair, List.length_cons, List.length_nil, List.length_append]; done)
def nspeculumref07_BestPair (k : Nat) (a0 : SFrac) (a1 : Int) (a2 : Int) : Option SGearPair :=
  (nspeculumref07_BestPair_l0_0 k a0 a1 a2 k a1 a1 (w64 (2 * a1))).bind fun r775 => (some (⟨r775.1, r775.2⟩ : SGearPair))
theorem nspeculumref07_BestPair_ok (k : Nat) (a0 : SFrac) (a1 : Int) (a2 : Int) (r : SGearPair) (h : nspeculumref07_BestPair k a0 a1 a2 = some r) : VC Go.Proofs.Try.prog 9 [VV.ag (c_SFrac a0), vi a1, vi a2] (VV.ag (c_SGearPair r)) := by
 unfold nspeculumref07_BestPair at h
 obtain ⟨r775, h774, h⟩ := bs h
 have hph774 := nspeculumref07_BestPair_l0_0_ok k a0 a1 a2 _ _ _ _ _ h774
 have e776 := (an (ti trivial) (VRun.loop hph774))
 injection h with h; subst h
 exact fun_ok pm pn Go.Proofs.Try.func9 (r0 := VV.ag [vi r775.1, vi r775.2]) (ans := [.reg (.n :: .n :: []), .reg (nN 5 []), .reg (nN 3 []), .sub ⟨[(1, none), (2, none), (3, none), (6, none), (7, none), (8, none)], [none, none, none], []⟩ (.exit 0) (nspeculumref07_BestPair_l0_0_e0 a0 a1 a2 r775), .reg (.n :: .n :: [])]) (fr := true) (by kernel_rfl) (an (an (ti (ti trivial)) (an (ti (ti (ti (ti (ti trivial))))) (an (an (ti (ti (ti trivial))) e776) (an (ti (ti trivial)) trivial)))) (an (ti (ti (ti trivial))) trivial)) (Wv.of_eq (eqP1_16 r775))
def nspeculumbase_Gcd_l0_0_h  (x0 : Int) (x1 : Int) : VS := ⟨mkA [(0, vi x0), (1, vi x1)], [], .nil⟩
def nspeculumbase_Gcd_l0_0_e0  (r : Int) : VS := ⟨mkA [(0, vi r)], [], .nil⟩
def nspeculumbase_Gcd_l0_0 (k : Nat)  : Nat → Int → Int → Option (Int)
  | 0, _, _ => none
  | fuel + 1, x0, x1 => if x1 = 0 then (some x0) else (if x1 ≠ 0 then (nspeculumbase_Gcd_l0_0 k  fuel x1 (x0.tmod x1)) else none)
theorem nspeculumbase_Gcd_l0_0_ok (k : Nat)  : ∀ (fuel : Nat) (x0 : Int) (x1 : Int) (r : Int), nspeculumbase_Gcd_l0_0 k  fuel x0 x1 = some r → (VLoop none Go.Proofs.Try.prog (szF Go.Proofs.Try.f36) (bodyOf Go.Proofs.Try.f36 0) (nspeculumbase_Gcd_l0_0_h  x0 x1) (.exit 0) (nspeculumbase_Gcd_l0_0_e0  r)) := by
 intro fuel
 induction fuel with
 | zero => intro x0 x1 r h; rw [nspeculumbase_Gcd_l0_0.eq_1] at h; cases h
 | succ fuel ih =>
  intro x0 x1 r h
  rw [nspeculumbase_Gcd_l0_0.eq_2] at h
  rcases ifs h with ⟨h813, h⟩ | ⟨h813, h⟩
  ·injection h with h; subst h
   exact round_stop (c := ⟨[(0, none)], [], []⟩) (s1 := (nspeculumbase_Gcd_l0_0_e0  x0)) pm pn (ans := [.reg (.n :: .n :: []), .br false]) (by kernel_rfl) (by intro e; cases e) (an (an (ti (ti trivial)) (an (not_f (decide_eq_true h813)) trivial)) (ti trivial))
  ·obtain ⟨h814, h⟩ := ifn h
   have h2 := ih _ _ _ h
   obtain ⟨q, hv, hq⟩ := pkR (rd := none) (P := Go.Proofs.Try.prog) (fn := Go.Proofs.Try.f36) (k := 0) (s := (nspeculumbase_Gcd_l0_0_h  x0 x1)) (ans := [.reg (.n :: .n :: []), .br true, .reg (nN 6 [])]) (c := ⟨[(0, none), (1, none)], [], []⟩) (e := .normal) (s1 := (nspeculumbase_Gcd_l0_0_h  x1 (x0.tmod x1))) (an (an (an (ti (ti trivial)) (an (not_t (decide_eq_false h813)) trivial)) (ti (ti (ti (an h814 (ti (ti trivial))))))) (ti trivial)) (by kernel_rfl)
   exact round_next pm pn hv hq h2
def nspeculumbase_Gcd (k : Nat) (a0 : Int) (a1 : Int) : Option Int :=
  (nspeculumbase_Gcd_l0_0 k k a0 a1).bind fun r816 => ((nspeculumbase_Abs k r816).bind fun r818 => (some r818))
theorem nspeculumbase_Gcd_ok (k : Nat) (a0 : Int) (a1 : Int) (r : Int) (h : nspeculumbase_Gcd k a0 a1 = some r) : VC Go.Proofs.Try.prog 36 [vi a0, vi a1] (vi r) := by
 unfold nspeculumbase_Gcd at h
 obtain ⟨r816, h815, h⟩ := bs h
 have hph815 := nspeculumbase_Gcd_l0_0_ok k  _ _ _ _ h815
 have e817 := (an (ti trivial) (VRun.loop hph815))
 obtain ⟨r818, h819, h⟩ := bs h
 have e820 := (ti (an (nspeculumbase_Abs_ok k r816 _ h819) (ti trivial)))
 injection h with h; subst h
 exact fun_ok pm pn Go.Proofs.Try.func36 (r0 := vi r818) (ans := [.reg (.n :: []), .sub ⟨[(0, none), (1, none)], [], []⟩ (.exit 0) (nspeculumbase_Gcd_l0_0_e0  r816), .reg (.n :: .call (vi r818) :: .n :: [])]) (fr := true) (by kernel_rfl) (an (an (ti trivial) (an e817 (an e820 trivial))) (ti trivial)) (Wv.refl _)
theorem eqP1_17 (z0 : Int) (z1 : Int) (z2 : Int) : VV.ag [vi (w64 (z0.tdiv (w64 (0 - z1)))), vi (w64 (z2.tdiv (w64 (0 - z1))))] = VV.ag (c_SFrac (⟨w64 (z0.tdiv (w64 (0 - z1))), w64 (z2.tdiv (w64 (0 - z1)))⟩ : SFrac)) := by first | rfl | (simp only [unfr_vi, List.map_cons, List.map_nil, un_i, unfr_c_SFrac]; done) | (simp only [unfr_vi, List.map_cons, List.map_nil, un_i, unfr_c_SFrac]; rfl) | (simp only [unfr_vi, List.map_cons, List.map_nil, un_i, unfr_c_SFrac, c_SFrac, List.length_cons, List.length_nil, List.length_append]; done)
def nspeculumbase_Lowest (k : Nat) (a0 : Int) (a1 : Int) : Option SFrac :=
  (nspeculumbase_Gcd k a0 a1).bind fun r829 => (if a1 < 0 then (if (w64 (0 - r829)) ≠ 0 then (some (⟨w64 (a0.tdiv (w64 (0 - r829))), w64 (a1.tdiv (w64 (0 - r829)))⟩ : SFrac)) else none) else (if r829 ≠ 0 then (some (⟨w64 (a0.tdiv r829), w64 (a1.tdiv r829)⟩ : SFrac)) else none))
theorem nspeculumbase_Lowest_ok (k : Nat) (a0 : Int) (a1 : Int) (r : SFrac) (h : nspeculumbase_Lowest k a0 a1 = some r) : VC Go.Proofs.Try.prog 27 [vi a0, vi a1] (VV.ag (c_SFrac r)) := by
 unfold nspeculumbase_Lowest at h
 obtain ⟨r829, h830, h⟩ := bs h
 have e831 := (ti (ti (an (nspeculumbase_Gcd_ok k a0 a1 _ h830) (ti trivial))))
 rcases ifs h with ⟨h832, h⟩ | ⟨h832, h⟩
 ·obtain ⟨h833, h⟩ := ifn h
  have e834 := (ti (ti (an h833 (ti (ti (an h833 (ti (ti trivial))))))))
  injection h with h; subst h
  exact fun_ok pm pn Go.Proofs.Try.func27 (r0 := VV.ag [vi (w64 (a0.tdiv (w64 (0 - r829)))), vi (w64 (a1.tdiv (w64 (0 - r829))))]) (ans := [.reg (.n :: []), .reg (.n :: .n :: .call (vi r829) :: .n :: []), .reg (.n :: .n :: []), .br true, .reg (nN 3 []), .reg (nN 8 [])]) (fr := true) (by kernel_rfl) (an (an (ti trivial) (an e831 (an (an (ti (ti trivial)) (an (decide_eq_true h832) (ti (ti (ti trivial))))) (an e834 trivial)))) (an (ti (ti (ti trivial))) trivial)) (Wv.of_eq (eqP1_17 a0 r829 a1))
 ·obtain ⟨h835, h⟩ := ifn h
  have e836 := (ti (ti (an h835 (ti (ti (an h835 (ti (ti trivial))))))))
  injection h with h; subst h
  exact fun_ok pm pn Go.Proofs.Try.func27 (r0 := VV.ag [vi (w64 (a0.tdiv r829)), vi (w64 (a1.tdiv r829))]) (ans := [.reg (.n :: []), .reg (.n :: .n :: .call (vi r829) :: .n :: []), .reg (.n :: .n :: []), .br false, .reg (nN 8 [])]) (fr := true) (by kernel_rfl) (an (an (ti trivial) (an e831 (an (an (ti (ti trivial)) (an (decide_eq_false h832) trivial)) (an e836 trivial)))) (an (ti (ti (ti trivial))) trivial)) (Wv.of_eq (eqP1_8 a0 r829 a1))
def nspeculumref01_CheckFrac (k : Nat) (a0 : SFrac) : Option Int :=
  if a0.Den < 1 then (some 3) else ((nspeculumbase_Gcd k a0.Num a0.Den).bind fun r856 => (if r856 = 1 then (if a0.Num < (-1000000000) then (some 2) else (if 1000000000 < a0.Num then (some 2) else (if 1000000000 < a0.Den then (some 2) else (some 0)))) else (some 3)))
theorem nspeculumref01_CheckFrac_ok (k : Nat) (a0 : SFrac) (r : Int) (h : nspeculumref01_CheckFrac k a0 = some r) : VC Go.Proofs.Try.prog 20 [VV.ag (c_SFrac a0)] (vi r) := by
 unfold nspeculumref01_CheckFrac at h
 rcases ifs h with ⟨h854, h⟩ | ⟨h854, h⟩
 ·have e855 := (ti (ti (ti (ti (an (decide_eq_true h854) (an (decide_eq_true h854) (an (decide_eq_true h854) (an (decide_eq_true h854) (an (decide_eq_true h854) (an (decide_eq_true h854) (an (decide_eq_true h854) trivial)))))))))))
  injection h with h; subst h
  exact fun_ok pm pn Go.Proofs.Try.func20 (r0 := vi 3) (ans := [.reg (.n :: .n :: []), .reg (nN 4 (nS 6 (.b true :: []))), .br true, .reg (.n :: [])]) (fr := true) (by kernel_rfl) (an (an (ti (ti trivial)) (an e855 (an rt (an (ti trivial) trivial)))) (ti trivial)) (Wv.refl _)
 ·obtain ⟨r856, h857, h⟩ := bs h
  have e858 := (an (decide_eq_false h854) (nspeculumbase_Gcd_ok k a0.Num a0.Den _ h857))
  have e859 := (ti (ti (ti (ti (an (an (decide_eq_false h854) trivial) (an (an (decide_eq_false h854) trivial) (an (an (decide_eq_false h854) trivial) (an (an (decide_eq_false h854) trivial) (an e858 (an (an (decide_eq_false h854) trivial) (an (decide_eq_false h854) trivial)))))))))))
  rcases ifs h with ⟨h860, h⟩ | ⟨h860, h⟩
  ·rcases ifs h with ⟨h861, h⟩ | ⟨h861, h⟩
   ·have e862 := (ti (ti (ti (ti (an (decide_eq_true h861) (an (decide_eq_true h861) (an (decide_eq_true h861) (an (decide_eq_true h861) (ti (an rt (an rt (an rt (an rt trivial)))))))))))))
    injection h with h; subst h
    exact fun_ok pm pn Go.Proofs.Try.func20 (r0 := vi 2) (ans := [.reg (.n :: .n :: []), .reg (nN 8 (.call (vi r856) :: .n :: .b false :: [])), .br false, .reg (nN 4 (nS 3 (.b true :: .n :: nS 3 (.b true :: [])))), .br true, .reg (.n :: [])]) (fr := true) (by kernel_rfl) (an (an (ti (ti trivial)) (an (an e859 (an (not_f (decide_eq_true h860)) trivial)) (an e862 (an rt (an (ti trivial) trivial))))) (ti trivial)) (Wv.refl _)
   ·rcases ifs h with ⟨h863, h⟩ | ⟨h863, h⟩
    ·have e864 := (ti (ti (ti (ti (an (an (decide_eq_false h861) trivial) (an (an (decide_eq_false h861) trivial) (an (an (decide_eq_false h861) trivial) (an (decide_eq_false h861) (ti (an (decide_eq_true h863) (an (decide_eq_true h863) (an (decide_eq_true h863) (an (decide_eq_true h863) trivial)))))))))))))
     injection h with h; subst h
     exact fun_ok pm pn Go.Proofs.Try.func20 (r0 := vi 2) (ans := [.reg (.n :: .n :: []), .reg (nN 8 (.call (vi r856) :: .n :: .b false :: [])), .br false, .reg (nN 7 (.b false :: .n :: nS 3 (.b true :: []))), .br true, .reg (.n :: [])]) (fr := true) (by kernel_rfl) (an (an (ti (ti trivial)) (an (an e859 (an (not_f (decide_eq_true h860)) trivial)) (an e864 (an rt (an (ti trivial) trivial))))) (ti trivial)) (Wv.refl _)
    ·have e865 := (ti (ti (ti (ti (an (an (decide_eq_false h861) trivial) (an (an (decide_eq_false h861) trivial) (an (an (decide_eq_false h861) trivial) (an (decide_eq_false h861) (ti (an (an (decide_eq_false h863) trivial) (an (an (decide_eq_false h863) trivial) (an (an (decide_eq_false h863) trivial) (an (decide_eq_false h863) trivial)))))))))))))
     rcases ifs h with ⟨h866, h⟩ | ⟨h866, h⟩
     ·injection h with h; subst h
      exact fun_ok pm pn Go.Proofs.Try.func20 (r0 := vi 2) (ans := [.reg (.n :: .n :: []), .reg (nN 8 (.call (vi r856) :: .n :: .b false :: [])), .br false, .reg (nN 7 (.b false :: nN 4 (.b false :: []))), .br true, .reg (.n :: [])]) (fr := true) (by kernel_rfl) (an (an (ti (ti trivial)) (an (an e859 (an (not_f (decide_eq_true h860)) trivial)) (an e865 (an (decide_eq_true h866) (an (ti trivial) trivial))))) (ti trivial)) (Wv.refl _)
     ·injection h with h; subst h
      exact fun_ok pm pn Go.Proofs.Try.func20 (r0 := vi 0) (ans := [.reg (.n :: .n :: []), .reg (nN 8 (.call (vi r856) :: .n :: .b false :: [])), .br false, .reg (nN 7 (.b false :: nN 4 (.b false :: []))), .br false, .reg (.n :: [])]) (fr := true) (by kernel_rfl) (an (an (ti (ti trivial)) (an (an e859 (an (not_f (decide_eq_true h860)) trivial)) (an (an e865 (an (decide_eq_false h866) trivial)) (an (ti trivial) trivial)))) (ti trivial)) (Wv.refl _)
  ·injection h with h; subst h
   exact fun_ok pm pn Go.Proofs.Try.func20 (r0 := vi 3) (ans := [.reg (.n :: .n :: []), .reg (nN 8 (.call (vi r856) :: .n :: .b false :: [])), .br true, .reg (.n :: [])]) (fr := true) (by kernel_rfl) (an (an (ti (ti trivial)) (an e859 (an (not_t (decide_eq_false h860)) (an (ti trivial) trivial)))) (ti trivial)) (Wv.refl _)
theorem eqP1_18  : VV.tu [VV.ag [vi 0, vi 0], vi 22] = VV.tu [VV.ag (c_SFrac (⟨0, 0⟩ : SFrac)), vi 22] := by first | rfl | (simp only [unfr_vi, List.map_cons, List.map_nil, un_i, unfr_c_SFrac]; done) | (simp only [unfr_vi, List.map_cons, List.map_nil, un_i, unfr_c_SFrac]; rfl) | (simp only [unfr_vi, List.map_cons, List.map_nil, un_i, unfr_c_SFrac, c_SFrac, List.length_cons, List.length_nil, List.length_append]; done)
def nspeculumref07_CheckBest (k : Nat) (a0 : SFrac) (a1 : Int) (a2 : Int) (a3 : SGearPair) : Option (SFrac × Int) :=
  (nspeculumbase_Within k a3.Driver a1 a2).bind fun r872 => (if r872 = true then ((nspeculumbase_Within k a3.Driven a1 a2).bind fun r876 => (if r876 = true then ((nspeculumref07_BestPair k a0 a1 a2).bind fun r881 => ((nspeculumref07_Nearer k a0 r881 a3).bind fun r884 => (if r884 = true then (some ((⟨0, 0⟩ : SFrac), 22)) else ((nspeculumref07_off k a0 a3).bind fun r889 => ((nspeculumbase_Lowest k r889.1 (w64 (r889.2 * a0.Den))).bind fun r892 => ((nspeculumref01_CheckFrac k r892).bind fun r896 => (if r896 = 0 then (some (r892, 0)) else (some ((⟨0, 0⟩ : SFrac), 8))))))))) else (some ((⟨0, 0⟩ : SFrac), 2)))) else (some ((⟨0, 0⟩ : SFrac), 2)))
theorem nspeculumref07_CheckBest_ok (k : Nat) (a0 : SFrac) (a1 : Int) (a2 : Int) (a3 : SGearPair) (r : (SFrac × Int)) (h : nspeculumref07_CheckBest k a0 a1 a2 a3 = some r) : VC Go.Proofs.Try.prog 12 [VV.ag (c_SFrac a0), vi a1, vi a2, VV.ag (c_SGearPair a3)] (VV.tu [VV.ag (c_SFrac r.1), vi r.2]) := by
 unfold nspeculumref07_CheckBest at h
 obtain ⟨r872, h873, h⟩ := bs h
 have e874 := (nspeculumbase_Within_ok k a3.Driver a1 a2 _ h873)
 rcases ifs h with ⟨h875, h⟩ | ⟨h875, h⟩
 ·obtain ⟨r876, h877, h⟩ := bs h
  have e878 := (an (not_f h875) (nspeculumbase_Within_ok k a3.Driven a1 a2 _ h877))
  have e879 := (ti (ti (ti (ti (an e874 (ti (ti (an (an (not_f h875) trivial) (an (an (not_f h875) trivial) (an (an (not_f h875) trivial) (an (an (not_f h875) trivial) (an e878 (an (an (not_f h875) trivial) (an (not_f h875) trivial))))))))))))))
  rcases ifs h with ⟨h880, h⟩ | ⟨h880, h⟩
  ·obtain ⟨r881, h882, h⟩ := bs h
   have e883 := (nspeculumref07_BestPair_ok k a0 a1 a2 _ h882)
   obtain ⟨r884, h885, h⟩ := bs h
   have e886 := (nspeculumref07_Nearer_ok k a0 r881 a3 _ h885)
   have e887 := (ti (ti (ti (ti (an e883 (ti (an e886 trivial)))))))
   rcases ifs h with ⟨h888, h⟩ | ⟨h888, h⟩
   ·injection h with h; subst h
    exact fun_ok pm pn Go.Proofs.Try.func12 (r0 := VV.tu [VV.ag [vi 0, vi 0], vi 22]) (ans := [.reg (nN 4 []), .reg (nN 4 (.call (vb r872) :: nN 6 (.call (vb r876) :: .n :: .b false :: []))), .br false, .reg (nN 4 (.call (VV.ag (c_SGearPair r881)) :: .n :: .call (vb r884) :: [])), .br true, .reg (nN 3 [])]) (fr := true) (by kernel_rfl) (an (an (ti (ti (ti (ti trivial)))) (an (an e879 (an (not_f h880) trivial)) (an e887 (an h888 (an (ti (ti (ti trivial))) trivial))))) (an (ti (ti (ti trivial))) (ti trivial))) (Wv.of_eq eqP1_18)
   ·obtain ⟨r889, h890, h⟩ := bs h
    have e891 := (ti (ti (an (nspeculumref07_off_ok k a0 a3 _ h890) (ti (ti (ti (ti (ti trivial))))))))
    obtain ⟨r892, h893, h⟩ := bs h
    have e894 := (nspeculumbase_Lowest_ok k r889.1 (w64 (r889.2 * a0.Den)) _ h893)
    have e895 := (ti (ti (ti (ti (ti (an e894 (ti (ti trivial))))))))
    obtain ⟨r896, h897, h⟩ := bs h
    have e898 := (nspeculumref01_CheckFrac_ok k r892 _ h897)
    rcases ifs h with ⟨h899, h⟩ | ⟨h899, h⟩
    ·injection h with h; subst h
     exact fun_ok pm pn Go.Proofs.Try.func12 (r0 := VV.tu [VV.ag (c_SFrac r892), vi 0]) (ans := [.reg (nN 4 []), .reg (nN 4 (.call (vb r872) :: nN 6 (.call (vb r876) :: .n :: .b false :: []))), .br false, .reg (nN 4 (.call (VV.ag (c_SGearPair r881)) :: .n :: .call (vb r884) :: [])), .br false, .reg (.n :: .n :: .call (VV.tu [vi r889.1, vi r889.2]) :: nN 5 []), .reg (nN 5 (.call (VV.ag (c_SFrac r892)) :: .n :: .n :: [])), .reg (.n :: .call (vi r896) :: .n :: []), .br false, .reg (nN 3 [])]) (fr := true) (by kernel_rfl) (an (an (ti (ti (ti (ti trivial)))) (an (an e879 (an (not_f h880) trivial)) (an (an e887 (an (bool_f h888) trivial)) (an e891 (an e895 (an (an (ti (an e898 (ti trivial))) (an (not_f (decide_eq_true h899)) trivial)) (an (ti (ti (ti trivial))) trivial))))))) (an (ti (ti (ti trivial))) (ti trivial))) (Wv.refl _)
    ·injection h with h; subst h
     exact fun_ok pm pn Go.Proofs.Try.func12 (r0 := VV.tu [VV.ag [vi 0, vi 0], vi 8]) (ans := [.reg (nN 4 []), .reg (nN 4 (.call (vb r872) :: nN 6 (.call (vb r876) :: .n :: .b false :: []))), .br false, .reg (nN 4 (.call (VV.ag (c_SGearPair r881)) :: .n :: .call (vb r884) :: [])), .br false, .reg (.n :: .n :: .call (VV.tu [vi r889.1, vi r889.2]) :: nN 5 []), .reg (nN 5 (.call (VV.ag (c_SFrac r892)) :: .n :: .n :: [])), .reg (.n :: .call (vi r896) :: .n :: []), .br true, .reg (nN 3 [])]) (fr := true) (by kernel_rfl) (an (an (ti (ti (ti (ti trivial)))) (an (an e879 (an (not_f h880) trivial)) (an (an e887 (an (bool_f h888) trivial)) (an e891 (an e895 (an (ti (an e898 (ti trivial))) (an (not_t (decide_eq_false h899)) (an (ti (ti (ti trivial))) trivial)))))))) (an (ti (ti (ti trivial))) (ti trivial))) (Wv.of_eq eqP1_9)
  ·injection h with h; subst h
   exact fun_ok pm pn Go.Proofs.Try.func12 (r0 := VV.tu [VV.ag [vi 0, vi 0], vi 2]) (ans := [.reg (nN 4 []), .reg (nN 4 (.call (vb r872) :: nN 6 (.call (vb r876) :: .n :: .b false :: []))), .br true, .reg (nN 3 [])]) (fr := true) (by kernel_rfl) (an (an (ti (ti (ti (ti trivial)))) (an e879 (an (not_t (bool_f h880)) (an (ti (ti (ti trivial))) trivial)))) (an (ti (ti (ti trivial))) (ti trivial))) (Wv.of_eq eqP1_11)
 ·have e900 := (ti (ti (ti (ti (an e874 (ti (ti (an (not_t (bool_f h875)) (an (not_t (bool_f h875)) (an (not_t (bool_f h875)) (an (not_t (bool_f h875)) (an (not_t (bool_f h875)) (an (not_t (bool_f h875)) (an (not_t (bool_f h875)) trivial))))))))))))))
  injection h with h; subst h
  exact fun_ok pm pn Go.Proofs.Try.func12 (r0 := VV.tu [VV.ag [vi 0, vi 0], vi 2]) (ans := [.reg (nN 4 []), .reg (nN 4 (.call (vb r872) :: .n :: .n :: nS 6 (.b true :: []))), .br true, .reg (nN 3 [])]) (fr := true) (by kernel_rfl) (an (an (ti (ti (ti (ti trivial)))) (an e900 (an rt (an (ti (ti (ti trivial))) trivial)))) (an (ti (ti (ti trivial))) (ti trivial))) (Wv.of_eq eqP1_11)
def nspeculumref07_isTeeth (k : Nat) (a0 : Int) : Option Bool :=
  (nspeculumbase_Within k a0 1 500).bind fun r910 => (some r910)
theorem nspeculumref07_isTeeth_ok (k : Nat) (a0 : Int) (r : Bool) (h : nspeculumref07_isTeeth k a0 = some r) : VC Go.Proofs.Try.prog 21 [vi a0] (vb r) := by
 unfold nspeculumref07_isTeeth at h
 obtain ⟨r910, h911, h⟩ := bs h
 have e912 := (nspeculumbase_Within_ok k a0 1 500 _ h911)
 injection h with h; subst h
 exact fun_ok pm pn Go.Proofs.Try.func21 (r0 := vb r910) (ans := [.reg (.n :: []), .reg (.n :: .call (vb r910) :: .n :: [])]) (fr := true) (by kernel_rfl) (an (an (ti trivial) (an (ti (an e912 (ti trivial))) trivial)) (ti trivial)) (Wv.refl _)
def arP1_5 (z0 : Bool) (z1 : Bool) : List Ans := (nN 5 (.call (vb z0) :: .n :: .b false :: .n :: .n :: .call (vb z1) :: .n :: .b false :: []))
def nspeculumref07_CheckSearch (k : Nat) (a0 : SFrac) (a1 : Int) (a2 : Int) : Option Int :=
  (nspeculumref01_CheckFrac k a0).bind fun r924 => (if r924 = 0 then (if a0.Num ≤ 0 then (some 2) else ((nspeculumref07_isTeeth k a1).bind fun r930 => (if r930 = true then ((nspeculumref07_isTeeth k a2).bind fun r934 => (if r934 = true then (if a2 < a1 then (some 9) else (some 0)) else (some 2))) else (some 2)))) else (some r924))
theorem nspeculumref07_CheckSearch_ok (k : Nat) (a0 : SFrac) (a1 : Int) (a2 : Int) (r : Int) (h : nspeculumref07_CheckSearch k a0 a1 a2 = some r) : VC Go.Proofs.Try.prog 8 [VV.ag (c_SFrac a0), vi a1, vi a2] (vi r) := by
 unfold nspeculumref07_CheckSearch at h
 obtain ⟨r924, h925, h⟩ := bs h
 have e926 := (nspeculumref01_CheckFrac_ok k a0 _ h925)
 rcases ifs h with ⟨h927, h⟩ | ⟨h927, h⟩
 ·rcases ifs h with ⟨h928, h⟩ | ⟨h928, h⟩
  ·have e929 := (ti (ti (ti (ti (an (decide_eq_true h928) (an (decide_eq_true h928) (an (decide_eq_true h928) (an (decide_eq_true h928) (ti (an rt (an rt (an rt (an rt trivial)))))))))))))
   injection h with h; subst h
   exact fun_ok pm pn Go.Proofs.Try.func8 (r0 := vi 2) (ans := [.reg (.n :: .n :: []), .reg (.n :: .call (vi r924) :: .n :: []), .reg (.n :: .n :: []), .br false, .reg (nN 4 (nS 3 (.b true :: .n :: nS 3 (.b true :: [])))), .br true, .reg (.n :: [])]) (fr := true) (by kernel_rfl) (an (an (ti (ti trivial)) (an (an (ti (an e926 (ti trivial))) (an (ti (ti trivial)) (an (not_f (decide_eq_true h927)) trivial))) (an e929 (an rt (an (ti trivial) trivial))))) (ti trivial)) (Wv.refl _)
  ·obtain ⟨r930, h931, h⟩ := bs h
   have e932 := (an (decide_eq_false h928) (nspeculumref07_isTeeth_ok k a1 _ h931))
   rcases ifs h with ⟨h933, h⟩ | ⟨h933, h⟩
   ·obtain ⟨r934, h935, h⟩ := bs h
    have e936 := (an (not_f h933) (nspeculumref07_isTeeth_ok k a2 _ h935))
    have e937 := (ti (ti (ti (ti (an (an (decide_eq_false h928) trivial) (an e932 (an (an (decide_eq_false h928) trivial) (an (decide_eq_false h928) (ti (an (an (not_f h933) trivial) (an e936 (an (an (not_f h933) trivial) (an (not_f h933) trivial)))))))))))))
    rcases ifs h with ⟨h938, h⟩ | ⟨h938, h⟩
    ·rcases ifs h with ⟨h939, h⟩ | ⟨h939, h⟩
     ·injection h with h; subst h
      exact fun_ok pm pn Go.Proofs.Try.func8 (r0 := vi 9) (ans := [.reg (.n :: .n :: []), .reg (.n :: .call (vi r924) :: .n :: []), .reg (.n :: .n :: []), .br false, .reg (arP1_5 r930 r934), .br false, .reg (nN 3 []), .br true, .reg (.n :: [])]) (fr := true) (by kernel_rfl) (an (an (ti (ti trivial)) (an (an (ti (an e926 (ti trivial))) (an (ti (ti trivial)) (an (not_f (decide_eq_true h927)) trivial))) (an (an e937 (an (not_f h938) trivial)) (an (ti (ti (ti trivial))) (an (decide_eq_true h939) (an (ti trivial) trivial)))))) (ti trivial)) (Wv.refl _)
     ·injection h with h; subst h
      exact fun_ok pm pn Go.Proofs.Try.func8 (r0 := vi 0) (ans := [.reg (.n :: .n :: []), .reg (.n :: .call (vi r924) :: .n :: []), .reg (.n :: .n :: []), .br false, .reg (arP1_5 r930 r934), .br false, .reg (nN 3 []), .br false, .reg (.n :: [])]) (fr := true) (by kernel_rfl) (an (an (ti (ti trivial)) (an (an (ti (an e926 (ti trivial))) (an (ti (ti trivial)) (an (not_f (decide_eq_true h927)) trivial))) (an (an e937 (an (not_f h938) trivial)) (an (an (ti (ti (ti trivial))) (an (decide_eq_false h939) trivial)) (an (ti trivial) trivial))))) (ti trivial)) (Wv.refl _)
    ·injection h with h; subst h
     exact fun_ok pm pn Go.Proofs.Try.func8 (r0 := vi 2) (ans := [.reg (.n :: .n :: []), .reg (.n :: .call (vi r924) :: .n :: []), .reg (.n :: .n :: []), .br false, .reg (arP1_5 r930 r934), .br true, .reg (.n :: [])]) (fr := true) (by kernel_rfl) (an (an (ti (ti trivial)) (an (an (ti (an e926 (ti trivial))) (an (ti (ti trivial)) (an (not_f (decide_eq_true h927)) trivial))) (an e937 (an (not_t (bool_f h938)) (an (ti trivial) trivial))))) (ti trivial)) (Wv.refl _)
   ·have e940 := (ti (ti (ti (ti (an (an (decide_eq_false h928) trivial) (an e932 (an (an (decide_eq_false h928) trivial) (an (decide_eq_false h928) (ti (an (not_t (bool_f h933)) (an (not_t (bool_f h933)) (an (not_t (bool_f h933)) (an (not_t (bool_f h933)) trivial)))))))))))))
    injection h with h; subst h
    exact fun_ok pm pn Go.Proofs.Try.func8 (r0 := vi 2) (ans := [.reg (.n :: .n :: []), .reg (.n :: .call (vi r924) :: .n :: []), .reg (.n :: .n :: []), .br false, .reg (nN 5 (.call (vb r930) :: .n :: .b false :: .n :: nS 3 (.b true :: []))), .br true, .reg (.n :: [])]) (fr := true) (by kernel_rfl) (an (an (ti (ti trivial)) (an (an (ti (an e926 (ti trivial))) (an (ti (ti trivial)) (an (not_f (decide_eq_true h927)) trivial))) (an e940 (an rt (an (ti trivial) trivial))))) (ti trivial)) (Wv.refl _)
 ·injection h with h; subst h
  exact fun_ok pm pn Go.Proofs.Try.func8 (r0 := vi r924) (ans := [.reg (.n :: .n :: []), .reg (.n :: .call (vi r924) :: .n :: []), .reg (.n :: .n :: []), .br true, .reg (.n :: .n :: [])]) (fr := true) (by kernel_rfl) (an (an (ti (ti trivial)) (an (ti (an e926 (ti trivial))) (an (ti (ti trivial)) (an (not_t (decide_eq_false h927)) (an (ti (ti trivial)) trivial))))) (ti trivial)) (Wv.refl _)
end Go.Proofs.Ytgicjogbpmpjeaa.Vg

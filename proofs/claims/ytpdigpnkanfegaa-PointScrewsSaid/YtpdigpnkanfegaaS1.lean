/- Written by a program out of the program: what Go functions do, as plain functions, and their contracts. -/
import Derived.Test.YtpdigpnkanfegaaWa
namespace Go.Proofs.Ytpdigpnkanfegaa.Vg
set_option maxRecDepth 100000
set_option maxHeartbeats 4000000
set_option linter.unusedVariables false
set_option linter.unusedSimpArgs false
open Go Go.Proofs.Ytpdigpnkanfegaa.Ev Go.Proofs.Ytpdigpnkanfegaa.Vv
structure A23 where
  e0 : Int
  e1 : Int
  deriving Inhabited
def c_A23 (x : A23) : List VV := [vi x.e0, vi x.e1]
theorem len_c_A23 (x : A23) : (c_A23 x).length = 2 := rfl
theorem still_c_A23 (xs : List A23) : (xs.flatMap c_A23).all VV.still = true := all_flat (fun _ => rfl) xs
theorem isC_c_A23 (xs : List A23) : (xs.flatMap c_A23).all VV.isC = true := all_flat (fun _ => rfl) xs
theorem new0_c_A23 (xs : List A23) : (xs.flatMap c_A23).all new0 = true := all_flat (fun _ => rfl) xs
theorem unfr_c_A23 (xs : List A23) : (xs.flatMap c_A23).map unfr = xs.flatMap c_A23 := unfr_flat (fun _ => rfl) xs
structure SFrac where
  Num : Int
  Den : Int
  deriving Inhabited
def c_SFrac (x : SFrac) : List VV := [vi x.Num, vi x.Den]
theorem len_c_SFrac (x : SFrac) : (c_SFrac x).length = 2 := rfl
theorem still_c_SFrac (xs : List SFrac) : (xs.flatMap c_SFrac).all VV.still = true := all_flat (fun _ => rfl) xs
theorem isC_c_SFrac (xs : List SFrac) : (xs.flatMap c_SFrac).all VV.isC = true := all_flat (fun _ => rfl) xs
theorem new0_c_SFrac (xs : List SFrac) : (xs.flatMap c_SFrac).all new0 = true := all_flat (fun _ => rfl) xs
theorem unfr_c_SFrac (xs : List SFrac) : (xs.flatMap c_SFrac).map unfr = xs.flatMap c_SFrac := unfr_flat (fun _ => rfl) xs
structure A27 where
  e0 : SFrac
  e1 : SFrac
  deriving Inhabited
def c_A27 (x : A27) : List VV := [vi x.e0.Num, vi x.e0.Den, vi x.e1.Num, vi x.e1.Den]
theorem len_c_A27 (x : A27) : (c_A27 x).length = 4 := rfl
theorem still_c_A27 (xs : List A27) : (xs.flatMap c_A27).all VV.still = true := all_flat (fun _ => rfl) xs
theorem isC_c_A27 (xs : List A27) : (xs.flatMap c_A27).all VV.isC = true := all_flat (fun _ => rfl) xs
theorem new0_c_A27 (xs : List A27) : (xs.flatMap c_A27).all new0 = true := all_flat (fun _ => rfl) xs
theorem unfr_c_A27 (xs : List A27) : (xs.flatMap c_A27).map unfr = xs.flatMap c_A27 := unfr_flat (fun _ => rfl) xs
theorem ag3 : isAggT Go.Proofs.Try.prog 3 = some false := by kernel_rfl
theorem ag23 : isAggT Go.Proofs.Try.prog 23 = some true := by kernel_rfl
theorem sz23 : szOf Go.Proofs.Try.prog 23 = some 2 := by kernel_rfl
theorem eqok27 : EqOK Go.Proofs.Try.prog 27 [some (.i .i64), some (.i .i64), some (.i .i64), some (.i .i64)] := eqOK_of (by kernel_rfl) (by kernel_rfl) (eqT_array (len := 2) Go.Proofs.Try.underlying27 (by kernel_rfl) (by kernel_rfl) (eqT_struct Go.Proofs.Try.underlying26 (by kernel_rfl) (by kernel_rfl) (by kernel_rfl) (.cons (by decide +kernel) rfl (eqT_int Go.Proofs.Try.underlying3 (by kernel_rfl) (by kernel_rfl)) (.cons (by decide +kernel) rfl (eqT_int Go.Proofs.Try.underlying3 (by kernel_rfl) (by kernel_rfl)) .nil))))
def nawake (k : Nat) : Option Bool := some true
theorem nawake_ok (k : Nat) (r : Bool) (h : nawake k = some r) : VC Go.Proofs.Try.prog 5 [] (vb r) := by
  injection h with h; subst h
  exact vc_awake
def npoint_areWithin_l0_0_h (a0 : Int) (a1 : Int) (a2 : (List Int)) (x11 : Int) : VS := ⟨mkA [(0, vi a0), (1, vi a1), (9, VV.tr (List.map vi a2) a2.length), (10, vi (a2.length : Int)), (11, vi x11)], [], .nil⟩
def npoint_areWithin_l0_0_e0 (a0 : Int) (a1 : Int) (a2 : (List Int)) (r : Unit) : VS := ⟨mkA [(6, vb false)], [], .nil⟩
def npoint_areWithin_l0_0_e1 (a0 : Int) (a1 : Int) (a2 : (List Int)) (r : Unit) : VS := ⟨mkA [], [], .nil⟩
def npoint_areWithin_l0_0 (k : Nat) (a0 : Int) (a1 : Int) (a2 : (List Int)) : Nat → Int → Option (Sum Unit Unit)
  | 0, _ => none
  | fuel + 1, x11 => if x11 < (a2.length : Int) then (if 0 ≤ x11 ∧ x11 < (a2.length : Int) then (if (a2.getD x11.toNat 0) < a0 then (some (.inl ())) else (if a1 < (a2.getD x11.toNat 0) then (some (.inl ())) else (npoint_areWithin_l0_0 k a0 a1 a2 fuel (w64 (x11 + 1))))) else none) else (some (.inr ()))
theorem npoint_areWithin_l0_0_ok (k : Nat) (a0 : Int) (a1 : Int) (a2 : (List Int)) : ∀ (fuel : Nat) (x11 : Int) (r : Sum Unit Unit), npoint_areWithin_l0_0 k a0 a1 a2 fuel x11 = some r → (match r with | .inl r => VLoop none Go.Proofs.Try.prog (szF Go.Proofs.Try.f27) (bodyOf Go.Proofs.Try.f27 0) (npoint_areWithin_l0_0_h a0 a1 a2 x11) .ret (npoint_areWithin_l0_0_e0 a0 a1 a2 r) | .inr r => VLoop none Go.Proofs.Try.prog (szF Go.Proofs.Try.f27) (bodyOf Go.Proofs.Try.f27 0) (npoint_areWithin_l0_0_h a0 a1 a2 x11) (.exit 0) (npoint_areWithin_l0_0_e1 a0 a1 a2 r)) := by
 intro fuel
 induction fuel with
 | zero => intro x11 r h; rw [npoint_areWithin_l0_0.eq_1] at h; cases h
 | succ fuel ih =>
  intro x11 r h
  rw [npoint_areWithin_l0_0.eq_2] at h
  rcases ifs h with ⟨h151, h⟩ | ⟨h151, h⟩
  ·obtain ⟨h152, h⟩ := ifn h
   have e153 := (show loadL Go.Proofs.Try.prog 3 (x11.toNat * 1) (List.map vi a2) = some (vi (a2.getD x11.toNat 0)) from ld_map ag3 vi a2 0 h152 (by omega))
   rcases ifs h with ⟨h154, h⟩ | ⟨h154, h⟩
   ·have e155 := (ti (ti (ti (ti (an (decide_eq_true h154) (an (decide_eq_true h154) (an (decide_eq_true h154) (an (decide_eq_true h154) trivial))))))))
    injection h with h; subst h
    exact round_stop (c := ⟨[(6, none)], [], []⟩) (s1 := (npoint_areWithin_l0_0_e0 a0 a1 a2 ())) pm pn (ans := [.reg (.n :: []), .br true, .reg (.n :: .v (vi (a2.getD x11.toNat 0)) :: .n :: []), .reg (nN 4 (nS 3 (.b true :: []))), .br true, .reg (.n :: [])]) (by kernel_rfl) (by intro e; cases e) (an (an (ti trivial) (an (an (decide_eq_true h151) trivial) (an (an h152 (an e153 (ti trivial))) (an e155 (an rt (an (ti trivial) trivial)))))) (ti trivial))
   ·have e156 := (ti (ti (ti (ti (an (an (decide_eq_false h154) trivial) (an (an (decide_eq_false h154) trivial) (an (an (decide_eq_false h154) trivial) (an (decide_eq_false h154) trivial))))))))
    rcases ifs h with ⟨h157, h⟩ | ⟨h157, h⟩
    ·injection h with h; subst h
     exact round_stop (c := ⟨[(6, none)], [], []⟩) (s1 := (npoint_areWithin_l0_0_e0 a0 a1 a2 ())) pm pn (ans := [.reg (.n :: []), .br true, .reg (.n :: .v (vi (a2.getD x11.toNat 0)) :: .n :: []), .reg (nN 7 (.b false :: [])), .br true, .reg (.n :: [])]) (by kernel_rfl) (by intro e; cases e) (an (an (ti trivial) (an (an (decide_eq_true h151) trivial) (an (an h152 (an e153 (ti trivial))) (an e156 (an (decide_eq_true h157) (an (ti trivial) trivial)))))) (ti trivial))
    ·have h2 := ih _ _ h
     obtain ⟨q, hv, hq⟩ := pkR (rd := none) (P := Go.Proofs.Try.prog) (fn := Go.Proofs.Try.f27) (k := 0) (s := (npoint_areWithin_l0_0_h a0 a1 a2 x11)) (ans := [.reg (.n :: []), .br true, .reg (.n :: .v (vi (a2.getD x11.toNat 0)) :: .n :: []), .reg (nN 7 (.b false :: [])), .br false, .reg (.n :: .n :: [])]) (c := ⟨[(0, none), (1, none), (9, none), (10, none), (11, none)], [], []⟩) (e := .normal) (s1 := (npoint_areWithin_l0_0_h a0 a1 a2 (w64 (x11 + 1)))) (an (an (ti trivial) (an (an (decide_eq_true h151) trivial) (an (an (an h152 (an e153 (ti trivial))) (an e156 (an (decide_eq_false h157) trivial))) (ti (ti trivial))))) (ti trivial)) (by kernel_rfl)
     cases r with
     | inl r => exact round_next pm pn hv hq h2
     | inr r =>
      exact round_next pm pn hv hq h2
  ·injection h with h; subst h
   exact round_stop (c := ⟨[], [], []⟩) (s1 := (npoint_areWithin_l0_0_e1 a0 a1 a2 ())) pm pn (ans := [.reg (.n :: []), .br false]) (by kernel_rfl) (by intro e; cases e) (an (an (ti trivial) (an (decide_eq_false h151) trivial)) (ti trivial))
def npoint_areWithin (k : Nat) (a0 : Int) (a1 : Int) (a2 : (List Int)) : Option Bool :=
  (npoint_areWithin_l0_0 k a0 a1 a2 k 0).bind fun r159 => (match r159 with | .inl r160 => (some false) | .inr r161 => (some true))
theorem npoint_areWithin_ok (k : Nat) (a0 : Int) (a1 : Int) (a2 : (List Int)) (r : Bool) (h : npoint_areWithin k a0 a1 a2 = some r) : VC Go.Proofs.Try.prog 27 [vi a0, vi a1, VV.tr (List.map vi a2) a2.length] (vb r) := by
 unfold npoint_areWithin at h
 obtain ⟨r159, h158, h⟩ := bs h
 have hph158 := npoint_areWithin_l0_0_ok k a0 a1 a2 _ _ _ h158
 cases r159 with
 | inl r160 =>
  dsimp only at h
  have e162 := (an (ti trivial) (VRun.loop hph158))
  injection h with h; subst h
  exact fun_ok pm pn Go.Proofs.Try.func27 (r0 := vb false) (ans := [.reg (.n :: []), .reg (nN 3 []), .sub ⟨[(0, none), (1, none), (9, none), (10, none), (11, none)], [], []⟩ .ret (npoint_areWithin_l0_0_e0 a0 a1 a2 r160)]) (fr := true) (by kernel_rfl) (an (an (ti trivial) (an (ti (ti (ti trivial))) e162)) (ti trivial)) (Wv.refl _)
 | inr r161 =>
  dsimp only at h
  have e163 := (an (ti trivial) (VRun.loop hph158))
  injection h with h; subst h
  exact fun_ok pm pn Go.Proofs.Try.func27 (r0 := vb true) (ans := [.reg (.n :: []), .reg (nN 3 []), .sub ⟨[(0, none), (1, none), (9, none), (10, none), (11, none)], [], []⟩ (.exit 0) (npoint_areWithin_l0_0_e1 a0 a1 a2 r161), .reg (.n :: [])]) (fr := true) (by kernel_rfl) (an (an (ti trivial) (an (an (ti (ti (ti trivial))) e163) (an (ti trivial) trivial))) (ti trivial)) (Wv.refl _)
def npoint_areSmall (k : Nat) (a0 : Int) (a1 : (List Int)) : Option Bool :=
  (npoint_areWithin k (w64 (0 - a0)) a0 a1).bind fun r167 => (some r167)
theorem npoint_areSmall_ok (k : Nat) (a0 : Int) (a1 : (List Int)) (r : Bool) (h : npoint_areSmall k a0 a1 = some r) : VC Go.Proofs.Try.prog 22 [vi a0, VV.tr (List.map vi a1) a1.length] (vb r) := by
 unfold npoint_areSmall at h
 obtain ⟨r167, h168, h⟩ := bs h
 have e169 := (npoint_areWithin_ok k (w64 (0 - a0)) a0 a1 _ h168)
 injection h with h; subst h
 exact fun_ok pm pn Go.Proofs.Try.func22 (r0 := vb r167) (ans := [.reg (.n :: []), .reg (nN 4 (.call (vb r167) :: .n :: []))]) (fr := true) (by kernel_rfl) (an (an (ti trivial) (an (ti (ti (ti (ti (an e169 (ti trivial)))))) trivial)) (ti trivial)) (Wv.refl _)
theorem eqS1_0 (z0 : (List A23)) : [vi 1000, VV.tr (List.map vi ([(z0.getD ((0 : Int)).toNat default).e0, (z0.getD ((0 : Int)).toNat default).e1] : List Int)) (([(z0.getD ((0 : Int)).toNat default).e0, (z0.getD ((0 : Int)).toNat default).e1] : List Int).length)] = [vi 1000, VV.tr [vi ((z0.getD ((0 : Int)).toNat default).e0), vi ((z0.getD ((0 : Int)).toNat default).e1)] 2] := by first | rfl | (simp only [unfr_vi, List.map_cons, List.map_nil, un_i, un_tr, List.length_map, List.length_cons, List.length_nil]; done) | (simp only [unfr_vi, List.map_cons, List.map_nil, un_i, un_tr, List.length_map, List.length_cons, List.length_nil]; rfl) | (simp only [unfr_vi, List.map_cons, List.map_nil, un_i, un_tr, List.length_map, List.length_cons, List.length_nil, List.length_cons, List.length_nil, List.length_append]; done)
theorem eqS1_1 (z0 : (List A23)) : [vi 1000, VV.tr (List.map vi ([(z0.getD ((1 : Int)).toNat default).e0, (z0.getD ((1 : Int)).toNat default).e1] : List Int)) (([(z0.getD ((1 : Int)).toNat default).e0, (z0.getD ((1 : Int)).toNat default).e1] : List Int).length)] = [vi 1000, VV.tr [vi ((z0.getD ((1 : Int)).toNat default).e0), vi ((z0.getD ((1 : Int)).toNat default).e1)] 2] := by first | rfl | (simp only [unfr_vi, List.map_cons, List.map_nil, un_i, un_tr, List.length_map, List.length_cons, List.length_nil]; done) | (simp only [unfr_vi, List.map_cons, List.map_nil, un_i, un_tr, List.length_map, List.length_cons, List.length_nil]; rfl) | (simp only [unfr_vi, List.map_cons, List.map_nil, un_i, un_tr, List.length_map, List.length_cons, List.length_nil, List.length_cons, List.length_nil, List.length_append]; done)
def npoint_across (k : Nat) (a0 : A23) (a1 : A23) : Option Int :=
  some (w64 ((w64 (a0.e0 * a1.e1)) - (w64 (a0.e1 * a1.e0))))
theorem npoint_across_ok (k : Nat) (a0 : A23) (a1 : A23) (r : Int) (h : npoint_across k a0 a1 = some r) : VC Go.Proofs.Try.prog 23 [VV.ag (c_A23 a0), VV.ag (c_A23 a1)] (vi r) := by
 unfold npoint_across at h
 have e188 := (show (0:Int) ≤ 0 ∧ (0:Int) < ((2 : Nat) : Int) from ⟨by decide, by decide⟩)
 have e189 := (show (0:Int) ≤ 1 ∧ (1:Int) < ((2 : Nat) : Int) from ⟨by decide, by decide⟩)
 have e190 := (show (0:Int) ≤ 1 ∧ (1:Int) < ((2 : Nat) : Int) from ⟨by decide, by decide⟩)
 have e191 := (show (0:Int) ≤ 0 ∧ (0:Int) < ((2 : Nat) : Int) from ⟨by decide, by decide⟩)
 have e192 := (an e188 (ti (an e189 (ti (ti (an e190 (ti (an e191 (ti (ti (ti (ti trivial))))))))))))
 injection h with h; subst h
 exact fun_ok pm pn Go.Proofs.Try.func23 (r0 := vi (w64 ((w64 (a0.e0 * a1.e1)) - (w64 (a0.e1 * a1.e0))))) (ans := [.reg (nN 3 []), .reg (nN 12 [])]) (fr := true) (by kernel_rfl) (an (an (ti (ti (ti trivial))) (an e192 trivial)) (ti trivial)) (Wv.refl _)
def arS1_0 (z0 : (List A23)) (z1 : Bool) (z2 : Bool) : List Ans := (.n :: .n :: .v (VV.tr [vi ((z0.getD ((0 : Int)).toNat default).e0), vi ((z0.getD ((0 : Int)).toNat default).e1)] 2) :: .call (vb z1) :: nN 4 (.v (VV.tr [vi ((z0.getD ((1 : Int)).toNat default).e0), vi ((z0.getD ((1 : Int)).toNat default).e1)] 2) :: .call (vb z2) :: .n :: .b false :: []))
def arS1_1 (z0 : (List A23)) (z1 : Int) : List Ans := (.n :: .n :: .v (VV.ag (c_A23 (z0.getD ((0 : Int)).toNat default))) :: .n :: .n :: .v (VV.ag (c_A23 (z0.getD ((1 : Int)).toNat default))) :: .call (vi z1) :: .n :: [])
def arS1_2 (z0 : (List A23)) (z1 : Bool) : List Ans := (.n :: .n :: .v (VV.tr [vi ((z0.getD ((0 : Int)).toNat default).e0), vi ((z0.getD ((0 : Int)).toNat default).e1)] 2) :: .call (vb z1) :: .n :: .n :: nS 5 (.b true :: []))
def npoint_CheckScrews (k : Nat) (a0 : (List A23)) : Option Int :=
  if (a0.length : Int) = 2 then (if (0 : Int) ≤ 0 ∧ 0 < (a0.length : Int) then ((npoint_areSmall k 1000 ([(a0.getD ((0 : Int)).toNat default).e0, (a0.getD ((0 : Int)).toNat default).e1] : List Int)).bind fun r202 => (if r202 = true then (if (0 : Int) ≤ 1 ∧ 1 < (a0.length : Int) then ((npoint_areSmall k 1000 ([(a0.getD ((1 : Int)).toNat default).e0, (a0.getD ((1 : Int)).toNat default).e1] : List Int)).bind fun r208 => (if r208 = true then ((npoint_across k (a0.getD ((0 : Int)).toNat default) (a0.getD ((1 : Int)).toNat default)).bind fun r215 => (if r215 = 0 then (some 11) else (some 0))) else (some 2))) else none) else (some 2))) else none) else (some 10)
theorem npoint_CheckScrews_ok (k : Nat) (a0 : (List A23)) (r : Int) (h : npoint_CheckScrews k a0 = some r) : VC Go.Proofs.Try.prog 8 [VV.tr (List.flatMap c_A23 a0) a0.length] (vi r) := by
 unfold npoint_CheckScrews at h
 rcases ifs h with ⟨h199, h⟩ | ⟨h199, h⟩
 ·obtain ⟨h200, h⟩ := ifn h
  have e201 := (show (True ∧ True ∧ 0 ≤ 2 ∧ 2 ≤ 2 ∧ (((0 : Int)).toNat * 2) + 2 * 1 ≤ List.length (List.flatMap c_A23 a0)) ∧ VV.tr (List.take ((2 - 0) * 1) (List.drop ((((0 : Int)).toNat * 2) + 0 * 1) (List.flatMap c_A23 a0))) (2 - 0) = VV.tr [vi ((a0.getD ((0 : Int)).toNat default).e0), vi ((a0.getD ((0 : Int)).toNat default).e1)] 2 from ⟨⟨trivial, trivial, Nat.zero_le _, Nat.le_refl 2, (by rw [flat_len len_c_A23]; have := h200; omega)⟩, (by exact (tr_part c_A23 2 0 ((2 - 0) * 1) len_c_A23 (by omega) a0 default h200 (by omega) _).trans rfl)⟩)
  obtain ⟨r202, h203, h⟩ := bs h
  have e204 := (VC.args (npoint_areSmall_ok k 1000 ([(a0.getD ((0 : Int)).toNat default).e0, (a0.getD ((0 : Int)).toNat default).e1] : List Int) _ h203) (eqS1_0 a0))
  rcases ifs h with ⟨h205, h⟩ | ⟨h205, h⟩
  ·obtain ⟨h206, h⟩ := ifn h
   have e207 := (an (not_f h205) (show (True ∧ True ∧ 0 ≤ 2 ∧ 2 ≤ 2 ∧ (((1 : Int)).toNat * 2) + 2 * 1 ≤ List.length (List.flatMap c_A23 a0)) ∧ VV.tr (List.take ((2 - 0) * 1) (List.drop ((((1 : Int)).toNat * 2) + 0 * 1) (List.flatMap c_A23 a0))) (2 - 0) = VV.tr [vi ((a0.getD ((1 : Int)).toNat default).e0), vi ((a0.getD ((1 : Int)).toNat default).e1)] 2 from ⟨⟨trivial, trivial, Nat.zero_le _, Nat.le_refl 2, (by rw [flat_len len_c_A23]; have := h206; omega)⟩, (by exact (tr_part c_A23 2 0 ((2 - 0) * 1) len_c_A23 (by omega) a0 default h206 (by omega) _).trans rfl)⟩))
   obtain ⟨r208, h209, h⟩ := bs h
   have e210 := (an (not_f h205) (VC.args (npoint_areSmall_ok k 1000 ([(a0.getD ((1 : Int)).toNat default).e0, (a0.getD ((1 : Int)).toNat default).e1] : List Int) _ h209) (eqS1_1 a0)))
   have e211 := (ti (an h200 (an e201 (an e204 (ti (ti (an (an (not_f h205) trivial) (an (an (not_f h205) h206) (an e207 (an e210 (an (an (not_f h205) trivial) (an (not_f h205) trivial))))))))))))
   rcases ifs h with ⟨h212, h⟩ | ⟨h212, h⟩
   ·have e213 := (show loadL Go.Proofs.Try.prog 23 (((0 : Int)).toNat * 2) (List.flatMap c_A23 a0) = some (VV.ag (c_A23 (a0.getD ((0 : Int)).toNat default))) from ld_whole ag23 c_A23 2 sz23 len_c_A23 a0 default h200 (by omega))
    have e214 := (show loadL Go.Proofs.Try.prog 23 (((1 : Int)).toNat * 2) (List.flatMap c_A23 a0) = some (VV.ag (c_A23 (a0.getD ((1 : Int)).toNat default))) from ld_whole ag23 c_A23 2 sz23 len_c_A23 a0 default h206 (by omega))
    obtain ⟨r215, h216, h⟩ := bs h
    have e217 := (npoint_across_ok k (a0.getD ((0 : Int)).toNat default) (a0.getD ((1 : Int)).toNat default) _ h216)
    have e218 := (ti (an h200 (an e213 (ti (an h206 (an e214 (an e217 (ti trivial))))))))
    rcases ifs h with ⟨h219, h⟩ | ⟨h219, h⟩
    ·injection h with h; subst h
     exact fun_ok pm pn Go.Proofs.Try.func8 (r0 := vi 11) (ans := [.reg (.n :: []), .reg (nN 3 []), .br false, .reg (arS1_0 a0 r202 r208), .br false, .reg (arS1_1 a0 r215), .br true, .reg (.n :: [])]) (fr := true) (by kernel_rfl) (an (an (ti trivial) (an (an (ti (ti (ti trivial))) (an (not_f (decide_eq_true h199)) trivial)) (an (an e211 (an (not_f h212) trivial)) (an e218 (an (decide_eq_true h219) (an (ti trivial) trivial)))))) (ti trivial)) (Wv.refl _)
    ·injection h with h; subst h
     exact fun_ok pm pn Go.Proofs.Try.func8 (r0 := vi 0) (ans := [.reg (.n :: []), .reg (nN 3 []), .br false, .reg (arS1_0 a0 r202 r208), .br false, .reg (arS1_1 a0 r215), .br false, .reg (.n :: [])]) (fr := true) (by kernel_rfl) (an (an (ti trivial) (an (an (ti (ti (ti trivial))) (an (not_f (decide_eq_true h199)) trivial)) (an (an e211 (an (not_f h212) trivial)) (an (an e218 (an (decide_eq_false h219) trivial)) (an (ti trivial) trivial))))) (ti trivial)) (Wv.refl _)
   ·injection h with h; subst h
    exact fun_ok pm pn Go.Proofs.Try.func8 (r0 := vi 2) (ans := [.reg (.n :: []), .reg (nN 3 []), .br false, .reg (arS1_0 a0 r202 r208), .br true, .reg (.n :: [])]) (fr := true) (by kernel_rfl) (an (an (ti trivial) (an (an (ti (ti (ti trivial))) (an (not_f (decide_eq_true h199)) trivial)) (an e211 (an (not_t (bool_f h212)) (an (ti trivial) trivial))))) (ti trivial)) (Wv.refl _)
  ·have e220 := (ti (an h200 (an e201 (an e204 (ti (ti (an (not_t (bool_f h205)) (an (not_t (bool_f h205)) (an (not_t (bool_f h205)) (an (not_t (bool_f h205)) (an (not_t (bool_f h205)) (an (not_t (bool_f h205)) trivial))))))))))))
   injection h with h; subst h
   exact fun_ok pm pn Go.Proofs.Try.func8 (r0 := vi 2) (ans := [.reg (.n :: []), .reg (nN 3 []), .br false, .reg (arS1_2 a0 r202), .br true, .reg (.n :: [])]) (fr := true) (by kernel_rfl) (an (an (ti trivial) (an (an (ti (ti (ti trivial))) (an (not_f (decide_eq_true h199)) trivial)) (an e220 (an rt (an (ti trivial) trivial))))) (ti trivial)) (Wv.refl _)
 ·injection h with h; subst h
  exact fun_ok pm pn Go.Proofs.Try.func8 (r0 := vi 10) (ans := [.reg (.n :: []), .reg (nN 3 []), .br true, .reg (.n :: [])]) (fr := true) (by kernel_rfl) (an (an (ti trivial) (an (ti (ti (ti trivial))) (an (not_t (decide_eq_false h199)) (an (ti trivial) trivial)))) (ti trivial)) (Wv.refl _)
theorem eqS1_2 (z0 : A23) : [vi 100000, VV.tr (List.map vi ([z0.e0, z0.e1] : List Int)) (([z0.e0, z0.e1] : List Int).length)] = [vi 100000, VV.tr (List.drop 0 (List.map unfr [vi z0.e0, vi z0.e1])) 2] := by first | rfl | (simp only [drop0, unfr_vi, List.map_cons, List.map_nil, un_i, un_tr, List.length_map, List.length_cons, List.length_nil]; done) | (simp only [drop0, unfr_vi, List.map_cons, List.map_nil, un_i, un_tr, List.length_map, List.length_cons, List.length_nil]; rfl) | (simp only [drop0, unfr_vi, List.map_cons, List.map_nil, un_i, un_tr, List.length_map, List.length_cons, List.length_nil, List.length_cons, List.length_nil, List.length_append]; done)
def npoint_divisor_l1_0_h (a0 : (List Int)) (x8 : Int) (x3z : Int) (x5 : Int) : VS := ⟨mkA [(3, vi x3z), (5, vi x5), (6, VV.tr (List.map vi a0) a0.length), (7, vi (a0.length : Int)), (8, vi x8)], [], .nil⟩
def npoint_divisor_l1_0_e0 (a0 : (List Int)) (x8 : Int) (r : Int) : VS := ⟨mkA [(3, vi r), (6, VV.tr (List.map vi a0) a0.length), (7, vi (a0.length : Int)), (8, vi x8)], [], .nil⟩
def npoint_divisor_l1_0 (k : Nat) (a0 : (List Int)) (x8 : Int) : Nat → Int → Int → Option (Int)
  | 0, _, _ => none
  | fuel + 1, x3z, x5 => if x5 = 0 then (some x3z) else (if x5 ≠ 0 then (npoint_divisor_l1_0 k a0 x8 fuel x5 (x3z.tmod x5)) else none)
theorem npoint_divisor_l1_0_ok (k : Nat) (a0 : (List Int)) (x8 : Int) : ∀ (fuel : Nat) (x3z : Int) (x5 : Int) (r : Int), npoint_divisor_l1_0 k a0 x8 fuel x3z x5 = some r → (VLoop none Go.Proofs.Try.prog (szF Go.Proofs.Try.f30) (bodyOf Go.Proofs.Try.f30 1) (npoint_divisor_l1_0_h a0 x8 x3z x5) (.exit 2) (npoint_divisor_l1_0_e0 a0 x8 r)) := by
 intro fuel
 induction fuel with
 | zero => intro x3z x5 r h; rw [npoint_divisor_l1_0.eq_1] at h; cases h
 | succ fuel ih =>
  intro x3z x5 r h
  rw [npoint_divisor_l1_0.eq_2] at h
  rcases ifs h with ⟨h312, h⟩ | ⟨h312, h⟩
  ·injection h with h; subst h
   exact round_stop (c := ⟨[(3, none), (6, none), (7, none), (8, none)], [], []⟩) (s1 := (npoint_divisor_l1_0_e0 a0 x8 x3z)) pm pn (ans := [.reg (.n :: .n :: []), .br false]) (by kernel_rfl) (by intro e; cases e) (an (an (ti (ti trivial)) (an (not_f (decide_eq_true h312)) trivial)) (ti trivial))
  ·obtain ⟨h313, h⟩ := ifn h
   have h2 := ih _ _ _ h
   obtain ⟨q, hv, hq⟩ := pkR (rd := none) (P := Go.Proofs.Try.prog) (fn := Go.Proofs.Try.f30) (k := 1) (s := (npoint_divisor_l1_0_h a0 x8 x3z x5)) (ans := [.reg (.n :: .n :: []), .br true, .reg (nN 6 [])]) (c := ⟨[(3, none), (5, none), (6, none), (7, none), (8, none)], [], []⟩) (e := .normal) (s1 := (npoint_divisor_l1_0_h a0 x8 x5 (x3z.tmod x5))) (an (an (an (ti (ti trivial)) (an (not_t (decide_eq_false h312)) trivial)) (ti (ti (ti (an h313 (ti (ti trivial))))))) (ti trivial)) (by kernel_rfl)
   exact round_next pm pn hv hq h2
def npoint_divisor_l0_0_h (a0 : (List Int)) (x3 : Int) (x8 : Int) : VS := ⟨mkA [(3, vi x3), (6, VV.tr (List.map vi a0) a0.length), (7, vi (a0.length : Int)), (8, vi x8)], [], .nil⟩
def npoint_divisor_l0_0_e0 (a0 : (List Int)) (r : Int) : VS := ⟨mkA [(3, vi r)], [], .nil⟩
def npoint_divisor_l0_0 (k : Nat) (a0 : (List Int)) : Nat → Int → Int → Option (Int)
  | 0, _, _ => none
  | fuel + 1, x3, x8 => if x8 < (a0.length : Int) then (if 0 ≤ x8 ∧ x8 < (a0.length : Int) then ((npoint_divisor_l1_0 k a0 x8 k x3 (a0.getD x8.toNat 0)).bind fun r315 => (npoint_divisor_l0_0 k a0 fuel r315 (w64 (x8 + 1)))) else none) else (some x3)
theorem npoint_divisor_l0_0_ok (k : Nat) (a0 : (List Int)) : ∀ (fuel : Nat) (x3 : Int) (x8 : Int) (r : Int), npoint_divisor_l0_0 k a0 fuel x3 x8 = some r → (VLoop none Go.Proofs.Try.prog (szF Go.Proofs.Try.f30) (bodyOf Go.Proofs.Try.f30 0) (npoint_divisor_l0_0_h a0 x3 x8) (.exit 0) (npoint_divisor_l0_0_e0 a0 r)) := by
 intro fuel
 induction fuel with
 | zero => intro x3 x8 r h; rw [npoint_divisor_l0_0.eq_1] at h; cases h
 | succ fuel ih =>
  intro x3 x8 r h
  rw [npoint_divisor_l0_0.eq_2] at h
  rcases ifs h with ⟨h305, h⟩ | ⟨h305, h⟩
  ·obtain ⟨h306, h⟩ := ifn h
   have e307 := (show loadL Go.Proofs.Try.prog 3 (x8.toNat * 1) (List.map vi a0) = some (vi (a0.getD x8.toNat 0)) from ld_map ag3 vi a0 0 h306 (by omega))
   obtain ⟨r315, h314, h⟩ := bs h
   have hph314 := npoint_divisor_l1_0_ok k a0 x8 _ _ _ _ h314
   have e316 := (an (ti trivial) (VRun.loop hph314))
   have h2 := ih _ _ _ h
   obtain ⟨q, hv, hq⟩ := pkR (rd := none) (P := Go.Proofs.Try.prog) (fn := Go.Proofs.Try.f30) (k := 0) (s := (npoint_divisor_l0_0_h a0 x3 x8)) (ans := [.reg (.n :: []), .br true, .reg (.n :: .v (vi (a0.getD x8.toNat 0)) :: .n :: []), .sub ⟨[(3, none), (5, none), (6, none), (7, none), (8, none)], [], []⟩ (.exit 2) (npoint_divisor_l1_0_e0 a0 x8 r315), .reg (.n :: .n :: [])]) (c := ⟨[(3, none), (6, none), (7, none), (8, none)], [], []⟩) (e := .normal) (s1 := (npoint_divisor_l0_0_h a0 r315 (w64 (x8 + 1)))) (an (an (ti trivial) (an (an (decide_eq_true h305) trivial) (an (an (an h306 (an e307 (ti trivial))) e316) (ti (ti trivial))))) (ti trivial)) (by kernel_rfl)
   exact round_next pm pn hv hq h2
  ·injection h with h; subst h
   exact round_stop (c := ⟨[(3, none)], [], []⟩) (s1 := (npoint_divisor_l0_0_e0 a0 x3)) pm pn (ans := [.reg (.n :: []), .br false]) (by kernel_rfl) (by intro e; cases e) (an (an (ti trivial) (an (decide_eq_false h305) trivial)) (ti trivial))
def npoint_divisor (k : Nat) (a0 : (List Int)) : Option Int :=
  (npoint_divisor_l0_0 k a0 k 0 0).bind fun r318 => (some (maxI r318 (w64 (0 - r318))))
theorem npoint_divisor_ok (k : Nat) (a0 : (List Int)) (r : Int) (h : npoint_divisor k a0 = some r) : VC Go.Proofs.Try.prog 30 [VV.tr (List.map vi a0) a0.length] (vi r) := by
 unfold npoint_divisor at h
 obtain ⟨r318, h317, h⟩ := bs h
 have hph317 := npoint_divisor_l0_0_ok k a0 _ _ _ _ h317
 have e319 := (an (ti trivial) (VRun.loop hph317))
 injection h with h; subst h
 exact fun_ok pm pn Go.Proofs.Try.func30 (r0 := vi (maxI r318 (w64 (0 - r318)))) (ans := [.reg (.n :: []), .reg (.n :: []), .reg (nN 3 []), .sub ⟨[(3, none), (6, none), (7, none), (8, none)], [], []⟩ (.exit 0) (npoint_divisor_l0_0_e0 a0 r318), .reg (nN 5 [])]) (fr := true) (by kernel_rfl) (an (an (ti trivial) (an (ti trivial) (an (an (ti (ti (ti trivial))) e319) (an (ti (ti (ti (ti (ti trivial))))) trivial)))) (ti trivial)) (Wv.refl _)
theorem eqS1_3 (z0 : Int) (z1 : Int) : [VV.tr (List.map vi ([z0, z1] : List Int)) (([z0, z1] : List Int).length)] = [VV.tr (List.drop 0 (List.map unfr [vi z0, vi z1])) 2] := by first | rfl | (simp only [drop0, unfr_vi, List.map_cons, List.map_nil, un_i, un_tr, List.length_map, List.length_cons, List.length_nil]; done) | (simp only [drop0, unfr_vi, List.map_cons, List.map_nil, un_i, un_tr, List.length_map, List.length_cons, List.length_nil]; rfl) | (simp only [drop0, unfr_vi, List.map_cons, List.map_nil, un_i, un_tr, List.length_map, List.length_cons, List.length_nil, List.length_cons, List.length_nil, List.length_append]; done)
theorem eqS1_4 (z0 : Int) (z1 : Int) (z2 : Int) : VV.ag [vi (w64 (z0.tdiv (w64 (0 - z1)))), vi (w64 (z2.tdiv (w64 (0 - z1))))] = VV.ag (c_SFrac (⟨w64 (z0.tdiv (w64 (0 - z1))), w64 (z2.tdiv (w64 (0 - z1)))⟩ : SFrac)) := by first | rfl | (simp only [unfr_vi, List.map_cons, List.map_nil, un_i, unfr_c_SFrac]; done) | (simp only [unfr_vi, List.map_cons, List.map_nil, un_i, unfr_c_SFrac]; rfl) | (simp only [unfr_vi, List.map_cons, List.map_nil, un_i, unfr_c_SFrac, c_SFrac, List.length_cons, List.length_nil, List.length_append]; done)
theorem eqS1_5 (z0 : Int) (z1 : Int) (z2 : Int) : VV.ag [vi (w64 (z0.tdiv z1)), vi (w64 (z2.tdiv z1))] = VV.ag (c_SFrac (⟨w64 (z0.tdiv z1), w64 (z2.tdiv z1)⟩ : SFrac)) := by first | rfl | (simp only [unfr_vi, List.map_cons, List.map_nil, un_i, unfr_c_SFrac]; done) | (simp only [unfr_vi, List.map_cons, List.map_nil, un_i, unfr_c_SFrac]; rfl) | (simp only [unfr_vi, List.map_cons, List.map_nil, un_i, unfr_c_SFrac, c_SFrac, List.length_cons, List.length_nil, List.length_append]; done)
def npoint_lowest (k : Nat) (a0 : Int) (a1 : Int) : Option SFrac :=
  (npoint_divisor k ([a0, a1] : List Int)).bind fun r328 => (if a1 < 0 then (if (w64 (0 - r328)) ≠ 0 then (some (⟨w64 (a0.tdiv (w64 (0 - r328))), w64 (a1.tdiv (w64 (0 - r328)))⟩ : SFrac)) else none) else (if r328 ≠ 0 then (some (⟨w64 (a0.tdiv r328), w64 (a1.tdiv r328)⟩ : SFrac)) else none))
theorem npoint_lowest_ok (k : Nat) (a0 : Int) (a1 : Int) (r : SFrac) (h : npoint_lowest k a0 a1 = some r) : VC Go.Proofs.Try.prog 24 [vi a0, vi a1] (VV.ag (c_SFrac r)) := by
 unfold npoint_lowest at h
 obtain ⟨r328, h329, h⟩ := bs h
 have e330 := (VC.args (npoint_divisor_ok k ([a0, a1] : List Int) _ h329) (eqS1_3 a0 a1))
 rcases ifs h with ⟨h331, h⟩ | ⟨h331, h⟩
 ·obtain ⟨h332, h⟩ := ifn h
  have e333 := (ti (ti (an h332 (ti (ti (an h332 (ti (ti trivial))))))))
  injection h with h; subst h
  exact fun_ok pm pn Go.Proofs.Try.func24 (r0 := VV.ag [vi (w64 (a0.tdiv (w64 (0 - r328)))), vi (w64 (a1.tdiv (w64 (0 - r328))))]) (ans := [.reg (.n :: []), .reg (nN 3 (.call (vi r328) :: .n :: [])), .reg (.n :: .n :: []), .br true, .reg (nN 3 []), .reg (nN 8 [])]) (fr := true) (by kernel_rfl) (an (an (ti trivial) (an (ti (ti (ti (an e330 (ti trivial))))) (an (an (ti (ti trivial)) (an (decide_eq_true h331) (ti (ti (ti trivial))))) (an e333 trivial)))) (an (ti (ti (ti trivial))) trivial)) (Wv.of_eq (eqS1_4 a0 r328 a1))
 ·obtain ⟨h334, h⟩ := ifn h
  have e335 := (ti (ti (an h334 (ti (ti (an h334 (ti (ti trivial))))))))
  injection h with h; subst h
  exact fun_ok pm pn Go.Proofs.Try.func24 (r0 := VV.ag [vi (w64 (a0.tdiv r328)), vi (w64 (a1.tdiv r328))]) (ans := [.reg (.n :: []), .reg (nN 3 (.call (vi r328) :: .n :: [])), .reg (.n :: .n :: []), .br false, .reg (nN 8 [])]) (fr := true) (by kernel_rfl) (an (an (ti trivial) (an (ti (ti (ti (an e330 (ti trivial))))) (an (an (ti (ti trivial)) (an (decide_eq_false h331) trivial)) (an e335 trivial)))) (an (ti (ti (ti trivial))) trivial)) (Wv.of_eq (eqS1_5 a0 r328 a1))
def arS1_3 (z0 : (List A23)) (z1 : Int) (z2 : SFrac) (z3 : Int) (z4 : SFrac) : List Ans := (.n :: .n :: .v (VV.ag (c_A23 (z0.getD ((1 : Int)).toNat default))) :: .n :: .call (vi z1) :: .n :: .call (VV.ag (c_SFrac z2)) :: nN 3 (.v (VV.ag (c_A23 (z0.getD ((0 : Int)).toNat default))) :: .call (vi z3) :: .n :: .call (VV.ag (c_SFrac z4)) :: nN 3 []))
theorem eqS1_6 (z0 : SFrac) (z1 : SFrac) : VV.tu [VV.ag [vi z0.Num, vi z0.Den, vi z1.Num, vi z1.Den], vi 0] = VV.tu [VV.ag [vi (((⟨z0, z1⟩ : A27).e0).Num), vi (((⟨z0, z1⟩ : A27).e0).Den), vi (((⟨z0, z1⟩ : A27).e1).Num), vi (((⟨z0, z1⟩ : A27).e1).Den)], vi 0] := by first | rfl | (simp only [unfr_vi, List.map_cons, List.map_nil, un_i]; done) | (simp only [unfr_vi, List.map_cons, List.map_nil, un_i]; rfl) | (simp only [unfr_vi, List.map_cons, List.map_nil, un_i, List.length_cons, List.length_nil, List.length_append]; done)
theorem eqS1_7  : VV.tu [VV.ag [vi 0, vi 0, vi 0, vi 0], vi 2] = VV.tu [VV.ag [vi (((⟨(⟨0, 0⟩ : SFrac), (⟨0, 0⟩ : SFrac)⟩ : A27).e0).Num), vi (((⟨(⟨0, 0⟩ : SFrac), (⟨0, 0⟩ : SFrac)⟩ : A27).e0).Den), vi (((⟨(⟨0, 0⟩ : SFrac), (⟨0, 0⟩ : SFrac)⟩ : A27).e1).Num), vi (((⟨(⟨0, 0⟩ : SFrac), (⟨0, 0⟩ : SFrac)⟩ : A27).e1).Den)], vi 2] := by first | rfl | (simp only [unfr_vi, List.map_cons, List.map_nil, un_i]; done) | (simp only [unfr_vi, List.map_cons, List.map_nil, un_i]; rfl) | (simp only [unfr_vi, List.map_cons, List.map_nil, un_i, List.length_cons, List.length_nil, List.length_append]; done)
theorem eqS1_8 (z0 : Int) : VV.tu [VV.ag [vi 0, vi 0, vi 0, vi 0], vi z0] = VV.tu [VV.ag [vi (((⟨(⟨0, 0⟩ : SFrac), (⟨0, 0⟩ : SFrac)⟩ : A27).e0).Num), vi (((⟨(⟨0, 0⟩ : SFrac), (⟨0, 0⟩ : SFrac)⟩ : A27).e0).Den), vi (((⟨(⟨0, 0⟩ : SFrac), (⟨0, 0⟩ : SFrac)⟩ : A27).e1).Num), vi (((⟨(⟨0, 0⟩ : SFrac), (⟨0, 0⟩ : SFrac)⟩ : A27).e1).Den)], vi z0] := by first | rfl | (simp only [unfr_vi, List.map_cons, List.map_nil, un_i]; done) | (simp only [unfr_vi, List.map_cons, List.map_nil, un_i]; rfl) | (simp only [unfr_vi, List.map_cons, List.map_nil, un_i, List.length_cons, List.length_nil, List.length_append]; done)
def npoint_Collimate (k : Nat) (a0 : (List A23)) (a1 : A23) : Option (A27 × Int) :=
  (npoint_CheckScrews k a0).bind fun r345 => (if r345 = 0 then ((npoint_areSmall k 100000 ([a1.e0, a1.e1] : List Int)).bind fun r350 => (if r350 = true then (if (0 : Int) ≤ 0 ∧ 0 < (a0.length : Int) then (if (0 : Int) ≤ 1 ∧ 1 < (a0.length : Int) then ((npoint_across k (a0.getD ((0 : Int)).toNat default) (a0.getD ((1 : Int)).toNat default)).bind fun r358 => ((npoint_across k (a0.getD ((1 : Int)).toNat default) a1).bind fun r363 => ((npoint_lowest k r363 r358).bind fun r366 => ((npoint_across k a1 (a0.getD ((0 : Int)).toNat default)).bind fun r369 => ((npoint_lowest k r369 r358).bind fun r372 => (some ((⟨r366, r372⟩ : A27), 0))))))) else none) else none) else (some ((⟨(⟨0, 0⟩ : SFrac), (⟨0, 0⟩ : SFrac)⟩ : A27), 2)))) else (some ((⟨(⟨0, 0⟩ : SFrac), (⟨0, 0⟩ : SFrac)⟩ : A27), r345)))
theorem npoint_Collimate_ok (k : Nat) (a0 : (List A23)) (a1 : A23) (r : (A27 × Int)) (h : npoint_Collimate k a0 a1 = some r) : VC Go.Proofs.Try.prog 6 [VV.tr (List.flatMap c_A23 a0) a0.length, VV.ag (c_A23 a1)] (VV.tu [VV.ag (c_A27 r.1), vi r.2]) := by
 unfold npoint_Collimate at h
 obtain ⟨r345, h346, h⟩ := bs h
 have e347 := (ti (an (npoint_CheckScrews_ok k a0 _ h346) (ti trivial)))
 rcases ifs h with ⟨h348, h⟩ | ⟨h348, h⟩
 ·have e349 := (show True ∧ True ∧ 0 ≤ 2 ∧ 2 ≤ 2 ∧ 0 + 2 * 1 ≤ List.length [vi a1.e0, vi a1.e1] from ⟨trivial, trivial, Nat.zero_le _, Nat.le_refl 2, Nat.le_refl 2⟩)
  obtain ⟨r350, h351, h⟩ := bs h
  have e352 := (VC.args (npoint_areSmall_ok k 100000 ([a1.e0, a1.e1] : List Int) _ h351) (eqS1_2 a1))
  rcases ifs h with ⟨h353, h⟩ | ⟨h353, h⟩
  ·obtain ⟨h354, h⟩ := ifn h
   have e355 := (show loadL Go.Proofs.Try.prog 23 (((0 : Int)).toNat * 2) (List.flatMap c_A23 a0) = some (VV.ag (c_A23 (a0.getD ((0 : Int)).toNat default))) from ld_whole ag23 c_A23 2 sz23 len_c_A23 a0 default h354 (by omega))
   obtain ⟨h356, h⟩ := ifn h
   have e357 := (show loadL Go.Proofs.Try.prog 23 (((1 : Int)).toNat * 2) (List.flatMap c_A23 a0) = some (VV.ag (c_A23 (a0.getD ((1 : Int)).toNat default))) from ld_whole ag23 c_A23 2 sz23 len_c_A23 a0 default h356 (by omega))
   obtain ⟨r358, h359, h⟩ := bs h
   have e360 := (npoint_across_ok k (a0.getD ((0 : Int)).toNat default) (a0.getD ((1 : Int)).toNat default) _ h359)
   have e361 := (ti (an h354 (an e355 (ti (an h356 (an e357 (an e360 (ti trivial))))))))
   have e362 := (show loadL Go.Proofs.Try.prog 23 (((1 : Int)).toNat * 2) (List.flatMap c_A23 a0) = some (VV.ag (c_A23 (a0.getD ((1 : Int)).toNat default))) from ld_whole ag23 c_A23 2 sz23 len_c_A23 a0 default h356 (by omega))
   obtain ⟨r363, h364, h⟩ := bs h
   have e365 := (npoint_across_ok k (a0.getD ((1 : Int)).toNat default) a1 _ h364)
   obtain ⟨r366, h367, h⟩ := bs h
   have e368 := (show loadL Go.Proofs.Try.prog 23 (((0 : Int)).toNat * 2) (List.flatMap c_A23 a0) = some (VV.ag (c_A23 (a0.getD ((0 : Int)).toNat default))) from ld_whole ag23 c_A23 2 sz23 len_c_A23 a0 default h354 (by omega))
   obtain ⟨r369, h370, h⟩ := bs h
   have e371 := (npoint_across_ok k a1 (a0.getD ((0 : Int)).toNat default) _ h370)
   obtain ⟨r372, h373, h⟩ := bs h
   have e374 := (ti (an h356 (an e362 (ti (an e365 (ti (an (npoint_lowest_ok k r363 r358 _ h367) (ti (ti (an h354 (an e368 (an e371 (ti (an (npoint_lowest_ok k r369 r358 _ h373) (ti (ti (ti trivial)))))))))))))))))
   injection h with h; subst h
   exact fun_ok pm pn Go.Proofs.Try.func6 (r0 := VV.tu [VV.ag [vi r366.Num, vi r366.Den, vi r372.Num, vi r372.Den], vi 0]) (ans := [.reg (nN 3 []), .reg (.n :: .call (vi r345) :: .n :: []), .reg (.n :: .n :: []), .br false, .reg (.n :: .call (vb r350) :: .n :: []), .br false, .reg (arS1_1 a0 r358), .reg (arS1_3 a0 r363 r366 r369 r372)]) (fr := true) (by kernel_rfl) (an (an (ti (ti (ti trivial))) (an (an e347 (an (ti (ti trivial)) (an (not_f (decide_eq_true h348)) trivial))) (an (an (an e349 (an e352 (ti trivial))) (an (not_f h353) trivial)) (an e361 (an e374 trivial))))) (an (ti (ti (ti (ti (ti trivial))))) (ti trivial))) (Wv.of_eq (eqS1_6 r366 r372))
  ·injection h with h; subst h
   exact fun_ok pm pn Go.Proofs.Try.func6 (r0 := VV.tu [VV.ag [vi 0, vi 0, vi 0, vi 0], vi 2]) (ans := [.reg (nN 3 []), .reg (.n :: .call (vi r345) :: .n :: []), .reg (.n :: .n :: []), .br false, .reg (.n :: .call (vb r350) :: .n :: []), .br true, .reg (nN 3 [])]) (fr := true) (by kernel_rfl) (an (an (ti (ti (ti trivial))) (an (an e347 (an (ti (ti trivial)) (an (not_f (decide_eq_true h348)) trivial))) (an (an e349 (an e352 (ti trivial))) (an (not_t (bool_f h353)) (an (ti (ti (ti trivial))) trivial))))) (an (ti (ti (ti (ti (ti trivial))))) (ti trivial))) (Wv.of_eq eqS1_7)
 ·injection h with h; subst h
  exact fun_ok pm pn Go.Proofs.Try.func6 (r0 := VV.tu [VV.ag [vi 0, vi 0, vi 0, vi 0], vi r345]) (ans := [.reg (nN 3 []), .reg (.n :: .call (vi r345) :: .n :: []), .reg (.n :: .n :: []), .br true, .reg (nN 4 [])]) (fr := true) (by kernel_rfl) (an (an (ti (ti (ti trivial))) (an e347 (an (ti (ti trivial)) (an (not_t (decide_eq_false h348)) (an (ti (ti (ti (ti trivial)))) trivial))))) (an (ti (ti (ti (ti (ti trivial))))) (ti trivial))) (Wv.of_eq (eqS1_8 r345))
theorem eqS1_9 (z0 : (List A23)) (z1 : A23) : [VV.tr (List.flatMap c_A23 z0) z0.length, VV.ag (c_A23 z1)] = [VV.tr (List.drop 0 (List.map unfr (List.flatMap c_A23 z0))) z0.length, VV.ag (c_A23 z1)] := by first | rfl | (simp only [drop0, List.map_cons, List.map_nil, un_tr, List.length_map, List.length_cons, List.length_nil, unfr_c_A23]; done) | (simp only [drop0, List.map_cons, List.map_nil, un_tr, List.length_map, List.length_cons, List.length_nil, unfr_c_A23]; rfl) | (simp only [drop0, List.map_cons, List.map_nil, un_tr, List.length_map, List.length_cons, List.length_nil, unfr_c_A23, List.length_cons, List.length_nil, List.length_append]; done)
def nspeculumbase_Within (k : Nat) (a0 : Int) (a1 : Int) (a2 : Int) : Option Bool :=
  if a1 ≤ a0 then (some (decide (a0 ≤ a2))) else (some false)
theorem nspeculumbase_Within_ok (k : Nat) (a0 : Int) (a1 : Int) (a2 : Int) (r : Bool) (h : nspeculumbase_Within k a0 a1 a2 = some r) : VC Go.Proofs.Try.prog 14 [vi a0, vi a1, vi a2] (vb r) := by
 unfold nspeculumbase_Within at h
 rcases ifs h with ⟨h386, h⟩ | ⟨h386, h⟩
 ·have e387 := (ti (ti (ti (ti (an (an (decide_eq_true h386) trivial) (an (an (decide_eq_true h386) trivial) (an (an (decide_eq_true h386) trivial) (an (decide_eq_true h386) (ti trivial)))))))))
  injection h with h; subst h
  exact fun_ok pm pn Go.Proofs.Try.func14 (r0 := vb (decide (a0 ≤ a2))) (ans := [.reg (.n :: []), .reg (nN 7 (.b true :: .n :: []))]) (fr := true) (by kernel_rfl) (an (an (ti trivial) (an e387 trivial)) (ti trivial)) (Wv.refl _)
 ·have e388 := (ti (ti (ti (ti (an (decide_eq_false h386) (an (decide_eq_false h386) (an (decide_eq_false h386) (an (decide_eq_false h386) (ti trivial)))))))))
  injection h with h; subst h
  exact fun_ok pm pn Go.Proofs.Try.func14 (r0 := vb false) (ans := [.reg (.n :: []), .reg (nN 4 (nS 3 (.b false :: .n :: [])))]) (fr := true) (by kernel_rfl) (an (an (ti trivial) (an e388 trivial)) (ti trivial)) (Wv.refl _)
def arS1_4 (z0 : (List A23)) (z1 : Int) (z2 : Bool) (z3 : Bool) : List Ans := (nN 3 (.v (VV.tp (List.flatMap c_A23 z0) (z1.toNat * 2 + 0)) :: .v (vi ((z0.getD z1.toNat default).e0)) :: .call (vb z2) :: nN 5 (.v (VV.tp (List.flatMap c_A23 z0) (z1.toNat * 2 + 1)) :: .v (vi ((z0.getD z1.toNat default).e1)) :: .call (vb z3) :: .n :: .b false :: [])))
def arS1_5 (z0 : (List A23)) (z1 : Int) (z2 : Bool) : List Ans := (nN 3 (.v (VV.tp (List.flatMap c_A23 z0) (z1.toNat * 2 + 0)) :: .v (vi ((z0.getD z1.toNat default).e0)) :: .call (vb z2) :: .n :: .n :: nS 7 (.b true :: [])))
def nspeculumref09_cross (k : Nat) (a0 : A23) (a1 : A23) : Option Int :=
  some (w64 ((w64 (a0.e0 * a1.e1)) - (w64 (a0.e1 * a1.e0))))
theorem nspeculumref09_cross_ok (k : Nat) (a0 : A23) (a1 : A23) (r : Int) (h : nspeculumref09_cross k a0 a1 = some r) : VC Go.Proofs.Try.prog 25 [VV.ag (c_A23 a0), VV.ag (c_A23 a1)] (vi r) := by
 unfold nspeculumref09_cross at h
 have e448 := (show (0:Int) ≤ 0 ∧ (0:Int) < ((2 : Nat) : Int) from ⟨by decide, by decide⟩)
 have e449 := (show (0:Int) ≤ 1 ∧ (1:Int) < ((2 : Nat) : Int) from ⟨by decide, by decide⟩)
 have e450 := (show (0:Int) ≤ 1 ∧ (1:Int) < ((2 : Nat) : Int) from ⟨by decide, by decide⟩)
 have e451 := (show (0:Int) ≤ 0 ∧ (0:Int) < ((2 : Nat) : Int) from ⟨by decide, by decide⟩)
 have e452 := (an e448 (ti (an e449 (ti (ti (an e450 (ti (an e451 (ti (ti (ti (ti trivial))))))))))))
 injection h with h; subst h
 exact fun_ok pm pn Go.Proofs.Try.func25 (r0 := vi (w64 ((w64 (a0.e0 * a1.e1)) - (w64 (a0.e1 * a1.e0))))) (ans := [.reg (nN 3 []), .reg (nN 12 [])]) (fr := true) (by kernel_rfl) (an (an (ti (ti (ti trivial))) (an e452 trivial)) (ti trivial)) (Wv.refl _)
def nspeculumref09_CheckScrews_l0_0_h (a0 : (List A23)) (x3 : Int) : VS := ⟨mkA [(0, VV.tr (List.flatMap c_A23 a0) a0.length), (3, vi x3)], [], .nil⟩
def nspeculumref09_CheckScrews_l0_0_e0 (a0 : (List A23)) (r : Unit) : VS := ⟨mkA [(2, vi 2)], [], .nil⟩
def nspeculumref09_CheckScrews_l0_0_e1 (a0 : (List A23)) (r : Unit) : VS := ⟨mkA [(0, VV.tr (List.flatMap c_A23 a0) a0.length)], [], .nil⟩
def nspeculumref09_CheckScrews_l0_0 (k : Nat) (a0 : (List A23)) : Nat → Int → Option (Sum Unit Unit)
  | 0, _ => none
  | fuel + 1, x3 => if x3 < 2 then (if 0 ≤ x3 ∧ x3 < (a0.length : Int) then ((nspeculumbase_Within k ((a0.getD x3.toNat default).e0) (-1000) 1000).bind fun r494 => (if r494 = true then ((nspeculumbase_Within k ((a0.getD x3.toNat default).e1) (-1000) 1000).bind fun r500 => (if r500 = true then (nspeculumref09_CheckScrews_l0_0 k a0 fuel (w64 (x3 + 1))) else (some (.inl ())))) else (some (.inl ())))) else none) else (some (.inr ()))
theorem nspeculumref09_CheckScrews_l0_0_ok (k : Nat) (a0 : (List A23)) : ∀ (fuel : Nat) (x3 : Int) (r : Sum Unit Unit), nspeculumref09_CheckScrews_l0_0 k a0 fuel x3 = some r → (match r with | .inl r => VLoop none Go.Proofs.Try.prog (szF Go.Proofs.Try.f7) (bodyOf Go.Proofs.Try.f7 0) (nspeculumref09_CheckScrews_l0_0_h a0 x3) .ret (nspeculumref09_CheckScrews_l0_0_e0 a0 r) | .inr r => VLoop none Go.Proofs.Try.prog (szF Go.Proofs.Try.f7) (bodyOf Go.Proofs.Try.f7 0) (nspeculumref09_CheckScrews_l0_0_h a0 x3) (.exit 0) (nspeculumref09_CheckScrews_l0_0_e1 a0 r)) := by
 intro fuel
 induction fuel with
 | zero => intro x3 r h; rw [nspeculumref09_CheckScrews_l0_0.eq_1] at h; cases h
 | succ fuel ih =>
  intro x3 r h
  rw [nspeculumref09_CheckScrews_l0_0.eq_2] at h
  rcases ifs h with ⟨h490, h⟩ | ⟨h490, h⟩
  ·obtain ⟨h491, h⟩ := ifn h
   have e492 := (show ((0 : Int) ≤ 0 ∧ 0 < ((2 : Nat) : Int)) ∧ VV.tp (List.flatMap c_A23 a0) (x3.toNat * 2 + Int.toNat 0 * 1) = VV.tp (List.flatMap c_A23 a0) (x3.toNat * 2 + 0) from ⟨⟨by decide, by decide⟩, rfl⟩)
   have e493 := (show loadL Go.Proofs.Try.prog 3 (x3.toNat * 2 + 0) (List.flatMap c_A23 a0) = some (vi ((a0.getD x3.toNat default).e0)) from (ld_flat ag3 c_A23 2 0 len_c_A23 (by omega) a0 default h491 (by omega)).trans rfl)
   obtain ⟨r494, h495, h⟩ := bs h
   have e496 := (nspeculumbase_Within_ok k ((a0.getD x3.toNat default).e0) (-1000) 1000 _ h495)
   rcases ifs h with ⟨h497, h⟩ | ⟨h497, h⟩
   ·have e498 := (an (not_f h497) (show ((0 : Int) ≤ 1 ∧ 1 < ((2 : Nat) : Int)) ∧ VV.tp (List.flatMap c_A23 a0) (x3.toNat * 2 + Int.toNat 1 * 1) = VV.tp (List.flatMap c_A23 a0) (x3.toNat * 2 + 1) from ⟨⟨by decide, by decide⟩, rfl⟩))
    have e499 := (an (not_f h497) (show loadL Go.Proofs.Try.prog 3 (x3.toNat * 2 + 1) (List.flatMap c_A23 a0) = some (vi ((a0.getD x3.toNat default).e1)) from (ld_flat ag3 c_A23 2 1 len_c_A23 (by omega) a0 default h491 (by omega)).trans rfl))
    obtain ⟨r500, h501, h⟩ := bs h
    have e502 := (an (not_f h497) (nspeculumbase_Within_ok k ((a0.getD x3.toNat default).e1) (-1000) 1000 _ h501))
    have e503 := (ti (ti (an h491 (an e492 (an e493 (an e496 (ti (ti (an (an (not_f h497) trivial) (an (an (not_f h497) trivial) (an (an (not_f h497) h491) (an e498 (an e499 (an e502 (an (an (not_f h497) trivial) (an (not_f h497) trivial))))))))))))))))
    rcases ifs h with ⟨h504, h⟩ | ⟨h504, h⟩
    ·have h2 := ih _ _ h
     obtain ⟨q, hv, hq⟩ := pkR (rd := none) (P := Go.Proofs.Try.prog) (fn := Go.Proofs.Try.f7) (k := 0) (s := (nspeculumref09_CheckScrews_l0_0_h a0 x3)) (ans := [.reg (.n :: .n :: []), .br true, .reg (arS1_4 a0 x3 r494 r500), .br false, .reg (nN 3 [])]) (c := ⟨[(0, none), (3, none)], [], []⟩) (e := .normal) (s1 := (nspeculumref09_CheckScrews_l0_0_h a0 (w64 (x3 + 1)))) (an (an (an (ti (ti trivial)) (an (decide_eq_true h490) trivial)) (an (an e503 (an (not_f h504) trivial)) (ti (ti (ti trivial))))) (ti trivial)) (by kernel_rfl)
     cases r with
     | inl r => exact round_next pm pn hv hq h2
     | inr r =>
      exact round_next pm pn hv hq h2
    ·injection h with h; subst h
     exact round_stop (c := ⟨[(2, none)], [], []⟩) (s1 := (nspeculumref09_CheckScrews_l0_0_e0 a0 ())) pm pn (ans := [.reg (.n :: .n :: []), .br true, .reg (arS1_4 a0 x3 r494 r500), .br true, .reg (.n :: [])]) (by kernel_rfl) (by intro e; cases e) (an (an (an (ti (ti trivial)) (an (decide_eq_true h490) trivial)) (an e503 (an (not_t (bool_f h504)) (an (ti trivial) trivial)))) (ti trivial))
   ·have e505 := (ti (ti (an h491 (an e492 (an e493 (an e496 (ti (ti (an (not_t (bool_f h497)) (an (not_t (bool_f h497)) (an (not_t (bool_f h497)) (an (not_t (bool_f h497)) (an (not_t (bool_f h497)) (an (not_t (bool_f h497)) (an (not_t (bool_f h497)) (an (not_t (bool_f h497)) trivial))))))))))))))))
    injection h with h; subst h
    exact round_stop (c := ⟨[(2, none)], [], []⟩) (s1 := (nspeculumref09_CheckScrews_l0_0_e0 a0 ())) pm pn (ans := [.reg (.n :: .n :: []), .br true, .reg (arS1_5 a0 x3 r494), .br true, .reg (.n :: [])]) (by kernel_rfl) (by intro e; cases e) (an (an (an (ti (ti trivial)) (an (decide_eq_true h490) trivial)) (an e505 (an rt (an (ti trivial) trivial)))) (ti trivial))
  ·injection h with h; subst h
   exact round_stop (c := ⟨[(0, none)], [], []⟩) (s1 := (nspeculumref09_CheckScrews_l0_0_e1 a0 ())) pm pn (ans := [.reg (.n :: .n :: []), .br false]) (by kernel_rfl) (by intro e; cases e) (an (an (ti (ti trivial)) (an (decide_eq_false h490) trivial)) (ti trivial))
def nspeculumref09_CheckScrews (k : Nat) (a0 : (List A23)) : Option Int :=
  if (a0.length : Int) = 2 then ((nspeculumref09_CheckScrews_l0_0 k a0 k 0).bind fun r507 => (match r507 with | .inl r508 => (some 2) | .inr r509 => (if (0 : Int) ≤ 0 ∧ 0 < (a0.length : Int) then (if (0 : Int) ≤ 1 ∧ 1 < (a0.length : Int) then ((nspeculumref09_cross k (a0.getD ((0 : Int)).toNat default) (a0.getD ((1 : Int)).toNat default)).bind fun r516 => (if r516 = 0 then (some 11) else (some 0))) else none) else none))) else (some 10)
theorem nspeculumref09_CheckScrews_ok (k : Nat) (a0 : (List A23)) (r : Int) (h : nspeculumref09_CheckScrews k a0 = some r) : VC Go.Proofs.Try.prog 7 [VV.tr (List.flatMap c_A23 a0) a0.length] (vi r) := by
 unfold nspeculumref09_CheckScrews at h
 rcases ifs h with ⟨h458, h⟩ | ⟨h458, h⟩
 ·obtain ⟨r507, h506, h⟩ := bs h
  have hph506 := nspeculumref09_CheckScrews_l0_0_ok k a0 _ _ _ h506
  cases r507 with
  | inl r508 =>
   dsimp only at h
   have e510 := (an (ti trivial) (VRun.loop hph506))
   injection h with h; subst h
   exact fun_ok pm pn Go.Proofs.Try.func7 (r0 := vi 2) (ans := [.reg (.n :: []), .reg (nN 3 []), .br false, .reg (.n :: []), .sub ⟨[(0, none), (3, none)], [], []⟩ .ret (nspeculumref09_CheckScrews_l0_0_e0 a0 r508)]) (fr := true) (by kernel_rfl) (an (an (ti trivial) (an (an (ti (ti (ti trivial))) (an (not_f (decide_eq_true h458)) trivial)) (an (ti trivial) e510))) (ti trivial)) (Wv.refl _)
  | inr r509 =>
   dsimp only at h
   have e511 := (an (ti trivial) (VRun.loop hph506))
   obtain ⟨h512, h⟩ := ifn h
   have e513 := (show loadL Go.Proofs.Try.prog 23 (((0 : Int)).toNat * 2) (List.flatMap c_A23 a0) = some (VV.ag (c_A23 (a0.getD ((0 : Int)).toNat default))) from ld_whole ag23 c_A23 2 sz23 len_c_A23 a0 default h512 (by omega))
   obtain ⟨h514, h⟩ := ifn h
   have e515 := (show loadL Go.Proofs.Try.prog 23 (((1 : Int)).toNat * 2) (List.flatMap c_A23 a0) = some (VV.ag (c_A23 (a0.getD ((1 : Int)).toNat default))) from ld_whole ag23 c_A23 2 sz23 len_c_A23 a0 default h514 (by omega))
   obtain ⟨r516, h517, h⟩ := bs h
   have e518 := (nspeculumref09_cross_ok k (a0.getD ((0 : Int)).toNat default) (a0.getD ((1 : Int)).toNat default) _ h517)
   have e519 := (ti (an h512 (an e513 (ti (an h514 (an e515 (an e518 (ti trivial))))))))
   rcases ifs h with ⟨h520, h⟩ | ⟨h520, h⟩
   ·injection h with h; subst h
    exact fun_ok pm pn Go.Proofs.Try.func7 (r0 := vi 11) (ans := [.reg (.n :: []), .reg (nN 3 []), .br false, .reg (.n :: []), .sub ⟨[(0, none), (3, none)], [], []⟩ (.exit 0) (nspeculumref09_CheckScrews_l0_0_e1 a0 r509), .reg (arS1_1 a0 r516), .br true, .reg (.n :: [])]) (fr := true) (by kernel_rfl) (an (an (ti trivial) (an (an (ti (ti (ti trivial))) (an (not_f (decide_eq_true h458)) trivial)) (an (an (ti trivial) e511) (an e519 (an (decide_eq_true h520) (an (ti trivial) trivial)))))) (ti trivial)) (Wv.refl _)
   ·injection h with h; subst h
    exact fun_ok pm pn Go.Proofs.Try.func7 (r0 := vi 0) (ans := [.reg (.n :: []), .reg (nN 3 []), .br false, .reg (.n :: []), .sub ⟨[(0, none), (3, none)], [], []⟩ (.exit 0) (nspeculumref09_CheckScrews_l0_0_e1 a0 r509), .reg (arS1_1 a0 r516), .br false, .reg (.n :: [])]) (fr := true) (by kernel_rfl) (an (an (ti trivial) (an (an (ti (ti (ti trivial))) (an (not_f (decide_eq_true h458)) trivial)) (an (an (ti trivial) e511) (an (an e519 (an (decide_eq_false h520) trivial)) (an (ti trivial) trivial))))) (ti trivial)) (Wv.refl _)
 ·injection h with h; subst h
  exact fun_ok pm pn Go.Proofs.Try.func7 (r0 := vi 10) (ans := [.reg (.n :: []), .reg (nN 3 []), .br true, .reg (.n :: [])]) (fr := true) (by kernel_rfl) (an (an (ti trivial) (an (ti (ti (ti trivial))) (an (not_t (decide_eq_false h458)) (an (ti trivial) trivial)))) (ti trivial)) (Wv.refl _)
def nspeculumref09_IsOff (k : Nat) (a0 : A23) : Option Bool :=
  (nspeculumbase_Within k a0.e0 (-100000) 100000).bind fun r543 => (if r543 = true then ((nspeculumbase_Within k a0.e1 (-100000) 100000).bind fun r548 => (some r548)) else (some false))
theorem nspeculumref09_IsOff_ok (k : Nat) (a0 : A23) (r : Bool) (h : nspeculumref09_IsOff k a0 = some r) : VC Go.Proofs.Try.prog 9 [VV.ag (c_A23 a0)] (vb r) := by
 unfold nspeculumref09_IsOff at h
 have e542 := (show (0:Int) ≤ 0 ∧ (0:Int) < ((2 : Nat) : Int) from ⟨by decide, by decide⟩)
 obtain ⟨r543, h544, h⟩ := bs h
 have e545 := (nspeculumbase_Within_ok k a0.e0 (-100000) 100000 _ h544)
 rcases ifs h with ⟨h546, h⟩ | ⟨h546, h⟩
 ·have e547 := (an h546 (show (0:Int) ≤ 1 ∧ (1:Int) < ((2 : Nat) : Int) from ⟨by decide, by decide⟩))
  obtain ⟨r548, h549, h⟩ := bs h
  have e550 := (an h546 (nspeculumbase_Within_ok k a0.e1 (-100000) 100000 _ h549))
  have e551 := (an e542 (ti (an e545 (ti (an e547 (an (an h546 trivial) (an e550 (an h546 (ti trivial)))))))))
  injection h with h; subst h
  exact fun_ok pm pn Go.Proofs.Try.func9 (r0 := vb r548) (ans := [.reg (.n :: .n :: []), .reg (.n :: .n :: .call (vb r543) :: nN 3 (.call (vb r548) :: .b true :: .n :: []))]) (fr := true) (by kernel_rfl) (an (an (ti (ti trivial)) (an e551 trivial)) (ti trivial)) (Wv.refl _)
 ·have e552 := (an e542 (ti (an e545 (ti (an (bool_f h546) (an (bool_f h546) (an (bool_f h546) (an (bool_f h546) (ti trivial)))))))))
  injection h with h; subst h
  exact fun_ok pm pn Go.Proofs.Try.func9 (r0 := vb false) (ans := [.reg (.n :: .n :: []), .reg (.n :: .n :: .call (vb r543) :: .n :: nS 3 (.b false :: .n :: []))]) (fr := true) (by kernel_rfl) (an (an (ti (ti trivial)) (an e552 trivial)) (ti trivial)) (Wv.refl _)
def nspeculumbase_Abs (k : Nat) (a0 : Int) : Option Int :=
  if a0 < 0 then (some (w64 (0 - a0))) else (some a0)
theorem nspeculumbase_Abs_ok (k : Nat) (a0 : Int) (r : Int) (h : nspeculumbase_Abs k a0 = some r) : VC Go.Proofs.Try.prog 53 [vi a0] (vi r) := by
 unfold nspeculumbase_Abs at h
 rcases ifs h with ⟨h584, h⟩ | ⟨h584, h⟩
 ·injection h with h; subst h
  exact fun_ok pm pn Go.Proofs.Try.func53 (r0 := vi (w64 (0 - a0))) (ans := [.reg (.n :: []), .reg (.n :: .n :: []), .br true, .reg (nN 3 [])]) (fr := true) (by kernel_rfl) (an (an (ti trivial) (an (ti (ti trivial)) (an (decide_eq_true h584) (an (ti (ti (ti trivial))) trivial)))) (ti trivial)) (Wv.refl _)
 ·injection h with h; subst h
  exact fun_ok pm pn Go.Proofs.Try.func53 (r0 := vi a0) (ans := [.reg (.n :: []), .reg (.n :: .n :: []), .br false, .reg (.n :: .n :: [])]) (fr := true) (by kernel_rfl) (an (an (ti trivial) (an (an (ti (ti trivial)) (an (decide_eq_false h584) trivial)) (an (ti (ti trivial)) trivial))) (ti trivial)) (Wv.refl _)
def nspeculumbase_Gcd_l0_0_h  (x0 : Int) (x1 : Int) : VS := ⟨mkA [(0, vi x0), (1, vi x1)], [], .nil⟩
def nspeculumbase_Gcd_l0_0_e0  (r : Int) : VS := ⟨mkA [(0, vi r)], [], .nil⟩
def nspeculumbase_Gcd_l0_0 (k : Nat)  : Nat → Int → Int → Option (Int)
  | 0, _, _ => none
  | fuel + 1, x0, x1 => if x1 = 0 then (some x0) else (if x1 ≠ 0 then (nspeculumbase_Gcd_l0_0 k  fuel x1 (x0.tmod x1)) else none)
theorem nspeculumbase_Gcd_l0_0_ok (k : Nat)  : ∀ (fuel : Nat) (x0 : Int) (x1 : Int) (r : Int), nspeculumbase_Gcd_l0_0 k  fuel x0 x1 = some r → (VLoop none Go.Proofs.Try.prog (szF Go.Proofs.Try.f42) (bodyOf Go.Proofs.Try.f42 0) (nspeculumbase_Gcd_l0_0_h  x0 x1) (.exit 0) (nspeculumbase_Gcd_l0_0_e0  r)) := by
 intro fuel
 induction fuel with
 | zero => intro x0 x1 r h; rw [nspeculumbase_Gcd_l0_0.eq_1] at h; cases h
 | succ fuel ih =>
  intro x0 x1 r h
  rw [nspeculumbase_Gcd_l0_0.eq_2] at h
  rcases ifs h with ⟨h592, h⟩ | ⟨h592, h⟩
  ·injection h with h; subst h
   exact round_stop (c := ⟨[(0, none)], [], []⟩) (s1 := (nspeculumbase_Gcd_l0_0_e0  x0)) pm pn (ans := [.reg (.n :: .n :: []), .br false]) (by kernel_rfl) (by intro e; cases e) (an (an (ti (ti trivial)) (an (not_f (decide_eq_true h592)) trivial)) (ti trivial))
  ·obtain ⟨h593, h⟩ := ifn h
   have h2 := ih _ _ _ h
   obtain ⟨q, hv, hq⟩ := pkR (rd := none) (P := Go.Proofs.Try.prog) (fn := Go.Proofs.Try.f42) (k := 0) (s := (nspeculumbase_Gcd_l0_0_h  x0 x1)) (ans := [.reg (.n :: .n :: []), .br true, .reg (nN 6 [])]) (c := ⟨[(0, none), (1, none)], [], []⟩) (e := .normal) (s1 := (nspeculumbase_Gcd_l0_0_h  x1 (x0.tmod x1))) (an (an (an (ti (ti trivial)) (an (not_t (decide_eq_false h592)) trivial)) (ti (ti (ti (an h593 (ti (ti trivial))))))) (ti trivial)) (by kernel_rfl)
   exact round_next pm pn hv hq h2
def nspeculumbase_Gcd (k : Nat) (a0 : Int) (a1 : Int) : Option Int :=
  (nspeculumbase_Gcd_l0_0 k k a0 a1).bind fun r595 => ((nspeculumbase_Abs k r595).bind fun r597 => (some r597))
theorem nspeculumbase_Gcd_ok (k : Nat) (a0 : Int) (a1 : Int) (r : Int) (h : nspeculumbase_Gcd k a0 a1 = some r) : VC Go.Proofs.Try.prog 42 [vi a0, vi a1] (vi r) := by
 unfold nspeculumbase_Gcd at h
 obtain ⟨r595, h594, h⟩ := bs h
 have hph594 := nspeculumbase_Gcd_l0_0_ok k  _ _ _ _ h594
 have e596 := (an (ti trivial) (VRun.loop hph594))
 obtain ⟨r597, h598, h⟩ := bs h
 have e599 := (ti (an (nspeculumbase_Abs_ok k r595 _ h598) (ti trivial)))
 injection h with h; subst h
 exact fun_ok pm pn Go.Proofs.Try.func42 (r0 := vi r597) (ans := [.reg (.n :: []), .sub ⟨[(0, none), (1, none)], [], []⟩ (.exit 0) (nspeculumbase_Gcd_l0_0_e0  r595), .reg (.n :: .call (vi r597) :: .n :: [])]) (fr := true) (by kernel_rfl) (an (an (ti trivial) (an e596 (an e599 trivial))) (ti trivial)) (Wv.refl _)
def nspeculumbase_Lowest (k : Nat) (a0 : Int) (a1 : Int) : Option SFrac :=
  (nspeculumbase_Gcd k a0 a1).bind fun r608 => (if a1 < 0 then (if (w64 (0 - r608)) ≠ 0 then (some (⟨w64 (a0.tdiv (w64 (0 - r608))), w64 (a1.tdiv (w64 (0 - r608)))⟩ : SFrac)) else none) else (if r608 ≠ 0 then (some (⟨w64 (a0.tdiv r608), w64 (a1.tdiv r608)⟩ : SFrac)) else none))
theorem nspeculumbase_Lowest_ok (k : Nat) (a0 : Int) (a1 : Int) (r : SFrac) (h : nspeculumbase_Lowest k a0 a1 = some r) : VC Go.Proofs.Try.prog 26 [vi a0, vi a1] (VV.ag (c_SFrac r)) := by
 unfold nspeculumbase_Lowest at h
 obtain ⟨r608, h609, h⟩ := bs h
 have e610 := (ti (ti (an (nspeculumbase_Gcd_ok k a0 a1 _ h609) (ti trivial))))
 rcases ifs h with ⟨h611, h⟩ | ⟨h611, h⟩
 ·obtain ⟨h612, h⟩ := ifn h
  have e613 := (ti (ti (an h612 (ti (ti (an h612 (ti (ti trivial))))))))
  injection h with h; subst h
  exact fun_ok pm pn Go.Proofs.Try.func26 (r0 := VV.ag [vi (w64 (a0.tdiv (w64 (0 - r608)))), vi (w64 (a1.tdiv (w64 (0 - r608))))]) (ans := [.reg (.n :: []), .reg (.n :: .n :: .call (vi r608) :: .n :: []), .reg (.n :: .n :: []), .br true, .reg (nN 3 []), .reg (nN 8 [])]) (fr := true) (by kernel_rfl) (an (an (ti trivial) (an e610 (an (an (ti (ti trivial)) (an (decide_eq_true h611) (ti (ti (ti trivial))))) (an e613 trivial)))) (an (ti (ti (ti trivial))) trivial)) (Wv.of_eq (eqS1_4 a0 r608 a1))
 ·obtain ⟨h614, h⟩ := ifn h
  have e615 := (ti (ti (an h614 (ti (ti (an h614 (ti (ti trivial))))))))
  injection h with h; subst h
  exact fun_ok pm pn Go.Proofs.Try.func26 (r0 := VV.ag [vi (w64 (a0.tdiv r608)), vi (w64 (a1.tdiv r608))]) (ans := [.reg (.n :: []), .reg (.n :: .n :: .call (vi r608) :: .n :: []), .reg (.n :: .n :: []), .br false, .reg (nN 8 [])]) (fr := true) (by kernel_rfl) (an (an (ti trivial) (an e610 (an (an (ti (ti trivial)) (an (decide_eq_false h611) trivial)) (an e615 trivial)))) (an (ti (ti (ti trivial))) trivial)) (Wv.of_eq (eqS1_5 a0 r608 a1))
def arS1_6 (z0 : (List A23)) (z1 : Int) (z2 : SFrac) (z3 : Int) (z4 : SFrac) : List Ans := (nN 3 (.v (VV.ag (c_A23 (z0.getD ((1 : Int)).toNat default))) :: .call (vi z1) :: .n :: .n :: .call (VV.ag (c_SFrac z2)) :: .n :: .n :: .v (VV.ag (c_A23 (z0.getD ((0 : Int)).toNat default))) :: .n :: .call (vi z3) :: .n :: .n :: .call (VV.ag (c_SFrac z4)) :: .n :: .n :: []))
theorem eqS1_10 (z0 : SFrac) (z1 : SFrac) : VV.ag [vi z0.Num, vi z0.Den, vi z1.Num, vi z1.Den] = VV.ag [vi (((⟨z0, z1⟩ : A27).e0).Num), vi (((⟨z0, z1⟩ : A27).e0).Den), vi (((⟨z0, z1⟩ : A27).e1).Num), vi (((⟨z0, z1⟩ : A27).e1).Den)] := by first | rfl | (simp only [unfr_vi, List.map_cons, List.map_nil, un_i]; done) | (simp only [unfr_vi, List.map_cons, List.map_nil, un_i]; rfl) | (simp only [unfr_vi, List.map_cons, List.map_nil, un_i, List.length_cons, List.length_nil, List.length_append]; done)
def nspeculumref09_Collimate (k : Nat) (a0 : (List A23)) (a1 : A23) : Option A27 :=
  if (0 : Int) ≤ 0 ∧ 0 < (a0.length : Int) then (if (0 : Int) ≤ 1 ∧ 1 < (a0.length : Int) then ((nspeculumref09_cross k (a0.getD ((0 : Int)).toNat default) (a0.getD ((1 : Int)).toNat default)).bind fun r631 => ((nspeculumref09_cross k a1 (a0.getD ((1 : Int)).toNat default)).bind fun r636 => ((nspeculumbase_Lowest k (w64 (0 - r636)) r631).bind fun r639 => ((nspeculumref09_cross k (a0.getD ((0 : Int)).toNat default) a1).bind fun r643 => ((nspeculumbase_Lowest k (w64 (0 - r643)) r631).bind fun r646 => (some (⟨r639, r646⟩ : A27))))))) else none) else none
theorem nspeculumref09_Collimate_ok (k : Nat) (a0 : (List A23)) (a1 : A23) (r : A27) (h : nspeculumref09_Collimate k a0 a1 = some r) : VC Go.Proofs.Try.prog 10 [VV.tr (List.flatMap c_A23 a0) a0.length, VV.ag (c_A23 a1)] (VV.ag (c_A27 r)) := by
 unfold nspeculumref09_Collimate at h
 obtain ⟨h627, h⟩ := ifn h
 have e628 := (show loadL Go.Proofs.Try.prog 23 (((0 : Int)).toNat * 2) (List.flatMap c_A23 a0) = some (VV.ag (c_A23 (a0.getD ((0 : Int)).toNat default))) from ld_whole ag23 c_A23 2 sz23 len_c_A23 a0 default h627 (by omega))
 obtain ⟨h629, h⟩ := ifn h
 have e630 := (show loadL Go.Proofs.Try.prog 23 (((1 : Int)).toNat * 2) (List.flatMap c_A23 a0) = some (VV.ag (c_A23 (a0.getD ((1 : Int)).toNat default))) from ld_whole ag23 c_A23 2 sz23 len_c_A23 a0 default h629 (by omega))
 obtain ⟨r631, h632, h⟩ := bs h
 have e633 := (nspeculumref09_cross_ok k (a0.getD ((0 : Int)).toNat default) (a0.getD ((1 : Int)).toNat default) _ h632)
 have e634 := (ti (an h627 (an e628 (ti (an h629 (an e630 (an e633 (ti trivial))))))))
 have e635 := (show loadL Go.Proofs.Try.prog 23 (((1 : Int)).toNat * 2) (List.flatMap c_A23 a0) = some (VV.ag (c_A23 (a0.getD ((1 : Int)).toNat default))) from ld_whole ag23 c_A23 2 sz23 len_c_A23 a0 default h629 (by omega))
 obtain ⟨r636, h637, h⟩ := bs h
 have e638 := (nspeculumref09_cross_ok k a1 (a0.getD ((1 : Int)).toNat default) _ h637)
 obtain ⟨r639, h640, h⟩ := bs h
 have e641 := (nspeculumbase_Lowest_ok k (w64 (0 - r636)) r631 _ h640)
 have e642 := (show loadL Go.Proofs.Try.prog 23 (((0 : Int)).toNat * 2) (List.flatMap c_A23 a0) = some (VV.ag (c_A23 (a0.getD ((0 : Int)).toNat default))) from ld_whole ag23 c_A23 2 sz23 len_c_A23 a0 default h627 (by omega))
 obtain ⟨r643, h644, h⟩ := bs h
 have e645 := (nspeculumref09_cross_ok k (a0.getD ((0 : Int)).toNat default) a1 _ h644)
 obtain ⟨r646, h647, h⟩ := bs h
 have e648 := (nspeculumbase_Lowest_ok k (w64 (0 - r643)) r631 _ h647)
 have e649 := (ti (ti (an h629 (an e635 (an e638 (ti (ti (an e641 (ti (an h627 (an e642 (ti (an e645 (ti (ti (an e648 (ti (ti trivial))))))))))))))))))
 injection h with h; subst h
 exact fun_ok pm pn Go.Proofs.Try.func10 (r0 := VV.ag [vi r639.Num, vi r639.Den, vi r646.Num, vi r646.Den]) (ans := [.reg (.n :: .n :: []), .reg (arS1_1 a0 r631), .reg (arS1_6 a0 r636 r639 r643 r646)]) (fr := true) (by kernel_rfl) (an (an (ti (ti trivial)) (an e634 (an e649 trivial))) (an (ti (ti (ti (ti (ti trivial))))) trivial)) (Wv.of_eq (eqS1_10 r639 r646))
def arS1_7 (z0 : (List A23)) : List Ans := (nN 3 (.v (VV.tp (List.flatMap c_A23 z0) (((0 : Int)).toNat * 2 + 0)) :: .v (vi ((z0.getD ((0 : Int)).toNat default).e0)) :: nN 11 (.v (VV.tp (List.flatMap c_A23 z0) (((1 : Int)).toNat * 2 + 0)) :: .v (vi ((z0.getD ((1 : Int)).toNat default).e0)) :: nN 10 (.v (VV.pt 0 0) :: nN 11 []))))
def arS1_8 (z0 : (List A23)) : List Ans := (nN 3 (.v (VV.tp (List.flatMap c_A23 z0) (((0 : Int)).toNat * 2 + 1)) :: .v (vi ((z0.getD ((0 : Int)).toNat default).e1)) :: nN 11 (.v (VV.tp (List.flatMap c_A23 z0) (((1 : Int)).toNat * 2 + 1)) :: .v (vi ((z0.getD ((1 : Int)).toNat default).e1)) :: nN 10 (.v (VV.pt 0 1) :: nN 11 []))))
def nspeculumlaw09_PointScrews_l0_0_h (a0 : (List A23)) (a1 : A23) (r757 : (A27 × Int)) (x8 : Int) : VS := ⟨mkA [(0, VV.tr (List.flatMap c_A23 a0) a0.length), (3, VV.pt 0 0), (5, VV.pt 3 0), (8, vi x8)], [some ⟨true, 1, c_A23 a1⟩, some ⟨false, 2, []⟩, some ⟨false, 2, List.flatMap c_A23 a0⟩, some ⟨true, 1, c_A27 r757.1⟩], .nil⟩
def nspeculumlaw09_PointScrews_l0_0_e0 (a0 : (List A23)) (a1 : A23) (r757 : (A27 × Int)) (r : Unit) : VS := ⟨mkA [(4, vb false)], [], .nil⟩
def nspeculumlaw09_PointScrews_l0_0_e1 (a0 : (List A23)) (a1 : A23) (r757 : (A27 × Int)) (r : Unit) : VS := ⟨mkA [], [], .nil⟩
def nspeculumlaw09_PointScrews_l0_0 (k : Nat) (a0 : (List A23)) (a1 : A23) (r757 : (A27 × Int)) : Nat → Int → Option (Sum Unit Unit)
  | 0, _ => none
  | fuel + 1, x8 => if x8 < 2 then (if (0 : Int) ≤ 0 ∧ 0 < (a0.length : Int) then (if x8 = 0 then (if (0 : Int) ≤ 1 ∧ 1 < (a0.length : Int) then (if (w64 ((w64 ((w64 ((w64 (((a0.getD ((0 : Int)).toNat default).e0) * r757.1.e0.Num)) * r757.1.e1.Den)) + (w64 ((w64 (((a0.getD ((1 : Int)).toNat default).e0) * r757.1.e1.Num)) * r757.1.e0.Den)))) + (w64 ((w64 (a1.e0 * r757.1.e0.Den)) * r757.1.e1.Den)))) = 0 then (nspeculumlaw09_PointScrews_l0_0 k a0 a1 r757 fuel (w64 (x8 + 1))) else (some (.inl ()))) else none) else (if x8 = 1 then (if (0 : Int) ≤ 1 ∧ 1 < (a0.length : Int) then (if (w64 ((w64 ((w64 ((w64 (((a0.getD ((0 : Int)).toNat default).e1) * r757.1.e0.Num)) * r757.1.e1.Den)) + (w64 ((w64 (((a0.getD ((1 : Int)).toNat default).e1) * r757.1.e1.Num)) * r757.1.e0.Den)))) + (w64 ((w64 (a1.e1 * r757.1.e0.Den)) * r757.1.e1.Den)))) = 0 then (nspeculumlaw09_PointScrews_l0_0 k a0 a1 r757 fuel (w64 (x8 + 1))) else (some (.inl ()))) else none) else none)) else none) else (some (.inr ()))
theorem nspeculumlaw09_PointScrews_l0_0_ok (k : Nat) (a0 : (List A23)) (a1 : A23) (r757 : (A27 × Int)) : ∀ (fuel : Nat) (x8 : Int) (r : Sum Unit Unit), nspeculumlaw09_PointScrews_l0_0 k a0 a1 r757 fuel x8 = some r → (match r with | .inl r => VLoop none Go.Proofs.Try.prog (szF Go.Proofs.Try.f3) (bodyOf Go.Proofs.Try.f3 0) (nspeculumlaw09_PointScrews_l0_0_h a0 a1 r757 x8) .ret (nspeculumlaw09_PointScrews_l0_0_e0 a0 a1 r757 r) | .inr r => VLoop none Go.Proofs.Try.prog (szF Go.Proofs.Try.f3) (bodyOf Go.Proofs.Try.f3 0) (nspeculumlaw09_PointScrews_l0_0_h a0 a1 r757 x8) (.exit 0) (nspeculumlaw09_PointScrews_l0_0_e1 a0 a1 r757 r)) := by
 intro fuel
 induction fuel with
 | zero => intro x8 r h; rw [nspeculumlaw09_PointScrews_l0_0.eq_1] at h; cases h
 | succ fuel ih =>
  intro x8 r h
  rw [nspeculumlaw09_PointScrews_l0_0.eq_2] at h
  rcases ifs h with ⟨h833, h⟩ | ⟨h833, h⟩
  ·obtain ⟨h834, h⟩ := ifn h
   rcases ifs h with ⟨h835, h⟩ | ⟨h835, h⟩
   ·have e836 := (show ((0 : Int) ≤ x8 ∧ x8 < ((2 : Nat) : Int)) ∧ VV.tp (List.flatMap c_A23 a0) (((0 : Int)).toNat * 2 + Int.toNat x8 * 1) = VV.tp (List.flatMap c_A23 a0) (((0 : Int)).toNat * 2 + 0) from ⟨⟨by have := (of_decide_eq_true (decide_eq_true h835)); omega, by have := (of_decide_eq_true (decide_eq_true h835)); omega⟩, by rw [show x8 = (0 : Int) from (of_decide_eq_true (decide_eq_true h835))]; rfl⟩)
    have e837 := (show loadL Go.Proofs.Try.prog 3 (((0 : Int)).toNat * 2 + 0) (List.flatMap c_A23 a0) = some (vi ((a0.getD ((0 : Int)).toNat default).e0)) from (ld_flat ag3 c_A23 2 0 len_c_A23 (by omega) a0 default h834 (by omega)).trans rfl)
    have e838 := (show (0:Int) ≤ 0 ∧ (0:Int) < ((2 : Nat) : Int) from ⟨by decide, by decide⟩)
    have e839 := (show (0:Int) ≤ 1 ∧ (1:Int) < ((2 : Nat) : Int) from ⟨by decide, by decide⟩)
    obtain ⟨h840, h⟩ := ifn h
    have e841 := (show ((0 : Int) ≤ x8 ∧ x8 < ((2 : Nat) : Int)) ∧ VV.tp (List.flatMap c_A23 a0) (((1 : Int)).toNat * 2 + Int.toNat x8 * 1) = VV.tp (List.flatMap c_A23 a0) (((1 : Int)).toNat * 2 + 0) from ⟨⟨by have := (of_decide_eq_true (decide_eq_true h835)); omega, by have := (of_decide_eq_true (decide_eq_true h835)); omega⟩, by rw [show x8 = (0 : Int) from (of_decide_eq_true (decide_eq_true h835))]; rfl⟩)
    have e842 := (show loadL Go.Proofs.Try.prog 3 (((1 : Int)).toNat * 2 + 0) (List.flatMap c_A23 a0) = some (vi ((a0.getD ((1 : Int)).toNat default).e0)) from (ld_flat ag3 c_A23 2 0 len_c_A23 (by omega) a0 default h840 (by omega)).trans rfl)
    have e843 := (show (0:Int) ≤ 1 ∧ (1:Int) < ((2 : Nat) : Int) from ⟨by decide, by decide⟩)
    have e844 := (show (0:Int) ≤ 0 ∧ (0:Int) < ((2 : Nat) : Int) from ⟨by decide, by decide⟩)
    have e845 := (show (0 ≤ x8 ∧ x8 < ((2 : Nat) : Int)) ∧ VV.pt 0 (0 + x8.toNat * 1) = VV.pt 0 0 from ⟨⟨by have := (of_decide_eq_true (decide_eq_true h835)); omega, by have := (of_decide_eq_true (decide_eq_true h835)); omega⟩, by rw [show x8 = (0 : Int) from (of_decide_eq_true (decide_eq_true h835))]; rfl⟩)
    have e846 := (show (0:Int) ≤ 0 ∧ (0:Int) < ((2 : Nat) : Int) from ⟨by decide, by decide⟩)
    have e847 := (show (0:Int) ≤ 1 ∧ (1:Int) < ((2 : Nat) : Int) from ⟨by decide, by decide⟩)
    have e848 := (ti (ti (an h834 (an e836 (an e837 (an e838 (ti (ti (ti (an e839 (ti (ti (ti (ti (ti (an h840 (an e841 (an e842 (an e843 (ti (ti (ti (an e844 (ti (ti (ti (ti (ti (an e845 (ti (an e846 (ti (ti (ti (an e847 (ti (ti (ti (ti (ti trivial))))))))))))))))))))))))))))))))))))))))
    rcases ifs h with ⟨h849, h⟩ | ⟨h849, h⟩
    ·have h2 := ih _ _ h
     obtain ⟨q, hv, hq⟩ := pkR (rd := none) (P := Go.Proofs.Try.prog) (fn := Go.Proofs.Try.f3) (k := 0) (s := (nspeculumlaw09_PointScrews_l0_0_h a0 a1 r757 x8)) (ans := [.reg (.n :: .n :: []), .br true, .reg (arS1_7 a0), .br false, .reg (nN 3 [])]) (c := ⟨[(0, none), (3, none), (5, none), (8, none)], [none, none, none, none], []⟩) (e := .normal) (s1 := (nspeculumlaw09_PointScrews_l0_0_h a0 a1 r757 (w64 (x8 + 1)))) (an (an (an (ti (ti trivial)) (an (decide_eq_true h833) trivial)) (an (an e848 (an (not_f (decide_eq_true h849)) trivial)) (ti (ti (ti trivial))))) (ti trivial)) (by kernel_rfl)
     cases r with
     | inl r => exact round_next pm pn hv hq h2
     | inr r =>
      exact round_next pm pn hv hq h2
    ·injection h with h; subst h
     exact round_stop (c := ⟨[(4, none)], [], []⟩) (s1 := (nspeculumlaw09_PointScrews_l0_0_e0 a0 a1 r757 ())) pm pn (ans := [.reg (.n :: .n :: []), .br true, .reg (arS1_7 a0), .br true, .reg (.n :: [])]) (by kernel_rfl) (by intro e; cases e) (an (an (an (ti (ti trivial)) (an (decide_eq_true h833) trivial)) (an e848 (an (not_t (decide_eq_false h849)) (an (ti trivial) trivial)))) (ti trivial))
   ·rcases ifs h with ⟨h850, h⟩ | ⟨h850, h⟩
    ·have e851 := (show ((0 : Int) ≤ x8 ∧ x8 < ((2 : Nat) : Int)) ∧ VV.tp (List.flatMap c_A23 a0) (((0 : Int)).toNat * 2 + Int.toNat x8 * 1) = VV.tp (List.flatMap c_A23 a0) (((0 : Int)).toNat * 2 + 1) from ⟨⟨by have := (of_decide_eq_true (decide_eq_true h850)); omega, by have := (of_decide_eq_true (decide_eq_true h850)); omega⟩, by rw [show x8 = (1 : Int) from (of_decide_eq_true (decide_eq_true h850))]; rfl⟩)
     have e852 := (show loadL Go.Proofs.Try.prog 3 (((0 : Int)).toNat * 2 + 1) (List.flatMap c_A23 a0) = some (vi ((a0.getD ((0 : Int)).toNat default).e1)) from (ld_flat ag3 c_A23 2 1 len_c_A23 (by omega) a0 default h834 (by omega)).trans rfl)
     have e853 := (show (0:Int) ≤ 0 ∧ (0:Int) < ((2 : Nat) : Int) from ⟨by decide, by decide⟩)
     have e854 := (show (0:Int) ≤ 1 ∧ (1:Int) < ((2 : Nat) : Int) from ⟨by decide, by decide⟩)
     obtain ⟨h855, h⟩ := ifn h
     have e856 := (show ((0 : Int) ≤ x8 ∧ x8 < ((2 : Nat) : Int)) ∧ VV.tp (List.flatMap c_A23 a0) (((1 : Int)).toNat * 2 + Int.toNat x8 * 1) = VV.tp (List.flatMap c_A23 a0) (((1 : Int)).toNat * 2 + 1) from ⟨⟨by have := (of_decide_eq_true (decide_eq_true h850)); omega, by have := (of_decide_eq_true (decide_eq_true h850)); omega⟩, by rw [show x8 = (1 : Int) from (of_decide_eq_true (decide_eq_true h850))]; rfl⟩)
     have e857 := (show loadL Go.Proofs.Try.prog 3 (((1 : Int)).toNat * 2 + 1) (List.flatMap c_A23 a0) = some (vi ((a0.getD ((1 : Int)).toNat default).e1)) from (ld_flat ag3 c_A23 2 1 len_c_A23 (by omega) a0 default h855 (by omega)).trans rfl)
     have e858 := (show (0:Int) ≤ 1 ∧ (1:Int) < ((2 : Nat) : Int) from ⟨by decide, by decide⟩)
     have e859 := (show (0:Int) ≤ 0 ∧ (0:Int) < ((2 : Nat) : Int) from ⟨by decide, by decide⟩)
     have e860 := (show (0 ≤ x8 ∧ x8 < ((2 : Nat) : Int)) ∧ VV.pt 0 (0 + x8.toNat * 1) = VV.pt 0 1 from ⟨⟨by have := (of_decide_eq_true (decide_eq_true h850)); omega, by have := (of_decide_eq_true (decide_eq_true h850)); omega⟩, by rw [show x8 = (1 : Int) from (of_decide_eq_true (decide_eq_true h850))]; rfl⟩)
     have e861 := (show (0:Int) ≤ 0 ∧ (0:Int) < ((2 : Nat) : Int) from ⟨by decide, by decide⟩)
     have e862 := (show (0:Int) ≤ 1 ∧ (1:Int) < ((2 : Nat) : Int) from ⟨by decide, by decide⟩)
     have e863 := (ti (ti (an h834 (an e851 (an e852 (an e853 (ti (ti (ti (an e854 (ti (ti (ti (ti (ti (an h855 (an e856 (an e857 (an e858 (ti (ti (ti (an e859 (ti (ti (ti (ti (ti (an e860 (ti (an e861 (ti (ti (ti (an e862 (ti (ti (ti (ti (ti trivial))))))))))))))))))))))))))))))))))))))))
     rcases ifs h with ⟨h864, h⟩ | ⟨h864, h⟩
     ·have h2 := ih _ _ h
      obtain ⟨q, hv, hq⟩ := pkR (rd := none) (P := Go.Proofs.Try.prog) (fn := Go.Proofs.Try.f3) (k := 0) (s := (nspeculumlaw09_PointScrews_l0_0_h a0 a1 r757 x8)) (ans := [.reg (.n :: .n :: []), .br true, .reg (arS1_8 a0), .br false, .reg (nN 3 [])]) (c := ⟨[(0, none), (3, none), (5, none), (8, none)], [none, none, none, none], []⟩) (e := .normal) (s1 := (nspeculumlaw09_PointScrews_l0_0_h a0 a1 r757 (w64 (x8 + 1)))) (an (an (an (ti (ti trivial)) (an (decide_eq_true h833) trivial)) (an (an e863 (an (not_f (decide_eq_true h864)) trivial)) (ti (ti (ti trivial))))) (ti trivial)) (by kernel_rfl)
      cases r with
      | inl r => exact round_next pm pn hv hq h2
      | inr r =>
       exact round_next pm pn hv hq h2
     ·injection h with h; subst h
      exact round_stop (c := ⟨[(4, none)], [], []⟩) (s1 := (nspeculumlaw09_PointScrews_l0_0_e0 a0 a1 r757 ())) pm pn (ans := [.reg (.n :: .n :: []), .br true, .reg (arS1_8 a0), .br true, .reg (.n :: [])]) (by kernel_rfl) (by intro e; cases e) (an (an (an (ti (ti trivial)) (an (decide_eq_true h833) trivial)) (an e863 (an (not_t (decide_eq_false h864)) (an (ti trivial) trivial)))) (ti trivial))
    ·cases h
  ·injection h with h; subst h
   exact round_stop (c := ⟨[], [], []⟩) (s1 := (nspeculumlaw09_PointScrews_l0_0_e1 a0 a1 r757 ())) pm pn (ans := [.reg (.n :: .n :: []), .br false]) (by kernel_rfl) (by intro e; cases e) (an (an (ti (ti trivial)) (an (decide_eq_false h833) trivial)) (ti trivial))
def nspeculumlaw09_PointScrews (k : Nat) (a0 : (List A23)) (a1 : A23) : Option Bool :=
  (nawake k).bind fun r751 => (if r751 = true then (if 4 < (a0.length : Int) then (some true) else (if a0.length ≤ 1000000000 then ((npoint_Collimate k a0 a1).bind fun r757 => ((nspeculumref09_CheckScrews k a0).bind fun r761 => (if ([] : List A23).length + a0.length ≤ 1000000000 then ((npoint_CheckScrews k (([] : List A23) ++ a0)).bind fun r766 => (if r766 = r761 then (if r761 = 0 then ((nspeculumref09_IsOff k a1).bind fun r771 => (if r771 = true then (if r757.2 = 0 then ((nspeculumref09_Collimate k a0 a1).bind fun r780 => (if ((r757.1.e0.Num : Int) == r780.e0.Num && ((r757.1.e0.Den : Int) == r780.e0.Den && ((r757.1.e1.Num : Int) == r780.e1.Num && ((r757.1.e1.Den : Int) == r780.e1.Den && true)))) = true then ((nspeculumlaw09_PointScrews_l0_0 k a0 a1 r757 k 0).bind fun r866 => (match r866 with | .inl r867 => (some false) | .inr r868 => (some true))) else (some false))) else (some false)) else (if r757.2 = 2 then (some ((r757.1.e0.Num : Int) == 0 && ((r757.1.e0.Den : Int) == 0 && ((r757.1.e1.Num : Int) == 0 && ((r757.1.e1.Den : Int) == 0 && true))))) else (some false)))) else (if r757.2 = r761 then (some ((r757.1.e0.Num : Int) == 0 && ((r757.1.e0.Den : Int) == 0 && ((r757.1.e1.Num : Int) == 0 && ((r757.1.e1.Den : Int) == 0 && true))))) else (some false))) else (some false))) else none))) else none)) else (some false))
theorem nspeculumlaw09_PointScrews_ok (k : Nat) (a0 : (List A23)) (a1 : A23) (r : Bool) (h : nspeculumlaw09_PointScrews k a0 a1 = some r) : VC Go.Proofs.Try.prog 3 [VV.tr (List.flatMap c_A23 a0) a0.length, VV.ag (c_A23 a1)] (vb r) := by
 unfold nspeculumlaw09_PointScrews at h
 obtain ⟨r751, h752, h⟩ := bs h
 rcases ifs h with ⟨h753, h⟩ | ⟨h753, h⟩
 ·rcases ifs h with ⟨h754, h⟩ | ⟨h754, h⟩
  ·injection h with h; subst h
   exact fun_ok pm pn Go.Proofs.Try.func3 (r0 := vb true) (ans := [.reg (.n :: .n :: []), .reg (.call (vb r751) :: .n :: []), .br false, .reg (nN 3 []), .br true, .reg (.n :: [])]) (fr := true) (by kernel_rfl) (an (an (ti (ti trivial)) (an (an (an (nawake_ok k _ h752) (ti trivial)) (an (not_f h753) trivial)) (an (ti (ti (ti trivial))) (an (decide_eq_true h754) (an (ti trivial) trivial))))) (ti trivial)) (Wv.refl _)
  ·obtain ⟨h755, h⟩ := ifn h
   have e756 := (show List.length (List.flatMap c_A23 a0) = a0.length * 2 ∧ a0.length * 16 ≤ 140737488355328 ∧ a0.length < 1099511627776 ∧ List.all (List.flatMap c_A23 a0) VV.still = true from ⟨(by rw [flatMap_len len_c_A23] <;> simp), (by first | omega | (simp at h755 ⊢; omega)), (by first | omega | (simp at h755 ⊢; omega)), (by exact still_c_A23 _)⟩)
   obtain ⟨r757, h758, h⟩ := bs h
   have e759 := (VC.args (npoint_Collimate_ok k a0 a1 _ h758) (eqS1_9 a0 a1))
   have e760 := (ti (ti (an e756 (ti (an e759 (ti (ti (ti (ti (ti (ti trivial)))))))))))
   obtain ⟨r761, h762, h⟩ := bs h
   have e763 := (nspeculumref09_CheckScrews_ok k a0 _ h762)
   obtain ⟨h764, h⟩ := ifn h
   have e765 := (show List.length [] = 0 * 2 ∧ List.length (List.flatMap c_A23 a0) = a0.length * 2 ∧ (0 + a0.length) * 16 ≤ 140737488355328 ∧ 0 + a0.length < 1099511627776 ∧ List.all (List.flatMap c_A23 a0) VV.still = true from ⟨(by rw [show [] = List.flatMap c_A23 ([] : List A23) from rfl]; rw [flatMap_len len_c_A23] <;> simp), (by rw [flatMap_len len_c_A23] <;> simp), (by first | omega | (simp at h764 ⊢; omega)), (by first | omega | (simp at h764 ⊢; omega)), (by exact still_c_A23 _)⟩)
   obtain ⟨r766, h767, h⟩ := bs h
   have e768 := (show VC Go.Proofs.Try.prog 8 [VV.tr (List.drop 0 (List.map unfr ([] ++ (List.flatMap c_A23 a0)))) (0 + a0.length)] (vi r766) from (VC.args (npoint_CheckScrews_ok k (([] : List A23) ++ a0) _ h767) (by first | rfl | (simp only [show [] ++ (List.flatMap c_A23 a0) = List.flatMap c_A23 (([] : List A23) ++ a0) from (by rw [show [] = List.flatMap c_A23 ([] : List A23) from rfl]; exact List.flatMap_append.symm), drop0, unfr_vi, unfr_vb, unfr_vs, List.map_cons, List.map_nil, un_i, un_k, un_b, un_s, un_tr, un_fr, List.length_map, List.length_replicate, List.length_append, List.length_set, List.length_cons, List.length_nil, unfr_c_A23, unfr_c_SFrac, unfr_c_A27]; done) | (simp only [show [] ++ (List.flatMap c_A23 a0) = List.flatMap c_A23 (([] : List A23) ++ a0) from (by rw [show [] = List.flatMap c_A23 ([] : List A23) from rfl]; exact List.flatMap_append.symm), drop0, unfr_vi, unfr_vb, unfr_vs, List.map_cons, List.map_nil, un_i, un_k, un_b, un_s, un_tr, un_fr, List.length_map, List.length_replicate, List.length_append, List.length_set, List.length_cons, List.length_nil, unfr_c_A23, unfr_c_SFrac, unfr_c_A27]; rfl) | (simp only [show [] ++ (List.flatMap c_A23 a0) = List.flatMap c_A23 (([] : List A23) ++ a0) from (by rw [show [] = List.flatMap c_A23 ([] : List A23) from rfl]; exact List.flatMap_append.symm), drop0, unfr_vi, unfr_vb, unfr_vs, List.map_cons, List.map_nil, un_i, un_k, un_b, un_s, un_tr, un_fr, List.length_map, List.length_replicate, List.length_append, List.length_set, List.length_cons, List.length_nil, unfr_c_A23, unfr_c_SFrac, unfr_c_A27, List.length_cons, List.length_nil, List.length_append]; done))))
   rcases ifs h with ⟨h769, h⟩ | ⟨h769, h⟩
   ·rcases ifs h with ⟨h770, h⟩ | ⟨h770, h⟩
    ·obtain ⟨r771, h772, h⟩ := bs h
     have e773 := (an (decide_eq_true h770) (nspeculumref09_IsOff_ok k a1 _ h772))
     have e774 := (ti (ti (ti (an (an (decide_eq_true h770) trivial) (an e773 (an (an (decide_eq_true h770) trivial) (an (decide_eq_true h770) trivial)))))))
     rcases ifs h with ⟨h775, h⟩ | ⟨h775, h⟩
     ·rcases ifs h with ⟨h776, h⟩ | ⟨h776, h⟩
      ·have e777 := (an (not_f (decide_eq_true h776)) trivial)
       have e778 := (an (not_f (decide_eq_true h776)) trivial)
       have e779 := (an (not_f (decide_eq_true h776)) trivial)
       obtain ⟨r780, h781, h⟩ := bs h
       have e782 := (an (not_f (decide_eq_true h776)) (nspeculumref09_Collimate_ok k a0 a1 _ h781))
       have e783 := (an (not_f (decide_eq_true h776)) (show List.map kdV [Value.int .i64 r757.1.e0.Num, Value.int .i64 r757.1.e0.Den, Value.int .i64 r757.1.e1.Num, Value.int .i64 r757.1.e1.Den] = List.map kdV [Value.int .i64 r780.e0.Num, Value.int .i64 r780.e0.Den, Value.int .i64 r780.e1.Num, Value.int .i64 r780.e1.Den] ∧ EqOK Go.Proofs.Try.prog 27 (List.map kdV [Value.int .i64 r780.e0.Num, Value.int .i64 r780.e0.Den, Value.int .i64 r780.e1.Num, Value.int .i64 r780.e1.Den]) from ⟨rfl, eqok27⟩))
       have e784 := (ti (ti (ti (an e777 (an e778 (an e779 (an e782 (an e783 (an (not_f (decide_eq_true h776)) trivial)))))))))
       rcases ifs h with ⟨h785, h⟩ | ⟨h785, h⟩
       ·obtain ⟨r866, h865, h⟩ := bs h
        have hph865 := nspeculumlaw09_PointScrews_l0_0_ok k a0 a1 r757 _ _ _ h865
        cases r866 with
        | inl r867 =>
         dsimp only at h
         have e869 := (an (ti trivial) (VRun.loop hph865))
         injection h with h; subst h
         exact fun_ok pm pn Go.Proofs.Try.func3 (r0 := vb false) (ans := [.reg (.n :: .n :: []), .reg (.call (vb r751) :: .n :: []), .br false, .reg (nN 3 []), .br false, .reg (.b true :: nN 3 (.call (VV.tu [VV.ag (c_A27 r757.1), vi r757.2]) :: nN 6 [])), .reg (.n :: .call (vi r761) :: .n :: []), .reg (nN 3 (.call (vi r766) :: .n :: .n :: [])), .br false, .reg (nN 4 (.call (vb r771) :: .n :: .b true :: [])), .br false, .reg (.n :: .n :: []), .br false, .reg (nN 6 (.call (VV.ag (c_A27 r780)) :: .n :: .b false :: [])), .br false, .reg (.n :: []), .sub ⟨[(0, none), (3, none), (5, none), (8, none)], [none, none, none, none], []⟩ .ret (nspeculumlaw09_PointScrews_l0_0_e0 a0 a1 r757 r867)]) (fr := true) (by kernel_rfl) (an (an (ti (ti trivial)) (an (an (an (nawake_ok k _ h752) (ti trivial)) (an (not_f h753) trivial)) (an (an (ti (ti (ti trivial))) (an (decide_eq_false h754) trivial)) (an e760 (an (ti (an e763 (ti trivial))) (an (an (ti (ti (an e765 (an e768 (ti (ti trivial)))))) (an (not_f (decide_eq_true h769)) trivial)) (an (an e774 (an (not_f h775) trivial)) (an (an (ti (ti trivial)) (an (not_f (decide_eq_true h770)) trivial)) (an (an e784 (an (not_f h785) trivial)) (an (ti trivial) e869)))))))))) (ti trivial)) (Wv.refl _)
        | inr r868 =>
         dsimp only at h
         have e870 := (an (ti trivial) (VRun.loop hph865))
         injection h with h; subst h
         exact fun_ok pm pn Go.Proofs.Try.func3 (r0 := vb true) (ans := [.reg (.n :: .n :: []), .reg (.call (vb r751) :: .n :: []), .br false, .reg (nN 3 []), .br false, .reg (.b true :: nN 3 (.call (VV.tu [VV.ag (c_A27 r757.1), vi r757.2]) :: nN 6 [])), .reg (.n :: .call (vi r761) :: .n :: []), .reg (nN 3 (.call (vi r766) :: .n :: .n :: [])), .br false, .reg (nN 4 (.call (vb r771) :: .n :: .b true :: [])), .br false, .reg (.n :: .n :: []), .br false, .reg (nN 6 (.call (VV.ag (c_A27 r780)) :: .n :: .b false :: [])), .br false, .reg (.n :: []), .sub ⟨[(0, none), (3, none), (5, none), (8, none)], [none, none, none, none], []⟩ (.exit 0) (nspeculumlaw09_PointScrews_l0_0_e1 a0 a1 r757 r868), .reg (.n :: [])]) (fr := true) (by kernel_rfl) (an (an (ti (ti trivial)) (an (an (an (nawake_ok k _ h752) (ti trivial)) (an (not_f h753) trivial)) (an (an (ti (ti (ti trivial))) (an (decide_eq_false h754) trivial)) (an e760 (an (ti (an e763 (ti trivial))) (an (an (ti (ti (an e765 (an e768 (ti (ti trivial)))))) (an (not_f (decide_eq_true h769)) trivial)) (an (an e774 (an (not_f h775) trivial)) (an (an (ti (ti trivial)) (an (not_f (decide_eq_true h770)) trivial)) (an (an e784 (an (not_f h785) trivial)) (an (an (ti trivial) e870) (an (ti trivial) trivial))))))))))) (ti trivial)) (Wv.refl _)
       ·injection h with h; subst h
        exact fun_ok pm pn Go.Proofs.Try.func3 (r0 := vb false) (ans := [.reg (.n :: .n :: []), .reg (.call (vb r751) :: .n :: []), .br false, .reg (nN 3 []), .br false, .reg (.b true :: nN 3 (.call (VV.tu [VV.ag (c_A27 r757.1), vi r757.2]) :: nN 6 [])), .reg (.n :: .call (vi r761) :: .n :: []), .reg (nN 3 (.call (vi r766) :: .n :: .n :: [])), .br false, .reg (nN 4 (.call (vb r771) :: .n :: .b true :: [])), .br false, .reg (.n :: .n :: []), .br false, .reg (nN 6 (.call (VV.ag (c_A27 r780)) :: .n :: .b false :: [])), .br true, .reg (.n :: [])]) (fr := true) (by kernel_rfl) (an (an (ti (ti trivial)) (an (an (an (nawake_ok k _ h752) (ti trivial)) (an (not_f h753) trivial)) (an (an (ti (ti (ti trivial))) (an (decide_eq_false h754) trivial)) (an e760 (an (ti (an e763 (ti trivial))) (an (an (ti (ti (an e765 (an e768 (ti (ti trivial)))))) (an (not_f (decide_eq_true h769)) trivial)) (an (an e774 (an (not_f h775) trivial)) (an (an (ti (ti trivial)) (an (not_f (decide_eq_true h770)) trivial)) (an e784 (an (not_t (bool_f h785)) (an (ti trivial) trivial))))))))))) (ti trivial)) (Wv.refl _)
      ·have e871 := (ti (ti (ti (an (not_t (decide_eq_false h776)) (an (not_t (decide_eq_false h776)) (an (not_t (decide_eq_false h776)) (an (not_t (decide_eq_false h776)) (an (not_t (decide_eq_false h776)) (an (not_t (decide_eq_false h776)) trivial)))))))))
       injection h with h; subst h
       exact fun_ok pm pn Go.Proofs.Try.func3 (r0 := vb false) (ans := [.reg (.n :: .n :: []), .reg (.call (vb r751) :: .n :: []), .br false, .reg (nN 3 []), .br false, .reg (.b true :: nN 3 (.call (VV.tu [VV.ag (c_A27 r757.1), vi r757.2]) :: nN 6 [])), .reg (.n :: .call (vi r761) :: .n :: []), .reg (nN 3 (.call (vi r766) :: .n :: .n :: [])), .br false, .reg (nN 4 (.call (vb r771) :: .n :: .b true :: [])), .br false, .reg (.n :: .n :: []), .br false, .reg (nN 3 (nS 5 (.b true :: []))), .br true, .reg (.n :: [])]) (fr := true) (by kernel_rfl) (an (an (ti (ti trivial)) (an (an (an (nawake_ok k _ h752) (ti trivial)) (an (not_f h753) trivial)) (an (an (ti (ti (ti trivial))) (an (decide_eq_false h754) trivial)) (an e760 (an (ti (an e763 (ti trivial))) (an (an (ti (ti (an e765 (an e768 (ti (ti trivial)))))) (an (not_f (decide_eq_true h769)) trivial)) (an (an e774 (an (not_f h775) trivial)) (an (an (ti (ti trivial)) (an (not_f (decide_eq_true h770)) trivial)) (an e871 (an rt (an (ti trivial) trivial))))))))))) (ti trivial)) (Wv.refl _)
     ·rcases ifs h with ⟨h872, h⟩ | ⟨h872, h⟩
      ·have e873 := (an (decide_eq_true h872) (show List.map kdV [Value.int .i64 r757.1.e0.Num, Value.int .i64 r757.1.e0.Den, Value.int .i64 r757.1.e1.Num, Value.int .i64 r757.1.e1.Den] = List.map kdV [Value.int .i64 0, Value.int .i64 0, Value.int .i64 0, Value.int .i64 0] ∧ EqOK Go.Proofs.Try.prog 27 (List.map kdV [Value.int .i64 0, Value.int .i64 0, Value.int .i64 0, Value.int .i64 0]) from ⟨rfl, eqok27⟩))
       have e874 := (ti (ti (ti (ti (an (an (decide_eq_true h872) trivial) (an (an (decide_eq_true h872) trivial) (an e873 (an (decide_eq_true h872) (ti trivial)))))))))
       injection h with h; subst h
       exact fun_ok pm pn Go.Proofs.Try.func3 (r0 := vb ((r757.1.e0.Num : Int) == 0 && ((r757.1.e0.Den : Int) == 0 && ((r757.1.e1.Num : Int) == 0 && ((r757.1.e1.Den : Int) == 0 && true))))) (ans := [.reg (.n :: .n :: []), .reg (.call (vb r751) :: .n :: []), .br false, .reg (nN 3 []), .br false, .reg (.b true :: nN 3 (.call (VV.tu [VV.ag (c_A27 r757.1), vi r757.2]) :: nN 6 [])), .reg (.n :: .call (vi r761) :: .n :: []), .reg (nN 3 (.call (vi r766) :: .n :: .n :: [])), .br false, .reg (nN 4 (.call (vb r771) :: .n :: .b true :: [])), .br true, .reg (.n :: []), .reg (.n :: .n :: []), .br true, .reg (nN 7 (.b true :: .n :: []))]) (fr := true) (by kernel_rfl) (an (an (ti (ti trivial)) (an (an (an (nawake_ok k _ h752) (ti trivial)) (an (not_f h753) trivial)) (an (an (ti (ti (ti trivial))) (an (decide_eq_false h754) trivial)) (an e760 (an (ti (an e763 (ti trivial))) (an (an (ti (ti (an e765 (an e768 (ti (ti trivial)))))) (an (not_f (decide_eq_true h769)) trivial)) (an (an e774 (an (not_t (bool_f h775)) (ti trivial))) (an (ti (ti trivial)) (an (show (!(decide ((2 : Int) = 0))) = true from (not_t (decide_eq_false (by decide)))) (an e874 trivial)))))))))) (ti trivial)) (Wv.refl _)
      ·have e875 := (ti (ti (ti (ti (an (decide_eq_false h872) (an (decide_eq_false h872) (an (decide_eq_false h872) (an (decide_eq_false h872) (ti trivial)))))))))
       injection h with h; subst h
       exact fun_ok pm pn Go.Proofs.Try.func3 (r0 := vb false) (ans := [.reg (.n :: .n :: []), .reg (.call (vb r751) :: .n :: []), .br false, .reg (nN 3 []), .br false, .reg (.b true :: nN 3 (.call (VV.tu [VV.ag (c_A27 r757.1), vi r757.2]) :: nN 6 [])), .reg (.n :: .call (vi r761) :: .n :: []), .reg (nN 3 (.call (vi r766) :: .n :: .n :: [])), .br false, .reg (nN 4 (.call (vb r771) :: .n :: .b true :: [])), .br true, .reg (.n :: []), .reg (.n :: .n :: []), .br true, .reg (nN 4 (nS 3 (.b false :: .n :: [])))]) (fr := true) (by kernel_rfl) (an (an (ti (ti trivial)) (an (an (an (nawake_ok k _ h752) (ti trivial)) (an (not_f h753) trivial)) (an (an (ti (ti (ti trivial))) (an (decide_eq_false h754) trivial)) (an e760 (an (ti (an e763 (ti trivial))) (an (an (ti (ti (an e765 (an e768 (ti (ti trivial)))))) (an (not_f (decide_eq_true h769)) trivial)) (an (an e774 (an (not_t (bool_f h775)) (ti trivial))) (an (ti (ti trivial)) (an (show (!(decide ((2 : Int) = 0))) = true from (not_t (decide_eq_false (by decide)))) (an e875 trivial)))))))))) (ti trivial)) (Wv.refl _)
    ·have e876 := (ti (ti (ti (an (decide_eq_false h770) (an (decide_eq_false h770) (an (decide_eq_false h770) (an (decide_eq_false h770) trivial)))))))
     rcases ifs h with ⟨h877, h⟩ | ⟨h877, h⟩
     ·have e878 := (an (decide_eq_true h877) (show List.map kdV [Value.int .i64 r757.1.e0.Num, Value.int .i64 r757.1.e0.Den, Value.int .i64 r757.1.e1.Num, Value.int .i64 r757.1.e1.Den] = List.map kdV [Value.int .i64 0, Value.int .i64 0, Value.int .i64 0, Value.int .i64 0] ∧ EqOK Go.Proofs.Try.prog 27 (List.map kdV [Value.int .i64 0, Value.int .i64 0, Value.int .i64 0, Value.int .i64 0]) from ⟨rfl, eqok27⟩))
      have e879 := (ti (ti (ti (ti (an (an (decide_eq_true h877) trivial) (an (an (decide_eq_true h877) trivial) (an e878 (an (decide_eq_true h877) (ti trivial)))))))))
      injection h with h; subst h
      exact fun_ok pm pn Go.Proofs.Try.func3 (r0 := vb ((r757.1.e0.Num : Int) == 0 && ((r757.1.e0.Den : Int) == 0 && ((r757.1.e1.Num : Int) == 0 && ((r757.1.e1.Den : Int) == 0 && true))))) (ans := [.reg (.n :: .n :: []), .reg (.call (vb r751) :: .n :: []), .br false, .reg (nN 3 []), .br false, .reg (.b true :: nN 3 (.call (VV.tu [VV.ag (c_A27 r757.1), vi r757.2]) :: nN 6 [])), .reg (.n :: .call (vi r761) :: .n :: []), .reg (nN 3 (.call (vi r766) :: .n :: .n :: [])), .br false, .reg (nN 3 (nS 3 (.b false :: []))), .br false, .reg (.n :: .n :: []), .br true, .reg (nN 7 (.b true :: .n :: []))]) (fr := true) (by kernel_rfl) (an (an (ti (ti trivial)) (an (an (an (nawake_ok k _ h752) (ti trivial)) (an (not_f h753) trivial)) (an (an (ti (ti (ti trivial))) (an (decide_eq_false h754) trivial)) (an e760 (an (ti (an e763 (ti trivial))) (an (an (ti (ti (an e765 (an e768 (ti (ti trivial)))))) (an (not_f (decide_eq_true h769)) trivial)) (an (an e876 (an rf trivial)) (an (ti (ti trivial)) (an (not_t (decide_eq_false h770)) (an e879 trivial)))))))))) (ti trivial)) (Wv.refl _)
     ·have e880 := (ti (ti (ti (ti (an (decide_eq_false h877) (an (decide_eq_false h877) (an (decide_eq_false h877) (an (decide_eq_false h877) (ti trivial)))))))))
      injection h with h; subst h
      exact fun_ok pm pn Go.Proofs.Try.func3 (r0 := vb false) (ans := [.reg (.n :: .n :: []), .reg (.call (vb r751) :: .n :: []), .br false, .reg (nN 3 []), .br false, .reg (.b true :: nN 3 (.call (VV.tu [VV.ag (c_A27 r757.1), vi r757.2]) :: nN 6 [])), .reg (.n :: .call (vi r761) :: .n :: []), .reg (nN 3 (.call (vi r766) :: .n :: .n :: [])), .br false, .reg (nN 3 (nS 3 (.b false :: []))), .br false, .reg (.n :: .n :: []), .br true, .reg (nN 4 (nS 3 (.b false :: .n :: [])))]) (fr := true) (by kernel_rfl) (an (an (ti (ti trivial)) (an (an (an (nawake_ok k _ h752) (ti trivial)) (an (not_f h753) trivial)) (an (an (ti (ti (ti trivial))) (an (decide_eq_false h754) trivial)) (an e760 (an (ti (an e763 (ti trivial))) (an (an (ti (ti (an e765 (an e768 (ti (ti trivial)))))) (an (not_f (decide_eq_true h769)) trivial)) (an (an e876 (an rf trivial)) (an (ti (ti trivial)) (an (not_t (decide_eq_false h770)) (an e880 trivial)))))))))) (ti trivial)) (Wv.refl _)
   ·injection h with h; subst h
    exact fun_ok pm pn Go.Proofs.Try.func3 (r0 := vb false) (ans := [.reg (.n :: .n :: []), .reg (.call (vb r751) :: .n :: []), .br false, .reg (nN 3 []), .br false, .reg (.b true :: nN 3 (.call (VV.tu [VV.ag (c_A27 r757.1), vi r757.2]) :: nN 6 [])), .reg (.n :: .call (vi r761) :: .n :: []), .reg (nN 3 (.call (vi r766) :: .n :: .n :: [])), .br true, .reg (.n :: [])]) (fr := true) (by kernel_rfl) (an (an (ti (ti trivial)) (an (an (an (nawake_ok k _ h752) (ti trivial)) (an (not_f h753) trivial)) (an (an (ti (ti (ti trivial))) (an (decide_eq_false h754) trivial)) (an e760 (an (ti (an e763 (ti trivial))) (an (ti (ti (an e765 (an e768 (ti (ti trivial)))))) (an (not_t (decide_eq_false h769)) (an (ti trivial) trivial)))))))) (ti trivial)) (Wv.refl _)
 ·injection h with h; subst h
  exact fun_ok pm pn Go.Proofs.Try.func3 (r0 := vb false) (ans := [.reg (.n :: .n :: []), .reg (.call (vb r751) :: .n :: []), .br true, .reg (.n :: [])]) (fr := true) (by kernel_rfl) (an (an (ti (ti trivial)) (an (an (nawake_ok k _ h752) (ti trivial)) (an (not_t (bool_f h753)) (an (ti trivial) trivial)))) (ti trivial)) (Wv.refl _)
end Go.Proofs.Ytpdigpnkanfegaa.Vg

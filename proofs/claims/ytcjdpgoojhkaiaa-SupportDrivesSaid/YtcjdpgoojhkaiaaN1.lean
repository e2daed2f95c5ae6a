/- Written by a program out of the program: what Go functions do, as plain functions, and their contracts. -/
import Derived.Test.YtcjdpgoojhkaiaaWa
namespace Go.Proofs.Ytcjdpgoojhkaiaa.Vg
set_option maxRecDepth 100000
set_option maxHeartbeats 4000000
set_option linter.unusedVariables false
set_option linter.unusedSimpArgs false
open Go Go.Proofs.Ytcjdpgoojhkaiaa.Ev Go.Proofs.Ytcjdpgoojhkaiaa.Vv
structure SFrac where
  Num : Int
  Den : Int
  deriving Inhabited
def c_SFrac (x : SFrac) : List VV := [vi x.Num, vi x.Den]
theorem len_c_SFrac (x : SFrac) : (c_SFrac x).length = 2 := rfl
theorem still_c_SFrac (xs : List SFrac) : (xs.flatMap c_SFrac).all VV.still = true := all_flat (fun _ => rfl) xs
theorem isC_c_SFrac (xs : List SFrac) : (xs.flatMap c_SFrac).all VV.isC = true := all_flat (fun _ => rfl) xs
theorem new0_c_SFrac (xs : List SFrac) : (xs.flatMap c_SFrac).all new0 = true := all_flat (fun _ => rfl) xs
theorem unfr_c_SFrac (xs : List SFrac) : (xs.flatMap c_SFrac).map unfr = xs.flatMap c_SFrac := unfr_flat (fun _ => rfl) xs
theorem ag27 : isAggT Go.Proofs.Try.prog 27 = some true := by kernel_rfl
theorem sz27 : szOf Go.Proofs.Try.prog 27 = some 2 := by kernel_rfl
def nnumber_size (k : Nat) (a0 : Int) : Option Int :=
  if a0 < 0 then (some (IntKind.u64.wrap (0 - (IntKind.u64.wrap a0)))) else (some (IntKind.u64.wrap a0))
theorem nnumber_size_ok (k : Nat) (a0 : Int) (r : Int) (h : nnumber_size k a0 = some r) : VC Go.Proofs.Try.prog 63 [vi a0] (VV.c (.int .u64 r)) := by
 unfold nnumber_size at h
 rcases ifs h with ⟨h107, h⟩ | ⟨h107, h⟩
 ·injection h with h; subst h
  exact fun_ok pm pn Go.Proofs.Try.func63 (r0 := VV.c (.int .u64 (IntKind.u64.wrap (0 - (IntKind.u64.wrap a0))))) (ans := [.reg (.n :: []), .reg (.n :: .n :: []), .br true, .reg (nN 4 [])]) (fr := true) (by kernel_rfl) (an (an (ti trivial) (an (ti (ti trivial)) (an (decide_eq_true h107) (an (ti (ti (ti (ti trivial)))) trivial)))) (ti trivial)) (Wv.refl _)
 ·injection h with h; subst h
  exact fun_ok pm pn Go.Proofs.Try.func63 (r0 := VV.c (.int .u64 (IntKind.u64.wrap a0))) (ans := [.reg (.n :: []), .reg (.n :: .n :: []), .br false, .reg (nN 3 [])]) (fr := true) (by kernel_rfl) (an (an (ti trivial) (an (an (ti (ti trivial)) (an (decide_eq_false h107) trivial)) (an (ti (ti (ti trivial))) trivial))) (ti trivial)) (Wv.refl _)
def nnumber_divisor_l0_0_h  (x0 : Int) (x1 : Int) : VS := ⟨mkA [(0, VV.c (.int .u64 x0)), (1, VV.c (.int .u64 x1))], [], .nil⟩
def nnumber_divisor_l0_0_e0  (r : Int) : VS := ⟨mkA [(0, VV.c (.int .u64 r))], [], .nil⟩
def nnumber_divisor_l0_0 (k : Nat)  : Nat → Int → Int → Option (Int)
  | 0, _, _ => none
  | fuel + 1, x0, x1 => if x1 = 0 then (some x0) else (if x1 ≠ 0 then (nnumber_divisor_l0_0 k  fuel x1 (x0.tmod x1)) else none)
theorem nnumber_divisor_l0_0_ok (k : Nat)  : ∀ (fuel : Nat) (x0 : Int) (x1 : Int) (r : Int), nnumber_divisor_l0_0 k  fuel x0 x1 = some r → (VLoop none Go.Proofs.Try.prog (szF Go.Proofs.Try.f62) (bodyOf Go.Proofs.Try.f62 0) (nnumber_divisor_l0_0_h  x0 x1) (.exit 0) (nnumber_divisor_l0_0_e0  r)) := by
 intro fuel
 induction fuel with
 | zero => intro x0 x1 r h; rw [nnumber_divisor_l0_0.eq_1] at h; cases h
 | succ fuel ih =>
  intro x0 x1 r h
  rw [nnumber_divisor_l0_0.eq_2] at h
  rcases ifs h with ⟨h127, h⟩ | ⟨h127, h⟩
  ·injection h with h; subst h
   exact round_stop (c := ⟨[(0, none)], [], []⟩) (s1 := (nnumber_divisor_l0_0_e0  x0)) pm pn (ans := [.reg (.n :: .n :: []), .br false]) (by kernel_rfl) (by intro e; cases e) (an (an (ti (ti trivial)) (an (not_f (decide_eq_true h127)) trivial)) (ti trivial))
  ·obtain ⟨h128, h⟩ := ifn h
   have h2 := ih _ _ _ h
   obtain ⟨q, hv, hq⟩ := pkR (rd := none) (P := Go.Proofs.Try.prog) (fn := Go.Proofs.Try.f62) (k := 0) (s := (nnumber_divisor_l0_0_h  x0 x1)) (ans := [.reg (.n :: .n :: []), .br true, .reg (nN 6 [])]) (c := ⟨[(0, none), (1, none)], [], []⟩) (e := .normal) (s1 := (nnumber_divisor_l0_0_h  x1 (x0.tmod x1))) (an (an (an (ti (ti trivial)) (an (not_t (decide_eq_false h127)) trivial)) (ti (ti (ti (an h128 (ti (ti trivial))))))) (ti trivial)) (by kernel_rfl)
   exact round_next pm pn hv hq h2
def nnumber_divisor (k : Nat) (a0 : Int) (a1 : Int) : Option Int :=
  (nnumber_divisor_l0_0 k k a0 a1).bind fun r130 => (some r130)
theorem nnumber_divisor_ok (k : Nat) (a0 : Int) (a1 : Int) (r : Int) (h : nnumber_divisor k a0 a1 = some r) : VC Go.Proofs.Try.prog 62 [VV.c (.int .u64 a0), VV.c (.int .u64 a1)] (VV.c (.int .u64 r)) := by
 unfold nnumber_divisor at h
 obtain ⟨r130, h129, h⟩ := bs h
 have hph129 := nnumber_divisor_l0_0_ok k  _ _ _ _ h129
 have e131 := (an (ti trivial) (VRun.loop hph129))
 injection h with h; subst h
 exact fun_ok pm pn Go.Proofs.Try.func62 (r0 := VV.c (.int .u64 r130)) (ans := [.reg (.n :: []), .sub ⟨[(0, none), (1, none)], [], []⟩ (.exit 0) (nnumber_divisor_l0_0_e0  r130), .reg (.n :: .n :: [])]) (fr := true) (by kernel_rfl) (an (an (ti trivial) (an e131 (an (ti (ti trivial)) trivial))) (ti trivial)) (Wv.refl _)
def arN1_0 (z0 : Int) (z1 : Int) (z2 : Int) : List Ans := (nN 6 (.call (VV.c (.int .u64 z0)) :: .n :: .n :: .call (VV.c (.int .u64 z1)) :: .call (VV.c (.int .u64 z2)) :: .n :: .b false :: []))
def nnumber_CheckFrac (k : Nat) (a0 : SFrac) : Option Int :=
  if a0.Den ≤ 0 then (some 3) else ((nnumber_size k a0.Num).bind fun r144 => ((nnumber_size k a0.Den).bind fun r147 => ((nnumber_divisor k r144 r147).bind fun r150 => (if r150 = 1 then (if 1000000000 < r144 then (some 2) else (if 1000000000 < a0.Den then (some 2) else (some 0))) else (some 3)))))
theorem nnumber_CheckFrac_ok (k : Nat) (a0 : SFrac) (r : Int) (h : nnumber_CheckFrac k a0 = some r) : VC Go.Proofs.Try.prog 57 [VV.ag (c_SFrac a0)] (vi r) := by
 unfold nnumber_CheckFrac at h
 rcases ifs h with ⟨h142, h⟩ | ⟨h142, h⟩
 ·have e143 := (ti (ti (ti (ti (an (decide_eq_true h142) (an (decide_eq_true h142) (an (decide_eq_true h142) (an (decide_eq_true h142) (an (decide_eq_true h142) (an (decide_eq_true h142) (an (decide_eq_true h142) (an (decide_eq_true h142) (an (decide_eq_true h142) trivial)))))))))))))
  injection h with h; subst h
  exact fun_ok pm pn Go.Proofs.Try.func57 (r0 := vi 3) (ans := [.reg (.n :: .n :: []), .reg (nN 4 (nS 8 (.b true :: []))), .br true, .reg (.n :: [])]) (fr := true) (by kernel_rfl) (an (an (ti (ti trivial)) (an e143 (an rt (an (ti trivial) trivial)))) (ti trivial)) (Wv.refl _)
 ·obtain ⟨r144, h145, h⟩ := bs h
  have e146 := (an (decide_eq_false h142) (nnumber_size_ok k a0.Num _ h145))
  obtain ⟨r147, h148, h⟩ := bs h
  have e149 := (an (decide_eq_false h142) (nnumber_size_ok k a0.Den _ h148))
  obtain ⟨r150, h151, h⟩ := bs h
  have e152 := (an (decide_eq_false h142) (nnumber_divisor_ok k r144 r147 _ h151))
  have e153 := (ti (ti (ti (ti (an (an (decide_eq_false h142) trivial) (an (an (decide_eq_false h142) trivial) (an e146 (an (an (decide_eq_false h142) trivial) (an (an (decide_eq_false h142) trivial) (an e149 (an e152 (an (an (decide_eq_false h142) trivial) (an (decide_eq_false h142) trivial)))))))))))))
  rcases ifs h with ⟨h154, h⟩ | ⟨h154, h⟩
  ·rcases ifs h with ⟨h156, h⟩ | ⟨h156, h⟩
   ·have e157 := (ti (ti (an (nnumber_size_ok k a0.Num _ h145) (ti (ti (an (decide_eq_true h156) (an (decide_eq_true h156) (an (decide_eq_true h156) (an (decide_eq_true h156) trivial)))))))))
    injection h with h; subst h
    exact fun_ok pm pn Go.Proofs.Try.func57 (r0 := vi 2) (ans := [.reg (.n :: .n :: []), .reg (arN1_0 r144 r147 r150), .br false, .reg (.n :: .n :: .call (VV.c (.int .u64 r144)) :: .n :: .n :: nS 3 (.b true :: [])), .br true, .reg (.n :: [])]) (fr := true) (by kernel_rfl) (an (an (ti (ti trivial)) (an (an e153 (an (not_f (decide_eq_true h154)) trivial)) (an e157 (an rt (an (ti trivial) trivial))))) (ti trivial)) (Wv.refl _)
   ·have e158 := (ti (ti (an (nnumber_size_ok k a0.Num _ h145) (ti (ti (an (an (decide_eq_false h156) trivial) (an (an (decide_eq_false h156) trivial) (an (an (decide_eq_false h156) trivial) (an (decide_eq_false h156) trivial)))))))))
    rcases ifs h with ⟨h159, h⟩ | ⟨h159, h⟩
    ·injection h with h; subst h
     exact fun_ok pm pn Go.Proofs.Try.func57 (r0 := vi 2) (ans := [.reg (.n :: .n :: []), .reg (arN1_0 r144 r147 r150), .br false, .reg (.n :: .n :: .call (VV.c (.int .u64 r144)) :: nN 5 (.b false :: [])), .br true, .reg (.n :: [])]) (fr := true) (by kernel_rfl) (an (an (ti (ti trivial)) (an (an e153 (an (not_f (decide_eq_true h154)) trivial)) (an e158 (an (decide_eq_true h159) (an (ti trivial) trivial))))) (ti trivial)) (Wv.refl _)
    ·injection h with h; subst h
     exact fun_ok pm pn Go.Proofs.Try.func57 (r0 := vi 0) (ans := [.reg (.n :: .n :: []), .reg (arN1_0 r144 r147 r150), .br false, .reg (.n :: .n :: .call (VV.c (.int .u64 r144)) :: nN 5 (.b false :: [])), .br false, .reg (.n :: [])]) (fr := true) (by kernel_rfl) (an (an (ti (ti trivial)) (an (an e153 (an (not_f (decide_eq_true h154)) trivial)) (an (an e158 (an (decide_eq_false h159) trivial)) (an (ti trivial) trivial)))) (ti trivial)) (Wv.refl _)
  ·injection h with h; subst h
   exact fun_ok pm pn Go.Proofs.Try.func57 (r0 := vi 3) (ans := [.reg (.n :: .n :: []), .reg (arN1_0 r144 r147 r150), .br true, .reg (.n :: [])]) (fr := true) (by kernel_rfl) (an (an (ti (ti trivial)) (an e153 (an (not_t (decide_eq_false h154)) (an (ti trivial) trivial)))) (ti trivial)) (Wv.refl _)
def nnumber_checkFracs_l0_0_h (a0 : (List SFrac)) (x8 : Int) : VS := ⟨mkA [(6, VV.tr (List.flatMap c_SFrac a0) a0.length), (7, vi (a0.length : Int)), (8, vi x8)], [], .nil⟩
def nnumber_checkFracs_l0_0_e0 (a0 : (List SFrac)) (r : Int) : VS := ⟨mkA [(2, vi r)], [], .nil⟩
def nnumber_checkFracs_l0_0_e1 (a0 : (List SFrac)) (r : Unit) : VS := ⟨mkA [], [], .nil⟩
def nnumber_checkFracs_l0_0 (k : Nat) (a0 : (List SFrac)) : Nat → Int → Option (Sum Int Unit)
  | 0, _ => none
  | fuel + 1, x8 => if x8 < (a0.length : Int) then (if 0 ≤ x8 ∧ x8 < (a0.length : Int) then ((nnumber_CheckFrac k (a0.getD x8.toNat default)).bind fun r201 => (if r201 = 0 then (nnumber_checkFracs_l0_0 k a0 fuel (w64 (x8 + 1))) else (some (.inl r201)))) else none) else (some (.inr ()))
theorem nnumber_checkFracs_l0_0_ok (k : Nat) (a0 : (List SFrac)) : ∀ (fuel : Nat) (x8 : Int) (r : Sum Int Unit), nnumber_checkFracs_l0_0 k a0 fuel x8 = some r → (match r with | .inl r => VLoop none Go.Proofs.Try.prog (szF Go.Proofs.Try.f38) (bodyOf Go.Proofs.Try.f38 0) (nnumber_checkFracs_l0_0_h a0 x8) .ret (nnumber_checkFracs_l0_0_e0 a0 r) | .inr r => VLoop none Go.Proofs.Try.prog (szF Go.Proofs.Try.f38) (bodyOf Go.Proofs.Try.f38 0) (nnumber_checkFracs_l0_0_h a0 x8) (.exit 0) (nnumber_checkFracs_l0_0_e1 a0 r)) := by
 intro fuel
 induction fuel with
 | zero => intro x8 r h; rw [nnumber_checkFracs_l0_0.eq_1] at h; cases h
 | succ fuel ih =>
  intro x8 r h
  rw [nnumber_checkFracs_l0_0.eq_2] at h
  rcases ifs h with ⟨h198, h⟩ | ⟨h198, h⟩
  ·obtain ⟨h199, h⟩ := ifn h
   have e200 := (show loadL Go.Proofs.Try.prog 27 (x8.toNat * 2) (List.flatMap c_SFrac a0) = some (VV.ag (c_SFrac (a0.getD x8.toNat default))) from ld_whole ag27 c_SFrac 2 sz27 len_c_SFrac a0 default h199 (by omega))
   obtain ⟨r201, h202, h⟩ := bs h
   have e203 := (nnumber_CheckFrac_ok k (a0.getD x8.toNat default) _ h202)
   rcases ifs h with ⟨h204, h⟩ | ⟨h204, h⟩
   ·have h2 := ih _ _ h
    obtain ⟨q, hv, hq⟩ := pkR (rd := none) (P := Go.Proofs.Try.prog) (fn := Go.Proofs.Try.f38) (k := 0) (s := (nnumber_checkFracs_l0_0_h a0 x8)) (ans := [.reg (.n :: []), .br true, .reg (.n :: .v (VV.ag (c_SFrac (a0.getD x8.toNat default))) :: .n :: .n :: []), .reg (.n :: .call (vi r201) :: .n :: []), .reg (.n :: .n :: []), .br false, .reg (.n :: .n :: [])]) (c := ⟨[(6, none), (7, none), (8, none)], [], []⟩) (e := .normal) (s1 := (nnumber_checkFracs_l0_0_h a0 (w64 (x8 + 1)))) (an (an (ti trivial) (an (an (decide_eq_true h198) trivial) (an (an (an h199 (an e200 (ti (ti trivial)))) (an (ti (an e203 (ti trivial))) (an (ti (ti trivial)) (an (not_f (decide_eq_true h204)) trivial)))) (ti (ti trivial))))) (ti trivial)) (by kernel_rfl)
    cases r with
    | inl r => exact round_next pm pn hv hq h2
    | inr r =>
     exact round_next pm pn hv hq h2
   ·injection h with h; subst h
    exact round_stop (c := ⟨[(2, none)], [], []⟩) (s1 := (nnumber_checkFracs_l0_0_e0 a0 r201)) pm pn (ans := [.reg (.n :: []), .br true, .reg (.n :: .v (VV.ag (c_SFrac (a0.getD x8.toNat default))) :: .n :: .n :: []), .reg (.n :: .call (vi r201) :: .n :: []), .reg (.n :: .n :: []), .br true, .reg (.n :: .n :: [])]) (by kernel_rfl) (by intro e; cases e) (an (an (ti trivial) (an (an (decide_eq_true h198) trivial) (an (an h199 (an e200 (ti (ti trivial)))) (an (ti (an e203 (ti trivial))) (an (ti (ti trivial)) (an (not_t (decide_eq_false h204)) (an (ti (ti trivial)) trivial))))))) (ti trivial))
  ·injection h with h; subst h
   exact round_stop (c := ⟨[], [], []⟩) (s1 := (nnumber_checkFracs_l0_0_e1 a0 ())) pm pn (ans := [.reg (.n :: []), .br false]) (by kernel_rfl) (by intro e; cases e) (an (an (ti trivial) (an (decide_eq_false h198) trivial)) (ti trivial))
def nnumber_checkFracs (k : Nat) (a0 : (List SFrac)) : Option Int :=
  (nnumber_checkFracs_l0_0 k a0 k 0).bind fun r206 => (match r206 with | .inl r207 => (some r207) | .inr r208 => (some 0))
theorem nnumber_checkFracs_ok (k : Nat) (a0 : (List SFrac)) (r : Int) (h : nnumber_checkFracs k a0 = some r) : VC Go.Proofs.Try.prog 38 [VV.tr (List.flatMap c_SFrac a0) a0.length] (vi r) := by
 unfold nnumber_checkFracs at h
 obtain ⟨r206, h205, h⟩ := bs h
 have hph205 := nnumber_checkFracs_l0_0_ok k a0 _ _ _ h205
 cases r206 with
 | inl r207 =>
  dsimp only at h
  have e209 := (an (ti trivial) (VRun.loop hph205))
  injection h with h; subst h
  exact fun_ok pm pn Go.Proofs.Try.func38 (r0 := vi r207) (ans := [.reg (.n :: []), .reg (nN 3 []), .sub ⟨[(6, none), (7, none), (8, none)], [], []⟩ .ret (nnumber_checkFracs_l0_0_e0 a0 r207)]) (fr := true) (by kernel_rfl) (an (an (ti trivial) (an (ti (ti (ti trivial))) e209)) (ti trivial)) (Wv.refl _)
 | inr r208 =>
  dsimp only at h
  have e210 := (an (ti trivial) (VRun.loop hph205))
  injection h with h; subst h
  exact fun_ok pm pn Go.Proofs.Try.func38 (r0 := vi 0) (ans := [.reg (.n :: []), .reg (nN 3 []), .sub ⟨[(6, none), (7, none), (8, none)], [], []⟩ (.exit 0) (nnumber_checkFracs_l0_0_e1 a0 r208), .reg (.n :: [])]) (fr := true) (by kernel_rfl) (an (an (ti trivial) (an (an (ti (ti (ti trivial))) e210) (an (ti trivial) trivial))) (ti trivial)) (Wv.refl _)
theorem eqN1_0 (z0 : SFrac) (z1 : SFrac) : [VV.tr (List.flatMap c_SFrac ([z0, z1] : List SFrac)) (([z0, z1] : List SFrac).length)] = [VV.tr [vi z0.Num, vi z0.Den, vi z1.Num, vi z1.Den] 2] := by first | rfl | (simp only [unfr_vi, List.map_cons, List.map_nil, un_i, un_tr, List.length_cons, List.length_nil, unfr_c_SFrac]; done) | (simp only [unfr_vi, List.map_cons, List.map_nil, un_i, un_tr, List.length_cons, List.length_nil, unfr_c_SFrac]; rfl) | (simp only [unfr_vi, List.map_cons, List.map_nil, un_i, un_tr, List.length_cons, List.length_nil, unfr_c_SFrac, c_SFrac, List.length_cons, List.length_nil, List.length_append]; done)
theorem eqN1_1 (z0 : Int) (z1 : Int) (z2 : Int) : [VV.ag (c_SFrac (⟨w64 ((w64 (0 - z0)).tdiv (w64 z1)), w64 ((w64 (0 - z2)).tdiv (w64 z1))⟩ : SFrac))] = [VV.ag [vi (w64 ((w64 (0 - z0)).tdiv (w64 z1))), vi (w64 ((w64 (0 - z2)).tdiv (w64 z1)))]] := by first | rfl | (simp only [unfr_vi, List.map_cons, List.map_nil, un_i, unfr_c_SFrac]; done) | (simp only [unfr_vi, List.map_cons, List.map_nil, un_i, unfr_c_SFrac]; rfl) | (simp only [unfr_vi, List.map_cons, List.map_nil, un_i, unfr_c_SFrac, c_SFrac, List.length_cons, List.length_nil, List.length_append]; done)
theorem eqN1_2 (z0 : Int) (z1 : Int) (z2 : Int) : [VV.ag (c_SFrac (⟨w64 (z0.tdiv (w64 z1)), w64 (z2.tdiv (w64 z1))⟩ : SFrac))] = [VV.ag [vi (w64 (z0.tdiv (w64 z1))), vi (w64 (z2.tdiv (w64 z1)))]] := by first | rfl | (simp only [unfr_vi, List.map_cons, List.map_nil, un_i, unfr_c_SFrac]; done) | (simp only [unfr_vi, List.map_cons, List.map_nil, un_i, unfr_c_SFrac]; rfl) | (simp only [unfr_vi, List.map_cons, List.map_nil, un_i, unfr_c_SFrac, c_SFrac, List.length_cons, List.length_nil, List.length_append]; done)
def arN1_1 (z0 : Int) (z1 : Int) (z2 : Int) : List Ans := (.n :: .call (VV.c (.int .u64 z0)) :: .n :: .call (VV.c (.int .u64 z1)) :: .call (VV.c (.int .u64 z2)) :: .n :: .n :: [])
theorem eqN1_3 (z0 : Int) (z1 : Int) (z2 : Int) : VV.tu [VV.ag [vi (w64 ((w64 (0 - z0)).tdiv (w64 z1))), vi (w64 ((w64 (0 - z2)).tdiv (w64 z1)))], vi 0] = VV.tu [VV.ag (c_SFrac (⟨w64 ((w64 (0 - z0)).tdiv (w64 z1)), w64 ((w64 (0 - z2)).tdiv (w64 z1))⟩ : SFrac)), vi 0] := by first | rfl | (simp only [unfr_vi, List.map_cons, List.map_nil, un_i, unfr_c_SFrac]; done) | (simp only [unfr_vi, List.map_cons, List.map_nil, un_i, unfr_c_SFrac]; rfl) | (simp only [unfr_vi, List.map_cons, List.map_nil, un_i, unfr_c_SFrac, c_SFrac, List.length_cons, List.length_nil, List.length_append]; done)
theorem eqN1_4  : VV.tu [VV.ag [vi 0, vi 0], vi 8] = VV.tu [VV.ag (c_SFrac (⟨0, 0⟩ : SFrac)), vi 8] := by first | rfl | (simp only [unfr_vi, List.map_cons, List.map_nil, un_i, unfr_c_SFrac]; done) | (simp only [unfr_vi, List.map_cons, List.map_nil, un_i, unfr_c_SFrac]; rfl) | (simp only [unfr_vi, List.map_cons, List.map_nil, un_i, unfr_c_SFrac, c_SFrac, List.length_cons, List.length_nil, List.length_append]; done)
theorem eqN1_5 (z0 : Int) (z1 : Int) (z2 : Int) : VV.tu [VV.ag [vi (w64 (z0.tdiv (w64 z1))), vi (w64 (z2.tdiv (w64 z1)))], vi 0] = VV.tu [VV.ag (c_SFrac (⟨w64 (z0.tdiv (w64 z1)), w64 (z2.tdiv (w64 z1))⟩ : SFrac)), vi 0] := by first | rfl | (simp only [unfr_vi, List.map_cons, List.map_nil, un_i, unfr_c_SFrac]; done) | (simp only [unfr_vi, List.map_cons, List.map_nil, un_i, unfr_c_SFrac]; rfl) | (simp only [unfr_vi, List.map_cons, List.map_nil, un_i, unfr_c_SFrac, c_SFrac, List.length_cons, List.length_nil, List.length_append]; done)
def nnumber_lowest (k : Nat) (a0 : Int) (a1 : Int) : Option (SFrac × Int) :=
  if a1 < 0 then ((nnumber_size k (w64 (0 - a0))).bind fun r245 => ((nnumber_size k (w64 (0 - a1))).bind fun r248 => ((nnumber_divisor k r245 r248).bind fun r251 => (if (w64 r251) ≠ 0 then ((nnumber_CheckFrac k (⟨w64 ((w64 (0 - a0)).tdiv (w64 r251)), w64 ((w64 (0 - a1)).tdiv (w64 r251))⟩ : SFrac)).bind fun r256 => (if r256 = 0 then (some ((⟨w64 ((w64 (0 - a0)).tdiv (w64 r251)), w64 ((w64 (0 - a1)).tdiv (w64 r251))⟩ : SFrac), 0)) else (some ((⟨0, 0⟩ : SFrac), 8)))) else none)))) else ((nnumber_size k a0).bind fun r260 => ((nnumber_size k a1).bind fun r262 => ((nnumber_divisor k r260 r262).bind fun r264 => (if (w64 r264) ≠ 0 then ((nnumber_CheckFrac k (⟨w64 (a0.tdiv (w64 r264)), w64 (a1.tdiv (w64 r264))⟩ : SFrac)).bind fun r269 => (if r269 = 0 then (some ((⟨w64 (a0.tdiv (w64 r264)), w64 (a1.tdiv (w64 r264))⟩ : SFrac), 0)) else (some ((⟨0, 0⟩ : SFrac), 8)))) else none))))
theorem nnumber_lowest_ok (k : Nat) (a0 : Int) (a1 : Int) (r : (SFrac × Int)) (h : nnumber_lowest k a0 a1 = some r) : VC Go.Proofs.Try.prog 39 [vi a0, vi a1] (VV.tu [VV.ag (c_SFrac r.1), vi r.2]) := by
 unfold nnumber_lowest at h
 rcases ifs h with ⟨h244, h⟩ | ⟨h244, h⟩
 ·obtain ⟨r245, h246, h⟩ := bs h
  have e247 := (nnumber_size_ok k (w64 (0 - a0)) _ h246)
  obtain ⟨r248, h249, h⟩ := bs h
  have e250 := (nnumber_size_ok k (w64 (0 - a1)) _ h249)
  obtain ⟨r251, h252, h⟩ := bs h
  have e253 := (ti (an e247 (ti (an e250 (an (nnumber_divisor_ok k r245 r248 _ h252) (ti (ti trivial)))))))
  obtain ⟨h254, h⟩ := ifn h
  have e255 := (ti (ti (an h254 (ti (ti (an h254 (ti (ti (ti trivial)))))))))
  obtain ⟨r256, h257, h⟩ := bs h
  have e258 := (VC.args (nnumber_CheckFrac_ok k (⟨w64 ((w64 (0 - a0)).tdiv (w64 r251)), w64 ((w64 (0 - a1)).tdiv (w64 r251))⟩ : SFrac) _ h257) (eqN1_1 a0 r251 a1))
  rcases ifs h with ⟨h259, h⟩ | ⟨h259, h⟩
  ·injection h with h; subst h
   exact fun_ok pm pn Go.Proofs.Try.func39 (r0 := VV.tu [VV.ag [vi (w64 ((w64 (0 - a0)).tdiv (w64 r251))), vi (w64 ((w64 (0 - a1)).tdiv (w64 r251)))], vi 0]) (ans := [.reg (.n :: .n :: []), .reg (.n :: .n :: []), .br true, .reg (nN 6 []), .reg (arN1_1 r245 r248 r251), .reg (nN 9 []), .reg (.n :: .call (vi r256) :: .n :: []), .br false, .reg (nN 3 [])]) (fr := true) (by kernel_rfl) (an (an (ti (ti trivial)) (an (an (ti (ti trivial)) (an (decide_eq_true h244) (ti (ti (ti (ti (ti (ti trivial)))))))) (an e253 (an e255 (an (an (ti (an e258 (ti trivial))) (an (not_f (decide_eq_true h259)) trivial)) (an (ti (ti (ti trivial))) trivial)))))) (an (ti (ti (ti trivial))) (ti trivial))) (Wv.of_eq (eqN1_3 a0 r251 a1))
  ·injection h with h; subst h
   exact fun_ok pm pn Go.Proofs.Try.func39 (r0 := VV.tu [VV.ag [vi 0, vi 0], vi 8]) (ans := [.reg (.n :: .n :: []), .reg (.n :: .n :: []), .br true, .reg (nN 6 []), .reg (arN1_1 r245 r248 r251), .reg (nN 9 []), .reg (.n :: .call (vi r256) :: .n :: []), .br true, .reg (nN 3 [])]) (fr := true) (by kernel_rfl) (an (an (ti (ti trivial)) (an (an (ti (ti trivial)) (an (decide_eq_true h244) (ti (ti (ti (ti (ti (ti trivial)))))))) (an e253 (an e255 (an (ti (an e258 (ti trivial))) (an (not_t (decide_eq_false h259)) (an (ti (ti (ti trivial))) trivial))))))) (an (ti (ti (ti trivial))) (ti trivial))) (Wv.of_eq eqN1_4)
 ·obtain ⟨r260, h261, h⟩ := bs h
  obtain ⟨r262, h263, h⟩ := bs h
  obtain ⟨r264, h265, h⟩ := bs h
  have e266 := (ti (an (nnumber_size_ok k a0 _ h261) (ti (an (nnumber_size_ok k a1 _ h263) (an (nnumber_divisor_ok k r260 r262 _ h265) (ti (ti trivial)))))))
  obtain ⟨h267, h⟩ := ifn h
  have e268 := (ti (ti (an h267 (ti (ti (an h267 (ti (ti (ti trivial)))))))))
  obtain ⟨r269, h270, h⟩ := bs h
  have e271 := (VC.args (nnumber_CheckFrac_ok k (⟨w64 (a0.tdiv (w64 r264)), w64 (a1.tdiv (w64 r264))⟩ : SFrac) _ h270) (eqN1_2 a0 r264 a1))
  rcases ifs h with ⟨h272, h⟩ | ⟨h272, h⟩
  ·injection h with h; subst h
   exact fun_ok pm pn Go.Proofs.Try.func39 (r0 := VV.tu [VV.ag [vi (w64 (a0.tdiv (w64 r264))), vi (w64 (a1.tdiv (w64 r264)))], vi 0]) (ans := [.reg (.n :: .n :: []), .reg (.n :: .n :: []), .br false, .reg (arN1_1 r260 r262 r264), .reg (nN 9 []), .reg (.n :: .call (vi r269) :: .n :: []), .br false, .reg (nN 3 [])]) (fr := true) (by kernel_rfl) (an (an (ti (ti trivial)) (an (an (ti (ti trivial)) (an (decide_eq_false h244) trivial)) (an e266 (an e268 (an (an (ti (an e271 (ti trivial))) (an (not_f (decide_eq_true h272)) trivial)) (an (ti (ti (ti trivial))) trivial)))))) (an (ti (ti (ti trivial))) (ti trivial))) (Wv.of_eq (eqN1_5 a0 r264 a1))
  ·injection h with h; subst h
   exact fun_ok pm pn Go.Proofs.Try.func39 (r0 := VV.tu [VV.ag [vi 0, vi 0], vi 8]) (ans := [.reg (.n :: .n :: []), .reg (.n :: .n :: []), .br false, .reg (arN1_1 r260 r262 r264), .reg (nN 9 []), .reg (.n :: .call (vi r269) :: .n :: []), .br true, .reg (nN 3 [])]) (fr := true) (by kernel_rfl) (an (an (ti (ti trivial)) (an (an (ti (ti trivial)) (an (decide_eq_false h244) trivial)) (an e266 (an e268 (an (ti (an e271 (ti trivial))) (an (not_t (decide_eq_false h272)) (an (ti (ti (ti trivial))) trivial))))))) (an (ti (ti (ti trivial))) (ti trivial))) (Wv.of_eq eqN1_4)
theorem eqN1_6 (z0 : Int) : VV.tu [VV.ag [vi 0, vi 0], vi z0] = VV.tu [VV.ag (c_SFrac (⟨0, 0⟩ : SFrac)), vi z0] := by first | rfl | (simp only [unfr_vi, List.map_cons, List.map_nil, un_i, unfr_c_SFrac]; done) | (simp only [unfr_vi, List.map_cons, List.map_nil, un_i, unfr_c_SFrac]; rfl) | (simp only [unfr_vi, List.map_cons, List.map_nil, un_i, unfr_c_SFrac, c_SFrac, List.length_cons, List.length_nil, List.length_append]; done)
def nnumber_Mul (k : Nat) (a0 : SFrac) (a1 : SFrac) : Option (SFrac × Int) :=
  (nnumber_checkFracs k ([a0, a1] : List SFrac)).bind fun r277 => (if r277 = 0 then ((nnumber_lowest k (w64 (a0.Num * a1.Num)) (w64 (a0.Den * a1.Den))).bind fun r281 => (some (r281.1, r281.2))) else (some ((⟨0, 0⟩ : SFrac), r277)))
theorem nnumber_Mul_ok (k : Nat) (a0 : SFrac) (a1 : SFrac) (r : (SFrac × Int)) (h : nnumber_Mul k a0 a1 = some r) : VC Go.Proofs.Try.prog 52 [VV.ag (c_SFrac a0), VV.ag (c_SFrac a1)] (VV.tu [VV.ag (c_SFrac r.1), vi r.2]) := by
 unfold nnumber_Mul at h
 obtain ⟨r277, h278, h⟩ := bs h
 have e279 := (VC.args (nnumber_checkFracs_ok k ([a0, a1] : List SFrac) _ h278) (eqN1_0 a0 a1))
 rcases ifs h with ⟨h280, h⟩ | ⟨h280, h⟩
 ·obtain ⟨r281, h282, h⟩ := bs h
  have e283 := (nnumber_lowest_ok k (w64 (a0.Num * a1.Num)) (w64 (a0.Den * a1.Den)) _ h282)
  have e284 := (ti (ti (ti (ti (ti (ti (ti (ti (ti (ti (an e283 (ti (ti (ti (ti trivial)))))))))))))))
  injection h with h; subst h
  exact fun_ok pm pn Go.Proofs.Try.func52 (r0 := VV.tu [VV.ag (c_SFrac r281.1), vi r281.2]) (ans := [.reg (nN 4 []), .reg (.n :: .n :: .v VV.any :: .call (vi r277) :: .n :: []), .reg (.n :: .n :: []), .br false, .reg (nN 10 (.call (VV.tu [VV.ag (c_SFrac r281.1), vi r281.2]) :: nN 4 []))]) (fr := true) (by kernel_rfl) (an (an (ti (ti (ti (ti trivial)))) (an (an (ti (ti (ti (an e279 (ti trivial))))) (an (ti (ti trivial)) (an (not_f (decide_eq_true h280)) trivial))) (an e284 trivial))) (an (ti (ti (ti trivial))) (ti trivial))) (Wv.refl _)
 ·injection h with h; subst h
  exact fun_ok pm pn Go.Proofs.Try.func52 (r0 := VV.tu [VV.ag [vi 0, vi 0], vi r277]) (ans := [.reg (nN 4 []), .reg (.n :: .n :: .v VV.any :: .call (vi r277) :: .n :: []), .reg (.n :: .n :: []), .br true, .reg (nN 4 [])]) (fr := true) (by kernel_rfl) (an (an (ti (ti (ti (ti trivial)))) (an (ti (ti (ti (an e279 (ti trivial))))) (an (ti (ti trivial)) (an (not_t (decide_eq_false h280)) (an (ti (ti (ti (ti trivial)))) trivial))))) (an (ti (ti (ti trivial))) (ti trivial))) (Wv.of_eq (eqN1_6 r277))
def nspeculumbase_Abs (k : Nat) (a0 : Int) : Option Int :=
  if a0 < 0 then (some (w64 (0 - a0))) else (some a0)
theorem nspeculumbase_Abs_ok (k : Nat) (a0 : Int) (r : Int) (h : nspeculumbase_Abs k a0 = some r) : VC Go.Proofs.Try.prog 41 [vi a0] (vi r) := by
 unfold nspeculumbase_Abs at h
 rcases ifs h with ⟨h295, h⟩ | ⟨h295, h⟩
 ·injection h with h; subst h
  exact fun_ok pm pn Go.Proofs.Try.func41 (r0 := vi (w64 (0 - a0))) (ans := [.reg (.n :: []), .reg (.n :: .n :: []), .br true, .reg (nN 3 [])]) (fr := true) (by kernel_rfl) (an (an (ti trivial) (an (ti (ti trivial)) (an (decide_eq_true h295) (an (ti (ti (ti trivial))) trivial)))) (ti trivial)) (Wv.refl _)
 ·injection h with h; subst h
  exact fun_ok pm pn Go.Proofs.Try.func41 (r0 := vi a0) (ans := [.reg (.n :: []), .reg (.n :: .n :: []), .br false, .reg (.n :: .n :: [])]) (fr := true) (by kernel_rfl) (an (an (ti trivial) (an (an (ti (ti trivial)) (an (decide_eq_false h295) trivial)) (an (ti (ti trivial)) trivial))) (ti trivial)) (Wv.refl _)
def nspeculumbase_Gcd_l0_0_h  (x0 : Int) (x1 : Int) : VS := ⟨mkA [(0, vi x0), (1, vi x1)], [], .nil⟩
def nspeculumbase_Gcd_l0_0_e0  (r : Int) : VS := ⟨mkA [(0, vi r)], [], .nil⟩
def nspeculumbase_Gcd_l0_0 (k : Nat)  : Nat → Int → Int → Option (Int)
  | 0, _, _ => none
  | fuel + 1, x0, x1 => if x1 = 0 then (some x0) else (if x1 ≠ 0 then (nspeculumbase_Gcd_l0_0 k  fuel x1 (x0.tmod x1)) else none)
theorem nspeculumbase_Gcd_l0_0_ok (k : Nat)  : ∀ (fuel : Nat) (x0 : Int) (x1 : Int) (r : Int), nspeculumbase_Gcd_l0_0 k  fuel x0 x1 = some r → (VLoop none Go.Proofs.Try.prog (szF Go.Proofs.Try.f26) (bodyOf Go.Proofs.Try.f26 0) (nspeculumbase_Gcd_l0_0_h  x0 x1) (.exit 0) (nspeculumbase_Gcd_l0_0_e0  r)) := by
 intro fuel
 induction fuel with
 | zero => intro x0 x1 r h; rw [nspeculumbase_Gcd_l0_0.eq_1] at h; cases h
 | succ fuel ih =>
  intro x0 x1 r h
  rw [nspeculumbase_Gcd_l0_0.eq_2] at h
  rcases ifs h with ⟨h303, h⟩ | ⟨h303, h⟩
  ·injection h with h; subst h
   exact round_stop (c := ⟨[(0, none)], [], []⟩) (s1 := (nspeculumbase_Gcd_l0_0_e0  x0)) pm pn (ans := [.reg (.n :: .n :: []), .br false]) (by kernel_rfl) (by intro e; cases e) (an (an (ti (ti trivial)) (an (not_f (decide_eq_true h303)) trivial)) (ti trivial))
  ·obtain ⟨h304, h⟩ := ifn h
   have h2 := ih _ _ _ h
   obtain ⟨q, hv, hq⟩ := pkR (rd := none) (P := Go.Proofs.Try.prog) (fn := Go.Proofs.Try.f26) (k := 0) (s := (nspeculumbase_Gcd_l0_0_h  x0 x1)) (ans := [.reg (.n :: .n :: []), .br true, .reg (nN 6 [])]) (c := ⟨[(0, none), (1, none)], [], []⟩) (e := .normal) (s1 := (nspeculumbase_Gcd_l0_0_h  x1 (x0.tmod x1))) (an (an (an (ti (ti trivial)) (an (not_t (decide_eq_false h303)) trivial)) (ti (ti (ti (an h304 (ti (ti trivial))))))) (ti trivial)) (by kernel_rfl)
   exact round_next pm pn hv hq h2
def nspeculumbase_Gcd (k : Nat) (a0 : Int) (a1 : Int) : Option Int :=
  (nspeculumbase_Gcd_l0_0 k k a0 a1).bind fun r306 => ((nspeculumbase_Abs k r306).bind fun r308 => (some r308))
theorem nspeculumbase_Gcd_ok (k : Nat) (a0 : Int) (a1 : Int) (r : Int) (h : nspeculumbase_Gcd k a0 a1 = some r) : VC Go.Proofs.Try.prog 26 [vi a0, vi a1] (vi r) := by
 unfold nspeculumbase_Gcd at h
 obtain ⟨r306, h305, h⟩ := bs h
 have hph305 := nspeculumbase_Gcd_l0_0_ok k  _ _ _ _ h305
 have e307 := (an (ti trivial) (VRun.loop hph305))
 obtain ⟨r308, h309, h⟩ := bs h
 have e310 := (ti (an (nspeculumbase_Abs_ok k r306 _ h309) (ti trivial)))
 injection h with h; subst h
 exact fun_ok pm pn Go.Proofs.Try.func26 (r0 := vi r308) (ans := [.reg (.n :: []), .sub ⟨[(0, none), (1, none)], [], []⟩ (.exit 0) (nspeculumbase_Gcd_l0_0_e0  r306), .reg (.n :: .call (vi r308) :: .n :: [])]) (fr := true) (by kernel_rfl) (an (an (ti trivial) (an e307 (an e310 trivial))) (ti trivial)) (Wv.refl _)
theorem eqN1_7 (z0 : Int) (z1 : Int) (z2 : Int) : VV.ag [vi (w64 (z0.tdiv (w64 (0 - z1)))), vi (w64 (z2.tdiv (w64 (0 - z1))))] = VV.ag (c_SFrac (⟨w64 (z0.tdiv (w64 (0 - z1))), w64 (z2.tdiv (w64 (0 - z1)))⟩ : SFrac)) := by first | rfl | (simp only [unfr_vi, List.map_cons, List.map_nil, un_i, unfr_c_SFrac]; done) | (simp only [unfr_vi, List.map_cons, List.map_nil, un_i, unfr_c_SFrac]; rfl) | (simp only [unfr_vi, List.map_cons, List.map_nil, un_i, unfr_c_SFrac, c_SFrac, List.length_cons, List.length_nil, List.length_append]; done)
theorem eqN1_8 (z0 : Int) (z1 : Int) (z2 : Int) : VV.ag [vi (w64 (z0.tdiv z1)), vi (w64 (z2.tdiv z1))] = VV.ag (c_SFrac (⟨w64 (z0.tdiv z1), w64 (z2.tdiv z1)⟩ : SFrac)) := by first | rfl | (simp only [unfr_vi, List.map_cons, List.map_nil, un_i, unfr_c_SFrac]; done) | (simp only [unfr_vi, List.map_cons, List.map_nil, un_i, unfr_c_SFrac]; rfl) | (simp only [unfr_vi, List.map_cons, List.map_nil, un_i, unfr_c_SFrac, c_SFrac, List.length_cons, List.length_nil, List.length_append]; done)
def nspeculumbase_Lowest (k : Nat) (a0 : Int) (a1 : Int) : Option SFrac :=
  (nspeculumbase_Gcd k a0 a1).bind fun r319 => (if a1 < 0 then (if (w64 (0 - r319)) ≠ 0 then (some (⟨w64 (a0.tdiv (w64 (0 - r319))), w64 (a1.tdiv (w64 (0 - r319)))⟩ : SFrac)) else none) else (if r319 ≠ 0 then (some (⟨w64 (a0.tdiv r319), w64 (a1.tdiv r319)⟩ : SFrac)) else none))
theorem nspeculumbase_Lowest_ok (k : Nat) (a0 : Int) (a1 : Int) (r : SFrac) (h : nspeculumbase_Lowest k a0 a1 = some r) : VC Go.Proofs.Try.prog 66 [vi a0, vi a1] (VV.ag (c_SFrac r)) := by
 unfold nspeculumbase_Lowest at h
 obtain ⟨r319, h320, h⟩ := bs h
 have e321 := (ti (ti (an (nspeculumbase_Gcd_ok k a0 a1 _ h320) (ti trivial))))
 rcases ifs h with ⟨h322, h⟩ | ⟨h322, h⟩
 ·obtain ⟨h323, h⟩ := ifn h
  have e324 := (ti (ti (an h323 (ti (ti (an h323 (ti (ti trivial))))))))
  injection h with h; subst h
  exact fun_ok pm pn Go.Proofs.Try.func66 (r0 := VV.ag [vi (w64 (a0.tdiv (w64 (0 - r319)))), vi (w64 (a1.tdiv (w64 (0 - r319))))]) (ans := [.reg (.n :: []), .reg (.n :: .n :: .call (vi r319) :: .n :: []), .reg (.n :: .n :: []), .br true, .reg (nN 3 []), .reg (nN 8 [])]) (fr := true) (by kernel_rfl) (an (an (ti trivial) (an e321 (an (an (ti (ti trivial)) (an (decide_eq_true h322) (ti (ti (ti trivial))))) (an e324 trivial)))) (an (ti (ti (ti trivial))) trivial)) (Wv.of_eq (eqN1_7 a0 r319 a1))
 ·obtain ⟨h325, h⟩ := ifn h
  have e326 := (ti (ti (an h325 (ti (ti (an h325 (ti (ti trivial))))))))
  injection h with h; subst h
  exact fun_ok pm pn Go.Proofs.Try.func66 (r0 := VV.ag [vi (w64 (a0.tdiv r319)), vi (w64 (a1.tdiv r319))]) (ans := [.reg (.n :: []), .reg (.n :: .n :: .call (vi r319) :: .n :: []), .reg (.n :: .n :: []), .br false, .reg (nN 8 [])]) (fr := true) (by kernel_rfl) (an (an (ti trivial) (an e321 (an (an (ti (ti trivial)) (an (decide_eq_false h322) trivial)) (an e326 trivial)))) (an (ti (ti (ti trivial))) trivial)) (Wv.of_eq (eqN1_8 a0 r319 a1))
def nspeculumref01_CheckFrac (k : Nat) (a0 : SFrac) : Option Int :=
  if a0.Den < 1 then (some 3) else ((nspeculumbase_Gcd k a0.Num a0.Den).bind fun r345 => (if r345 = 1 then (if a0.Num < (-1000000000) then (some 2) else (if 1000000000 < a0.Num then (some 2) else (if 1000000000 < a0.Den then (some 2) else (some 0)))) else (some 3)))
theorem nspeculumref01_CheckFrac_ok (k : Nat) (a0 : SFrac) (r : Int) (h : nspeculumref01_CheckFrac k a0 = some r) : VC Go.Proofs.Try.prog 67 [VV.ag (c_SFrac a0)] (vi r) := by
 unfold nspeculumref01_CheckFrac at h
 rcases ifs h with ⟨h343, h⟩ | ⟨h343, h⟩
 ·have e344 := (ti (ti (ti (ti (an (decide_eq_true h343) (an (decide_eq_true h343) (an (decide_eq_true h343) (an (decide_eq_true h343) (an (decide_eq_true h343) (an (decide_eq_true h343) (an (decide_eq_true h343) trivial)))))))))))
  injection h with h; subst h
  exact fun_ok pm pn Go.Proofs.Try.func67 (r0 := vi 3) (ans := [.reg (.n :: .n :: []), .reg (nN 4 (nS 6 (.b true :: []))), .br true, .reg (.n :: [])]) (fr := true) (by kernel_rfl) (an (an (ti (ti trivial)) (an e344 (an rt (an (ti trivial) trivial)))) (ti trivial)) (Wv.refl _)
 ·obtain ⟨r345, h346, h⟩ := bs h
  have e347 := (an (decide_eq_false h343) (nspeculumbase_Gcd_ok k a0.Num a0.Den _ h346))
  have e348 := (ti (ti (ti (ti (an (an (decide_eq_false h343) trivial) (an (an (decide_eq_false h343) trivial) (an (an (decide_eq_false h343) trivial) (an (an (decide_eq_false h343) trivial) (an e347 (an (an (decide_eq_false h343) trivial) (an (decide_eq_false h343) trivial)))))))))))
  rcases ifs h with ⟨h349, h⟩ | ⟨h349, h⟩
  ·rcases ifs h with ⟨h350, h⟩ | ⟨h350, h⟩
   ·have e351 := (ti (ti (ti (ti (an (decide_eq_true h350) (an (decide_eq_true h350) (an (decide_eq_true h350) (an (decide_eq_true h350) (ti (an rt (an rt (an rt (an rt trivial)))))))))))))
    injection h with h; subst h
    exact fun_ok pm pn Go.Proofs.Try.func67 (r0 := vi 2) (ans := [.reg (.n :: .n :: []), .reg (nN 8 (.call (vi r345) :: .n :: .b false :: [])), .br false, .reg (nN 4 (nS 3 (.b true :: .n :: nS 3 (.b true :: [])))), .br true, .reg (.n :: [])]) (fr := true) (by kernel_rfl) (an (an (ti (ti trivial)) (an (an e348 (an (not_f (decide_eq_true h349)) trivial)) (an e351 (an rt (an (ti trivial) trivial))))) (ti trivial)) (Wv.refl _)
   ·rcases ifs h with ⟨h352, h⟩ | ⟨h352, h⟩
    ·have e353 := (ti (ti (ti (ti (an (an (decide_eq_false h350) trivial) (an (an (decide_eq_false h350) trivial) (an (an (decide_eq_false h350) trivial) (an (decide_eq_false h350) (ti (an (decide_eq_true h352) (an (decide_eq_true h352) (an (decide_eq_true h352) (an (decide_eq_true h352) trivial)))))))))))))
     injection h with h; subst h
     exact fun_ok pm pn Go.Proofs.Try.func67 (r0 := vi 2) (ans := [.reg (.n :: .n :: []), .reg (nN 8 (.call (vi r345) :: .n :: .b false :: [])), .br false, .reg (nN 7 (.b false :: .n :: nS 3 (.b true :: []))), .br true, .reg (.n :: [])]) (fr := true) (by kernel_rfl) (an (an (ti (ti trivial)) (an (an e348 (an (not_f (decide_eq_true h349)) trivial)) (an e353 (an rt (an (ti trivial) trivial))))) (ti trivial)) (Wv.refl _)
    ·have e354 := (ti (ti (ti (ti (an (an (decide_eq_false h350) trivial) (an (an (decide_eq_false h350) trivial) (an (an (decide_eq_false h350) trivial) (an (decide_eq_false h350) (ti (an (an (decide_eq_false h352) trivial) (an (an (decide_eq_false h352) trivial) (an (an (decide_eq_false h352) trivial) (an (decide_eq_false h352) trivial)))))))))))))
     rcases ifs h with ⟨h355, h⟩ | ⟨h355, h⟩
     ·injection h with h; subst h
      exact fun_ok pm pn Go.Proofs.Try.func67 (r0 := vi 2) (ans := [.reg (.n :: .n :: []), .reg (nN 8 (.call (vi r345) :: .n :: .b false :: [])), .br false, .reg (nN 7 (.b false :: nN 4 (.b false :: []))), .br true, .reg (.n :: [])]) (fr := true) (by kernel_rfl) (an (an (ti (ti trivial)) (an (an e348 (an (not_f (decide_eq_true h349)) trivial)) (an e354 (an (decide_eq_true h355) (an (ti trivial) trivial))))) (ti trivial)) (Wv.refl _)
     ·injection h with h; subst h
      exact fun_ok pm pn Go.Proofs.Try.func67 (r0 := vi 0) (ans := [.reg (.n :: .n :: []), .reg (nN 8 (.call (vi r345) :: .n :: .b false :: [])), .br false, .reg (nN 7 (.b false :: nN 4 (.b false :: []))), .br false, .reg (.n :: [])]) (fr := true) (by kernel_rfl) (an (an (ti (ti trivial)) (an (an e348 (an (not_f (decide_eq_true h349)) trivial)) (an (an e354 (an (decide_eq_false h355) trivial)) (an (ti trivial) trivial)))) (ti trivial)) (Wv.refl _)
  ·injection h with h; subst h
   exact fun_ok pm pn Go.Proofs.Try.func67 (r0 := vi 3) (ans := [.reg (.n :: .n :: []), .reg (nN 8 (.call (vi r345) :: .n :: .b false :: [])), .br true, .reg (.n :: [])]) (fr := true) (by kernel_rfl) (an (an (ti (ti trivial)) (an e348 (an (not_t (decide_eq_false h349)) (an (ti trivial) trivial)))) (ti trivial)) (Wv.refl _)
def nspeculumref01_made (k : Nat) (a0 : Int) (a1 : Int) : Option (SFrac × Int) :=
  (nspeculumbase_Lowest k a0 a1).bind fun r360 => ((nspeculumref01_CheckFrac k r360).bind fun r363 => (if r363 = 0 then (some (r360, 0)) else (some ((⟨0, 0⟩ : SFrac), 8))))
theorem nspeculumref01_made_ok (k : Nat) (a0 : Int) (a1 : Int) (r : (SFrac × Int)) (h : nspeculumref01_made k a0 a1 = some r) : VC Go.Proofs.Try.prog 42 [vi a0, vi a1] (VV.tu [VV.ag (c_SFrac r.1), vi r.2]) := by
 unfold nspeculumref01_made at h
 obtain ⟨r360, h361, h⟩ := bs h
 have e362 := (nspeculumbase_Lowest_ok k a0 a1 _ h361)
 obtain ⟨r363, h364, h⟩ := bs h
 have e365 := (nspeculumref01_CheckFrac_ok k r360 _ h364)
 rcases ifs h with ⟨h366, h⟩ | ⟨h366, h⟩
 ·injection h with h; subst h
  exact fun_ok pm pn Go.Proofs.Try.func42 (r0 := VV.tu [VV.ag (c_SFrac r360), vi 0]) (ans := [.reg (.n :: .n :: []), .reg (.n :: .n :: .call (VV.ag (c_SFrac r360)) :: .n :: .n :: []), .reg (.n :: .call (vi r363) :: .n :: []), .br false, .reg (nN 3 [])]) (fr := true) (by kernel_rfl) (an (an (ti (ti trivial)) (an (ti (ti (an e362 (ti (ti trivial))))) (an (an (ti (an e365 (ti trivial))) (an (not_f (decide_eq_true h366)) trivial)) (an (ti (ti (ti trivial))) trivial)))) (an (ti (ti (ti trivial))) (ti trivial))) (Wv.refl _)
 ·injection h with h; subst h
  exact fun_ok pm pn Go.Proofs.Try.func42 (r0 := VV.tu [VV.ag [vi 0, vi 0], vi 8]) (ans := [.reg (.n :: .n :: []), .reg (.n :: .n :: .call (VV.ag (c_SFrac r360)) :: .n :: .n :: []), .reg (.n :: .call (vi r363) :: .n :: []), .br true, .reg (nN 3 [])]) (fr := true) (by kernel_rfl) (an (an (ti (ti trivial)) (an (ti (ti (an e362 (ti (ti trivial))))) (an (ti (an e365 (ti trivial))) (an (not_t (decide_eq_false h366)) (an (ti (ti (ti trivial))) trivial))))) (an (ti (ti (ti trivial))) (ti trivial))) (Wv.of_eq eqN1_4)
def nspeculumref01_Mul (k : Nat) (a0 : SFrac) (a1 : SFrac) : Option (SFrac × Int) :=
  (nspeculumref01_made k (w64 (a0.Num * a1.Num)) (w64 (a0.Den * a1.Den))).bind fun r371 => (some (r371.1, r371.2))
theorem nspeculumref01_Mul_ok (k : Nat) (a0 : SFrac) (a1 : SFrac) (r : (SFrac × Int)) (h : nspeculumref01_Mul k a0 a1 = some r) : VC Go.Proofs.Try.prog 64 [VV.ag (c_SFrac a0), VV.ag (c_SFrac a1)] (VV.tu [VV.ag (c_SFrac r.1), vi r.2]) := by
 unfold nspeculumref01_Mul at h
 obtain ⟨r371, h372, h⟩ := bs h
 have e373 := (nspeculumref01_made_ok k (w64 (a0.Num * a1.Num)) (w64 (a0.Den * a1.Den)) _ h372)
 have e374 := (ti (ti (ti (ti (ti (ti (ti (ti (ti (ti (an e373 (ti (ti (ti (ti trivial)))))))))))))))
 injection h with h; subst h
 exact fun_ok pm pn Go.Proofs.Try.func64 (r0 := VV.tu [VV.ag (c_SFrac r371.1), vi r371.2]) (ans := [.reg (nN 4 []), .reg (nN 10 (.call (VV.tu [VV.ag (c_SFrac r371.1), vi r371.2]) :: nN 4 []))]) (fr := true) (by kernel_rfl) (an (an (ti (ti (ti (ti trivial)))) (an e374 trivial)) (an (ti (ti (ti trivial))) (ti trivial))) (Wv.refl _)
def nnumber_Sub (k : Nat) (a0 : SFrac) (a1 : SFrac) : Option (SFrac × Int) :=
  (nnumber_checkFracs k ([a0, a1] : List SFrac)).bind fun r383 => (if r383 = 0 then ((nnumber_lowest k (w64 ((w64 (a0.Num * a1.Den)) - (w64 (a1.Num * a0.Den)))) (w64 (a0.Den * a1.Den))).bind fun r387 => (some (r387.1, r387.2))) else (some ((⟨0, 0⟩ : SFrac), r383)))
theorem nnumber_Sub_ok (k : Nat) (a0 : SFrac) (a1 : SFrac) (r : (SFrac × Int)) (h : nnumber_Sub k a0 a1 = some r) : VC Go.Proofs.Try.prog 20 [VV.ag (c_SFrac a0), VV.ag (c_SFrac a1)] (VV.tu [VV.ag (c_SFrac r.1), vi r.2]) := by
 unfold nnumber_Sub at h
 obtain ⟨r383, h384, h⟩ := bs h
 have e385 := (VC.args (nnumber_checkFracs_ok k ([a0, a1] : List SFrac) _ h384) (eqN1_0 a0 a1))
 rcases ifs h with ⟨h386, h⟩ | ⟨h386, h⟩
 ·obtain ⟨r387, h388, h⟩ := bs h
  have e389 := (nnumber_lowest_ok k (w64 ((w64 (a0.Num * a1.Den)) - (w64 (a1.Num * a0.Den)))) (w64 (a0.Den * a1.Den)) _ h388)
  have e390 := (ti (ti (ti (ti (ti (ti (ti (ti (ti (ti (ti (ti (ti (ti (ti (ti (an e389 (ti (ti (ti (ti trivial)))))))))))))))))))))
  injection h with h; subst h
  exact fun_ok pm pn Go.Proofs.Try.func20 (r0 := VV.tu [VV.ag (c_SFrac r387.1), vi r387.2]) (ans := [.reg (nN 4 []), .reg (.n :: .n :: .v VV.any :: .call (vi r383) :: .n :: []), .reg (.n :: .n :: []), .br false, .reg (nN 16 (.call (VV.tu [VV.ag (c_SFrac r387.1), vi r387.2]) :: nN 4 []))]) (fr := true) (by kernel_rfl) (an (an (ti (ti (ti (ti trivial)))) (an (an (ti (ti (ti (an e385 (ti trivial))))) (an (ti (ti trivial)) (an (not_f (decide_eq_true h386)) trivial))) (an e390 trivial))) (an (ti (ti (ti trivial))) (ti trivial))) (Wv.refl _)
 ·injection h with h; subst h
  exact fun_ok pm pn Go.Proofs.Try.func20 (r0 := VV.tu [VV.ag [vi 0, vi 0], vi r383]) (ans := [.reg (nN 4 []), .reg (.n :: .n :: .v VV.any :: .call (vi r383) :: .n :: []), .reg (.n :: .n :: []), .br true, .reg (nN 4 [])]) (fr := true) (by kernel_rfl) (an (an (ti (ti (ti (ti trivial)))) (an (ti (ti (ti (an e385 (ti trivial))))) (an (ti (ti trivial)) (an (not_t (decide_eq_false h386)) (an (ti (ti (ti (ti trivial)))) trivial))))) (an (ti (ti (ti trivial))) (ti trivial))) (Wv.of_eq (eqN1_6 r383))
def nspeculumref01_Sub (k : Nat) (a0 : SFrac) (a1 : SFrac) : Option (SFrac × Int) :=
  (nspeculumref01_made k (w64 ((w64 (a0.Num * a1.Den)) - (w64 (a1.Num * a0.Den)))) (w64 (a0.Den * a1.Den))).bind fun r395 => (some (r395.1, r395.2))
theorem nspeculumref01_Sub_ok (k : Nat) (a0 : SFrac) (a1 : SFrac) (r : (SFrac × Int)) (h : nspeculumref01_Sub k a0 a1 = some r) : VC Go.Proofs.Try.prog 27 [VV.ag (c_SFrac a0), VV.ag (c_SFrac a1)] (VV.tu [VV.ag (c_SFrac r.1), vi r.2]) := by
 unfold nspeculumref01_Sub at h
 obtain ⟨r395, h396, h⟩ := bs h
 have e397 := (nspeculumref01_made_ok k (w64 ((w64 (a0.Num * a1.Den)) - (w64 (a1.Num * a0.Den)))) (w64 (a0.Den * a1.Den)) _ h396)
 have e398 := (ti (ti (ti (ti (ti (ti (ti (ti (ti (ti (ti (ti (ti (ti (ti (ti (an e397 (ti (ti (ti (ti trivial)))))))))))))))))))))
 injection h with h; subst h
 exact fun_ok pm pn Go.Proofs.Try.func27 (r0 := VV.tu [VV.ag (c_SFrac r395.1), vi r395.2]) (ans := [.reg (nN 4 []), .reg (nN 16 (.call (VV.tu [VV.ag (c_SFrac r395.1), vi r395.2]) :: nN 4 []))]) (fr := true) (by kernel_rfl) (an (an (ti (ti (ti (ti trivial)))) (an e398 trivial)) (an (ti (ti (ti trivial))) (ti trivial))) (Wv.refl _)
end Go.Proofs.Ytcjdpgoojhkaiaa.Vg

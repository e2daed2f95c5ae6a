/- Written by a program out of the program: what Go functions do, as plain functions, and their contracts. -/
import Derived.Test.YtpaclgmigndilaaWa
namespace Go.Proofs.Ytpaclgmigndilaa.Vg
set_option maxRecDepth 100000
set_option maxHeartbeats 4000000
set_option linter.unusedVariables false
set_option linter.unusedSimpArgs false
open Go Go.Proofs.Ytpaclgmigndilaa.Ev Go.Proofs.Ytpaclgmigndilaa.Vv
structure SFrac where
  Num : Int
  Den : Int
  deriving Inhabited
def c_SFrac (x : SFrac) : List VV := [vi x.Num, vi x.Den]
theorem len_c_SFrac (x : SFrac) : (c_SFrac x).length = 2 := rfl
theorem still_c_SFrac (xs : List SFrac) : (xs.flatMap c_SFrac).all VV.still = true := all_flat (fun _ => rfl) xs
theorem isC_c_SFrac (xs : List SFrac) : (xs.flatMap c_SFrac).all VV.isC = true := all_flat (fun _ => rfl) xs
theorem new0_c_SFrac (xs : List SFrac) : (xs.flatMap c_SFrac).all new0 = true := all_flat (fun _ => rfl) xs
theorem unfr_c_SFrac (xs : List SFrac) : (xs.flatMap c_SFrac).map unfr = xs.flatMap c_SFrac := unfr_flat (fun _ => rfl) xs
theorem ag3 : isAggT Go.Proofs.Try.prog 3 = some false := by kernel_rfl
theorem ag37 : isAggT Go.Proofs.Try.prog 37 = some true := by kernel_rfl
theorem sz37 : szOf Go.Proofs.Try.prog 37 = some 2 := by kernel_rfl
theorem eqok37 : EqOK Go.Proofs.Try.prog 37 [some (.i .i64), some (.i .i64)] := eqOK_of (by kernel_rfl) (by kernel_rfl) (eqT_struct Go.Proofs.Try.underlying37 (by kernel_rfl) (by kernel_rfl) (by kernel_rfl) (.cons (by decide +kernel) rfl (eqT_int Go.Proofs.Try.underlying3 (by kernel_rfl) (by kernel_rfl)) (.cons (by decide +kernel) rfl (eqT_int Go.Proofs.Try.underlying3 (by kernel_rfl) (by kernel_rfl)) .nil)))
def nawake (k : Nat) : Option Bool := some true
theorem nawake_ok (k : Nat) (r : Bool) (h : nawake k = some r) : VC Go.Proofs.Try.prog 11 [] (vb r) := by
  injection h with h; subst h
  exact vc_awake
def nnumber_size (k : Nat) (a0 : Int) : Option Int :=
  if a0 < 0 then (some (IntKind.u64.wrap (0 - (IntKind.u64.wrap a0)))) else (some (IntKind.u64.wrap a0))
theorem nnumber_size_ok (k : Nat) (a0 : Int) (r : Int) (h : nnumber_size k a0 = some r) : VC Go.Proofs.Try.prog 99 [vi a0] (VV.c (.int .u64 r)) := by
 unfold nnumber_size at h
 rcases ifs h with ⟨h7, h⟩ | ⟨h7, h⟩
 ·injection h with h; subst h
  exact fun_ok pm pn Go.Proofs.Try.func99 (r0 := VV.c (.int .u64 (IntKind.u64.wrap (0 - (IntKind.u64.wrap a0))))) (ans := [.reg (.n :: []), .reg (.n :: .n :: []), .br true, .reg (nN 4 [])]) (fr := true) (by kernel_rfl) (an (an (ti trivial) (an (ti (ti trivial)) (an (decide_eq_true h7) (an (ti (ti (ti (ti trivial)))) trivial)))) (ti trivial)) (Wv.refl _)
 ·injection h with h; subst h
  exact fun_ok pm pn Go.Proofs.Try.func99 (r0 := VV.c (.int .u64 (IntKind.u64.wrap a0))) (ans := [.reg (.n :: []), .reg (.n :: .n :: []), .br false, .reg (nN 3 [])]) (fr := true) (by kernel_rfl) (an (an (ti trivial) (an (an (ti (ti trivial)) (an (decide_eq_false h7) trivial)) (an (ti (ti (ti trivial))) trivial))) (ti trivial)) (Wv.refl _)
def nnumber_divisor_l0_0_h  (x0 : Int) (x1 : Int) : VS := ⟨mkA [(0, VV.c (.int .u64 x0)), (1, VV.c (.int .u64 x1))], [], .nil⟩
def nnumber_divisor_l0_0_e0  (r : Int) : VS := ⟨mkA [(0, VV.c (.int .u64 r))], [], .nil⟩
def nnumber_divisor_l0_0 (k : Nat)  : Nat → Int → Int → Option (Int)
  | 0, _, _ => none
  | fuel + 1, x0, x1 => if x1 = 0 then (some x0) else (if x1 ≠ 0 then (nnumber_divisor_l0_0 k  fuel x1 (x0.tmod x1)) else none)
theorem nnumber_divisor_l0_0_ok (k : Nat)  : ∀ (fuel : Nat) (x0 : Int) (x1 : Int) (r : Int), nnumber_divisor_l0_0 k  fuel x0 x1 = some r → (VLoop none Go.Proofs.Try.prog (szF Go.Proofs.Try.f100) (bodyOf Go.Proofs.Try.f100 0) (nnumber_divisor_l0_0_h  x0 x1) (.exit 0) (nnumber_divisor_l0_0_e0  r)) := by
 intro fuel
 induction fuel with
 | zero => intro x0 x1 r h; rw [nnumber_divisor_l0_0.eq_1] at h; cases h
 | succ fuel ih =>
  intro x0 x1 r h
  rw [nnumber_divisor_l0_0.eq_2] at h
  rcases ifs h with ⟨h27, h⟩ | ⟨h27, h⟩
  ·injection h with h; subst h
   exact round_stop (c := ⟨[(0, none)], [], []⟩) (s1 := (nnumber_divisor_l0_0_e0  x0)) pm pn (ans := [.reg (.n :: .n :: []), .br false]) (by kernel_rfl) (by intro e; cases e) (an (an (ti (ti trivial)) (an (not_f (decide_eq_true h27)) trivial)) (ti trivial))
  ·obtain ⟨h28, h⟩ := ifn h
   have h2 := ih _ _ _ h
   obtain ⟨q, hv, hq⟩ := pkR (rd := none) (P := Go.Proofs.Try.prog) (fn := Go.Proofs.Try.f100) (k := 0) (s := (nnumber_divisor_l0_0_h  x0 x1)) (ans := [.reg (.n :: .n :: []), .br true, .reg (nN 6 [])]) (c := ⟨[(0, none), (1, none)], [], []⟩) (e := .normal) (s1 := (nnumber_divisor_l0_0_h  x1 (x0.tmod x1))) (an (an (an (ti (ti trivial)) (an (not_t (decide_eq_false h27)) trivial)) (ti (ti (ti (an h28 (ti (ti trivial))))))) (ti trivial)) (by kernel_rfl)
   exact round_next pm pn hv hq h2
def nnumber_divisor (k : Nat) (a0 : Int) (a1 : Int) : Option Int :=
  (nnumber_divisor_l0_0 k k a0 a1).bind fun r30 => (some r30)
theorem nnumber_divisor_ok (k : Nat) (a0 : Int) (a1 : Int) (r : Int) (h : nnumber_divisor k a0 a1 = some r) : VC Go.Proofs.Try.prog 100 [VV.c (.int .u64 a0), VV.c (.int .u64 a1)] (VV.c (.int .u64 r)) := by
 unfold nnumber_divisor at h
 obtain ⟨r30, h29, h⟩ := bs h
 have hph29 := nnumber_divisor_l0_0_ok k  _ _ _ _ h29
 have e31 := (an (ti trivial) (VRun.loop hph29))
 injection h with h; subst h
 exact fun_ok pm pn Go.Proofs.Try.func100 (r0 := VV.c (.int .u64 r30)) (ans := [.reg (.n :: []), .sub ⟨[(0, none), (1, none)], [], []⟩ (.exit 0) (nnumber_divisor_l0_0_e0  r30), .reg (.n :: .n :: [])]) (fr := true) (by kernel_rfl) (an (an (ti trivial) (an e31 (an (ti (ti trivial)) trivial))) (ti trivial)) (Wv.refl _)
def arC1_0 (z0 : Int) (z1 : Int) (z2 : Int) : List Ans := (nN 6 (.call (VV.c (.int .u64 z0)) :: .n :: .n :: .call (VV.c (.int .u64 z1)) :: .call (VV.c (.int .u64 z2)) :: .n :: .b false :: []))
def nnumber_CheckFrac (k : Nat) (a0 : SFrac) : Option Int :=
  if a0.Den ≤ 0 then (some 3) else ((nnumber_size k a0.Num).bind fun r44 => ((nnumber_size k a0.Den).bind fun r47 => ((nnumber_divisor k r44 r47).bind fun r50 => (if r50 = 1 then (if 1000000000 < r44 then (some 2) else (if 1000000000 < a0.Den then (some 2) else (some 0))) else (some 3)))))
theorem nnumber_CheckFrac_ok (k : Nat) (a0 : SFrac) (r : Int) (h : nnumber_CheckFrac k a0 = some r) : VC Go.Proofs.Try.prog 62 [VV.ag (c_SFrac a0)] (vi r) := by
 unfold nnumber_CheckFrac at h
 rcases ifs h with ⟨h42, h⟩ | ⟨h42, h⟩
 ·have e43 := (ti (ti (ti (ti (an (decide_eq_true h42) (an (decide_eq_true h42) (an (decide_eq_true h42) (an (decide_eq_true h42) (an (decide_eq_true h42) (an (decide_eq_true h42) (an (decide_eq_true h42) (an (decide_eq_true h42) (an (decide_eq_true h42) trivial)))))))))))))
  injection h with h; subst h
  exact fun_ok pm pn Go.Proofs.Try.func62 (r0 := vi 3) (ans := [.reg (.n :: .n :: []), .reg (nN 4 (nS 8 (.b true :: []))), .br true, .reg (.n :: [])]) (fr := true) (by kernel_rfl) (an (an (ti (ti trivial)) (an e43 (an rt (an (ti trivial) trivial)))) (ti trivial)) (Wv.refl _)
 ·obtain ⟨r44, h45, h⟩ := bs h
  have e46 := (an (decide_eq_false h42) (nnumber_size_ok k a0.Num _ h45))
  obtain ⟨r47, h48, h⟩ := bs h
  have e49 := (an (decide_eq_false h42) (nnumber_size_ok k a0.Den _ h48))
  obtain ⟨r50, h51, h⟩ := bs h
  have e52 := (an (decide_eq_false h42) (nnumber_divisor_ok k r44 r47 _ h51))
  have e53 := (ti (ti (ti (ti (an (an (decide_eq_false h42) trivial) (an (an (decide_eq_false h42) trivial) (an e46 (an (an (decide_eq_false h42) trivial) (an (an (decide_eq_false h42) trivial) (an e49 (an e52 (an (an (decide_eq_false h42) trivial) (an (decide_eq_false h42) trivial)))))))))))))
  rcases ifs h with ⟨h54, h⟩ | ⟨h54, h⟩
  ·rcases ifs h with ⟨h56, h⟩ | ⟨h56, h⟩
   ·have e57 := (ti (ti (an (nnumber_size_ok k a0.Num _ h45) (ti (ti (an (decide_eq_true h56) (an (decide_eq_true h56) (an (decide_eq_true h56) (an (decide_eq_true h56) trivial)))))))))
    injection h with h; subst h
    exact fun_ok pm pn Go.Proofs.Try.func62 (r0 := vi 2) (ans := [.reg (.n :: .n :: []), .reg (arC1_0 r44 r47 r50), .br false, .reg (.n :: .n :: .call (VV.c (.int .u64 r44)) :: .n :: .n :: nS 3 (.b true :: [])), .br true, .reg (.n :: [])]) (fr := true) (by kernel_rfl) (an (an (ti (ti trivial)) (an (an e53 (an (not_f (decide_eq_true h54)) trivial)) (an e57 (an rt (an (ti trivial) trivial))))) (ti trivial)) (Wv.refl _)
   ·have e58 := (ti (ti (an (nnumber_size_ok k a0.Num _ h45) (ti (ti (an (an (decide_eq_false h56) trivial) (an (an (decide_eq_false h56) trivial) (an (an (decide_eq_false h56) trivial) (an (decide_eq_false h56) trivial)))))))))
    rcases ifs h with ⟨h59, h⟩ | ⟨h59, h⟩
    ·injection h with h; subst h
     exact fun_ok pm pn Go.Proofs.Try.func62 (r0 := vi 2) (ans := [.reg (.n :: .n :: []), .reg (arC1_0 r44 r47 r50), .br false, .reg (.n :: .n :: .call (VV.c (.int .u64 r44)) :: nN 5 (.b false :: [])), .br true, .reg (.n :: [])]) (fr := true) (by kernel_rfl) (an (an (ti (ti trivial)) (an (an e53 (an (not_f (decide_eq_true h54)) trivial)) (an e58 (an (decide_eq_true h59) (an (ti trivial) trivial))))) (ti trivial)) (Wv.refl _)
    ·injection h with h; subst h
     exact fun_ok pm pn Go.Proofs.Try.func62 (r0 := vi 0) (ans := [.reg (.n :: .n :: []), .reg (arC1_0 r44 r47 r50), .br false, .reg (.n :: .n :: .call (VV.c (.int .u64 r44)) :: nN 5 (.b false :: [])), .br false, .reg (.n :: [])]) (fr := true) (by kernel_rfl) (an (an (ti (ti trivial)) (an (an e53 (an (not_f (decide_eq_true h54)) trivial)) (an (an e58 (an (decide_eq_false h59) trivial)) (an (ti trivial) trivial)))) (ti trivial)) (Wv.refl _)
  ·injection h with h; subst h
   exact fun_ok pm pn Go.Proofs.Try.func62 (r0 := vi 3) (ans := [.reg (.n :: .n :: []), .reg (arC1_0 r44 r47 r50), .br true, .reg (.n :: [])]) (fr := true) (by kernel_rfl) (an (an (ti (ti trivial)) (an e53 (an (not_t (decide_eq_false h54)) (an (ti trivial) trivial)))) (ti trivial)) (Wv.refl _)
def nsupport_Convergents_l0_0_h (a0 : SFrac) (y3 : List SFrac) (b1_0 : Int) (b1_1 : Int) (b2_0 : Int) (b2_1 : Int) (x8 : Int) (x9 : Int) : VS := ⟨mkA [(5, VV.rf 3 0 y3.length), (6, VV.pt 1 0), (7, VV.pt 2 0), (8, vi x8), (9, vi x9)], [some ⟨true, 1, c_SFrac a0⟩, some ⟨true, 1, [vi b1_0, vi b1_1]⟩, some ⟨true, 1, [vi b2_0, vi b2_1]⟩, some ⟨false, 2, List.flatMap c_SFrac y3⟩], .nil⟩
def nsupport_Convergents_l0_0_e0 (a0 : SFrac) (r : Int × Int × Int × Int × (List SFrac)) : VS := ⟨mkA [(5, VV.rf 3 0 r.2.2.2.2.length)], [some ⟨true, 1, c_SFrac a0⟩, some ⟨true, 1, [vi r.1, vi r.2.1]⟩, some ⟨true, 1, [vi r.2.2.1, vi r.2.2.2.1]⟩, some ⟨false, 2, List.flatMap c_SFrac r.2.2.2.2⟩], .nil⟩
def nsupport_Convergents_l0_0 (k : Nat) (a0 : SFrac) : Nat → (List SFrac) → Int → Int → Int → Int → Int → Int → Option (Int × Int × Int × Int × (List SFrac))
  | 0, _, _, _, _, _, _, _ => none
  | fuel + 1, y3, b1_0, b1_1, b2_0, b2_1, x8, x9 => if x9 = 0 then (some (b1_0, b1_1, b2_0, b2_1, y3)) else (if x9 ≠ 0 then (if y3.length + ([(⟨w64 ((w64 ((w64 (x8.tdiv x9)) * b2_0)) + b1_0), w64 ((w64 ((w64 (x8.tdiv x9)) * b2_1)) + b1_1)⟩ : SFrac)] : List SFrac).length ≤ 1000000000 then (nsupport_Convergents_l0_0 k a0 fuel (y3 ++ ([(⟨w64 ((w64 ((w64 (x8.tdiv x9)) * b2_0)) + b1_0), w64 ((w64 ((w64 (x8.tdiv x9)) * b2_1)) + b1_1)⟩ : SFrac)] : List SFrac)) b2_0 b2_1 (w64 ((w64 ((w64 (x8.tdiv x9)) * b2_0)) + b1_0)) (w64 ((w64 ((w64 (x8.tdiv x9)) * b2_1)) + b1_1)) x9 (x8.tmod x9)) else none) else none)
theorem nsupport_Convergents_l0_0_ok (k : Nat) (a0 : SFrac) : ∀ (fuel : Nat) (y3 : List SFrac) (b1_0 : Int) (b1_1 : Int) (b2_0 : Int) (b2_1 : Int) (x8 : Int) (x9 : Int) (r : Int × Int × Int × Int × (List SFrac)), nsupport_Convergents_l0_0 k a0 fuel y3 b1_0 b1_1 b2_0 b2_1 x8 x9 = some r → (VLoop none Go.Proofs.Try.prog (szF Go.Proofs.Try.f17) (bodyOf Go.Proofs.Try.f17 0) (nsupport_Convergents_l0_0_h a0 y3 b1_0 b1_1 b2_0 b2_1 x8 x9) (.exit 0) (nsupport_Convergents_l0_0_e0 a0 r)) := by
 intro fuel
 induction fuel with
 | zero => intro y3 b1_0 b1_1 b2_0 b2_1 x8 x9 r h; rw [nsupport_Convergents_l0_0.eq_1] at h; cases h
 | succ fuel ih =>
  intro y3 b1_0 b1_1 b2_0 b2_1 x8 x9 r h
  rw [nsupport_Convergents_l0_0.eq_2] at h
  rcases ifs h with ⟨h108, h⟩ | ⟨h108, h⟩
  ·injection h with h; subst h
   exact round_stop (c := ⟨[(5, none)], [none, none, none, none], []⟩) (s1 := (nsupport_Convergents_l0_0_e0 a0 (b1_0, b1_1, b2_0, b2_1, y3))) pm pn (ans := [.reg (.n :: .n :: []), .br false]) (by kernel_rfl) (by intro e; cases e) (an (an (ti (ti trivial)) (an (not_f (decide_eq_true h108)) trivial)) (ti trivial))
  ·obtain ⟨h109, h⟩ := ifn h
   have e110 := (ti (ti (ti (ti (ti (ti (ti (ti (ti (ti (ti (ti (ti (ti (ti (ti (ti (ti trivial))))))))))))))))))
   obtain ⟨h111, h⟩ := ifn h
   have e112 := (show List.length (List.flatMap c_SFrac y3) = y3.length * 2 ∧ List.length [vi (w64 ((w64 ((w64 (x8.tdiv x9)) * b2_0)) + b1_0)), vi (w64 ((w64 ((w64 (x8.tdiv x9)) * b2_1)) + b1_1))] = 1 * 2 ∧ (y3.length + 1) * 16 ≤ 140737488355328 ∧ y3.length + 1 < 1099511627776 ∧ List.all [vi (w64 ((w64 ((w64 (x8.tdiv x9)) * b2_0)) + b1_0)), vi (w64 ((w64 ((w64 (x8.tdiv x9)) * b2_1)) + b1_1))] VV.still = true from ⟨(by rw [flatMap_len len_c_SFrac] <;> simp), (by rw [show [vi (w64 ((w64 ((w64 (x8.tdiv x9)) * b2_0)) + b1_0)), vi (w64 ((w64 ((w64 (x8.tdiv x9)) * b2_1)) + b1_1))] = List.flatMap c_SFrac ([(⟨w64 ((w64 ((w64 (x8.tdiv x9)) * b2_0)) + b1_0), w64 ((w64 ((w64 (x8.tdiv x9)) * b2_1)) + b1_1)⟩ : SFrac)] : List SFrac) from rfl]; rw [flatMap_len len_c_SFrac] <;> simp), (by first | omega | (simp at h111 ⊢; omega)), (by first | omega | (simp at h111 ⊢; omega)), (by rw [show [vi (w64 ((w64 ((w64 (x8.tdiv x9)) * b2_0)) + b1_0)), vi (w64 ((w64 ((w64 (x8.tdiv x9)) * b2_1)) + b1_1))] = List.flatMap c_SFrac ([(⟨w64 ((w64 ((w64 (x8.tdiv x9)) * b2_0)) + b1_0), w64 ((w64 ((w64 (x8.tdiv x9)) * b2_1)) + b1_1)⟩ : SFrac)] : List SFrac) from rfl]; exact still_c_SFrac _)⟩)
   have h2 := ih _ _ _ _ _ _ _ _ h
   obtain ⟨q, hv, hq⟩ := pkR (rd := none) (P := Go.Proofs.Try.prog) (fn := Go.Proofs.Try.f17) (k := 0) (s := (nsupport_Convergents_l0_0_h a0 y3 b1_0 b1_1 b2_0 b2_1 x8 x9)) (ans := [.reg (.n :: .n :: []), .br true, .reg (nN 4 []), .reg (nN 18 []), .reg (nN 5 []), .reg (nN 6 [])]) (c := ⟨[(5, some (VV.rf 3 0 ((y3 ++ ([(⟨w64 ((w64 ((w64 (x8.tdiv x9)) * b2_0)) + b1_0), w64 ((w64 ((w64 (x8.tdiv x9)) * b2_1)) + b1_1)⟩ : SFrac)] : List SFrac)).length))), (6, none), (7, none), (8, none), (9, none)], [none, none, none, some (List.flatMap c_SFrac (y3 ++ ([(⟨w64 ((w64 ((w64 (x8.tdiv x9)) * b2_0)) + b1_0), w64 ((w64 ((w64 (x8.tdiv x9)) * b2_1)) + b1_1)⟩ : SFrac)] : List SFrac)))], []⟩) (e := .normal) (s1 := (nsupport_Convergents_l0_0_h a0 (y3 ++ ([(⟨w64 ((w64 ((w64 (x8.tdiv x9)) * b2_0)) + b1_0), w64 ((w64 ((w64 (x8.tdiv x9)) * b2_1)) + b1_1)⟩ : SFrac)] : List SFrac)) b2_0 b2_1 (w64 ((w64 ((w64 (x8.tdiv x9)) * b2_0)) + b1_0)) (w64 ((w64 ((w64 (x8.tdiv x9)) * b2_1)) + b1_1)) x9 (x8.tmod x9))) (an (an (an (ti (ti trivial)) (an (not_t (decide_eq_false h108)) trivial)) (an (an (ti (ti (an h109 (ti trivial)))) (an e110 (ti (ti (ti (an e112 (ti trivial))))))) (ti (ti (ti (an h109 (ti (ti trivial)))))))) (an (an (show Wv (VV.rf 3 0 (y3.length + 1)) (VV.rf 3 0 ((y3 ++ ([(⟨w64 ((w64 ((w64 (x8.tdiv x9)) * b2_0)) + b1_0), w64 ((w64 ((w64 (x8.tdiv x9)) * b2_1)) + b1_1)⟩ : SFrac)] : List SFrac)).length)) from (Wv.of_eq (by simp))) trivial) (an (show (List.flatMap c_SFrac y3) ++ [vi (w64 ((w64 ((w64 (x8.tdiv x9)) * b2_0)) + b1_0)), vi (w64 ((w64 ((w64 (x8.tdiv x9)) * b2_1)) + b1_1))] = List.flatMap c_SFrac (y3 ++ ([(⟨w64 ((w64 ((w64 (x8.tdiv x9)) * b2_0)) + b1_0), w64 ((w64 ((w64 (x8.tdiv x9)) * b2_1)) + b1_1)⟩ : SFrac)] : List SFrac)) from (by rw [show [vi (w64 ((w64 ((w64 (x8.tdiv x9)) * b2_0)) + b1_0)), vi (w64 ((w64 ((w64 (x8.tdiv x9)) * b2_1)) + b1_1))] = List.flatMap c_SFrac ([(⟨w64 ((w64 ((w64 (x8.tdiv x9)) * b2_0)) + b1_0), w64 ((w64 ((w64 (x8.tdiv x9)) * b2_1)) + b1_1)⟩ : SFrac)] : List SFrac) from rfl]; exact List.flatMap_append.symm)) trivial))) (by kernel_rfl)
   exact round_next pm pn hv hq h2
theorem eqC1_0 (z0 : Int × Int × Int × Int × (List SFrac)) : VV.tu [VV.fw 2 (List.drop 0 (List.map unfr (List.flatMap c_SFrac z0.2.2.2.2))) z0.2.2.2.2.length, vi 0] = VV.tu [VV.fw 2 (List.flatMap c_SFrac z0.2.2.2.2) z0.2.2.2.2.length, vi 0] := by first | rfl | (simp only [drop0, unfr_vi, List.map_cons, List.map_nil, un_i, List.length_map, List.length_cons, List.length_nil, unfr_c_SFrac]; done) | (simp only [drop0, unfr_vi, List.map_cons, List.map_nil, un_i, List.length_map, List.length_cons, List.length_nil, unfr_c_SFrac]; rfl) | (simp only [drop0, unfr_vi, List.map_cons, List.map_nil, un_i, List.length_map, List.length_cons, List.length_nil, unfr_c_SFrac, c_SFrac, List.length_cons, List.length_nil, List.length_append]; done)
def nsupport_Convergents (k : Nat) (a0 : SFrac) : Option ((List SFrac) × Int) :=
  (nnumber_CheckFrac k a0).bind fun r88 => (if r88 = 0 then (if a0.Num < 0 then (some ([], 2)) else ((nsupport_Convergents_l0_0 k a0 k ([] : List SFrac) 0 1 1 0 a0.Num a0.Den).bind fun r114 => (some (r114.2.2.2.2, 0)))) else (some ([], r88)))
theorem nsupport_Convergents_ok (k : Nat) (a0 : SFrac) (r : ((List SFrac) × Int)) (h : nsupport_Convergents k a0 = some r) : VC Go.Proofs.Try.prog 17 [VV.ag (c_SFrac a0)] (VV.tu [VV.fw 2 (List.flatMap c_SFrac r.1) r.1.length, vi r.2]) := by
 unfold nsupport_Convergents at h
 obtain ⟨r88, h89, h⟩ := bs h
 have e90 := (ti (an (nnumber_CheckFrac_ok k a0 _ h89) (ti trivial)))
 rcases ifs h with ⟨h91, h⟩ | ⟨h91, h⟩
 ·rcases ifs h with ⟨h92, h⟩ | ⟨h92, h⟩
  ·injection h with h; subst h
   exact fun_ok pm pn Go.Proofs.Try.func17 (r0 := VV.tu [VV.c (.slice none 0 0), vi 2]) (ans := [.reg (nN 3 []), .reg (.n :: .call (vi r88) :: .n :: []), .reg (.n :: .n :: []), .br false, .reg (nN 3 []), .br true, .reg (.n :: .n :: [])]) (fr := true) (by kernel_rfl) (an (an (ti (ti (ti trivial))) (an (an e90 (an (ti (ti trivial)) (an (not_f (decide_eq_true h91)) trivial))) (an (ti (ti (ti trivial))) (an (decide_eq_true h92) (an (ti (ti trivial)) trivial))))) (ti (ti trivial))) (Wv.tuL (.cons Wv.nilFw (.cons (Wv.refl _) .nil)))
  ·obtain ⟨r114, h113, h⟩ := bs h
   have hph113 := nsupport_Convergents_l0_0_ok k a0 _ _ _ _ _ _ _ _ _ h113
   have e115 := (an (ti trivial) (VRun.loop hph113))
   injection h with h; subst h
   exact fun_ok pm pn Go.Proofs.Try.func17 (r0 := VV.tu [VV.fw 2 (List.drop 0 (List.map unfr (List.flatMap c_SFrac r114.2.2.2.2))) r114.2.2.2.2.length, vi 0]) (ans := [.reg (nN 3 []), .reg (.n :: .call (vi r88) :: .n :: []), .reg (.n :: .n :: []), .br false, .reg (nN 3 []), .br false, .reg (.n :: []), .reg (nN 6 []), .reg (nN 6 []), .sub ⟨[(5, none), (6, none), (7, none), (8, none), (9, none)], [none, none, none], [.t 5 2]⟩ (.exit 0) (nsupport_Convergents_l0_0_e0 a0 r114), .reg (nN 3 [])]) (fr := true) (by kernel_rfl) (an (an (ti (ti (ti trivial))) (an (an e90 (an (ti (ti trivial)) (an (not_f (decide_eq_true h91)) trivial))) (an (an (ti (ti (ti trivial))) (an (decide_eq_false h92) trivial)) (an (ti trivial) (an (ti (ti (ti (ti (ti (ti trivial)))))) (an (an (ti (ti (ti (ti (ti (ti trivial)))))) e115) (an (ti (ti (ti trivial))) trivial))))))) (an (show List.all (List.flatMap c_SFrac r114.2.2.2.2) new0 = true from (by exact new0_c_SFrac _)) (ti trivial))) (Wv.of_eq (eqC1_0 r114))
 ·injection h with h; subst h
  exact fun_ok pm pn Go.Proofs.Try.func17 (r0 := VV.tu [VV.c (.slice none 0 0), vi r88]) (ans := [.reg (nN 3 []), .reg (.n :: .call (vi r88) :: .n :: []), .reg (.n :: .n :: []), .br true, .reg (nN 3 [])]) (fr := true) (by kernel_rfl) (an (an (ti (ti (ti trivial))) (an e90 (an (ti (ti trivial)) (an (not_t (decide_eq_false h91)) (an (ti (ti (ti trivial))) trivial))))) (ti (ti trivial))) (Wv.tuL (.cons Wv.nilFw (.cons (Wv.refl _) .nil)))
def nspeculumbase_Abs (k : Nat) (a0 : Int) : Option Int :=
  if a0 < 0 then (some (w64 (0 - a0))) else (some a0)
theorem nspeculumbase_Abs_ok (k : Nat) (a0 : Int) (r : Int) (h : nspeculumbase_Abs k a0 = some r) : VC Go.Proofs.Try.prog 21 [vi a0] (vi r) := by
 unfold nspeculumbase_Abs at h
 rcases ifs h with ⟨h131, h⟩ | ⟨h131, h⟩
 ·injection h with h; subst h
  exact fun_ok pm pn Go.Proofs.Try.func21 (r0 := vi (w64 (0 - a0))) (ans := [.reg (.n :: []), .reg (.n :: .n :: []), .br true, .reg (nN 3 [])]) (fr := true) (by kernel_rfl) (an (an (ti trivial) (an (ti (ti trivial)) (an (decide_eq_true h131) (an (ti (ti (ti trivial))) trivial)))) (ti trivial)) (Wv.refl _)
 ·injection h with h; subst h
  exact fun_ok pm pn Go.Proofs.Try.func21 (r0 := vi a0) (ans := [.reg (.n :: []), .reg (.n :: .n :: []), .br false, .reg (.n :: .n :: [])]) (fr := true) (by kernel_rfl) (an (an (ti trivial) (an (an (ti (ti trivial)) (an (decide_eq_false h131) trivial)) (an (ti (ti trivial)) trivial))) (ti trivial)) (Wv.refl _)
def nspeculumbase_Gcd_l0_0_h  (x0 : Int) (x1 : Int) : VS := ⟨mkA [(0, vi x0), (1, vi x1)], [], .nil⟩
def nspeculumbase_Gcd_l0_0_e0  (r : Int) : VS := ⟨mkA [(0, vi r)], [], .nil⟩
def nspeculumbase_Gcd_l0_0 (k : Nat)  : Nat → Int → Int → Option (Int)
  | 0, _, _ => none
  | fuel + 1, x0, x1 => if x1 = 0 then (some x0) else (if x1 ≠ 0 then (nspeculumbase_Gcd_l0_0 k  fuel x1 (x0.tmod x1)) else none)
theorem nspeculumbase_Gcd_l0_0_ok (k : Nat)  : ∀ (fuel : Nat) (x0 : Int) (x1 : Int) (r : Int), nspeculumbase_Gcd_l0_0 k  fuel x0 x1 = some r → (VLoop none Go.Proofs.Try.prog (szF Go.Proofs.Try.f63) (bodyOf Go.Proofs.Try.f63 0) (nspeculumbase_Gcd_l0_0_h  x0 x1) (.exit 0) (nspeculumbase_Gcd_l0_0_e0  r)) := by
 intro fuel
 induction fuel with
 | zero => intro x0 x1 r h; rw [nspeculumbase_Gcd_l0_0.eq_1] at h; cases h
 | succ fuel ih =>
  intro x0 x1 r h
  rw [nspeculumbase_Gcd_l0_0.eq_2] at h
  rcases ifs h with ⟨h139, h⟩ | ⟨h139, h⟩
  ·injection h with h; subst h
   exact round_stop (c := ⟨[(0, none)], [], []⟩) (s1 := (nspeculumbase_Gcd_l0_0_e0  x0)) pm pn (ans := [.reg (.n :: .n :: []), .br false]) (by kernel_rfl) (by intro e; cases e) (an (an (ti (ti trivial)) (an (not_f (decide_eq_true h139)) trivial)) (ti trivial))
  ·obtain ⟨h140, h⟩ := ifn h
   have h2 := ih _ _ _ h
   obtain ⟨q, hv, hq⟩ := pkR (rd := none) (P := Go.Proofs.Try.prog) (fn := Go.Proofs.Try.f63) (k := 0) (s := (nspeculumbase_Gcd_l0_0_h  x0 x1)) (ans := [.reg (.n :: .n :: []), .br true, .reg (nN 6 [])]) (c := ⟨[(0, none), (1, none)], [], []⟩) (e := .normal) (s1 := (nspeculumbase_Gcd_l0_0_h  x1 (x0.tmod x1))) (an (an (an (ti (ti trivial)) (an (not_t (decide_eq_false h139)) trivial)) (ti (ti (ti (an h140 (ti (ti trivial))))))) (ti trivial)) (by kernel_rfl)
   exact round_next pm pn hv hq h2
def nspeculumbase_Gcd (k : Nat) (a0 : Int) (a1 : Int) : Option Int :=
  (nspeculumbase_Gcd_l0_0 k k a0 a1).bind fun r142 => ((nspeculumbase_Abs k r142).bind fun r144 => (some r144))
theorem nspeculumbase_Gcd_ok (k : Nat) (a0 : Int) (a1 : Int) (r : Int) (h : nspeculumbase_Gcd k a0 a1 = some r) : VC Go.Proofs.Try.prog 63 [vi a0, vi a1] (vi r) := by
 unfold nspeculumbase_Gcd at h
 obtain ⟨r142, h141, h⟩ := bs h
 have hph141 := nspeculumbase_Gcd_l0_0_ok k  _ _ _ _ h141
 have e143 := (an (ti trivial) (VRun.loop hph141))
 obtain ⟨r144, h145, h⟩ := bs h
 have e146 := (ti (an (nspeculumbase_Abs_ok k r142 _ h145) (ti trivial)))
 injection h with h; subst h
 exact fun_ok pm pn Go.Proofs.Try.func63 (r0 := vi r144) (ans := [.reg (.n :: []), .sub ⟨[(0, none), (1, none)], [], []⟩ (.exit 0) (nspeculumbase_Gcd_l0_0_e0  r142), .reg (.n :: .call (vi r144) :: .n :: [])]) (fr := true) (by kernel_rfl) (an (an (ti trivial) (an e143 (an e146 trivial))) (ti trivial)) (Wv.refl _)
def nspeculumref01_CheckFrac (k : Nat) (a0 : SFrac) : Option Int :=
  if a0.Den < 1 then (some 3) else ((nspeculumbase_Gcd k a0.Num a0.Den).bind fun r160 => (if r160 = 1 then (if a0.Num < (-1000000000) then (some 2) else (if 1000000000 < a0.Num then (some 2) else (if 1000000000 < a0.Den then (some 2) else (some 0)))) else (some 3)))
theorem nspeculumref01_CheckFrac_ok (k : Nat) (a0 : SFrac) (r : Int) (h : nspeculumref01_CheckFrac k a0 = some r) : VC Go.Proofs.Try.prog 18 [VV.ag (c_SFrac a0)] (vi r) := by
 unfold nspeculumref01_CheckFrac at h
 rcases ifs h with ⟨h158, h⟩ | ⟨h158, h⟩
 ·have e159 := (ti (ti (ti (ti (an (decide_eq_true h158) (an (decide_eq_true h158) (an (decide_eq_true h158) (an (decide_eq_true h158) (an (decide_eq_true h158) (an (decide_eq_true h158) (an (decide_eq_true h158) trivial)))))))))))
  injection h with h; subst h
  exact fun_ok pm pn Go.Proofs.Try.func18 (r0 := vi 3) (ans := [.reg (.n :: .n :: []), .reg (nN 4 (nS 6 (.b true :: []))), .br true, .reg (.n :: [])]) (fr := true) (by kernel_rfl) (an (an (ti (ti trivial)) (an e159 (an rt (an (ti trivial) trivial)))) (ti trivial)) (Wv.refl _)
 ·obtain ⟨r160, h161, h⟩ := bs h
  have e162 := (an (decide_eq_false h158) (nspeculumbase_Gcd_ok k a0.Num a0.Den _ h161))
  have e163 := (ti (ti (ti (ti (an (an (decide_eq_false h158) trivial) (an (an (decide_eq_false h158) trivial) (an (an (decide_eq_false h158) trivial) (an (an (decide_eq_false h158) trivial) (an e162 (an (an (decide_eq_false h158) trivial) (an (decide_eq_false h158) trivial)))))))))))
  rcases ifs h with ⟨h164, h⟩ | ⟨h164, h⟩
  ·rcases ifs h with ⟨h165, h⟩ | ⟨h165, h⟩
   ·have e166 := (ti (ti (ti (ti (an (decide_eq_true h165) (an (decide_eq_true h165) (an (decide_eq_true h165) (an (decide_eq_true h165) (ti (an rt (an rt (an rt (an rt trivial)))))))))))))
    injection h with h; subst h
    exact fun_ok pm pn Go.Proofs.Try.func18 (r0 := vi 2) (ans := [.reg (.n :: .n :: []), .reg (nN 8 (.call (vi r160) :: .n :: .b false :: [])), .br false, .reg (nN 4 (nS 3 (.b true :: .n :: nS 3 (.b true :: [])))), .br true, .reg (.n :: [])]) (fr := true) (by kernel_rfl) (an (an (ti (ti trivial)) (an (an e163 (an (not_f (decide_eq_true h164)) trivial)) (an e166 (an rt (an (ti trivial) trivial))))) (ti trivial)) (Wv.refl _)
   ·rcases ifs h with ⟨h167, h⟩ | ⟨h167, h⟩
    ·have e168 := (ti (ti (ti (ti (an (an (decide_eq_false h165) trivial) (an (an (decide_eq_false h165) trivial) (an (an (decide_eq_false h165) trivial) (an (decide_eq_false h165) (ti (an (decide_eq_true h167) (an (decide_eq_true h167) (an (decide_eq_true h167) (an (decide_eq_true h167) trivial)))))))))))))
     injection h with h; subst h
     exact fun_ok pm pn Go.Proofs.Try.func18 (r0 := vi 2) (ans := [.reg (.n :: .n :: []), .reg (nN 8 (.call (vi r160) :: .n :: .b false :: [])), .br false, .reg (nN 7 (.b false :: .n :: nS 3 (.b true :: []))), .br true, .reg (.n :: [])]) (fr := true) (by kernel_rfl) (an (an (ti (ti trivial)) (an (an e163 (an (not_f (decide_eq_true h164)) trivial)) (an e168 (an rt (an (ti trivial) trivial))))) (ti trivial)) (Wv.refl _)
    ·have e169 := (ti (ti (ti (ti (an (an (decide_eq_false h165) trivial) (an (an (decide_eq_false h165) trivial) (an (an (decide_eq_false h165) trivial) (an (decide_eq_false h165) (ti (an (an (decide_eq_false h167) trivial) (an (an (decide_eq_false h167) trivial) (an (an (decide_eq_false h167) trivial) (an (decide_eq_false h167) trivial)))))))))))))
     rcases ifs h with ⟨h170, h⟩ | ⟨h170, h⟩
     ·injection h with h; subst h
      exact fun_ok pm pn Go.Proofs.Try.func18 (r0 := vi 2) (ans := [.reg (.n :: .n :: []), .reg (nN 8 (.call (vi r160) :: .n :: .b false :: [])), .br false, .reg (nN 7 (.b false :: nN 4 (.b false :: []))), .br true, .reg (.n :: [])]) (fr := true) (by kernel_rfl) (an (an (ti (ti trivial)) (an (an e163 (an (not_f (decide_eq_true h164)) trivial)) (an e169 (an (decide_eq_true h170) (an (ti trivial) trivial))))) (ti trivial)) (Wv.refl _)
     ·injection h with h; subst h
      exact fun_ok pm pn Go.Proofs.Try.func18 (r0 := vi 0) (ans := [.reg (.n :: .n :: []), .reg (nN 8 (.call (vi r160) :: .n :: .b false :: [])), .br false, .reg (nN 7 (.b false :: nN 4 (.b false :: []))), .br false, .reg (.n :: [])]) (fr := true) (by kernel_rfl) (an (an (ti (ti trivial)) (an (an e163 (an (not_f (decide_eq_true h164)) trivial)) (an (an e169 (an (decide_eq_false h170) trivial)) (an (ti trivial) trivial)))) (ti trivial)) (Wv.refl _)
  ·injection h with h; subst h
   exact fun_ok pm pn Go.Proofs.Try.func18 (r0 := vi 3) (ans := [.reg (.n :: .n :: []), .reg (nN 8 (.call (vi r160) :: .n :: .b false :: [])), .br true, .reg (.n :: [])]) (fr := true) (by kernel_rfl) (an (an (ti (ti trivial)) (an e163 (an (not_t (decide_eq_false h164)) (an (ti trivial) trivial)))) (ti trivial)) (Wv.refl _)
def nspeculumref07_Convergents_l0_0_h  (y0 : List SFrac) (x4 : Int) (x5 : Int) (x6 : Int) (x7 : Int) (x8 : Int) (x9 : Int) : VS := ⟨mkA [(3, VV.rf 0 0 y0.length), (4, vi x4), (5, vi x5), (6, vi x6), (7, vi x7), (8, vi x8), (9, vi x9)], [some ⟨false, 2, List.flatMap c_SFrac y0⟩], .nil⟩
def nspeculumref07_Convergents_l0_0_e0  (r : (List SFrac)) : VS := ⟨mkA [(3, VV.rf 0 0 r.length)], [some ⟨false, 2, List.flatMap c_SFrac r⟩], .nil⟩
def nspeculumref07_Convergents_l0_0 (k : Nat)  : Nat → (List SFrac) → Int → Int → Int → Int → Int → Int → Option ((List SFrac))
  | 0, _, _, _, _, _, _, _ => none
  | fuel + 1, y0, x4, x5, x6, x7, x8, x9 => if 0 < x9 then (if x9 ≠ 0 then (if y0.length + ([(⟨w64 ((w64 ((w64 (x8.tdiv x9)) * x4)) + x5), w64 ((w64 ((w64 (x8.tdiv x9)) * x6)) + x7)⟩ : SFrac)] : List SFrac).length ≤ 1000000000 then (nspeculumref07_Convergents_l0_0 k  fuel (y0 ++ ([(⟨w64 ((w64 ((w64 (x8.tdiv x9)) * x4)) + x5), w64 ((w64 ((w64 (x8.tdiv x9)) * x6)) + x7)⟩ : SFrac)] : List SFrac)) (w64 ((w64 ((w64 (x8.tdiv x9)) * x4)) + x5)) x4 (w64 ((w64 ((w64 (x8.tdiv x9)) * x6)) + x7)) x6 x9 (x8.tmod x9)) else none) else none) else (some y0)
theorem nspeculumref07_Convergents_l0_0_ok (k : Nat)  : ∀ (fuel : Nat) (y0 : List SFrac) (x4 : Int) (x5 : Int) (x6 : Int) (x7 : Int) (x8 : Int) (x9 : Int) (r : (List SFrac)), nspeculumref07_Convergents_l0_0 k  fuel y0 x4 x5 x6 x7 x8 x9 = some r → (VLoop none Go.Proofs.Try.prog (szF Go.Proofs.Try.f20) (bodyOf Go.Proofs.Try.f20 0) (nspeculumref07_Convergents_l0_0_h  y0 x4 x5 x6 x7 x8 x9) (.exit 0) (nspeculumref07_Convergents_l0_0_e0  r)) := by
 intro fuel
 induction fuel with
 | zero => intro y0 x4 x5 x6 x7 x8 x9 r h; rw [nspeculumref07_Convergents_l0_0.eq_1] at h; cases h
 | succ fuel ih =>
  intro y0 x4 x5 x6 x7 x8 x9 r h
  rw [nspeculumref07_Convergents_l0_0.eq_2] at h
  rcases ifs h with ⟨h214, h⟩ | ⟨h214, h⟩
  ·obtain ⟨h215, h⟩ := ifn h
   obtain ⟨h216, h⟩ := ifn h
   have e217 := (show List.length (List.flatMap c_SFrac y0) = y0.length * 2 ∧ List.length [vi (w64 ((w64 ((w64 (x8.tdiv x9)) * x4)) + x5)), vi (w64 ((w64 ((w64 (x8.tdiv x9)) * x6)) + x7))] = 1 * 2 ∧ (y0.length + 1) * 16 ≤ 140737488355328 ∧ y0.length + 1 < 1099511627776 ∧ List.all [vi (w64 ((w64 ((w64 (x8.tdiv x9)) * x4)) + x5)), vi (w64 ((w64 ((w64 (x8.tdiv x9)) * x6)) + x7))] VV.still = true from ⟨(by rw [flatMap_len len_c_SFrac] <;> simp), (by rw [show [vi (w64 ((w64 ((w64 (x8.tdiv x9)) * x4)) + x5)), vi (w64 ((w64 ((w64 (x8.tdiv x9)) * x6)) + x7))] = List.flatMap c_SFrac ([(⟨w64 ((w64 ((w64 (x8.tdiv x9)) * x4)) + x5), w64 ((w64 ((w64 (x8.tdiv x9)) * x6)) + x7)⟩ : SFrac)] : List SFrac) from rfl]; rw [flatMap_len len_c_SFrac] <;> simp), (by first | omega | (simp at h216 ⊢; omega)), (by first | omega | (simp at h216 ⊢; omega)), (by rw [show [vi (w64 ((w64 ((w64 (x8.tdiv x9)) * x4)) + x5)), vi (w64 ((w64 ((w64 (x8.tdiv x9)) * x6)) + x7))] = List.flatMap c_SFrac ([(⟨w64 ((w64 ((w64 (x8.tdiv x9)) * x4)) + x5), w64 ((w64 ((w64 (x8.tdiv x9)) * x6)) + x7)⟩ : SFrac)] : List SFrac) from rfl]; exact still_c_SFrac _)⟩)
   have h2 := ih _ _ _ _ _ _ _ _ h
   obtain ⟨q, hv, hq⟩ := pkR (rd := none) (P := Go.Proofs.Try.prog) (fn := Go.Proofs.Try.f20) (k := 0) (s := (nspeculumref07_Convergents_l0_0_h  y0 x4 x5 x6 x7 x8 x9)) (ans := [.reg (.n :: .n :: []), .br true, .reg (nN 4 []), .reg (nN 8 []), .reg (nN 8 []), .reg (nN 7 []), .reg (nN 6 [])]) (c := ⟨[(3, some (VV.rf 0 0 ((y0 ++ ([(⟨w64 ((w64 ((w64 (x8.tdiv x9)) * x4)) + x5), w64 ((w64 ((w64 (x8.tdiv x9)) * x6)) + x7)⟩ : SFrac)] : List SFrac)).length))), (4, none), (5, none), (6, none), (7, none), (8, none), (9, none)], [some (List.flatMap c_SFrac (y0 ++ ([(⟨w64 ((w64 ((w64 (x8.tdiv x9)) * x4)) + x5), w64 ((w64 ((w64 (x8.tdiv x9)) * x6)) + x7)⟩ : SFrac)] : List SFrac)))], []⟩) (e := .normal) (s1 := (nspeculumref07_Convergents_l0_0_h  (y0 ++ ([(⟨w64 ((w64 ((w64 (x8.tdiv x9)) * x4)) + x5), w64 ((w64 ((w64 (x8.tdiv x9)) * x6)) + x7)⟩ : SFrac)] : List SFrac)) (w64 ((w64 ((w64 (x8.tdiv x9)) * x4)) + x5)) x4 (w64 ((w64 ((w64 (x8.tdiv x9)) * x6)) + x7)) x6 x9 (x8.tmod x9))) (an (an (an (ti (ti trivial)) (an (decide_eq_true h214) trivial)) (an (ti (ti (an h215 (ti trivial)))) (an (ti (ti (ti (ti (ti (ti (ti (ti trivial)))))))) (an (ti (ti (ti (ti (ti (ti (ti (ti trivial)))))))) (an (ti (ti (ti (ti (ti (an e217 (ti trivial))))))) (ti (ti (ti (an h215 (ti (ti trivial))))))))))) (an (an (show Wv (VV.rf 0 0 (y0.length + 1)) (VV.rf 0 0 ((y0 ++ ([(⟨w64 ((w64 ((w64 (x8.tdiv x9)) * x4)) + x5), w64 ((w64 ((w64 (x8.tdiv x9)) * x6)) + x7)⟩ : SFrac)] : List SFrac)).length)) from (Wv.of_eq (by simp))) trivial) (an (show (List.flatMap c_SFrac y0) ++ [vi (w64 ((w64 ((w64 (x8.tdiv x9)) * x4)) + x5)), vi (w64 ((w64 ((w64 (x8.tdiv x9)) * x6)) + x7))] = List.flatMap c_SFrac (y0 ++ ([(⟨w64 ((w64 ((w64 (x8.tdiv x9)) * x4)) + x5), w64 ((w64 ((w64 (x8.tdiv x9)) * x6)) + x7)⟩ : SFrac)] : List SFrac)) from (by rw [show [vi (w64 ((w64 ((w64 (x8.tdiv x9)) * x4)) + x5)), vi (w64 ((w64 ((w64 (x8.tdiv x9)) * x6)) + x7))] = List.flatMap c_SFrac ([(⟨w64 ((w64 ((w64 (x8.tdiv x9)) * x4)) + x5), w64 ((w64 ((w64 (x8.tdiv x9)) * x6)) + x7)⟩ : SFrac)] : List SFrac) from rfl]; exact List.flatMap_append.symm)) trivial))) (by kernel_rfl)
   exact round_next pm pn hv hq h2
  ·injection h with h; subst h
   exact round_stop (c := ⟨[(3, none)], [none], []⟩) (s1 := (nspeculumref07_Convergents_l0_0_e0  y0)) pm pn (ans := [.reg (.n :: .n :: []), .br false]) (by kernel_rfl) (by intro e; cases e) (an (an (ti (ti trivial)) (an (decide_eq_false h214) trivial)) (ti trivial))
theorem eqC1_1 (z0 : (List SFrac)) : VV.fw 2 (List.drop 0 (List.map unfr (List.flatMap c_SFrac z0))) z0.length = VV.fw 2 (List.flatMap c_SFrac z0) z0.length := by first | rfl | (simp only [drop0, List.map_cons, List.map_nil, List.length_map, unfr_c_SFrac]; done) | (simp only [drop0, List.map_cons, List.map_nil, List.length_map, unfr_c_SFrac]; rfl) | (simp only [drop0, List.map_cons, List.map_nil, List.length_map, unfr_c_SFrac, c_SFrac, List.length_cons, List.length_nil, List.length_append]; done)
def nspeculumref07_Convergents (k : Nat) (a0 : SFrac) : Option (List SFrac) :=
  (nspeculumref07_Convergents_l0_0 k k ([] : List SFrac) 1 0 0 1 a0.Num a0.Den).bind fun r219 => (some r219)
theorem nspeculumref07_Convergents_ok (k : Nat) (a0 : SFrac) (r : (List SFrac)) (h : nspeculumref07_Convergents k a0 = some r) : VC Go.Proofs.Try.prog 20 [VV.ag (c_SFrac a0)] (VV.fw 2 (List.flatMap c_SFrac r) r.length) := by
 unfold nspeculumref07_Convergents at h
 obtain ⟨r219, h218, h⟩ := bs h
 have hph218 := nspeculumref07_Convergents_l0_0_ok k  _ _ _ _ _ _ _ _ _ h218
 have e220 := (an (ti trivial) (VRun.loop hph218))
 injection h with h; subst h
 exact fun_ok pm pn Go.Proofs.Try.func20 (r0 := VV.fw 2 (List.drop 0 (List.map unfr (List.flatMap c_SFrac r219))) r219.length) (ans := [.reg (.n :: .n :: []), .reg (.n :: []), .reg (nN 4 []), .reg (nN 6 []), .sub ⟨[(3, none), (4, none), (5, none), (6, none), (7, none), (8, none), (9, none)], [], [.t 3 2]⟩ (.exit 0) (nspeculumref07_Convergents_l0_0_e0  r219), .reg (.n :: .n :: [])]) (fr := true) (by kernel_rfl) (an (an (ti (ti trivial)) (an (ti trivial) (an (ti (ti (ti (ti trivial)))) (an (ti (ti (ti (ti (ti (ti trivial)))))) (an e220 (an (ti (ti trivial)) trivial)))))) (an (show List.all (List.flatMap c_SFrac r219) new0 = true from (by exact new0_c_SFrac _)) trivial)) (Wv.of_eq (eqC1_1 r219))
def arC1_1 (z0 : (List SFrac)) (z1 : Int) (z2 : (List SFrac)) : List Ans := (nN 3 (.v (VV.ag (c_SFrac (z0.getD z1.toNat default))) :: nN 3 (.v (VV.ag (c_SFrac (z2.getD z1.toNat default))) :: .n :: [])))
def nspeculumbase_Fracs_l0_0_h (a0 : (List SFrac)) (a1 : (List SFrac)) (x5 : Int) : VS := ⟨mkA [(0, VV.tr (List.flatMap c_SFrac a0) a0.length), (1, VV.tr (List.flatMap c_SFrac a1) a1.length), (5, vi x5)], [], .nil⟩
def nspeculumbase_Fracs_l0_0_e0 (a0 : (List SFrac)) (a1 : (List SFrac)) (r : Unit) : VS := ⟨mkA [(4, vb false)], [], .nil⟩
def nspeculumbase_Fracs_l0_0_e1 (a0 : (List SFrac)) (a1 : (List SFrac)) (r : Unit) : VS := ⟨mkA [], [], .nil⟩
def nspeculumbase_Fracs_l0_0 (k : Nat) (a0 : (List SFrac)) (a1 : (List SFrac)) : Nat → Int → Option (Sum Unit Unit)
  | 0, _ => none
  | fuel + 1, x5 => if x5 < (a0.length : Int) then (if 0 ≤ x5 ∧ x5 < (a0.length : Int) then (if 0 ≤ x5 ∧ x5 < (a1.length : Int) then (if (((a0.getD x5.toNat default).Num : Int) == ((a1.getD x5.toNat default).Num) && (((a0.getD x5.toNat default).Den : Int) == ((a1.getD x5.toNat default).Den) && true)) = true then (nspeculumbase_Fracs_l0_0 k a0 a1 fuel (w64 (x5 + 1))) else (some (.inl ()))) else none) else none) else (some (.inr ()))
theorem nspeculumbase_Fracs_l0_0_ok (k : Nat) (a0 : (List SFrac)) (a1 : (List SFrac)) : ∀ (fuel : Nat) (x5 : Int) (r : Sum Unit Unit), nspeculumbase_Fracs_l0_0 k a0 a1 fuel x5 = some r → (match r with | .inl r => VLoop none Go.Proofs.Try.prog (szF Go.Proofs.Try.f19) (bodyOf Go.Proofs.Try.f19 0) (nspeculumbase_Fracs_l0_0_h a0 a1 x5) .ret (nspeculumbase_Fracs_l0_0_e0 a0 a1 r) | .inr r => VLoop none Go.Proofs.Try.prog (szF Go.Proofs.Try.f19) (bodyOf Go.Proofs.Try.f19 0) (nspeculumbase_Fracs_l0_0_h a0 a1 x5) (.exit 0) (nspeculumbase_Fracs_l0_0_e1 a0 a1 r)) := by
 intro fuel
 induction fuel with
 | zero => intro x5 r h; rw [nspeculumbase_Fracs_l0_0.eq_1] at h; cases h
 | succ fuel ih =>
  intro x5 r h
  rw [nspeculumbase_Fracs_l0_0.eq_2] at h
  rcases ifs h with ⟨h272, h⟩ | ⟨h272, h⟩
  ·obtain ⟨h273, h⟩ := ifn h
   have e274 := (show loadL Go.Proofs.Try.prog 37 (x5.toNat * 2) (List.flatMap c_SFrac a0) = some (VV.ag (c_SFrac (a0.getD x5.toNat default))) from ld_whole ag37 c_SFrac 2 sz37 len_c_SFrac a0 default h273 (by omega))
   obtain ⟨h275, h⟩ := ifn h
   have e276 := (show loadL Go.Proofs.Try.prog 37 (x5.toNat * 2) (List.flatMap c_SFrac a1) = some (VV.ag (c_SFrac (a1.getD x5.toNat default))) from ld_whole ag37 c_SFrac 2 sz37 len_c_SFrac a1 default h275 (by omega))
   have e277 := (show List.map kdV [Value.int .i64 ((a0.getD x5.toNat default).Num), Value.int .i64 ((a0.getD x5.toNat default).Den)] = List.map kdV [Value.int .i64 ((a1.getD x5.toNat default).Num), Value.int .i64 ((a1.getD x5.toNat default).Den)] ∧ EqOK Go.Proofs.Try.prog 37 (List.map kdV [Value.int .i64 ((a1.getD x5.toNat default).Num), Value.int .i64 ((a1.getD x5.toNat default).Den)]) from ⟨rfl, eqok37⟩)
   have e278 := (ti (ti (an h273 (an e274 (ti (ti (an h275 (an e276 (an e277 trivial)))))))))
   rcases ifs h with ⟨h279, h⟩ | ⟨h279, h⟩
   ·have h2 := ih _ _ h
    obtain ⟨q, hv, hq⟩ := pkR (rd := none) (P := Go.Proofs.Try.prog) (fn := Go.Proofs.Try.f19) (k := 0) (s := (nspeculumbase_Fracs_l0_0_h a0 a1 x5)) (ans := [.reg (nN 4 []), .br true, .reg (arC1_1 a0 x5 a1), .br false, .reg (nN 3 [])]) (c := ⟨[(0, none), (1, none), (5, none)], [], []⟩) (e := .normal) (s1 := (nspeculumbase_Fracs_l0_0_h a0 a1 (w64 (x5 + 1)))) (an (an (an (ti (ti (ti (ti trivial)))) (an (decide_eq_true h272) trivial)) (an (an e278 (an (not_f h279) trivial)) (ti (ti (ti trivial))))) (ti trivial)) (by kernel_rfl)
    cases r with
    | inl r => exact round_next pm pn hv hq h2
    | inr r =>
     exact round_next pm pn hv hq h2
   ·injection h with h; subst h
    exact round_stop (c := ⟨[(4, none)], [], []⟩) (s1 := (nspeculumbase_Fracs_l0_0_e0 a0 a1 ())) pm pn (ans := [.reg (nN 4 []), .br true, .reg (arC1_1 a0 x5 a1), .br true, .reg (.n :: [])]) (by kernel_rfl) (by intro e; cases e) (an (an (an (ti (ti (ti (ti trivial)))) (an (decide_eq_true h272) trivial)) (an e278 (an (not_t (bool_f h279)) (an (ti trivial) trivial)))) (ti trivial))
  ·injection h with h; subst h
   exact round_stop (c := ⟨[], [], []⟩) (s1 := (nspeculumbase_Fracs_l0_0_e1 a0 a1 ())) pm pn (ans := [.reg (nN 4 []), .br false]) (by kernel_rfl) (by intro e; cases e) (an (an (ti (ti (ti (ti trivial)))) (an (decide_eq_false h272) trivial)) (ti trivial))
def nspeculumbase_Fracs (k : Nat) (a0 : (List SFrac)) (a1 : (List SFrac)) : Option Bool :=
  if (a0.length : Int) = (a1.length : Int) then ((nspeculumbase_Fracs_l0_0 k a0 a1 k 0).bind fun r281 => (match r281 with | .inl r282 => (some false) | .inr r283 => (some true))) else (some false)
theorem nspeculumbase_Fracs_ok (k : Nat) (a0 : (List SFrac)) (a1 : (List SFrac)) (r : Bool) (h : nspeculumbase_Fracs k a0 a1 = some r) : VC Go.Proofs.Try.prog 19 [VV.tr (List.flatMap c_SFrac a0) a0.length, VV.tr (List.flatMap c_SFrac a1) a1.length] (vb r) := by
 unfold nspeculumbase_Fracs at h
 rcases ifs h with ⟨h255, h⟩ | ⟨h255, h⟩
 ·obtain ⟨r281, h280, h⟩ := bs h
  have hph280 := nspeculumbase_Fracs_l0_0_ok k a0 a1 _ _ _ h280
  cases r281 with
  | inl r282 =>
   dsimp only at h
   have e284 := (an (ti trivial) (VRun.loop hph280))
   injection h with h; subst h
   exact fun_ok pm pn Go.Proofs.Try.func19 (r0 := vb false) (ans := [.reg (.n :: []), .reg (nN 5 []), .br false, .reg (.n :: []), .sub ⟨[(0, none), (1, none), (5, none)], [], []⟩ .ret (nspeculumbase_Fracs_l0_0_e0 a0 a1 r282)]) (fr := true) (by kernel_rfl) (an (an (ti trivial) (an (an (ti (ti (ti (ti (ti trivial))))) (an (not_f (decide_eq_true h255)) trivial)) (an (ti trivial) e284))) (ti trivial)) (Wv.refl _)
  | inr r283 =>
   dsimp only at h
   have e285 := (an (ti trivial) (VRun.loop hph280))
   injection h with h; subst h
   exact fun_ok pm pn Go.Proofs.Try.func19 (r0 := vb true) (ans := [.reg (.n :: []), .reg (nN 5 []), .br false, .reg (.n :: []), .sub ⟨[(0, none), (1, none), (5, none)], [], []⟩ (.exit 0) (nspeculumbase_Fracs_l0_0_e1 a0 a1 r283), .reg (.n :: [])]) (fr := true) (by kernel_rfl) (an (an (ti trivial) (an (an (ti (ti (ti (ti (ti trivial))))) (an (not_f (decide_eq_true h255)) trivial)) (an (an (ti trivial) e285) (an (ti trivial) trivial)))) (ti trivial)) (Wv.refl _)
 ·injection h with h; subst h
  exact fun_ok pm pn Go.Proofs.Try.func19 (r0 := vb false) (ans := [.reg (.n :: []), .reg (nN 5 []), .br true, .reg (.n :: [])]) (fr := true) (by kernel_rfl) (an (an (ti trivial) (an (ti (ti (ti (ti (ti trivial))))) (an (not_t (decide_eq_false h255)) (an (ti trivial) trivial)))) (ti trivial)) (Wv.refl _)
def arC1_2 (z0 : ((List SFrac) × Int)) (z1 : Int) (z2 : Int) : List Ans := (nN 4 (.v (vi ((z0.1.getD z1.toNat default).Num)) :: nN 5 (.v (vi ((z0.1.getD (w64 (z1 - 1)).toNat default).Den)) :: nN 6 (.v (vi ((z0.1.getD (w64 (z1 - 1)).toNat default).Num)) :: nN 4 (.v (vi ((z0.1.getD z1.toNat default).Den)) :: .n :: .n :: .call (vi z2) :: .n :: [])))))
def arC1_3 (z0 : ((List SFrac) × Int)) : List Ans := (.n :: .call (VV.tu [VV.fr (List.flatMap c_SFrac z0.1) z0.1.length, vi z0.2]) :: nN 5 [])
def arC1_4 (z0 : (List SFrac)) (z1 : Bool) : List Ans := (nN 5 (.call (VV.fr (List.flatMap c_SFrac z0) z0.length) :: .call (vb z1) :: .n :: .b false :: nN 4 (.b false :: .n :: nS 8 (.b true :: []))))
def nspeculumlaw07_SupportConvergents_l0_0_h (r349 : ((List SFrac) × Int)) (x6 : Int) : VS := ⟨mkA [(3, VV.fr (List.flatMap c_SFrac r349.1) r349.1.length), (6, vi x6)], [], .nil⟩
def nspeculumlaw07_SupportConvergents_l0_0_e0 (r349 : ((List SFrac) × Int)) (r : Unit) : VS := ⟨mkA [(2, vb false)], [], .nil⟩
def nspeculumlaw07_SupportConvergents_l0_0_e1 (r349 : ((List SFrac) × Int)) (r : Unit) : VS := ⟨mkA [], [], .nil⟩
def nspeculumlaw07_SupportConvergents_l0_0 (k : Nat) (r349 : ((List SFrac) × Int)) : Nat → Int → Option (Sum Unit Unit)
  | 0, _ => none
  | fuel + 1, x6 => if x6 < (r349.1.length : Int) then (if 0 ≤ x6 ∧ x6 < (r349.1.length : Int) then (if 0 ≤ w64 (x6 - 1) ∧ w64 (x6 - 1) < (r349.1.length : Int) then ((nspeculumbase_Abs k (w64 ((w64 (((r349.1.getD x6.toNat default).Num) * ((r349.1.getD (w64 (x6 - 1)).toNat default).Den))) - (w64 (((r349.1.getD (w64 (x6 - 1)).toNat default).Num) * ((r349.1.getD x6.toNat default).Den)))))).bind fun r410 => (if r410 = 1 then (nspeculumlaw07_SupportConvergents_l0_0 k r349 fuel (w64 (x6 + 1))) else (some (.inl ())))) else none) else none) else (some (.inr ()))
theorem nspeculumlaw07_SupportConvergents_l0_0_ok (k : Nat) (r349 : ((List SFrac) × Int)) : ∀ (fuel : Nat) (x6 : Int) (r : Sum Unit Unit), nspeculumlaw07_SupportConvergents_l0_0 k r349 fuel x6 = some r → (match r with | .inl r => VLoop none Go.Proofs.Try.prog (szF Go.Proofs.Try.f4) (bodyOf Go.Proofs.Try.f4 0) (nspeculumlaw07_SupportConvergents_l0_0_h r349 x6) .ret (nspeculumlaw07_SupportConvergents_l0_0_e0 r349 r) | .inr r => VLoop none Go.Proofs.Try.prog (szF Go.Proofs.Try.f4) (bodyOf Go.Proofs.Try.f4 0) (nspeculumlaw07_SupportConvergents_l0_0_h r349 x6) (.exit 0) (nspeculumlaw07_SupportConvergents_l0_0_e1 r349 r)) := by
 intro fuel
 induction fuel with
 | zero => intro x6 r h; rw [nspeculumlaw07_SupportConvergents_l0_0.eq_1] at h; cases h
 | succ fuel ih =>
  intro x6 r h
  rw [nspeculumlaw07_SupportConvergents_l0_0.eq_2] at h
  rcases ifs h with ⟨h403, h⟩ | ⟨h403, h⟩
  ·obtain ⟨h404, h⟩ := ifn h
   have e405 := (show loadL Go.Proofs.Try.prog 3 (x6.toNat * 2 + 0) (List.flatMap c_SFrac r349.1) = some (vi ((r349.1.getD x6.toNat default).Num)) from (ld_flat ag3 c_SFrac 2 0 len_c_SFrac (by omega) r349.1 default h404 (by omega)).trans rfl)
   obtain ⟨h406, h⟩ := ifn h
   have e407 := (show loadL Go.Proofs.Try.prog 3 ((w64 (x6 - 1)).toNat * 2 + 1) (List.flatMap c_SFrac r349.1) = some (vi ((r349.1.getD (w64 (x6 - 1)).toNat default).Den)) from (ld_flat ag3 c_SFrac 2 1 len_c_SFrac (by omega) r349.1 default h406 (by omega)).trans rfl)
   have e408 := (show loadL Go.Proofs.Try.prog 3 ((w64 (x6 - 1)).toNat * 2 + 0) (List.flatMap c_SFrac r349.1) = some (vi ((r349.1.getD (w64 (x6 - 1)).toNat default).Num)) from (ld_flat ag3 c_SFrac 2 0 len_c_SFrac (by omega) r349.1 default h406 (by omega)).trans rfl)
   have e409 := (show loadL Go.Proofs.Try.prog 3 (x6.toNat * 2 + 1) (List.flatMap c_SFrac r349.1) = some (vi ((r349.1.getD x6.toNat default).Den)) from (ld_flat ag3 c_SFrac 2 1 len_c_SFrac (by omega) r349.1 default h404 (by omega)).trans rfl)
   obtain ⟨r410, h411, h⟩ := bs h
   have e412 := (nspeculumbase_Abs_ok k (w64 ((w64 (((r349.1.getD x6.toNat default).Num) * ((r349.1.getD (w64 (x6 - 1)).toNat default).Den))) - (w64 (((r349.1.getD (w64 (x6 - 1)).toNat default).Num) * ((r349.1.getD x6.toNat default).Den))))) _ h411)
   have e413 := (ti (ti (an h404 (ti (an e405 (ti (ti (ti (an h406 (ti (an e407 (ti (ti (ti (ti (an h406 (ti (an e408 (ti (ti (an h404 (ti (an e409 (ti (ti (an e412 (ti trivial)))))))))))))))))))))))))))
   rcases ifs h with ⟨h414, h⟩ | ⟨h414, h⟩
   ·have h2 := ih _ _ h
    obtain ⟨q, hv, hq⟩ := pkR (rd := none) (P := Go.Proofs.Try.prog) (fn := Go.Proofs.Try.f4) (k := 0) (s := (nspeculumlaw07_SupportConvergents_l0_0_h r349 x6)) (ans := [.reg (nN 4 []), .br true, .reg (arC1_2 r349 x6 r410), .br false, .reg (nN 3 [])]) (c := ⟨[(3, none), (6, none)], [], []⟩) (e := .normal) (s1 := (nspeculumlaw07_SupportConvergents_l0_0_h r349 (w64 (x6 + 1)))) (an (an (an (ti (ti (ti (ti trivial)))) (an (decide_eq_true h403) trivial)) (an (an e413 (an (not_f (decide_eq_true h414)) trivial)) (ti (ti (ti trivial))))) (ti trivial)) (by kernel_rfl)
    cases r with
    | inl r => exact round_next pm pn hv hq h2
    | inr r =>
     exact round_next pm pn hv hq h2
   ·injection h with h; subst h
    exact round_stop (c := ⟨[(2, none)], [], []⟩) (s1 := (nspeculumlaw07_SupportConvergents_l0_0_e0 r349 ())) pm pn (ans := [.reg (nN 4 []), .br true, .reg (arC1_2 r349 x6 r410), .br true, .reg (.n :: [])]) (by kernel_rfl) (by intro e; cases e) (an (an (an (ti (ti (ti (ti trivial)))) (an (decide_eq_true h403) trivial)) (an e413 (an (not_t (decide_eq_false h414)) (an (ti trivial) trivial)))) (ti trivial))
  ·injection h with h; subst h
   exact round_stop (c := ⟨[], [], []⟩) (s1 := (nspeculumlaw07_SupportConvergents_l0_0_e1 r349 ())) pm pn (ans := [.reg (nN 4 []), .br false]) (by kernel_rfl) (by intro e; cases e) (an (an (ti (ti (ti (ti trivial)))) (an (decide_eq_false h403) trivial)) (ti trivial))
def arC1_5 (z0 : (List SFrac)) (z1 : Bool) (z2 : ((List SFrac) × Int)) : List Ans := (nN 5 (.call (VV.fr (List.flatMap c_SFrac z0) z0.length) :: .call (vb z1) :: .n :: .b false :: nN 4 (.b false :: nN 6 (.v (VV.ag (c_SFrac (z2.1.getD (w64 ((z2.1.length : Int) - 1)).toNat default))) :: .n :: .n :: .b false :: []))))
def arC1_6 (z0 : (List SFrac)) (z1 : Bool) : List Ans := (nN 5 (.call (VV.fr (List.flatMap c_SFrac z0) z0.length) :: .call (vb z1) :: .n :: .b false :: .n :: nS 3 (.b true :: .n :: nS 8 (.b true :: []))))
def nspeculumlaw07_SupportConvergents (k : Nat) (a0 : SFrac) : Option Bool :=
  (nawake k).bind fun r346 => (if r346 = true then ((nsupport_Convergents k a0).bind fun r349 => ((nspeculumref01_CheckFrac k a0).bind fun r352 => (if r352 = 0 then (if a0.Num < 0 then (if r349.2 = 2 then (some (decide ((r349.1.length : Int) = 0))) else (some false)) else (if r349.2 = 0 then ((nspeculumref07_Convergents k a0).bind fun r364 => ((nspeculumbase_Fracs k r349.1 r364).bind fun r367 => (if r367 = true then (if (r349.1.length : Int) = 0 then (some false) else (if 0 ≤ w64 ((r349.1.length : Int) - 1) ∧ w64 ((r349.1.length : Int) - 1) < (r349.1.length : Int) then (if (((r349.1.getD (w64 ((r349.1.length : Int) - 1)).toNat default).Num : Int) == a0.Num && (((r349.1.getD (w64 ((r349.1.length : Int) - 1)).toNat default).Den : Int) == a0.Den && true)) = true then ((nspeculumlaw07_SupportConvergents_l0_0 k r349 k 1).bind fun r416 => (match r416 with | .inl r417 => (some false) | .inr r418 => (some true))) else (some false)) else none)) else (some false)))) else (some false))) else (if r349.2 = r352 then (some (decide ((r349.1.length : Int) = 0))) else (some false))))) else (some false))
theorem nspeculumlaw07_SupportConvergents_ok (k : Nat) (a0 : SFrac) (r : Bool) (h : nspeculumlaw07_SupportConvergents k a0 = some r) : VC Go.Proofs.Try.prog 4 [VV.ag (c_SFrac a0)] (vb r) := by
 unfold nspeculumlaw07_SupportConvergents at h
 obtain ⟨r346, h347, h⟩ := bs h
 rcases ifs h with ⟨h348, h⟩ | ⟨h348, h⟩
 ·obtain ⟨r349, h350, h⟩ := bs h
  have e351 := (show VC Go.Proofs.Try.prog 17 [VV.ag (c_SFrac a0)] (VV.tu [VV.fr (List.flatMap c_SFrac r349.1) r349.1.length, vi r349.2]) from (VC.weak (nsupport_Convergents_ok k a0 _ h350) (Wv.tuL (.cons (Wv.fw rfl rfl) (.cons (Wv.refl _) .nil)))))
  obtain ⟨r352, h353, h⟩ := bs h
  have e354 := (nspeculumref01_CheckFrac_ok k a0 _ h353)
  rcases ifs h with ⟨h355, h⟩ | ⟨h355, h⟩
  ·have e356 := (ti (ti (ti (an (an (decide_eq_true h355) trivial) (an (an (decide_eq_true h355) trivial) (an (an (decide_eq_true h355) trivial) (an (decide_eq_true h355) trivial)))))))
   rcases ifs h with ⟨h357, h⟩ | ⟨h357, h⟩
   ·rcases ifs h with ⟨h358, h⟩ | ⟨h358, h⟩
    ·have e359 := (ti (ti (ti (ti (an (an (decide_eq_true h358) trivial) (an (an (decide_eq_true h358) trivial) (an (an (decide_eq_true h358) trivial) (an (decide_eq_true h358) (ti trivial)))))))))
     injection h with h; subst h
     exact fun_ok pm pn Go.Proofs.Try.func4 (r0 := vb (decide ((r349.1.length : Int) = 0))) (ans := [.reg (.n :: .n :: []), .reg (.call (vb r346) :: .n :: []), .br false, .reg (arC1_3 r349), .reg (.n :: .call (vi r352) :: .n :: []), .reg (nN 6 (.b true :: [])), .br true, .reg (.n :: []), .reg (.n :: .n :: []), .br true, .reg (nN 7 (.b true :: .n :: []))]) (fr := true) (by kernel_rfl) (an (an (ti (ti trivial)) (an (an (an (nawake_ok k _ h347) (ti trivial)) (an (not_f h348) trivial)) (an (ti (an e351 (ti (ti (ti (ti (ti trivial))))))) (an (ti (an e354 (ti trivial))) (an (an e356 (an (decide_eq_true h357) (ti trivial))) (an (ti (ti trivial)) (an (show (!(decide ((2 : Int) = 0))) = true from (not_t (decide_eq_false (by decide)))) (an e359 trivial)))))))) (ti trivial)) (Wv.refl _)
    ·have e360 := (ti (ti (ti (ti (an (decide_eq_false h358) (an (decide_eq_false h358) (an (decide_eq_false h358) (an (decide_eq_false h358) (ti trivial)))))))))
     injection h with h; subst h
     exact fun_ok pm pn Go.Proofs.Try.func4 (r0 := vb false) (ans := [.reg (.n :: .n :: []), .reg (.call (vb r346) :: .n :: []), .br false, .reg (arC1_3 r349), .reg (.n :: .call (vi r352) :: .n :: []), .reg (nN 6 (.b true :: [])), .br true, .reg (.n :: []), .reg (.n :: .n :: []), .br true, .reg (nN 4 (nS 3 (.b false :: .n :: [])))]) (fr := true) (by kernel_rfl) (an (an (ti (ti trivial)) (an (an (an (nawake_ok k _ h347) (ti trivial)) (an (not_f h348) trivial)) (an (ti (an e351 (ti (ti (ti (ti (ti trivial))))))) (an (ti (an e354 (ti trivial))) (an (an e356 (an (decide_eq_true h357) (ti trivial))) (an (ti (ti trivial)) (an (show (!(decide ((2 : Int) = 0))) = true from (not_t (decide_eq_false (by decide)))) (an e360 trivial)))))))) (ti trivial)) (Wv.refl _)
   ·rcases ifs h with ⟨h361, h⟩ | ⟨h361, h⟩
    ·have e362 := (an (not_f (decide_eq_true h361)) trivial)
     have e363 := (an (not_f (decide_eq_true h361)) trivial)
     obtain ⟨r364, h365, h⟩ := bs h
     have e366 := (an (not_f (decide_eq_true h361)) (show VC Go.Proofs.Try.prog 20 [VV.ag (c_SFrac a0)] (VV.fr (List.flatMap c_SFrac r364) r364.length) from (VC.weak (nspeculumref07_Convergents_ok k a0 _ h365) (Wv.fw rfl rfl))))
     obtain ⟨r367, h368, h⟩ := bs h
     have e369 := (an (not_f (decide_eq_true h361)) (nspeculumbase_Fracs_ok k r349.1 r364 _ h368))
     have e370 := (an (not_f (decide_eq_true h361)) trivial)
     rcases ifs h with ⟨h371, h⟩ | ⟨h371, h⟩
     ·rcases ifs h with ⟨h372, h⟩ | ⟨h372, h⟩
      ·have e373 := (ti (ti (ti (an e362 (an e363 (an e366 (an e369 (an e370 (an (not_f (decide_eq_true h361)) (ti (an (an (not_f h371) trivial) (an (an (not_f h371) trivial) (an (an (not_f h371) trivial) (an (not_f h371) (ti (an (decide_eq_true h372) (an (decide_eq_true h372) (an (decide_eq_true h372) (an (decide_eq_true h372) (an (decide_eq_true h372) (an (decide_eq_true h372) (an (decide_eq_true h372) (an (decide_eq_true h372) (an (decide_eq_true h372) trivial))))))))))))))))))))))))
       injection h with h; subst h
       exact fun_ok pm pn Go.Proofs.Try.func4 (r0 := vb false) (ans := [.reg (.n :: .n :: []), .reg (.call (vb r346) :: .n :: []), .br false, .reg (arC1_3 r349), .reg (.n :: .call (vi r352) :: .n :: []), .reg (nN 6 (.b true :: [])), .br false, .reg (.n :: .n :: []), .br false, .reg (arC1_4 r364 r367), .br true, .reg (.n :: [])]) (fr := true) (by kernel_rfl) (an (an (ti (ti trivial)) (an (an (an (nawake_ok k _ h347) (ti trivial)) (an (not_f h348) trivial)) (an (ti (an e351 (ti (ti (ti (ti (ti trivial))))))) (an (ti (an e354 (ti trivial))) (an (an e356 (an (decide_eq_false h357) trivial)) (an (an (ti (ti trivial)) (an (not_f (decide_eq_true h355)) trivial)) (an e373 (an rt (an (ti trivial) trivial))))))))) (ti trivial)) (Wv.refl _)
      ·obtain ⟨h374, h⟩ := ifn h
       have e375 := (an (decide_eq_false h372) (show loadL Go.Proofs.Try.prog 37 ((w64 ((r349.1.length : Int) - 1)).toNat * 2) (List.flatMap c_SFrac r349.1) = some (VV.ag (c_SFrac (r349.1.getD (w64 ((r349.1.length : Int) - 1)).toNat default))) from ld_whole ag37 c_SFrac 2 sz37 len_c_SFrac r349.1 default h374 (by omega)))
       have e376 := (an (decide_eq_false h372) (show List.map kdV [Value.int .i64 ((r349.1.getD (w64 ((r349.1.length : Int) - 1)).toNat default).Num), Value.int .i64 ((r349.1.getD (w64 ((r349.1.length : Int) - 1)).toNat default).Den)] = List.map kdV [Value.int .i64 a0.Num, Value.int .i64 a0.Den] ∧ EqOK Go.Proofs.Try.prog 37 (List.map kdV [Value.int .i64 a0.Num, Value.int .i64 a0.Den]) from ⟨rfl, eqok37⟩))
       have e377 := (ti (ti (ti (an e362 (an e363 (an e366 (an e369 (an e370 (an (not_f (decide_eq_true h361)) (ti (an (an (not_f h371) trivial) (an (an (not_f h371) trivial) (an (an (not_f h371) trivial) (an (not_f h371) (ti (an (an (decide_eq_false h372) trivial) (an (an (decide_eq_false h372) trivial) (an (an (decide_eq_false h372) trivial) (an (an (decide_eq_false h372) trivial) (an (an (decide_eq_false h372) h374) (an e375 (an (an (decide_eq_false h372) trivial) (an e376 (an (decide_eq_false h372) trivial))))))))))))))))))))))))
       rcases ifs h with ⟨h378, h⟩ | ⟨h378, h⟩
       ·obtain ⟨r416, h415, h⟩ := bs h
        have hph415 := nspeculumlaw07_SupportConvergents_l0_0_ok k r349 _ _ _ h415
        cases r416 with
        | inl r417 =>
         dsimp only at h
         have e419 := (an (ti trivial) (VRun.loop hph415))
         injection h with h; subst h
         exact fun_ok pm pn Go.Proofs.Try.func4 (r0 := vb false) (ans := [.reg (.n :: .n :: []), .reg (.call (vb r346) :: .n :: []), .br false, .reg (arC1_3 r349), .reg (.n :: .call (vi r352) :: .n :: []), .reg (nN 6 (.b true :: [])), .br false, .reg (.n :: .n :: []), .br false, .reg (arC1_5 r364 r367 r349), .br false, .reg (.n :: []), .sub ⟨[(3, none), (6, none)], [], []⟩ .ret (nspeculumlaw07_SupportConvergents_l0_0_e0 r349 r417)]) (fr := true) (by kernel_rfl) (an (an (ti (ti trivial)) (an (an (an (nawake_ok k _ h347) (ti trivial)) (an (not_f h348) trivial)) (an (ti (an e351 (ti (ti (ti (ti (ti trivial))))))) (an (ti (an e354 (ti trivial))) (an (an e356 (an (decide_eq_false h357) trivial)) (an (an (ti (ti trivial)) (an (not_f (decide_eq_true h355)) trivial)) (an (an e377 (an (not_f h378) trivial)) (an (ti trivial) e419)))))))) (ti trivial)) (Wv.refl _)
        | inr r418 =>
         dsimp only at h
         have e420 := (an (ti trivial) (VRun.loop hph415))
         injection h with h; subst h
         exact fun_ok pm pn Go.Proofs.Try.func4 (r0 := vb true) (ans := [.reg (.n :: .n :: []), .reg (.call (vb r346) :: .n :: []), .br false, .reg (arC1_3 r349), .reg (.n :: .call (vi r352) :: .n :: []), .reg (nN 6 (.b true :: [])), .br false, .reg (.n :: .n :: []), .br false, .reg (arC1_5 r364 r367 r349), .br false, .reg (.n :: []), .sub ⟨[(3, none), (6, none)], [], []⟩ (.exit 0) (nspeculumlaw07_SupportConvergents_l0_0_e1 r349 r418), .reg (.n :: [])]) (fr := true) (by kernel_rfl) (an (an (ti (ti trivial)) (an (an (an (nawake_ok k _ h347) (ti trivial)) (an (not_f h348) trivial)) (an (ti (an e351 (ti (ti (ti (ti (ti trivial))))))) (an (ti (an e354 (ti trivial))) (an (an e356 (an (decide_eq_false h357) trivial)) (an (an (ti (ti trivial)) (an (not_f (decide_eq_true h355)) trivial)) (an (an e377 (an (not_f h378) trivial)) (an (an (ti trivial) e420) (an (ti trivial) trivial))))))))) (ti trivial)) (Wv.refl _)
       ·injection h with h; subst h
        exact fun_ok pm pn Go.Proofs.Try.func4 (r0 := vb false) (ans := [.reg (.n :: .n :: []), .reg (.call (vb r346) :: .n :: []), .br false, .reg (arC1_3 r349), .reg (.n :: .call (vi r352) :: .n :: []), .reg (nN 6 (.b true :: [])), .br false, .reg (.n :: .n :: []), .br false, .reg (arC1_5 r364 r367 r349), .br true, .reg (.n :: [])]) (fr := true) (by kernel_rfl) (an (an (ti (ti trivial)) (an (an (an (nawake_ok k _ h347) (ti trivial)) (an (not_f h348) trivial)) (an (ti (an e351 (ti (ti (ti (ti (ti trivial))))))) (an (ti (an e354 (ti trivial))) (an (an e356 (an (decide_eq_false h357) trivial)) (an (an (ti (ti trivial)) (an (not_f (decide_eq_true h355)) trivial)) (an e377 (an (not_t (bool_f h378)) (an (ti trivial) trivial))))))))) (ti trivial)) (Wv.refl _)
     ·have e421 := (ti (ti (ti (an e362 (an e363 (an e366 (an e369 (an e370 (an (not_f (decide_eq_true h361)) (ti (an (not_t (bool_f h371)) (an (not_t (bool_f h371)) (an (not_t (bool_f h371)) (an (not_t (bool_f h371)) (ti (an rt (an rt (an rt (an rt (an rt (an rt (an rt (an rt (an rt trivial))))))))))))))))))))))))
      injection h with h; subst h
      exact fun_ok pm pn Go.Proofs.Try.func4 (r0 := vb false) (ans := [.reg (.n :: .n :: []), .reg (.call (vb r346) :: .n :: []), .br false, .reg (arC1_3 r349), .reg (.n :: .call (vi r352) :: .n :: []), .reg (nN 6 (.b true :: [])), .br false, .reg (.n :: .n :: []), .br false, .reg (arC1_6 r364 r367), .br true, .reg (.n :: [])]) (fr := true) (by kernel_rfl) (an (an (ti (ti trivial)) (an (an (an (nawake_ok k _ h347) (ti trivial)) (an (not_f h348) trivial)) (an (ti (an e351 (ti (ti (ti (ti (ti trivial))))))) (an (ti (an e354 (ti trivial))) (an (an e356 (an (decide_eq_false h357) trivial)) (an (an (ti (ti trivial)) (an (not_f (decide_eq_true h355)) trivial)) (an e421 (an rt (an (ti trivial) trivial))))))))) (ti trivial)) (Wv.refl _)
    ·have e422 := (ti (ti (ti (an (not_t (decide_eq_false h361)) (an (not_t (decide_eq_false h361)) (an (not_t (decide_eq_false h361)) (an (not_t (decide_eq_false h361)) (an (not_t (decide_eq_false h361)) (an (not_t (decide_eq_false h361)) (ti (an rt (an rt (an rt (an rt (ti (an rt (an rt (an rt (an rt (an rt (an rt (an rt (an rt (an rt trivial))))))))))))))))))))))))
     injection h with h; subst h
     exact fun_ok pm pn Go.Proofs.Try.func4 (r0 := vb false) (ans := [.reg (.n :: .n :: []), .reg (.call (vb r346) :: .n :: []), .br false, .reg (arC1_3 r349), .reg (.n :: .call (vi r352) :: .n :: []), .reg (nN 6 (.b true :: [])), .br false, .reg (.n :: .n :: []), .br false, .reg (nN 3 (nS 5 (.b true :: .n :: nS 3 (.b true :: .n :: nS 8 (.b true :: []))))), .br true, .reg (.n :: [])]) (fr := true) (by kernel_rfl) (an (an (ti (ti trivial)) (an (an (an (nawake_ok k _ h347) (ti trivial)) (an (not_f h348) trivial)) (an (ti (an e351 (ti (ti (ti (ti (ti trivial))))))) (an (ti (an e354 (ti trivial))) (an (an e356 (an (decide_eq_false h357) trivial)) (an (an (ti (ti trivial)) (an (not_f (decide_eq_true h355)) trivial)) (an e422 (an rt (an (ti trivial) trivial))))))))) (ti trivial)) (Wv.refl _)
  ·have e423 := (ti (ti (ti (an (decide_eq_false h355) (an (decide_eq_false h355) (an (decide_eq_false h355) (an (decide_eq_false h355) trivial)))))))
   rcases ifs h with ⟨h424, h⟩ | ⟨h424, h⟩
   ·have e425 := (ti (ti (ti (ti (an (an (decide_eq_true h424) trivial) (an (an (decide_eq_true h424) trivial) (an (an (decide_eq_true h424) trivial) (an (decide_eq_true h424) (ti trivial)))))))))
    injection h with h; subst h
    exact fun_ok pm pn Go.Proofs.Try.func4 (r0 := vb (decide ((r349.1.length : Int) = 0))) (ans := [.reg (.n :: .n :: []), .reg (.call (vb r346) :: .n :: []), .br false, .reg (arC1_3 r349), .reg (.n :: .call (vi r352) :: .n :: []), .reg (nN 3 (nS 3 (.b false :: []))), .br false, .reg (.n :: .n :: []), .br true, .reg (nN 7 (.b true :: .n :: []))]) (fr := true) (by kernel_rfl) (an (an (ti (ti trivial)) (an (an (an (nawake_ok k _ h347) (ti trivial)) (an (not_f h348) trivial)) (an (ti (an e351 (ti (ti (ti (ti (ti trivial))))))) (an (ti (an e354 (ti trivial))) (an (an e423 (an rf trivial)) (an (ti (ti trivial)) (an (not_t (decide_eq_false h355)) (an e425 trivial)))))))) (ti trivial)) (Wv.refl _)
   ·have e426 := (ti (ti (ti (ti (an (decide_eq_false h424) (an (decide_eq_false h424) (an (decide_eq_false h424) (an (decide_eq_false h424) (ti trivial)))))))))
    injection h with h; subst h
    exact fun_ok pm pn Go.Proofs.Try.func4 (r0 := vb false) (ans := [.reg (.n :: .n :: []), .reg (.call (vb r346) :: .n :: []), .br false, .reg (arC1_3 r349), .reg (.n :: .call (vi r352) :: .n :: []), .reg (nN 3 (nS 3 (.b false :: []))), .br false, .reg (.n :: .n :: []), .br true, .reg (nN 4 (nS 3 (.b false :: .n :: [])))]) (fr := true) (by kernel_rfl) (an (an (ti (ti trivial)) (an (an (an (nawake_ok k _ h347) (ti trivial)) (an (not_f h348) trivial)) (an (ti (an e351 (ti (ti (ti (ti (ti trivial))))))) (an (ti (an e354 (ti trivial))) (an (an e423 (an rf trivial)) (an (ti (ti trivial)) (an (not_t (decide_eq_false h355)) (an e426 trivial)))))))) (ti trivial)) (Wv.refl _)
 ·injection h with h; subst h
  exact fun_ok pm pn Go.Proofs.Try.func4 (r0 := vb false) (ans := [.reg (.n :: .n :: []), .reg (.call (vb r346) :: .n :: []), .br true, .reg (.n :: [])]) (fr := true) (by kernel_rfl) (an (an (ti (ti trivial)) (an (an (nawake_ok k _ h347) (ti trivial)) (an (not_t (bool_f h348)) (an (ti trivial) trivial)))) (ti trivial)) (Wv.refl _)
end Go.Proofs.Ytpaclgmigndilaa.Vg

/- Written by a program out of the program: what Go functions do, as plain functions, and their contracts. -/
import Derived.Test.YtmjmggkllmfmlaaS1
namespace Go.Proofs.Ytmjmggkllmfmlaa.Vg
set_option maxRecDepth 100000
set_option maxHeartbeats 4000000
set_option linter.unusedVariables false
set_option linter.unusedSimpArgs false
open Go Go.Proofs.Ytmjmggkllmfmlaa.Ev Go.Proofs.Ytmjmggkllmfmlaa.Vv
def nawake (k : Nat) : Option Bool := some true
theorem nawake_ok (k : Nat) (r : Bool) (h : nawake k = some r) : VC Go.Proofs.Try.prog 43 [] (vb r) := by
  injection h with h; subst h
  exact vc_awake
def arS2_0 (z0 : (List SSkyStar)) (z1 : Int) : List Ans := (nN 4 (.v (VV.tr (List.map vi ((z0.getD z1.toNat default).Shapes)) (((z0.getD z1.toNat default).Shapes).length)) :: .n :: .n :: []))
def nspeculumlaw09_Few_l0_0_h (a0 : (List SSkyStar)) (x3 : Int) : VS := ⟨mkA [(0, VV.tr (List.flatMap c_SSkyStar a0) a0.length), (3, vi x3)], [], .nil⟩
def nspeculumlaw09_Few_l0_0_e0 (a0 : (List SSkyStar)) (r : Unit) : VS := ⟨mkA [(2, vb false)], [], .nil⟩
def nspeculumlaw09_Few_l0_0_e1 (a0 : (List SSkyStar)) (r : Unit) : VS := ⟨mkA [(0, VV.tr (List.flatMap c_SSkyStar a0) a0.length)], [], .nil⟩
def nspeculumlaw09_Few_l0_0 (k : Nat) (a0 : (List SSkyStar)) : Nat → Int → Option (Sum Unit Unit)
  | 0, _ => none
  | fuel + 1, x3 => if x3 < (a0.length : Int) then (if 0 ≤ x3 ∧ x3 < (a0.length : Int) then (if 6 < (((a0.getD x3.toNat default).Shapes).length : Int) then (some (.inl ())) else (nspeculumlaw09_Few_l0_0 k a0 fuel (w64 (x3 + 1)))) else none) else (some (.inr ()))
theorem nspeculumlaw09_Few_l0_0_ok (k : Nat) (a0 : (List SSkyStar)) : ∀ (fuel : Nat) (x3 : Int) (r : Sum Unit Unit), nspeculumlaw09_Few_l0_0 k a0 fuel x3 = some r → (match r with | .inl r => VLoop none Go.Proofs.Try.prog (szF Go.Proofs.Try.f13) (bodyOf Go.Proofs.Try.f13 0) (nspeculumlaw09_Few_l0_0_h a0 x3) .ret (nspeculumlaw09_Few_l0_0_e0 a0 r) | .inr r => VLoop none Go.Proofs.Try.prog (szF Go.Proofs.Try.f13) (bodyOf Go.Proofs.Try.f13 0) (nspeculumlaw09_Few_l0_0_h a0 x3) (.exit 0) (nspeculumlaw09_Few_l0_0_e1 a0 r)) := by
 intro fuel
 induction fuel with
 | zero => intro x3 r h; rw [nspeculumlaw09_Few_l0_0.eq_1] at h; cases h
 | succ fuel ih =>
  intro x3 r h
  rw [nspeculumlaw09_Few_l0_0.eq_2] at h
  rcases ifs h with ⟨h11891, h⟩ | ⟨h11891, h⟩
  ·obtain ⟨h11892, h⟩ := ifn h
   have e11893 := (show loadL Go.Proofs.Try.prog 29 (x3.toNat * 2 + 0) (List.flatMap c_SSkyStar a0) = some (VV.tr (List.map vi ((a0.getD x3.toNat default).Shapes)) (((a0.getD x3.toNat default).Shapes).length)) from (ld_flat ag29 c_SSkyStar 2 0 len_c_SSkyStar (by omega) a0 default h11892 (by omega)).trans rfl)
   have e11894 := (ti (ti (an h11892 (ti (an e11893 (ti (ti trivial)))))))
   rcases ifs h with ⟨h11895, h⟩ | ⟨h11895, h⟩
   ·injection h with h; subst h
    exact round_stop (c := ⟨[(2, none)], [], []⟩) (s1 := (nspeculumlaw09_Few_l0_0_e0 a0 ())) pm pn (ans := [.reg (nN 4 []), .br true, .reg (arS2_0 a0 x3), .br true, .reg (.n :: [])]) (by kernel_rfl) (by intro e; cases e) (an (an (an (ti (ti (ti (ti trivial)))) (an (decide_eq_true h11891) trivial)) (an e11894 (an (decide_eq_true h11895) (an (ti trivial) trivial)))) (ti trivial))
   ·have h2 := ih _ _ h
    obtain ⟨q, hv, hq⟩ := pkR (rd := none) (P := Go.Proofs.Try.prog) (fn := Go.Proofs.Try.f13) (k := 0) (s := (nspeculumlaw09_Few_l0_0_h a0 x3)) (ans := [.reg (nN 4 []), .br true, .reg (arS2_0 a0 x3), .br false, .reg (nN 3 [])]) (c := ⟨[(0, none), (3, none)], [], []⟩) (e := .normal) (s1 := (nspeculumlaw09_Few_l0_0_h a0 (w64 (x3 + 1)))) (an (an (an (ti (ti (ti (ti trivial)))) (an (decide_eq_true h11891) trivial)) (an (an e11894 (an (decide_eq_false h11895) trivial)) (ti (ti (ti trivial))))) (ti trivial)) (by kernel_rfl)
    cases r with
    | inl r => exact round_next pm pn hv hq h2
    | inr r =>
     exact round_next pm pn hv hq h2
  ·injection h with h; subst h
   exact round_stop (c := ⟨[(0, none)], [], []⟩) (s1 := (nspeculumlaw09_Few_l0_0_e1 a0 ())) pm pn (ans := [.reg (nN 4 []), .br false]) (by kernel_rfl) (by intro e; cases e) (an (an (ti (ti (ti (ti trivial)))) (an (decide_eq_false h11891) trivial)) (ti trivial))
def nspeculumlaw09_Few (k : Nat) (a0 : (List SSkyStar)) : Option Bool :=
  (nspeculumlaw09_Few_l0_0 k a0 k 0).bind fun r11897 => (match r11897 with | .inl r11898 => (some false) | .inr r11899 => (if (a0.length : Int) ≤ 8 then (some true) else (if 20 < (a0.length : Int) then (some (decide ((a0.length : Int) ≤ 23))) else (some false))))
theorem nspeculumlaw09_Few_ok (k : Nat) (a0 : (List SSkyStar)) (r : Bool) (h : nspeculumlaw09_Few k a0 = some r) : VC Go.Proofs.Try.prog 13 [VV.tr (List.flatMap c_SSkyStar a0) a0.length] (vb r) := by
 unfold nspeculumlaw09_Few at h
 obtain ⟨r11897, h11896, h⟩ := bs h
 have hph11896 := nspeculumlaw09_Few_l0_0_ok k a0 _ _ _ h11896
 cases r11897 with
 | inl r11898 =>
  dsimp only at h
  have e11900 := (an (ti trivial) (VRun.loop hph11896))
  injection h with h; subst h
  exact fun_ok pm pn Go.Proofs.Try.func13 (r0 := vb false) (ans := [.reg (.n :: []), .reg (.n :: []), .sub ⟨[(0, none), (3, none)], [], []⟩ .ret (nspeculumlaw09_Few_l0_0_e0 a0 r11898)]) (fr := true) (by kernel_rfl) (an (an (ti trivial) (an (ti trivial) e11900)) (ti trivial)) (Wv.refl _)
 | inr r11899 =>
  dsimp only at h
  have e11901 := (an (ti trivial) (VRun.loop hph11896))
  rcases ifs h with ⟨h11902, h⟩ | ⟨h11902, h⟩
  ·have e11903 := (ti (ti (ti (ti (an (decide_eq_true h11902) (an (decide_eq_true h11902) (an (decide_eq_true h11902) (an (decide_eq_true h11902) (ti (ti (ti (an (decide_eq_true h11902) (an (decide_eq_true h11902) (ti trivial))))))))))))))
   injection h with h; subst h
   exact fun_ok pm pn Go.Proofs.Try.func13 (r0 := vb true) (ans := [.reg (.n :: []), .reg (.n :: []), .sub ⟨[(0, none), (3, none)], [], []⟩ (.exit 0) (nspeculumlaw09_Few_l0_0_e1 a0 r11899), .reg (nN 4 (nS 8 (.b true :: .n :: [])))]) (fr := true) (by kernel_rfl) (an (an (ti trivial) (an (an (ti trivial) e11901) (an e11903 trivial))) (ti trivial)) (Wv.refl _)
  ·rcases ifs h with ⟨h11904, h⟩ | ⟨h11904, h⟩
   ·have e11905 := (an (decide_eq_false h11902) (decide_eq_true h11904))
    have e11906 := (ti (ti (ti (ti (an (an (decide_eq_false h11902) trivial) (an (an (decide_eq_false h11902) trivial) (an (an (decide_eq_false h11902) trivial) (an (an (decide_eq_false h11902) trivial) (an (an (decide_eq_true h11904) trivial) (an (an (decide_eq_true h11904) trivial) (an (an (decide_eq_true h11904) trivial) (an e11905 (an (decide_eq_false h11902) (ti trivial))))))))))))))
    injection h with h; subst h
    exact fun_ok pm pn Go.Proofs.Try.func13 (r0 := vb (decide ((a0.length : Int) ≤ 23))) (ans := [.reg (.n :: []), .reg (.n :: []), .sub ⟨[(0, none), (3, none)], [], []⟩ (.exit 0) (nspeculumlaw09_Few_l0_0_e1 a0 r11899), .reg (nN 11 (.b true :: .b false :: .n :: []))]) (fr := true) (by kernel_rfl) (an (an (ti trivial) (an (an (ti trivial) e11901) (an e11906 trivial))) (ti trivial)) (Wv.refl _)
   ·have e11907 := (an (decide_eq_false h11902) (decide_eq_false h11904))
    have e11908 := (ti (ti (ti (ti (an (an (decide_eq_false h11902) trivial) (an (an (decide_eq_false h11902) trivial) (an (an (decide_eq_false h11902) trivial) (an (an (decide_eq_false h11902) trivial) (an (decide_eq_false h11904) (an (decide_eq_false h11904) (an (decide_eq_false h11904) (an e11907 (an (decide_eq_false h11902) (ti trivial))))))))))))))
    injection h with h; subst h
    exact fun_ok pm pn Go.Proofs.Try.func13 (r0 := vb false) (ans := [.reg (.n :: []), .reg (.n :: []), .sub ⟨[(0, none), (3, none)], [], []⟩ (.exit 0) (nspeculumlaw09_Few_l0_0_e1 a0 r11899), .reg (nN 8 (nS 3 (.b false :: .b false :: .n :: [])))]) (fr := true) (by kernel_rfl) (an (an (ti trivial) (an (an (ti trivial) e11901) (an e11908 trivial))) (ti trivial)) (Wv.refl _)
def nspeculumbase_Within (k : Nat) (a0 : Int) (a1 : Int) (a2 : Int) : Option Bool :=
  if a1 ≤ a0 then (some (decide (a0 ≤ a2))) else (some false)
theorem nspeculumbase_Within_ok (k : Nat) (a0 : Int) (a1 : Int) (a2 : Int) (r : Bool) (h : nspeculumbase_Within k a0 a1 a2 = some r) : VC Go.Proofs.Try.prog 23 [vi a0, vi a1, vi a2] (vb r) := by
 unfold nspeculumbase_Within at h
 rcases ifs h with ⟨h11927, h⟩ | ⟨h11927, h⟩
 ·have e11928 := (ti (ti (ti (ti (an (an (decide_eq_true h11927) trivial) (an (an (decide_eq_true h11927) trivial) (an (an (decide_eq_true h11927) trivial) (an (decide_eq_true h11927) (ti trivial)))))))))
  injection h with h; subst h
  exact fun_ok pm pn Go.Proofs.Try.func23 (r0 := vb (decide (a0 ≤ a2))) (ans := [.reg (.n :: []), .reg (nN 7 (.b true :: .n :: []))]) (fr := true) (by kernel_rfl) (an (an (ti trivial) (an e11928 trivial)) (ti trivial)) (Wv.refl _)
 ·have e11929 := (ti (ti (ti (ti (an (decide_eq_false h11927) (an (decide_eq_false h11927) (an (decide_eq_false h11927) (an (decide_eq_false h11927) (ti trivial)))))))))
  injection h with h; subst h
  exact fun_ok pm pn Go.Proofs.Try.func23 (r0 := vb false) (ans := [.reg (.n :: []), .reg (nN 4 (nS 3 (.b false :: .n :: [])))]) (fr := true) (by kernel_rfl) (an (an (ti trivial) (an e11929 trivial)) (ti trivial)) (Wv.refl _)
def arS2_1 (z0 : (List SSkyStar)) (z1 : Int) (z2 : Bool) (z3 : (List Int)) (z4 : Bool) : List Ans := (nN 4 (.v (VV.tr (List.map vi ((z0.getD ((0 : Int)).toNat default).Shapes)) (((z0.getD ((0 : Int)).toNat default).Shapes).length)) :: .n :: .n :: .v (vi (((z0.getD ((0 : Int)).toNat default).Shapes).getD z1.toNat 0)) :: .call (vb z2) :: nN 5 (.v (vi (z3.getD z1.toNat 0)) :: .call (vb z4) :: .n :: .b false :: [])))
def arS2_2 (z0 : (List SSkyStar)) (z1 : Int) (z2 : Bool) : List Ans := (nN 4 (.v (VV.tr (List.map vi ((z0.getD ((0 : Int)).toNat default).Shapes)) (((z0.getD ((0 : Int)).toNat default).Shapes).length)) :: .n :: .n :: .v (vi (((z0.getD ((0 : Int)).toNat default).Shapes).getD z1.toNat 0)) :: .call (vb z2) :: .n :: .n :: nS 6 (.b true :: [])))
def arS2_3 (z0 : (List SSkyStar)) (z1 : Int) (z2 : Int) (z3 : Bool) (z4 : (List Int)) (z5 : Bool) : List Ans := (nN 4 (.v (VV.tr (List.map vi ((z0.getD z1.toNat default).Shapes)) (((z0.getD z1.toNat default).Shapes).length)) :: .n :: .n :: .v (vi (((z0.getD z1.toNat default).Shapes).getD z2.toNat 0)) :: .call (vb z3) :: nN 5 (.v (vi (z4.getD z2.toNat 0)) :: .call (vb z5) :: .n :: .b false :: [])))
def arS2_4 (z0 : (List SSkyStar)) (z1 : Int) (z2 : Int) (z3 : Bool) : List Ans := (nN 4 (.v (VV.tr (List.map vi ((z0.getD z1.toNat default).Shapes)) (((z0.getD z1.toNat default).Shapes).length)) :: .n :: .n :: .v (vi (((z0.getD z1.toNat default).Shapes).getD z2.toNat 0)) :: .call (vb z3) :: .n :: .n :: nS 6 (.b true :: [])))
def arS2_5 (z0 : (List SSkyStar)) (z1 : Int) (z2 : Bool) : List Ans := (nN 4 (.v (VV.tr (List.map vi ((z0.getD z1.toNat default).Shapes)) (((z0.getD z1.toNat default).Shapes).length)) :: nN 8 (.v (vi ((z0.getD z1.toNat default).Error)) :: .call (vb z2) :: .n :: .b false :: [])))
def arS2_6 (z0 : (List SSkyStar)) (z1 : Int) : List Ans := (nN 4 (.v (VV.tr (List.map vi ((z0.getD z1.toNat default).Shapes)) (((z0.getD z1.toNat default).Shapes).length)) :: nN 4 (nS 7 (.b true :: []))))
def arS2_7 (z0 : (SSkyModel × Int)) (z1 : Int) (z2 : (List SSkyStar)) (z3 : (List Int)) : List Ans := (nN 5 (.v (vi (z0.1.Terms.getD z1.toNat 0)) :: nN 4 (.v (VV.tr (List.map vi ((z2.getD ((0 : Int)).toNat default).Shapes)) (((z2.getD ((0 : Int)).toNat default).Shapes).length)) :: .n :: .n :: .v (vi (((z2.getD ((0 : Int)).toNat default).Shapes).getD z1.toNat 0)) :: nN 6 (.v (vi (z3.getD z1.toNat 0)) :: nN 4 (.v (VV.tr (List.map vi ((z2.getD ((0 : Int)).toNat default).Shapes)) (((z2.getD ((0 : Int)).toNat default).Shapes).length)) :: .n :: .n :: .v (vi (((z2.getD ((0 : Int)).toNat default).Shapes).getD z1.toNat 0)) :: nN 4 [])))))
def arS2_8 (z0 : (SSkyModel × Int)) (z1 : Int) (z2 : (List SSkyStar)) (z3 : Int) (z4 : (List Int)) : List Ans := (nN 5 (.v (vi (z0.1.Terms.getD z1.toNat 0)) :: nN 4 (.v (VV.tr (List.map vi ((z2.getD z3.toNat default).Shapes)) (((z2.getD z3.toNat default).Shapes).length)) :: .n :: .n :: .v (vi (((z2.getD z3.toNat default).Shapes).getD z1.toNat 0)) :: nN 6 (.v (vi (z4.getD z1.toNat 0)) :: nN 4 (.v (VV.tr (List.map vi ((z2.getD z3.toNat default).Shapes)) (((z2.getD z3.toNat default).Shapes).length)) :: .n :: .n :: .v (vi (((z2.getD z3.toNat default).Shapes).getD z1.toNat 0)) :: nN 4 [])))))
def arS2_9 (z0 : (List SSkyStar)) (z1 : Int) : List Ans := (nN 4 (.v (vi ((z0.getD z1.toNat default).Error)) :: nN 7 (.v (vi ((z0.getD z1.toNat default).Error)) :: .n :: .n :: [])))
def nspeculumtop_TopModelLeast_l1_0_h (a0 : (List SSkyStar)) (a1 : (List Int)) (r12389 : (Int × Int)) (x7 : Int) (x8 : Int) : VS := ⟨mkA [(0, VV.tr (List.flatMap c_SSkyStar a0) a0.length), (1, VV.tr (List.map vi a1) a1.length), (5, vi r12389.1), (7, vi x7), (8, vi x8)], [], .nil⟩
def nspeculumtop_TopModelLeast_l1_0_e0 (a0 : (List SSkyStar)) (a1 : (List Int)) (r12389 : (Int × Int)) (x7 : Int) (r : Unit) : VS := ⟨mkA [(4, vb true)], [], .nil⟩
def nspeculumtop_TopModelLeast_l1_0_e1 (a0 : (List SSkyStar)) (a1 : (List Int)) (r12389 : (Int × Int)) (x7 : Int) (r : Unit) : VS := ⟨mkA [(0, VV.tr (List.flatMap c_SSkyStar a0) a0.length), (1, VV.tr (List.map vi a1) a1.length), (5, vi r12389.1), (7, vi x7)], [], .nil⟩
def nspeculumtop_TopModelLeast_l1_0 (k : Nat) (a0 : (List SSkyStar)) (a1 : (List Int)) (r12389 : (Int × Int)) (x7 : Int) : Nat → Int → Option (Sum Unit Unit)
  | 0, _ => none
  | fuel + 1, x8 => if x8 < r12389.1 then (if 0 ≤ x7 ∧ x7 < (a0.length : Int) then (if 0 ≤ x8 ∧ x8 < (((a0.getD x7.toNat default).Shapes).length : Int) then ((nspeculumbase_Within k (((a0.getD x7.toNat default).Shapes).getD x8.toNat 0) (-10) 10).bind fun r12606 => (if r12606 = true then (if 0 ≤ x8 ∧ x8 < (a1.length : Int) then ((nspeculumbase_Within k (a1.getD x8.toNat 0) (-100) 100).bind fun r12612 => (if r12612 = true then (nspeculumtop_TopModelLeast_l1_0 k a0 a1 r12389 x7 fuel (w64 (x8 + 1))) else (some (.inl ())))) else none) else (some (.inl ())))) else none) else none) else (some (.inr ()))
theorem nspeculumtop_TopModelLeast_l1_0_ok (k : Nat) (a0 : (List SSkyStar)) (a1 : (List Int)) (r12389 : (Int × Int)) (x7 : Int) : ∀ (fuel : Nat) (x8 : Int) (r : Sum Unit Unit), nspeculumtop_TopModelLeast_l1_0 k a0 a1 r12389 x7 fuel x8 = some r → (match r with | .inl r => VLoop none Go.Proofs.Try.prog (szF Go.Proofs.Try.f11) (bodyOf Go.Proofs.Try.f11 1) (nspeculumtop_TopModelLeast_l1_0_h a0 a1 r12389 x7 x8) .ret (nspeculumtop_TopModelLeast_l1_0_e0 a0 a1 r12389 x7 r) | .inr r => VLoop none Go.Proofs.Try.prog (szF Go.Proofs.Try.f11) (bodyOf Go.Proofs.Try.f11 1) (nspeculumtop_TopModelLeast_l1_0_h a0 a1 r12389 x7 x8) (.exit 2) (nspeculumtop_TopModelLeast_l1_0_e1 a0 a1 r12389 x7 r)) := by
 intro fuel
 induction fuel with
 | zero => intro x8 r h; rw [nspeculumtop_TopModelLeast_l1_0.eq_1] at h; cases h
 | succ fuel ih =>
  intro x8 r h
  rw [nspeculumtop_TopModelLeast_l1_0.eq_2] at h
  rcases ifs h with ⟨h12601, h⟩ | ⟨h12601, h⟩
  ·obtain ⟨h12602, h⟩ := ifn h
   have e12603 := (show loadL Go.Proofs.Try.prog 29 (x7.toNat * 2 + 0) (List.flatMap c_SSkyStar a0) = some (VV.tr (List.map vi ((a0.getD x7.toNat default).Shapes)) (((a0.getD x7.toNat default).Shapes).length)) from (ld_flat ag29 c_SSkyStar 2 0 len_c_SSkyStar (by omega) a0 default h12602 (by omega)).trans rfl)
   obtain ⟨h12604, h⟩ := ifn h
   have e12605 := (show loadL Go.Proofs.Try.prog 3 (x8.toNat * 1) (List.map vi ((a0.getD x7.toNat default).Shapes)) = some (vi (((a0.getD x7.toNat default).Shapes).getD x8.toNat 0)) from ld_map ag3 vi ((a0.getD x7.toNat default).Shapes) 0 h12604 (by omega))
   obtain ⟨r12606, h12607, h⟩ := bs h
   have e12608 := (nspeculumbase_Within_ok k (((a0.getD x7.toNat default).Shapes).getD x8.toNat 0) (-10) 10 _ h12607)
   rcases ifs h with ⟨h12609, h⟩ | ⟨h12609, h⟩
   ·obtain ⟨h12610, h⟩ := ifn h
    have e12611 := (an (not_f h12609) (show loadL Go.Proofs.Try.prog 3 (x8.toNat * 1) (List.map vi a1) = some (vi (a1.getD x8.toNat 0)) from ld_map ag3 vi a1 0 h12610 (by omega)))
    obtain ⟨r12612, h12613, h⟩ := bs h
    have e12614 := (an (not_f h12609) (nspeculumbase_Within_ok k (a1.getD x8.toNat 0) (-100) 100 _ h12613))
    have e12615 := (ti (ti (an h12602 (ti (an e12603 (ti (an h12604 (an e12605 (an e12608 (ti (ti (an (an (not_f h12609) trivial) (an (an (not_f h12609) trivial) (an (an (not_f h12609) h12610) (an e12611 (an e12614 (an (an (not_f h12609) trivial) (an (not_f h12609) trivial))))))))))))))))))
    rcases ifs h with ⟨h12616, h⟩ | ⟨h12616, h⟩
    ·have h2 := ih _ _ h
     obtain ⟨q, hv, hq⟩ := pkR (rd := none) (P := Go.Proofs.Try.prog) (fn := Go.Proofs.Try.f11) (k := 1) (s := (nspeculumtop_TopModelLeast_l1_0_h a0 a1 r12389 x7 x8)) (ans := [.reg (nN 3 []), .br true, .reg (arS2_3 a0 x7 x8 r12606 a1 r12612), .br false, .reg (nN 3 [])]) (c := ⟨[(0, none), (1, none), (5, none), (7, none), (8, none)], [], []⟩) (e := .normal) (s1 := (nspeculumtop_TopModelLeast_l1_0_h a0 a1 r12389 x7 (w64 (x8 + 1)))) (an (an (an (ti (ti (ti trivial))) (an (decide_eq_true h12601) trivial)) (an (an e12615 (an (not_f h12616) trivial)) (ti (ti (ti trivial))))) (ti trivial)) (by kernel_rfl)
     cases r with
     | inl r => exact round_next pm pn hv hq h2
     | inr r =>
      exact round_next pm pn hv hq h2
    ·injection h with h; subst h
     exact round_stop (c := ⟨[(4, none)], [], []⟩) (s1 := (nspeculumtop_TopModelLeast_l1_0_e0 a0 a1 r12389 x7 ())) pm pn (ans := [.reg (nN 3 []), .br true, .reg (arS2_3 a0 x7 x8 r12606 a1 r12612), .br true, .reg (.n :: [])]) (by kernel_rfl) (by intro e; cases e) (an (an (an (ti (ti (ti trivial))) (an (decide_eq_true h12601) trivial)) (an e12615 (an (not_t (bool_f h12616)) (an (ti trivial) trivial)))) (ti trivial))
   ·have e12617 := (ti (ti (an h12602 (ti (an e12603 (ti (an h12604 (an e12605 (an e12608 (ti (ti (an (not_t (bool_f h12609)) (an (not_t (bool_f h12609)) (an (not_t (bool_f h12609)) (an (not_t (bool_f h12609)) (an (not_t (bool_f h12609)) (an (not_t (bool_f h12609)) (an (not_t (bool_f h12609)) trivial))))))))))))))))))
    injection h with h; subst h
    exact round_stop (c := ⟨[(4, none)], [], []⟩) (s1 := (nspeculumtop_TopModelLeast_l1_0_e0 a0 a1 r12389 x7 ())) pm pn (ans := [.reg (nN 3 []), .br true, .reg (arS2_4 a0 x7 x8 r12606), .br true, .reg (.n :: [])]) (by kernel_rfl) (by intro e; cases e) (an (an (an (ti (ti (ti trivial))) (an (decide_eq_true h12601) trivial)) (an e12617 (an rt (an (ti trivial) trivial)))) (ti trivial))
  ·injection h with h; subst h
   exact round_stop (c := ⟨[(0, none), (1, none), (5, none), (7, none)], [], []⟩) (s1 := (nspeculumtop_TopModelLeast_l1_0_e1 a0 a1 r12389 x7 ())) pm pn (ans := [.reg (nN 3 []), .br false]) (by kernel_rfl) (by intro e; cases e) (an (an (ti (ti (ti trivial))) (an (decide_eq_false h12601) trivial)) (ti trivial))
def nspeculumtop_TopModelLeast_l0_0_h (a0 : (List SSkyStar)) (a1 : (List Int)) (r12389 : (Int × Int)) (x7 : Int) : VS := ⟨mkA [(0, VV.tr (List.flatMap c_SSkyStar a0) a0.length), (1, VV.tr (List.map vi a1) a1.length), (5, vi r12389.1), (7, vi x7)], [], .nil⟩
def nspeculumtop_TopModelLeast_l0_0_e0 (a0 : (List SSkyStar)) (a1 : (List Int)) (r12389 : (Int × Int)) (r : Unit) : VS := ⟨mkA [(4, vb true)], [], .nil⟩
def nspeculumtop_TopModelLeast_l0_0_e1 (a0 : (List SSkyStar)) (a1 : (List Int)) (r12389 : (Int × Int)) (r : Unit) : VS := ⟨mkA [(0, VV.tr (List.flatMap c_SSkyStar a0) a0.length), (1, VV.tr (List.map vi a1) a1.length), (5, vi r12389.1)], [], .nil⟩
def nspeculumtop_TopModelLeast_l0_0 (k : Nat) (a0 : (List SSkyStar)) (a1 : (List Int)) (r12389 : (Int × Int)) : Nat → Int → Option (Sum Unit Unit)
  | 0, _ => none
  | fuel + 1, x7 => if x7 < (a0.length : Int) then (if 0 ≤ x7 ∧ x7 < (a0.length : Int) then (if (((a0.getD x7.toNat default).Shapes).length : Int) = r12389.1 then ((nspeculumbase_Within k ((a0.getD x7.toNat default).Error) (-10) 10).bind fun r12561 => (if r12561 = true then ((nspeculumtop_TopModelLeast_l1_0 k a0 a1 r12389 x7 k 0).bind fun r12619 => (match r12619 with | .inl r12620 => (some (.inl ())) | .inr r12621 => (nspeculumtop_TopModelLeast_l0_0 k a0 a1 r12389 fuel (w64 (x7 + 1))))) else (some (.inl ())))) else (some (.inl ()))) else none) else (some (.inr ()))
theorem nspeculumtop_TopModelLeast_l0_0_ok (k : Nat) (a0 : (List SSkyStar)) (a1 : (List Int)) (r12389 : (Int × Int)) : ∀ (fuel : Nat) (x7 : Int) (r : Sum Unit Unit), nspeculumtop_TopModelLeast_l0_0 k a0 a1 r12389 fuel x7 = some r → (match r with | .inl r => VLoop none Go.Proofs.Try.prog (szF Go.Proofs.Try.f11) (bodyOf Go.Proofs.Try.f11 0) (nspeculumtop_TopModelLeast_l0_0_h a0 a1 r12389 x7) .ret (nspeculumtop_TopModelLeast_l0_0_e0 a0 a1 r12389 r) | .inr r => VLoop none Go.Proofs.Try.prog (szF Go.Proofs.Try.f11) (bodyOf Go.Proofs.Try.f11 0) (nspeculumtop_TopModelLeast_l0_0_h a0 a1 r12389 x7) (.exit 0) (nspeculumtop_TopModelLeast_l0_0_e1 a0 a1 r12389 r)) := by
 intro fuel
 induction fuel with
 | zero => intro x7 r h; rw [nspeculumtop_TopModelLeast_l0_0.eq_1] at h; cases h
 | succ fuel ih =>
  intro x7 r h
  rw [nspeculumtop_TopModelLeast_l0_0.eq_2] at h
  rcases ifs h with ⟨h12552, h⟩ | ⟨h12552, h⟩
  ·obtain ⟨h12553, h⟩ := ifn h
   have e12554 := (show loadL Go.Proofs.Try.prog 29 (x7.toNat * 2 + 0) (List.flatMap c_SSkyStar a0) = some (VV.tr (List.map vi ((a0.getD x7.toNat default).Shapes)) (((a0.getD x7.toNat default).Shapes).length)) from (ld_flat ag29 c_SSkyStar 2 0 len_c_SSkyStar (by omega) a0 default h12553 (by omega)).trans rfl)
   rcases ifs h with ⟨h12555, h⟩ | ⟨h12555, h⟩
   ·have e12556 := (an (not_f (decide_eq_true h12555)) trivial)
    have e12557 := (an (not_f (decide_eq_true h12555)) trivial)
    have e12558 := (an (not_f (decide_eq_true h12555)) h12553)
    have e12559 := (an (not_f (decide_eq_true h12555)) trivial)
    have e12560 := (an (not_f (decide_eq_true h12555)) (show loadL Go.Proofs.Try.prog 3 (x7.toNat * 2 + 1) (List.flatMap c_SSkyStar a0) = some (vi ((a0.getD x7.toNat default).Error)) from (ld_flat ag3 c_SSkyStar 2 1 len_c_SSkyStar (by omega) a0 default h12553 (by omega)).trans rfl))
    obtain ⟨r12561, h12562, h⟩ := bs h
    have e12563 := (an (not_f (decide_eq_true h12555)) (nspeculumbase_Within_ok k ((a0.getD x7.toNat default).Error) (-10) 10 _ h12562))
    have e12564 := (an (not_f (decide_eq_true h12555)) trivial)
    have e12565 := (ti (ti (an h12553 (ti (an e12554 (ti (ti (ti (ti (an e12556 (an e12557 (an e12558 (an e12559 (an e12560 (an e12563 (an e12564 (an (not_f (decide_eq_true h12555)) trivial)))))))))))))))))
    rcases ifs h with ⟨h12566, h⟩ | ⟨h12566, h⟩
    ·obtain ⟨r12619, h12618, h⟩ := bs h
     have hph12618 := nspeculumtop_TopModelLeast_l1_0_ok k a0 a1 r12389 x7 _ _ _ h12618
     cases r12619 with
     | inl r12620 =>
      dsimp only at h
      have e12622 := (an (ti trivial) (VRun.loop hph12618))
      injection h with h; subst h
      exact round_stop (c := ⟨[(4, none)], [], []⟩) (s1 := (nspeculumtop_TopModelLeast_l0_0_e0 a0 a1 r12389 ())) pm pn (ans := [.reg (nN 4 []), .br true, .reg (arS2_5 a0 x7 r12561), .br false, .reg (.n :: []), .sub ⟨[(0, none), (1, none), (5, none), (7, none), (8, none)], [], []⟩ .ret (nspeculumtop_TopModelLeast_l1_0_e0 a0 a1 r12389 x7 r12620)]) (by kernel_rfl) (by intro e; cases e) (an (an (an (ti (ti (ti (ti trivial)))) (an (decide_eq_true h12552) trivial)) (an (an e12565 (an (not_f h12566) trivial)) (an (ti trivial) e12622))) (ti trivial))
     | inr r12621 =>
      dsimp only at h
      have e12623 := (an (ti trivial) (VRun.loop hph12618))
      have h2 := ih _ _ h
      obtain ⟨q, hv, hq⟩ := pkR (rd := none) (P := Go.Proofs.Try.prog) (fn := Go.Proofs.Try.f11) (k := 0) (s := (nspeculumtop_TopModelLeast_l0_0_h a0 a1 r12389 x7)) (ans := [.reg (nN 4 []), .br true, .reg (arS2_5 a0 x7 r12561), .br false, .reg (.n :: []), .sub ⟨[(0, none), (1, none), (5, none), (7, none), (8, none)], [], []⟩ (.exit 2) (nspeculumtop_TopModelLeast_l1_0_e1 a0 a1 r12389 x7 r12621), .reg (nN 3 [])]) (c := ⟨[(0, none), (1, none), (5, none), (7, none)], [], []⟩) (e := .normal) (s1 := (nspeculumtop_TopModelLeast_l0_0_h a0 a1 r12389 (w64 (x7 + 1)))) (an (an (an (ti (ti (ti (ti trivial)))) (an (decide_eq_true h12552) trivial)) (an (an (an e12565 (an (not_f h12566) trivial)) (an (ti trivial) e12623)) (ti (ti (ti trivial))))) (ti trivial)) (by kernel_rfl)
      cases r with
      | inl r => exact round_next pm pn hv hq h2
      | inr r =>
       exact round_next pm pn hv hq h2
    ·injection h with h; subst h
     exact round_stop (c := ⟨[(4, none)], [], []⟩) (s1 := (nspeculumtop_TopModelLeast_l0_0_e0 a0 a1 r12389 ())) pm pn (ans := [.reg (nN 4 []), .br true, .reg (arS2_5 a0 x7 r12561), .br true, .reg (.n :: [])]) (by kernel_rfl) (by intro e; cases e) (an (an (an (ti (ti (ti (ti trivial)))) (an (decide_eq_true h12552) trivial)) (an e12565 (an (not_t (bool_f h12566)) (an (ti trivial) trivial)))) (ti trivial))
   ·have e12624 := (ti (ti (an h12553 (ti (an e12554 (ti (ti (ti (ti (an (not_t (decide_eq_false h12555)) (an (not_t (decide_eq_false h12555)) (an (not_t (decide_eq_false h12555)) (an (not_t (decide_eq_false h12555)) (an (not_t (decide_eq_false h12555)) (an (not_t (decide_eq_false h12555)) (an (not_t (decide_eq_false h12555)) (an (not_t (decide_eq_false h12555)) trivial)))))))))))))))))
    injection h with h; subst h
    exact round_stop (c := ⟨[(4, none)], [], []⟩) (s1 := (nspeculumtop_TopModelLeast_l0_0_e0 a0 a1 r12389 ())) pm pn (ans := [.reg (nN 4 []), .br true, .reg (arS2_6 a0 x7), .br true, .reg (.n :: [])]) (by kernel_rfl) (by intro e; cases e) (an (an (an (ti (ti (ti (ti trivial)))) (an (decide_eq_true h12552) trivial)) (an e12624 (an rt (an (ti trivial) trivial)))) (ti trivial))
  ·injection h with h; subst h
   exact round_stop (c := ⟨[(0, none), (1, none), (5, none)], [], []⟩) (s1 := (nspeculumtop_TopModelLeast_l0_0_e1 a0 a1 r12389 ())) pm pn (ans := [.reg (nN 4 []), .br false]) (by kernel_rfl) (by intro e; cases e) (an (an (ti (ti (ti (ti trivial)))) (an (decide_eq_false h12552) trivial)) (ti trivial))
def arS2_10 (z0 : Bool) : List Ans := (nN 6 (.b false :: nN 5 (.b false :: .n :: .n :: .call (vb z0) :: .n :: .b false :: [])))
def nspeculumtop_TopModelLeast_l3_0_h (a0 : (List SSkyStar)) (a1 : (List Int)) (r12389 : (Int × Int)) (r12631 : (SSkyModel × Int)) (x11 : Int) (x12 : Int) (x13 : Int) (x14 : Int) (x15 : Int) (x16 : Int) : VS := ⟨mkA [(0, VV.tr (List.flatMap c_SSkyStar a0) a0.length), (1, VV.tr (List.map vi a1) a1.length), (5, vi r12389.1), (9, VV.pt 0 0), (11, vi x11), (12, vi x12), (13, vi x13), (14, vi x14), (15, vi x15), (16, vi x16)], [some ⟨true, 1, g_SSkyModel r12631.1⟩], .nil⟩
def nspeculumtop_TopModelLeast_l3_0_e0 (a0 : (List SSkyStar)) (a1 : (List Int)) (r12389 : (Int × Int)) (r12631 : (SSkyModel × Int)) (x11 : Int) (x12 : Int) (x13 : Int) (r : Unit) : VS := ⟨mkA [(4, vb true)], [], .nil⟩
def nspeculumtop_TopModelLeast_l3_0_e1 (a0 : (List SSkyStar)) (a1 : (List Int)) (r12389 : (Int × Int)) (r12631 : (SSkyModel × Int)) (x11 : Int) (x12 : Int) (x13 : Int) (r : Int × Int) : VS := ⟨mkA [(0, VV.tr (List.flatMap c_SSkyStar a0) a0.length), (1, VV.tr (List.map vi a1) a1.length), (5, vi r12389.1), (9, VV.pt 0 0), (11, vi x11), (12, vi x12), (13, vi x13), (14, vi r.1), (15, vi r.2)], [some ⟨true, 1, g_SSkyModel r12631.1⟩], .nil⟩
def nspeculumtop_TopModelLeast_l3_0 (k : Nat) (a0 : (List SSkyStar)) (a1 : (List Int)) (r12389 : (Int × Int)) (r12631 : (SSkyModel × Int)) (x11 : Int) (x12 : Int) (x13 : Int) : Nat → Int → Int → Int → Option (Sum Unit (Int × Int))
  | 0, _, _, _ => none
  | fuel + 1, x14, x15, x16 => if x16 < r12389.1 then (if 0 ≤ x16 ∧ x16 < (r12631.1.Terms.length : Int) then ((nspeculumbase_Within k (r12631.1.Terms.getD x16.toNat 0) (-10000000) 10000000).bind fun r12832 => (if r12832 = true then (if 0 ≤ x13 ∧ x13 < (a0.length : Int) then (if 0 ≤ x16 ∧ x16 < (((a0.getD x13.toNat default).Shapes).length : Int) then (if 0 ≤ x16 ∧ x16 < (a1.length : Int) then (nspeculumtop_TopModelLeast_l3_0 k a0 a1 r12389 r12631 x11 x12 x13 fuel (w64 (x14 - (w64 ((r12631.1.Terms.getD x16.toNat 0) * (((a0.getD x13.toNat default).Shapes).getD x16.toNat 0))))) (w64 (x15 - (w64 ((a1.getD x16.toNat 0) * (((a0.getD x13.toNat default).Shapes).getD x16.toNat 0))))) (w64 (x16 + 1))) else none) else none) else none) else (some (.inl ())))) else none) else (some (.inr (x14, x15)))
theorem nspeculumtop_TopModelLeast_l3_0_ok (k : Nat) (a0 : (List SSkyStar)) (a1 : (List Int)) (r12389 : (Int × Int)) (r12631 : (SSkyModel × Int)) (x11 : Int) (x12 : Int) (x13 : Int) : ∀ (fuel : Nat) (x14 : Int) (x15 : Int) (x16 : Int) (r : Sum Unit (Int × Int)), nspeculumtop_TopModelLeast_l3_0 k a0 a1 r12389 r12631 x11 x12 x13 fuel x14 x15 x16 = some r → (match r with | .inl r => VLoop none Go.Proofs.Try.prog (szF Go.Proofs.Try.f11) (bodyOf Go.Proofs.Try.f11 3) (nspeculumtop_TopModelLeast_l3_0_h a0 a1 r12389 r12631 x11 x12 x13 x14 x15 x16) .ret (nspeculumtop_TopModelLeast_l3_0_e0 a0 a1 r12389 r12631 x11 x12 x13 r) | .inr r => VLoop none Go.Proofs.Try.prog (szF Go.Proofs.Try.f11) (bodyOf Go.Proofs.Try.f11 3) (nspeculumtop_TopModelLeast_l3_0_h a0 a1 r12389 r12631 x11 x12 x13 x14 x15 x16) (.exit 6) (nspeculumtop_TopModelLeast_l3_0_e1 a0 a1 r12389 r12631 x11 x12 x13 r)) := by
 intro fuel
 induction fuel with
 | zero => intro x14 x15 x16 r h; rw [nspeculumtop_TopModelLeast_l3_0.eq_1] at h; cases h
 | succ fuel ih =>
  intro x14 x15 x16 r h
  rw [nspeculumtop_TopModelLeast_l3_0.eq_2] at h
  rcases ifs h with ⟨h12829, h⟩ | ⟨h12829, h⟩
  ·obtain ⟨h12830, h⟩ := ifn h
   have e12831 := (show loadL Go.Proofs.Try.prog 3 (x16.toNat * 1) (List.map vi r12631.1.Terms) = some (vi (r12631.1.Terms.getD x16.toNat 0)) from ld_map ag3 vi r12631.1.Terms 0 h12830 (by omega))
   obtain ⟨r12832, h12833, h⟩ := bs h
   have e12834 := (nspeculumbase_Within_ok k (r12631.1.Terms.getD x16.toNat 0) (-10000000) 10000000 _ h12833)
   have e12835 := (ti (ti (ti (an h12830 (an e12831 (an e12834 (ti trivial)))))))
   rcases ifs h with ⟨h12836, h⟩ | ⟨h12836, h⟩
   ·have e12837 := (show loadL Go.Proofs.Try.prog 3 (x16.toNat * 1) (List.map vi r12631.1.Terms) = some (vi (r12631.1.Terms.getD x16.toNat 0)) from ld_map ag3 vi r12631.1.Terms 0 h12830 (by omega))
    obtain ⟨h12838, h⟩ := ifn h
    have e12839 := (show loadL Go.Proofs.Try.prog 29 (x13.toNat * 2 + 0) (List.flatMap c_SSkyStar a0) = some (VV.tr (List.map vi ((a0.getD x13.toNat default).Shapes)) (((a0.getD x13.toNat default).Shapes).length)) from (ld_flat ag29 c_SSkyStar 2 0 len_c_SSkyStar (by omega) a0 default h12838 (by omega)).trans rfl)
    obtain ⟨h12840, h⟩ := ifn h
    have e12841 := (show loadL Go.Proofs.Try.prog 3 (x16.toNat * 1) (List.map vi ((a0.getD x13.toNat default).Shapes)) = some (vi (((a0.getD x13.toNat default).Shapes).getD x16.toNat 0)) from ld_map ag3 vi ((a0.getD x13.toNat default).Shapes) 0 h12840 (by omega))
    obtain ⟨h12842, h⟩ := ifn h
    have e12843 := (show loadL Go.Proofs.Try.prog 3 (x16.toNat * 1) (List.map vi a1) = some (vi (a1.getD x16.toNat 0)) from ld_map ag3 vi a1 0 h12842 (by omega))
    have e12844 := (show loadL Go.Proofs.Try.prog 29 (x13.toNat * 2 + 0) (List.flatMap c_SSkyStar a0) = some (VV.tr (List.map vi ((a0.getD x13.toNat default).Shapes)) (((a0.getD x13.toNat default).Shapes).length)) from (ld_flat ag29 c_SSkyStar 2 0 len_c_SSkyStar (by omega) a0 default h12838 (by omega)).trans rfl)
    have e12845 := (show loadL Go.Proofs.Try.prog 3 (x16.toNat * 1) (List.map vi ((a0.getD x13.toNat default).Shapes)) = some (vi (((a0.getD x13.toNat default).Shapes).getD x16.toNat 0)) from ld_map ag3 vi ((a0.getD x13.toNat default).Shapes) 0 h12840 (by omega))
    have e12846 := (ti (ti (ti (ti (an h12830 (an e12837 (ti (ti (an h12838 (ti (an e12839 (ti (an h12840 (an e12841 (ti (ti (ti (ti (ti (an h12842 (an e12843 (ti (ti (an h12838 (ti (an e12844 (ti (an h12840 (an e12845 (ti (ti (ti (ti trivial)))))))))))))))))))))))))))))))))
    have h2 := ih _ _ _ _ h
    obtain ⟨q, hv, hq⟩ := pkR (rd := none) (P := Go.Proofs.Try.prog) (fn := Go.Proofs.Try.f11) (k := 3) (s := (nspeculumtop_TopModelLeast_l3_0_h a0 a1 r12389 r12631 x11 x12 x13 x14 x15 x16)) (ans := [.reg (nN 3 []), .br true, .reg (nN 4 (.v (vi (r12631.1.Terms.getD x16.toNat 0)) :: .call (vb r12832) :: .n :: [])), .br false, .reg (arS2_8 r12631 x16 a0 x13 a1), .reg (nN 3 [])]) (c := ⟨[(0, none), (1, none), (5, none), (9, none), (11, none), (12, none), (13, none), (14, none), (15, none), (16, none)], [none], []⟩) (e := .normal) (s1 := (nspeculumtop_TopModelLeast_l3_0_h a0 a1 r12389 r12631 x11 x12 x13 (w64 (x14 - (w64 ((r12631.1.Terms.getD x16.toNat 0) * (((a0.getD x13.toNat default).Shapes).getD x16.toNat 0))))) (w64 (x15 - (w64 ((a1.getD x16.toNat 0) * (((a0.getD x13.toNat default).Shapes).getD x16.toNat 0))))) (w64 (x16 + 1)))) (an (an (an (ti (ti (ti trivial))) (an (decide_eq_true h12829) trivial)) (an (an (an e12835 (an (not_f h12836) trivial)) e12846) (ti (ti (ti trivial))))) (ti trivial)) (by kernel_rfl)
    cases r with
    | inl r => exact round_next pm pn hv hq h2
    | inr r =>
     exact round_next pm pn hv hq h2
   ·injection h with h; subst h
    exact round_stop (c := ⟨[(4, none)], [], []⟩) (s1 := (nspeculumtop_TopModelLeast_l3_0_e0 a0 a1 r12389 r12631 x11 x12 x13 ())) pm pn (ans := [.reg (nN 3 []), .br true, .reg (nN 4 (.v (vi (r12631.1.Terms.getD x16.toNat 0)) :: .call (vb r12832) :: .n :: [])), .br true, .reg (.n :: [])]) (by kernel_rfl) (by intro e; cases e) (an (an (an (ti (ti (ti trivial))) (an (decide_eq_true h12829) trivial)) (an e12835 (an (not_t (bool_f h12836)) (an (ti trivial) trivial)))) (ti trivial))
  ·injection h with h; subst h
   exact round_stop (c := ⟨[(0, none), (1, none), (5, none), (9, none), (11, none), (12, none), (13, none), (14, none), (15, none)], [none], []⟩) (s1 := (nspeculumtop_TopModelLeast_l3_0_e1 a0 a1 r12389 r12631 x11 x12 x13 (x14, x15))) pm pn (ans := [.reg (nN 3 []), .br false]) (by kernel_rfl) (by intro e; cases e) (an (an (ti (ti (ti trivial))) (an (decide_eq_false h12829) trivial)) (ti trivial))
def nspeculumtop_TopModelLeast_l2_0_h (a0 : (List SSkyStar)) (a1 : (List Int)) (r12389 : (Int × Int)) (r12631 : (SSkyModel × Int)) (x11 : Int) (x12 : Int) (x13 : Int) : VS := ⟨mkA [(0, VV.tr (List.flatMap c_SSkyStar a0) a0.length), (1, VV.tr (List.map vi a1) a1.length), (5, vi r12389.1), (9, VV.pt 0 0), (11, vi x11), (12, vi x12), (13, vi x13)], [some ⟨true, 1, g_SSkyModel r12631.1⟩], .nil⟩
def nspeculumtop_TopModelLeast_l2_0_e0 (a0 : (List SSkyStar)) (a1 : (List Int)) (r12389 : (Int × Int)) (r12631 : (SSkyModel × Int)) (r : Unit) : VS := ⟨mkA [(4, vb true)], [], .nil⟩
def nspeculumtop_TopModelLeast_l2_0_e1 (a0 : (List SSkyStar)) (a1 : (List Int)) (r12389 : (Int × Int)) (r12631 : (SSkyModel × Int)) (r : Int × Int) : VS := ⟨mkA [(9, VV.pt 0 0), (11, vi r.1), (12, vi r.2)], [some ⟨true, 1, g_SSkyModel r12631.1⟩], .nil⟩
def nspeculumtop_TopModelLeast_l2_0 (k : Nat) (a0 : (List SSkyStar)) (a1 : (List Int)) (r12389 : (Int × Int)) (r12631 : (SSkyModel × Int)) : Nat → Int → Int → Int → Option (Sum Unit (Int × Int))
  | 0, _, _, _ => none
  | fuel + 1, x11, x12, x13 => if x13 < (a0.length : Int) then (if 0 ≤ x13 ∧ x13 < (a0.length : Int) then ((nspeculumtop_TopModelLeast_l3_0 k a0 a1 r12389 r12631 x11 x12 x13 k (w64 (((a0.getD x13.toNat default).Error) * r12631.1.Den)) ((a0.getD x13.toNat default).Error) 0).bind fun r12848 => (match r12848 with | .inl r12849 => (some (.inl ())) | .inr r12850 => ((nspeculumbase_Within k r12850.1 (-100000000) 100000000).bind fun r12853 => (if r12853 = true then (nspeculumtop_TopModelLeast_l2_0 k a0 a1 r12389 r12631 fuel (w64 (x11 + (w64 (r12850.1 * r12850.1)))) (w64 (x12 + (w64 (r12850.2 * r12850.2)))) (w64 (x13 + 1))) else (some (.inl ())))))) else none) else (some (.inr (x11, x12)))
theorem nspeculumtop_TopModelLeast_l2_0_ok (k : Nat) (a0 : (List SSkyStar)) (a1 : (List Int)) (r12389 : (Int × Int)) (r12631 : (SSkyModel × Int)) : ∀ (fuel : Nat) (x11 : Int) (x12 : Int) (x13 : Int) (r : Sum Unit (Int × Int)), nspeculumtop_TopModelLeast_l2_0 k a0 a1 r12389 r12631 fuel x11 x12 x13 = some r → (match r with | .inl r => VLoop none Go.Proofs.Try.prog (szF Go.Proofs.Try.f11) (bodyOf Go.Proofs.Try.f11 2) (nspeculumtop_TopModelLeast_l2_0_h a0 a1 r12389 r12631 x11 x12 x13) .ret (nspeculumtop_TopModelLeast_l2_0_e0 a0 a1 r12389 r12631 r) | .inr r => VLoop none Go.Proofs.Try.prog (szF Go.Proofs.Try.f11) (bodyOf Go.Proofs.Try.f11 2) (nspeculumtop_TopModelLeast_l2_0_h a0 a1 r12389 r12631 x11 x12 x13) (.exit 4) (nspeculumtop_TopModelLeast_l2_0_e1 a0 a1 r12389 r12631 r)) := by
 intro fuel
 induction fuel with
 | zero => intro x11 x12 x13 r h; rw [nspeculumtop_TopModelLeast_l2_0.eq_1] at h; cases h
 | succ fuel ih =>
  intro x11 x12 x13 r h
  rw [nspeculumtop_TopModelLeast_l2_0.eq_2] at h
  rcases ifs h with ⟨h12788, h⟩ | ⟨h12788, h⟩
  ·obtain ⟨h12789, h⟩ := ifn h
   have e12790 := (show loadL Go.Proofs.Try.prog 3 (x13.toNat * 2 + 1) (List.flatMap c_SSkyStar a0) = some (vi ((a0.getD x13.toNat default).Error)) from (ld_flat ag3 c_SSkyStar 2 1 len_c_SSkyStar (by omega) a0 default h12789 (by omega)).trans rfl)
   have e12791 := (show loadL Go.Proofs.Try.prog 3 (x13.toNat * 2 + 1) (List.flatMap c_SSkyStar a0) = some (vi ((a0.getD x13.toNat default).Error)) from (ld_flat ag3 c_SSkyStar 2 1 len_c_SSkyStar (by omega) a0 default h12789 (by omega)).trans rfl)
   have e12792 := (ti (ti (an h12789 (ti (an e12790 (ti (ti (ti (ti (ti (an h12789 (ti (an e12791 (ti (ti trivial)))))))))))))))
   obtain ⟨r12848, h12847, h⟩ := bs h
   have hph12847 := nspeculumtop_TopModelLeast_l3_0_ok k a0 a1 r12389 r12631 x11 x12 x13 _ _ _ _ _ h12847
   cases r12848 with
   | inl r12849 =>
    dsimp only at h
    have e12851 := (an (ti trivial) (VRun.loop hph12847))
    injection h with h; subst h
    exact round_stop (c := ⟨[(4, none)], [], []⟩) (s1 := (nspeculumtop_TopModelLeast_l2_0_e0 a0 a1 r12389 r12631 ())) pm pn (ans := [.reg (nN 4 []), .br true, .reg (arS2_9 a0 x13), .reg (.n :: []), .sub ⟨[(0, none), (1, none), (5, none), (9, none), (11, none), (12, none), (13, none), (14, none), (15, none), (16, none)], [none], []⟩ .ret (nspeculumtop_TopModelLeast_l3_0_e0 a0 a1 r12389 r12631 x11 x12 x13 r12849)]) (by kernel_rfl) (by intro e; cases e) (an (an (an (ti (ti (ti (ti trivial)))) (an (decide_eq_true h12788) trivial)) (an e12792 (an (ti trivial) e12851))) (ti trivial))
   | inr r12850 =>
    dsimp only at h
    have e12852 := (an (ti trivial) (VRun.loop hph12847))
    obtain ⟨r12853, h12854, h⟩ := bs h
    have e12855 := (nspeculumbase_Within_ok k r12850.1 (-100000000) 100000000 _ h12854)
    rcases ifs h with ⟨h12856, h⟩ | ⟨h12856, h⟩
    ·have e12857 := (ti (ti (ti (ti (ti (ti (ti (ti (ti (ti (ti (ti trivial))))))))))))
     have h2 := ih _ _ _ _ h
     obtain ⟨q, hv, hq⟩ := pkR (rd := none) (P := Go.Proofs.Try.prog) (fn := Go.Proofs.Try.f11) (k := 2) (s := (nspeculumtop_TopModelLeast_l2_0_h a0 a1 r12389 r12631 x11 x12 x13)) (ans := [.reg (nN 4 []), .br true, .reg (arS2_9 a0 x13), .reg (.n :: []), .sub ⟨[(0, none), (1, none), (5, none), (9, none), (11, none), (12, none), (13, none), (14, none), (15, none), (16, none)], [none], []⟩ (.exit 6) (nspeculumtop_TopModelLeast_l3_0_e1 a0 a1 r12389 r12631 x11 x12 x13 r12850), .reg (.n :: .call (vb r12853) :: .n :: []), .br false, .reg (nN 12 []), .reg (nN 3 [])]) (c := ⟨[(0, none), (1, none), (5, none), (9, none), (11, none), (12, none), (13, none)], [none], []⟩) (e := .normal) (s1 := (nspeculumtop_TopModelLeast_l2_0_h a0 a1 r12389 r12631 (w64 (x11 + (w64 (r12850.1 * r12850.1)))) (w64 (x12 + (w64 (r12850.2 * r12850.2)))) (w64 (x13 + 1)))) (an (an (an (ti (ti (ti (ti trivial)))) (an (decide_eq_true h12788) trivial)) (an (an e12792 (an (an (ti trivial) e12852) (an (an (ti (an e12855 (ti trivial))) (an (not_f h12856) trivial)) e12857))) (ti (ti (ti trivial))))) (ti trivial)) (by kernel_rfl)
     cases r with
     | inl r => exact round_next pm pn hv hq h2
     | inr r =>
      exact round_next pm pn hv hq h2
    ·injection h with h; subst h
     exact round_stop (c := ⟨[(4, none)], [], []⟩) (s1 := (nspeculumtop_TopModelLeast_l2_0_e0 a0 a1 r12389 r12631 ())) pm pn (ans := [.reg (nN 4 []), .br true, .reg (arS2_9 a0 x13), .reg (.n :: []), .sub ⟨[(0, none), (1, none), (5, none), (9, none), (11, none), (12, none), (13, none), (14, none), (15, none), (16, none)], [none], []⟩ (.exit 6) (nspeculumtop_TopModelLeast_l3_0_e1 a0 a1 r12389 r12631 x11 x12 x13 r12850), .reg (.n :: .call (vb r12853) :: .n :: []), .br true, .reg (.n :: [])]) (by kernel_rfl) (by intro e; cases e) (an (an (an (ti (ti (ti (ti trivial)))) (an (decide_eq_true h12788) trivial)) (an e12792 (an (an (ti trivial) e12852) (an (ti (an e12855 (ti trivial))) (an (not_t (bool_f h12856)) (an (ti trivial) trivial)))))) (ti trivial))
  ·injection h with h; subst h
   exact round_stop (c := ⟨[(9, none), (11, none), (12, none)], [none], []⟩) (s1 := (nspeculumtop_TopModelLeast_l2_0_e1 a0 a1 r12389 r12631 (x11, x12))) pm pn (ans := [.reg (nN 4 []), .br false]) (by kernel_rfl) (by intro e; cases e) (an (an (ti (ti (ti (ti trivial)))) (an (decide_eq_false h12788) trivial)) (ti trivial))
def nspeculumtop_TopModelLeast (k : Nat) (a0 : (List SSkyStar)) (a1 : (List Int)) : Option Bool :=
  (nawake k).bind fun r12386 => (if r12386 = true then ((npoint_CheckStars k a0).bind fun r12389 => (if r12389.2 = 0 then (if 6 < (a0.length : Int) then (some true) else (if (a1.length : Int) = r12389.1 then ((nspeculumlaw09_Few k a0).bind fun r12400 => (if r12400 = true then ((nspeculumtop_TopModelLeast_l0_0 k a0 a1 r12389 k 0).bind fun r12626 => (match r12626 with | .inl r12627 => (some true) | .inr r12628 => ((npoint_Fit k a0).bind fun r12631 => (if r12631.2 = 0 then (if (r12631.1.Terms.length : Int) = r12389.1 then ((npoint_CheckFit k a0 r12631.1).bind fun r12638 => (if r12638 = 0 then ((nspeculumbase_Within k r12631.1.Den 1 10000).bind fun r12644 => (if r12644 = true then ((nspeculumtop_TopModelLeast_l2_0 k a0 a1 r12389 r12631 k 0 0 0).bind fun r12859 => (match r12859 with | .inl r12860 => (some true) | .inr r12861 => (some (decide (r12861.1 ≤ (w64 ((w64 (r12861.2 * r12631.1.Den)) * r12631.1.Den))))))) else (some (decide (0 < r12631.1.Den))))) else (some false))) else (some false)) else (if r12631.2 = 11 then (some true) else (some (decide (r12631.2 = 8)))))))) else (some true))) else (some true))) else (some true))) else (some false))
theorem nspeculumtop_TopModelLeast_ok (k : Nat) (a0 : (List SSkyStar)) (a1 : (List Int)) (r : Bool) (h : nspeculumtop_TopModelLeast k a0 a1 = some r) : VC Go.Proofs.Try.prog 11 [VV.tr (List.flatMap c_SSkyStar a0) a0.length, VV.tr (List.map vi a1) a1.length] (vb r) := by
 unfold nspeculumtop_TopModelLeast at h
 obtain ⟨r12386, h12387, h⟩ := bs h
 rcases ifs h with ⟨h12388, h⟩ | ⟨h12388, h⟩
 ·obtain ⟨r12389, h12390, h⟩ := bs h
  have e12391 := (ti (an (npoint_CheckStars_ok k a0 _ h12390) (ti (ti (ti (ti (ti trivial)))))))
  rcases ifs h with ⟨h12392, h⟩ | ⟨h12392, h⟩
  ·have e12393 := (an (not_f (decide_eq_true h12392)) trivial)
   have e12394 := (an (not_f (decide_eq_true h12392)) trivial)
   have e12395 := (an (not_f (decide_eq_true h12392)) trivial)
   rcases ifs h with ⟨h12396, h⟩ | ⟨h12396, h⟩
   ·have e12397 := (ti (ti (ti (an e12393 (an e12394 (an e12395 (an (not_f (decide_eq_true h12392)) (ti (an (decide_eq_true h12396) (an (decide_eq_true h12396) (an (decide_eq_true h12396) (an (decide_eq_true h12396) (an (decide_eq_true h12396) (ti (an rt (an rt (an rt (an rt trivial))))))))))))))))))
    injection h with h; subst h
    exact fun_ok pm pn Go.Proofs.Try.func11 (r0 := vb true) (ans := [.reg (.n :: []), .reg (.call (vb r12386) :: .n :: []), .br false, .reg (.n :: .call (VV.tu [vi r12389.1, vi r12389.2]) :: nN 5 []), .reg (nN 6 (.b false :: .n :: nS 4 (.b true :: .n :: nS 3 (.b true :: [])))), .br true, .reg (.n :: [])]) (fr := true) (by kernel_rfl) (an (an (ti trivial) (an (an (an (nawake_ok k _ h12387) (ti trivial)) (an (not_f h12388) trivial)) (an e12391 (an e12397 (an rt (an (ti trivial) trivial)))))) (ti trivial)) (Wv.refl _)
   ·rcases ifs h with ⟨h12398, h⟩ | ⟨h12398, h⟩
    ·have e12399 := (an (not_f (decide_eq_true h12398)) trivial)
     obtain ⟨r12400, h12401, h⟩ := bs h
     have e12402 := (an (not_f (decide_eq_true h12398)) (nspeculumlaw09_Few_ok k a0 _ h12401))
     have e12403 := (an (not_f (decide_eq_true h12398)) trivial)
     have e12404 := (ti (ti (ti (an e12393 (an e12394 (an e12395 (an (not_f (decide_eq_true h12392)) (ti (an (an (decide_eq_false h12396) trivial) (an (an (decide_eq_false h12396) trivial) (an (an (decide_eq_false h12396) trivial) (an (an (decide_eq_false h12396) trivial) (an (decide_eq_false h12396) (ti (an e12399 (an e12402 (an e12403 (an (not_f (decide_eq_true h12398)) trivial))))))))))))))))))
     rcases ifs h with ⟨h12405, h⟩ | ⟨h12405, h⟩
     ·obtain ⟨r12626, h12625, h⟩ := bs h
      have hph12625 := nspeculumtop_TopModelLeast_l0_0_ok k a0 a1 r12389 _ _ _ h12625
      cases r12626 with
      | inl r12627 =>
       dsimp only at h
       have e12629 := (an (ti trivial) (VRun.loop hph12625))
       injection h with h; subst h
       exact fun_ok pm pn Go.Proofs.Try.func11 (r0 := vb true) (ans := [.reg (.n :: []), .reg (.call (vb r12386) :: .n :: []), .br false, .reg (.n :: .call (VV.tu [vi r12389.1, vi r12389.2]) :: nN 5 []), .reg (arS2_10 r12400), .br false, .reg (.n :: []), .sub ⟨[(0, none), (1, none), (5, none), (7, none)], [], []⟩ .ret (nspeculumtop_TopModelLeast_l0_0_e0 a0 a1 r12389 r12627)]) (fr := true) (by kernel_rfl) (an (an (ti trivial) (an (an (an (nawake_ok k _ h12387) (ti trivial)) (an (not_f h12388) trivial)) (an e12391 (an (an e12404 (an (not_f h12405) trivial)) (an (ti trivial) e12629))))) (ti trivial)) (Wv.refl _)
      | inr r12628 =>
       dsimp only at h
       have e12630 := (an (ti trivial) (VRun.loop hph12625))
       obtain ⟨r12631, h12632, h⟩ := bs h
       have e12633 := (ti (an (npoint_Fit_ok k a0 _ h12632) (ti (ti (ti (ti (ti (ti trivial))))))))
       rcases ifs h with ⟨h12634, h⟩ | ⟨h12634, h⟩
       ·rcases ifs h with ⟨h12635, h⟩ | ⟨h12635, h⟩
        ·have e12636 := (an (not_f (decide_eq_true h12635)) trivial)
         have e12637 := (an (not_f (decide_eq_true h12635)) trivial)
         obtain ⟨r12638, h12639, h⟩ := bs h
         have e12640 := (an (not_f (decide_eq_true h12635)) (npoint_CheckFit_ok k a0 r12631.1 _ h12639))
         have e12641 := (an (not_f (decide_eq_true h12635)) trivial)
         have e12642 := (ti (ti (ti (ti (ti (ti (an e12636 (an e12637 (an e12640 (an e12641 (an (not_f (decide_eq_true h12635)) trivial)))))))))))
         rcases ifs h with ⟨h12643, h⟩ | ⟨h12643, h⟩
         ·obtain ⟨r12644, h12645, h⟩ := bs h
          have e12646 := (nspeculumbase_Within_ok k r12631.1.Den 1 10000 _ h12645)
          rcases ifs h with ⟨h12647, h⟩ | ⟨h12647, h⟩
          ·obtain ⟨r12859, h12858, h⟩ := bs h
           have hph12858 := nspeculumtop_TopModelLeast_l2_0_ok k a0 a1 r12389 r12631 _ _ _ _ _ h12858
           cases r12859 with
           | inl r12860 =>
            dsimp only at h
            have e12862 := (an (ti trivial) (VRun.loop hph12858))
            injection h with h; subst h
            exact fun_ok pm pn Go.Proofs.Try.func11 (r0 := vb true) (ans := [.reg (.n :: []), .reg (.call (vb r12386) :: .n :: []), .br false, .reg (.n :: .call (VV.tu [vi r12389.1, vi r12389.2]) :: nN 5 []), .reg (arS2_10 r12400), .br false, .reg (.n :: []), .sub ⟨[(0, none), (1, none), (5, none), (7, none)], [], []⟩ (.exit 0) (nspeculumtop_TopModelLeast_l0_0_e1 a0 a1 r12389 r12628), .reg (.n :: .call (VV.tu [VV.ag (g_SSkyModel r12631.1), vi r12631.2]) :: nN 6 []), .reg (.n :: .n :: []), .br false, .reg (nN 8 (.call (vi r12638) :: .n :: .b false :: [])), .br false, .reg (.n :: .n :: .call (vb r12644) :: .n :: []), .br false, .reg (.n :: .n :: []), .reg (.n :: []), .sub ⟨[(0, none), (1, none), (5, none), (9, none), (11, none), (12, none), (13, none)], [none], []⟩ .ret (nspeculumtop_TopModelLeast_l2_0_e0 a0 a1 r12389 r12631 r12860)]) (fr := true) (by kernel_rfl) (an (an (ti trivial) (an (an (an (nawake_ok k _ h12387) (ti trivial)) (an (not_f h12388) trivial)) (an e12391 (an (an e12404 (an (not_f h12405) trivial)) (an (an (ti trivial) e12630) (an e12633 (an (an (ti (ti trivial)) (an (not_f (decide_eq_true h12634)) trivial)) (an (an e12642 (an (not_f (decide_eq_true h12643)) trivial)) (an (an (ti (ti (an e12646 (ti trivial)))) (an (not_f h12647) trivial)) (an (ti (ti trivial)) (an (ti trivial) e12862))))))))))) (ti trivial)) (Wv.refl _)
           | inr r12861 =>
            dsimp only at h
            have e12863 := (an (ti trivial) (VRun.loop hph12858))
            have e12864 := (ti (ti (ti (ti (ti (ti (ti (ti (ti (ti trivial))))))))))
            injection h with h; subst h
            exact fun_ok pm pn Go.Proofs.Try.func11 (r0 := vb (decide (r12861.1 ≤ (w64 ((w64 (r12861.2 * r12631.1.Den)) * r12631.1.Den))))) (ans := [.reg (.n :: []), .reg (.call (vb r12386) :: .n :: []), .br false, .reg (.n :: .call (VV.tu [vi r12389.1, vi r12389.2]) :: nN 5 []), .reg (arS2_10 r12400), .br false, .reg (.n :: []), .sub ⟨[(0, none), (1, none), (5, none), (7, none)], [], []⟩ (.exit 0) (nspeculumtop_TopModelLeast_l0_0_e1 a0 a1 r12389 r12628), .reg (.n :: .call (VV.tu [VV.ag (g_SSkyModel r12631.1), vi r12631.2]) :: nN 6 []), .reg (.n :: .n :: []), .br false, .reg (nN 8 (.call (vi r12638) :: .n :: .b false :: [])), .br false, .reg (.n :: .n :: .call (vb r12644) :: .n :: []), .br false, .reg (.n :: .n :: []), .reg (.n :: []), .sub ⟨[(0, none), (1, none), (5, none), (9, none), (11, none), (12, none), (13, none)], [none], []⟩ (.exit 4) (nspeculumtop_TopModelLeast_l2_0_e1 a0 a1 r12389 r12631 r12861), .reg (nN 10 [])]) (fr := true) (by kernel_rfl) (an (an (ti trivial) (an (an (an (nawake_ok k _ h12387) (ti trivial)) (an (not_f h12388) trivial)) (an e12391 (an (an e12404 (an (not_f h12405) trivial)) (an (an (ti trivial) e12630) (an e12633 (an (an (ti (ti trivial)) (an (not_f (decide_eq_true h12634)) trivial)) (an (an e12642 (an (not_f (decide_eq_true h12643)) trivial)) (an (an (ti (ti (an e12646 (ti trivial)))) (an (not_f h12647) trivial)) (an (ti (ti trivial)) (an (an (ti trivial) e12863) (an e12864 trivial)))))))))))) (ti trivial)) (Wv.refl _)
          ·injection h with h; subst h
           exact fun_ok pm pn Go.Proofs.Try.func11 (r0 := vb (decide (0 < r12631.1.Den))) (ans := [.reg (.n :: []), .reg (.call (vb r12386) :: .n :: []), .br false, .reg (.n :: .call (VV.tu [vi r12389.1, vi r12389.2]) :: nN 5 []), .reg (arS2_10 r12400), .br false, .reg (.n :: []), .sub ⟨[(0, none), (1, none), (5, none), (7, none)], [], []⟩ (.exit 0) (nspeculumtop_TopModelLeast_l0_0_e1 a0 a1 r12389 r12628), .reg (.n :: .call (VV.tu [VV.ag (g_SSkyModel r12631.1), vi r12631.2]) :: nN 6 []), .reg (.n :: .n :: []), .br false, .reg (nN 8 (.call (vi r12638) :: .n :: .b false :: [])), .br false, .reg (.n :: .n :: .call (vb r12644) :: .n :: []), .br true, .reg (nN 4 [])]) (fr := true) (by kernel_rfl) (an (an (ti trivial) (an (an (an (nawake_ok k _ h12387) (ti trivial)) (an (not_f h12388) trivial)) (an e12391 (an (an e12404 (an (not_f h12405) trivial)) (an (an (ti trivial) e12630) (an e12633 (an (an (ti (ti trivial)) (an (not_f (decide_eq_true h12634)) trivial)) (an (an e12642 (an (not_f (decide_eq_true h12643)) trivial)) (an (ti (ti (an e12646 (ti trivial)))) (an (not_t (bool_f h12647)) (an (ti (ti (ti (ti trivial)))) trivial))))))))))) (ti trivial)) (Wv.refl _)
         ·injection h with h; subst h
          exact fun_ok pm pn Go.Proofs.Try.func11 (r0 := vb false) (ans := [.reg (.n :: []), .reg (.call (vb r12386) :: .n :: []), .br false, .reg (.n :: .call (VV.tu [vi r12389.1, vi r12389.2]) :: nN 5 []), .reg (arS2_10 r12400), .br false, .reg (.n :: []), .sub ⟨[(0, none), (1, none), (5, none), (7, none)], [], []⟩ (.exit 0) (nspeculumtop_TopModelLeast_l0_0_e1 a0 a1 r12389 r12628), .reg (.n :: .call (VV.tu [VV.ag (g_SSkyModel r12631.1), vi r12631.2]) :: nN 6 []), .reg (.n :: .n :: []), .br false, .reg (nN 8 (.call (vi r12638) :: .n :: .b false :: [])), .br true, .reg (.n :: [])]) (fr := true) (by kernel_rfl) (an (an (ti trivial) (an (an (an (nawake_ok k _ h12387) (ti trivial)) (an (not_f h12388) trivial)) (an e12391 (an (an e12404 (an (not_f h12405) trivial)) (an (an (ti trivial) e12630) (an e12633 (an (an (ti (ti trivial)) (an (not_f (decide_eq_true h12634)) trivial)) (an e12642 (an (not_t (decide_eq_false h12643)) (an (ti trivial) trivial)))))))))) (ti trivial)) (Wv.refl _)
        ·have e12865 := (ti (ti (ti (ti (ti (ti (an (not_t (decide_eq_false h12635)) (an (not_t (decide_eq_false h12635)) (an (not_t (decide_eq_false h12635)) (an (not_t (decide_eq_false h12635)) (an (not_t (decide_eq_false h12635)) trivial)))))))))))
         injection h with h; subst h
         exact fun_ok pm pn Go.Proofs.Try.func11 (r0 := vb false) (ans := [.reg (.n :: []), .reg (.call (vb r12386) :: .n :: []), .br false, .reg (.n :: .call (VV.tu [vi r12389.1, vi r12389.2]) :: nN 5 []), .reg (arS2_10 r12400), .br false, .reg (.n :: []), .sub ⟨[(0, none), (1, none), (5, none), (7, none)], [], []⟩ (.exit 0) (nspeculumtop_TopModelLeast_l0_0_e1 a0 a1 r12389 r12628), .reg (.n :: .call (VV.tu [VV.ag (g_SSkyModel r12631.1), vi r12631.2]) :: nN 6 []), .reg (.n :: .n :: []), .br false, .reg (nN 6 (nS 4 (.b true :: []))), .br true, .reg (.n :: [])]) (fr := true) (by kernel_rfl) (an (an (ti trivial) (an (an (an (nawake_ok k _ h12387) (ti trivial)) (an (not_f h12388) trivial)) (an e12391 (an (an e12404 (an (not_f h12405) trivial)) (an (an (ti trivial) e12630) (an e12633 (an (an (ti (ti trivial)) (an (not_f (decide_eq_true h12634)) trivial)) (an e12865 (an rt (an (ti trivial) trivial)))))))))) (ti trivial)) (Wv.refl _)
       ·rcases ifs h with ⟨h12866, h⟩ | ⟨h12866, h⟩
        ·have e12867 := (ti (ti (ti (an (decide_eq_true h12866) (an (decide_eq_true h12866) (an (decide_eq_true h12866) (ti trivial)))))))
         injection h with h; subst h
         exact fun_ok pm pn Go.Proofs.Try.func11 (r0 := vb true) (ans := [.reg (.n :: []), .reg (.call (vb r12386) :: .n :: []), .br false, .reg (.n :: .call (VV.tu [vi r12389.1, vi r12389.2]) :: nN 5 []), .reg (arS2_10 r12400), .br false, .reg (.n :: []), .sub ⟨[(0, none), (1, none), (5, none), (7, none)], [], []⟩ (.exit 0) (nspeculumtop_TopModelLeast_l0_0_e1 a0 a1 r12389 r12628), .reg (.n :: .call (VV.tu [VV.ag (g_SSkyModel r12631.1), vi r12631.2]) :: nN 6 []), .reg (.n :: .n :: []), .br true, .reg (nN 3 (.skip :: .skip :: .b true :: .n :: []))]) (fr := true) (by kernel_rfl) (an (an (ti trivial) (an (an (an (nawake_ok k _ h12387) (ti trivial)) (an (not_f h12388) trivial)) (an e12391 (an (an e12404 (an (not_f h12405) trivial)) (an (an (ti trivial) e12630) (an e12633 (an (ti (ti trivial)) (an (not_t (decide_eq_false h12634)) (an e12867 trivial))))))))) (ti trivial)) (Wv.refl _)
        ·have e12868 := (ti (ti (ti (an (an (decide_eq_false h12866) trivial) (an (an (decide_eq_false h12866) trivial) (an (decide_eq_false h12866) (ti trivial)))))))
         injection h with h; subst h
         exact fun_ok pm pn Go.Proofs.Try.func11 (r0 := vb (decide (r12631.2 = 8))) (ans := [.reg (.n :: []), .reg (.call (vb r12386) :: .n :: []), .br false, .reg (.n :: .call (VV.tu [vi r12389.1, vi r12389.2]) :: nN 5 []), .reg (arS2_10 r12400), .br false, .reg (.n :: []), .sub ⟨[(0, none), (1, none), (5, none), (7, none)], [], []⟩ (.exit 0) (nspeculumtop_TopModelLeast_l0_0_e1 a0 a1 r12389 r12628), .reg (.n :: .call (VV.tu [VV.ag (g_SSkyModel r12631.1), vi r12631.2]) :: nN 6 []), .reg (.n :: .n :: []), .br true, .reg (nN 5 (.b false :: .n :: []))]) (fr := true) (by kernel_rfl) (an (an (ti trivial) (an (an (an (nawake_ok k _ h12387) (ti trivial)) (an (not_f h12388) trivial)) (an e12391 (an (an e12404 (an (not_f h12405) trivial)) (an (an (ti trivial) e12630) (an e12633 (an (ti (ti trivial)) (an (not_t (decide_eq_false h12634)) (an e12868 trivial))))))))) (ti trivial)) (Wv.refl _)
     ·injection h with h; subst h
      exact fun_ok pm pn Go.Proofs.Try.func11 (r0 := vb true) (ans := [.reg (.n :: []), .reg (.call (vb r12386) :: .n :: []), .br false, .reg (.n :: .call (VV.tu [vi r12389.1, vi r12389.2]) :: nN 5 []), .reg (arS2_10 r12400), .br true, .reg (.n :: [])]) (fr := true) (by kernel_rfl) (an (an (ti trivial) (an (an (an (nawake_ok k _ h12387) (ti trivial)) (an (not_f h12388) trivial)) (an e12391 (an e12404 (an (not_t (bool_f h12405)) (an (ti trivial) trivial)))))) (ti trivial)) (Wv.refl _)
    ·have e12869 := (ti (ti (ti (an e12393 (an e12394 (an e12395 (an (not_f (decide_eq_true h12392)) (ti (an (an (decide_eq_false h12396) trivial) (an (an (decide_eq_false h12396) trivial) (an (an (decide_eq_false h12396) trivial) (an (an (decide_eq_false h12396) trivial) (an (decide_eq_false h12396) (ti (an (not_t (decide_eq_false h12398)) (an (not_t (decide_eq_false h12398)) (an (not_t (decide_eq_false h12398)) (an (not_t (decide_eq_false h12398)) trivial))))))))))))))))))
     injection h with h; subst h
     exact fun_ok pm pn Go.Proofs.Try.func11 (r0 := vb true) (ans := [.reg (.n :: []), .reg (.call (vb r12386) :: .n :: []), .br false, .reg (.n :: .call (VV.tu [vi r12389.1, vi r12389.2]) :: nN 5 []), .reg (nN 6 (.b false :: nN 5 (.b false :: .n :: nS 3 (.b true :: [])))), .br true, .reg (.n :: [])]) (fr := true) (by kernel_rfl) (an (an (ti trivial) (an (an (an (nawake_ok k _ h12387) (ti trivial)) (an (not_f h12388) trivial)) (an e12391 (an e12869 (an rt (an (ti trivial) trivial)))))) (ti trivial)) (Wv.refl _)
  ·have e12870 := (ti (ti (ti (an (not_t (decide_eq_false h12392)) (an (not_t (decide_eq_false h12392)) (an (not_t (decide_eq_false h12392)) (an (not_t (decide_eq_false h12392)) (ti (an rt (an rt (an rt (an rt (an rt (ti (an rt (an rt (an rt (an rt trivial))))))))))))))))))
   injection h with h; subst h
   exact fun_ok pm pn Go.Proofs.Try.func11 (r0 := vb true) (ans := [.reg (.n :: []), .reg (.call (vb r12386) :: .n :: []), .br false, .reg (.n :: .call (VV.tu [vi r12389.1, vi r12389.2]) :: nN 5 []), .reg (nN 3 (nS 3 (.b true :: .n :: nS 4 (.b true :: .n :: nS 3 (.b true :: []))))), .br true, .reg (.n :: [])]) (fr := true) (by kernel_rfl) (an (an (ti trivial) (an (an (an (nawake_ok k _ h12387) (ti trivial)) (an (not_f h12388) trivial)) (an e12391 (an e12870 (an rt (an (ti trivial) trivial)))))) (ti trivial)) (Wv.refl _)
 ·injection h with h; subst h
  exact fun_ok pm pn Go.Proofs.Try.func11 (r0 := vb false) (ans := [.reg (.n :: []), .reg (.call (vb r12386) :: .n :: []), .br true, .reg (.n :: [])]) (fr := true) (by kernel_rfl) (an (an (ti trivial) (an (an (nawake_ok k _ h12387) (ti trivial)) (an (not_t (bool_f h12388)) (an (ti trivial) trivial)))) (ti trivial)) (Wv.refl _)
end Go.Proofs.Ytmjmggkllmfmlaa.Vg

/- Written by a program out of the program: what Go functions do, as plain functions, and their contracts. -/
import Derived.Test.YtkffimkedibmnaaWa
namespace Go.Proofs.Ytkffimkedibmnaa.Vg
set_option maxRecDepth 100000
set_option maxHeartbeats 4000000
set_option linter.unusedVariables false
set_option linter.unusedSimpArgs false
open Go Go.Proofs.Ytkffimkedibmnaa.Ev Go.Proofs.Ytkffimkedibmnaa.Vv
structure SElement where
  Kind : Int
  Size : Int
  deriving Inhabited
def c_SElement (x : SElement) : List VV := [vi x.Kind, vi x.Size]
theorem len_c_SElement (x : SElement) : (c_SElement x).length = 2 := rfl
theorem still_c_SElement (xs : List SElement) : (xs.flatMap c_SElement).all VV.still = true := all_flat (fun _ => rfl) xs
theorem isC_c_SElement (xs : List SElement) : (xs.flatMap c_SElement).all VV.isC = true := all_flat (fun _ => rfl) xs
theorem new0_c_SElement (xs : List SElement) : (xs.flatMap c_SElement).all new0 = true := all_flat (fun _ => rfl) xs
theorem unfr_c_SElement (xs : List SElement) : (xs.flatMap c_SElement).map unfr = xs.flatMap c_SElement := unfr_flat (fun _ => rfl) xs
structure SFrac where
  Num : Int
  Den : Int
  deriving Inhabited
def c_SFrac (x : SFrac) : List VV := [vi x.Num, vi x.Den]
theorem len_c_SFrac (x : SFrac) : (c_SFrac x).length = 2 := rfl
theorem still_c_SFrac (xs : List SFrac) : (xs.flatMap c_SFrac).all VV.still = true := all_flat (fun _ => rfl) xs
theorem isC_c_SFrac (xs : List SFrac) : (xs.flatMap c_SFrac).all VV.isC = true := all_flat (fun _ => rfl) xs
theorem new0_c_SFrac (xs : List SFrac) : (xs.flatMap c_SFrac).all new0 = true := all_flat (fun _ => rfl) xs
theorem unfr_c_SFrac (xs : List SFrac) : (xs.flatMap c_SFrac).map unfr = xs.flatMap c_SFrac := unfr_flat (fun _ => rfl) xs
structure Sway where
  failed : Int
  deriving Inhabited
def c_Sway (x : Sway) : List VV := [vi x.failed]
theorem len_c_Sway (x : Sway) : (c_Sway x).length = 1 := rfl
theorem still_c_Sway (xs : List Sway) : (xs.flatMap c_Sway).all VV.still = true := all_flat (fun _ => rfl) xs
theorem isC_c_Sway (xs : List Sway) : (xs.flatMap c_Sway).all VV.isC = true := all_flat (fun _ => rfl) xs
theorem new0_c_Sway (xs : List Sway) : (xs.flatMap c_Sway).all new0 = true := all_flat (fun _ => rfl) xs
theorem unfr_c_Sway (xs : List Sway) : (xs.flatMap c_Sway).map unfr = xs.flatMap c_Sway := unfr_flat (fun _ => rfl) xs
structure SMatrix where
  A : SFrac
  B : SFrac
  C : SFrac
  D : SFrac
  deriving Inhabited
def c_SMatrix (x : SMatrix) : List VV := [vi x.A.Num, vi x.A.Den, vi x.B.Num, vi x.B.Den, vi x.C.Num, vi x.C.Den, vi x.D.Num, vi x.D.Den]
theorem len_c_SMatrix (x : SMatrix) : (c_SMatrix x).length = 8 := rfl
theorem still_c_SMatrix (xs : List SMatrix) : (xs.flatMap c_SMatrix).all VV.still = true := all_flat (fun _ => rfl) xs
theorem isC_c_SMatrix (xs : List SMatrix) : (xs.flatMap c_SMatrix).all VV.isC = true := all_flat (fun _ => rfl) xs
theorem new0_c_SMatrix (xs : List SMatrix) : (xs.flatMap c_SMatrix).all new0 = true := all_flat (fun _ => rfl) xs
theorem unfr_c_SMatrix (xs : List SMatrix) : (xs.flatMap c_SMatrix).map unfr = xs.flatMap c_SMatrix := unfr_flat (fun _ => rfl) xs
structure SPair where
  Focal : SFrac
  Back : SFrac
  Magnify : SFrac
  Obstruct : SFrac
  deriving Inhabited
def c_SPair (x : SPair) : List VV := [vi x.Focal.Num, vi x.Focal.Den, vi x.Back.Num, vi x.Back.Den, vi x.Magnify.Num, vi x.Magnify.Den, vi x.Obstruct.Num, vi x.Obstruct.Den]
theorem len_c_SPair (x : SPair) : (c_SPair x).length = 8 := rfl
theorem still_c_SPair (xs : List SPair) : (xs.flatMap c_SPair).all VV.still = true := all_flat (fun _ => rfl) xs
theorem isC_c_SPair (xs : List SPair) : (xs.flatMap c_SPair).all VV.isC = true := all_flat (fun _ => rfl) xs
theorem new0_c_SPair (xs : List SPair) : (xs.flatMap c_SPair).all new0 = true := all_flat (fun _ => rfl) xs
theorem unfr_c_SPair (xs : List SPair) : (xs.flatMap c_SPair).map unfr = xs.flatMap c_SPair := unfr_flat (fun _ => rfl) xs
theorem ag26 : isAggT Go.Proofs.Try.prog 26 = some true := by kernel_rfl
theorem sz26 : szOf Go.Proofs.Try.prog 26 = some 2 := by kernel_rfl
theorem ag29 : isAggT Go.Proofs.Try.prog 29 = some false := by kernel_rfl
theorem ag113 : isAggT Go.Proofs.Try.prog 113 = some true := by kernel_rfl
theorem sz113 : szOf Go.Proofs.Try.prog 113 = some 2 := by kernel_rfl
def noptics_isWithin (k : Nat) (a0 : Int) (a1 : Int) (a2 : Int) : Option Bool :=
  if a1 ≤ a0 then (some (decide (a0 ≤ a2))) else (some false)
theorem noptics_isWithin_ok (k : Nat) (a0 : Int) (a1 : Int) (a2 : Int) (r : Bool) (h : noptics_isWithin k a0 a1 a2 = some r) : VC Go.Proofs.Try.prog 92 [vi a0, vi a1, vi a2] (vb r) := by
 unfold noptics_isWithin at h
 rcases ifs h with ⟨h108, h⟩ | ⟨h108, h⟩
 ·have e109 := (ti (ti (ti (ti (an (an (decide_eq_true h108) trivial) (an (an (decide_eq_true h108) trivial) (an (an (decide_eq_true h108) trivial) (an (decide_eq_true h108) (ti trivial)))))))))
  injection h with h; subst h
  exact fun_ok pm pn Go.Proofs.Try.func92 (r0 := vb (decide (a0 ≤ a2))) (ans := [.reg (.n :: []), .reg (nN 7 (.b true :: .n :: []))]) (fr := true) (by kernel_rfl) (an (an (ti trivial) (an e109 trivial)) (ti trivial)) (Wv.refl _)
 ·have e110 := (ti (ti (ti (ti (an (decide_eq_false h108) (an (decide_eq_false h108) (an (decide_eq_false h108) (an (decide_eq_false h108) (ti trivial)))))))))
  injection h with h; subst h
  exact fun_ok pm pn Go.Proofs.Try.func92 (r0 := vb false) (ans := [.reg (.n :: []), .reg (nN 4 (nS 3 (.b false :: .n :: [])))]) (fr := true) (by kernel_rfl) (an (an (ti trivial) (an e110 trivial)) (ti trivial)) (Wv.refl _)
def noptics_isSized (k : Nat) (a0 : Int) (a1 : Int) : Option Bool :=
  (noptics_isWithin k a0 (w64 (0 - a1)) a1).bind fun r114 => (some r114)
theorem noptics_isSized_ok (k : Nat) (a0 : Int) (a1 : Int) (r : Bool) (h : noptics_isSized k a0 a1 = some r) : VC Go.Proofs.Try.prog 105 [vi a0, vi a1] (vb r) := by
 unfold noptics_isSized at h
 obtain ⟨r114, h115, h⟩ := bs h
 have e116 := (noptics_isWithin_ok k a0 (w64 (0 - a1)) a1 _ h115)
 injection h with h; subst h
 exact fun_ok pm pn Go.Proofs.Try.func105 (r0 := vb r114) (ans := [.reg (.n :: []), .reg (nN 4 (.call (vb r114) :: .n :: []))]) (fr := true) (by kernel_rfl) (an (an (ti trivial) (an (ti (ti (ti (ti (an e116 (ti trivial)))))) trivial)) (ti trivial)) (Wv.refl _)
def noptics_checkElement (k : Nat) (a0 : SElement) : Option Int :=
  (noptics_isSized k a0.Size 10000000).bind fun r135 => (if a0.Kind = 1 then (if r135 = true then (if 0 ≤ a0.Size then (some 0) else (some 2)) else (some 2)) else (if a0.Kind = 2 then (if r135 = true then (if a0.Size = 0 then (some 2) else (some 0)) else (some 2)) else (if a0.Kind = 3 then (if r135 = true then (if a0.Size = 0 then (some 2) else (some 0)) else (some 2)) else (some 15))))
theorem noptics_checkElement_ok (k : Nat) (a0 : SElement) (r : Int) (h : noptics_checkElement k a0 = some r) : VC Go.Proofs.Try.prog 57 [VV.ag (c_SElement a0)] (vi r) := by
 unfold noptics_checkElement at h
 obtain ⟨r135, h136, h⟩ := bs h
 have e137 := (noptics_isSized_ok k a0.Size 10000000 _ h136)
 rcases ifs h with ⟨h138, h⟩ | ⟨h138, h⟩
 ·rcases ifs h with ⟨h139, h⟩ | ⟨h139, h⟩
  ·have e140 := (ti (ti (an (an h139 trivial) (an (an h139 trivial) (an (an h139 trivial) (an h139 (ti trivial)))))))
   rcases ifs h with ⟨h141, h⟩ | ⟨h141, h⟩
   ·injection h with h; subst h
    exact fun_ok pm pn Go.Proofs.Try.func57 (r0 := vi 0) (ans := [.reg (.n :: .n :: []), .reg (.n :: .n :: .call (vb r135) :: .n :: []), .reg (.n :: .n :: []), .reg (.n :: .n :: []), .br true, .reg (nN 5 (.b true :: .n :: [])), .reg (.n :: .n :: []), .br false, .reg (.n :: [])]) (fr := true) (by kernel_rfl) (an (an (ti (ti trivial)) (an (ti (ti (an e137 (ti trivial)))) (an (an (ti (ti trivial)) (an (ti (ti trivial)) (an (decide_eq_true h138) e140))) (an (an (ti (ti trivial)) (an (not_f (decide_eq_true h141)) trivial)) (an (ti trivial) trivial))))) (ti trivial)) (Wv.refl _)
   ·injection h with h; subst h
    exact fun_ok pm pn Go.Proofs.Try.func57 (r0 := vi 2) (ans := [.reg (.n :: .n :: []), .reg (.n :: .n :: .call (vb r135) :: .n :: []), .reg (.n :: .n :: []), .reg (.n :: .n :: []), .br true, .reg (nN 5 (.b true :: .n :: [])), .reg (.n :: .n :: []), .br true, .reg (.n :: [])]) (fr := true) (by kernel_rfl) (an (an (ti (ti trivial)) (an (ti (ti (an e137 (ti trivial)))) (an (an (ti (ti trivial)) (an (ti (ti trivial)) (an (decide_eq_true h138) e140))) (an (ti (ti trivial)) (an (not_t (decide_eq_false h141)) (an (ti trivial) trivial)))))) (ti trivial)) (Wv.refl _)
  ·have e142 := (ti (ti (an (bool_f h139) (an (bool_f h139) (an (bool_f h139) (an (bool_f h139) (ti trivial)))))))
   injection h with h; subst h
   exact fun_ok pm pn Go.Proofs.Try.func57 (r0 := vi 2) (ans := [.reg (.n :: .n :: []), .reg (.n :: .n :: .call (vb r135) :: .n :: []), .reg (.n :: .n :: []), .reg (.n :: .n :: []), .br true, .reg (.n :: .n :: nS 3 (.b false :: .n :: [])), .reg (.n :: .n :: []), .br true, .reg (.n :: [])]) (fr := true) (by kernel_rfl) (an (an (ti (ti trivial)) (an (ti (ti (an e137 (ti trivial)))) (an (an (ti (ti trivial)) (an (ti (ti trivial)) (an (decide_eq_true h138) e142))) (an (ti (ti trivial)) (an (show (!false) = true from (not_t rfl)) (an (ti trivial) trivial)))))) (ti trivial)) (Wv.refl _)
 ·rcases ifs h with ⟨h143, h⟩ | ⟨h143, h⟩
  ·rcases ifs h with ⟨h144, h⟩ | ⟨h144, h⟩
   ·have e145 := (ti (ti (an (an h144 trivial) (an (an h144 trivial) (an (an h144 trivial) (an h144 (ti trivial)))))))
    rcases ifs h with ⟨h146, h⟩ | ⟨h146, h⟩
    ·injection h with h; subst h
     exact fun_ok pm pn Go.Proofs.Try.func57 (r0 := vi 2) (ans := [.reg (.n :: .n :: []), .reg (.n :: .n :: .call (vb r135) :: .n :: []), .reg (.n :: .n :: []), .reg (.n :: .n :: []), .br false, .reg (.n :: .n :: []), .br true, .br true, .reg (nN 5 (.b true :: .n :: [])), .reg (.n :: .n :: []), .br true, .reg (.n :: [])]) (fr := true) (by kernel_rfl) (an (an (ti (ti trivial)) (an (ti (ti (an e137 (ti trivial)))) (an (an (ti (ti trivial)) (an (ti (ti trivial)) (an (decide_eq_false h138) (an (an (ti (ti trivial)) (an (decide_eq_true h143) trivial)) (an (decide_eq_true h143) e145))))) (an (ti (ti trivial)) (an (not_t (not_f (decide_eq_true h146))) (an (ti trivial) trivial)))))) (ti trivial)) (Wv.refl _)
    ·injection h with h; subst h
     exact fun_ok pm pn Go.Proofs.Try.func57 (r0 := vi 0) (ans := [.reg (.n :: .n :: []), .reg (.n :: .n :: .call (vb r135) :: .n :: []), .reg (.n :: .n :: []), .reg (.n :: .n :: []), .br false, .reg (.n :: .n :: []), .br true, .br true, .reg (nN 5 (.b true :: .n :: [])), .reg (.n :: .n :: []), .br false, .reg (.n :: [])]) (fr := true) (by kernel_rfl) (an (an (ti (ti trivial)) (an (ti (ti (an e137 (ti trivial)))) (an (an (ti (ti trivial)) (an (ti (ti trivial)) (an (decide_eq_false h138) (an (an (ti (ti trivial)) (an (decide_eq_true h143) trivial)) (an (decide_eq_true h143) e145))))) (an (an (ti (ti trivial)) (an (not_f (not_t (decide_eq_false h146))) trivial)) (an (ti trivial) trivial))))) (ti trivial)) (Wv.refl _)
   ·have e147 := (ti (ti (an (bool_f h144) (an (bool_f h144) (an (bool_f h144) (an (bool_f h144) (ti trivial)))))))
    injection h with h; subst h
    exact fun_ok pm pn Go.Proofs.Try.func57 (r0 := vi 2) (ans := [.reg (.n :: .n :: []), .reg (.n :: .n :: .call (vb r135) :: .n :: []), .reg (.n :: .n :: []), .reg (.n :: .n :: []), .br false, .reg (.n :: .n :: []), .br true, .br true, .reg (.n :: .n :: nS 3 (.b false :: .n :: [])), .reg (.n :: .n :: []), .br true, .reg (.n :: [])]) (fr := true) (by kernel_rfl) (an (an (ti (ti trivial)) (an (ti (ti (an e137 (ti trivial)))) (an (an (ti (ti trivial)) (an (ti (ti trivial)) (an (decide_eq_false h138) (an (an (ti (ti trivial)) (an (decide_eq_true h143) trivial)) (an (decide_eq_true h143) e147))))) (an (ti (ti trivial)) (an (show (!false) = true from (not_t rfl)) (an (ti trivial) trivial)))))) (ti trivial)) (Wv.refl _)
  ·rcases ifs h with ⟨h148, h⟩ | ⟨h148, h⟩
   ·rcases ifs h with ⟨h149, h⟩ | ⟨h149, h⟩
    ·have e150 := (ti (ti (an (an h149 trivial) (an (an h149 trivial) (an (an h149 trivial) (an h149 (ti trivial)))))))
     rcases ifs h with ⟨h151, h⟩ | ⟨h151, h⟩
     ·injection h with h; subst h
      exact fun_ok pm pn Go.Proofs.Try.func57 (r0 := vi 2) (ans := [.reg (.n :: .n :: []), .reg (.n :: .n :: .call (vb r135) :: .n :: []), .reg (.n :: .n :: []), .reg (.n :: .n :: []), .br false, .reg (.n :: .n :: []), .br false, .reg (.n :: .n :: []), .br true, .reg (nN 5 (.b true :: .n :: [])), .reg (.n :: .n :: []), .br true, .reg (.n :: [])]) (fr := true) (by kernel_rfl) (an (an (ti (ti trivial)) (an (ti (ti (an e137 (ti trivial)))) (an (an (ti (ti trivial)) (an (ti (ti trivial)) (an (decide_eq_false h138) (an (an (ti (ti trivial)) (an (decide_eq_false h143) (ti (ti trivial)))) (an (decide_eq_true h148) e150))))) (an (ti (ti trivial)) (an (not_t (not_f (decide_eq_true h151))) (an (ti trivial) trivial)))))) (ti trivial)) (Wv.refl _)
     ·injection h with h; subst h
      exact fun_ok pm pn Go.Proofs.Try.func57 (r0 := vi 0) (ans := [.reg (.n :: .n :: []), .reg (.n :: .n :: .call (vb r135) :: .n :: []), .reg (.n :: .n :: []), .reg (.n :: .n :: []), .br false, .reg (.n :: .n :: []), .br false, .reg (.n :: .n :: []), .br true, .reg (nN 5 (.b true :: .n :: [])), .reg (.n :: .n :: []), .br false, .reg (.n :: [])]) (fr := true) (by kernel_rfl) (an (an (ti (ti trivial)) (an (ti (ti (an e137 (ti trivial)))) (an (an (ti (ti trivial)) (an (ti (ti trivial)) (an (decide_eq_false h138) (an (an (ti (ti trivial)) (an (decide_eq_false h143) (ti (ti trivial)))) (an (decide_eq_true h148) e150))))) (an (an (ti (ti trivial)) (an (not_f (not_t (decide_eq_false h151))) trivial)) (an (ti trivial) trivial))))) (ti trivial)) (Wv.refl _)
    ·have e152 := (ti (ti (an (bool_f h149) (an (bool_f h149) (an (bool_f h149) (an (bool_f h149) (ti trivial)))))))
     injection h with h; subst h
     exact fun_ok pm pn Go.Proofs.Try.func57 (r0 := vi 2) (ans := [.reg (.n :: .n :: []), .reg (.n :: .n :: .call (vb r135) :: .n :: []), .reg (.n :: .n :: []), .reg (.n :: .n :: []), .br false, .reg (.n :: .n :: []), .br false, .reg (.n :: .n :: []), .br true, .reg (.n :: .n :: nS 3 (.b false :: .n :: [])), .reg (.n :: .n :: []), .br true, .reg (.n :: [])]) (fr := true) (by kernel_rfl) (an (an (ti (ti trivial)) (an (ti (ti (an e137 (ti trivial)))) (an (an (ti (ti trivial)) (an (ti (ti trivial)) (an (decide_eq_false h138) (an (an (ti (ti trivial)) (an (decide_eq_false h143) (ti (ti trivial)))) (an (decide_eq_true h148) e152))))) (an (ti (ti trivial)) (an (show (!false) = true from (not_t rfl)) (an (ti trivial) trivial)))))) (ti trivial)) (Wv.refl _)
   ·injection h with h; subst h
    exact fun_ok pm pn Go.Proofs.Try.func57 (r0 := vi 15) (ans := [.reg (.n :: .n :: []), .reg (.n :: .n :: .call (vb r135) :: .n :: []), .reg (.n :: .n :: []), .reg (.n :: .n :: []), .br false, .reg (.n :: .n :: []), .br false, .reg (.n :: .n :: []), .br false, .reg (.n :: [])]) (fr := true) (by kernel_rfl) (an (an (ti (ti trivial)) (an (ti (ti (an e137 (ti trivial)))) (an (ti (ti trivial)) (an (ti (ti trivial)) (an (decide_eq_false h138) (an (an (ti (ti trivial)) (an (decide_eq_false h143) (ti (ti trivial)))) (an (decide_eq_false h148) (an (ti trivial) trivial)))))))) (ti trivial)) (Wv.refl _)
def noptics_CheckElements_l0_0_h (a0 : (List SElement)) (x11 : Int) : VS := ⟨mkA [(9, VV.tr (List.flatMap c_SElement a0) a0.length), (10, vi (a0.length : Int)), (11, vi x11)], [], .nil⟩
def noptics_CheckElements_l0_0_e0 (a0 : (List SElement)) (r : Int) : VS := ⟨mkA [(2, vi r)], [], .nil⟩
def noptics_CheckElements_l0_0_e1 (a0 : (List SElement)) (r : Unit) : VS := ⟨mkA [], [], .nil⟩
def noptics_CheckElements_l0_0 (k : Nat) (a0 : (List SElement)) : Nat → Int → Option (Sum Int Unit)
  | 0, _ => none
  | fuel + 1, x11 => if x11 < (a0.length : Int) then (if 0 ≤ x11 ∧ x11 < (a0.length : Int) then ((noptics_checkElement k (a0.getD x11.toNat default)).bind fun r195 => (if r195 = 0 then (noptics_CheckElements_l0_0 k a0 fuel (w64 (x11 + 1))) else (some (.inl r195)))) else none) else (some (.inr ()))
theorem noptics_CheckElements_l0_0_ok (k : Nat) (a0 : (List SElement)) : ∀ (fuel : Nat) (x11 : Int) (r : Sum Int Unit), noptics_CheckElements_l0_0 k a0 fuel x11 = some r → (match r with | .inl r => VLoop none Go.Proofs.Try.prog (szF Go.Proofs.Try.f15) (bodyOf Go.Proofs.Try.f15 0) (noptics_CheckElements_l0_0_h a0 x11) .ret (noptics_CheckElements_l0_0_e0 a0 r) | .inr r => VLoop none Go.Proofs.Try.prog (szF Go.Proofs.Try.f15) (bodyOf Go.Proofs.Try.f15 0) (noptics_CheckElements_l0_0_h a0 x11) (.exit 0) (noptics_CheckElements_l0_0_e1 a0 r)) := by
 intro fuel
 induction fuel with
 | zero => intro x11 r h; rw [noptics_CheckElements_l0_0.eq_1] at h; cases h
 | succ fuel ih =>
  intro x11 r h
  rw [noptics_CheckElements_l0_0.eq_2] at h
  rcases ifs h with ⟨h192, h⟩ | ⟨h192, h⟩
  ·obtain ⟨h193, h⟩ := ifn h
   have e194 := (show loadL Go.Proofs.Try.prog 113 (x11.toNat * 2) (List.flatMap c_SElement a0) = some (VV.ag (c_SElement (a0.getD x11.toNat default))) from ld_whole ag113 c_SElement 2 sz113 len_c_SElement a0 default h193 (by omega))
   obtain ⟨r195, h196, h⟩ := bs h
   have e197 := (noptics_checkElement_ok k (a0.getD x11.toNat default) _ h196)
   rcases ifs h with ⟨h198, h⟩ | ⟨h198, h⟩
   ·have h2 := ih _ _ h
    obtain ⟨q, hv, hq⟩ := pkR (rd := none) (P := Go.Proofs.Try.prog) (fn := Go.Proofs.Try.f15) (k := 0) (s := (noptics_CheckElements_l0_0_h a0 x11)) (ans := [.reg (.n :: []), .br true, .reg (.n :: .v (VV.ag (c_SElement (a0.getD x11.toNat default))) :: .n :: .n :: []), .reg (.n :: .call (vi r195) :: .n :: []), .reg (.n :: .n :: []), .br false, .reg (.n :: .n :: [])]) (c := ⟨[(9, none), (10, none), (11, none)], [], []⟩) (e := .normal) (s1 := (noptics_CheckElements_l0_0_h a0 (w64 (x11 + 1)))) (an (an (ti trivial) (an (an (decide_eq_true h192) trivial) (an (an (an h193 (an e194 (ti (ti trivial)))) (an (ti (an e197 (ti trivial))) (an (ti (ti trivial)) (an (not_f (decide_eq_true h198)) trivial)))) (ti (ti trivial))))) (ti trivial)) (by kernel_rfl)
    cases r with
    | inl r => exact round_next pm pn hv hq h2
    | inr r =>
     exact round_next pm pn hv hq h2
   ·injection h with h; subst h
    exact round_stop (c := ⟨[(2, none)], [], []⟩) (s1 := (noptics_CheckElements_l0_0_e0 a0 r195)) pm pn (ans := [.reg (.n :: []), .br true, .reg (.n :: .v (VV.ag (c_SElement (a0.getD x11.toNat default))) :: .n :: .n :: []), .reg (.n :: .call (vi r195) :: .n :: []), .reg (.n :: .n :: []), .br true, .reg (.n :: .n :: [])]) (by kernel_rfl) (by intro e; cases e) (an (an (ti trivial) (an (an (decide_eq_true h192) trivial) (an (an h193 (an e194 (ti (ti trivial)))) (an (ti (an e197 (ti trivial))) (an (ti (ti trivial)) (an (not_t (decide_eq_false h198)) (an (ti (ti trivial)) trivial))))))) (ti trivial))
  ·injection h with h; subst h
   exact round_stop (c := ⟨[], [], []⟩) (s1 := (noptics_CheckElements_l0_0_e1 a0 ())) pm pn (ans := [.reg (.n :: []), .br false]) (by kernel_rfl) (by intro e; cases e) (an (an (ti trivial) (an (decide_eq_false h192) trivial)) (ti trivial))
def noptics_CheckElements (k : Nat) (a0 : (List SElement)) : Option Int :=
  if 20 < (a0.length : Int) then (some 8) else ((noptics_CheckElements_l0_0 k a0 k 0).bind fun r200 => (match r200 with | .inl r201 => (some r201) | .inr r202 => (some 0)))
theorem noptics_CheckElements_ok (k : Nat) (a0 : (List SElement)) (r : Int) (h : noptics_CheckElements k a0 = some r) : VC Go.Proofs.Try.prog 15 [VV.tr (List.flatMap c_SElement a0) a0.length] (vi r) := by
 unfold noptics_CheckElements at h
 rcases ifs h with ⟨h177, h⟩ | ⟨h177, h⟩
 ·injection h with h; subst h
  exact fun_ok pm pn Go.Proofs.Try.func15 (r0 := vi 8) (ans := [.reg (.n :: []), .reg (nN 3 []), .br true, .reg (.n :: [])]) (fr := true) (by kernel_rfl) (an (an (ti trivial) (an (ti (ti (ti trivial))) (an (decide_eq_true h177) (an (ti trivial) trivial)))) (ti trivial)) (Wv.refl _)
 ·obtain ⟨r200, h199, h⟩ := bs h
  have hph199 := noptics_CheckElements_l0_0_ok k a0 _ _ _ h199
  cases r200 with
  | inl r201 =>
   dsimp only at h
   have e203 := (an (ti trivial) (VRun.loop hph199))
   injection h with h; subst h
   exact fun_ok pm pn Go.Proofs.Try.func15 (r0 := vi r201) (ans := [.reg (.n :: []), .reg (nN 3 []), .br false, .reg (nN 3 []), .sub ⟨[(9, none), (10, none), (11, none)], [], []⟩ .ret (noptics_CheckElements_l0_0_e0 a0 r201)]) (fr := true) (by kernel_rfl) (an (an (ti trivial) (an (an (ti (ti (ti trivial))) (an (decide_eq_false h177) trivial)) (an (ti (ti (ti trivial))) e203))) (ti trivial)) (Wv.refl _)
  | inr r202 =>
   dsimp only at h
   have e204 := (an (ti trivial) (VRun.loop hph199))
   injection h with h; subst h
   exact fun_ok pm pn Go.Proofs.Try.func15 (r0 := vi 0) (ans := [.reg (.n :: []), .reg (nN 3 []), .br false, .reg (nN 3 []), .sub ⟨[(9, none), (10, none), (11, none)], [], []⟩ (.exit 0) (noptics_CheckElements_l0_0_e1 a0 r202), .reg (.n :: [])]) (fr := true) (by kernel_rfl) (an (an (ti trivial) (an (an (ti (ti (ti trivial))) (an (decide_eq_false h177) trivial)) (an (an (ti (ti (ti trivial))) e204) (an (ti trivial) trivial)))) (ti trivial)) (Wv.refl _)
theorem eqO0_0 (z0 : Int) : VV.ag [vi z0, vi 1] = VV.ag (c_SFrac (⟨z0, 1⟩ : SFrac)) := by first | rfl | (simp only [unfr_vi, List.map_cons, List.map_nil, un_i, unfr_c_SFrac]; done) | (simp only [unfr_vi, List.map_cons, List.map_nil, un_i, unfr_c_SFrac]; rfl) | (simp only [unfr_vi, List.map_cons, List.map_nil, un_i, unfr_c_SFrac, c_SFrac, List.length_cons, List.length_nil, List.length_append]; done)
def noptics_whole (k : Nat) (a0 : Int) : Option SFrac :=
  some (⟨a0, 1⟩ : SFrac)
theorem noptics_whole_ok (k : Nat) (a0 : Int) (r : SFrac) (h : noptics_whole k a0 = some r) : VC Go.Proofs.Try.prog 51 [vi a0] (VV.ag (c_SFrac r)) := by
 unfold noptics_whole at h
 injection h with h; subst h
 exact fun_ok pm pn Go.Proofs.Try.func51 (r0 := VV.ag [vi a0, vi 1]) (ans := [.reg (.n :: []), .reg (nN 3 [])]) (fr := true) (by kernel_rfl) (an (an (ti trivial) (an (ti (ti (ti trivial))) trivial)) (an (ti (ti (ti trivial))) trivial)) (Wv.of_eq (eqO0_0 a0))
def nnumber_size (k : Nat) (a0 : Int) : Option Int :=
  if a0 < 0 then (some (IntKind.u64.wrap (0 - (IntKind.u64.wrap a0)))) else (some (IntKind.u64.wrap a0))
theorem nnumber_size_ok (k : Nat) (a0 : Int) (r : Int) (h : nnumber_size k a0 = some r) : VC Go.Proofs.Try.prog 119 [vi a0] (VV.c (.int .u64 r)) := by
 unfold nnumber_size at h
 rcases ifs h with ⟨h230, h⟩ | ⟨h230, h⟩
 ·injection h with h; subst h
  exact fun_ok pm pn Go.Proofs.Try.func119 (r0 := VV.c (.int .u64 (IntKind.u64.wrap (0 - (IntKind.u64.wrap a0))))) (ans := [.reg (.n :: []), .reg (.n :: .n :: []), .br true, .reg (nN 4 [])]) (fr := true) (by kernel_rfl) (an (an (ti trivial) (an (ti (ti trivial)) (an (decide_eq_true h230) (an (ti (ti (ti (ti trivial)))) trivial)))) (ti trivial)) (Wv.refl _)
 ·injection h with h; subst h
  exact fun_ok pm pn Go.Proofs.Try.func119 (r0 := VV.c (.int .u64 (IntKind.u64.wrap a0))) (ans := [.reg (.n :: []), .reg (.n :: .n :: []), .br false, .reg (nN 3 [])]) (fr := true) (by kernel_rfl) (an (an (ti trivial) (an (an (ti (ti trivial)) (an (decide_eq_false h230) trivial)) (an (ti (ti (ti trivial))) trivial))) (ti trivial)) (Wv.refl _)
def nnumber_divisor_l0_0_h  (x0 : Int) (x1 : Int) : VS := ⟨mkA [(0, VV.c (.int .u64 x0)), (1, VV.c (.int .u64 x1))], [], .nil⟩
def nnumber_divisor_l0_0_e0  (r : Int) : VS := ⟨mkA [(0, VV.c (.int .u64 r))], [], .nil⟩
def nnumber_divisor_l0_0 (k : Nat)  : Nat → Int → Int → Option (Int)
  | 0, _, _ => none
  | fuel + 1, x0, x1 => if x1 = 0 then (some x0) else (if x1 ≠ 0 then (nnumber_divisor_l0_0 k  fuel x1 (x0.tmod x1)) else none)
theorem nnumber_divisor_l0_0_ok (k : Nat)  : ∀ (fuel : Nat) (x0 : Int) (x1 : Int) (r : Int), nnumber_divisor_l0_0 k  fuel x0 x1 = some r → (VLoop none Go.Proofs.Try.prog (szF Go.Proofs.Try.f118) (bodyOf Go.Proofs.Try.f118 0) (nnumber_divisor_l0_0_h  x0 x1) (.exit 0) (nnumber_divisor_l0_0_e0  r)) := by
 intro fuel
 induction fuel with
 | zero => intro x0 x1 r h; rw [nnumber_divisor_l0_0.eq_1] at h; cases h
 | succ fuel ih =>
  intro x0 x1 r h
  rw [nnumber_divisor_l0_0.eq_2] at h
  rcases ifs h with ⟨h250, h⟩ | ⟨h250, h⟩
  ·injection h with h; subst h
   exact round_stop (c := ⟨[(0, none)], [], []⟩) (s1 := (nnumber_divisor_l0_0_e0  x0)) pm pn (ans := [.reg (.n :: .n :: []), .br false]) (by kernel_rfl) (by intro e; cases e) (an (an (ti (ti trivial)) (an (not_f (decide_eq_true h250)) trivial)) (ti trivial))
  ·obtain ⟨h251, h⟩ := ifn h
   have h2 := ih _ _ _ h
   obtain ⟨q, hv, hq⟩ := pkR (rd := none) (P := Go.Proofs.Try.prog) (fn := Go.Proofs.Try.f118) (k := 0) (s := (nnumber_divisor_l0_0_h  x0 x1)) (ans := [.reg (.n :: .n :: []), .br true, .reg (nN 6 [])]) (c := ⟨[(0, none), (1, none)], [], []⟩) (e := .normal) (s1 := (nnumber_divisor_l0_0_h  x1 (x0.tmod x1))) (an (an (an (ti (ti trivial)) (an (not_t (decide_eq_false h250)) trivial)) (ti (ti (ti (an h251 (ti (ti trivial))))))) (ti trivial)) (by kernel_rfl)
   exact round_next pm pn hv hq h2
def nnumber_divisor (k : Nat) (a0 : Int) (a1 : Int) : Option Int :=
  (nnumber_divisor_l0_0 k k a0 a1).bind fun r253 => (some r253)
theorem nnumber_divisor_ok (k : Nat) (a0 : Int) (a1 : Int) (r : Int) (h : nnumber_divisor k a0 a1 = some r) : VC Go.Proofs.Try.prog 118 [VV.c (.int .u64 a0), VV.c (.int .u64 a1)] (VV.c (.int .u64 r)) := by
 unfold nnumber_divisor at h
 obtain ⟨r253, h252, h⟩ := bs h
 have hph252 := nnumber_divisor_l0_0_ok k  _ _ _ _ h252
 have e254 := (an (ti trivial) (VRun.loop hph252))
 injection h with h; subst h
 exact fun_ok pm pn Go.Proofs.Try.func118 (r0 := VV.c (.int .u64 r253)) (ans := [.reg (.n :: []), .sub ⟨[(0, none), (1, none)], [], []⟩ (.exit 0) (nnumber_divisor_l0_0_e0  r253), .reg (.n :: .n :: [])]) (fr := true) (by kernel_rfl) (an (an (ti trivial) (an e254 (an (ti (ti trivial)) trivial))) (ti trivial)) (Wv.refl _)
def arO0_0 (z0 : Int) (z1 : Int) (z2 : Int) : List Ans := (nN 6 (.call (VV.c (.int .u64 z0)) :: .n :: .n :: .call (VV.c (.int .u64 z1)) :: .call (VV.c (.int .u64 z2)) :: .n :: .b false :: []))
def nnumber_CheckFrac (k : Nat) (a0 : SFrac) : Option Int :=
  if a0.Den ≤ 0 then (some 3) else ((nnumber_size k a0.Num).bind fun r267 => ((nnumber_size k a0.Den).bind fun r270 => ((nnumber_divisor k r267 r270).bind fun r273 => (if r273 = 1 then (if 1000000000 < r267 then (some 2) else (if 1000000000 < a0.Den then (some 2) else (some 0))) else (some 3)))))
theorem nnumber_CheckFrac_ok (k : Nat) (a0 : SFrac) (r : Int) (h : nnumber_CheckFrac k a0 = some r) : VC Go.Proofs.Try.prog 111 [VV.ag (c_SFrac a0)] (vi r) := by
 unfold nnumber_CheckFrac at h
 rcases ifs h with ⟨h265, h⟩ | ⟨h265, h⟩
 ·have e266 := (ti (ti (ti (ti (an (decide_eq_true h265) (an (decide_eq_true h265) (an (decide_eq_true h265) (an (decide_eq_true h265) (an (decide_eq_true h265) (an (decide_eq_true h265) (an (decide_eq_true h265) (an (decide_eq_true h265) (an (decide_eq_true h265) trivial)))))))))))))
  injection h with h; subst h
  exact fun_ok pm pn Go.Proofs.Try.func111 (r0 := vi 3) (ans := [.reg (.n :: .n :: []), .reg (nN 4 (nS 8 (.b true :: []))), .br true, .reg (.n :: [])]) (fr := true) (by kernel_rfl) (an (an (ti (ti trivial)) (an e266 (an rt (an (ti trivial) trivial)))) (ti trivial)) (Wv.refl _)
 ·obtain ⟨r267, h268, h⟩ := bs h
  have e269 := (an (decide_eq_false h265) (nnumber_size_ok k a0.Num _ h268))
  obtain ⟨r270, h271, h⟩ := bs h
  have e272 := (an (decide_eq_false h265) (nnumber_size_ok k a0.Den _ h271))
  obtain ⟨r273, h274, h⟩ := bs h
  have e275 := (an (decide_eq_false h265) (nnumber_divisor_ok k r267 r270 _ h274))
  have e276 := (ti (ti (ti (ti (an (an (decide_eq_false h265) trivial) (an (an (decide_eq_false h265) trivial) (an e269 (an (an (decide_eq_false h265) trivial) (an (an (decide_eq_false h265) trivial) (an e272 (an e275 (an (an (decide_eq_false h265) trivial) (an (decide_eq_false h265) trivial)))))))))))))
  rcases ifs h with ⟨h277, h⟩ | ⟨h277, h⟩
  ·rcases ifs h with ⟨h279, h⟩ | ⟨h279, h⟩
   ·have e280 := (ti (ti (an (nnumber_size_ok k a0.Num _ h268) (ti (ti (an (decide_eq_true h279) (an (decide_eq_true h279) (an (decide_eq_true h279) (an (decide_eq_true h279) trivial)))))))))
    injection h with h; subst h
    exact fun_ok pm pn Go.Proofs.Try.func111 (r0 := vi 2) (ans := [.reg (.n :: .n :: []), .reg (arO0_0 r267 r270 r273), .br false, .reg (.n :: .n :: .call (VV.c (.int .u64 r267)) :: .n :: .n :: nS 3 (.b true :: [])), .br true, .reg (.n :: [])]) (fr := true) (by kernel_rfl) (an (an (ti (ti trivial)) (an (an e276 (an (not_f (decide_eq_true h277)) trivial)) (an e280 (an rt (an (ti trivial) trivial))))) (ti trivial)) (Wv.refl _)
   ·have e281 := (ti (ti (an (nnumber_size_ok k a0.Num _ h268) (ti (ti (an (an (decide_eq_false h279) trivial) (an (an (decide_eq_false h279) trivial) (an (an (decide_eq_false h279) trivial) (an (decide_eq_false h279) trivial)))))))))
    rcases ifs h with ⟨h282, h⟩ | ⟨h282, h⟩
    ·injection h with h; subst h
     exact fun_ok pm pn Go.Proofs.Try.func111 (r0 := vi 2) (ans := [.reg (.n :: .n :: []), .reg (arO0_0 r267 r270 r273), .br false, .reg (.n :: .n :: .call (VV.c (.int .u64 r267)) :: nN 5 (.b false :: [])), .br true, .reg (.n :: [])]) (fr := true) (by kernel_rfl) (an (an (ti (ti trivial)) (an (an e276 (an (not_f (decide_eq_true h277)) trivial)) (an e281 (an (decide_eq_true h282) (an (ti trivial) trivial))))) (ti trivial)) (Wv.refl _)
    ·injection h with h; subst h
     exact fun_ok pm pn Go.Proofs.Try.func111 (r0 := vi 0) (ans := [.reg (.n :: .n :: []), .reg (arO0_0 r267 r270 r273), .br false, .reg (.n :: .n :: .call (VV.c (.int .u64 r267)) :: nN 5 (.b false :: [])), .br false, .reg (.n :: [])]) (fr := true) (by kernel_rfl) (an (an (ti (ti trivial)) (an (an e276 (an (not_f (decide_eq_true h277)) trivial)) (an (an e281 (an (decide_eq_false h282) trivial)) (an (ti trivial) trivial)))) (ti trivial)) (Wv.refl _)
  ·injection h with h; subst h
   exact fun_ok pm pn Go.Proofs.Try.func111 (r0 := vi 3) (ans := [.reg (.n :: .n :: []), .reg (arO0_0 r267 r270 r273), .br true, .reg (.n :: [])]) (fr := true) (by kernel_rfl) (an (an (ti (ti trivial)) (an e276 (an (not_t (decide_eq_false h277)) (an (ti trivial) trivial)))) (ti trivial)) (Wv.refl _)
def nnumber_checkFracs_l0_0_h (a0 : (List SFrac)) (x8 : Int) : VS := ⟨mkA [(6, VV.tr (List.flatMap c_SFrac a0) a0.length), (7, vi (a0.length : Int)), (8, vi x8)], [], .nil⟩
def nnumber_checkFracs_l0_0_e0 (a0 : (List SFrac)) (r : Int) : VS := ⟨mkA [(2, vi r)], [], .nil⟩
def nnumber_checkFracs_l0_0_e1 (a0 : (List SFrac)) (r : Unit) : VS := ⟨mkA [], [], .nil⟩
def nnumber_checkFracs_l0_0 (k : Nat) (a0 : (List SFrac)) : Nat → Int → Option (Sum Int Unit)
  | 0, _ => none
  | fuel + 1, x8 => if x8 < (a0.length : Int) then (if 0 ≤ x8 ∧ x8 < (a0.length : Int) then ((nnumber_CheckFrac k (a0.getD x8.toNat default)).bind fun r324 => (if r324 = 0 then (nnumber_checkFracs_l0_0 k a0 fuel (w64 (x8 + 1))) else (some (.inl r324)))) else none) else (some (.inr ()))
theorem nnumber_checkFracs_l0_0_ok (k : Nat) (a0 : (List SFrac)) : ∀ (fuel : Nat) (x8 : Int) (r : Sum Int Unit), nnumber_checkFracs_l0_0 k a0 fuel x8 = some r → (match r with | .inl r => VLoop none Go.Proofs.Try.prog (szF Go.Proofs.Try.f116) (bodyOf Go.Proofs.Try.f116 0) (nnumber_checkFracs_l0_0_h a0 x8) .ret (nnumber_checkFracs_l0_0_e0 a0 r) | .inr r => VLoop none Go.Proofs.Try.prog (szF Go.Proofs.Try.f116) (bodyOf Go.Proofs.Try.f116 0) (nnumber_checkFracs_l0_0_h a0 x8) (.exit 0) (nnumber_checkFracs_l0_0_e1 a0 r)) := by
 intro fuel
 induction fuel with
 | zero => intro x8 r h; rw [nnumber_checkFracs_l0_0.eq_1] at h; cases h
 | succ fuel ih =>
  intro x8 r h
  rw [nnumber_checkFracs_l0_0.eq_2] at h
  rcases ifs h with ⟨h321, h⟩ | ⟨h321, h⟩
  ·obtain ⟨h322, h⟩ := ifn h
   have e323 := (show loadL Go.Proofs.Try.prog 26 (x8.toNat * 2) (List.flatMap c_SFrac a0) = some (VV.ag (c_SFrac (a0.getD x8.toNat default))) from ld_whole ag26 c_SFrac 2 sz26 len_c_SFrac a0 default h322 (by omega))
   obtain ⟨r324, h325, h⟩ := bs h
   have e326 := (nnumber_CheckFrac_ok k (a0.getD x8.toNat default) _ h325)
   rcases ifs h with ⟨h327, h⟩ | ⟨h327, h⟩
   ·have h2 := ih _ _ h
    obtain ⟨q, hv, hq⟩ := pkR (rd := none) (P := Go.Proofs.Try.prog) (fn := Go.Proofs.Try.f116) (k := 0) (s := (nnumber_checkFracs_l0_0_h a0 x8)) (ans := [.reg (.n :: []), .br true, .reg (.n :: .v (VV.ag (c_SFrac (a0.getD x8.toNat default))) :: .n :: .n :: []), .reg (.n :: .call (vi r324) :: .n :: []), .reg (.n :: .n :: []), .br false, .reg (.n :: .n :: [])]) (c := ⟨[(6, none), (7, none), (8, none)], [], []⟩) (e := .normal) (s1 := (nnumber_checkFracs_l0_0_h a0 (w64 (x8 + 1)))) (an (an (ti trivial) (an (an (decide_eq_true h321) trivial) (an (an (an h322 (an e323 (ti (ti trivial)))) (an (ti (an e326 (ti trivial))) (an (ti (ti trivial)) (an (not_f (decide_eq_true h327)) trivial)))) (ti (ti trivial))))) (ti trivial)) (by kernel_rfl)
    cases r with
    | inl r => exact round_next pm pn hv hq h2
    | inr r =>
     exact round_next pm pn hv hq h2
   ·injection h with h; subst h
    exact round_stop (c := ⟨[(2, none)], [], []⟩) (s1 := (nnumber_checkFracs_l0_0_e0 a0 r324)) pm pn (ans := [.reg (.n :: []), .br true, .reg (.n :: .v (VV.ag (c_SFrac (a0.getD x8.toNat default))) :: .n :: .n :: []), .reg (.n :: .call (vi r324) :: .n :: []), .reg (.n :: .n :: []), .br true, .reg (.n :: .n :: [])]) (by kernel_rfl) (by intro e; cases e) (an (an (ti trivial) (an (an (decide_eq_true h321) trivial) (an (an h322 (an e323 (ti (ti trivial)))) (an (ti (an e326 (ti trivial))) (an (ti (ti trivial)) (an (not_t (decide_eq_false h327)) (an (ti (ti trivial)) trivial))))))) (ti trivial))
  ·injection h with h; subst h
   exact round_stop (c := ⟨[], [], []⟩) (s1 := (nnumber_checkFracs_l0_0_e1 a0 ())) pm pn (ans := [.reg (.n :: []), .br false]) (by kernel_rfl) (by intro e; cases e) (an (an (ti trivial) (an (decide_eq_false h321) trivial)) (ti trivial))
def nnumber_checkFracs (k : Nat) (a0 : (List SFrac)) : Option Int :=
  (nnumber_checkFracs_l0_0 k a0 k 0).bind fun r329 => (match r329 with | .inl r330 => (some r330) | .inr r331 => (some 0))
theorem nnumber_checkFracs_ok (k : Nat) (a0 : (List SFrac)) (r : Int) (h : nnumber_checkFracs k a0 = some r) : VC Go.Proofs.Try.prog 116 [VV.tr (List.flatMap c_SFrac a0) a0.length] (vi r) := by
 unfold nnumber_checkFracs at h
 obtain ⟨r329, h328, h⟩ := bs h
 have hph328 := nnumber_checkFracs_l0_0_ok k a0 _ _ _ h328
 cases r329 with
 | inl r330 =>
  dsimp only at h
  have e332 := (an (ti trivial) (VRun.loop hph328))
  injection h with h; subst h
  exact fun_ok pm pn Go.Proofs.Try.func116 (r0 := vi r330) (ans := [.reg (.n :: []), .reg (nN 3 []), .sub ⟨[(6, none), (7, none), (8, none)], [], []⟩ .ret (nnumber_checkFracs_l0_0_e0 a0 r330)]) (fr := true) (by kernel_rfl) (an (an (ti trivial) (an (ti (ti (ti trivial))) e332)) (ti trivial)) (Wv.refl _)
 | inr r331 =>
  dsimp only at h
  have e333 := (an (ti trivial) (VRun.loop hph328))
  injection h with h; subst h
  exact fun_ok pm pn Go.Proofs.Try.func116 (r0 := vi 0) (ans := [.reg (.n :: []), .reg (nN 3 []), .sub ⟨[(6, none), (7, none), (8, none)], [], []⟩ (.exit 0) (nnumber_checkFracs_l0_0_e1 a0 r331), .reg (.n :: [])]) (fr := true) (by kernel_rfl) (an (an (ti trivial) (an (an (ti (ti (ti trivial))) e333) (an (ti trivial) trivial))) (ti trivial)) (Wv.refl _)
theorem eqO0_1 (z0 : SFrac) (z1 : SFrac) : [VV.tr (List.flatMap c_SFrac ([z0, z1] : List SFrac)) (([z0, z1] : List SFrac).length)] = [VV.tr [vi z0.Num, vi z0.Den, vi z1.Num, vi z1.Den] 2] := by first | rfl | (simp only [unfr_vi, List.map_cons, List.map_nil, un_i, un_tr, List.length_cons, List.length_nil, unfr_c_SFrac]; done) | (simp only [unfr_vi, List.map_cons, List.map_nil, un_i, un_tr, List.length_cons, List.length_nil, unfr_c_SFrac]; rfl) | (simp only [unfr_vi, List.map_cons, List.map_nil, un_i, un_tr, List.length_cons, List.length_nil, unfr_c_SFrac, c_SFrac, List.length_cons, List.length_nil, List.length_append]; done)
theorem eqO0_2 (z0 : Int) (z1 : Int) (z2 : Int) : [VV.ag (c_SFrac (⟨w64 ((w64 (0 - z0)).tdiv (w64 z1)), w64 ((w64 (0 - z2)).tdiv (w64 z1))⟩ : SFrac))] = [VV.ag [vi (w64 ((w64 (0 - z0)).tdiv (w64 z1))), vi (w64 ((w64 (0 - z2)).tdiv (w64 z1)))]] := by first | rfl | (simp only [unfr_vi, List.map_cons, List.map_nil, un_i, unfr_c_SFrac]; done) | (simp only [unfr_vi, List.map_cons, List.map_nil, un_i, unfr_c_SFrac]; rfl) | (simp only [unfr_vi, List.map_cons, List.map_nil, un_i, unfr_c_SFrac, c_SFrac, List.length_cons, List.length_nil, List.length_append]; done)
theorem eqO0_3 (z0 : Int) (z1 : Int) (z2 : Int) : [VV.ag (c_SFrac (⟨w64 (z0.tdiv (w64 z1)), w64 (z2.tdiv (w64 z1))⟩ : SFrac))] = [VV.ag [vi (w64 (z0.tdiv (w64 z1))), vi (w64 (z2.tdiv (w64 z1)))]] := by first | rfl | (simp only [unfr_vi, List.map_cons, List.map_nil, un_i, unfr_c_SFrac]; done) | (simp only [unfr_vi, List.map_cons, List.map_nil, un_i, unfr_c_SFrac]; rfl) | (simp only [unfr_vi, List.map_cons, List.map_nil, un_i, unfr_c_SFrac, c_SFrac, List.length_cons, List.length_nil, List.length_append]; done)
def arO0_1 (z0 : Int) (z1 : Int) (z2 : Int) : List Ans := (.n :: .call (VV.c (.int .u64 z0)) :: .n :: .call (VV.c (.int .u64 z1)) :: .call (VV.c (.int .u64 z2)) :: .n :: .n :: [])
theorem eqO0_4 (z0 : Int) (z1 : Int) (z2 : Int) : VV.tu [VV.ag [vi (w64 ((w64 (0 - z0)).tdiv (w64 z1))), vi (w64 ((w64 (0 - z2)).tdiv (w64 z1)))], vi 0] = VV.tu [VV.ag (c_SFrac (⟨w64 ((w64 (0 - z0)).tdiv (w64 z1)), w64 ((w64 (0 - z2)).tdiv (w64 z1))⟩ : SFrac)), vi 0] := by first | rfl | (simp only [unfr_vi, List.map_cons, List.map_nil, un_i, unfr_c_SFrac]; done) | (simp only [unfr_vi, List.map_cons, List.map_nil, un_i, unfr_c_SFrac]; rfl) | (simp only [unfr_vi, List.map_cons, List.map_nil, un_i, unfr_c_SFrac, c_SFrac, List.length_cons, List.length_nil, List.length_append]; done)
theorem eqO0_5  : VV.tu [VV.ag [vi 0, vi 0], vi 8] = VV.tu [VV.ag (c_SFrac (⟨0, 0⟩ : SFrac)), vi 8] := by first | rfl | (simp only [unfr_vi, List.map_cons, List.map_nil, un_i, unfr_c_SFrac]; done) | (simp only [unfr_vi, List.map_cons, List.map_nil, un_i, unfr_c_SFrac]; rfl) | (simp only [unfr_vi, List.map_cons, List.map_nil, un_i, unfr_c_SFrac, c_SFrac, List.length_cons, List.length_nil, List.length_append]; done)
theorem eqO0_6 (z0 : Int) (z1 : Int) (z2 : Int) : VV.tu [VV.ag [vi (w64 (z0.tdiv (w64 z1))), vi (w64 (z2.tdiv (w64 z1)))], vi 0] = VV.tu [VV.ag (c_SFrac (⟨w64 (z0.tdiv (w64 z1)), w64 (z2.tdiv (w64 z1))⟩ : SFrac)), vi 0] := by first | rfl | (simp only [unfr_vi, List.map_cons, List.map_nil, un_i, unfr_c_SFrac]; done) | (simp only [unfr_vi, List.map_cons, List.map_nil, un_i, unfr_c_SFrac]; rfl) | (simp only [unfr_vi, List.map_cons, List.map_nil, un_i, unfr_c_SFrac, c_SFrac, List.length_cons, List.length_nil, List.length_append]; done)
def nnumber_lowest (k : Nat) (a0 : Int) (a1 : Int) : Option (SFrac × Int) :=
  if a1 < 0 then ((nnumber_size k (w64 (0 - a0))).bind fun r368 => ((nnumber_size k (w64 (0 - a1))).bind fun r371 => ((nnumber_divisor k r368 r371).bind fun r374 => (if (w64 r374) ≠ 0 then ((nnumber_CheckFrac k (⟨w64 ((w64 (0 - a0)).tdiv (w64 r374)), w64 ((w64 (0 - a1)).tdiv (w64 r374))⟩ : SFrac)).bind fun r379 => (if r379 = 0 then (some ((⟨w64 ((w64 (0 - a0)).tdiv (w64 r374)), w64 ((w64 (0 - a1)).tdiv (w64 r374))⟩ : SFrac), 0)) else (some ((⟨0, 0⟩ : SFrac), 8)))) else none)))) else ((nnumber_size k a0).bind fun r383 => ((nnumber_size k a1).bind fun r385 => ((nnumber_divisor k r383 r385).bind fun r387 => (if (w64 r387) ≠ 0 then ((nnumber_CheckFrac k (⟨w64 (a0.tdiv (w64 r387)), w64 (a1.tdiv (w64 r387))⟩ : SFrac)).bind fun r392 => (if r392 = 0 then (some ((⟨w64 (a0.tdiv (w64 r387)), w64 (a1.tdiv (w64 r387))⟩ : SFrac), 0)) else (some ((⟨0, 0⟩ : SFrac), 8)))) else none))))
theorem nnumber_lowest_ok (k : Nat) (a0 : Int) (a1 : Int) (r : (SFrac × Int)) (h : nnumber_lowest k a0 a1 = some r) : VC Go.Proofs.Try.prog 117 [vi a0, vi a1] (VV.tu [VV.ag (c_SFrac r.1), vi r.2]) := by
 unfold nnumber_lowest at h
 rcases ifs h with ⟨h367, h⟩ | ⟨h367, h⟩
 ·obtain ⟨r368, h369, h⟩ := bs h
  have e370 := (nnumber_size_ok k (w64 (0 - a0)) _ h369)
  obtain ⟨r371, h372, h⟩ := bs h
  have e373 := (nnumber_size_ok k (w64 (0 - a1)) _ h372)
  obtain ⟨r374, h375, h⟩ := bs h
  have e376 := (ti (an e370 (ti (an e373 (an (nnumber_divisor_ok k r368 r371 _ h375) (ti (ti trivial)))))))
  obtain ⟨h377, h⟩ := ifn h
  have e378 := (ti (ti (an h377 (ti (ti (an h377 (ti (ti (ti trivial)))))))))
  obtain ⟨r379, h380, h⟩ := bs h
  have e381 := (VC.args (nnumber_CheckFrac_ok k (⟨w64 ((w64 (0 - a0)).tdiv (w64 r374)), w64 ((w64 (0 - a1)).tdiv (w64 r374))⟩ : SFrac) _ h380) (eqO0_2 a0 r374 a1))
  rcases ifs h with ⟨h382, h⟩ | ⟨h382, h⟩
  ·injection h with h; subst h
   exact fun_ok pm pn Go.Proofs.Try.func117 (r0 := VV.tu [VV.ag [vi (w64 ((w64 (0 - a0)).tdiv (w64 r374))), vi (w64 ((w64 (0 - a1)).tdiv (w64 r374)))], vi 0]) (ans := [.reg (.n :: .n :: []), .reg (.n :: .n :: []), .br true, .reg (nN 6 []), .reg (arO0_1 r368 r371 r374), .reg (nN 9 []), .reg (.n :: .call (vi r379) :: .n :: []), .br false, .reg (nN 3 [])]) (fr := true) (by kernel_rfl) (an (an (ti (ti trivial)) (an (an (ti (ti trivial)) (an (decide_eq_true h367) (ti (ti (ti (ti (ti (ti trivial)))))))) (an e376 (an e378 (an (an (ti (an e381 (ti trivial))) (an (not_f (decide_eq_true h382)) trivial)) (an (ti (ti (ti trivial))) trivial)))))) (an (ti (ti (ti trivial))) (ti trivial))) (Wv.of_eq (eqO0_4 a0 r374 a1))
  ·injection h with h; subst h
   exact fun_ok pm pn Go.Proofs.Try.func117 (r0 := VV.tu [VV.ag [vi 0, vi 0], vi 8]) (ans := [.reg (.n :: .n :: []), .reg (.n :: .n :: []), .br true, .reg (nN 6 []), .reg (arO0_1 r368 r371 r374), .reg (nN 9 []), .reg (.n :: .call (vi r379) :: .n :: []), .br true, .reg (nN 3 [])]) (fr := true) (by kernel_rfl) (an (an (ti (ti trivial)) (an (an (ti (ti trivial)) (an (decide_eq_true h367) (ti (ti (ti (ti (ti (ti trivial)))))))) (an e376 (an e378 (an (ti (an e381 (ti trivial))) (an (not_t (decide_eq_false h382)) (an (ti (ti (ti trivial))) trivial))))))) (an (ti (ti (ti trivial))) (ti trivial))) (Wv.of_eq eqO0_5)
 ·obtain ⟨r383, h384, h⟩ := bs h
  obtain ⟨r385, h386, h⟩ := bs h
  obtain ⟨r387, h388, h⟩ := bs h
  have e389 := (ti (an (nnumber_size_ok k a0 _ h384) (ti (an (nnumber_size_ok k a1 _ h386) (an (nnumber_divisor_ok k r383 r385 _ h388) (ti (ti trivial)))))))
  obtain ⟨h390, h⟩ := ifn h
  have e391 := (ti (ti (an h390 (ti (ti (an h390 (ti (ti (ti trivial)))))))))
  obtain ⟨r392, h393, h⟩ := bs h
  have e394 := (VC.args (nnumber_CheckFrac_ok k (⟨w64 (a0.tdiv (w64 r387)), w64 (a1.tdiv (w64 r387))⟩ : SFrac) _ h393) (eqO0_3 a0 r387 a1))
  rcases ifs h with ⟨h395, h⟩ | ⟨h395, h⟩
  ·injection h with h; subst h
   exact fun_ok pm pn Go.Proofs.Try.func117 (r0 := VV.tu [VV.ag [vi (w64 (a0.tdiv (w64 r387))), vi (w64 (a1.tdiv (w64 r387)))], vi 0]) (ans := [.reg (.n :: .n :: []), .reg (.n :: .n :: []), .br false, .reg (arO0_1 r383 r385 r387), .reg (nN 9 []), .reg (.n :: .call (vi r392) :: .n :: []), .br false, .reg (nN 3 [])]) (fr := true) (by kernel_rfl) (an (an (ti (ti trivial)) (an (an (ti (ti trivial)) (an (decide_eq_false h367) trivial)) (an e389 (an e391 (an (an (ti (an e394 (ti trivial))) (an (not_f (decide_eq_true h395)) trivial)) (an (ti (ti (ti trivial))) trivial)))))) (an (ti (ti (ti trivial))) (ti trivial))) (Wv.of_eq (eqO0_6 a0 r387 a1))
  ·injection h with h; subst h
   exact fun_ok pm pn Go.Proofs.Try.func117 (r0 := VV.tu [VV.ag [vi 0, vi 0], vi 8]) (ans := [.reg (.n :: .n :: []), .reg (.n :: .n :: []), .br false, .reg (arO0_1 r383 r385 r387), .reg (nN 9 []), .reg (.n :: .call (vi r392) :: .n :: []), .br true, .reg (nN 3 [])]) (fr := true) (by kernel_rfl) (an (an (ti (ti trivial)) (an (an (ti (ti trivial)) (an (decide_eq_false h367) trivial)) (an e389 (an e391 (an (ti (an e394 (ti trivial))) (an (not_t (decide_eq_false h395)) (an (ti (ti (ti trivial))) trivial))))))) (an (ti (ti (ti trivial))) (ti trivial))) (Wv.of_eq eqO0_5)
theorem eqO0_7 (z0 : Int) : VV.tu [VV.ag [vi 0, vi 0], vi z0] = VV.tu [VV.ag (c_SFrac (⟨0, 0⟩ : SFrac)), vi z0] := by first | rfl | (simp only [unfr_vi, List.map_cons, List.map_nil, un_i, unfr_c_SFrac]; done) | (simp only [unfr_vi, List.map_cons, List.map_nil, un_i, unfr_c_SFrac]; rfl) | (simp only [unfr_vi, List.map_cons, List.map_nil, un_i, unfr_c_SFrac, c_SFrac, List.length_cons, List.length_nil, List.length_append]; done)
def nnumber_Mul (k : Nat) (a0 : SFrac) (a1 : SFrac) : Option (SFrac × Int) :=
  (nnumber_checkFracs k ([a0, a1] : List SFrac)).bind fun r400 => (if r400 = 0 then ((nnumber_lowest k (w64 (a0.Num * a1.Num)) (w64 (a0.Den * a1.Den))).bind fun r404 => (some (r404.1, r404.2))) else (some ((⟨0, 0⟩ : SFrac), r400)))
theorem nnumber_Mul_ok (k : Nat) (a0 : SFrac) (a1 : SFrac) (r : (SFrac × Int)) (h : nnumber_Mul k a0 a1 = some r) : VC Go.Proofs.Try.prog 107 [VV.ag (c_SFrac a0), VV.ag (c_SFrac a1)] (VV.tu [VV.ag (c_SFrac r.1), vi r.2]) := by
 unfold nnumber_Mul at h
 obtain ⟨r400, h401, h⟩ := bs h
 have e402 := (VC.args (nnumber_checkFracs_ok k ([a0, a1] : List SFrac) _ h401) (eqO0_1 a0 a1))
 rcases ifs h with ⟨h403, h⟩ | ⟨h403, h⟩
 ·obtain ⟨r404, h405, h⟩ := bs h
  have e406 := (nnumber_lowest_ok k (w64 (a0.Num * a1.Num)) (w64 (a0.Den * a1.Den)) _ h405)
  have e407 := (ti (ti (ti (ti (ti (ti (ti (ti (ti (ti (an e406 (ti (ti (ti (ti trivial)))))))))))))))
  injection h with h; subst h
  exact fun_ok pm pn Go.Proofs.Try.func107 (r0 := VV.tu [VV.ag (c_SFrac r404.1), vi r404.2]) (ans := [.reg (nN 4 []), .reg (.n :: .n :: .v VV.any :: .call (vi r400) :: .n :: []), .reg (.n :: .n :: []), .br false, .reg (nN 10 (.call (VV.tu [VV.ag (c_SFrac r404.1), vi r404.2]) :: nN 4 []))]) (fr := true) (by kernel_rfl) (an (an (ti (ti (ti (ti trivial)))) (an (an (ti (ti (ti (an e402 (ti trivial))))) (an (ti (ti trivial)) (an (not_f (decide_eq_true h403)) trivial))) (an e407 trivial))) (an (ti (ti (ti trivial))) (ti trivial))) (Wv.refl _)
 ·injection h with h; subst h
  exact fun_ok pm pn Go.Proofs.Try.func107 (r0 := VV.tu [VV.ag [vi 0, vi 0], vi r400]) (ans := [.reg (nN 4 []), .reg (.n :: .n :: .v VV.any :: .call (vi r400) :: .n :: []), .reg (.n :: .n :: []), .br true, .reg (nN 4 [])]) (fr := true) (by kernel_rfl) (an (an (ti (ti (ti (ti trivial)))) (an (ti (ti (ti (an e402 (ti trivial))))) (an (ti (ti trivial)) (an (not_t (decide_eq_false h403)) (an (ti (ti (ti (ti trivial)))) trivial))))) (an (ti (ti (ti trivial))) (ti trivial))) (Wv.of_eq (eqO0_7 r400))
theorem eqO0_8  : VV.ag [vi 0, vi 0] = VV.ag (c_SFrac (⟨0, 0⟩ : SFrac)) := by first | rfl | (simp only [unfr_vi, List.map_cons, List.map_nil, un_i, unfr_c_SFrac]; done) | (simp only [unfr_vi, List.map_cons, List.map_nil, un_i, unfr_c_SFrac]; rfl) | (simp only [unfr_vi, List.map_cons, List.map_nil, un_i, unfr_c_SFrac, c_SFrac, List.length_cons, List.length_nil, List.length_append]; done)
def n_optics_way_step_c1_number_Mul (k : Nat) (a0 : Sway) (a1 : Unit) (a2 : SFrac) (a3 : SFrac) : Option (SFrac × Sway) :=
  if a0.failed = 0 then ((nnumber_Mul k a2 a3).bind fun r412 => (some (r412.1, (⟨r412.2⟩ : Sway)))) else (some ((⟨0, 0⟩ : SFrac), a0))
theorem n_optics_way_step_c1_number_Mul_ok (k : Nat) (a0 : Sway) (a1 : Unit) (a2 : SFrac) (a3 : SFrac) (r : (SFrac × Sway)) (h : n_optics_way_step_c1_number_Mul k a0 a1 a2 a3 = some r) : VM Go.Proofs.Try.prog 103 [VV.pt 0 0, VV.fn 107 [], VV.ag (c_SFrac a2), VV.ag (c_SFrac a3)] [⟨true, bigH, [vi a0.failed]⟩] (VV.ag (c_SFrac r.1)) [⟨true, bigH, [vi r.2.failed]⟩] := by
 unfold n_optics_way_step_c1_number_Mul at h
 rcases ifs h with ⟨h411, h⟩ | ⟨h411, h⟩
 ·obtain ⟨r412, h413, h⟩ := bs h
  have e414 := (ti (ti (ti (an (nnumber_Mul_ok k a2 a3 _ h413) (ti (ti (ti (ti (ti (ti trivial))))))))))
  injection h with h; subst h
  exact fun_okM pm pn Go.Proofs.Try.func103 (L := [⟨true, bigH, [vi a0.failed]⟩]) (r0 := VV.ag (c_SFrac r412.1)) (ans := [.reg (nN 3 []), .reg (nN 5 []), .br false, .reg (nN 3 (.call (VV.tu [VV.ag (c_SFrac r412.1), vi r412.2]) :: nN 6 [])), .reg (nN 5 []), .reg (.n :: .n :: [])]) (fr := true) (by kernel_rfl) (an (an (ti (ti (ti trivial))) (an (an (ti (ti (ti (ti (ti trivial))))) (an (not_f (decide_eq_true h411)) trivial)) (an e414 (an (ti (ti (ti (ti (ti trivial))))) (an (ti (ti trivial)) trivial))))) (an (an (ti (ti (ti trivial))) trivial) (an (an (ti trivial) trivial) (show okStill [⟨true, bigH, [vi a0.failed]⟩] from ⟨(fun h => nomatch h), trivial⟩)))) (Wv.refl _) rfl
 ·injection h with h; subst h
  exact fun_okM pm pn Go.Proofs.Try.func103 (L := [⟨true, bigH, [vi a0.failed]⟩]) (r0 := VV.ag [vi 0, vi 0]) (ans := [.reg (nN 3 []), .reg (nN 5 []), .br true, .reg (.n :: .n :: [])]) (fr := true) (by kernel_rfl) (an (an (ti (ti (ti trivial))) (an (ti (ti (ti (ti (ti trivial))))) (an (not_t (decide_eq_false h411)) (an (ti (ti trivial)) trivial)))) (an (an (ti (ti (ti trivial))) trivial) (an (an (ti trivial) trivial) (show okStill [⟨true, bigH, [vi a0.failed]⟩] from ⟨(fun h => nomatch h), trivial⟩)))) (Wv.of_eq eqO0_8) rfl
def n_optics_way_times (k : Nat) (a0 : Sway) (a1 : SFrac) (a2 : SFrac) : Option (SFrac × Sway) :=
  (n_optics_way_step_c1_number_Mul k a0 () a1 a2).bind fun r418 => (some (r418.1, r418.2))
theorem n_optics_way_times_ok (k : Nat) (a0 : Sway) (a1 : SFrac) (a2 : SFrac) (r : (SFrac × Sway)) (h : n_optics_way_times k a0 a1 a2 = some r) : VM Go.Proofs.Try.prog 63 [VV.pt 0 0, VV.ag (c_SFrac a1), VV.ag (c_SFrac a2)] [⟨true, bigH, [vi a0.failed]⟩] (VV.ag (c_SFrac r.1)) [⟨true, bigH, [vi r.2.failed]⟩] := by
 unfold n_optics_way_times at h
 obtain ⟨r418, h419, h⟩ := bs h
 have e420 := (an (n_optics_way_step_c1_number_Mul_ok k a0 () a1 a2 _ h419) (an (ti trivial) (ti trivial)))
 injection h with h; subst h
 exact fun_okM pm pn Go.Proofs.Try.func63 (L := [⟨true, bigH, [vi a0.failed]⟩]) (r0 := VV.ag (c_SFrac r418.1)) (ans := [.reg (nN 3 []), .reg (nN 3 (.mod1 0 (VV.ag (c_SFrac r418.1)) ⟨true, bigH, [vi r418.2.failed]⟩ :: .n :: []))]) (fr := true) (by kernel_rfl) (an (an (ti (ti (ti trivial))) (an (ti (ti (ti (an e420 (ti trivial))))) trivial)) (an (an (ti (ti (ti trivial))) trivial) (an (an (ti trivial) trivial) (show okStill [⟨true, bigH, [vi a0.failed]⟩] from ⟨(fun h => nomatch h), trivial⟩)))) (Wv.refl _) rfl
def nnumber_Add (k : Nat) (a0 : SFrac) (a1 : SFrac) : Option (SFrac × Int) :=
  (nnumber_checkFracs k ([a0, a1] : List SFrac)).bind fun r433 => (if r433 = 0 then ((nnumber_lowest k (w64 ((w64 (a0.Num * a1.Den)) + (w64 (a1.Num * a0.Den)))) (w64 (a0.Den * a1.Den))).bind fun r437 => (some (r437.1, r437.2))) else (some ((⟨0, 0⟩ : SFrac), r433)))
theorem nnumber_Add_ok (k : Nat) (a0 : SFrac) (a1 : SFrac) (r : (SFrac × Int)) (h : nnumber_Add k a0 a1 = some r) : VC Go.Proofs.Try.prog 112 [VV.ag (c_SFrac a0), VV.ag (c_SFrac a1)] (VV.tu [VV.ag (c_SFrac r.1), vi r.2]) := by
 unfold nnumber_Add at h
 obtain ⟨r433, h434, h⟩ := bs h
 have e435 := (VC.args (nnumber_checkFracs_ok k ([a0, a1] : List SFrac) _ h434) (eqO0_1 a0 a1))
 rcases ifs h with ⟨h436, h⟩ | ⟨h436, h⟩
 ·obtain ⟨r437, h438, h⟩ := bs h
  have e439 := (nnumber_lowest_ok k (w64 ((w64 (a0.Num * a1.Den)) + (w64 (a1.Num * a0.Den)))) (w64 (a0.Den * a1.Den)) _ h438)
  have e440 := (ti (ti (ti (ti (ti (ti (ti (ti (ti (ti (ti (ti (ti (ti (ti (ti (an e439 (ti (ti (ti (ti trivial)))))))))))))))))))))
  injection h with h; subst h
  exact fun_ok pm pn Go.Proofs.Try.func112 (r0 := VV.tu [VV.ag (c_SFrac r437.1), vi r437.2]) (ans := [.reg (nN 4 []), .reg (.n :: .n :: .v VV.any :: .call (vi r433) :: .n :: []), .reg (.n :: .n :: []), .br false, .reg (nN 16 (.call (VV.tu [VV.ag (c_SFrac r437.1), vi r437.2]) :: nN 4 []))]) (fr := true) (by kernel_rfl) (an (an (ti (ti (ti (ti trivial)))) (an (an (ti (ti (ti (an e435 (ti trivial))))) (an (ti (ti trivial)) (an (not_f (decide_eq_true h436)) trivial))) (an e440 trivial))) (an (ti (ti (ti trivial))) (ti trivial))) (Wv.refl _)
 ·injection h with h; subst h
  exact fun_ok pm pn Go.Proofs.Try.func112 (r0 := VV.tu [VV.ag [vi 0, vi 0], vi r433]) (ans := [.reg (nN 4 []), .reg (.n :: .n :: .v VV.any :: .call (vi r433) :: .n :: []), .reg (.n :: .n :: []), .br true, .reg (nN 4 [])]) (fr := true) (by kernel_rfl) (an (an (ti (ti (ti (ti trivial)))) (an (ti (ti (ti (an e435 (ti trivial))))) (an (ti (ti trivial)) (an (not_t (decide_eq_false h436)) (an (ti (ti (ti (ti trivial)))) trivial))))) (an (ti (ti (ti trivial))) (ti trivial))) (Wv.of_eq (eqO0_7 r433))
def n_optics_way_step_c1_number_Add (k : Nat) (a0 : Sway) (a1 : Unit) (a2 : SFrac) (a3 : SFrac) : Option (SFrac × Sway) :=
  if a0.failed = 0 then ((nnumber_Add k a2 a3).bind fun r445 => (some (r445.1, (⟨r445.2⟩ : Sway)))) else (some ((⟨0, 0⟩ : SFrac), a0))
theorem n_optics_way_step_c1_number_Add_ok (k : Nat) (a0 : Sway) (a1 : Unit) (a2 : SFrac) (a3 : SFrac) (r : (SFrac × Sway)) (h : n_optics_way_step_c1_number_Add k a0 a1 a2 a3 = some r) : VM Go.Proofs.Try.prog 103 [VV.pt 0 0, VV.fn 112 [], VV.ag (c_SFrac a2), VV.ag (c_SFrac a3)] [⟨true, bigH, [vi a0.failed]⟩] (VV.ag (c_SFrac r.1)) [⟨true, bigH, [vi r.2.failed]⟩] := by
 unfold n_optics_way_step_c1_number_Add at h
 rcases ifs h with ⟨h444, h⟩ | ⟨h444, h⟩
 ·obtain ⟨r445, h446, h⟩ := bs h
  have e447 := (ti (ti (ti (an (nnumber_Add_ok k a2 a3 _ h446) (ti (ti (ti (ti (ti (ti trivial))))))))))
  injection h with h; subst h
  exact fun_okM pm pn Go.Proofs.Try.func103 (L := [⟨true, bigH, [vi a0.failed]⟩]) (r0 := VV.ag (c_SFrac r445.1)) (ans := [.reg (nN 3 []), .reg (nN 5 []), .br false, .reg (nN 3 (.call (VV.tu [VV.ag (c_SFrac r445.1), vi r445.2]) :: nN 6 [])), .reg (nN 5 []), .reg (.n :: .n :: [])]) (fr := true) (by kernel_rfl) (an (an (ti (ti (ti trivial))) (an (an (ti (ti (ti (ti (ti trivial))))) (an (not_f (decide_eq_true h444)) trivial)) (an e447 (an (ti (ti (ti (ti (ti trivial))))) (an (ti (ti trivial)) trivial))))) (an (an (ti (ti (ti trivial))) trivial) (an (an (ti trivial) trivial) (show okStill [⟨true, bigH, [vi a0.failed]⟩] from ⟨(fun h => nomatch h), trivial⟩)))) (Wv.refl _) rfl
 ·injection h with h; subst h
  exact fun_okM pm pn Go.Proofs.Try.func103 (L := [⟨true, bigH, [vi a0.failed]⟩]) (r0 := VV.ag [vi 0, vi 0]) (ans := [.reg (nN 3 []), .reg (nN 5 []), .br true, .reg (.n :: .n :: [])]) (fr := true) (by kernel_rfl) (an (an (ti (ti (ti trivial))) (an (ti (ti (ti (ti (ti trivial))))) (an (not_t (decide_eq_false h444)) (an (ti (ti trivial)) trivial)))) (an (an (ti (ti (ti trivial))) trivial) (an (an (ti trivial) trivial) (show okStill [⟨true, bigH, [vi a0.failed]⟩] from ⟨(fun h => nomatch h), trivial⟩)))) (Wv.of_eq eqO0_8) rfl
def n_optics_way_plus (k : Nat) (a0 : Sway) (a1 : SFrac) (a2 : SFrac) : Option (SFrac × Sway) :=
  (n_optics_way_step_c1_number_Add k a0 () a1 a2).bind fun r451 => (some (r451.1, r451.2))
theorem n_optics_way_plus_ok (k : Nat) (a0 : Sway) (a1 : SFrac) (a2 : SFrac) (r : (SFrac × Sway)) (h : n_optics_way_plus k a0 a1 a2 = some r) : VM Go.Proofs.Try.prog 79 [VV.pt 0 0, VV.ag (c_SFrac a1), VV.ag (c_SFrac a2)] [⟨true, bigH, [vi a0.failed]⟩] (VV.ag (c_SFrac r.1)) [⟨true, bigH, [vi r.2.failed]⟩] := by
 unfold n_optics_way_plus at h
 obtain ⟨r451, h452, h⟩ := bs h
 have e453 := (an (n_optics_way_step_c1_number_Add_ok k a0 () a1 a2 _ h452) (an (ti trivial) (ti trivial)))
 injection h with h; subst h
 exact fun_okM pm pn Go.Proofs.Try.func79 (L := [⟨true, bigH, [vi a0.failed]⟩]) (r0 := VV.ag (c_SFrac r451.1)) (ans := [.reg (nN 3 []), .reg (nN 3 (.mod1 0 (VV.ag (c_SFrac r451.1)) ⟨true, bigH, [vi r451.2.failed]⟩ :: .n :: []))]) (fr := true) (by kernel_rfl) (an (an (ti (ti (ti trivial))) (an (ti (ti (ti (an e453 (ti trivial))))) trivial)) (an (an (ti (ti (ti trivial))) trivial) (an (an (ti trivial) trivial) (show okStill [⟨true, bigH, [vi a0.failed]⟩] from ⟨(fun h => nomatch h), trivial⟩)))) (Wv.refl _) rfl
def arO0_2 (z0 : (SFrac × Sway)) (z1 : (SFrac × Sway)) : List Ans := (nN 7 (.mod1 0 (VV.ag (c_SFrac z0.1)) ⟨true, bigH, [vi z0.2.failed]⟩ :: .mod1 0 (VV.ag (c_SFrac z1.1)) ⟨true, bigH, [vi z1.2.failed]⟩ :: .n :: .n :: []))
theorem eqO0_9 (z0 : (SFrac × Sway)) (z1 : (SFrac × Sway)) (z2 : SMatrix) : VV.ag [vi z0.1.Num, vi z0.1.Den, vi z1.1.Num, vi z1.1.Den, vi z2.C.Num, vi z2.C.Den, vi z2.D.Num, vi z2.D.Den] = VV.ag [vi (((⟨z0.1, z1.1, z2.C, z2.D⟩ : SMatrix).A).Num), vi (((⟨z0.1, z1.1, z2.C, z2.D⟩ : SMatrix).A).Den), vi (((⟨z0.1, z1.1, z2.C, z2.D⟩ : SMatrix).B).Num), vi (((⟨z0.1, z1.1, z2.C, z2.D⟩ : SMatrix).B).Den), vi (((⟨z0.1, z1.1, z2.C, z2.D⟩ : SMatrix).C).Num), vi (((⟨z0.1, z1.1, z2.C, z2.D⟩ : SMatrix).C).Den), vi (((⟨z0.1, z1.1, z2.C, z2.D⟩ : SMatrix).D).Num), vi (((⟨z0.1, z1.1, z2.C, z2.D⟩ : SMatrix).D).Den)] := by first | rfl | (simp only [unfr_vi, List.map_cons, List.map_nil, un_i]; done) | (simp only [unfr_vi, List.map_cons, List.map_nil, un_i]; rfl) | (simp only [unfr_vi, List.map_cons, List.map_nil, un_i, List.length_cons, List.length_nil, List.length_append]; done)
def n_optics_way_spaced (k : Nat) (a0 : Sway) (a1 : SMatrix) (a2 : SFrac) : Option (SMatrix × Sway) :=
  (n_optics_way_times k a0 a2 a1.C).bind fun r465 => ((n_optics_way_plus k r465.2 a1.A r465.1).bind fun r468 => ((n_optics_way_times k r468.2 a2 a1.D).bind fun r472 => ((n_optics_way_plus k r472.2 a1.B r472.1).bind fun r475 => (some ((⟨r468.1, r475.1, a1.C, a1.D⟩ : SMatrix), r475.2)))))
theorem n_optics_way_spaced_ok (k : Nat) (a0 : Sway) (a1 : SMatrix) (a2 : SFrac) (r : (SMatrix × Sway)) (h : n_optics_way_spaced k a0 a1 a2 = some r) : VM Go.Proofs.Try.prog 52 [VV.pt 0 0, VV.ag (c_SMatrix a1), VV.ag (c_SFrac a2)] [⟨true, bigH, [vi a0.failed]⟩] (VV.ag (c_SMatrix r.1)) [⟨true, bigH, [vi r.2.failed]⟩] := by
 unfold n_optics_way_spaced at h
 obtain ⟨r465, h466, h⟩ := bs h
 have e467 := (an (n_optics_way_times_ok k a0 a2 a1.C _ h466) (an (ti trivial) (ti trivial)))
 obtain ⟨r468, h469, h⟩ := bs h
 have e470 := (an (n_optics_way_plus_ok k r465.2 a1.A r465.1 _ h469) (an (ti trivial) (ti trivial)))
 have e471 := (ti (ti (ti (ti (ti (ti (ti (an e467 (an e470 (ti (ti trivial)))))))))))
 obtain ⟨r472, h473, h⟩ := bs h
 have e474 := (an (n_optics_way_times_ok k r468.2 a2 a1.D _ h473) (an (ti trivial) (ti trivial)))
 obtain ⟨r475, h476, h⟩ := bs h
 have e477 := (an (n_optics_way_plus_ok k r472.2 a1.B r472.1 _ h476) (an (ti trivial) (ti trivial)))
 have e478 := (ti (ti (ti (ti (ti (ti (ti (an e474 (an e477 (ti (ti trivial)))))))))))
 injection h with h; subst h
 exact fun_okM pm pn Go.Proofs.Try.func52 (L := [⟨true, bigH, [vi a0.failed]⟩]) (r0 := VV.ag [vi r468.1.Num, vi r468.1.Den, vi r475.1.Num, vi r475.1.Den, vi a1.C.Num, vi a1.C.Den, vi a1.D.Num, vi a1.D.Den]) (ans := [.reg (nN 3 []), .reg (arO0_2 r465 r468), .reg (arO0_2 r472 r475), .reg (.n :: .n :: [])]) (fr := true) (by kernel_rfl) (an (an (ti (ti (ti trivial))) (an e471 (an e478 (an (ti (ti trivial)) trivial)))) (an (an (ti (ti (ti (ti (ti (ti (ti (ti (ti trivial))))))))) trivial) (an (an (ti trivial) trivial) (show okStill [⟨true, bigH, [vi a0.failed]⟩] from ⟨(fun h => nomatch h), trivial⟩)))) (Wv.of_eq (eqO0_9 r468 r475 a1)) rfl
theorem eqO0_10 (z0 : SFrac) (z1 : SFrac) (z2 : SFrac) : [VV.pt 0 0, VV.ag [vi (((⟨z0, z1, z1, z0⟩ : SMatrix).A).Num), vi (((⟨z0, z1, z1, z0⟩ : SMatrix).A).Den), vi (((⟨z0, z1, z1, z0⟩ : SMatrix).B).Num), vi (((⟨z0, z1, z1, z0⟩ : SMatrix).B).Den), vi (((⟨z0, z1, z1, z0⟩ : SMatrix).C).Num), vi (((⟨z0, z1, z1, z0⟩ : SMatrix).C).Den), vi (((⟨z0, z1, z1, z0⟩ : SMatrix).D).Num), vi (((⟨z0, z1, z1, z0⟩ : SMatrix).D).Den)], VV.ag (c_SFrac z2)] = [VV.pt 0 0, VV.ag [vi z0.Num, vi z0.Den, vi z1.Num, vi z1.Den, vi z1.Num, vi z1.Den, vi z0.Num, vi z0.Den], VV.ag (c_SFrac z2)] := by first | rfl | (simp only [unfr_vi, List.map_cons, List.map_nil, un_i, unfr_c_SFrac]; done) | (simp only [unfr_vi, List.map_cons, List.map_nil, un_i, unfr_c_SFrac]; rfl) | (simp only [unfr_vi, List.map_cons, List.map_nil, un_i, unfr_c_SFrac, c_SFrac, List.length_cons, List.length_nil, List.length_append]; done)
theorem eqO0_11  : ([⟨true, bigH, [vi ((⟨0⟩ : Sway).failed)]⟩] : List Blk) = ([⟨true, bigH, [vi 0]⟩] : List Blk) := by first | rfl | (simp only [unfr_vi, List.map_cons, List.map_nil, un_i]; done) | (simp only [unfr_vi, List.map_cons, List.map_nil, un_i]; rfl) | (simp only [unfr_vi, List.map_cons, List.map_nil, un_i, List.length_cons, List.length_nil, List.length_append]; done)
theorem eqO0_12  : VV.tu [VV.ag [vi 0, vi 0], vi 11] = VV.tu [VV.ag (c_SFrac (⟨0, 0⟩ : SFrac)), vi 11] := by first | rfl | (simp only [unfr_vi, List.map_cons, List.map_nil, un_i, unfr_c_SFrac]; done) | (simp only [unfr_vi, List.map_cons, List.map_nil, un_i, unfr_c_SFrac]; rfl) | (simp only [unfr_vi, List.map_cons, List.map_nil, un_i, unfr_c_SFrac, c_SFrac, List.length_cons, List.length_nil, List.length_append]; done)
def nnumber_Quo (k : Nat) (a0 : SFrac) (a1 : SFrac) : Option (SFrac × Int) :=
  (nnumber_checkFracs k ([a0, a1] : List SFrac)).bind fun r498 => (if r498 = 0 then (if a1.Num = 0 then (some ((⟨0, 0⟩ : SFrac), 11)) else ((nnumber_lowest k (w64 (a0.Num * a1.Den)) (w64 (a0.Den * a1.Num))).bind fun r503 => (some (r503.1, r503.2)))) else (some ((⟨0, 0⟩ : SFrac), r498)))
theorem nnumber_Quo_ok (k : Nat) (a0 : SFrac) (a1 : SFrac) (r : (SFrac × Int)) (h : nnumber_Quo k a0 a1 = some r) : VC Go.Proofs.Try.prog 104 [VV.ag (c_SFrac a0), VV.ag (c_SFrac a1)] (VV.tu [VV.ag (c_SFrac r.1), vi r.2]) := by
 unfold nnumber_Quo at h
 obtain ⟨r498, h499, h⟩ := bs h
 have e500 := (VC.args (nnumber_checkFracs_ok k ([a0, a1] : List SFrac) _ h499) (eqO0_1 a0 a1))
 rcases ifs h with ⟨h501, h⟩ | ⟨h501, h⟩
 ·rcases ifs h with ⟨h502, h⟩ | ⟨h502, h⟩
  ·injection h with h; subst h
   exact fun_ok pm pn Go.Proofs.Try.func104 (r0 := VV.tu [VV.ag [vi 0, vi 0], vi 11]) (ans := [.reg (nN 4 []), .reg (.n :: .n :: .v VV.any :: .call (vi r498) :: .n :: []), .reg (.n :: .n :: []), .br false, .reg (nN 3 []), .br true, .reg (nN 3 [])]) (fr := true) (by kernel_rfl) (an (an (ti (ti (ti (ti trivial)))) (an (an (ti (ti (ti (an e500 (ti trivial))))) (an (ti (ti trivial)) (an (not_f (decide_eq_true h501)) trivial))) (an (ti (ti (ti trivial))) (an (decide_eq_true h502) (an (ti (ti (ti trivial))) trivial))))) (an (ti (ti (ti trivial))) (ti trivial))) (Wv.of_eq eqO0_12)
  ·obtain ⟨r503, h504, h⟩ := bs h
   have e505 := (nnumber_lowest_ok k (w64 (a0.Num * a1.Den)) (w64 (a0.Den * a1.Num)) _ h504)
   have e506 := (ti (ti (ti (ti (ti (ti (ti (ti (ti (ti (an e505 (ti (ti (ti (ti trivial)))))))))))))))
   injection h with h; subst h
   exact fun_ok pm pn Go.Proofs.Try.func104 (r0 := VV.tu [VV.ag (c_SFrac r503.1), vi r503.2]) (ans := [.reg (nN 4 []), .reg (.n :: .n :: .v VV.any :: .call (vi r498) :: .n :: []), .reg (.n :: .n :: []), .br false, .reg (nN 3 []), .br false, .reg (nN 10 (.call (VV.tu [VV.ag (c_SFrac r503.1), vi r503.2]) :: nN 4 []))]) (fr := true) (by kernel_rfl) (an (an (ti (ti (ti (ti trivial)))) (an (an (ti (ti (ti (an e500 (ti trivial))))) (an (ti (ti trivial)) (an (not_f (decide_eq_true h501)) trivial))) (an (an (ti (ti (ti trivial))) (an (decide_eq_false h502) trivial)) (an e506 trivial)))) (an (ti (ti (ti trivial))) (ti trivial))) (Wv.refl _)
 ·injection h with h; subst h
  exact fun_ok pm pn Go.Proofs.Try.func104 (r0 := VV.tu [VV.ag [vi 0, vi 0], vi r498]) (ans := [.reg (nN 4 []), .reg (.n :: .n :: .v VV.any :: .call (vi r498) :: .n :: []), .reg (.n :: .n :: []), .br true, .reg (nN 4 [])]) (fr := true) (by kernel_rfl) (an (an (ti (ti (ti (ti trivial)))) (an (ti (ti (ti (an e500 (ti trivial))))) (an (ti (ti trivial)) (an (not_t (decide_eq_false h501)) (an (ti (ti (ti (ti trivial)))) trivial))))) (an (ti (ti (ti trivial))) (ti trivial))) (Wv.of_eq (eqO0_7 r498))
def n_optics_way_step_c1_number_Quo (k : Nat) (a0 : Sway) (a1 : Unit) (a2 : SFrac) (a3 : SFrac) : Option (SFrac × Sway) :=
  if a0.failed = 0 then ((nnumber_Quo k a2 a3).bind fun r511 => (some (r511.1, (⟨r511.2⟩ : Sway)))) else (some ((⟨0, 0⟩ : SFrac), a0))
theorem n_optics_way_step_c1_number_Quo_ok (k : Nat) (a0 : Sway) (a1 : Unit) (a2 : SFrac) (a3 : SFrac) (r : (SFrac × Sway)) (h : n_optics_way_step_c1_number_Quo k a0 a1 a2 a3 = some r) : VM Go.Proofs.Try.prog 103 [VV.pt 0 0, VV.fn 104 [], VV.ag (c_SFrac a2), VV.ag (c_SFrac a3)] [⟨true, bigH, [vi a0.failed]⟩] (VV.ag (c_SFrac r.1)) [⟨true, bigH, [vi r.2.failed]⟩] := by
 unfold n_optics_way_step_c1_number_Quo at h
 rcases ifs h with ⟨h510, h⟩ | ⟨h510, h⟩
 ·obtain ⟨r511, h512, h⟩ := bs h
  have e513 := (ti (ti (ti (an (nnumber_Quo_ok k a2 a3 _ h512) (ti (ti (ti (ti (ti (ti trivial))))))))))
  injection h with h; subst h
  exact fun_okM pm pn Go.Proofs.Try.func103 (L := [⟨true, bigH, [vi a0.failed]⟩]) (r0 := VV.ag (c_SFrac r511.1)) (ans := [.reg (nN 3 []), .reg (nN 5 []), .br false, .reg (nN 3 (.call (VV.tu [VV.ag (c_SFrac r511.1), vi r511.2]) :: nN 6 [])), .reg (nN 5 []), .reg (.n :: .n :: [])]) (fr := true) (by kernel_rfl) (an (an (ti (ti (ti trivial))) (an (an (ti (ti (ti (ti (ti trivial))))) (an (not_f (decide_eq_true h510)) trivial)) (an e513 (an (ti (ti (ti (ti (ti trivial))))) (an (ti (ti trivial)) trivial))))) (an (an (ti (ti (ti trivial))) trivial) (an (an (ti trivial) trivial) (show okStill [⟨true, bigH, [vi a0.failed]⟩] from ⟨(fun h => nomatch h), trivial⟩)))) (Wv.refl _) rfl
 ·injection h with h; subst h
  exact fun_okM pm pn Go.Proofs.Try.func103 (L := [⟨true, bigH, [vi a0.failed]⟩]) (r0 := VV.ag [vi 0, vi 0]) (ans := [.reg (nN 3 []), .reg (nN 5 []), .br true, .reg (.n :: .n :: [])]) (fr := true) (by kernel_rfl) (an (an (ti (ti (ti trivial))) (an (ti (ti (ti (ti (ti trivial))))) (an (not_t (decide_eq_false h510)) (an (ti (ti trivial)) trivial)))) (an (an (ti (ti (ti trivial))) trivial) (an (an (ti trivial) trivial) (show okStill [⟨true, bigH, [vi a0.failed]⟩] from ⟨(fun h => nomatch h), trivial⟩)))) (Wv.of_eq eqO0_8) rfl
def n_optics_way_over (k : Nat) (a0 : Sway) (a1 : SFrac) (a2 : SFrac) : Option (SFrac × Sway) :=
  (n_optics_way_step_c1_number_Quo k a0 () a1 a2).bind fun r517 => (some (r517.1, r517.2))
theorem n_optics_way_over_ok (k : Nat) (a0 : Sway) (a1 : SFrac) (a2 : SFrac) (r : (SFrac × Sway)) (h : n_optics_way_over k a0 a1 a2 = some r) : VM Go.Proofs.Try.prog 54 [VV.pt 0 0, VV.ag (c_SFrac a1), VV.ag (c_SFrac a2)] [⟨true, bigH, [vi a0.failed]⟩] (VV.ag (c_SFrac r.1)) [⟨true, bigH, [vi r.2.failed]⟩] := by
 unfold n_optics_way_over at h
 obtain ⟨r517, h518, h⟩ := bs h
 have e519 := (an (n_optics_way_step_c1_number_Quo_ok k a0 () a1 a2 _ h518) (an (ti trivial) (ti trivial)))
 injection h with h; subst h
 exact fun_okM pm pn Go.Proofs.Try.func54 (L := [⟨true, bigH, [vi a0.failed]⟩]) (r0 := VV.ag (c_SFrac r517.1)) (ans := [.reg (nN 3 []), .reg (nN 3 (.mod1 0 (VV.ag (c_SFrac r517.1)) ⟨true, bigH, [vi r517.2.failed]⟩ :: .n :: []))]) (fr := true) (by kernel_rfl) (an (an (ti (ti (ti trivial))) (an (ti (ti (ti (an e519 (ti trivial))))) trivial)) (an (an (ti (ti (ti trivial))) trivial) (an (an (ti trivial) trivial) (show okStill [⟨true, bigH, [vi a0.failed]⟩] from ⟨(fun h => nomatch h), trivial⟩)))) (Wv.refl _) rfl
def nnumber_Sub (k : Nat) (a0 : SFrac) (a1 : SFrac) : Option (SFrac × Int) :=
  (nnumber_checkFracs k ([a0, a1] : List SFrac)).bind fun r535 => (if r535 = 0 then ((nnumber_lowest k (w64 ((w64 (a0.Num * a1.Den)) - (w64 (a1.Num * a0.Den)))) (w64 (a0.Den * a1.Den))).bind fun r539 => (some (r539.1, r539.2))) else (some ((⟨0, 0⟩ : SFrac), r535)))
theorem nnumber_Sub_ok (k : Nat) (a0 : SFrac) (a1 : SFrac) (r : (SFrac × Int)) (h : nnumber_Sub k a0 a1 = some r) : VC Go.Proofs.Try.prog 106 [VV.ag (c_SFrac a0), VV.ag (c_SFrac a1)] (VV.tu [VV.ag (c_SFrac r.1), vi r.2]) := by
 unfold nnumber_Sub at h
 obtain ⟨r535, h536, h⟩ := bs h
 have e537 := (VC.args (nnumber_checkFracs_ok k ([a0, a1] : List SFrac) _ h536) (eqO0_1 a0 a1))
 rcases ifs h with ⟨h538, h⟩ | ⟨h538, h⟩
 ·obtain ⟨r539, h540, h⟩ := bs h
  have e541 := (nnumber_lowest_ok k (w64 ((w64 (a0.Num * a1.Den)) - (w64 (a1.Num * a0.Den)))) (w64 (a0.Den * a1.Den)) _ h540)
  have e542 := (ti (ti (ti (ti (ti (ti (ti (ti (ti (ti (ti (ti (ti (ti (ti (ti (an e541 (ti (ti (ti (ti trivial)))))))))))))))))))))
  injection h with h; subst h
  exact fun_ok pm pn Go.Proofs.Try.func106 (r0 := VV.tu [VV.ag (c_SFrac r539.1), vi r539.2]) (ans := [.reg (nN 4 []), .reg (.n :: .n :: .v VV.any :: .call (vi r535) :: .n :: []), .reg (.n :: .n :: []), .br false, .reg (nN 16 (.call (VV.tu [VV.ag (c_SFrac r539.1), vi r539.2]) :: nN 4 []))]) (fr := true) (by kernel_rfl) (an (an (ti (ti (ti (ti trivial)))) (an (an (ti (ti (ti (an e537 (ti trivial))))) (an (ti (ti trivial)) (an (not_f (decide_eq_true h538)) trivial))) (an e542 trivial))) (an (ti (ti (ti trivial))) (ti trivial))) (Wv.refl _)
 ·injection h with h; subst h
  exact fun_ok pm pn Go.Proofs.Try.func106 (r0 := VV.tu [VV.ag [vi 0, vi 0], vi r535]) (ans := [.reg (nN 4 []), .reg (.n :: .n :: .v VV.any :: .call (vi r535) :: .n :: []), .reg (.n :: .n :: []), .br true, .reg (nN 4 [])]) (fr := true) (by kernel_rfl) (an (an (ti (ti (ti (ti trivial)))) (an (ti (ti (ti (an e537 (ti trivial))))) (an (ti (ti trivial)) (an (not_t (decide_eq_false h538)) (an (ti (ti (ti (ti trivial)))) trivial))))) (an (ti (ti (ti trivial))) (ti trivial))) (Wv.of_eq (eqO0_7 r535))
def n_optics_way_step_c1_number_Sub (k : Nat) (a0 : Sway) (a1 : Unit) (a2 : SFrac) (a3 : SFrac) : Option (SFrac × Sway) :=
  if a0.failed = 0 then ((nnumber_Sub k a2 a3).bind fun r547 => (some (r547.1, (⟨r547.2⟩ : Sway)))) else (some ((⟨0, 0⟩ : SFrac), a0))
theorem n_optics_way_step_c1_number_Sub_ok (k : Nat) (a0 : Sway) (a1 : Unit) (a2 : SFrac) (a3 : SFrac) (r : (SFrac × Sway)) (h : n_optics_way_step_c1_number_Sub k a0 a1 a2 a3 = some r) : VM Go.Proofs.Try.prog 103 [VV.pt 0 0, VV.fn 106 [], VV.ag (c_SFrac a2), VV.ag (c_SFrac a3)] [⟨true, bigH, [vi a0.failed]⟩] (VV.ag (c_SFrac r.1)) [⟨true, bigH, [vi r.2.failed]⟩] := by
 unfold n_optics_way_step_c1_number_Sub at h
 rcases ifs h with ⟨h546, h⟩ | ⟨h546, h⟩
 ·obtain ⟨r547, h548, h⟩ := bs h
  have e549 := (ti (ti (ti (an (nnumber_Sub_ok k a2 a3 _ h548) (ti (ti (ti (ti (ti (ti trivial))))))))))
  injection h with h; subst h
  exact fun_okM pm pn Go.Proofs.Try.func103 (L := [⟨true, bigH, [vi a0.failed]⟩]) (r0 := VV.ag (c_SFrac r547.1)) (ans := [.reg (nN 3 []), .reg (nN 5 []), .br false, .reg (nN 3 (.call (VV.tu [VV.ag (c_SFrac r547.1), vi r547.2]) :: nN 6 [])), .reg (nN 5 []), .reg (.n :: .n :: [])]) (fr := true) (by kernel_rfl) (an (an (ti (ti (ti trivial))) (an (an (ti (ti (ti (ti (ti trivial))))) (an (not_f (decide_eq_true h546)) trivial)) (an e549 (an (ti (ti (ti (ti (ti trivial))))) (an (ti (ti trivial)) trivial))))) (an (an (ti (ti (ti trivial))) trivial) (an (an (ti trivial) trivial) (show okStill [⟨true, bigH, [vi a0.failed]⟩] from ⟨(fun h => nomatch h), trivial⟩)))) (Wv.refl _) rfl
 ·injection h with h; subst h
  exact fun_okM pm pn Go.Proofs.Try.func103 (L := [⟨true, bigH, [vi a0.failed]⟩]) (r0 := VV.ag [vi 0, vi 0]) (ans := [.reg (nN 3 []), .reg (nN 5 []), .br true, .reg (.n :: .n :: [])]) (fr := true) (by kernel_rfl) (an (an (ti (ti (ti trivial))) (an (ti (ti (ti (ti (ti trivial))))) (an (not_t (decide_eq_false h546)) (an (ti (ti trivial)) trivial)))) (an (an (ti (ti (ti trivial))) trivial) (an (an (ti trivial) trivial) (show okStill [⟨true, bigH, [vi a0.failed]⟩] from ⟨(fun h => nomatch h), trivial⟩)))) (Wv.of_eq eqO0_8) rfl
def n_optics_way_minus (k : Nat) (a0 : Sway) (a1 : SFrac) (a2 : SFrac) : Option (SFrac × Sway) :=
  (n_optics_way_step_c1_number_Sub k a0 () a1 a2).bind fun r553 => (some (r553.1, r553.2))
theorem n_optics_way_minus_ok (k : Nat) (a0 : Sway) (a1 : SFrac) (a2 : SFrac) (r : (SFrac × Sway)) (h : n_optics_way_minus k a0 a1 a2 = some r) : VM Go.Proofs.Try.prog 62 [VV.pt 0 0, VV.ag (c_SFrac a1), VV.ag (c_SFrac a2)] [⟨true, bigH, [vi a0.failed]⟩] (VV.ag (c_SFrac r.1)) [⟨true, bigH, [vi r.2.failed]⟩] := by
 unfold n_optics_way_minus at h
 obtain ⟨r553, h554, h⟩ := bs h
 have e555 := (an (n_optics_way_step_c1_number_Sub_ok k a0 () a1 a2 _ h554) (an (ti trivial) (ti trivial)))
 injection h with h; subst h
 exact fun_okM pm pn Go.Proofs.Try.func62 (L := [⟨true, bigH, [vi a0.failed]⟩]) (r0 := VV.ag (c_SFrac r553.1)) (ans := [.reg (nN 3 []), .reg (nN 3 (.mod1 0 (VV.ag (c_SFrac r553.1)) ⟨true, bigH, [vi r553.2.failed]⟩ :: .n :: []))]) (fr := true) (by kernel_rfl) (an (an (ti (ti (ti trivial))) (an (ti (ti (ti (an e555 (ti trivial))))) trivial)) (an (an (ti (ti (ti trivial))) trivial) (an (an (ti trivial) trivial) (show okStill [⟨true, bigH, [vi a0.failed]⟩] from ⟨(fun h => nomatch h), trivial⟩)))) (Wv.refl _) rfl
theorem eqO0_13 (z0 : SMatrix) (z1 : (SFrac × Sway)) (z2 : (SFrac × Sway)) : VV.ag [vi z0.A.Num, vi z0.A.Den, vi z0.B.Num, vi z0.B.Den, vi z1.1.Num, vi z1.1.Den, vi z2.1.Num, vi z2.1.Den] = VV.ag [vi (((⟨z0.A, z0.B, z1.1, z2.1⟩ : SMatrix).A).Num), vi (((⟨z0.A, z0.B, z1.1, z2.1⟩ : SMatrix).A).Den), vi (((⟨z0.A, z0.B, z1.1, z2.1⟩ : SMatrix).B).Num), vi (((⟨z0.A, z0.B, z1.1, z2.1⟩ : SMatrix).B).Den), vi (((⟨z0.A, z0.B, z1.1, z2.1⟩ : SMatrix).C).Num), vi (((⟨z0.A, z0.B, z1.1, z2.1⟩ : SMatrix).C).Den), vi (((⟨z0.A, z0.B, z1.1, z2.1⟩ : SMatrix).D).Num), vi (((⟨z0.A, z0.B, z1.1, z2.1⟩ : SMatrix).D).Den)] := by first | rfl | (simp only [unfr_vi, List.map_cons, List.map_nil, un_i]; done) | (simp only [unfr_vi, List.map_cons, List.map_nil, un_i]; rfl) | (simp only [unfr_vi, List.map_cons, List.map_nil, un_i, List.length_cons, List.length_nil, List.length_append]; done)
def n_optics_way_bent (k : Nat) (a0 : Sway) (a1 : SMatrix) (a2 : SFrac) : Option (SMatrix × Sway) :=
  (n_optics_way_times k a0 a2 a1.A).bind fun r567 => ((n_optics_way_minus k r567.2 a1.C r567.1).bind fun r570 => ((n_optics_way_times k r570.2 a2 a1.B).bind fun r574 => ((n_optics_way_minus k r574.2 a1.D r574.1).bind fun r577 => (some ((⟨a1.A, a1.B, r570.1, r577.1⟩ : SMatrix), r577.2)))))
theorem n_optics_way_bent_ok (k : Nat) (a0 : Sway) (a1 : SMatrix) (a2 : SFrac) (r : (SMatrix × Sway)) (h : n_optics_way_bent k a0 a1 a2 = some r) : VM Go.Proofs.Try.prog 53 [VV.pt 0 0, VV.ag (c_SMatrix a1), VV.ag (c_SFrac a2)] [⟨true, bigH, [vi a0.failed]⟩] (VV.ag (c_SMatrix r.1)) [⟨true, bigH, [vi r.2.failed]⟩] := by
 unfold n_optics_way_bent at h
 obtain ⟨r567, h568, h⟩ := bs h
 have e569 := (an (n_optics_way_times_ok k a0 a2 a1.A _ h568) (an (ti trivial) (ti trivial)))
 obtain ⟨r570, h571, h⟩ := bs h
 have e572 := (an (n_optics_way_minus_ok k r567.2 a1.C r567.1 _ h571) (an (ti trivial) (ti trivial)))
 have e573 := (ti (ti (ti (ti (ti (ti (ti (an e569 (an e572 (ti (ti trivial)))))))))))
 obtain ⟨r574, h575, h⟩ := bs h
 have e576 := (an (n_optics_way_times_ok k r570.2 a2 a1.B _ h575) (an (ti trivial) (ti trivial)))
 obtain ⟨r577, h578, h⟩ := bs h
 have e579 := (an (n_optics_way_minus_ok k r574.2 a1.D r574.1 _ h578) (an (ti trivial) (ti trivial)))
 have e580 := (ti (ti (ti (ti (ti (ti (ti (an e576 (an e579 (ti (ti trivial)))))))))))
 injection h with h; subst h
 exact fun_okM pm pn Go.Proofs.Try.func53 (L := [⟨true, bigH, [vi a0.failed]⟩]) (r0 := VV.ag [vi a1.A.Num, vi a1.A.Den, vi a1.B.Num, vi a1.B.Den, vi r570.1.Num, vi r570.1.Den, vi r577.1.Num, vi r577.1.Den]) (ans := [.reg (nN 3 []), .reg (arO0_2 r567 r570), .reg (arO0_2 r574 r577), .reg (.n :: .n :: [])]) (fr := true) (by kernel_rfl) (an (an (ti (ti (ti trivial))) (an e573 (an e580 (an (ti (ti trivial)) trivial)))) (an (an (ti (ti (ti (ti (ti (ti (ti (ti (ti trivial))))))))) trivial) (an (an (ti trivial) trivial) (show okStill [⟨true, bigH, [vi a0.failed]⟩] from ⟨(fun h => nomatch h), trivial⟩)))) (Wv.of_eq (eqO0_13 a1 r570 r577)) rfl
theorem eqO0_14 (z0 : SFrac) (z1 : SFrac) (z2 : (SFrac × Sway)) : [VV.pt 0 0, VV.ag [vi (((⟨z0, z1, z1, z0⟩ : SMatrix).A).Num), vi (((⟨z0, z1, z1, z0⟩ : SMatrix).A).Den), vi (((⟨z0, z1, z1, z0⟩ : SMatrix).B).Num), vi (((⟨z0, z1, z1, z0⟩ : SMatrix).B).Den), vi (((⟨z0, z1, z1, z0⟩ : SMatrix).C).Num), vi (((⟨z0, z1, z1, z0⟩ : SMatrix).C).Den), vi (((⟨z0, z1, z1, z0⟩ : SMatrix).D).Num), vi (((⟨z0, z1, z1, z0⟩ : SMatrix).D).Den)], VV.ag (c_SFrac z2.1)] = [VV.pt 0 0, VV.ag [vi z0.Num, vi z0.Den, vi z1.Num, vi z1.Den, vi z1.Num, vi z1.Den, vi z0.Num, vi z0.Den], VV.ag (c_SFrac z2.1)] := by first | rfl | (simp only [unfr_vi, List.map_cons, List.map_nil, un_i, unfr_c_SFrac]; done) | (simp only [unfr_vi, List.map_cons, List.map_nil, un_i, unfr_c_SFrac]; rfl) | (simp only [unfr_vi, List.map_cons, List.map_nil, un_i, unfr_c_SFrac, c_SFrac, List.length_cons, List.length_nil, List.length_append]; done)
theorem eqO0_15 (z0 : Int) (z1 : Int) (z2 : Int) (z3 : Int) (z4 : Int) (z5 : Int) (z6 : Int) (z7 : Int) (z8 : SFrac) : [VV.pt 0 0, VV.ag [vi (((⟨(⟨z0, z1⟩ : SFrac), (⟨z2, z3⟩ : SFrac), (⟨z4, z5⟩ : SFrac), (⟨z6, z7⟩ : SFrac)⟩ : SMatrix).A).Num), vi (((⟨(⟨z0, z1⟩ : SFrac), (⟨z2, z3⟩ : SFrac), (⟨z4, z5⟩ : SFrac), (⟨z6, z7⟩ : SFrac)⟩ : SMatrix).A).Den), vi (((⟨(⟨z0, z1⟩ : SFrac), (⟨z2, z3⟩ : SFrac), (⟨z4, z5⟩ : SFrac), (⟨z6, z7⟩ : SFrac)⟩ : SMatrix).B).Num), vi (((⟨(⟨z0, z1⟩ : SFrac), (⟨z2, z3⟩ : SFrac), (⟨z4, z5⟩ : SFrac), (⟨z6, z7⟩ : SFrac)⟩ : SMatrix).B).Den), vi (((⟨(⟨z0, z1⟩ : SFrac), (⟨z2, z3⟩ : SFrac), (⟨z4, z5⟩ : SFrac), (⟨z6, z7⟩ : SFrac)⟩ : SMatrix).C).Num), vi (((⟨(⟨z0, z1⟩ : SFrac), (⟨z2, z3⟩ : SFrac), (⟨z4, z5⟩ : SFrac), (⟨z6, z7⟩ : SFrac)⟩ : SMatrix).C).Den), vi (((⟨(⟨z0, z1⟩ : SFrac), (⟨z2, z3⟩ : SFrac), (⟨z4, z5⟩ : SFrac), (⟨z6, z7⟩ : SFrac)⟩ : SMatrix).D).Num), vi (((⟨(⟨z0, z1⟩ : SFrac), (⟨z2, z3⟩ : SFrac), (⟨z4, z5⟩ : SFrac), (⟨z6, z7⟩ : SFrac)⟩ : SMatrix).D).Den)], VV.ag (c_SFrac z8)] = [VV.pt 0 0, VV.ag [vi z0, vi z1, vi z2, vi z3, vi z4, vi z5, vi z6, vi z7], VV.ag (c_SFrac z8)] := by first | rfl | (simp only [unfr_vi, List.map_cons, List.map_nil, un_i, unfr_c_SFrac]; done) | (simp only [unfr_vi, List.map_cons, List.map_nil, un_i, unfr_c_SFrac]; rfl) | (simp only [unfr_vi, List.map_cons, List.map_nil, un_i, unfr_c_SFrac, c_SFrac, List.length_cons, List.length_nil, List.length_append]; done)
theorem eqO0_16 (z0 : Int) : ([⟨true, bigH, [vi ((⟨z0⟩ : Sway).failed)]⟩] : List Blk) = ([⟨true, bigH, [vi z0]⟩] : List Blk) := by first | rfl | (simp only [unfr_vi, List.map_cons, List.map_nil, un_i]; done) | (simp only [unfr_vi, List.map_cons, List.map_nil, un_i]; rfl) | (simp only [unfr_vi, List.map_cons, List.map_nil, un_i, List.length_cons, List.length_nil, List.length_append]; done)
theorem eqO0_17 (z0 : Int) (z1 : Int) (z2 : Int) (z3 : Int) (z4 : Int) (z5 : Int) (z6 : Int) (z7 : Int) (z8 : (SFrac × Sway)) : [VV.pt 0 0, VV.ag [vi (((⟨(⟨z0, z1⟩ : SFrac), (⟨z2, z3⟩ : SFrac), (⟨z4, z5⟩ : SFrac), (⟨z6, z7⟩ : SFrac)⟩ : SMatrix).A).Num), vi (((⟨(⟨z0, z1⟩ : SFrac), (⟨z2, z3⟩ : SFrac), (⟨z4, z5⟩ : SFrac), (⟨z6, z7⟩ : SFrac)⟩ : SMatrix).A).Den), vi (((⟨(⟨z0, z1⟩ : SFrac), (⟨z2, z3⟩ : SFrac), (⟨z4, z5⟩ : SFrac), (⟨z6, z7⟩ : SFrac)⟩ : SMatrix).B).Num), vi (((⟨(⟨z0, z1⟩ : SFrac), (⟨z2, z3⟩ : SFrac), (⟨z4, z5⟩ : SFrac), (⟨z6, z7⟩ : SFrac)⟩ : SMatrix).B).Den), vi (((⟨(⟨z0, z1⟩ : SFrac), (⟨z2, z3⟩ : SFrac), (⟨z4, z5⟩ : SFrac), (⟨z6, z7⟩ : SFrac)⟩ : SMatrix).C).Num), vi (((⟨(⟨z0, z1⟩ : SFrac), (⟨z2, z3⟩ : SFrac), (⟨z4, z5⟩ : SFrac), (⟨z6, z7⟩ : SFrac)⟩ : SMatrix).C).Den), vi (((⟨(⟨z0, z1⟩ : SFrac), (⟨z2, z3⟩ : SFrac), (⟨z4, z5⟩ : SFrac), (⟨z6, z7⟩ : SFrac)⟩ : SMatrix).D).Num), vi (((⟨(⟨z0, z1⟩ : SFrac), (⟨z2, z3⟩ : SFrac), (⟨z4, z5⟩ : SFrac), (⟨z6, z7⟩ : SFrac)⟩ : SMatrix).D).Den)], VV.ag (c_SFrac z8.1)] = [VV.pt 0 0, VV.ag [vi z0, vi z1, vi z2, vi z3, vi z4, vi z5, vi z6, vi z7], VV.ag (c_SFrac z8.1)] := by first | rfl | (simp only [unfr_vi, List.map_cons, List.map_nil, un_i, unfr_c_SFrac]; done) | (simp only [unfr_vi, List.map_cons, List.map_nil, un_i, unfr_c_SFrac]; rfl) | (simp only [unfr_vi, List.map_cons, List.map_nil, un_i, unfr_c_SFrac, c_SFrac, List.length_cons, List.length_nil, List.length_append]; done)
def arO0_3 (z0 : SFrac) (z1 : (SMatrix × Sway)) : List Ans := (nN 3 (.call (VV.ag (c_SFrac z0)) :: .mod1 1 (VV.ag (c_SMatrix z1.1)) ⟨true, bigH, [vi z1.2.failed]⟩ :: .n :: []))
def arO0_4 (z0 : SFrac) (z1 : SFrac) (z2 : (SFrac × Sway)) (z3 : (SMatrix × Sway)) : List Ans := (.n :: .call (VV.ag (c_SFrac z0)) :: .n :: .n :: .call (VV.ag (c_SFrac z1)) :: .mod1 1 (VV.ag (c_SFrac z2.1)) ⟨true, bigH, [vi z2.2.failed]⟩ :: .mod1 1 (VV.ag (c_SMatrix z3.1)) ⟨true, bigH, [vi z3.2.failed]⟩ :: .n :: [])
def noptics_firstError_l0_0_h (a0 : (List Int)) (x7 : Int) : VS := ⟨mkA [(5, VV.tr (List.map vi a0) a0.length), (6, vi (a0.length : Int)), (7, vi x7)], [], .nil⟩
def noptics_firstError_l0_0_e0 (a0 : (List Int)) (r : Int) : VS := ⟨mkA [(2, vi r)], [], .nil⟩
def noptics_firstError_l0_0_e1 (a0 : (List Int)) (r : Unit) : VS := ⟨mkA [], [], .nil⟩
def noptics_firstError_l0_0 (k : Nat) (a0 : (List Int)) : Nat → Int → Option (Sum Int Unit)
  | 0, _ => none
  | fuel + 1, x7 => if x7 < (a0.length : Int) then (if 0 ≤ x7 ∧ x7 < (a0.length : Int) then (if (a0.getD x7.toNat 0) = 0 then (noptics_firstError_l0_0 k a0 fuel (w64 (x7 + 1))) else (some (.inl (a0.getD x7.toNat 0)))) else none) else (some (.inr ()))
theorem noptics_firstError_l0_0_ok (k : Nat) (a0 : (List Int)) : ∀ (fuel : Nat) (x7 : Int) (r : Sum Int Unit), noptics_firstError_l0_0 k a0 fuel x7 = some r → (match r with | .inl r => VLoop none Go.Proofs.Try.prog (szF Go.Proofs.Try.f65) (bodyOf Go.Proofs.Try.f65 0) (noptics_firstError_l0_0_h a0 x7) .ret (noptics_firstError_l0_0_e0 a0 r) | .inr r => VLoop none Go.Proofs.Try.prog (szF Go.Proofs.Try.f65) (bodyOf Go.Proofs.Try.f65 0) (noptics_firstError_l0_0_h a0 x7) (.exit 0) (noptics_firstError_l0_0_e1 a0 r)) := by
 intro fuel
 induction fuel with
 | zero => intro x7 r h; rw [noptics_firstError_l0_0.eq_1] at h; cases h
 | succ fuel ih =>
  intro x7 r h
  rw [noptics_firstError_l0_0.eq_2] at h
  rcases ifs h with ⟨h699, h⟩ | ⟨h699, h⟩
  ·obtain ⟨h700, h⟩ := ifn h
   have e701 := (show loadL Go.Proofs.Try.prog 29 (x7.toNat * 1) (List.map vi a0) = some (vi (a0.getD x7.toNat 0)) from ld_map ag29 vi a0 0 h700 (by omega))
   rcases ifs h with ⟨h702, h⟩ | ⟨h702, h⟩
   ·have h2 := ih _ _ h
    obtain ⟨q, hv, hq⟩ := pkR (rd := none) (P := Go.Proofs.Try.prog) (fn := Go.Proofs.Try.f65) (k := 0) (s := (noptics_firstError_l0_0_h a0 x7)) (ans := [.reg (.n :: []), .br true, .reg (.n :: .v (vi (a0.getD x7.toNat 0)) :: .n :: []), .reg (.n :: .n :: []), .br false, .reg (.n :: .n :: [])]) (c := ⟨[(5, none), (6, none), (7, none)], [], []⟩) (e := .normal) (s1 := (noptics_firstError_l0_0_h a0 (w64 (x7 + 1)))) (an (an (ti trivial) (an (an (decide_eq_true h699) trivial) (an (an (an h700 (an e701 (ti trivial))) (an (ti (ti trivial)) (an (not_f (decide_eq_true h702)) trivial))) (ti (ti trivial))))) (ti trivial)) (by kernel_rfl)
    cases r with
    | inl r => exact round_next pm pn hv hq h2
    | inr r =>
     exact round_next pm pn hv hq h2
   ·injection h with h; subst h
    exact round_stop (c := ⟨[(2, none)], [], []⟩) (s1 := (noptics_firstError_l0_0_e0 a0 (a0.getD x7.toNat 0))) pm pn (ans := [.reg (.n :: []), .br true, .reg (.n :: .v (vi (a0.getD x7.toNat 0)) :: .n :: []), .reg (.n :: .n :: []), .br true, .reg (.n :: .n :: [])]) (by kernel_rfl) (by intro e; cases e) (an (an (ti trivial) (an (an (decide_eq_true h699) trivial) (an (an h700 (an e701 (ti trivial))) (an (ti (ti trivial)) (an (not_t (decide_eq_false h702)) (an (ti (ti trivial)) trivial)))))) (ti trivial))
  ·injection h with h; subst h
   exact round_stop (c := ⟨[], [], []⟩) (s1 := (noptics_firstError_l0_0_e1 a0 ())) pm pn (ans := [.reg (.n :: []), .br false]) (by kernel_rfl) (by intro e; cases e) (an (an (ti trivial) (an (decide_eq_false h699) trivial)) (ti trivial))
def noptics_firstError (k : Nat) (a0 : (List Int)) : Option Int :=
  (noptics_firstError_l0_0 k a0 k 0).bind fun r704 => (match r704 with | .inl r705 => (some r705) | .inr r706 => (some 0))
theorem noptics_firstError_ok (k : Nat) (a0 : (List Int)) (r : Int) (h : noptics_firstError k a0 = some r) : VC Go.Proofs.Try.prog 65 [VV.tr (List.map vi a0) a0.length] (vi r) := by
 unfold noptics_firstError at h
 obtain ⟨r704, h703, h⟩ := bs h
 have hph703 := noptics_firstError_l0_0_ok k a0 _ _ _ h703
 cases r704 with
 | inl r705 =>
  dsimp only at h
  have e707 := (an (ti trivial) (VRun.loop hph703))
  injection h with h; subst h
  exact fun_ok pm pn Go.Proofs.Try.func65 (r0 := vi r705) (ans := [.reg (.n :: []), .reg (nN 3 []), .sub ⟨[(5, none), (6, none), (7, none)], [], []⟩ .ret (noptics_firstError_l0_0_e0 a0 r705)]) (fr := true) (by kernel_rfl) (an (an (ti trivial) (an (ti (ti (ti trivial))) e707)) (ti trivial)) (Wv.refl _)
 | inr r706 =>
  dsimp only at h
  have e708 := (an (ti trivial) (VRun.loop hph703))
  injection h with h; subst h
  exact fun_ok pm pn Go.Proofs.Try.func65 (r0 := vi 0) (ans := [.reg (.n :: []), .reg (nN 3 []), .sub ⟨[(5, none), (6, none), (7, none)], [], []⟩ (.exit 0) (noptics_firstError_l0_0_e1 a0 r706), .reg (.n :: [])]) (fr := true) (by kernel_rfl) (an (an (ti trivial) (an (an (ti (ti (ti trivial))) e708) (an (ti trivial) trivial))) (ti trivial)) (Wv.refl _)
theorem eqO0_18 (z0 : Int) : VV.tu [VV.ag [vi 0, vi 0, vi 0, vi 0, vi 0, vi 0, vi 0, vi 0], vi z0] = VV.tu [VV.ag [vi (((⟨(⟨0, 0⟩ : SFrac), (⟨0, 0⟩ : SFrac), (⟨0, 0⟩ : SFrac), (⟨0, 0⟩ : SFrac)⟩ : SMatrix).A).Num), vi (((⟨(⟨0, 0⟩ : SFrac), (⟨0, 0⟩ : SFrac), (⟨0, 0⟩ : SFrac), (⟨0, 0⟩ : SFrac)⟩ : SMatrix).A).Den), vi (((⟨(⟨0, 0⟩ : SFrac), (⟨0, 0⟩ : SFrac), (⟨0, 0⟩ : SFrac), (⟨0, 0⟩ : SFrac)⟩ : SMatrix).B).Num), vi (((⟨(⟨0, 0⟩ : SFrac), (⟨0, 0⟩ : SFrac), (⟨0, 0⟩ : SFrac), (⟨0, 0⟩ : SFrac)⟩ : SMatrix).B).Den), vi (((⟨(⟨0, 0⟩ : SFrac), (⟨0, 0⟩ : SFrac), (⟨0, 0⟩ : SFrac), (⟨0, 0⟩ : SFrac)⟩ : SMatrix).C).Num), vi (((⟨(⟨0, 0⟩ : SFrac), (⟨0, 0⟩ : SFrac), (⟨0, 0⟩ : SFrac), (⟨0, 0⟩ : SFrac)⟩ : SMatrix).C).Den), vi (((⟨(⟨0, 0⟩ : SFrac), (⟨0, 0⟩ : SFrac), (⟨0, 0⟩ : SFrac), (⟨0, 0⟩ : SFrac)⟩ : SMatrix).D).Num), vi (((⟨(⟨0, 0⟩ : SFrac), (⟨0, 0⟩ : SFrac), (⟨0, 0⟩ : SFrac), (⟨0, 0⟩ : SFrac)⟩ : SMatrix).D).Den)], vi z0] := by first | rfl | (simp only [unfr_vi, List.map_cons, List.map_nil, un_i]; done) | (simp only [unfr_vi, List.map_cons, List.map_nil, un_i]; rfl) | (simp only [unfr_vi, List.map_cons, List.map_nil, un_i, List.length_cons, List.length_nil, List.length_append]; done)
def noptics_beside_api_Matrix_ (k : Nat) (a0 : SMatrix) (a1 : (List Int)) : Option (SMatrix × Int) :=
  (noptics_firstError k a1).bind fun r713 => (if r713 = 0 then (some (a0, 0)) else (some ((⟨(⟨0, 0⟩ : SFrac), (⟨0, 0⟩ : SFrac), (⟨0, 0⟩ : SFrac), (⟨0, 0⟩ : SFrac)⟩ : SMatrix), r713)))
theorem noptics_beside_api_Matrix__ok (k : Nat) (a0 : SMatrix) (a1 : (List Int)) (r : (SMatrix × Int)) (h : noptics_beside_api_Matrix_ k a0 a1 = some r) : VC Go.Proofs.Try.prog 55 [VV.ag (c_SMatrix a0), VV.tr (List.map vi a1) a1.length] (VV.tu [VV.ag (c_SMatrix r.1), vi r.2]) := by
 unfold noptics_beside_api_Matrix_ at h
 obtain ⟨r713, h714, h⟩ := bs h
 have e715 := (ti (an (noptics_firstError_ok k a1 _ h714) (ti trivial)))
 rcases ifs h with ⟨h716, h⟩ | ⟨h716, h⟩
 ·injection h with h; subst h
  exact fun_ok pm pn Go.Proofs.Try.func55 (r0 := VV.tu [VV.ag (c_SMatrix a0), vi 0]) (ans := [.reg (nN 3 []), .reg (.n :: .call (vi r713) :: .n :: []), .reg (.n :: .n :: []), .br false, .reg (nN 3 [])]) (fr := true) (by kernel_rfl) (an (an (ti (ti (ti trivial))) (an (an e715 (an (ti (ti trivial)) (an (not_f (decide_eq_true h716)) trivial))) (an (ti (ti (ti trivial))) trivial))) (an (ti (ti (ti (ti (ti (ti (ti (ti (ti trivial))))))))) (ti trivial))) (Wv.refl _)
 ·injection h with h; subst h
  exact fun_ok pm pn Go.Proofs.Try.func55 (r0 := VV.tu [VV.ag [vi 0, vi 0, vi 0, vi 0, vi 0, vi 0, vi 0, vi 0], vi r713]) (ans := [.reg (nN 3 []), .reg (.n :: .call (vi r713) :: .n :: []), .reg (.n :: .n :: []), .br true, .reg (.n :: []), .reg (nN 4 [])]) (fr := true) (by kernel_rfl) (an (an (ti (ti (ti trivial))) (an e715 (an (ti (ti trivial)) (an (not_t (decide_eq_false h716)) (an (ti trivial) (an (ti (ti (ti (ti trivial)))) trivial)))))) (an (ti (ti (ti (ti (ti (ti (ti (ti (ti trivial))))))))) (ti trivial))) (Wv.of_eq (eqO0_18 r713))
theorem eqO0_19 (z0 : Int × Int × Int × Int × Int × Int × Int × Int × Int) : [VV.ag [vi (((⟨(⟨z0.2.1, z0.2.2.1⟩ : SFrac), (⟨z0.2.2.2.1, z0.2.2.2.2.1⟩ : SFrac), (⟨z0.2.2.2.2.2.1, z0.2.2.2.2.2.2.1⟩ : SFrac), (⟨z0.2.2.2.2.2.2.2.1, z0.2.2.2.2.2.2.2.2⟩ : SFrac)⟩ : SMatrix).A).Num), vi (((⟨(⟨z0.2.1, z0.2.2.1⟩ : SFrac), (⟨z0.2.2.2.1, z0.2.2.2.2.1⟩ : SFrac), (⟨z0.2.2.2.2.2.1, z0.2.2.2.2.2.2.1⟩ : SFrac), (⟨z0.2.2.2.2.2.2.2.1, z0.2.2.2.2.2.2.2.2⟩ : SFrac)⟩ : SMatrix).A).Den), vi (((⟨(⟨z0.2.1, z0.2.2.1⟩ : SFrac), (⟨z0.2.2.2.1, z0.2.2.2.2.1⟩ : SFrac), (⟨z0.2.2.2.2.2.1, z0.2.2.2.2.2.2.1⟩ : SFrac), (⟨z0.2.2.2.2.2.2.2.1, z0.2.2.2.2.2.2.2.2⟩ : SFrac)⟩ : SMatrix).B).Num), vi (((⟨(⟨z0.2.1, z0.2.2.1⟩ : SFrac), (⟨z0.2.2.2.1, z0.2.2.2.2.1⟩ : SFrac), (⟨z0.2.2.2.2.2.1, z0.2.2.2.2.2.2.1⟩ : SFrac), (⟨z0.2.2.2.2.2.2.2.1, z0.2.2.2.2.2.2.2.2⟩ : SFrac)⟩ : SMatrix).B).Den), vi (((⟨(⟨z0.2.1, z0.2.2.1⟩ : SFrac), (⟨z0.2.2.2.1, z0.2.2.2.2.1⟩ : SFrac), (⟨z0.2.2.2.2.2.1, z0.2.2.2.2.2.2.1⟩ : SFrac), (⟨z0.2.2.2.2.2.2.2.1, z0.2.2.2.2.2.2.2.2⟩ : SFrac)⟩ : SMatrix).C).Num), vi (((⟨(⟨z0.2.1, z0.2.2.1⟩ : SFrac), (⟨z0.2.2.2.1, z0.2.2.2.2.1⟩ : SFrac), (⟨z0.2.2.2.2.2.1, z0.2.2.2.2.2.2.1⟩ : SFrac), (⟨z0.2.2.2.2.2.2.2.1, z0.2.2.2.2.2.2.2.2⟩ : SFrac)⟩ : SMatrix).C).Den), vi (((⟨(⟨z0.2.1, z0.2.2.1⟩ : SFrac), (⟨z0.2.2.2.1, z0.2.2.2.2.1⟩ : SFrac), (⟨z0.2.2.2.2.2.1, z0.2.2.2.2.2.2.1⟩ : SFrac), (⟨z0.2.2.2.2.2.2.2.1, z0.2.2.2.2.2.2.2.2⟩ : SFrac)⟩ : SMatrix).D).Num), vi (((⟨(⟨z0.2.1, z0.2.2.1⟩ : SFrac), (⟨z0.2.2.2.1, z0.2.2.2.2.1⟩ : SFrac), (⟨z0.2.2.2.2.2.1, z0.2.2.2.2.2.2.1⟩ : SFrac), (⟨z0.2.2.2.2.2.2.2.1, z0.2.2.2.2.2.2.2.2⟩ : SFrac)⟩ : SMatrix).D).Den)], VV.tr (List.map vi ([z0.1] : List Int)) (([z0.1] : List Int).length)] = [VV.ag [vi z0.2.1, vi z0.2.2.1, vi z0.2.2.2.1, vi z0.2.2.2.2.1, vi z0.2.2.2.2.2.1, vi z0.2.2.2.2.2.2.1, vi z0.2.2.2.2.2.2.2.1, vi z0.2.2.2.2.2.2.2.2], VV.tr [vi z0.1] 1] := by first | rfl | (simp only [unfr_vi, List.map_cons, List.map_nil, un_i, un_tr, List.length_map, List.length_cons, List.length_nil]; done) | (simp only [unfr_vi, List.map_cons, List.map_nil, un_i, un_tr, List.length_map, List.length_cons, List.length_nil]; rfl) | (simp only [unfr_vi, List.map_cons, List.map_nil, un_i, un_tr, List.length_map, List.length_cons, List.length_nil, List.length_cons, List.length_nil, List.length_append]; done)
def noptics_MatrixOf_l0_0_h (a0 : (List SElement)) (b1_0 : Int) (b2_0 : Int) (b2_1 : Int) (b2_2 : Int) (b2_3 : Int) (b2_4 : Int) (b2_5 : Int) (b2_6 : Int) (b2_7 : Int) (x22 : Int) : VS := ⟨mkA [(2, VV.pt 0 0), (5, VV.pt 1 0), (6, VV.pt 2 0), (20, VV.tr (List.flatMap c_SElement a0) a0.length), (21, vi (a0.length : Int)), (22, vi x22)], [some ⟨true, 1, [vi 0, vi 0, vi 0, vi 0, vi 0, vi 0, vi 0, vi 0]⟩, some ⟨true, 1, [vi b1_0]⟩, some ⟨true, 1, [vi b2_0, vi b2_1, vi b2_2, vi b2_3, vi b2_4, vi b2_5, vi b2_6, vi b2_7]⟩], .nil⟩
def noptics_MatrixOf_l0_0_e0 (a0 : (List SElement)) (r : Int × Int × Int × Int × Int × Int × Int × Int × Int) : VS := ⟨mkA [(2, VV.pt 0 0), (5, VV.pt 1 0), (6, VV.pt 2 0)], [some ⟨true, 1, [vi 0, vi 0, vi 0, vi 0, vi 0, vi 0, vi 0, vi 0]⟩, some ⟨true, 1, [vi r.1]⟩, some ⟨true, 1, [vi r.2.1, vi r.2.2.1, vi r.2.2.2.1, vi r.2.2.2.2.1, vi r.2.2.2.2.2.1, vi r.2.2.2.2.2.2.1, vi r.2.2.2.2.2.2.2.1, vi r.2.2.2.2.2.2.2.2]⟩], .nil⟩
def noptics_MatrixOf_l0_0 (k : Nat) (a0 : (List SElement)) : Nat → Int → Int → Int → Int → Int → Int → Int → Int → Int → Int → Option (Int × Int × Int × Int × Int × Int × Int × Int × Int)
  | 0, _, _, _, _, _, _, _, _, _, _ => none
  | fuel + 1, b1_0, b2_0, b2_1, b2_2, b2_3, b2_4, b2_5, b2_6, b2_7, x22 => if x22 < (a0.length : Int) then (if 0 ≤ x22 ∧ x22 < (a0.length : Int) then (if ((a0.getD x22.toNat default).Kind) = 1 then ((noptics_whole k ((a0.getD x22.toNat default).Size)).bind fun r808 => ((n_optics_way_spaced k (⟨b1_0⟩ : Sway) (⟨(⟨b2_0, b2_1⟩ : SFrac), (⟨b2_2, b2_3⟩ : SFrac), (⟨b2_4, b2_5⟩ : SFrac), (⟨b2_6, b2_7⟩ : SFrac)⟩ : SMatrix) r808).bind fun r811 => (noptics_MatrixOf_l0_0 k a0 fuel r811.2.failed r811.1.A.Num r811.1.A.Den r811.1.B.Num r811.1.B.Den r811.1.C.Num r811.1.C.Den r811.1.D.Num r811.1.D.Den (w64 (x22 + 1))))) else (if ((a0.getD x22.toNat default).Kind) = 2 then ((noptics_whole k 2).bind fun r815 => ((noptics_whole k ((a0.getD x22.toNat default).Size)).bind fun r817 => ((n_optics_way_over k (⟨b1_0⟩ : Sway) r815 r817).bind fun r820 => ((n_optics_way_bent k r820.2 (⟨(⟨b2_0, b2_1⟩ : SFrac), (⟨b2_2, b2_3⟩ : SFrac), (⟨b2_4, b2_5⟩ : SFrac), (⟨b2_6, b2_7⟩ : SFrac)⟩ : SMatrix) r820.1).bind fun r823 => (noptics_MatrixOf_l0_0 k a0 fuel r823.2.failed r823.1.A.Num r823.1.A.Den r823.1.B.Num r823.1.B.Den r823.1.C.Num r823.1.C.Den r823.1.D.Num r823.1.D.Den (w64 (x22 + 1))))))) else (if ((a0.getD x22.toNat default).Kind) = 3 then ((noptics_whole k 1).bind fun r828 => ((noptics_whole k ((a0.getD x22.toNat default).Size)).bind fun r830 => ((n_optics_way_over k (⟨b1_0⟩ : Sway) r828 r830).bind fun r833 => ((n_optics_way_bent k r833.2 (⟨(⟨b2_0, b2_1⟩ : SFrac), (⟨b2_2, b2_3⟩ : SFrac), (⟨b2_4, b2_5⟩ : SFrac), (⟨b2_6, b2_7⟩ : SFrac)⟩ : SMatrix) r833.1).bind fun r836 => (noptics_MatrixOf_l0_0 k a0 fuel r836.2.failed r836.1.A.Num r836.1.A.Den r836.1.B.Num r836.1.B.Den r836.1.C.Num r836.1.C.Den r836.1.D.Num r836.1.D.Den (w64 (x22 + 1))))))) else (noptics_MatrixOf_l0_0 k a0 fuel b1_0 b2_0 b2_1 b2_2 b2_3 b2_4 b2_5 b2_6 b2_7 (w64 (x22 + 1)))))) else none) else (some (b1_0, b2_0, b2_1, b2_2, b2_3, b2_4, b2_5, b2_6, b2_7))
theorem noptics_MatrixOf_l0_0_ok (k : Nat) (a0 : (List SElement)) : ∀ (fuel : Nat) (b1_0 : Int) (b2_0 : Int) (b2_1 : Int) (b2_2 : Int) (b2_3 : Int) (b2_4 : Int) (b2_5 : Int) (b2_6 : Int) (b2_7 : Int) (x22 : Int) (r : Int × Int × Int × Int × Int × Int × Int × Int × Int), noptics_MatrixOf_l0_0 k a0 fuel b1_0 b2_0 b2_1 b2_2 b2_3 b2_4 b2_5 b2_6 b2_7 x22 = some r → (VLoop none Go.Proofs.Try.prog (szF Go.Proofs.Try.f13) (bodyOf Go.Proofs.Try.f13 0) (noptics_MatrixOf_l0_0_h a0 b1_0 b2_0 b2_1 b2_2 b2_3 b2_4 b2_5 b2_6 b2_7 x22) (.exit 0) (noptics_MatrixOf_l0_0_e0 a0 r)) := by
 intro fuel
 induction fuel with
 | zero => intro b1_0 b2_0 b2_1 b2_2 b2_3 b2_4 b2_5 b2_6 b2_7 x22 r h; rw [noptics_MatrixOf_l0_0.eq_1] at h; cases h
 | succ fuel ih =>
  intro b1_0 b2_0 b2_1 b2_2 b2_3 b2_4 b2_5 b2_6 b2_7 x22 r h
  rw [noptics_MatrixOf_l0_0.eq_2] at h
  rcases ifs h with ⟨h804, h⟩ | ⟨h804, h⟩
  ·obtain ⟨h805, h⟩ := ifn h
   have e806 := (show loadL Go.Proofs.Try.prog 113 (x22.toNat * 2) (List.flatMap c_SElement a0) = some (VV.ag (c_SElement (a0.getD x22.toNat default))) from ld_whole ag113 c_SElement 2 sz113 len_c_SElement a0 default h805 (by omega))
   rcases ifs h with ⟨h807, h⟩ | ⟨h807, h⟩
   ·obtain ⟨r808, h809, h⟩ := bs h
    have e810 := (noptics_whole_ok k ((a0.getD x22.toNat default).Size) _ h809)
    obtain ⟨r811, h812, h⟩ := bs h
    have e813 := (an (VM.args (n_optics_way_spaced_ok k (⟨b1_0⟩ : Sway) (⟨(⟨b2_0, b2_1⟩ : SFrac), (⟨b2_2, b2_3⟩ : SFrac), (⟨b2_4, b2_5⟩ : SFrac), (⟨b2_6, b2_7⟩ : SFrac)⟩ : SMatrix) r808 _ h812) (eqO0_15 b2_0 b2_1 b2_2 b2_3 b2_4 b2_5 b2_6 b2_7 r808) (eqO0_16 b1_0) rfl) (an (ti trivial) (ti trivial)))
    have h2 := ih _ _ _ _ _ _ _ _ _ _ _ h
    obtain ⟨q, hv, hq⟩ := pkR (rd := none) (P := Go.Proofs.Try.prog) (fn := Go.Proofs.Try.f13) (k := 0) (s := (noptics_MatrixOf_l0_0_h a0 b1_0 b2_0 b2_1 b2_2 b2_3 b2_4 b2_5 b2_6 b2_7 x22)) (ans := [.reg (.n :: []), .br true, .reg (.n :: .v (VV.ag (c_SElement (a0.getD x22.toNat default))) :: .n :: .n :: []), .reg (.n :: .n :: []), .reg (.n :: .n :: []), .br true, .reg (arO0_3 r808 r811), .reg (.n :: .n :: [])]) (c := ⟨[(2, none), (5, none), (6, none), (20, none), (21, none), (22, none)], [none, none, none], []⟩) (e := .normal) (s1 := (noptics_MatrixOf_l0_0_h a0 r811.2.failed r811.1.A.Num r811.1.A.Den r811.1.B.Num r811.1.B.Den r811.1.C.Num r811.1.C.Den r811.1.D.Num r811.1.D.Den (w64 (x22 + 1)))) (an (an (ti trivial) (an (an (decide_eq_true h804) trivial) (an (an (an h805 (an e806 (ti (ti trivial)))) (an (ti (ti trivial)) (an (ti (ti trivial)) (an (decide_eq_true h807) (ti (ti (ti (an e810 (an e813 (ti trivial)))))))))) (ti (ti trivial))))) (ti trivial)) (by kernel_rfl)
    exact round_next pm pn hv hq h2
   ·rcases ifs h with ⟨h814, h⟩ | ⟨h814, h⟩
    ·obtain ⟨r815, h816, h⟩ := bs h
     obtain ⟨r817, h818, h⟩ := bs h
     have e819 := (noptics_whole_ok k ((a0.getD x22.toNat default).Size) _ h818)
     obtain ⟨r820, h821, h⟩ := bs h
     have e822 := (an (VM.args (n_optics_way_over_ok k (⟨b1_0⟩ : Sway) r815 r817 _ h821) rfl (eqO0_16 b1_0) rfl) (an (ti trivial) (ti trivial)))
     obtain ⟨r823, h824, h⟩ := bs h
     have e825 := (an (VM.args (n_optics_way_bent_ok k r820.2 (⟨(⟨b2_0, b2_1⟩ : SFrac), (⟨b2_2, b2_3⟩ : SFrac), (⟨b2_4, b2_5⟩ : SFrac), (⟨b2_6, b2_7⟩ : SFrac)⟩ : SMatrix) r820.1 _ h824) (eqO0_17 b2_0 b2_1 b2_2 b2_3 b2_4 b2_5 b2_6 b2_7 r820) rfl rfl) (an (ti trivial) (ti trivial)))
     have e826 := (ti (an (noptics_whole_ok k 2 _ h816) (ti (ti (an e819 (an e822 (an e825 (ti trivial))))))))
     have h2 := ih _ _ _ _ _ _ _ _ _ _ _ h
     obtain ⟨q, hv, hq⟩ := pkR (rd := none) (P := Go.Proofs.Try.prog) (fn := Go.Proofs.Try.f13) (k := 0) (s := (noptics_MatrixOf_l0_0_h a0 b1_0 b2_0 b2_1 b2_2 b2_3 b2_4 b2_5 b2_6 b2_7 x22)) (ans := [.reg (.n :: []), .br true, .reg (.n :: .v (VV.ag (c_SElement (a0.getD x22.toNat default))) :: .n :: .n :: []), .reg (.n :: .n :: []), .reg (.n :: .n :: []), .br false, .reg (.n :: .n :: []), .br true, .reg (arO0_4 r815 r817 r820 r823), .reg (.n :: .n :: [])]) (c := ⟨[(2, none), (5, none), (6, none), (20, none), (21, none), (22, none)], [none, none, none], []⟩) (e := .normal) (s1 := (noptics_MatrixOf_l0_0_h a0 r823.2.failed r823.1.A.Num r823.1.A.Den r823.1.B.Num r823.1.B.Den r823.1.C.Num r823.1.C.Den r823.1.D.Num r823.1.D.Den (w64 (x22 + 1)))) (an (an (ti trivial) (an (an (decide_eq_true h804) trivial) (an (an (an h805 (an e806 (ti (ti trivial)))) (an (ti (ti trivial)) (an (ti (ti trivial)) (an (decide_eq_false h807) (an (ti (ti trivial)) (an (decide_eq_true h814) e826)))))) (ti (ti trivial))))) (ti trivial)) (by kernel_rfl)
     exact round_next pm pn hv hq h2
    ·rcases ifs h with ⟨h827, h⟩ | ⟨h827, h⟩
     ·obtain ⟨r828, h829, h⟩ := bs h
      obtain ⟨r830, h831, h⟩ := bs h
      have e832 := (noptics_whole_ok k ((a0.getD x22.toNat default).Size) _ h831)
      obtain ⟨r833, h834, h⟩ := bs h
      have e835 := (an (VM.args (n_optics_way_over_ok k (⟨b1_0⟩ : Sway) r828 r830 _ h834) rfl (eqO0_16 b1_0) rfl) (an (ti trivial) (ti trivial)))
      obtain ⟨r836, h837, h⟩ := bs h
      have e838 := (an (VM.args (n_optics_way_bent_ok k r833.2 (⟨(⟨b2_0, b2_1⟩ : SFrac), (⟨b2_2, b2_3⟩ : SFrac), (⟨b2_4, b2_5⟩ : SFrac), (⟨b2_6, b2_7⟩ : SFrac)⟩ : SMatrix) r833.1 _ h837) (eqO0_17 b2_0 b2_1 b2_2 b2_3 b2_4 b2_5 b2_6 b2_7 r833) rfl rfl) (an (ti trivial) (ti trivial)))
      have e839 := (ti (an (noptics_whole_ok k 1 _ h829) (ti (ti (an e832 (an e835 (an e838 (ti trivial))))))))
      have h2 := ih _ _ _ _ _ _ _ _ _ _ _ h
      obtain ⟨q, hv, hq⟩ := pkR (rd := none) (P := Go.Proofs.Try.prog) (fn := Go.Proofs.Try.f13) (k := 0) (s := (noptics_MatrixOf_l0_0_h a0 b1_0 b2_0 b2_1 b2_2 b2_3 b2_4 b2_5 b2_6 b2_7 x22)) (ans := [.reg (.n :: []), .br true, .reg (.n :: .v (VV.ag (c_SElement (a0.getD x22.toNat default))) :: .n :: .n :: []), .reg (.n :: .n :: []), .reg (.n :: .n :: []), .br false, .reg (.n :: .n :: []), .br false, .reg (.n :: .n :: []), .br true, .reg (arO0_4 r828 r830 r833 r836), .reg (.n :: .n :: [])]) (c := ⟨[(2, none), (5, none), (6, none), (20, none), (21, none), (22, none)], [none, none, none], []⟩) (e := .normal) (s1 := (noptics_MatrixOf_l0_0_h a0 r836.2.failed r836.1.A.Num r836.1.A.Den r836.1.B.Num r836.1.B.Den r836.1.C.Num r836.1.C.Den r836.1.D.Num r836.1.D.Den (w64 (x22 + 1)))) (an (an (ti trivial) (an (an (decide_eq_true h804) trivial) (an (an (an h805 (an e806 (ti (ti trivial)))) (an (ti (ti trivial)) (an (ti (ti trivial)) (an (decide_eq_false h807) (an (ti (ti trivial)) (an (decide_eq_false h814) (an (ti (ti trivial)) (an (decide_eq_true h827) e839)))))))) (ti (ti trivial))))) (ti trivial)) (by kernel_rfl)
      exact round_next pm pn hv hq h2
     ·have h2 := ih _ _ _ _ _ _ _ _ _ _ _ h
      obtain ⟨q, hv, hq⟩ := pkR (rd := none) (P := Go.Proofs.Try.prog) (fn := Go.Proofs.Try.f13) (k := 0) (s := (noptics_MatrixOf_l0_0_h a0 b1_0 b2_0 b2_1 b2_2 b2_3 b2_4 b2_5 b2_6 b2_7 x22)) (ans := [.reg (.n :: []), .br true, .reg (.n :: .v (VV.ag (c_SElement (a0.getD x22.toNat default))) :: .n :: .n :: []), .reg (.n :: .n :: []), .reg (.n :: .n :: []), .br false, .reg (.n :: .n :: []), .br false, .reg (.n :: .n :: []), .br false, .reg (.n :: .n :: [])]) (c := ⟨[(2, none), (5, none), (6, none), (20, none), (21, none), (22, none)], [none, none, none], []⟩) (e := .normal) (s1 := (noptics_MatrixOf_l0_0_h a0 b1_0 b2_0 b2_1 b2_2 b2_3 b2_4 b2_5 b2_6 b2_7 (w64 (x22 + 1)))) (an (an (ti trivial) (an (an (decide_eq_true h804) trivial) (an (an (an h805 (an e806 (ti (ti trivial)))) (an (ti (ti trivial)) (an (ti (ti trivial)) (an (decide_eq_false h807) (an (ti (ti trivial)) (an (decide_eq_false h814) (an (ti (ti trivial)) (an (decide_eq_false h827) trivial)))))))) (ti (ti trivial))))) (ti trivial)) (by kernel_rfl)
      exact round_next pm pn hv hq h2
  ·injection h with h; subst h
   exact round_stop (c := ⟨[(2, none), (5, none), (6, none)], [none, none, none], []⟩) (s1 := (noptics_MatrixOf_l0_0_e0 a0 (b1_0, b2_0, b2_1, b2_2, b2_3, b2_4, b2_5, b2_6, b2_7))) pm pn (ans := [.reg (.n :: []), .br false]) (by kernel_rfl) (by intro e; cases e) (an (an (ti trivial) (an (decide_eq_false h804) trivial)) (ti trivial))
def arO0_5 (z0 : SFrac) (z1 : SFrac) : List Ans := (.call (VV.ag (c_SFrac z0)) :: .call (VV.ag (c_SFrac z1)) :: .call (VV.ag (c_SFrac z1)) :: .call (VV.ag (c_SFrac z0)) :: nN 3 [])
def noptics_MatrixOf (k : Nat) (a0 : (List SElement)) : Option (SMatrix × Int) :=
  (noptics_CheckElements k a0).bind fun r721 => (if r721 = 0 then ((noptics_whole k 1).bind fun r725 => ((noptics_whole k 0).bind fun r727 => ((noptics_MatrixOf_l0_0 k a0 k 0 r725.Num r725.Den r727.Num r727.Den r727.Num r727.Den r725.Num r725.Den 0).bind fun r841 => ((noptics_beside_api_Matrix_ k (⟨(⟨r841.2.1, r841.2.2.1⟩ : SFrac), (⟨r841.2.2.2.1, r841.2.2.2.2.1⟩ : SFrac), (⟨r841.2.2.2.2.2.1, r841.2.2.2.2.2.2.1⟩ : SFrac), (⟨r841.2.2.2.2.2.2.2.1, r841.2.2.2.2.2.2.2.2⟩ : SFrac)⟩ : SMatrix) ([r841.1] : List Int)).bind fun r843 => (some (r843.1, r843.2)))))) else (some ((⟨(⟨0, 0⟩ : SFrac), (⟨0, 0⟩ : SFrac), (⟨0, 0⟩ : SFrac), (⟨0, 0⟩ : SFrac)⟩ : SMatrix), r721)))
theorem noptics_MatrixOf_ok (k : Nat) (a0 : (List SElement)) (r : (SMatrix × Int)) (h : noptics_MatrixOf k a0 = some r) : VC Go.Proofs.Try.prog 13 [VV.tr (List.flatMap c_SElement a0) a0.length] (VV.tu [VV.ag (c_SMatrix r.1), vi r.2]) := by
 unfold noptics_MatrixOf at h
 obtain ⟨r721, h722, h⟩ := bs h
 have e723 := (ti (an (noptics_CheckElements_ok k a0 _ h722) (ti trivial)))
 rcases ifs h with ⟨h724, h⟩ | ⟨h724, h⟩
 ·obtain ⟨r725, h726, h⟩ := bs h
  obtain ⟨r727, h728, h⟩ := bs h
  have e731 := (an (noptics_whole_ok k 1 _ h726) (an (noptics_whole_ok k 0 _ h728) (an (noptics_whole_ok k 0 _ h728) (an (noptics_whole_ok k 1 _ h726) (ti (ti (ti trivial)))))))
  obtain ⟨r841, h840, h⟩ := bs h
  have hph840 := noptics_MatrixOf_l0_0_ok k a0 _ _ _ _ _ _ _ _ _ _ _ _ h840
  have e842 := (an (ti trivial) (VRun.loop hph840))
  obtain ⟨r843, h844, h⟩ := bs h
  have e845 := (VC.args (noptics_beside_api_Matrix__ok k (⟨(⟨r841.2.1, r841.2.2.1⟩ : SFrac), (⟨r841.2.2.2.1, r841.2.2.2.2.1⟩ : SFrac), (⟨r841.2.2.2.2.2.1, r841.2.2.2.2.2.2.1⟩ : SFrac), (⟨r841.2.2.2.2.2.2.2.1, r841.2.2.2.2.2.2.2.2⟩ : SFrac)⟩ : SMatrix) ([r841.1] : List Int) _ h844) (eqO0_19 r841))
  have e846 := (ti (ti (ti (ti (an e845 (ti (ti (ti (ti trivial)))))))))
  injection h with h; subst h
  exact fun_ok pm pn Go.Proofs.Try.func13 (r0 := VV.tu [VV.ag (c_SMatrix r843.1), vi r843.2]) (ans := [.reg (.n :: .n :: []), .reg (.n :: .call (vi r721) :: .n :: []), .reg (.n :: .n :: []), .br false, .reg (.n :: []), .reg (arO0_5 r725 r727), .reg (nN 3 []), .sub ⟨[(2, none), (5, none), (6, none), (20, none), (21, none), (22, none)], [none, none, none], []⟩ (.exit 0) (noptics_MatrixOf_l0_0_e0 a0 r841), .reg (nN 3 (.v VV.any :: .call (VV.tu [VV.ag (c_SMatrix r843.1), vi r843.2]) :: nN 4 []))]) (fr := true) (by kernel_rfl) (an (an (ti (ti trivial)) (an (an e723 (an (ti (ti trivial)) (an (not_f (decide_eq_true h724)) trivial))) (an (ti trivial) (an e731 (an (an (ti (ti (ti trivial))) e842) (an e846 trivial)))))) (an (ti (ti (ti (ti (ti (ti (ti (ti (ti trivial))))))))) (ti trivial))) (Wv.refl _)
 ·injection h with h; subst h
  exact fun_ok pm pn Go.Proofs.Try.func13 (r0 := VV.tu [VV.ag [vi 0, vi 0, vi 0, vi 0, vi 0, vi 0, vi 0, vi 0], vi r721]) (ans := [.reg (.n :: .n :: []), .reg (.n :: .call (vi r721) :: .n :: []), .reg (.n :: .n :: []), .br true, .reg (nN 4 [])]) (fr := true) (by kernel_rfl) (an (an (ti (ti trivial)) (an e723 (an (ti (ti trivial)) (an (not_t (decide_eq_false h724)) (an (ti (ti (ti (ti trivial)))) trivial))))) (an (ti (ti (ti (ti (ti (ti (ti (ti (ti trivial))))))))) (ti trivial))) (Wv.of_eq (eqO0_18 r721))
theorem eqO0_20 (z0 : Int) (z1 : Int) (z2 : Int) : [VV.tr (List.flatMap c_SElement ([(⟨2, z0⟩ : SElement), (⟨1, z1⟩ : SElement), (⟨2, z2⟩ : SElement)] : List SElement)) (([(⟨2, z0⟩ : SElement), (⟨1, z1⟩ : SElement), (⟨2, z2⟩ : SElement)] : List SElement).length)] = [VV.tr [vi 2, vi z0, vi 1, vi z1, vi 2, vi z2] 3] := by first | rfl | (simp only [unfr_vi, List.map_cons, List.map_nil, un_i, un_tr, List.length_cons, List.length_nil, unfr_c_SElement]; done) | (simp only [unfr_vi, List.map_cons, List.map_nil, un_i, un_tr, List.length_cons, List.length_nil, unfr_c_SElement]; rfl) | (simp only [unfr_vi, List.map_cons, List.map_nil, un_i, un_tr, List.length_cons, List.length_nil, unfr_c_SElement, c_SElement, List.length_cons, List.length_nil, List.length_append]; done)
def noptics_checkFracs_l0_0_h (a0 : (List SFrac)) (x8 : Int) : VS := ⟨mkA [(6, VV.tr (List.flatMap c_SFrac a0) a0.length), (7, vi (a0.length : Int)), (8, vi x8)], [], .nil⟩
def noptics_checkFracs_l0_0_e0 (a0 : (List SFrac)) (r : Int) : VS := ⟨mkA [(2, vi r)], [], .nil⟩
def noptics_checkFracs_l0_0_e1 (a0 : (List SFrac)) (r : Unit) : VS := ⟨mkA [], [], .nil⟩
def noptics_checkFracs_l0_0 (k : Nat) (a0 : (List SFrac)) : Nat → Int → Option (Sum Int Unit)
  | 0, _ => none
  | fuel + 1, x8 => if x8 < (a0.length : Int) then (if 0 ≤ x8 ∧ x8 < (a0.length : Int) then ((nnumber_CheckFrac k (a0.getD x8.toNat default)).bind fun r898 => (if r898 = 0 then (noptics_checkFracs_l0_0 k a0 fuel (w64 (x8 + 1))) else (some (.inl r898)))) else none) else (some (.inr ()))
theorem noptics_checkFracs_l0_0_ok (k : Nat) (a0 : (List SFrac)) : ∀ (fuel : Nat) (x8 : Int) (r : Sum Int Unit), noptics_checkFracs_l0_0 k a0 fuel x8 = some r → (match r with | .inl r => VLoop none Go.Proofs.Try.prog (szF Go.Proofs.Try.f78) (bodyOf Go.Proofs.Try.f78 0) (noptics_checkFracs_l0_0_h a0 x8) .ret (noptics_checkFracs_l0_0_e0 a0 r) | .inr r => VLoop none Go.Proofs.Try.prog (szF Go.Proofs.Try.f78) (bodyOf Go.Proofs.Try.f78 0) (noptics_checkFracs_l0_0_h a0 x8) (.exit 0) (noptics_checkFracs_l0_0_e1 a0 r)) := by
 intro fuel
 induction fuel with
 | zero => intro x8 r h; rw [noptics_checkFracs_l0_0.eq_1] at h; cases h
 | succ fuel ih =>
  intro x8 r h
  rw [noptics_checkFracs_l0_0.eq_2] at h
  rcases ifs h with ⟨h895, h⟩ | ⟨h895, h⟩
  ·obtain ⟨h896, h⟩ := ifn h
   have e897 := (show loadL Go.Proofs.Try.prog 26 (x8.toNat * 2) (List.flatMap c_SFrac a0) = some (VV.ag (c_SFrac (a0.getD x8.toNat default))) from ld_whole ag26 c_SFrac 2 sz26 len_c_SFrac a0 default h896 (by omega))
   obtain ⟨r898, h899, h⟩ := bs h
   have e900 := (nnumber_CheckFrac_ok k (a0.getD x8.toNat default) _ h899)
   rcases ifs h with ⟨h901, h⟩ | ⟨h901, h⟩
   ·have h2 := ih _ _ h
    obtain ⟨q, hv, hq⟩ := pkR (rd := none) (P := Go.Proofs.Try.prog) (fn := Go.Proofs.Try.f78) (k := 0) (s := (noptics_checkFracs_l0_0_h a0 x8)) (ans := [.reg (.n :: []), .br true, .reg (.n :: .v (VV.ag (c_SFrac (a0.getD x8.toNat default))) :: .n :: .n :: []), .reg (.n :: .call (vi r898) :: .n :: []), .reg (.n :: .n :: []), .br false, .reg (.n :: .n :: [])]) (c := ⟨[(6, none), (7, none), (8, none)], [], []⟩) (e := .normal) (s1 := (noptics_checkFracs_l0_0_h a0 (w64 (x8 + 1)))) (an (an (ti trivial) (an (an (decide_eq_true h895) trivial) (an (an (an h896 (an e897 (ti (ti trivial)))) (an (ti (an e900 (ti trivial))) (an (ti (ti trivial)) (an (not_f (decide_eq_true h901)) trivial)))) (ti (ti trivial))))) (ti trivial)) (by kernel_rfl)
    cases r with
    | inl r => exact round_next pm pn hv hq h2
    | inr r =>
     exact round_next pm pn hv hq h2
   ·injection h with h; subst h
    exact round_stop (c := ⟨[(2, none)], [], []⟩) (s1 := (noptics_checkFracs_l0_0_e0 a0 r898)) pm pn (ans := [.reg (.n :: []), .br true, .reg (.n :: .v (VV.ag (c_SFrac (a0.getD x8.toNat default))) :: .n :: .n :: []), .reg (.n :: .call (vi r898) :: .n :: []), .reg (.n :: .n :: []), .br true, .reg (.n :: .n :: [])]) (by kernel_rfl) (by intro e; cases e) (an (an (ti trivial) (an (an (decide_eq_true h895) trivial) (an (an h896 (an e897 (ti (ti trivial)))) (an (ti (an e900 (ti trivial))) (an (ti (ti trivial)) (an (not_t (decide_eq_false h901)) (an (ti (ti trivial)) trivial))))))) (ti trivial))
  ·injection h with h; subst h
   exact round_stop (c := ⟨[], [], []⟩) (s1 := (noptics_checkFracs_l0_0_e1 a0 ())) pm pn (ans := [.reg (.n :: []), .br false]) (by kernel_rfl) (by intro e; cases e) (an (an (ti trivial) (an (decide_eq_false h895) trivial)) (ti trivial))
def noptics_checkFracs (k : Nat) (a0 : (List SFrac)) : Option Int :=
  (noptics_checkFracs_l0_0 k a0 k 0).bind fun r903 => (match r903 with | .inl r904 => (some r904) | .inr r905 => (some 0))
theorem noptics_checkFracs_ok (k : Nat) (a0 : (List SFrac)) (r : Int) (h : noptics_checkFracs k a0 = some r) : VC Go.Proofs.Try.prog 78 [VV.tr (List.flatMap c_SFrac a0) a0.length] (vi r) := by
 unfold noptics_checkFracs at h
 obtain ⟨r903, h902, h⟩ := bs h
 have hph902 := noptics_checkFracs_l0_0_ok k a0 _ _ _ h902
 cases r903 with
 | inl r904 =>
  dsimp only at h
  have e906 := (an (ti trivial) (VRun.loop hph902))
  injection h with h; subst h
  exact fun_ok pm pn Go.Proofs.Try.func78 (r0 := vi r904) (ans := [.reg (.n :: []), .reg (nN 3 []), .sub ⟨[(6, none), (7, none), (8, none)], [], []⟩ .ret (noptics_checkFracs_l0_0_e0 a0 r904)]) (fr := true) (by kernel_rfl) (an (an (ti trivial) (an (ti (ti (ti trivial))) e906)) (ti trivial)) (Wv.refl _)
 | inr r905 =>
  dsimp only at h
  have e907 := (an (ti trivial) (VRun.loop hph902))
  injection h with h; subst h
  exact fun_ok pm pn Go.Proofs.Try.func78 (r0 := vi 0) (ans := [.reg (.n :: []), .reg (nN 3 []), .sub ⟨[(6, none), (7, none), (8, none)], [], []⟩ (.exit 0) (noptics_checkFracs_l0_0_e1 a0 r905), .reg (.n :: [])]) (fr := true) (by kernel_rfl) (an (an (ti trivial) (an (an (ti (ti (ti trivial))) e907) (an (ti trivial) trivial))) (ti trivial)) (Wv.refl _)
theorem eqO0_21 (z0 : SMatrix) : [VV.tr (List.flatMap c_SFrac ([z0.A, z0.B, z0.C, z0.D] : List SFrac)) (([z0.A, z0.B, z0.C, z0.D] : List SFrac).length)] = [VV.tr [vi z0.A.Num, vi z0.A.Den, vi z0.B.Num, vi z0.B.Den, vi z0.C.Num, vi z0.C.Den, vi z0.D.Num, vi z0.D.Den] 4] := by first | rfl | (simp only [unfr_vi, List.map_cons, List.map_nil, un_i, un_tr, List.length_cons, List.length_nil, unfr_c_SFrac]; done) | (simp only [unfr_vi, List.map_cons, List.map_nil, un_i, un_tr, List.length_cons, List.length_nil, unfr_c_SFrac]; rfl) | (simp only [unfr_vi, List.map_cons, List.map_nil, un_i, un_tr, List.length_cons, List.length_nil, unfr_c_SFrac, c_SFrac, List.length_cons, List.length_nil, List.length_append]; done)
def noptics_checkMatrix (k : Nat) (a0 : SMatrix) : Option Int :=
  (noptics_checkFracs k ([a0.A, a0.B, a0.C, a0.D] : List SFrac)).bind fun r912 => (some r912)
theorem noptics_checkMatrix_ok (k : Nat) (a0 : SMatrix) (r : Int) (h : noptics_checkMatrix k a0 = some r) : VC Go.Proofs.Try.prog 61 [VV.ag (c_SMatrix a0)] (vi r) := by
 unfold noptics_checkMatrix at h
 obtain ⟨r912, h913, h⟩ := bs h
 have e914 := (VC.args (noptics_checkFracs_ok k ([a0.A, a0.B, a0.C, a0.D] : List SFrac) _ h913) (eqO0_21 a0))
 have e915 := (ti (ti (ti (ti (ti (ti (ti (ti (ti (an e914 (ti trivial)))))))))))
 injection h with h; subst h
 exact fun_ok pm pn Go.Proofs.Try.func61 (r0 := vi r912) (ans := [.reg (.n :: .n :: []), .reg (nN 8 (.v VV.any :: .call (vi r912) :: .n :: []))]) (fr := true) (by kernel_rfl) (an (an (ti (ti trivial)) (an e915 trivial)) (ti trivial)) (Wv.refl _)
theorem eqO0_22 (z0 : SFrac) (z1 : SMatrix) : [VV.pt 0 0, VV.ag (c_SFrac (⟨w64 (0 - z0.Num), z0.Den⟩ : SFrac)), VV.ag (c_SFrac z1.C)] = [VV.pt 0 0, VV.ag [vi (w64 (0 - z0.Num)), vi z0.Den], VV.ag (c_SFrac z1.C)] := by first | rfl | (simp only [unfr_vi, List.map_cons, List.map_nil, un_i, unfr_c_SFrac]; done) | (simp only [unfr_vi, List.map_cons, List.map_nil, un_i, unfr_c_SFrac]; rfl) | (simp only [unfr_vi, List.map_cons, List.map_nil, un_i, unfr_c_SFrac, c_SFrac, List.length_cons, List.length_nil, List.length_append]; done)
def noptics_beside_api_Frac_ (k : Nat) (a0 : SFrac) (a1 : (List Int)) : Option (SFrac × Int) :=
  (noptics_firstError k a1).bind fun r927 => (if r927 = 0 then (some (a0, 0)) else (some ((⟨0, 0⟩ : SFrac), r927)))
theorem noptics_beside_api_Frac__ok (k : Nat) (a0 : SFrac) (a1 : (List Int)) (r : (SFrac × Int)) (h : noptics_beside_api_Frac_ k a0 a1 = some r) : VC Go.Proofs.Try.prog 64 [VV.ag (c_SFrac a0), VV.tr (List.map vi a1) a1.length] (VV.tu [VV.ag (c_SFrac r.1), vi r.2]) := by
 unfold noptics_beside_api_Frac_ at h
 obtain ⟨r927, h928, h⟩ := bs h
 have e929 := (ti (an (noptics_firstError_ok k a1 _ h928) (ti trivial)))
 rcases ifs h with ⟨h930, h⟩ | ⟨h930, h⟩
 ·injection h with h; subst h
  exact fun_ok pm pn Go.Proofs.Try.func64 (r0 := VV.tu [VV.ag (c_SFrac a0), vi 0]) (ans := [.reg (nN 3 []), .reg (.n :: .call (vi r927) :: .n :: []), .reg (.n :: .n :: []), .br false, .reg (nN 3 [])]) (fr := true) (by kernel_rfl) (an (an (ti (ti (ti trivial))) (an (an e929 (an (ti (ti trivial)) (an (not_f (decide_eq_true h930)) trivial))) (an (ti (ti (ti trivial))) trivial))) (an (ti (ti (ti trivial))) (ti trivial))) (Wv.refl _)
 ·injection h with h; subst h
  exact fun_ok pm pn Go.Proofs.Try.func64 (r0 := VV.tu [VV.ag [vi 0, vi 0], vi r927]) (ans := [.reg (nN 3 []), .reg (.n :: .call (vi r927) :: .n :: []), .reg (.n :: .n :: []), .br true, .reg (.n :: []), .reg (nN 4 [])]) (fr := true) (by kernel_rfl) (an (an (ti (ti (ti trivial))) (an e929 (an (ti (ti trivial)) (an (not_t (decide_eq_false h930)) (an (ti trivial) (an (ti (ti (ti (ti trivial)))) trivial)))))) (an (ti (ti (ti trivial))) (ti trivial))) (Wv.of_eq (eqO0_7 r927))
theorem eqO0_23 (z0 : (SFrac × Sway)) : [VV.ag (c_SFrac z0.1), VV.tr (List.map vi ([z0.2.failed] : List Int)) (([z0.2.failed] : List Int).length)] = [VV.ag (c_SFrac z0.1), VV.tr [vi z0.2.failed] 1] := by first | rfl | (simp only [unfr_vi, List.map_cons, List.map_nil, un_i, un_tr, List.length_map, List.length_cons, List.length_nil, unfr_c_SFrac]; done) | (simp only [unfr_vi, List.map_cons, List.map_nil, un_i, un_tr, List.length_map, List.length_cons, List.length_nil, unfr_c_SFrac]; rfl) | (simp only [unfr_vi, List.map_cons, List.map_nil, un_i, un_tr, List.length_map, List.length_cons, List.length_nil, unfr_c_SFrac, c_SFrac, List.length_cons, List.length_nil, List.length_append]; done)
def arO0_6 (z0 : (SFrac × Sway)) : List Ans := (nN 3 (.mod1 3 (VV.ag (c_SFrac z0.1)) ⟨true, bigH, [vi z0.2.failed]⟩ :: .n :: .n :: []))
def noptics_overC (k : Nat) (a0 : SFrac) (a1 : SMatrix) : Option (SFrac × Int) :=
  (noptics_checkMatrix k a1).bind fun r935 => (if r935 = 0 then ((n_optics_way_over k (⟨0⟩ : Sway) (⟨w64 (0 - a0.Num), a0.Den⟩ : SFrac) a1.C).bind fun r939 => ((noptics_beside_api_Frac_ k r939.1 ([r939.2.failed] : List Int)).bind fun r942 => (some (r942.1, r942.2)))) else (some ((⟨0, 0⟩ : SFrac), r935)))
theorem noptics_overC_ok (k : Nat) (a0 : SFrac) (a1 : SMatrix) (r : (SFrac × Int)) (h : noptics_overC k a0 a1 = some r) : VC Go.Proofs.Try.prog 115 [VV.ag (c_SFrac a0), VV.ag (c_SMatrix a1)] (VV.tu [VV.ag (c_SFrac r.1), vi r.2]) := by
 unfold noptics_overC at h
 obtain ⟨r935, h936, h⟩ := bs h
 have e937 := (ti (an (noptics_checkMatrix_ok k a1 _ h936) (ti trivial)))
 rcases ifs h with ⟨h938, h⟩ | ⟨h938, h⟩
 ·obtain ⟨r939, h940, h⟩ := bs h
  have e941 := (an (VM.args (n_optics_way_over_ok k (⟨0⟩ : Sway) (⟨w64 (0 - a0.Num), a0.Den⟩ : SFrac) a1.C _ h940) (eqO0_22 a0 a1) eqO0_11 rfl) (an (ti trivial) (ti trivial)))
  obtain ⟨r942, h943, h⟩ := bs h
  have e944 := (VC.args (noptics_beside_api_Frac__ok k r939.1 ([r939.2.failed] : List Int) _ h943) (eqO0_23 r939))
  have e945 := (ti (ti (ti (ti (an e944 (ti (ti (ti (ti trivial)))))))))
  injection h with h; subst h
  exact fun_ok pm pn Go.Proofs.Try.func115 (r0 := VV.tu [VV.ag (c_SFrac r942.1), vi r942.2]) (ans := [.reg (nN 4 []), .reg (.n :: .call (vi r935) :: .n :: []), .reg (.n :: .n :: []), .br false, .reg (nN 5 []), .reg (.n :: []), .reg (arO0_6 r939), .reg (nN 3 (.v VV.any :: .call (VV.tu [VV.ag (c_SFrac r942.1), vi r942.2]) :: nN 4 []))]) (fr := true) (by kernel_rfl) (an (an (ti (ti (ti (ti trivial)))) (an (an e937 (an (ti (ti trivial)) (an (not_f (decide_eq_true h938)) trivial))) (an (ti (ti (ti (ti (ti trivial))))) (an (ti trivial) (an (ti (ti (ti (an e941 (ti (ti trivial)))))) (an e945 trivial)))))) (an (ti (ti (ti trivial))) (ti trivial))) (Wv.refl _)
 ·injection h with h; subst h
  exact fun_ok pm pn Go.Proofs.Try.func115 (r0 := VV.tu [VV.ag [vi 0, vi 0], vi r935]) (ans := [.reg (nN 4 []), .reg (.n :: .call (vi r935) :: .n :: []), .reg (.n :: .n :: []), .br true, .reg (nN 4 [])]) (fr := true) (by kernel_rfl) (an (an (ti (ti (ti (ti trivial)))) (an e937 (an (ti (ti trivial)) (an (not_t (decide_eq_false h938)) (an (ti (ti (ti (ti trivial)))) trivial))))) (an (ti (ti (ti trivial))) (ti trivial))) (Wv.of_eq (eqO0_7 r935))
def arO0_7 (z0 : SFrac) (z1 : (SFrac × Int)) : List Ans := (.call (VV.ag (c_SFrac z0)) :: .n :: .call (VV.tu [VV.ag (c_SFrac z1.1), vi z1.2]) :: nN 4 [])
def noptics_Focal (k : Nat) (a0 : SMatrix) : Option (SFrac × Int) :=
  (noptics_whole k 1).bind fun r949 => ((noptics_overC k r949 a0).bind fun r951 => (some (r951.1, r951.2)))
theorem noptics_Focal_ok (k : Nat) (a0 : SMatrix) (r : (SFrac × Int)) (h : noptics_Focal k a0 = some r) : VC Go.Proofs.Try.prog 100 [VV.ag (c_SMatrix a0)] (VV.tu [VV.ag (c_SFrac r.1), vi r.2]) := by
 unfold noptics_Focal at h
 obtain ⟨r949, h950, h⟩ := bs h
 obtain ⟨r951, h952, h⟩ := bs h
 have e953 := (an (noptics_whole_ok k 1 _ h950) (ti (an (noptics_overC_ok k r949 a0 _ h952) (ti (ti (ti (ti trivial)))))))
 injection h with h; subst h
 exact fun_ok pm pn Go.Proofs.Try.func100 (r0 := VV.tu [VV.ag (c_SFrac r951.1), vi r951.2]) (ans := [.reg (nN 3 []), .reg (arO0_7 r949 r951)]) (fr := true) (by kernel_rfl) (an (an (ti (ti (ti trivial))) (an e953 trivial)) (an (ti (ti (ti trivial))) (ti trivial))) (Wv.refl _)
def noptics_BackFocus (k : Nat) (a0 : SMatrix) : Option (SFrac × Int) :=
  (noptics_overC k a0.A a0).bind fun r960 => (some (r960.1, r960.2))
theorem noptics_BackFocus_ok (k : Nat) (a0 : SMatrix) (r : (SFrac × Int)) (h : noptics_BackFocus k a0 = some r) : VC Go.Proofs.Try.prog 101 [VV.ag (c_SMatrix a0)] (VV.tu [VV.ag (c_SFrac r.1), vi r.2]) := by
 unfold noptics_BackFocus at h
 obtain ⟨r960, h961, h⟩ := bs h
 have e962 := (ti (ti (ti (an (noptics_overC_ok k a0.A a0 _ h961) (ti (ti (ti (ti trivial))))))))
 injection h with h; subst h
 exact fun_ok pm pn Go.Proofs.Try.func101 (r0 := VV.tu [VV.ag (c_SFrac r960.1), vi r960.2]) (ans := [.reg (nN 3 []), .reg (nN 3 (.call (VV.tu [VV.ag (c_SFrac r960.1), vi r960.2]) :: nN 4 []))]) (fr := true) (by kernel_rfl) (an (an (ti (ti (ti trivial))) (an e962 trivial)) (an (ti (ti (ti trivial))) (ti trivial))) (Wv.refl _)
theorem eqO0_24 (z0 : (SFrac × Int)) (z1 : (SFrac × Int)) : [VV.tr (List.map vi ([z0.2, z1.2] : List Int)) (([z0.2, z1.2] : List Int).length)] = [VV.tr [vi z0.2, vi z1.2] 2] := by first | rfl | (simp only [unfr_vi, List.map_cons, List.map_nil, un_i, un_tr, List.length_map, List.length_cons, List.length_nil]; done) | (simp only [unfr_vi, List.map_cons, List.map_nil, un_i, un_tr, List.length_map, List.length_cons, List.length_nil]; rfl) | (simp only [unfr_vi, List.map_cons, List.map_nil, un_i, un_tr, List.length_map, List.length_cons, List.length_nil, List.length_cons, List.length_nil, List.length_append]; done)
theorem eqO0_25 (z0 : Int) : VV.tu [VV.ag [vi 0, vi 0, vi 0, vi 0, vi 0, vi 0, vi 0, vi 0], vi z0] = VV.tu [VV.ag [vi (((⟨(⟨0, 0⟩ : SFrac), (⟨0, 0⟩ : SFrac), (⟨0, 0⟩ : SFrac), (⟨0, 0⟩ : SFrac)⟩ : SPair).Focal).Num), vi (((⟨(⟨0, 0⟩ : SFrac), (⟨0, 0⟩ : SFrac), (⟨0, 0⟩ : SFrac), (⟨0, 0⟩ : SFrac)⟩ : SPair).Focal).Den), vi (((⟨(⟨0, 0⟩ : SFrac), (⟨0, 0⟩ : SFrac), (⟨0, 0⟩ : SFrac), (⟨0, 0⟩ : SFrac)⟩ : SPair).Back).Num), vi (((⟨(⟨0, 0⟩ : SFrac), (⟨0, 0⟩ : SFrac), (⟨0, 0⟩ : SFrac), (⟨0, 0⟩ : SFrac)⟩ : SPair).Back).Den), vi (((⟨(⟨0, 0⟩ : SFrac), (⟨0, 0⟩ : SFrac), (⟨0, 0⟩ : SFrac), (⟨0, 0⟩ : SFrac)⟩ : SPair).Magnify).Num), vi (((⟨(⟨0, 0⟩ : SFrac), (⟨0, 0⟩ : SFrac), (⟨0, 0⟩ : SFrac), (⟨0, 0⟩ : SFrac)⟩ : SPair).Magnify).Den), vi (((⟨(⟨0, 0⟩ : SFrac), (⟨0, 0⟩ : SFrac), (⟨0, 0⟩ : SFrac), (⟨0, 0⟩ : SFrac)⟩ : SPair).Obstruct).Num), vi (((⟨(⟨0, 0⟩ : SFrac), (⟨0, 0⟩ : SFrac), (⟨0, 0⟩ : SFrac), (⟨0, 0⟩ : SFrac)⟩ : SPair).Obstruct).Den)], vi z0] := by first | rfl | (simp only [unfr_vi, List.map_cons, List.map_nil, un_i]; done) | (simp only [unfr_vi, List.map_cons, List.map_nil, un_i]; rfl) | (simp only [unfr_vi, List.map_cons, List.map_nil, un_i, List.length_cons, List.length_nil, List.length_append]; done)
def noptics_beside_api_Pair_ (k : Nat) (a0 : SPair) (a1 : (List Int)) : Option (SPair × Int) :=
  (noptics_firstError k a1).bind fun r997 => (if r997 = 0 then (some (a0, 0)) else (some ((⟨(⟨0, 0⟩ : SFrac), (⟨0, 0⟩ : SFrac), (⟨0, 0⟩ : SFrac), (⟨0, 0⟩ : SFrac)⟩ : SPair), r997)))
theorem noptics_beside_api_Pair__ok (k : Nat) (a0 : SPair) (a1 : (List Int)) (r : (SPair × Int)) (h : noptics_beside_api_Pair_ k a0 a1 = some r) : VC Go.Proofs.Try.prog 102 [VV.ag (c_SPair a0), VV.tr (List.map vi a1) a1.length] (VV.tu [VV.ag (c_SPair r.1), vi r.2]) := by
 unfold noptics_beside_api_Pair_ at h
 obtain ⟨r997, h998, h⟩ := bs h
 have e999 := (ti (an (noptics_firstError_ok k a1 _ h998) (ti trivial)))
 rcases ifs h with ⟨h1000, h⟩ | ⟨h1000, h⟩
 ·injection h with h; subst h
  exact fun_ok pm pn Go.Proofs.Try.func102 (r0 := VV.tu [VV.ag (c_SPair a0), vi 0]) (ans := [.reg (nN 3 []), .reg (.n :: .call (vi r997) :: .n :: []), .reg (.n :: .n :: []), .br false, .reg (nN 3 [])]) (fr := true) (by kernel_rfl) (an (an (ti (ti (ti trivial))) (an (an e999 (an (ti (ti trivial)) (an (not_f (decide_eq_true h1000)) trivial))) (an (ti (ti (ti trivial))) trivial))) (an (ti (ti (ti (ti (ti (ti (ti (ti (ti trivial))))))))) (ti trivial))) (Wv.refl _)
 ·injection h with h; subst h
  exact fun_ok pm pn Go.Proofs.Try.func102 (r0 := VV.tu [VV.ag [vi 0, vi 0, vi 0, vi 0, vi 0, vi 0, vi 0, vi 0], vi r997]) (ans := [.reg (nN 3 []), .reg (.n :: .call (vi r997) :: .n :: []), .reg (.n :: .n :: []), .br true, .reg (.n :: []), .reg (nN 4 [])]) (fr := true) (by kernel_rfl) (an (an (ti (ti (ti trivial))) (an e999 (an (ti (ti trivial)) (an (not_t (decide_eq_false h1000)) (an (ti trivial) (an (ti (ti (ti (ti trivial)))) trivial)))))) (an (ti (ti (ti (ti (ti (ti (ti (ti (ti trivial))))))))) (ti trivial))) (Wv.of_eq (eqO0_25 r997))
theorem eqO0_26 (z0 : (SFrac × Int)) (z1 : (SFrac × Int)) (z2 : (SFrac × Sway)) (z3 : (SFrac × Sway)) : [VV.ag [vi (((⟨z0.1, z1.1, z2.1, z3.1⟩ : SPair).Focal).Num), vi (((⟨z0.1, z1.1, z2.1, z3.1⟩ : SPair).Focal).Den), vi (((⟨z0.1, z1.1, z2.1, z3.1⟩ : SPair).Back).Num), vi (((⟨z0.1, z1.1, z2.1, z3.1⟩ : SPair).Back).Den), vi (((⟨z0.1, z1.1, z2.1, z3.1⟩ : SPair).Magnify).Num), vi (((⟨z0.1, z1.1, z2.1, z3.1⟩ : SPair).Magnify).Den), vi (((⟨z0.1, z1.1, z2.1, z3.1⟩ : SPair).Obstruct).Num), vi (((⟨z0.1, z1.1, z2.1, z3.1⟩ : SPair).Obstruct).Den)], VV.tr (List.map vi ([z3.2.failed] : List Int)) (([z3.2.failed] : List Int).length)] = [VV.ag [vi z0.1.Num, vi z0.1.Den, vi z1.1.Num, vi z1.1.Den, vi z2.1.Num, vi z2.1.Den, vi z3.1.Num, vi z3.1.Den], VV.tr [vi z3.2.failed] 1] := by first | rfl | (simp only [unfr_vi, List.map_cons, List.map_nil, un_i, un_tr, List.length_map, List.length_cons, List.length_nil]; done) | (simp only [unfr_vi, List.map_cons, List.map_nil, un_i, un_tr, List.length_map, List.length_cons, List.length_nil]; rfl) | (simp only [unfr_vi, List.map_cons, List.map_nil, un_i, un_tr, List.length_map, List.length_cons, List.length_nil, List.length_cons, List.length_nil, List.length_append]; done)
def arO0_8 (z0 : SFrac) (z1 : SFrac) (z2 : (SFrac × Sway)) (z3 : (SFrac × Sway)) (z4 : SFrac) (z5 : SFrac) (z6 : (SFrac × Sway)) (z7 : (SFrac × Sway)) : List Ans := (nN 4 (.call (VV.ag (c_SFrac z0)) :: .call (VV.ag (c_SFrac z1)) :: .mod1 4 (VV.ag (c_SFrac z2.1)) ⟨true, bigH, [vi z2.2.failed]⟩ :: .mod1 4 (VV.ag (c_SFrac z3.1)) ⟨true, bigH, [vi z3.2.failed]⟩ :: .call (VV.ag (c_SFrac z4)) :: .n :: .n :: .call (VV.ag (c_SFrac z5)) :: .n :: .call (VV.ag (c_SFrac z0)) :: .mod1 4 (VV.ag (c_SFrac z6.1)) ⟨true, bigH, [vi z6.2.failed]⟩ :: .mod1 4 (VV.ag (c_SFrac z7.1)) ⟨true, bigH, [vi z7.2.failed]⟩ :: nN 3 []))
theorem eqO0_27 (z0 : (SMatrix × Int)) : VV.tu [VV.ag [vi 0, vi 0, vi 0, vi 0, vi 0, vi 0, vi 0, vi 0], vi z0.2] = VV.tu [VV.ag [vi (((⟨(⟨0, 0⟩ : SFrac), (⟨0, 0⟩ : SFrac), (⟨0, 0⟩ : SFrac), (⟨0, 0⟩ : SFrac)⟩ : SPair).Focal).Num), vi (((⟨(⟨0, 0⟩ : SFrac), (⟨0, 0⟩ : SFrac), (⟨0, 0⟩ : SFrac), (⟨0, 0⟩ : SFrac)⟩ : SPair).Focal).Den), vi (((⟨(⟨0, 0⟩ : SFrac), (⟨0, 0⟩ : SFrac), (⟨0, 0⟩ : SFrac), (⟨0, 0⟩ : SFrac)⟩ : SPair).Back).Num), vi (((⟨(⟨0, 0⟩ : SFrac), (⟨0, 0⟩ : SFrac), (⟨0, 0⟩ : SFrac), (⟨0, 0⟩ : SFrac)⟩ : SPair).Back).Den), vi (((⟨(⟨0, 0⟩ : SFrac), (⟨0, 0⟩ : SFrac), (⟨0, 0⟩ : SFrac), (⟨0, 0⟩ : SFrac)⟩ : SPair).Magnify).Num), vi (((⟨(⟨0, 0⟩ : SFrac), (⟨0, 0⟩ : SFrac), (⟨0, 0⟩ : SFrac), (⟨0, 0⟩ : SFrac)⟩ : SPair).Magnify).Den), vi (((⟨(⟨0, 0⟩ : SFrac), (⟨0, 0⟩ : SFrac), (⟨0, 0⟩ : SFrac), (⟨0, 0⟩ : SFrac)⟩ : SPair).Obstruct).Num), vi (((⟨(⟨0, 0⟩ : SFrac), (⟨0, 0⟩ : SFrac), (⟨0, 0⟩ : SFrac), (⟨0, 0⟩ : SFrac)⟩ : SPair).Obstruct).Den)], vi z0.2] := by first | rfl | (simp only [unfr_vi, List.map_cons, List.map_nil, un_i]; done) | (simp only [unfr_vi, List.map_cons, List.map_nil, un_i]; rfl) | (simp only [unfr_vi, List.map_cons, List.map_nil, un_i, List.length_cons, List.length_nil, List.length_append]; done)
def noptics_TwoMirrors (k : Nat) (a0 : Int) (a1 : Int) (a2 : Int) : Option (SPair × Int) :=
  (noptics_MatrixOf k ([(⟨2, a0⟩ : SElement), (⟨1, a2⟩ : SElement), (⟨2, a1⟩ : SElement)] : List SElement)).bind fun r1005 => (if r1005.2 = 0 then ((noptics_Focal k r1005.1).bind fun r1010 => ((noptics_BackFocus k r1005.1).bind fun r1013 => ((noptics_firstError k ([r1010.2, r1013.2] : List Int)).bind fun r1017 => (if r1017 = 0 then ((noptics_whole k a0).bind fun r1021 => ((noptics_whole k 2).bind fun r1023 => ((n_optics_way_over k (⟨0⟩ : Sway) r1021 r1023).bind fun r1025 => ((n_optics_way_over k r1025.2 r1010.1 r1025.1).bind fun r1028 => ((noptics_whole k 1).bind fun r1031 => ((noptics_whole k (w64 (2 * a2))).bind fun r1033 => ((n_optics_way_over k r1028.2 r1033 r1021).bind fun r1037 => ((n_optics_way_minus k r1037.2 r1031 r1037.1).bind fun r1040 => ((noptics_beside_api_Pair_ k (⟨r1010.1, r1013.1, r1028.1, r1040.1⟩ : SPair) ([r1040.2.failed] : List Int)).bind fun r1044 => (some (r1044.1, r1044.2))))))))))) else (some ((⟨(⟨0, 0⟩ : SFrac), (⟨0, 0⟩ : SFrac), (⟨0, 0⟩ : SFrac), (⟨0, 0⟩ : SFrac)⟩ : SPair), r1017)))))) else (some ((⟨(⟨0, 0⟩ : SFrac), (⟨0, 0⟩ : SFrac), (⟨0, 0⟩ : SFrac), (⟨0, 0⟩ : SFrac)⟩ : SPair), r1005.2)))
theorem noptics_TwoMirrors_ok (k : Nat) (a0 : Int) (a1 : Int) (a2 : Int) (r : (SPair × Int)) (h : noptics_TwoMirrors k a0 a1 a2 = some r) : VC Go.Proofs.Try.prog 50 [vi a0, vi a1, vi a2] (VV.tu [VV.ag (c_SPair r.1), vi r.2]) := by
 unfold noptics_TwoMirrors at h
 obtain ⟨r1005, h1006, h⟩ := bs h
 have e1007 := (VC.args (noptics_MatrixOf_ok k ([(⟨2, a0⟩ : SElement), (⟨1, a2⟩ : SElement), (⟨2, a1⟩ : SElement)] : List SElement) _ h1006) (eqO0_20 a0 a2 a1))
 have e1008 := (ti (ti (ti (ti (ti (ti (ti (an e1007 (ti (ti (ti (ti (ti (ti trivial))))))))))))))
 rcases ifs h with ⟨h1009, h⟩ | ⟨h1009, h⟩
 ·obtain ⟨r1010, h1011, h⟩ := bs h
  have e1012 := (ti (an (noptics_Focal_ok k r1005.1 _ h1011) (ti (ti (ti (ti (ti (ti trivial))))))))
  obtain ⟨r1013, h1014, h⟩ := bs h
  have e1015 := (noptics_BackFocus_ok k r1005.1 _ h1014)
  have e1016 := (ti (an e1015 (ti (ti (ti (ti (ti (ti trivial))))))))
  obtain ⟨r1017, h1018, h⟩ := bs h
  have e1019 := (VC.args (noptics_firstError_ok k ([r1010.2, r1013.2] : List Int) _ h1018) (eqO0_24 r1010 r1013))
  rcases ifs h with ⟨h1020, h⟩ | ⟨h1020, h⟩
  ·obtain ⟨r1021, h1022, h⟩ := bs h
   obtain ⟨r1023, h1024, h⟩ := bs h
   obtain ⟨r1025, h1026, h⟩ := bs h
   have e1027 := (an (VM.args (n_optics_way_over_ok k (⟨0⟩ : Sway) r1021 r1023 _ h1026) rfl eqO0_11 rfl) (an (ti trivial) (ti trivial)))
   obtain ⟨r1028, h1029, h⟩ := bs h
   have e1030 := (an (n_optics_way_over_ok k r1025.2 r1010.1 r1025.1 _ h1029) (an (ti trivial) (ti trivial)))
   obtain ⟨r1031, h1032, h⟩ := bs h
   obtain ⟨r1033, h1034, h⟩ := bs h
   have e1035 := (noptics_whole_ok k (w64 (2 * a2)) _ h1034)
   obtain ⟨r1037, h1038, h⟩ := bs h
   have e1039 := (an (n_optics_way_over_ok k r1028.2 r1033 r1021 _ h1038) (an (ti trivial) (ti trivial)))
   obtain ⟨r1040, h1041, h⟩ := bs h
   have e1042 := (an (n_optics_way_minus_ok k r1037.2 r1031 r1037.1 _ h1041) (an (ti trivial) (ti trivial)))
   have e1043 := (ti (ti (ti (ti (an (noptics_whole_ok k a0 _ h1022) (an (noptics_whole_ok k 2 _ h1024) (an e1027 (an e1030 (an (noptics_whole_ok k 1 _ h1032) (ti (ti (an e1035 (ti (an (noptics_whole_ok k a0 _ h1022) (an e1039 (an e1042 (ti (ti (ti trivial)))))))))))))))))))
   obtain ⟨r1044, h1045, h⟩ := bs h
   have e1046 := (VC.args (noptics_beside_api_Pair__ok k (⟨r1010.1, r1013.1, r1028.1, r1040.1⟩ : SPair) ([r1040.2.failed] : List Int) _ h1045) (eqO0_26 r1010 r1013 r1028 r1040))
   have e1047 := (ti (ti (ti (ti (an e1046 (ti (ti (ti (ti trivial)))))))))
   injection h with h; subst h
   exact fun_ok pm pn Go.Proofs.Try.func50 (r0 := VV.tu [VV.ag (c_SPair r1044.1), vi r1044.2]) (ans := [.reg (.n :: .n :: []), .reg (nN 6 (.v VV.any :: .call (VV.tu [VV.ag (c_SMatrix r1005.1), vi r1005.2]) :: nN 6 [])), .reg (.n :: .n :: []), .br false, .reg (.n :: .call (VV.tu [VV.ag (c_SFrac r1010.1), vi r1010.2]) :: nN 6 []), .reg (.n :: .call (VV.tu [VV.ag (c_SFrac r1013.1), vi r1013.2]) :: nN 6 []), .reg (.n :: .n :: .v VV.any :: .call (vi r1017) :: .n :: []), .reg (.n :: .n :: []), .br false, .reg (.n :: []), .reg (arO0_8 r1021 r1023 r1025 r1028 r1031 r1033 r1037 r1040), .reg (nN 3 (.v VV.any :: .call (VV.tu [VV.ag (c_SPair r1044.1), vi r1044.2]) :: nN 4 []))]) (fr := true) (by kernel_rfl) (an (an (ti (ti trivial)) (an e1008 (an (an (ti (ti trivial)) (an (not_f (decide_eq_true h1009)) trivial)) (an e1012 (an e1016 (an (an (ti (ti (ti (an e1019 (ti trivial))))) (an (ti (ti trivial)) (an (not_f (decide_eq_true h1020)) trivial))) (an (ti trivial) (an e1043 (an e1047 trivial))))))))) (an (ti (ti (ti (ti (ti (ti (ti (ti (ti trivial))))))))) (ti trivial))) (Wv.refl _)
  ·injection h with h; subst h
   exact fun_ok pm pn Go.Proofs.Try.func50 (r0 := VV.tu [VV.ag [vi 0, vi 0, vi 0, vi 0, vi 0, vi 0, vi 0, vi 0], vi r1017]) (ans := [.reg (.n :: .n :: []), .reg (nN 6 (.v VV.any :: .call (VV.tu [VV.ag (c_SMatrix r1005.1), vi r1005.2]) :: nN 6 [])), .reg (.n :: .n :: []), .br false, .reg (.n :: .call (VV.tu [VV.ag (c_SFrac r1010.1), vi r1010.2]) :: nN 6 []), .reg (.n :: .call (VV.tu [VV.ag (c_SFrac r1013.1), vi r1013.2]) :: nN 6 []), .reg (.n :: .n :: .v VV.any :: .call (vi r1017) :: .n :: []), .reg (.n :: .n :: []), .br true, .reg (nN 4 [])]) (fr := true) (by kernel_rfl) (an (an (ti (ti trivial)) (an e1008 (an (an (ti (ti trivial)) (an (not_f (decide_eq_true h1009)) trivial)) (an e1012 (an e1016 (an (ti (ti (ti (an e1019 (ti trivial))))) (an (ti (ti trivial)) (an (not_t (decide_eq_false h1020)) (an (ti (ti (ti (ti trivial)))) trivial))))))))) (an (ti (ti (ti (ti (ti (ti (ti (ti (ti trivial))))))))) (ti trivial))) (Wv.of_eq (eqO0_25 r1017))
 ·injection h with h; subst h
  exact fun_ok pm pn Go.Proofs.Try.func50 (r0 := VV.tu [VV.ag [vi 0, vi 0, vi 0, vi 0, vi 0, vi 0, vi 0, vi 0], vi r1005.2]) (ans := [.reg (.n :: .n :: []), .reg (nN 6 (.v VV.any :: .call (VV.tu [VV.ag (c_SMatrix r1005.1), vi r1005.2]) :: nN 6 [])), .reg (.n :: .n :: []), .br true, .reg (nN 4 [])]) (fr := true) (by kernel_rfl) (an (an (ti (ti trivial)) (an e1008 (an (ti (ti trivial)) (an (not_t (decide_eq_false h1009)) (an (ti (ti (ti (ti trivial)))) trivial))))) (an (ti (ti (ti (ti (ti (ti (ti (ti (ti trivial))))))))) (ti trivial))) (Wv.of_eq (eqO0_27 r1005))
end Go.Proofs.Ytkffimkedibmnaa.Vg

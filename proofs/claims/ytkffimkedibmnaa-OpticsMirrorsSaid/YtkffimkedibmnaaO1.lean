/- Written by a program out of the program: what Go functions do, as plain functions, and their contracts. -/
import Derived.Test.YtkffimkedibmnaaO0
namespace Go.Proofs.Ytkffimkedibmnaa.Vg
set_option maxRecDepth 100000
set_option maxHeartbeats 4000000
set_option linter.unusedVariables false
set_option linter.unusedSimpArgs false
open Go Go.Proofs.Ytkffimkedibmnaa.Ev Go.Proofs.Ytkffimkedibmnaa.Vv
structure SConic where
  Radius : Int
  K : SFrac
  deriving Inhabited
def c_SConic (x : SConic) : List VV := [vi x.Radius, vi x.K.Num, vi x.K.Den]
theorem len_c_SConic (x : SConic) : (c_SConic x).length = 3 := rfl
theorem still_c_SConic (xs : List SConic) : (xs.flatMap c_SConic).all VV.still = true := all_flat (fun _ => rfl) xs
theorem isC_c_SConic (xs : List SConic) : (xs.flatMap c_SConic).all VV.isC = true := all_flat (fun _ => rfl) xs
theorem new0_c_SConic (xs : List SConic) : (xs.flatMap c_SConic).all new0 = true := all_flat (fun _ => rfl) xs
theorem unfr_c_SConic (xs : List SConic) : (xs.flatMap c_SConic).map unfr = xs.flatMap c_SConic := unfr_flat (fun _ => rfl) xs
structure SRange where
  Lo : Int
  Hi : Int
  deriving Inhabited
def c_SRange (x : SRange) : List VV := [vi x.Lo, vi x.Hi]
theorem len_c_SRange (x : SRange) : (c_SRange x).length = 2 := rfl
theorem still_c_SRange (xs : List SRange) : (xs.flatMap c_SRange).all VV.still = true := all_flat (fun _ => rfl) xs
theorem isC_c_SRange (xs : List SRange) : (xs.flatMap c_SRange).all VV.isC = true := all_flat (fun _ => rfl) xs
theorem new0_c_SRange (xs : List SRange) : (xs.flatMap c_SRange).all new0 = true := all_flat (fun _ => rfl) xs
theorem unfr_c_SRange (xs : List SRange) : (xs.flatMap c_SRange).map unfr = xs.flatMap c_SRange := unfr_flat (fun _ => rfl) xs
structure SSpot where
  R : SFrac
  Z : SFrac
  deriving Inhabited
def c_SSpot (x : SSpot) : List VV := [vi x.R.Num, vi x.R.Den, vi x.Z.Num, vi x.Z.Den]
theorem len_c_SSpot (x : SSpot) : (c_SSpot x).length = 4 := rfl
theorem still_c_SSpot (xs : List SSpot) : (xs.flatMap c_SSpot).all VV.still = true := all_flat (fun _ => rfl) xs
theorem isC_c_SSpot (xs : List SSpot) : (xs.flatMap c_SSpot).all VV.isC = true := all_flat (fun _ => rfl) xs
theorem new0_c_SSpot (xs : List SSpot) : (xs.flatMap c_SSpot).all new0 = true := all_flat (fun _ => rfl) xs
theorem unfr_c_SSpot (xs : List SSpot) : (xs.flatMap c_SSpot).map unfr = xs.flatMap c_SSpot := unfr_flat (fun _ => rfl) xs
structure A63 where
  e0 : Int
  e1 : Int
  deriving Inhabited
def c_A63 (x : A63) : List VV := [vi x.e0, vi x.e1]
theorem len_c_A63 (x : A63) : (c_A63 x).length = 2 := rfl
theorem still_c_A63 (xs : List A63) : (xs.flatMap c_A63).all VV.still = true := all_flat (fun _ => rfl) xs
theorem isC_c_A63 (xs : List A63) : (xs.flatMap c_A63).all VV.isC = true := all_flat (fun _ => rfl) xs
theorem new0_c_A63 (xs : List A63) : (xs.flatMap c_A63).all new0 = true := all_flat (fun _ => rfl) xs
theorem unfr_c_A63 (xs : List A63) : (xs.flatMap c_A63).map unfr = xs.flatMap c_A63 := unfr_flat (fun _ => rfl) xs
structure A66 where
  e0 : SFrac
  e1 : SFrac
  deriving Inhabited
def c_A66 (x : A66) : List VV := [vi x.e0.Num, vi x.e0.Den, vi x.e1.Num, vi x.e1.Den]
theorem len_c_A66 (x : A66) : (c_A66 x).length = 4 := rfl
theorem still_c_A66 (xs : List A66) : (xs.flatMap c_A66).all VV.still = true := all_flat (fun _ => rfl) xs
theorem isC_c_A66 (xs : List A66) : (xs.flatMap c_A66).all VV.isC = true := all_flat (fun _ => rfl) xs
theorem new0_c_A66 (xs : List A66) : (xs.flatMap c_A66).all new0 = true := all_flat (fun _ => rfl) xs
theorem unfr_c_A66 (xs : List A66) : (xs.flatMap c_A66).map unfr = xs.flatMap c_A66 := unfr_flat (fun _ => rfl) xs
theorem eqok26 : EqOK Go.Proofs.Try.prog 26 [some (.i .i64), some (.i .i64)] := eqOK_of (by kernel_rfl) (by kernel_rfl) (eqT_struct Go.Proofs.Try.underlying26 (by kernel_rfl) (by kernel_rfl) (by kernel_rfl) (.cons (by decide +kernel) rfl (eqT_int Go.Proofs.Try.underlying3 (by kernel_rfl) (by kernel_rfl)) (.cons (by decide +kernel) rfl (eqT_int Go.Proofs.Try.underlying3 (by kernel_rfl) (by kernel_rfl)) .nil)))
theorem eqok52 : EqOK Go.Proofs.Try.prog 52 [some (.i .i64), some (.i .i64)] := eqOK_of (by kernel_rfl) (by kernel_rfl) (eqT_struct Go.Proofs.Try.underlying52 (by kernel_rfl) (by kernel_rfl) (by kernel_rfl) (.cons (by decide +kernel) rfl (eqT_int Go.Proofs.Try.underlying3 (by kernel_rfl) (by kernel_rfl)) (.cons (by decide +kernel) rfl (eqT_int Go.Proofs.Try.underlying3 (by kernel_rfl) (by kernel_rfl)) .nil)))
theorem eqok63 : EqOK Go.Proofs.Try.prog 63 [some (.i .i64), some (.i .i64)] := eqOK_of (by kernel_rfl) (by kernel_rfl) (eqT_array (len := 2) Go.Proofs.Try.underlying63 (by kernel_rfl) (by kernel_rfl) (eqT_int Go.Proofs.Try.underlying3 (by kernel_rfl) (by kernel_rfl)))
theorem eqok66 : EqOK Go.Proofs.Try.prog 66 [some (.i .i64), some (.i .i64), some (.i .i64), some (.i .i64)] := eqOK_of (by kernel_rfl) (by kernel_rfl) (eqT_array (len := 2) Go.Proofs.Try.underlying66 (by kernel_rfl) (by kernel_rfl) (eqT_struct Go.Proofs.Try.underlying26 (by kernel_rfl) (by kernel_rfl) (by kernel_rfl) (.cons (by decide +kernel) rfl (eqT_int Go.Proofs.Try.underlying3 (by kernel_rfl) (by kernel_rfl)) (.cons (by decide +kernel) rfl (eqT_int Go.Proofs.Try.underlying3 (by kernel_rfl) (by kernel_rfl)) .nil))))
theorem eqok107 : EqOK Go.Proofs.Try.prog 107 [some (.i .i64), some (.i .i64), some (.i .i64), some (.i .i64), some (.i .i64), some (.i .i64), some (.i .i64), some (.i .i64)] := eqOK_of (by kernel_rfl) (by kernel_rfl) (eqT_struct Go.Proofs.Try.underlying107 (by kernel_rfl) (by kernel_rfl) (by kernel_rfl) (.cons (by decide +kernel) rfl (eqT_struct Go.Proofs.Try.underlying26 (by kernel_rfl) (by kernel_rfl) (by kernel_rfl) (.cons (by decide +kernel) rfl (eqT_int Go.Proofs.Try.underlying3 (by kernel_rfl) (by kernel_rfl)) (.cons (by decide +kernel) rfl (eqT_int Go.Proofs.Try.underlying3 (by kernel_rfl) (by kernel_rfl)) .nil))) (.cons (by decide +kernel) rfl (eqT_struct Go.Proofs.Try.underlying26 (by kernel_rfl) (by kernel_rfl) (by kernel_rfl) (.cons (by decide +kernel) rfl (eqT_int Go.Proofs.Try.underlying3 (by kernel_rfl) (by kernel_rfl)) (.cons (by decide +kernel) rfl (eqT_int Go.Proofs.Try.underlying3 (by kernel_rfl) (by kernel_rfl)) .nil))) (.cons (by decide +kernel) rfl (eqT_struct Go.Proofs.Try.underlying26 (by kernel_rfl) (by kernel_rfl) (by kernel_rfl) (.cons (by decide +kernel) rfl (eqT_int Go.Proofs.Try.underlying3 (by kernel_rfl) (by kernel_rfl)) (.cons (by decide +kernel) rfl (eqT_int Go.Proofs.Try.underlying3 (by kernel_rfl) (by kernel_rfl)) .nil))) (.cons (by decide +kernel) rfl (eqT_struct Go.Proofs.Try.underlying26 (by kernel_rfl) (by kernel_rfl) (by kernel_rfl) (.cons (by decide +kernel) rfl (eqT_int Go.Proofs.Try.underlying3 (by kernel_rfl) (by kernel_rfl)) (.cons (by decide +kernel) rfl (eqT_int Go.Proofs.Try.underlying3 (by kernel_rfl) (by kernel_rfl)) .nil))) .nil)))))
theorem eqO1_0 (z0 : Int) : VV.ag [vi z0, vi 1] = VV.ag (c_SFrac (⟨z0, 1⟩ : SFrac)) := by first | rfl | (simp only [unfr_vi, List.map_cons, List.map_nil, un_i, unfr_c_SFrac]; done) | (simp only [unfr_vi, List.map_cons, List.map_nil, un_i, unfr_c_SFrac]; rfl) | (simp only [unfr_vi, List.map_cons, List.map_nil, un_i, unfr_c_SFrac, c_SFrac, List.length_cons, List.length_nil, List.length_append]; done)
def nspeculumlaw02_whole (k : Nat) (a0 : Int) : Option SFrac :=
  some (⟨a0, 1⟩ : SFrac)
theorem nspeculumlaw02_whole_ok (k : Nat) (a0 : Int) (r : SFrac) (h : nspeculumlaw02_whole k a0 = some r) : VC Go.Proofs.Try.prog 18 [vi a0] (VV.ag (c_SFrac r)) := by
 unfold nspeculumlaw02_whole at h
 injection h with h; subst h
 exact fun_ok pm pn Go.Proofs.Try.func18 (r0 := VV.ag [vi a0, vi 1]) (ans := [.reg (.n :: []), .reg (nN 3 [])]) (fr := true) (by kernel_rfl) (an (an (ti trivial) (an (ti (ti (ti trivial))) trivial)) (an (ti (ti (ti trivial))) trivial)) (Wv.of_eq (eqO1_0 a0))
theorem eqO1_1 (z0 : SConic) : [VV.tr (List.flatMap c_SFrac ([z0.K] : List SFrac)) (([z0.K] : List SFrac).length)] = [VV.tr [vi z0.K.Num, vi z0.K.Den] 1] := by first | rfl | (simp only [unfr_vi, List.map_cons, List.map_nil, un_i, un_tr, List.length_cons, List.length_nil, unfr_c_SFrac]; done) | (simp only [unfr_vi, List.map_cons, List.map_nil, un_i, un_tr, List.length_cons, List.length_nil, unfr_c_SFrac]; rfl) | (simp only [unfr_vi, List.map_cons, List.map_nil, un_i, un_tr, List.length_cons, List.length_nil, unfr_c_SFrac, c_SFrac, List.length_cons, List.length_nil, List.length_append]; done)
def noptics_CheckConic (k : Nat) (a0 : SConic) : Option Int :=
  if a0.Radius = 0 then (some 2) else ((noptics_isSized k a0.Radius 10000000).bind fun r1070 => (if r1070 = true then ((noptics_checkFracs k ([a0.K] : List SFrac)).bind fun r1075 => (if r1075 = 0 then ((noptics_isSized k a0.K.Num 100).bind fun r1079 => (if r1079 = true then (if 100 < a0.K.Den then (some 2) else (some 0)) else (some 2))) else (some r1075))) else (some 2)))
theorem noptics_CheckConic_ok (k : Nat) (a0 : SConic) (r : Int) (h : noptics_CheckConic k a0 = some r) : VC Go.Proofs.Try.prog 108 [VV.ag (c_SConic a0)] (vi r) := by
 unfold noptics_CheckConic at h
 rcases ifs h with ⟨h1068, h⟩ | ⟨h1068, h⟩
 ·have e1069 := (ti (ti (ti (ti (an (decide_eq_true h1068) (an (decide_eq_true h1068) (an (decide_eq_true h1068) (an (decide_eq_true h1068) (an (decide_eq_true h1068) trivial)))))))))
  injection h with h; subst h
  exact fun_ok pm pn Go.Proofs.Try.func108 (r0 := vi 2) (ans := [.reg (.n :: .n :: []), .reg (nN 4 (nS 4 (.b true :: []))), .br true, .reg (.n :: [])]) (fr := true) (by kernel_rfl) (an (an (ti (ti trivial)) (an e1069 (an rt (an (ti trivial) trivial)))) (ti trivial)) (Wv.refl _)
 ·obtain ⟨r1070, h1071, h⟩ := bs h
  have e1072 := (an (decide_eq_false h1068) (noptics_isSized_ok k a0.Radius 10000000 _ h1071))
  have e1073 := (ti (ti (ti (ti (an (an (decide_eq_false h1068) trivial) (an (an (decide_eq_false h1068) trivial) (an e1072 (an (an (decide_eq_false h1068) trivial) (an (decide_eq_false h1068) trivial)))))))))
  rcases ifs h with ⟨h1074, h⟩ | ⟨h1074, h⟩
  ·obtain ⟨r1075, h1076, h⟩ := bs h
   have e1077 := (VC.args (noptics_checkFracs_ok k ([a0.K] : List SFrac) _ h1076) (eqO1_1 a0))
   rcases ifs h with ⟨h1078, h⟩ | ⟨h1078, h⟩
   ·obtain ⟨r1079, h1080, h⟩ := bs h
    have e1081 := (noptics_isSized_ok k a0.K.Num 100 _ h1080)
    rcases ifs h with ⟨h1082, h⟩ | ⟨h1082, h⟩
    ·have e1083 := (ti (ti (ti (an e1081 (ti (ti (an (an (not_f h1082) trivial) (an (an (not_f h1082) trivial) (an (an (not_f h1082) trivial) (an (an (not_f h1082) trivial) (an (not_f h1082) trivial)))))))))))
     rcases ifs h with ⟨h1084, h⟩ | ⟨h1084, h⟩
     ·injection h with h; subst h
      exact fun_ok pm pn Go.Proofs.Try.func108 (r0 := vi 2) (ans := [.reg (.n :: .n :: []), .reg (nN 6 (.call (vb r1070) :: .n :: .b false :: [])), .br false, .reg (.n :: .n :: .v VV.any :: .call (vi r1075) :: .n :: []), .reg (.n :: .n :: []), .br false, .reg (nN 3 (.call (vb r1079) :: nN 6 (.b false :: []))), .br true, .reg (.n :: [])]) (fr := true) (by kernel_rfl) (an (an (ti (ti trivial)) (an (an e1073 (an (not_f h1074) trivial)) (an (an (ti (ti (ti (an e1077 (ti trivial))))) (an (ti (ti trivial)) (an (not_f (decide_eq_true h1078)) trivial))) (an e1083 (an (decide_eq_true h1084) (an (ti trivial) trivial)))))) (ti trivial)) (Wv.refl _)
     ·injection h with h; subst h
      exact fun_ok pm pn Go.Proofs.Try.func108 (r0 := vi 0) (ans := [.reg (.n :: .n :: []), .reg (nN 6 (.call (vb r1070) :: .n :: .b false :: [])), .br false, .reg (.n :: .n :: .v VV.any :: .call (vi r1075) :: .n :: []), .reg (.n :: .n :: []), .br false, .reg (nN 3 (.call (vb r1079) :: nN 6 (.b false :: []))), .br false, .reg (.n :: [])]) (fr := true) (by kernel_rfl) (an (an (ti (ti trivial)) (an (an e1073 (an (not_f h1074) trivial)) (an (an (ti (ti (ti (an e1077 (ti trivial))))) (an (ti (ti trivial)) (an (not_f (decide_eq_true h1078)) trivial))) (an (an e1083 (an (decide_eq_false h1084) trivial)) (an (ti trivial) trivial))))) (ti trivial)) (Wv.refl _)
    ·have e1085 := (ti (ti (ti (an e1081 (ti (ti (an (not_t (bool_f h1082)) (an (not_t (bool_f h1082)) (an (not_t (bool_f h1082)) (an (not_t (bool_f h1082)) (an (not_t (bool_f h1082)) trivial)))))))))))
     injection h with h; subst h
     exact fun_ok pm pn Go.Proofs.Try.func108 (r0 := vi 2) (ans := [.reg (.n :: .n :: []), .reg (nN 6 (.call (vb r1070) :: .n :: .b false :: [])), .br false, .reg (.n :: .n :: .v VV.any :: .call (vi r1075) :: .n :: []), .reg (.n :: .n :: []), .br false, .reg (nN 3 (.call (vb r1079) :: .n :: .n :: nS 4 (.b true :: []))), .br true, .reg (.n :: [])]) (fr := true) (by kernel_rfl) (an (an (ti (ti trivial)) (an (an e1073 (an (not_f h1074) trivial)) (an (an (ti (ti (ti (an e1077 (ti trivial))))) (an (ti (ti trivial)) (an (not_f (decide_eq_true h1078)) trivial))) (an e1085 (an rt (an (ti trivial) trivial)))))) (ti trivial)) (Wv.refl _)
   ·injection h with h; subst h
    exact fun_ok pm pn Go.Proofs.Try.func108 (r0 := vi r1075) (ans := [.reg (.n :: .n :: []), .reg (nN 6 (.call (vb r1070) :: .n :: .b false :: [])), .br false, .reg (.n :: .n :: .v VV.any :: .call (vi r1075) :: .n :: []), .reg (.n :: .n :: []), .br true, .reg (.n :: .n :: [])]) (fr := true) (by kernel_rfl) (an (an (ti (ti trivial)) (an (an e1073 (an (not_f h1074) trivial)) (an (ti (ti (ti (an e1077 (ti trivial))))) (an (ti (ti trivial)) (an (not_t (decide_eq_false h1078)) (an (ti (ti trivial)) trivial)))))) (ti trivial)) (Wv.refl _)
  ·injection h with h; subst h
   exact fun_ok pm pn Go.Proofs.Try.func108 (r0 := vi 2) (ans := [.reg (.n :: .n :: []), .reg (nN 6 (.call (vb r1070) :: .n :: .b false :: [])), .br true, .reg (.n :: [])]) (fr := true) (by kernel_rfl) (an (an (ti (ti trivial)) (an e1073 (an (not_t (bool_f h1074)) (an (ti trivial) trivial)))) (ti trivial)) (Wv.refl _)
def noptics_shape (k : Nat) (a0 : SConic) : Option (Int × Int) :=
  some (w64 (a0.K.Num + a0.K.Den), a0.K.Den)
theorem noptics_shape_ok (k : Nat) (a0 : SConic) (r : (Int × Int)) (h : noptics_shape k a0 = some r) : VC Go.Proofs.Try.prog 109 [VV.ag (c_SConic a0)] (VV.tu [vi r.1, vi r.2]) := by
 unfold noptics_shape at h
 have e1095 := (ti (ti (ti (ti (ti (ti (ti (ti (ti (ti (ti (ti trivial))))))))))))
 injection h with h; subst h
 exact fun_ok pm pn Go.Proofs.Try.func109 (r0 := VV.tu [vi (w64 (a0.K.Num + a0.K.Den)), vi a0.K.Den]) (ans := [.reg (nN 3 []), .reg (nN 12 [])]) (fr := true) (by kernel_rfl) (an (an (ti (ti (ti trivial))) (an e1095 trivial)) (ti (ti trivial))) (Wv.refl _)
def noptics_isBeyond (k : Nat) (a0 : SConic) (a1 : Int) : Option Bool :=
  (noptics_shape k a0).bind fun r1100 => (some (decide ((w64 ((w64 (r1100.2 * a0.Radius)) * a0.Radius)) < (w64 ((w64 (r1100.1 * a1)) * a1)))))
theorem noptics_isBeyond_ok (k : Nat) (a0 : SConic) (a1 : Int) (r : Bool) (h : noptics_isBeyond k a0 a1 = some r) : VC Go.Proofs.Try.prog 114 [VV.ag (c_SConic a0), vi a1] (vb r) := by
 unfold noptics_isBeyond at h
 obtain ⟨r1100, h1101, h⟩ := bs h
 have e1102 := (ti (an (noptics_shape_ok k a0 _ h1101) (ti (ti (ti (ti (ti trivial)))))))
 have e1103 := (ti (ti (ti (ti (ti (ti (ti (ti (ti (ti (ti (ti (ti (ti trivial))))))))))))))
 injection h with h; subst h
 exact fun_ok pm pn Go.Proofs.Try.func114 (r0 := vb (decide ((w64 ((w64 (r1100.2 * a0.Radius)) * a0.Radius)) < (w64 ((w64 (r1100.1 * a1)) * a1))))) (ans := [.reg (.n :: .n :: []), .reg (.n :: .call (VV.tu [vi r1100.1, vi r1100.2]) :: nN 5 []), .reg (nN 14 [])]) (fr := true) (by kernel_rfl) (an (an (ti (ti trivial)) (an e1102 (an e1103 trivial))) (ti trivial)) (Wv.refl _)
def noptics_checkPlace (k : Nat) (a0 : SConic) (a1 : Int) : Option Int :=
  (noptics_CheckConic k a0).bind fun r1108 => (if r1108 = 0 then ((noptics_isWithin k a1 0 1000000).bind fun r1112 => (if r1112 = true then ((noptics_isBeyond k a0 a1).bind fun r1116 => (if r1116 = true then (some 12) else (some 0))) else (some 2))) else (some r1108))
theorem noptics_checkPlace_ok (k : Nat) (a0 : SConic) (a1 : Int) (r : Int) (h : noptics_checkPlace k a0 a1 = some r) : VC Go.Proofs.Try.prog 95 [VV.ag (c_SConic a0), vi a1] (vi r) := by
 unfold noptics_checkPlace at h
 obtain ⟨r1108, h1109, h⟩ := bs h
 have e1110 := (ti (an (noptics_CheckConic_ok k a0 _ h1109) (ti trivial)))
 rcases ifs h with ⟨h1111, h⟩ | ⟨h1111, h⟩
 ·obtain ⟨r1112, h1113, h⟩ := bs h
  have e1114 := (noptics_isWithin_ok k a1 0 1000000 _ h1113)
  rcases ifs h with ⟨h1115, h⟩ | ⟨h1115, h⟩
  ·obtain ⟨r1116, h1117, h⟩ := bs h
   have e1118 := (ti (ti (an (noptics_isBeyond_ok k a0 a1 _ h1117) trivial)))
   rcases ifs h with ⟨h1119, h⟩ | ⟨h1119, h⟩
   ·injection h with h; subst h
    exact fun_ok pm pn Go.Proofs.Try.func95 (r0 := vi 12) (ans := [.reg (.n :: .n :: []), .reg (.n :: .call (vi r1108) :: .n :: []), .reg (.n :: .n :: []), .br false, .reg (.n :: .call (vb r1112) :: .n :: []), .br false, .reg (.n :: .n :: .call (vb r1116) :: []), .br true, .reg (.n :: [])]) (fr := true) (by kernel_rfl) (an (an (ti (ti trivial)) (an (an e1110 (an (ti (ti trivial)) (an (not_f (decide_eq_true h1111)) trivial))) (an (an (ti (an e1114 (ti trivial))) (an (not_f h1115) trivial)) (an e1118 (an h1119 (an (ti trivial) trivial)))))) (ti trivial)) (Wv.refl _)
   ·injection h with h; subst h
    exact fun_ok pm pn Go.Proofs.Try.func95 (r0 := vi 0) (ans := [.reg (.n :: .n :: []), .reg (.n :: .call (vi r1108) :: .n :: []), .reg (.n :: .n :: []), .br false, .reg (.n :: .call (vb r1112) :: .n :: []), .br false, .reg (.n :: .n :: .call (vb r1116) :: []), .br false, .reg (.n :: [])]) (fr := true) (by kernel_rfl) (an (an (ti (ti trivial)) (an (an e1110 (an (ti (ti trivial)) (an (not_f (decide_eq_true h1111)) trivial))) (an (an (ti (an e1114 (ti trivial))) (an (not_f h1115) trivial)) (an (an e1118 (an (bool_f h1119) trivial)) (an (ti trivial) trivial))))) (ti trivial)) (Wv.refl _)
  ·injection h with h; subst h
   exact fun_ok pm pn Go.Proofs.Try.func95 (r0 := vi 2) (ans := [.reg (.n :: .n :: []), .reg (.n :: .call (vi r1108) :: .n :: []), .reg (.n :: .n :: []), .br false, .reg (.n :: .call (vb r1112) :: .n :: []), .br true, .reg (.n :: [])]) (fr := true) (by kernel_rfl) (an (an (ti (ti trivial)) (an (an e1110 (an (ti (ti trivial)) (an (not_f (decide_eq_true h1111)) trivial))) (an (ti (an e1114 (ti trivial))) (an (not_t (bool_f h1115)) (an (ti trivial) trivial))))) (ti trivial)) (Wv.refl _)
 ·injection h with h; subst h
  exact fun_ok pm pn Go.Proofs.Try.func95 (r0 := vi r1108) (ans := [.reg (.n :: .n :: []), .reg (.n :: .call (vi r1108) :: .n :: []), .reg (.n :: .n :: []), .br true, .reg (.n :: .n :: [])]) (fr := true) (by kernel_rfl) (an (an (ti (ti trivial)) (an e1110 (an (ti (ti trivial)) (an (not_t (decide_eq_false h1111)) (an (ti (ti trivial)) trivial))))) (ti trivial)) (Wv.refl _)
def noptics_down (k : Nat) (a0 : Int) (a1 : Int) : Option Int :=
  if a1 ≠ 0 then (if (a0.tmod a1) < 0 then (some (w64 ((w64 (a0.tdiv a1)) - 1))) else (some (w64 (a0.tdiv a1)))) else none
theorem noptics_down_ok (k : Nat) (a0 : Int) (a1 : Int) (r : Int) (h : noptics_down k a0 a1 = some r) : VC Go.Proofs.Try.prog 97 [vi a0, vi a1] (vi r) := by
 unfold noptics_down at h
 obtain ⟨h1130, h⟩ := ifn h
 rcases ifs h with ⟨h1131, h⟩ | ⟨h1131, h⟩
 ·injection h with h; subst h
  exact fun_ok pm pn Go.Proofs.Try.func97 (r0 := vi (w64 ((w64 (a0.tdiv a1)) - 1))) (ans := [.reg (.n :: []), .reg (nN 4 []), .reg (nN 4 []), .br true, .reg (nN 3 []), .reg (.n :: .n :: [])]) (fr := true) (by kernel_rfl) (an (an (ti trivial) (an (ti (ti (an h1130 (ti trivial)))) (an (an (ti (ti (an h1130 (ti trivial)))) (an (decide_eq_true h1131) (ti (ti (ti trivial))))) (an (ti (ti trivial)) trivial)))) (ti trivial)) (Wv.refl _)
 ·injection h with h; subst h
  exact fun_ok pm pn Go.Proofs.Try.func97 (r0 := vi (w64 (a0.tdiv a1))) (ans := [.reg (.n :: []), .reg (nN 4 []), .reg (nN 4 []), .br false, .reg (.n :: .n :: [])]) (fr := true) (by kernel_rfl) (an (an (ti trivial) (an (ti (ti (an h1130 (ti trivial)))) (an (an (ti (ti (an h1130 (ti trivial)))) (an (decide_eq_false h1131) trivial)) (an (ti (ti trivial)) trivial)))) (ti trivial)) (Wv.refl _)
def noptics_up (k : Nat) (a0 : Int) (a1 : Int) : Option Int :=
  (noptics_down k (w64 (0 - a0)) a1).bind fun r1135 => (some (w64 (0 - r1135)))
theorem noptics_up_ok (k : Nat) (a0 : Int) (a1 : Int) (r : Int) (h : noptics_up k a0 a1 = some r) : VC Go.Proofs.Try.prog 98 [vi a0, vi a1] (vi r) := by
 unfold noptics_up at h
 obtain ⟨r1135, h1136, h⟩ := bs h
 have e1137 := (noptics_down_ok k (w64 (0 - a0)) a1 _ h1136)
 injection h with h; subst h
 exact fun_ok pm pn Go.Proofs.Try.func98 (r0 := vi (w64 (0 - r1135))) (ans := [.reg (.n :: []), .reg (nN 3 (.call (vi r1135) :: .n :: .n :: []))]) (fr := true) (by kernel_rfl) (an (an (ti trivial) (an (ti (ti (ti (an e1137 (ti (ti trivial)))))) trivial)) (ti trivial)) (Wv.refl _)
def noptics_rootDown_l0_0_h (a0 : Int) (x3 : Int) (x4 : Int) : VS := ⟨mkA [(0, vi a0), (3, vi x3), (4, vi x4)], [], .nil⟩
def noptics_rootDown_l0_0_e0 (a0 : Int) (r : Int) : VS := ⟨mkA [(3, vi r)], [], .nil⟩
def noptics_rootDown_l0_0 (k : Nat) (a0 : Int) : Nat → Int → Int → Option (Int)
  | 0, _, _ => none
  | fuel + 1, x3, x4 => if x4 < x3 then (if x4 ≠ 0 then (noptics_rootDown_l0_0 k a0 fuel x4 (w64 ((w64 (x4 + (w64 (a0.tdiv x4)))).tdiv 2))) else none) else (some x3)
theorem noptics_rootDown_l0_0_ok (k : Nat) (a0 : Int) : ∀ (fuel : Nat) (x3 : Int) (x4 : Int) (r : Int), noptics_rootDown_l0_0 k a0 fuel x3 x4 = some r → (VLoop none Go.Proofs.Try.prog (szF Go.Proofs.Try.f94) (bodyOf Go.Proofs.Try.f94 0) (noptics_rootDown_l0_0_h a0 x3 x4) (.exit 0) (noptics_rootDown_l0_0_e0 a0 r)) := by
 intro fuel
 induction fuel with
 | zero => intro x3 x4 r h; rw [noptics_rootDown_l0_0.eq_1] at h; cases h
 | succ fuel ih =>
  intro x3 x4 r h
  rw [noptics_rootDown_l0_0.eq_2] at h
  rcases ifs h with ⟨h1161, h⟩ | ⟨h1161, h⟩
  ·obtain ⟨h1162, h⟩ := ifn h
   have e1163 := (ti (ti (ti (an h1162 (ti (an (show (2 : Int) ≠ 0 from (by decide)) (ti trivial)))))))
   have h2 := ih _ _ _ h
   obtain ⟨q, hv, hq⟩ := pkR (rd := none) (P := Go.Proofs.Try.prog) (fn := Go.Proofs.Try.f94) (k := 0) (s := (noptics_rootDown_l0_0_h a0 x3 x4)) (ans := [.reg (nN 3 []), .br true, .reg (.n :: .n :: []), .reg (nN 7 [])]) (c := ⟨[(0, none), (3, none), (4, none)], [], []⟩) (e := .normal) (s1 := (noptics_rootDown_l0_0_h a0 x4 (w64 ((w64 (x4 + (w64 (a0.tdiv x4)))).tdiv 2)))) (an (an (an (ti (ti (ti trivial))) (an (decide_eq_true h1161) trivial)) (an (ti (ti trivial)) e1163)) (ti trivial)) (by kernel_rfl)
   exact round_next pm pn hv hq h2
  ·injection h with h; subst h
   exact round_stop (c := ⟨[(3, none)], [], []⟩) (s1 := (noptics_rootDown_l0_0_e0 a0 x3)) pm pn (ans := [.reg (nN 3 []), .br false]) (by kernel_rfl) (by intro e; cases e) (an (an (ti (ti (ti trivial))) (an (decide_eq_false h1161) trivial)) (ti trivial))
def noptics_rootDown (k : Nat) (a0 : Int) : Option Int :=
  (noptics_rootDown_l0_0 k a0 k a0 (w64 ((w64 (a0 + 1)).tdiv 2))).bind fun r1165 => (some r1165)
theorem noptics_rootDown_ok (k : Nat) (a0 : Int) (r : Int) (h : noptics_rootDown k a0 = some r) : VC Go.Proofs.Try.prog 94 [vi a0] (vi r) := by
 unfold noptics_rootDown at h
 have e1154 := (ti (ti (an (show (2 : Int) ≠ 0 from (by decide)) (ti trivial))))
 obtain ⟨r1165, h1164, h⟩ := bs h
 have hph1164 := noptics_rootDown_l0_0_ok k a0 _ _ _ _ h1164
 have e1166 := (an (ti trivial) (VRun.loop hph1164))
 injection h with h; subst h
 exact fun_ok pm pn Go.Proofs.Try.func94 (r0 := vi r1165) (ans := [.reg (.n :: []), .reg (.n :: .n :: []), .reg (nN 4 []), .sub ⟨[(0, none), (3, none), (4, none)], [], []⟩ (.exit 0) (noptics_rootDown_l0_0_e0 a0 r1165), .reg (.n :: .n :: [])]) (fr := true) (by kernel_rfl) (an (an (ti trivial) (an (ti (ti trivial)) (an (an e1154 e1166) (an (ti (ti trivial)) trivial)))) (ti trivial)) (Wv.refl _)
def noptics_rootUp (k : Nat) (a0 : Int) : Option Int :=
  (noptics_rootDown k a0).bind fun r1177 => (if (w64 (r1177 * r1177)) < a0 then (some (w64 (r1177 + 1))) else (some r1177))
theorem noptics_rootUp_ok (k : Nat) (a0 : Int) (r : Int) (h : noptics_rootUp k a0 = some r) : VC Go.Proofs.Try.prog 110 [vi a0] (vi r) := by
 unfold noptics_rootUp at h
 obtain ⟨r1177, h1178, h⟩ := bs h
 have e1179 := (ti (an (noptics_rootDown_ok k a0 _ h1178) (ti trivial)))
 rcases ifs h with ⟨h1180, h⟩ | ⟨h1180, h⟩
 ·injection h with h; subst h
  exact fun_ok pm pn Go.Proofs.Try.func110 (r0 := vi (w64 (r1177 + 1))) (ans := [.reg (.n :: []), .reg (.n :: .call (vi r1177) :: .n :: []), .reg (nN 5 []), .br true, .reg (nN 3 []), .reg (.n :: .n :: [])]) (fr := true) (by kernel_rfl) (an (an (ti trivial) (an e1179 (an (an (ti (ti (ti (ti (ti trivial))))) (an (decide_eq_true h1180) (ti (ti (ti trivial))))) (an (ti (ti trivial)) trivial)))) (ti trivial)) (Wv.refl _)
 ·injection h with h; subst h
  exact fun_ok pm pn Go.Proofs.Try.func110 (r0 := vi r1177) (ans := [.reg (.n :: []), .reg (.n :: .call (vi r1177) :: .n :: []), .reg (nN 5 []), .br false, .reg (.n :: .n :: [])]) (fr := true) (by kernel_rfl) (an (an (ti trivial) (an e1179 (an (an (ti (ti (ti (ti (ti trivial))))) (an (decide_eq_false h1180) trivial)) (an (ti (ti trivial)) trivial)))) (ti trivial)) (Wv.refl _)
def arO1_0 (z0 : Int) (z1 : Int) (z2 : Int) (z3 : Int) : List Ans := (nN 3 (.call (vi z0) :: .n :: .call (vi z1) :: nN 3 (.call (vi z2) :: .n :: .call (vi z3) :: .n :: .n :: [])))
theorem eqO1_2 (z0 : Int) (z1 : Int) : VV.ag [vi z0, vi z1] = VV.ag (c_SRange (⟨z0, z1⟩ : SRange)) := by first | rfl | (simp only [unfr_vi, List.map_cons, List.map_nil, un_i, unfr_c_SRange]; done) | (simp only [unfr_vi, List.map_cons, List.map_nil, un_i, unfr_c_SRange]; rfl) | (simp only [unfr_vi, List.map_cons, List.map_nil, un_i, unfr_c_SRange, c_SRange, List.length_cons, List.length_nil, List.length_append]; done)
def noptics_rootOfRadicand (k : Nat) (a0 : SConic) (a1 : Int) : Option SRange :=
  (noptics_shape k a0).bind fun r1185 => ((noptics_up k (w64 ((w64 ((w64 (10000 * r1185.1)) * a1)) * a1)) r1185.2).bind fun r1189 => ((noptics_rootDown k (w64 ((w64 ((w64 (10000 * a0.Radius)) * a0.Radius)) - r1189))).bind fun r1192 => ((noptics_down k (w64 ((w64 ((w64 (10000 * r1185.1)) * a1)) * a1)) r1185.2).bind fun r1195 => ((noptics_rootUp k (w64 ((w64 ((w64 (10000 * a0.Radius)) * a0.Radius)) - r1195))).bind fun r1198 => (some (⟨r1192, r1198⟩ : SRange))))))
theorem noptics_rootOfRadicand_ok (k : Nat) (a0 : SConic) (a1 : Int) (r : SRange) (h : noptics_rootOfRadicand k a0 a1 = some r) : VC Go.Proofs.Try.prog 96 [VV.ag (c_SConic a0), vi a1] (VV.ag (c_SRange r)) := by
 unfold noptics_rootOfRadicand at h
 obtain ⟨r1185, h1186, h⟩ := bs h
 have e1187 := (ti (an (noptics_shape_ok k a0 _ h1186) (ti (ti (ti (ti (ti trivial)))))))
 have e1188 := (ti (ti (ti (ti (ti (ti (ti (ti (ti (ti (ti (ti (ti (ti trivial))))))))))))))
 obtain ⟨r1189, h1190, h⟩ := bs h
 have e1191 := (noptics_up_ok k (w64 ((w64 ((w64 (10000 * r1185.1)) * a1)) * a1)) r1185.2 _ h1190)
 obtain ⟨r1192, h1193, h⟩ := bs h
 have e1194 := (noptics_rootDown_ok k (w64 ((w64 ((w64 (10000 * a0.Radius)) * a0.Radius)) - r1189)) _ h1193)
 obtain ⟨r1195, h1196, h⟩ := bs h
 have e1197 := (noptics_down_ok k (w64 ((w64 ((w64 (10000 * r1185.1)) * a1)) * a1)) r1185.2 _ h1196)
 obtain ⟨r1198, h1199, h⟩ := bs h
 have e1200 := (noptics_rootUp_ok k (w64 ((w64 ((w64 (10000 * a0.Radius)) * a0.Radius)) - r1195)) _ h1199)
 have e1201 := (ti (ti (ti (an e1191 (ti (an e1194 (ti (ti (ti (an e1197 (ti (an e1200 (ti (ti trivial))))))))))))))
 injection h with h; subst h
 exact fun_ok pm pn Go.Proofs.Try.func96 (r0 := VV.ag [vi r1192, vi r1198]) (ans := [.reg (.n :: .n :: []), .reg (.n :: .call (VV.tu [vi r1185.1, vi r1185.2]) :: nN 5 []), .reg (nN 14 []), .reg (arO1_0 r1189 r1192 r1195 r1198)]) (fr := true) (by kernel_rfl) (an (an (ti (ti trivial)) (an e1187 (an e1188 (an e1201 trivial)))) (an (ti (ti (ti trivial))) trivial)) (Wv.of_eq (eqO1_2 r1192 r1198))
theorem eqO1_3 (z0 : SRange) : VV.ag [vi (w64 (0 - z0.Hi)), vi (w64 (0 - z0.Lo))] = VV.ag (c_SRange (⟨w64 (0 - z0.Hi), w64 (0 - z0.Lo)⟩ : SRange)) := by first | rfl | (simp only [unfr_vi, List.map_cons, List.map_nil, un_i, unfr_c_SRange]; done) | (simp only [unfr_vi, List.map_cons, List.map_nil, un_i, unfr_c_SRange]; rfl) | (simp only [unfr_vi, List.map_cons, List.map_nil, un_i, unfr_c_SRange, c_SRange, List.length_cons, List.length_nil, List.length_append]; done)
def noptics_opposite (k : Nat) (a0 : SRange) : Option SRange :=
  some (⟨w64 (0 - a0.Hi), w64 (0 - a0.Lo)⟩ : SRange)
theorem noptics_opposite_ok (k : Nat) (a0 : SRange) (r : SRange) (h : noptics_opposite k a0 = some r) : VC Go.Proofs.Try.prog 99 [VV.ag (c_SRange a0)] (VV.ag (c_SRange r)) := by
 unfold noptics_opposite at h
 injection h with h; subst h
 exact fun_ok pm pn Go.Proofs.Try.func99 (r0 := VV.ag [vi (w64 (0 - a0.Hi)), vi (w64 (0 - a0.Lo))]) (ans := [.reg (.n :: .n :: []), .reg (nN 8 [])]) (fr := true) (by kernel_rfl) (an (an (ti (ti trivial)) (an (ti (ti (ti (ti (ti (ti (ti (ti trivial)))))))) trivial)) (an (ti (ti (ti trivial))) trivial)) (Wv.of_eq (eqO1_3 a0))
theorem eqO1_4 (z0 : Int) (z1 : Int) : [VV.ag (c_SRange (⟨z0, z1⟩ : SRange))] = [VV.ag [vi z0, vi z1]] := by first | rfl | (simp only [unfr_vi, List.map_cons, List.map_nil, un_i, unfr_c_SRange]; done) | (simp only [unfr_vi, List.map_cons, List.map_nil, un_i, unfr_c_SRange]; rfl) | (simp only [unfr_vi, List.map_cons, List.map_nil, un_i, unfr_c_SRange, c_SRange, List.length_cons, List.length_nil, List.length_append]; done)
theorem eqO1_5 (z0 : Int) (z1 : Int) : VV.tu [VV.ag [vi z0, vi z1], vi 0] = VV.tu [VV.ag (c_SRange (⟨z0, z1⟩ : SRange)), vi 0] := by first | rfl | (simp only [unfr_vi, List.map_cons, List.map_nil, un_i, unfr_c_SRange]; done) | (simp only [unfr_vi, List.map_cons, List.map_nil, un_i, unfr_c_SRange]; rfl) | (simp only [unfr_vi, List.map_cons, List.map_nil, un_i, unfr_c_SRange, c_SRange, List.length_cons, List.length_nil, List.length_append]; done)
theorem eqO1_6 (z0 : Int) : VV.tu [VV.ag [vi 0, vi 0], vi z0] = VV.tu [VV.ag (c_SRange (⟨0, 0⟩ : SRange)), vi z0] := by first | rfl | (simp only [unfr_vi, List.map_cons, List.map_nil, un_i, unfr_c_SRange]; done) | (simp only [unfr_vi, List.map_cons, List.map_nil, un_i, unfr_c_SRange]; rfl) | (simp only [unfr_vi, List.map_cons, List.map_nil, un_i, unfr_c_SRange, c_SRange, List.length_cons, List.length_nil, List.length_append]; done)
def noptics_Sag (k : Nat) (a0 : SConic) (a1 : Int) : Option (SRange × Int) :=
  (noptics_checkPlace k a0 a1).bind fun r1217 => (if r1217 = 0 then ((noptics_rootOfRadicand k a0 a1).bind fun r1221 => ((noptics_down k (w64 ((w64 (100000 * a1)) * a1)) (w64 ((w64 (100 * (maxI a0.Radius (w64 (0 - a0.Radius))))) + r1221.Hi))).bind fun r1225 => ((noptics_up k (w64 ((w64 (100000 * a1)) * a1)) (w64 ((w64 (100 * (maxI a0.Radius (w64 (0 - a0.Radius))))) + r1221.Lo))).bind fun r1228 => (if a0.Radius < 0 then ((noptics_opposite k (⟨r1225, r1228⟩ : SRange)).bind fun r1233 => (some (r1233, 0))) else (some ((⟨r1225, r1228⟩ : SRange), 0)))))) else (some ((⟨0, 0⟩ : SRange), r1217)))
theorem noptics_Sag_ok (k : Nat) (a0 : SConic) (a1 : Int) (r : (SRange × Int)) (h : noptics_Sag k a0 a1 = some r) : VC Go.Proofs.Try.prog 49 [VV.ag (c_SConic a0), vi a1] (VV.tu [VV.ag (c_SRange r.1), vi r.2]) := by
 unfold noptics_Sag at h
 obtain ⟨r1217, h1218, h⟩ := bs h
 have e1219 := (ti (ti (an (noptics_checkPlace_ok k a0 a1 _ h1218) (ti trivial))))
 rcases ifs h with ⟨h1220, h⟩ | ⟨h1220, h⟩
 ·obtain ⟨r1221, h1222, h⟩ := bs h
  have e1223 := (noptics_rootOfRadicand_ok k a0 a1 _ h1222)
  have e1224 := (ti (ti (ti (ti (ti (ti (ti (ti (an e1223 (ti (ti (ti (ti (ti (ti (ti (ti trivial)))))))))))))))))
  obtain ⟨r1225, h1226, h⟩ := bs h
  have e1227 := (noptics_down_ok k (w64 ((w64 (100000 * a1)) * a1)) (w64 ((w64 (100 * (maxI a0.Radius (w64 (0 - a0.Radius))))) + r1221.Hi)) _ h1226)
  obtain ⟨r1228, h1229, h⟩ := bs h
  have e1230 := (noptics_up_ok k (w64 ((w64 (100000 * a1)) * a1)) (w64 ((w64 (100 * (maxI a0.Radius (w64 (0 - a0.Radius))))) + r1221.Lo)) _ h1229)
  have e1231 := (ti (ti (ti (ti (ti (ti (an e1227 (ti (ti (ti (ti (ti (ti (an e1230 (ti (ti (ti trivial)))))))))))))))))
  rcases ifs h with ⟨h1232, h⟩ | ⟨h1232, h⟩
  ·obtain ⟨r1233, h1234, h⟩ := bs h
   have e1235 := (VC.args (noptics_opposite_ok k (⟨r1225, r1228⟩ : SRange) _ h1234) (eqO1_4 r1225 r1228))
   injection h with h; subst h
   exact fun_ok pm pn Go.Proofs.Try.func49 (r0 := VV.tu [VV.ag (c_SRange r1233), vi 0]) (ans := [.reg (nN 3 []), .reg (.n :: .n :: .call (vi r1217) :: .n :: []), .reg (.n :: .n :: []), .br false, .reg (nN 8 (.call (VV.ag (c_SRange r1221)) :: nN 8 [])), .reg (nN 6 (.call (vi r1225) :: nN 6 (.call (vi r1228) :: nN 3 []))), .reg (nN 3 []), .br true, .reg (.n :: .call (VV.ag (c_SRange r1233)) :: .n :: []), .reg (nN 3 [])]) (fr := true) (by kernel_rfl) (an (an (ti (ti (ti trivial))) (an (an e1219 (an (ti (ti trivial)) (an (not_f (decide_eq_true h1220)) trivial))) (an e1224 (an e1231 (an (an (ti (ti (ti trivial))) (an (decide_eq_true h1232) (ti (an e1235 (ti trivial))))) (an (ti (ti (ti trivial))) trivial)))))) (an (ti (ti (ti trivial))) (ti trivial))) (Wv.refl _)
  ·injection h with h; subst h
   exact fun_ok pm pn Go.Proofs.Try.func49 (r0 := VV.tu [VV.ag [vi r1225, vi r1228], vi 0]) (ans := [.reg (nN 3 []), .reg (.n :: .n :: .call (vi r1217) :: .n :: []), .reg (.n :: .n :: []), .br false, .reg (nN 8 (.call (VV.ag (c_SRange r1221)) :: nN 8 [])), .reg (nN 6 (.call (vi r1225) :: nN 6 (.call (vi r1228) :: nN 3 []))), .reg (nN 3 []), .br false, .reg (nN 3 [])]) (fr := true) (by kernel_rfl) (an (an (ti (ti (ti trivial))) (an (an e1219 (an (ti (ti trivial)) (an (not_f (decide_eq_true h1220)) trivial))) (an e1224 (an e1231 (an (an (ti (ti (ti trivial))) (an (decide_eq_false h1232) trivial)) (an (ti (ti (ti trivial))) trivial)))))) (an (ti (ti (ti trivial))) (ti trivial))) (Wv.of_eq (eqO1_5 r1225 r1228))
 ·injection h with h; subst h
  exact fun_ok pm pn Go.Proofs.Try.func49 (r0 := VV.tu [VV.ag [vi 0, vi 0], vi r1217]) (ans := [.reg (nN 3 []), .reg (.n :: .n :: .call (vi r1217) :: .n :: []), .reg (.n :: .n :: []), .br true, .reg (nN 4 [])]) (fr := true) (by kernel_rfl) (an (an (ti (ti (ti trivial))) (an e1219 (an (ti (ti trivial)) (an (not_t (decide_eq_false h1220)) (an (ti (ti (ti (ti trivial)))) trivial))))) (an (ti (ti (ti trivial))) (ti trivial))) (Wv.of_eq (eqO1_6 r1217))
theorem eqO1_7 (z0 : SFrac) : [VV.ag (c_SConic (⟨500000, z0⟩ : SConic)), vi 300000] = [VV.ag [vi 500000, vi z0.Num, vi z0.Den], vi 300000] := by first | rfl | (simp only [unfr_vi, List.map_cons, List.map_nil, un_i, unfr_c_SConic]; done) | (simp only [unfr_vi, List.map_cons, List.map_nil, un_i, unfr_c_SConic]; rfl) | (simp only [unfr_vi, List.map_cons, List.map_nil, un_i, unfr_c_SConic, c_SConic, List.length_cons, List.length_nil, List.length_append]; done)
def arO1_1 (z0 : Bool) (z1 : Bool) : List Ans := (.n :: .n :: .call (vb z0) :: nN 5 (.call (vb z1) :: .n :: .b false :: nN 5 (.b false :: [])))
def arO1_2 (z0 : Bool) (z1 : Bool) : List Ans := (.n :: .n :: .call (vb z0) :: nN 5 (.call (vb z1) :: .n :: .b false :: .n :: nS 4 (.b true :: [])))
def arO1_3 (z0 : Bool) : List Ans := (.n :: .n :: .call (vb z0) :: .n :: .n :: nS 5 (.b true :: .n :: nS 4 (.b true :: [])))
def noptics_checkRayConic (k : Nat) (a0 : SConic) : Option Int :=
  (noptics_CheckConic k a0).bind fun r1264 => (if r1264 = 0 then ((noptics_isSized k a0.Radius 200000).bind fun r1268 => (if r1268 = true then ((noptics_isSized k a0.K.Num 10).bind fun r1272 => (if r1272 = true then (if 10 < a0.K.Den then (some 2) else (some 0)) else (some 2))) else (some 2))) else (some r1264))
theorem noptics_checkRayConic_ok (k : Nat) (a0 : SConic) (r : Int) (h : noptics_checkRayConic k a0 = some r) : VC Go.Proofs.Try.prog 68 [VV.ag (c_SConic a0)] (vi r) := by
 unfold noptics_checkRayConic at h
 obtain ⟨r1264, h1265, h⟩ := bs h
 have e1266 := (ti (an (noptics_CheckConic_ok k a0 _ h1265) (ti trivial)))
 rcases ifs h with ⟨h1267, h⟩ | ⟨h1267, h⟩
 ·obtain ⟨r1268, h1269, h⟩ := bs h
  have e1270 := (noptics_isSized_ok k a0.Radius 200000 _ h1269)
  rcases ifs h with ⟨h1271, h⟩ | ⟨h1271, h⟩
  ·obtain ⟨r1272, h1273, h⟩ := bs h
   have e1274 := (an (not_f h1271) (noptics_isSized_ok k a0.K.Num 10 _ h1273))
   rcases ifs h with ⟨h1275, h⟩ | ⟨h1275, h⟩
   ·have e1276 := (ti (ti (an e1270 (ti (ti (an (an (not_f h1271) trivial) (an (an (not_f h1271) trivial) (an (an (not_f h1271) trivial) (an e1274 (an (an (not_f h1271) trivial) (an (not_f h1271) (ti (an (an (not_f h1275) trivial) (an (an (not_f h1275) trivial) (an (an (not_f h1275) trivial) (an (an (not_f h1275) trivial) (an (not_f h1275) trivial)))))))))))))))))
    rcases ifs h with ⟨h1277, h⟩ | ⟨h1277, h⟩
    ·injection h with h; subst h
     exact fun_ok pm pn Go.Proofs.Try.func68 (r0 := vi 2) (ans := [.reg (.n :: .n :: []), .reg (.n :: .call (vi r1264) :: .n :: []), .reg (.n :: .n :: []), .br false, .reg (arO1_1 r1268 r1272), .br true, .reg (.n :: [])]) (fr := true) (by kernel_rfl) (an (an (ti (ti trivial)) (an (an e1266 (an (ti (ti trivial)) (an (not_f (decide_eq_true h1267)) trivial))) (an e1276 (an (decide_eq_true h1277) (an (ti trivial) trivial))))) (ti trivial)) (Wv.refl _)
    ·injection h with h; subst h
     exact fun_ok pm pn Go.Proofs.Try.func68 (r0 := vi 0) (ans := [.reg (.n :: .n :: []), .reg (.n :: .call (vi r1264) :: .n :: []), .reg (.n :: .n :: []), .br false, .reg (arO1_1 r1268 r1272), .br false, .reg (.n :: [])]) (fr := true) (by kernel_rfl) (an (an (ti (ti trivial)) (an (an e1266 (an (ti (ti trivial)) (an (not_f (decide_eq_true h1267)) trivial))) (an (an e1276 (an (decide_eq_false h1277) trivial)) (an (ti trivial) trivial)))) (ti trivial)) (Wv.refl _)
   ·have e1278 := (ti (ti (an e1270 (ti (ti (an (an (not_f h1271) trivial) (an (an (not_f h1271) trivial) (an (an (not_f h1271) trivial) (an e1274 (an (an (not_f h1271) trivial) (an (not_f h1271) (ti (an (not_t (bool_f h1275)) (an (not_t (bool_f h1275)) (an (not_t (bool_f h1275)) (an (not_t (bool_f h1275)) (an (not_t (bool_f h1275)) trivial)))))))))))))))))
    injection h with h; subst h
    exact fun_ok pm pn Go.Proofs.Try.func68 (r0 := vi 2) (ans := [.reg (.n :: .n :: []), .reg (.n :: .call (vi r1264) :: .n :: []), .reg (.n :: .n :: []), .br false, .reg (arO1_2 r1268 r1272), .br true, .reg (.n :: [])]) (fr := true) (by kernel_rfl) (an (an (ti (ti trivial)) (an (an e1266 (an (ti (ti trivial)) (an (not_f (decide_eq_true h1267)) trivial))) (an e1278 (an rt (an (ti trivial) trivial))))) (ti trivial)) (Wv.refl _)
  ·have e1279 := (ti (ti (an e1270 (ti (ti (an (not_t (bool_f h1271)) (an (not_t (bool_f h1271)) (an (not_t (bool_f h1271)) (an (not_t (bool_f h1271)) (an (not_t (bool_f h1271)) (an (not_t (bool_f h1271)) (ti (an rt (an rt (an rt (an rt (an rt trivial)))))))))))))))))
   injection h with h; subst h
   exact fun_ok pm pn Go.Proofs.Try.func68 (r0 := vi 2) (ans := [.reg (.n :: .n :: []), .reg (.n :: .call (vi r1264) :: .n :: []), .reg (.n :: .n :: []), .br false, .reg (arO1_3 r1268), .br true, .reg (.n :: [])]) (fr := true) (by kernel_rfl) (an (an (ti (ti trivial)) (an (an e1266 (an (ti (ti trivial)) (an (not_f (decide_eq_true h1267)) trivial))) (an e1279 (an rt (an (ti trivial) trivial))))) (ti trivial)) (Wv.refl _)
 ·injection h with h; subst h
  exact fun_ok pm pn Go.Proofs.Try.func68 (r0 := vi r1264) (ans := [.reg (.n :: .n :: []), .reg (.n :: .call (vi r1264) :: .n :: []), .reg (.n :: .n :: []), .br true, .reg (.n :: .n :: [])]) (fr := true) (by kernel_rfl) (an (an (ti (ti trivial)) (an e1266 (an (ti (ti trivial)) (an (not_t (decide_eq_false h1267)) (an (ti (ti trivial)) trivial))))) (ti trivial)) (Wv.refl _)
theorem eqO1_8 (z0 : SSpot) : [VV.tr (List.flatMap c_SFrac ([z0.R, z0.Z] : List SFrac)) (([z0.R, z0.Z] : List SFrac).length)] = [VV.tr [vi z0.R.Num, vi z0.R.Den, vi z0.Z.Num, vi z0.Z.Den] 2] := by first | rfl | (simp only [unfr_vi, List.map_cons, List.map_nil, un_i, un_tr, List.length_cons, List.length_nil, unfr_c_SFrac]; done) | (simp only [unfr_vi, List.map_cons, List.map_nil, un_i, un_tr, List.length_cons, List.length_nil, unfr_c_SFrac]; rfl) | (simp only [unfr_vi, List.map_cons, List.map_nil, un_i, un_tr, List.length_cons, List.length_nil, unfr_c_SFrac, c_SFrac, List.length_cons, List.length_nil, List.length_append]; done)
def noptics_checkToward (k : Nat) (a0 : A63) : Option Int :=
  (noptics_isSized k a0.e0 1000).bind fun r1300 => (if r1300 = true then ((noptics_isSized k a0.e1 1000).bind fun r1305 => (if r1305 = true then (if ((a0.e0 : Int) == 0 && ((a0.e1 : Int) == 0 && true)) = true then (some 11) else (some 0)) else (some 2))) else (some 2))
theorem noptics_checkToward_ok (k : Nat) (a0 : A63) (r : Int) (h : noptics_checkToward k a0 = some r) : VC Go.Proofs.Try.prog 82 [VV.ag (c_A63 a0)] (vi r) := by
 unfold noptics_checkToward at h
 have e1299 := (show (0:Int) ≤ 0 ∧ (0:Int) < ((2 : Nat) : Int) from ⟨by decide, by decide⟩)
 obtain ⟨r1300, h1301, h⟩ := bs h
 have e1302 := (noptics_isSized_ok k a0.e0 1000 _ h1301)
 rcases ifs h with ⟨h1303, h⟩ | ⟨h1303, h⟩
 ·have e1304 := (an (not_f h1303) (show (0:Int) ≤ 1 ∧ (1:Int) < ((2 : Nat) : Int) from ⟨by decide, by decide⟩))
  obtain ⟨r1305, h1306, h⟩ := bs h
  have e1307 := (an (not_f h1303) (noptics_isSized_ok k a0.e1 1000 _ h1306))
  have e1308 := (an e1299 (ti (an e1302 (ti (ti (an e1304 (an (an (not_f h1303) trivial) (an e1307 (an (an (not_f h1303) trivial) (an (not_f h1303) trivial))))))))))
  rcases ifs h with ⟨h1309, h⟩ | ⟨h1309, h⟩
  ·have e1310 := (show List.map kdV [Value.int .i64 a0.e0, Value.int .i64 a0.e1] = List.map kdV [Value.int .i64 0, Value.int .i64 0] ∧ EqOK Go.Proofs.Try.prog 63 (List.map kdV [Value.int .i64 0, Value.int .i64 0]) from ⟨rfl, eqok63⟩)
   rcases ifs h with ⟨h1311, h⟩ | ⟨h1311, h⟩
   ·injection h with h; subst h
    exact fun_ok pm pn Go.Proofs.Try.func82 (r0 := vi 11) (ans := [.reg (.n :: .n :: []), .reg (.n :: .n :: .call (vb r1300) :: nN 4 (.call (vb r1305) :: .n :: .b false :: [])), .br false, .reg (nN 3 []), .br true, .reg (.n :: [])]) (fr := true) (by kernel_rfl) (an (an (ti (ti trivial)) (an (an e1308 (an (not_f h1309) trivial)) (an (ti (ti (an e1310 trivial))) (an h1311 (an (ti trivial) trivial))))) (ti trivial)) (Wv.refl _)
   ·injection h with h; subst h
    exact fun_ok pm pn Go.Proofs.Try.func82 (r0 := vi 0) (ans := [.reg (.n :: .n :: []), .reg (.n :: .n :: .call (vb r1300) :: nN 4 (.call (vb r1305) :: .n :: .b false :: [])), .br false, .reg (nN 3 []), .br false, .reg (.n :: [])]) (fr := true) (by kernel_rfl) (an (an (ti (ti trivial)) (an (an e1308 (an (not_f h1309) trivial)) (an (an (ti (ti (an e1310 trivial))) (an (bool_f h1311) trivial)) (an (ti trivial) trivial)))) (ti trivial)) (Wv.refl _)
  ·injection h with h; subst h
   exact fun_ok pm pn Go.Proofs.Try.func82 (r0 := vi 2) (ans := [.reg (.n :: .n :: []), .reg (.n :: .n :: .call (vb r1300) :: nN 4 (.call (vb r1305) :: .n :: .b false :: [])), .br true, .reg (.n :: [])]) (fr := true) (by kernel_rfl) (an (an (ti (ti trivial)) (an e1308 (an (not_t (bool_f h1309)) (an (ti trivial) trivial)))) (ti trivial)) (Wv.refl _)
 ·have e1312 := (an e1299 (ti (an e1302 (ti (ti (an (not_t (bool_f h1303)) (an (not_t (bool_f h1303)) (an (not_t (bool_f h1303)) (an (not_t (bool_f h1303)) (an (not_t (bool_f h1303)) trivial))))))))))
  injection h with h; subst h
  exact fun_ok pm pn Go.Proofs.Try.func82 (r0 := vi 2) (ans := [.reg (.n :: .n :: []), .reg (.n :: .n :: .call (vb r1300) :: .n :: .n :: nS 4 (.b true :: [])), .br true, .reg (.n :: [])]) (fr := true) (by kernel_rfl) (an (an (ti (ti trivial)) (an e1312 (an rt (an (ti trivial) trivial)))) (ti trivial)) (Wv.refl _)
theorem eqO1_9 (z0 : Int) (z1 : Int) (z2 : Int) : [VV.tr (List.map vi ([z0, z1, z2] : List Int)) (([z0, z1, z2] : List Int).length)] = [VV.tr [vi z0, vi z1, vi z2] 3] := by first | rfl | (simp only [unfr_vi, List.map_cons, List.map_nil, un_i, un_tr, List.length_map, List.length_cons, List.length_nil]; done) | (simp only [unfr_vi, List.map_cons, List.map_nil, un_i, un_tr, List.length_map, List.length_cons, List.length_nil]; rfl) | (simp only [unfr_vi, List.map_cons, List.map_nil, un_i, un_tr, List.length_map, List.length_cons, List.length_nil, List.length_cons, List.length_nil, List.length_append]; done)
theorem eqO1_10 (z0 : Int) (z1 : Int) : [VV.tr (List.map vi ([z0, z1] : List Int)) (([z0, z1] : List Int).length)] = [VV.tr [vi z0, vi z1] 2] := by first | rfl | (simp only [unfr_vi, List.map_cons, List.map_nil, un_i, un_tr, List.length_map, List.length_cons, List.length_nil]; done) | (simp only [unfr_vi, List.map_cons, List.map_nil, un_i, un_tr, List.length_map, List.length_cons, List.length_nil]; rfl) | (simp only [unfr_vi, List.map_cons, List.map_nil, un_i, un_tr, List.length_map, List.length_cons, List.length_nil, List.length_cons, List.length_nil, List.length_append]; done)
theorem eqO1_11  : ([⟨true, bigH, [vi ((⟨0⟩ : Sway).failed)]⟩] : List Blk) = ([⟨true, bigH, [vi 0]⟩] : List Blk) := by first | rfl | (simp only [unfr_vi, List.map_cons, List.map_nil, un_i]; done) | (simp only [unfr_vi, List.map_cons, List.map_nil, un_i]; rfl) | (simp only [unfr_vi, List.map_cons, List.map_nil, un_i, List.length_cons, List.length_nil, List.length_append]; done)
theorem eqO1_12 (z0 : (Int × Int)) : VV.ag [vi z0.1, vi z0.2] = VV.ag (c_SFrac (⟨z0.1, z0.2⟩ : SFrac)) := by first | rfl | (simp only [unfr_vi, List.map_cons, List.map_nil, un_i, unfr_c_SFrac]; done) | (simp only [unfr_vi, List.map_cons, List.map_nil, un_i, unfr_c_SFrac]; rfl) | (simp only [unfr_vi, List.map_cons, List.map_nil, un_i, unfr_c_SFrac, c_SFrac, List.length_cons, List.length_nil, List.length_append]; done)
def noptics_onePlusK (k : Nat) (a0 : SConic) : Option SFrac :=
  (noptics_shape k a0).bind fun r1336 => (some (⟨r1336.1, r1336.2⟩ : SFrac))
theorem noptics_onePlusK_ok (k : Nat) (a0 : SConic) (r : SFrac) (h : noptics_onePlusK k a0 = some r) : VC Go.Proofs.Try.prog 80 [VV.ag (c_SConic a0)] (VV.ag (c_SFrac r)) := by
 unfold noptics_onePlusK at h
 obtain ⟨r1336, h1337, h⟩ := bs h
 have e1338 := (ti (an (noptics_shape_ok k a0 _ h1337) (ti (ti (ti (ti (ti trivial)))))))
 injection h with h; subst h
 exact fun_ok pm pn Go.Proofs.Try.func80 (r0 := VV.ag [vi r1336.1, vi r1336.2]) (ans := [.reg (.n :: .n :: []), .reg (.n :: .call (VV.tu [vi r1336.1, vi r1336.2]) :: nN 5 []), .reg (nN 4 [])]) (fr := true) (by kernel_rfl) (an (an (ti (ti trivial)) (an e1338 (an (ti (ti (ti (ti trivial)))) trivial))) (an (ti (ti (ti trivial))) trivial)) (Wv.of_eq (eqO1_12 r1336))
def noptics_beside_bool_ (k : Nat) (a0 : Bool) (a1 : (List Int)) : Option (Bool × Int) :=
  (noptics_firstError k a1).bind fun r1368 => (if r1368 = 0 then (some (a0, 0)) else (some (false, r1368)))
theorem noptics_beside_bool__ok (k : Nat) (a0 : Bool) (a1 : (List Int)) (r : (Bool × Int)) (h : noptics_beside_bool_ k a0 a1 = some r) : VC Go.Proofs.Try.prog 81 [vb a0, VV.tr (List.map vi a1) a1.length] (VV.tu [vb r.1, vi r.2]) := by
 unfold noptics_beside_bool_ at h
 obtain ⟨r1368, h1369, h⟩ := bs h
 have e1370 := (ti (an (noptics_firstError_ok k a1 _ h1369) (ti trivial)))
 rcases ifs h with ⟨h1371, h⟩ | ⟨h1371, h⟩
 ·injection h with h; subst h
  exact fun_ok pm pn Go.Proofs.Try.func81 (r0 := VV.tu [vb a0, vi 0]) (ans := [.reg (.n :: .n :: []), .reg (.n :: .call (vi r1368) :: .n :: []), .reg (.n :: .n :: []), .br false, .reg (nN 3 [])]) (fr := true) (by kernel_rfl) (an (an (ti (ti trivial)) (an (an e1370 (an (ti (ti trivial)) (an (not_f (decide_eq_true h1371)) trivial))) (an (ti (ti (ti trivial))) trivial))) (ti (ti trivial))) (Wv.refl _)
 ·injection h with h; subst h
  exact fun_ok pm pn Go.Proofs.Try.func81 (r0 := VV.tu [vb false, vi r1368]) (ans := [.reg (.n :: .n :: []), .reg (.n :: .call (vi r1368) :: .n :: []), .reg (.n :: .n :: []), .br true, .reg (.n :: []), .reg (nN 4 [])]) (fr := true) (by kernel_rfl) (an (an (ti (ti trivial)) (an e1370 (an (ti (ti trivial)) (an (not_t (decide_eq_false h1371)) (an (ti trivial) (an (ti (ti (ti (ti trivial)))) trivial)))))) (ti (ti trivial))) (Wv.refl _)
theorem eqO1_13 (z0 : (SFrac × Sway)) (z1 : SFrac) : [vb ((z0.1.Num : Int) == z1.Num && ((z0.1.Den : Int) == z1.Den && true)), VV.tr (List.map vi ([z0.2.failed] : List Int)) (([z0.2.failed] : List Int).length)] = [vb ((z0.1.Num : Int) == z1.Num && ((z0.1.Den : Int) == z1.Den && true)), VV.tr [vi z0.2.failed] 1] := by first | rfl | (simp only [unfr_vi, unfr_vb, List.map_cons, List.map_nil, un_i, un_b, un_tr, List.length_map, List.length_cons, List.length_nil]; done) | (simp only [unfr_vi, unfr_vb, List.map_cons, List.map_nil, un_i, un_b, un_tr, List.length_map, List.length_cons, List.length_nil]; rfl) | (simp only [unfr_vi, unfr_vb, List.map_cons, List.map_nil, un_i, un_b, un_tr, List.length_map, List.length_cons, List.length_nil, List.length_cons, List.length_nil, List.length_append]; done)
def arO1_4 (z0 : Int) (z1 : Int) (z2 : Int) : List Ans := (.n :: .call (vi z0) :: nN 4 (.v VV.any :: .call (vi z1) :: .v VV.any :: .call (vi z2) :: .n :: []))
def arO1_5 (z0 : (SFrac × Sway)) (z1 : SFrac) (z2 : (SFrac × Sway)) (z3 : (SFrac × Sway)) (z4 : (SFrac × Sway)) : List Ans := (nN 4 (.mod1 2 (VV.ag (c_SFrac z0.1)) ⟨true, bigH, [vi z0.2.failed]⟩ :: .n :: .call (VV.ag (c_SFrac z1)) :: nN 4 (.mod1 2 (VV.ag (c_SFrac z2.1)) ⟨true, bigH, [vi z2.2.failed]⟩ :: .mod1 2 (VV.ag (c_SFrac z3.1)) ⟨true, bigH, [vi z3.2.failed]⟩ :: .mod1 2 (VV.ag (c_SFrac z4.1)) ⟨true, bigH, [vi z4.2.failed]⟩ :: .n :: .n :: [])))
def arO1_6 (z0 : SFrac) (z1 : (SFrac × Sway)) (z2 : (SFrac × Sway)) : List Ans := (nN 4 (.call (VV.ag (c_SFrac z0)) :: .n :: .n :: .mod1 2 (VV.ag (c_SFrac z1.1)) ⟨true, bigH, [vi z1.2.failed]⟩ :: .mod1 2 (VV.ag (c_SFrac z2.1)) ⟨true, bigH, [vi z2.2.failed]⟩ :: .n :: .n :: []))
def arO1_7 (z0 : SFrac) (z1 : (Bool × Int)) : List Ans := (.n :: .call (VV.ag (c_SFrac z0)) :: nN 3 (.v VV.any :: .call (VV.tu [vb z1.1, vi z1.2]) :: nN 4 []))
def noptics_OnConic (k : Nat) (a0 : SConic) (a1 : SSpot) : Option (Bool × Int) :=
  (noptics_checkRayConic k a0).bind fun r1376 => ((noptics_checkFracs k ([a1.R, a1.Z] : List SFrac)).bind fun r1378 => ((noptics_firstError k ([r1376, r1378] : List Int)).bind fun r1381 => (if r1381 = 0 then ((n_optics_way_times k (⟨0⟩ : Sway) a1.R a1.R).bind fun r1386 => ((noptics_onePlusK k a0).bind fun r1389 => ((n_optics_way_times k r1386.2 a1.Z a1.Z).bind fun r1391 => ((n_optics_way_times k r1391.2 r1389 r1391.1).bind fun r1394 => ((n_optics_way_plus k r1394.2 r1386.1 r1394.1).bind fun r1397 => ((noptics_whole k (w64 (2 * a0.Radius))).bind fun r1401 => ((n_optics_way_times k r1397.2 r1401 a1.Z).bind fun r1404 => ((n_optics_way_minus k r1404.2 r1397.1 r1404.1).bind fun r1407 => ((noptics_whole k 0).bind fun r1411 => ((noptics_beside_bool_ k ((r1407.1.Num : Int) == r1411.Num && ((r1407.1.Den : Int) == r1411.Den && true)) ([r1407.2.failed] : List Int)).bind fun r1414 => (some (r1414.1, r1414.2)))))))))))) else (some (false, r1381)))))
theorem noptics_OnConic_ok (k : Nat) (a0 : SConic) (a1 : SSpot) (r : (Bool × Int)) (h : noptics_OnConic k a0 a1 = some r) : VC Go.Proofs.Try.prog 28 [VV.ag (c_SConic a0), VV.ag (c_SSpot a1)] (VV.tu [vb r.1, vi r.2]) := by
 unfold noptics_OnConic at h
 obtain ⟨r1376, h1377, h⟩ := bs h
 obtain ⟨r1378, h1379, h⟩ := bs h
 have e1380 := (VC.args (noptics_checkFracs_ok k ([a1.R, a1.Z] : List SFrac) _ h1379) (eqO1_8 a1))
 obtain ⟨r1381, h1382, h⟩ := bs h
 have e1383 := (VC.args (noptics_firstError_ok k ([r1376, r1378] : List Int) _ h1382) (eqO1_10 r1376 r1378))
 have e1384 := (ti (an (noptics_checkRayConic_ok k a0 _ h1377) (ti (ti (ti (ti (ti (an e1380 (ti (an e1383 (ti trivial)))))))))))
 rcases ifs h with ⟨h1385, h⟩ | ⟨h1385, h⟩
 ·obtain ⟨r1386, h1387, h⟩ := bs h
  have e1388 := (an (VM.args (n_optics_way_times_ok k (⟨0⟩ : Sway) a1.R a1.R _ h1387) rfl eqO1_11 rfl) (an (ti trivial) (ti trivial)))
  obtain ⟨r1389, h1390, h⟩ := bs h
  obtain ⟨r1391, h1392, h⟩ := bs h
  have e1393 := (an (n_optics_way_times_ok k r1386.2 a1.Z a1.Z _ h1392) (an (ti trivial) (ti trivial)))
  obtain ⟨r1394, h1395, h⟩ := bs h
  have e1396 := (an (n_optics_way_times_ok k r1391.2 r1389 r1391.1 _ h1395) (an (ti trivial) (ti trivial)))
  obtain ⟨r1397, h1398, h⟩ := bs h
  have e1399 := (an (n_optics_way_plus_ok k r1394.2 r1386.1 r1394.1 _ h1398) (an (ti trivial) (ti trivial)))
  have e1400 := (ti (ti (ti (ti (an e1388 (ti (an (noptics_onePlusK_ok k a0 _ h1390) (ti (ti (ti (ti (an e1393 (an e1396 (an e1399 (ti (ti trivial))))))))))))))))
  obtain ⟨r1401, h1402, h⟩ := bs h
  have e1403 := (noptics_whole_ok k (w64 (2 * a0.Radius)) _ h1402)
  obtain ⟨r1404, h1405, h⟩ := bs h
  have e1406 := (an (n_optics_way_times_ok k r1397.2 r1401 a1.Z _ h1405) (an (ti trivial) (ti trivial)))
  obtain ⟨r1407, h1408, h⟩ := bs h
  have e1409 := (an (n_optics_way_minus_ok k r1404.2 r1397.1 r1404.1 _ h1408) (an (ti trivial) (ti trivial)))
  have e1410 := (ti (ti (ti (ti (an e1403 (ti (ti (an e1406 (an e1409 (ti (ti trivial)))))))))))
  obtain ⟨r1411, h1412, h⟩ := bs h
  have e1413 := (show List.map kdV [Value.int .i64 r1407.1.Num, Value.int .i64 r1407.1.Den] = List.map kdV [Value.int .i64 r1411.Num, Value.int .i64 r1411.Den] ∧ EqOK Go.Proofs.Try.prog 26 (List.map kdV [Value.int .i64 r1411.Num, Value.int .i64 r1411.Den]) from ⟨rfl, eqok26⟩)
  obtain ⟨r1414, h1415, h⟩ := bs h
  have e1416 := (VC.args (noptics_beside_bool__ok k ((r1407.1.Num : Int) == r1411.Num && ((r1407.1.Den : Int) == r1411.Den && true)) ([r1407.2.failed] : List Int) _ h1415) (eqO1_13 r1407 r1411))
  have e1417 := (ti (an (noptics_whole_ok k 0 _ h1412) (an e1413 (ti (ti (ti (an e1416 (ti (ti (ti (ti trivial)))))))))))
  injection h with h; subst h
  exact fun_ok pm pn Go.Proofs.Try.func28 (r0 := VV.tu [vb r1414.1, vi r1414.2]) (ans := [.reg (nN 4 []), .reg (arO1_4 r1376 r1378 r1381), .reg (.n :: .n :: []), .br false, .reg (.n :: []), .reg (arO1_5 r1386 r1389 r1391 r1394 r1397), .reg (arO1_6 r1401 r1404 r1407), .reg (arO1_7 r1411 r1414)]) (fr := true) (by kernel_rfl) (an (an (ti (ti (ti (ti trivial)))) (an (an e1384 (an (ti (ti trivial)) (an (not_f (decide_eq_true h1385)) trivial))) (an (ti trivial) (an e1400 (an e1410 (an e1417 trivial)))))) (ti (ti trivial))) (Wv.refl _)
 ·injection h with h; subst h
  exact fun_ok pm pn Go.Proofs.Try.func28 (r0 := VV.tu [vb false, vi r1381]) (ans := [.reg (nN 4 []), .reg (arO1_4 r1376 r1378 r1381), .reg (.n :: .n :: []), .br true, .reg (nN 3 [])]) (fr := true) (by kernel_rfl) (an (an (ti (ti (ti (ti trivial)))) (an e1384 (an (ti (ti trivial)) (an (not_t (decide_eq_false h1385)) (an (ti (ti (ti trivial))) trivial))))) (ti (ti trivial))) (Wv.refl _)
def arO1_8 (z0 : (SFrac × Sway)) (z1 : (SFrac × Sway)) (z2 : (SFrac × Sway)) : List Ans := (nN 4 (.mod1 0 (VV.ag (c_SFrac z0.1)) ⟨true, bigH, [vi z0.2.failed]⟩ :: nN 3 (.mod1 0 (VV.ag (c_SFrac z1.1)) ⟨true, bigH, [vi z1.2.failed]⟩ :: .mod1 0 (VV.ag (c_SFrac z2.1)) ⟨true, bigH, [vi z2.2.failed]⟩ :: .n :: [])))
def n_optics_way_products (k : Nat) (a0 : Sway) (a1 : SFrac) (a2 : SFrac) (a3 : SFrac) (a4 : SFrac) : Option (SFrac × Sway) :=
  (n_optics_way_times k a0 a1 a2).bind fun r1454 => ((n_optics_way_times k r1454.2 a3 a4).bind fun r1457 => ((n_optics_way_plus k r1457.2 r1454.1 r1457.1).bind fun r1460 => (some (r1460.1, r1460.2))))
theorem n_optics_way_products_ok (k : Nat) (a0 : Sway) (a1 : SFrac) (a2 : SFrac) (a3 : SFrac) (a4 : SFrac) (r : (SFrac × Sway)) (h : n_optics_way_products k a0 a1 a2 a3 a4 = some r) : VM Go.Proofs.Try.prog 66 [VV.pt 0 0, VV.ag (c_SFrac a1), VV.ag (c_SFrac a2), VV.ag (c_SFrac a3), VV.ag (c_SFrac a4)] [⟨true, bigH, [vi a0.failed]⟩] (VV.ag (c_SFrac r.1)) [⟨true, bigH, [vi r.2.failed]⟩] := by
 unfold n_optics_way_products at h
 obtain ⟨r1454, h1455, h⟩ := bs h
 have e1456 := (an (n_optics_way_times_ok k a0 a1 a2 _ h1455) (an (ti trivial) (ti trivial)))
 obtain ⟨r1457, h1458, h⟩ := bs h
 have e1459 := (an (n_optics_way_times_ok k r1454.2 a3 a4 _ h1458) (an (ti trivial) (ti trivial)))
 obtain ⟨r1460, h1461, h⟩ := bs h
 have e1462 := (an (n_optics_way_plus_ok k r1457.2 r1454.1 r1457.1 _ h1461) (an (ti trivial) (ti trivial)))
 have e1463 := (ti (ti (ti (ti (an e1456 (ti (ti (ti (an e1459 (an e1462 (ti trivial)))))))))))
 injection h with h; subst h
 exact fun_okM pm pn Go.Proofs.Try.func66 (L := [⟨true, bigH, [vi a0.failed]⟩]) (r0 := VV.ag (c_SFrac r1460.1)) (ans := [.reg (nN 5 []), .reg (arO1_8 r1454 r1457 r1460)]) (fr := true) (by kernel_rfl) (an (an (ti (ti (ti (ti (ti trivial))))) (an e1463 trivial)) (an (an (ti (ti (ti trivial))) trivial) (an (an (ti trivial) trivial) (show okStill [⟨true, bigH, [vi a0.failed]⟩] from ⟨(fun h => nomatch h), trivial⟩)))) (Wv.refl _) rfl
def arO1_9 (z0 : (SFrac × Sway)) (z1 : SFrac) (z2 : (SFrac × Sway)) : List Ans := (nN 10 (.mod1 0 (VV.ag (c_SFrac z0.1)) ⟨true, bigH, [vi z0.2.failed]⟩ :: .call (VV.ag (c_SFrac z1)) :: .mod1 0 (VV.ag (c_SFrac z2.1)) ⟨true, bigH, [vi z2.2.failed]⟩ :: .n :: .n :: []))
def arO1_10 (z0 : (SFrac × Sway)) (z1 : (SFrac × Sway)) : List Ans := (nN 11 (.mod1 0 (VV.ag (c_SFrac z0.1)) ⟨true, bigH, [vi z0.2.failed]⟩ :: .mod1 0 (VV.ag (c_SFrac z1.1)) ⟨true, bigH, [vi z1.2.failed]⟩ :: .n :: .n :: []))
def arO1_11 (z0 : (SFrac × Sway)) (z1 : (SFrac × Sway)) (z2 : (SFrac × Sway)) (z3 : (SFrac × Sway)) : List Ans := (nN 7 (.mod1 0 (VV.ag (c_SFrac z0.1)) ⟨true, bigH, [vi z0.2.failed]⟩ :: .mod1 0 (VV.ag (c_SFrac z1.1)) ⟨true, bigH, [vi z1.2.failed]⟩ :: nN 7 (.mod1 0 (VV.ag (c_SFrac z2.1)) ⟨true, bigH, [vi z2.2.failed]⟩ :: .mod1 0 (VV.ag (c_SFrac z3.1)) ⟨true, bigH, [vi z3.2.failed]⟩ :: .n :: .n :: [])))
theorem eqO1_14 (z0 : (SFrac × Sway)) (z1 : (SFrac × Sway)) : VV.ag [vi z0.1.Num, vi z0.1.Den, vi z1.1.Num, vi z1.1.Den] = VV.ag [vi (((⟨z0.1, z1.1⟩ : A66).e0).Num), vi (((⟨z0.1, z1.1⟩ : A66).e0).Den), vi (((⟨z0.1, z1.1⟩ : A66).e1).Num), vi (((⟨z0.1, z1.1⟩ : A66).e1).Den)] := by first | rfl | (simp only [unfr_vi, List.map_cons, List.map_nil, un_i]; done) | (simp only [unfr_vi, List.map_cons, List.map_nil, un_i]; rfl) | (simp only [unfr_vi, List.map_cons, List.map_nil, un_i, List.length_cons, List.length_nil, List.length_append]; done)
def n_optics_way_mirrored (k : Nat) (a0 : Sway) (a1 : A66) (a2 : A66) : Option (A66 × Sway) :=
  (n_optics_way_products k a0 a1.e0 a2.e0 a1.e1 a2.e1).bind fun r1505 => ((noptics_whole k 2).bind fun r1508 => ((n_optics_way_times k r1505.2 r1505.1 r1508).bind fun r1510 => ((n_optics_way_products k r1510.2 a2.e0 a2.e0 a2.e1 a2.e1).bind fun r1518 => ((n_optics_way_over k r1518.2 r1510.1 r1518.1).bind fun r1521 => ((n_optics_way_times k r1521.2 r1521.1 a2.e0).bind fun r1527 => ((n_optics_way_minus k r1527.2 a1.e0 r1527.1).bind fun r1530 => ((n_optics_way_times k r1530.2 r1521.1 a2.e1).bind fun r1535 => ((n_optics_way_minus k r1535.2 a1.e1 r1535.1).bind fun r1538 => (some ((⟨r1530.1, r1538.1⟩ : A66), r1538.2))))))))))
theorem n_optics_way_mirrored_ok (k : Nat) (a0 : Sway) (a1 : A66) (a2 : A66) (r : (A66 × Sway)) (h : n_optics_way_mirrored k a0 a1 a2 = some r) : VM Go.Proofs.Try.prog 83 [VV.pt 0 0, VV.ag (c_A66 a1), VV.ag (c_A66 a2)] [⟨true, bigH, [vi a0.failed]⟩] (VV.ag (c_A66 r.1)) [⟨true, bigH, [vi r.2.failed]⟩] := by
 unfold n_optics_way_mirrored at h
 have e1501 := (show (0:Int) ≤ 0 ∧ (0:Int) < ((2 : Nat) : Int) from ⟨by decide, by decide⟩)
 have e1502 := (show (0:Int) ≤ 0 ∧ (0:Int) < ((2 : Nat) : Int) from ⟨by decide, by decide⟩)
 have e1503 := (show (0:Int) ≤ 1 ∧ (1:Int) < ((2 : Nat) : Int) from ⟨by decide, by decide⟩)
 have e1504 := (show (0:Int) ≤ 1 ∧ (1:Int) < ((2 : Nat) : Int) from ⟨by decide, by decide⟩)
 obtain ⟨r1505, h1506, h⟩ := bs h
 have e1507 := (an (n_optics_way_products_ok k a0 a1.e0 a2.e0 a1.e1 a2.e1 _ h1506) (an (ti trivial) (ti trivial)))
 obtain ⟨r1508, h1509, h⟩ := bs h
 obtain ⟨r1510, h1511, h⟩ := bs h
 have e1512 := (an (n_optics_way_times_ok k r1505.2 r1505.1 r1508 _ h1511) (an (ti trivial) (ti trivial)))
 have e1513 := (ti (ti (an e1501 (ti (an e1502 (ti (an e1503 (ti (an e1504 (ti (an e1507 (an (noptics_whole_ok k 2 _ h1509) (an e1512 (ti (ti trivial)))))))))))))))
 have e1514 := (show (0:Int) ≤ 0 ∧ (0:Int) < ((2 : Nat) : Int) from ⟨by decide, by decide⟩)
 have e1515 := (show (0:Int) ≤ 0 ∧ (0:Int) < ((2 : Nat) : Int) from ⟨by decide, by decide⟩)
 have e1516 := (show (0:Int) ≤ 1 ∧ (1:Int) < ((2 : Nat) : Int) from ⟨by decide, by decide⟩)
 have e1517 := (show (0:Int) ≤ 1 ∧ (1:Int) < ((2 : Nat) : Int) from ⟨by decide, by decide⟩)
 obtain ⟨r1518, h1519, h⟩ := bs h
 have e1520 := (an (n_optics_way_products_ok k r1510.2 a2.e0 a2.e0 a2.e1 a2.e1 _ h1519) (an (ti trivial) (ti trivial)))
 obtain ⟨r1521, h1522, h⟩ := bs h
 have e1523 := (an (n_optics_way_over_ok k r1518.2 r1510.1 r1518.1 _ h1522) (an (ti trivial) (ti trivial)))
 have e1524 := (ti (ti (ti (an e1514 (ti (an e1515 (ti (an e1516 (ti (an e1517 (ti (an e1520 (an e1523 (ti (ti trivial)))))))))))))))
 have e1525 := (show (0:Int) ≤ 0 ∧ (0:Int) < ((2 : Nat) : Int) from ⟨by decide, by decide⟩)
 have e1526 := (show (0:Int) ≤ 0 ∧ (0:Int) < ((2 : Nat) : Int) from ⟨by decide, by decide⟩)
 obtain ⟨r1527, h1528, h⟩ := bs h
 have e1529 := (an (n_optics_way_times_ok k r1521.2 r1521.1 a2.e0 _ h1528) (an (ti trivial) (ti trivial)))
 obtain ⟨r1530, h1531, h⟩ := bs h
 have e1532 := (an (n_optics_way_minus_ok k r1527.2 a1.e0 r1527.1 _ h1531) (an (ti trivial) (ti trivial)))
 have e1533 := (show (0:Int) ≤ 1 ∧ (1:Int) < ((2 : Nat) : Int) from ⟨by decide, by decide⟩)
 have e1534 := (show (0:Int) ≤ 1 ∧ (1:Int) < ((2 : Nat) : Int) from ⟨by decide, by decide⟩)
 obtain ⟨r1535, h1536, h⟩ := bs h
 have e1537 := (an (n_optics_way_times_ok k r1530.2 r1521.1 a2.e1 _ h1536) (an (ti trivial) (ti trivial)))
 obtain ⟨r1538, h1539, h⟩ := bs h
 have e1540 := (an (n_optics_way_minus_ok k r1535.2 a1.e1 r1535.1 _ h1539) (an (ti trivial) (ti trivial)))
 have e1541 := (ti (an e1525 (ti (ti (ti (an e1526 (ti (an e1529 (an e1532 (ti (an e1533 (ti (ti (ti (an e1534 (ti (an e1537 (an e1540 (ti (ti trivial))))))))))))))))))))
 injection h with h; subst h
 exact fun_okM pm pn Go.Proofs.Try.func83 (L := [⟨true, bigH, [vi a0.failed]⟩]) (r0 := VV.ag [vi r1530.1.Num, vi r1530.1.Den, vi r1538.1.Num, vi r1538.1.Den]) (ans := [.reg (nN 3 []), .reg (arO1_9 r1505 r1508 r1510), .reg (arO1_10 r1518 r1521), .reg (arO1_11 r1527 r1530 r1535 r1538)]) (fr := true) (by kernel_rfl) (an (an (ti (ti (ti trivial))) (an e1513 (an e1524 (an e1541 trivial)))) (an (an (ti (ti (ti (ti (ti trivial))))) trivial) (an (an (ti trivial) trivial) (show okStill [⟨true, bigH, [vi a0.failed]⟩] from ⟨(fun h => nomatch h), trivial⟩)))) (Wv.of_eq (eqO1_14 r1530 r1538)) rfl
theorem eqO1_15 (z0 : SFrac) (z1 : SFrac) (z2 : SSpot) (z3 : (SFrac × Sway)) : [VV.pt 0 0, VV.ag [vi (((⟨z0, z1⟩ : A66).e0).Num), vi (((⟨z0, z1⟩ : A66).e0).Den), vi (((⟨z0, z1⟩ : A66).e1).Num), vi (((⟨z0, z1⟩ : A66).e1).Den)], VV.ag [vi (((⟨z2.R, z3.1⟩ : A66).e0).Num), vi (((⟨z2.R, z3.1⟩ : A66).e0).Den), vi (((⟨z2.R, z3.1⟩ : A66).e1).Num), vi (((⟨z2.R, z3.1⟩ : A66).e1).Den)]] = [VV.pt 0 0, VV.ag [vi z0.Num, vi z0.Den, vi z1.Num, vi z1.Den], VV.ag [vi z2.R.Num, vi z2.R.Den, vi z3.1.Num, vi z3.1.Den]] := by first | rfl | (simp only [unfr_vi, List.map_cons, List.map_nil, un_i]; done) | (simp only [unfr_vi, List.map_cons, List.map_nil, un_i]; rfl) | (simp only [unfr_vi, List.map_cons, List.map_nil, un_i, List.length_cons, List.length_nil, List.length_append]; done)
theorem eqO1_16 (z0 : Int) : VV.tu [VV.ag [vi 0, vi 0, vi 0, vi 0], vi z0] = VV.tu [VV.ag [vi (((⟨(⟨0, 0⟩ : SFrac), (⟨0, 0⟩ : SFrac)⟩ : A66).e0).Num), vi (((⟨(⟨0, 0⟩ : SFrac), (⟨0, 0⟩ : SFrac)⟩ : A66).e0).Den), vi (((⟨(⟨0, 0⟩ : SFrac), (⟨0, 0⟩ : SFrac)⟩ : A66).e1).Num), vi (((⟨(⟨0, 0⟩ : SFrac), (⟨0, 0⟩ : SFrac)⟩ : A66).e1).Den)], vi z0] := by first | rfl | (simp only [unfr_vi, List.map_cons, List.map_nil, un_i]; done) | (simp only [unfr_vi, List.map_cons, List.map_nil, un_i]; rfl) | (simp only [unfr_vi, List.map_cons, List.map_nil, un_i, List.length_cons, List.length_nil, List.length_append]; done)
def noptics_beside_2_api_Frac_ (k : Nat) (a0 : A66) (a1 : (List Int)) : Option (A66 × Int) :=
  (noptics_firstError k a1).bind fun r1550 => (if r1550 = 0 then (some (a0, 0)) else (some ((⟨(⟨0, 0⟩ : SFrac), (⟨0, 0⟩ : SFrac)⟩ : A66), r1550)))
theorem noptics_beside_2_api_Frac__ok (k : Nat) (a0 : A66) (a1 : (List Int)) (r : (A66 × Int)) (h : noptics_beside_2_api_Frac_ k a0 a1 = some r) : VC Go.Proofs.Try.prog 84 [VV.ag (c_A66 a0), VV.tr (List.map vi a1) a1.length] (VV.tu [VV.ag (c_A66 r.1), vi r.2]) := by
 unfold noptics_beside_2_api_Frac_ at h
 obtain ⟨r1550, h1551, h⟩ := bs h
 have e1552 := (ti (an (noptics_firstError_ok k a1 _ h1551) (ti trivial)))
 rcases ifs h with ⟨h1553, h⟩ | ⟨h1553, h⟩
 ·injection h with h; subst h
  exact fun_ok pm pn Go.Proofs.Try.func84 (r0 := VV.tu [VV.ag (c_A66 a0), vi 0]) (ans := [.reg (nN 3 []), .reg (.n :: .call (vi r1550) :: .n :: []), .reg (.n :: .n :: []), .br false, .reg (nN 3 [])]) (fr := true) (by kernel_rfl) (an (an (ti (ti (ti trivial))) (an (an e1552 (an (ti (ti trivial)) (an (not_f (decide_eq_true h1553)) trivial))) (an (ti (ti (ti trivial))) trivial))) (an (ti (ti (ti (ti (ti trivial))))) (ti trivial))) (Wv.refl _)
 ·injection h with h; subst h
  exact fun_ok pm pn Go.Proofs.Try.func84 (r0 := VV.tu [VV.ag [vi 0, vi 0, vi 0, vi 0], vi r1550]) (ans := [.reg (nN 3 []), .reg (.n :: .call (vi r1550) :: .n :: []), .reg (.n :: .n :: []), .br true, .reg (.n :: []), .reg (nN 4 [])]) (fr := true) (by kernel_rfl) (an (an (ti (ti (ti trivial))) (an e1552 (an (ti (ti trivial)) (an (not_t (decide_eq_false h1553)) (an (ti trivial) (an (ti (ti (ti (ti trivial)))) trivial)))))) (an (ti (ti (ti (ti (ti trivial))))) (ti trivial))) (Wv.of_eq (eqO1_16 r1550))
theorem eqO1_17 (z0 : (A66 × Sway)) : [VV.ag (c_A66 z0.1), VV.tr (List.map vi ([z0.2.failed] : List Int)) (([z0.2.failed] : List Int).length)] = [VV.ag (c_A66 z0.1), VV.tr [vi z0.2.failed] 1] := by first | rfl | (simp only [unfr_vi, List.map_cons, List.map_nil, un_i, un_tr, List.length_map, List.length_cons, List.length_nil, unfr_c_A66]; done) | (simp only [unfr_vi, List.map_cons, List.map_nil, un_i, un_tr, List.length_map, List.length_cons, List.length_nil, unfr_c_A66]; rfl) | (simp only [unfr_vi, List.map_cons, List.map_nil, un_i, un_tr, List.length_map, List.length_cons, List.length_nil, unfr_c_A66, List.length_cons, List.length_nil, List.length_append]; done)
def arO1_12 (z0 : Int) (z1 : Int) (z2 : Int) (z3 : Int) : List Ans := (.n :: .call (vi z0) :: nN 4 (.v VV.any :: .call (vi z1) :: .n :: .call (vi z2) :: .v VV.any :: .call (vi z3) :: .n :: []))
def arO1_13 (z0 : SFrac) (z1 : (SFrac × Sway)) (z2 : SFrac) (z3 : (SFrac × Sway)) : List Ans := (nN 3 (.call (VV.ag (c_SFrac z0)) :: .n :: .n :: .mod1 4 (VV.ag (c_SFrac z1.1)) ⟨true, bigH, [vi z1.2.failed]⟩ :: .n :: .n :: .call (VV.ag (c_SFrac z2)) :: .mod1 4 (VV.ag (c_SFrac z3.1)) ⟨true, bigH, [vi z3.2.failed]⟩ :: nN 3 []))
def arO1_14 (z0 : SFrac) (z1 : SFrac) (z2 : (A66 × Sway)) : List Ans := (.n :: .n :: .call (VV.ag (c_SFrac z0)) :: .n :: .n :: .call (VV.ag (c_SFrac z1)) :: .n :: .n :: .mod1 4 (VV.ag (c_A66 z2.1)) ⟨true, bigH, [vi z2.2.failed]⟩ :: .n :: .n :: [])
theorem eqO1_18  : VV.tu [VV.ag [vi 0, vi 0, vi 0, vi 0], vi 24] = VV.tu [VV.ag [vi (((⟨(⟨0, 0⟩ : SFrac), (⟨0, 0⟩ : SFrac)⟩ : A66).e0).Num), vi (((⟨(⟨0, 0⟩ : SFrac), (⟨0, 0⟩ : SFrac)⟩ : A66).e0).Den), vi (((⟨(⟨0, 0⟩ : SFrac), (⟨0, 0⟩ : SFrac)⟩ : A66).e1).Num), vi (((⟨(⟨0, 0⟩ : SFrac), (⟨0, 0⟩ : SFrac)⟩ : A66).e1).Den)], vi 24] := by first | rfl | (simp only [unfr_vi, List.map_cons, List.map_nil, un_i]; done) | (simp only [unfr_vi, List.map_cons, List.map_nil, un_i]; rfl) | (simp only [unfr_vi, List.map_cons, List.map_nil, un_i, List.length_cons, List.length_nil, List.length_append]; done)
theorem eqO1_19 (z0 : (Bool × Int)) : VV.tu [VV.ag [vi 0, vi 0, vi 0, vi 0], vi z0.2] = VV.tu [VV.ag [vi (((⟨(⟨0, 0⟩ : SFrac), (⟨0, 0⟩ : SFrac)⟩ : A66).e0).Num), vi (((⟨(⟨0, 0⟩ : SFrac), (⟨0, 0⟩ : SFrac)⟩ : A66).e0).Den), vi (((⟨(⟨0, 0⟩ : SFrac), (⟨0, 0⟩ : SFrac)⟩ : A66).e1).Num), vi (((⟨(⟨0, 0⟩ : SFrac), (⟨0, 0⟩ : SFrac)⟩ : A66).e1).Den)], vi z0.2] := by first | rfl | (simp only [unfr_vi, List.map_cons, List.map_nil, un_i]; done) | (simp only [unfr_vi, List.map_cons, List.map_nil, un_i]; rfl) | (simp only [unfr_vi, List.map_cons, List.map_nil, un_i, List.length_cons, List.length_nil, List.length_append]; done)
def noptics_Reflect (k : Nat) (a0 : SConic) (a1 : SSpot) (a2 : A63) : Option (A66 × Int) :=
  (noptics_checkRayConic k a0).bind fun r1558 => ((noptics_checkFracs k ([a1.R, a1.Z] : List SFrac)).bind fun r1560 => ((noptics_checkToward k a2).bind fun r1563 => ((noptics_firstError k ([r1558, r1560, r1563] : List Int)).bind fun r1565 => (if r1565 = 0 then ((noptics_OnConic k a0 a1).bind fun r1570 => (if r1570.2 = 0 then (if r1570.1 = true then ((noptics_onePlusK k a0).bind fun r1575 => ((n_optics_way_times k (⟨0⟩ : Sway) r1575 a1.Z).bind fun r1577 => ((noptics_whole k a0.Radius).bind fun r1580 => ((n_optics_way_minus k r1577.2 r1577.1 r1580).bind fun r1582 => ((noptics_whole k a2.e0).bind fun r1587 => ((noptics_whole k a2.e1).bind fun r1590 => ((n_optics_way_mirrored k r1582.2 (⟨r1587, r1590⟩ : A66) (⟨a1.R, r1582.1⟩ : A66)).bind fun r1592 => ((noptics_beside_2_api_Frac_ k r1592.1 ([r1592.2.failed] : List Int)).bind fun r1596 => (some (r1596.1, r1596.2)))))))))) else (some ((⟨(⟨0, 0⟩ : SFrac), (⟨0, 0⟩ : SFrac)⟩ : A66), 24))) else (some ((⟨(⟨0, 0⟩ : SFrac), (⟨0, 0⟩ : SFrac)⟩ : A66), r1570.2)))) else (some ((⟨(⟨0, 0⟩ : SFrac), (⟨0, 0⟩ : SFrac)⟩ : A66), r1565))))))
theorem noptics_Reflect_ok (k : Nat) (a0 : SConic) (a1 : SSpot) (a2 : A63) (r : (A66 × Int)) (h : noptics_Reflect k a0 a1 a2 = some r) : VC Go.Proofs.Try.prog 29 [VV.ag (c_SConic a0), VV.ag (c_SSpot a1), VV.ag (c_A63 a2)] (VV.tu [VV.ag (c_A66 r.1), vi r.2]) := by
 unfold noptics_Reflect at h
 obtain ⟨r1558, h1559, h⟩ := bs h
 obtain ⟨r1560, h1561, h⟩ := bs h
 have e1562 := (VC.args (noptics_checkFracs_ok k ([a1.R, a1.Z] : List SFrac) _ h1561) (eqO1_8 a1))
 obtain ⟨r1563, h1564, h⟩ := bs h
 obtain ⟨r1565, h1566, h⟩ := bs h
 have e1567 := (VC.args (noptics_firstError_ok k ([r1558, r1560, r1563] : List Int) _ h1566) (eqO1_9 r1558 r1560 r1563))
 have e1568 := (ti (an (noptics_checkRayConic_ok k a0 _ h1559) (ti (ti (ti (ti (ti (an e1562 (ti (an (noptics_checkToward_ok k a2 _ h1564) (ti (an e1567 (ti trivial)))))))))))))
 rcases ifs h with ⟨h1569, h⟩ | ⟨h1569, h⟩
 ·obtain ⟨r1570, h1571, h⟩ := bs h
  have e1572 := (ti (ti (an (noptics_OnConic_ok k a0 a1 _ h1571) (ti (ti (ti (ti (ti trivial))))))))
  rcases ifs h with ⟨h1573, h⟩ | ⟨h1573, h⟩
  ·rcases ifs h with ⟨h1574, h⟩ | ⟨h1574, h⟩
   ·obtain ⟨r1575, h1576, h⟩ := bs h
    obtain ⟨r1577, h1578, h⟩ := bs h
    have e1579 := (an (VM.args (n_optics_way_times_ok k (⟨0⟩ : Sway) r1575 a1.Z _ h1578) rfl eqO1_11 rfl) (an (ti trivial) (ti trivial)))
    obtain ⟨r1580, h1581, h⟩ := bs h
    obtain ⟨r1582, h1583, h⟩ := bs h
    have e1584 := (an (n_optics_way_minus_ok k r1577.2 r1577.1 r1580 _ h1583) (an (ti trivial) (ti trivial)))
    have e1585 := (ti (ti (ti (an (noptics_onePlusK_ok k a0 _ h1576) (ti (ti (an e1579 (ti (ti (an (noptics_whole_ok k a0.Radius _ h1581) (an e1584 (ti (ti (ti trivial))))))))))))))
    have e1586 := (show (0:Int) ≤ 0 ∧ (0:Int) < ((2 : Nat) : Int) from ⟨by decide, by decide⟩)
    obtain ⟨r1587, h1588, h⟩ := bs h
    have e1589 := (show (0:Int) ≤ 1 ∧ (1:Int) < ((2 : Nat) : Int) from ⟨by decide, by decide⟩)
    obtain ⟨r1590, h1591, h⟩ := bs h
    obtain ⟨r1592, h1593, h⟩ := bs h
    have e1594 := (an (VM.args (n_optics_way_mirrored_ok k r1582.2 (⟨r1587, r1590⟩ : A66) (⟨a1.R, r1582.1⟩ : A66) _ h1593) (eqO1_15 r1587 r1590 a1 r1582) rfl rfl) (an (ti trivial) (ti trivial)))
    have e1595 := (an e1586 (ti (an (noptics_whole_ok k a2.e0 _ h1588) (an e1589 (ti (an (noptics_whole_ok k a2.e1 _ h1591) (ti (ti (an e1594 (ti (ti trivial)))))))))))
    obtain ⟨r1596, h1597, h⟩ := bs h
    have e1598 := (VC.args (noptics_beside_2_api_Frac__ok k r1592.1 ([r1592.2.failed] : List Int) _ h1597) (eqO1_17 r1592))
    have e1599 := (ti (ti (ti (ti (an e1598 (ti (ti (ti (ti trivial)))))))))
    injection h with h; subst h
    exact fun_ok pm pn Go.Proofs.Try.func29 (r0 := VV.tu [VV.ag (c_A66 r1596.1), vi r1596.2]) (ans := [.reg (nN 5 []), .reg (arO1_12 r1558 r1560 r1563 r1565), .reg (.n :: .n :: []), .br false, .reg (.n :: .n :: .call (VV.tu [vb r1570.1, vi r1570.2]) :: nN 5 []), .reg (.n :: .n :: []), .br false, .reg (.n :: .n :: []), .br false, .reg (.n :: []), .reg (arO1_13 r1575 r1577 r1580 r1582), .reg (arO1_14 r1587 r1590 r1592), .reg (nN 3 (.v VV.any :: .call (VV.tu [VV.ag (c_A66 r1596.1), vi r1596.2]) :: nN 4 []))]) (fr := true) (by kernel_rfl) (an (an (ti (ti (ti (ti (ti trivial))))) (an (an e1568 (an (ti (ti trivial)) (an (not_f (decide_eq_true h1569)) trivial))) (an e1572 (an (an (ti (ti trivial)) (an (not_f (decide_eq_true h1573)) trivial)) (an (an (ti (ti trivial)) (an (not_f h1574) trivial)) (an (ti trivial) (an e1585 (an e1595 (an e1599 trivial))))))))) (an (ti (ti (ti (ti (ti trivial))))) (ti trivial))) (Wv.refl _)
   ·injection h with h; subst h
    exact fun_ok pm pn Go.Proofs.Try.func29 (r0 := VV.tu [VV.ag [vi 0, vi 0, vi 0, vi 0], vi 24]) (ans := [.reg (nN 5 []), .reg (arO1_12 r1558 r1560 r1563 r1565), .reg (.n :: .n :: []), .br false, .reg (.n :: .n :: .call (VV.tu [vb r1570.1, vi r1570.2]) :: nN 5 []), .reg (.n :: .n :: []), .br false, .reg (.n :: .n :: []), .br true, .reg (nN 3 [])]) (fr := true) (by kernel_rfl) (an (an (ti (ti (ti (ti (ti trivial))))) (an (an e1568 (an (ti (ti trivial)) (an (not_f (decide_eq_true h1569)) trivial))) (an e1572 (an (an (ti (ti trivial)) (an (not_f (decide_eq_true h1573)) trivial)) (an (ti (ti trivial)) (an (not_t (bool_f h1574)) (an (ti (ti (ti trivial))) trivial))))))) (an (ti (ti (ti (ti (ti trivial))))) (ti trivial))) (Wv.of_eq eqO1_18)
  ·injection h with h; subst h
   exact fun_ok pm pn Go.Proofs.Try.func29 (r0 := VV.tu [VV.ag [vi 0, vi 0, vi 0, vi 0], vi r1570.2]) (ans := [.reg (nN 5 []), .reg (arO1_12 r1558 r1560 r1563 r1565), .reg (.n :: .n :: []), .br false, .reg (.n :: .n :: .call (VV.tu [vb r1570.1, vi r1570.2]) :: nN 5 []), .reg (.n :: .n :: []), .br true, .reg (nN 4 [])]) (fr := true) (by kernel_rfl) (an (an (ti (ti (ti (ti (ti trivial))))) (an (an e1568 (an (ti (ti trivial)) (an (not_f (decide_eq_true h1569)) trivial))) (an e1572 (an (ti (ti trivial)) (an (not_t (decide_eq_false h1573)) (an (ti (ti (ti (ti trivial)))) trivial)))))) (an (ti (ti (ti (ti (ti trivial))))) (ti trivial))) (Wv.of_eq (eqO1_19 r1570))
 ·injection h with h; subst h
  exact fun_ok pm pn Go.Proofs.Try.func29 (r0 := VV.tu [VV.ag [vi 0, vi 0, vi 0, vi 0], vi r1565]) (ans := [.reg (nN 5 []), .reg (arO1_12 r1558 r1560 r1563 r1565), .reg (.n :: .n :: []), .br true, .reg (nN 4 [])]) (fr := true) (by kernel_rfl) (an (an (ti (ti (ti (ti (ti trivial))))) (an e1568 (an (ti (ti trivial)) (an (not_t (decide_eq_false h1569)) (an (ti (ti (ti (ti trivial)))) trivial))))) (an (ti (ti (ti (ti (ti trivial))))) (ti trivial))) (Wv.of_eq (eqO1_16 r1565))
theorem eqO1_20 (z0 : SFrac) (z1 : SFrac) : [VV.ag (c_SConic (⟨100, z0⟩ : SConic)), VV.ag [vi (((⟨z1, (⟨9, 2⟩ : SFrac)⟩ : SSpot).R).Num), vi (((⟨z1, (⟨9, 2⟩ : SFrac)⟩ : SSpot).R).Den), vi (((⟨z1, (⟨9, 2⟩ : SFrac)⟩ : SSpot).Z).Num), vi (((⟨z1, (⟨9, 2⟩ : SFrac)⟩ : SSpot).Z).Den)], VV.ag (c_A63 (⟨0, (-1)⟩ : A63))] = [VV.ag [vi 100, vi z0.Num, vi z0.Den], VV.ag [vi z1.Num, vi z1.Den, vi 9, vi 2], VV.ag [vi 0, vi (-1)]] := by first | rfl | (simp only [unfr_vi, List.map_cons, List.map_nil, un_i, unfr_c_SConic, unfr_c_A63]; done) | (simp only [unfr_vi, List.map_cons, List.map_nil, un_i, unfr_c_SConic, unfr_c_A63]; rfl) | (simp only [unfr_vi, List.map_cons, List.map_nil, un_i, unfr_c_SConic, unfr_c_A63, c_SConic, List.length_cons, List.length_nil, List.length_append]; done)
def arO1_15 (z0 : SFrac) (z1 : (SRange × Int)) : List Ans := (.call (VV.ag (c_SFrac z0)) :: .n :: .call (VV.tu [VV.ag (c_SRange z1.1), vi z1.2]) :: nN 6 [])
def arO1_16 (z0 : SFrac) (z1 : SFrac) (z2 : (A66 × Int)) : List Ans := (.call (VV.ag (c_SFrac z0)) :: .n :: .call (VV.ag (c_SFrac z1)) :: nN 3 (.call (VV.tu [VV.ag (c_A66 z2.1), vi z2.2]) :: nN 6 []))
def arO1_17 (z0 : SFrac) (z1 : SFrac) (z2 : SFrac) : List Ans := (nN 6 (.b true :: nN 3 (.b true :: .n :: .n :: .call (VV.ag (c_SFrac z0)) :: .call (VV.ag (c_SFrac z1)) :: .call (VV.ag (c_SFrac z2)) :: nN 3 (.b true :: nN 3 (.b true :: nN 6 (.b true :: .n :: []))))))
def arO1_18 (z0 : SFrac) (z1 : SFrac) (z2 : SFrac) : List Ans := (nN 6 (.b true :: nN 3 (.b true :: .n :: .n :: .call (VV.ag (c_SFrac z0)) :: .call (VV.ag (c_SFrac z1)) :: .call (VV.ag (c_SFrac z2)) :: nN 3 (.b true :: nN 3 (.b true :: .n :: nS 5 (.b false :: .n :: []))))))
def arO1_19 (z0 : SFrac) (z1 : SFrac) (z2 : SFrac) : List Ans := (nN 6 (.b true :: nN 3 (.b true :: .n :: .n :: .call (VV.ag (c_SFrac z0)) :: .call (VV.ag (c_SFrac z1)) :: .call (VV.ag (c_SFrac z2)) :: nN 3 (.b true :: .n :: .skip :: .skip :: .b false :: .n :: nS 5 (.b false :: .n :: [])))))
def arO1_20  : List Ans := (nN 6 (.b true :: nN 3 (.b true :: .n :: nS 7 (.b false :: .n :: .skip :: .skip :: .b false :: .n :: nS 5 (.b false :: .n :: [])))))
def arO1_21  : List Ans := (nN 6 (.b true :: .n :: .skip :: .skip :: .b false :: .n :: nS 7 (.b false :: .n :: .skip :: .skip :: .b false :: .n :: nS 5 (.b false :: .n :: []))))
def arO1_22  : List Ans := (nN 3 (nS 3 (.b false :: .n :: .skip :: .skip :: .b false :: .n :: nS 7 (.b false :: .n :: .skip :: .skip :: .b false :: .n :: nS 5 (.b false :: .n :: [])))))
def nspeculumlaw02_awake (k : Nat)  : Option Bool :=
  (nspeculumlaw02_whole k 0).bind fun r1627 => ((noptics_Sag k (⟨500000, r1627⟩ : SConic) 300000).bind fun r1629 => ((noptics_TwoMirrors k 4000 (-1500) 1500).bind fun r1633 => ((nspeculumlaw02_whole k (-1)).bind fun r1636 => ((nspeculumlaw02_whole k 30).bind fun r1639 => ((noptics_Reflect k (⟨100, r1636⟩ : SConic) (⟨r1639, (⟨9, 2⟩ : SFrac)⟩ : SSpot) (⟨0, (-1)⟩ : A63)).bind fun r1641 => (if r1629.2 = 0 then (if ((r1629.1.Lo : Int) == 100000000 && ((r1629.1.Hi : Int) == 100000000 && true)) = true then (if r1633.2 = 0 then ((nspeculumlaw02_whole k 6000).bind fun r1649 => ((nspeculumlaw02_whole k 1500).bind fun r1652 => ((nspeculumlaw02_whole k 3).bind fun r1655 => (if ((r1633.1.Focal.Num : Int) == r1649.Num && ((r1633.1.Focal.Den : Int) == r1649.Den && ((r1633.1.Back.Num : Int) == r1652.Num && ((r1633.1.Back.Den : Int) == r1652.Den && ((r1633.1.Magnify.Num : Int) == r1655.Num && ((r1633.1.Magnify.Den : Int) == r1655.Den && ((r1633.1.Obstruct.Num : Int) == 1 && ((r1633.1.Obstruct.Den : Int) == 4 && true)))))))) = true then (if r1641.2 = 0 then (some ((r1641.1.e0.Num : Int) == (-60) && ((r1641.1.e0.Den : Int) == 109 && ((r1641.1.e1.Num : Int) == 91 && ((r1641.1.e1.Den : Int) == 109 && true))))) else (some false)) else (some false))))) else (some false)) else (some false)) else (some false)))))))
theorem nspeculumlaw02_awake_ok (k : Nat)  (r : Bool) (h : nspeculumlaw02_awake k  = some r) : VC Go.Proofs.Try.prog 11 [] (vb r) := by
 unfold nspeculumlaw02_awake at h
 obtain ⟨r1627, h1628, h⟩ := bs h
 obtain ⟨r1629, h1630, h⟩ := bs h
 have e1631 := (VC.args (noptics_Sag_ok k (⟨500000, r1627⟩ : SConic) 300000 _ h1630) (eqO1_7 r1627))
 have e1632 := (an (nspeculumlaw02_whole_ok k 0 _ h1628) (ti (an e1631 (ti (ti (ti (ti (ti (ti trivial)))))))))
 obtain ⟨r1633, h1634, h⟩ := bs h
 have e1635 := (noptics_TwoMirrors_ok k 4000 (-1500) 1500 _ h1634)
 obtain ⟨r1636, h1637, h⟩ := bs h
 have e1638 := (nspeculumlaw02_whole_ok k (-1) _ h1637)
 obtain ⟨r1639, h1640, h⟩ := bs h
 obtain ⟨r1641, h1642, h⟩ := bs h
 have e1643 := (VC.args (noptics_Reflect_ok k (⟨100, r1636⟩ : SConic) (⟨r1639, (⟨9, 2⟩ : SFrac)⟩ : SSpot) (⟨0, (-1)⟩ : A63) _ h1642) (eqO1_20 r1636 r1639))
 have e1644 := (an e1638 (ti (an (nspeculumlaw02_whole_ok k 30 _ h1640) (ti (ti (ti (an e1643 (ti (ti (ti (ti (ti (ti trivial)))))))))))))
 rcases ifs h with ⟨h1645, h⟩ | ⟨h1645, h⟩
 ·have e1646 := (an (decide_eq_true h1645) (show List.map kdV [Value.int .i64 r1629.1.Lo, Value.int .i64 r1629.1.Hi] = List.map kdV [Value.int .i64 100000000, Value.int .i64 100000000] ∧ EqOK Go.Proofs.Try.prog 52 (List.map kdV [Value.int .i64 100000000, Value.int .i64 100000000]) from ⟨rfl, eqok52⟩))
  rcases ifs h with ⟨h1647, h⟩ | ⟨h1647, h⟩
  ·rcases ifs h with ⟨h1648, h⟩ | ⟨h1648, h⟩
   ·obtain ⟨r1649, h1650, h⟩ := bs h
    have e1651 := (an (decide_eq_true h1648) (nspeculumlaw02_whole_ok k 6000 _ h1650))
    obtain ⟨r1652, h1653, h⟩ := bs h
    have e1654 := (an (decide_eq_true h1648) (nspeculumlaw02_whole_ok k 1500 _ h1653))
    obtain ⟨r1655, h1656, h⟩ := bs h
    have e1657 := (an (decide_eq_true h1648) (nspeculumlaw02_whole_ok k 3 _ h1656))
    have e1658 := (an (decide_eq_true h1648) (show List.map kdV [Value.int .i64 r1633.1.Focal.Num, Value.int .i64 r1633.1.Focal.Den, Value.int .i64 r1633.1.Back.Num, Value.int .i64 r1633.1.Back.Den, Value.int .i64 r1633.1.Magnify.Num, Value.int .i64 r1633.1.Magnify.Den, Value.int .i64 r1633.1.Obstruct.Num, Value.int .i64 r1633.1.Obstruct.Den] = List.map kdV [Value.int .i64 r1649.Num, Value.int .i64 r1649.Den, Value.int .i64 r1652.Num, Value.int .i64 r1652.Den, Value.int .i64 r1655.Num, Value.int .i64 r1655.Den, Value.int .i64 1, Value.int .i64 4] ∧ EqOK Go.Proofs.Try.prog 107 (List.map kdV [Value.int .i64 r1649.Num, Value.int .i64 r1649.Den, Value.int .i64 r1652.Num, Value.int .i64 r1652.Den, Value.int .i64 r1655.Num, Value.int .i64 r1655.Den, Value.int .i64 1, Value.int .i64 4]) from ⟨rfl, eqok107⟩))
    rcases ifs h with ⟨h1659, h⟩ | ⟨h1659, h⟩
    ·rcases ifs h with ⟨h1660, h⟩ | ⟨h1660, h⟩
     ·have e1661 := (an (decide_eq_true h1660) (show List.map kdV [Value.int .i64 r1641.1.e0.Num, Value.int .i64 r1641.1.e0.Den, Value.int .i64 r1641.1.e1.Num, Value.int .i64 r1641.1.e1.Den] = List.map kdV [Value.int .i64 (-60), Value.int .i64 109, Value.int .i64 91, Value.int .i64 109] ∧ EqOK Go.Proofs.Try.prog 66 (List.map kdV [Value.int .i64 (-60), Value.int .i64 109, Value.int .i64 91, Value.int .i64 109]) from ⟨rfl, eqok66⟩))
      have e1662 := (ti (ti (ti (an (an (decide_eq_true h1645) trivial) (an (an (decide_eq_true h1645) trivial) (an e1646 (an (decide_eq_true h1645) (ti (an (an h1647 trivial) (an (an h1647 trivial) (an h1647 (ti (an (an (decide_eq_true h1648) trivial) (an e1651 (an e1654 (an e1657 (an (an (decide_eq_true h1648) trivial) (an (an (decide_eq_true h1648) trivial) (an e1658 (an (decide_eq_true h1648) (ti (an (an h1659 trivial) (an (an h1659 trivial) (an h1659 (ti (an (an (decide_eq_true h1660) trivial) (an (an (decide_eq_true h1660) trivial) (an (an (decide_eq_true h1660) trivial) (an (an (decide_eq_true h1660) trivial) (an e1661 (an (decide_eq_true h1660) (ti trivial))))))))))))))))))))))))))))))))
      injection h with h; subst h
      exact fun_ok pm pn Go.Proofs.Try.func11 (r0 := vb ((r1641.1.e0.Num : Int) == (-60) && ((r1641.1.e0.Den : Int) == 109 && ((r1641.1.e1.Num : Int) == 91 && ((r1641.1.e1.Den : Int) == 109 && true))))) (ans := [.reg (.n :: []), .reg (arO1_15 r1627 r1629), .reg (.call (VV.tu [VV.ag (c_SPair r1633.1), vi r1633.2]) :: nN 6 []), .reg (arO1_16 r1636 r1639 r1641), .reg (arO1_17 r1649 r1652 r1655)]) (fr := true) (by kernel_rfl) (an (an (ti trivial) (an e1632 (an (an e1635 (ti (ti (ti (ti (ti (ti trivial))))))) (an e1644 (an e1662 trivial))))) (ti trivial)) (Wv.refl _)
     ·have e1663 := (ti (ti (ti (an (an (decide_eq_true h1645) trivial) (an (an (decide_eq_true h1645) trivial) (an e1646 (an (decide_eq_true h1645) (ti (an (an h1647 trivial) (an (an h1647 trivial) (an h1647 (ti (an (an (decide_eq_true h1648) trivial) (an e1651 (an e1654 (an e1657 (an (an (decide_eq_true h1648) trivial) (an (an (decide_eq_true h1648) trivial) (an e1658 (an (decide_eq_true h1648) (ti (an (an h1659 trivial) (an (an h1659 trivial) (an h1659 (ti (an (decide_eq_false h1660) (an (decide_eq_false h1660) (an (decide_eq_false h1660) (an (decide_eq_false h1660) (an (decide_eq_false h1660) (an (decide_eq_false h1660) (ti trivial))))))))))))))))))))))))))))))))
      injection h with h; subst h
      exact fun_ok pm pn Go.Proofs.Try.func11 (r0 := vb false) (ans := [.reg (.n :: []), .reg (arO1_15 r1627 r1629), .reg (.call (VV.tu [VV.ag (c_SPair r1633.1), vi r1633.2]) :: nN 6 []), .reg (arO1_16 r1636 r1639 r1641), .reg (arO1_18 r1649 r1652 r1655)]) (fr := true) (by kernel_rfl) (an (an (ti trivial) (an e1632 (an (an e1635 (ti (ti (ti (ti (ti (ti trivial))))))) (an e1644 (an e1663 trivial))))) (ti trivial)) (Wv.refl _)
    ·have e1664 := (ti (ti (ti (an (an (decide_eq_true h1645) trivial) (an (an (decide_eq_true h1645) trivial) (an e1646 (an (decide_eq_true h1645) (ti (an (an h1647 trivial) (an (an h1647 trivial) (an h1647 (ti (an (an (decide_eq_true h1648) trivial) (an e1651 (an e1654 (an e1657 (an (an (decide_eq_true h1648) trivial) (an (an (decide_eq_true h1648) trivial) (an e1658 (an (decide_eq_true h1648) (ti (an (bool_f h1659) (an (bool_f h1659) (an (bool_f h1659) (ti (an rf (an rf (an rf (an rf (an rf (an rf (ti trivial))))))))))))))))))))))))))))))))
     injection h with h; subst h
     exact fun_ok pm pn Go.Proofs.Try.func11 (r0 := vb false) (ans := [.reg (.n :: []), .reg (arO1_15 r1627 r1629), .reg (.call (VV.tu [VV.ag (c_SPair r1633.1), vi r1633.2]) :: nN 6 []), .reg (arO1_16 r1636 r1639 r1641), .reg (arO1_19 r1649 r1652 r1655)]) (fr := true) (by kernel_rfl) (an (an (ti trivial) (an e1632 (an (an e1635 (ti (ti (ti (ti (ti (ti trivial))))))) (an e1644 (an e1664 trivial))))) (ti trivial)) (Wv.refl _)
   ·have e1665 := (ti (ti (ti (an (an (decide_eq_true h1645) trivial) (an (an (decide_eq_true h1645) trivial) (an e1646 (an (decide_eq_true h1645) (ti (an (an h1647 trivial) (an (an h1647 trivial) (an h1647 (ti (an (decide_eq_false h1648) (an (decide_eq_false h1648) (an (decide_eq_false h1648) (an (decide_eq_false h1648) (an (decide_eq_false h1648) (an (decide_eq_false h1648) (an (decide_eq_false h1648) (an (decide_eq_false h1648) (ti (an rf (an rf (an rf (ti (an rf (an rf (an rf (an rf (an rf (an rf (ti trivial))))))))))))))))))))))))))))))))
    injection h with h; subst h
    exact fun_ok pm pn Go.Proofs.Try.func11 (r0 := vb false) (ans := [.reg (.n :: []), .reg (arO1_15 r1627 r1629), .reg (.call (VV.tu [VV.ag (c_SPair r1633.1), vi r1633.2]) :: nN 6 []), .reg (arO1_16 r1636 r1639 r1641), .reg arO1_20]) (fr := true) (by kernel_rfl) (an (an (ti trivial) (an e1632 (an (an e1635 (ti (ti (ti (ti (ti (ti trivial))))))) (an e1644 (an e1665 trivial))))) (ti trivial)) (Wv.refl _)
  ·have e1666 := (ti (ti (ti (an (an (decide_eq_true h1645) trivial) (an (an (decide_eq_true h1645) trivial) (an e1646 (an (decide_eq_true h1645) (ti (an (bool_f h1647) (an (bool_f h1647) (an (bool_f h1647) (ti (an rf (an rf (an rf (an rf (an rf (an rf (an rf (an rf (ti (an rf (an rf (an rf (ti (an rf (an rf (an rf (an rf (an rf (an rf (ti trivial))))))))))))))))))))))))))))))))
   injection h with h; subst h
   exact fun_ok pm pn Go.Proofs.Try.func11 (r0 := vb false) (ans := [.reg (.n :: []), .reg (arO1_15 r1627 r1629), .reg (.call (VV.tu [VV.ag (c_SPair r1633.1), vi r1633.2]) :: nN 6 []), .reg (arO1_16 r1636 r1639 r1641), .reg arO1_21]) (fr := true) (by kernel_rfl) (an (an (ti trivial) (an e1632 (an (an e1635 (ti (ti (ti (ti (ti (ti trivial))))))) (an e1644 (an e1666 trivial))))) (ti trivial)) (Wv.refl _)
 ·have e1667 := (ti (ti (ti (an (decide_eq_false h1645) (an (decide_eq_false h1645) (an (decide_eq_false h1645) (an (decide_eq_false h1645) (ti (an rf (an rf (an rf (ti (an rf (an rf (an rf (an rf (an rf (an rf (an rf (an rf (ti (an rf (an rf (an rf (ti (an rf (an rf (an rf (an rf (an rf (an rf (ti trivial))))))))))))))))))))))))))))))))
  injection h with h; subst h
  exact fun_ok pm pn Go.Proofs.Try.func11 (r0 := vb false) (ans := [.reg (.n :: []), .reg (arO1_15 r1627 r1629), .reg (.call (VV.tu [VV.ag (c_SPair r1633.1), vi r1633.2]) :: nN 6 []), .reg (arO1_16 r1636 r1639 r1641), .reg arO1_22]) (fr := true) (by kernel_rfl) (an (an (ti trivial) (an e1632 (an (an e1635 (ti (ti (ti (ti (ti (ti trivial))))))) (an e1644 (an e1667 trivial))))) (ti trivial)) (Wv.refl _)
end Go.Proofs.Ytkffimkedibmnaa.Vg

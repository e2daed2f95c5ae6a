/- Written by a program out of the program: what Go functions do, as plain functions, and their contracts. -/
import Derived.Test.YtojmekclegbndaaWa
namespace Go.Proofs.Ytojmekclegbndaa.Vg
set_option maxRecDepth 100000
set_option maxHeartbeats 4000000
set_option linter.unusedVariables false
set_option linter.unusedSimpArgs false
open Go Go.Proofs.Ytojmekclegbndaa.Ev Go.Proofs.Ytojmekclegbndaa.Vv
structure SFrac where
  Num : Int
  Den : Int
  deriving Inhabited
def c_SFrac (x : SFrac) : List VV := [vi x.Num, vi x.Den]
theorem len_c_SFrac (x : SFrac) : (c_SFrac x).length = 2 := rfl
theorem still_c_SFrac (xs : List SFrac) : (xs.flatMap c_SFrac).all VV.still = true := all_flat (fun _ => rfl) xs
theorem isC_c_SFrac (xs : List SFrac) : (xs.flatMap c_SFrac).all VV.isC = true := all_flat (fun _ => rfl) xs
theorem new0_c_SFrac (xs : List SFrac) : (xs.flatMap c_SFrac).all new0 = true := all_flat (fun _ => rfl) xs
theorem unfr_c_SFrac (xs : List SFrac) : (xs.flatMap c_SFrac).map unfr = xs.flatMap c_SFrac := unfr_flat (fun _ => rfl) xs
structure SConic where
  Radius : Int
  K : SFrac
  deriving Inhabited
def c_SConic (x : SConic) : List VV := [vi x.Radius, vi x.K.Num, vi x.K.Den]
theorem len_c_SConic (x : SConic) : (c_SConic x).length = 3 := rfl
theorem still_c_SConic (xs : List SConic) : (xs.flatMap c_SConic).all VV.still = true := all_flat (fun _ => rfl) xs
theorem isC_c_SConic (xs : List SConic) : (xs.flatMap c_SConic).all VV.isC = true := all_flat (fun _ => rfl) xs
theorem new0_c_SConic (xs : List SConic) : (xs.flatMap c_SConic).all new0 = true := all_flat (fun _ => rfl) xs
theorem unfr_c_SConic (xs : List SConic) : (xs.flatMap c_SConic).map unfr = xs.flatMap c_SConic := unfr_flat (fun _ => rfl) xs
structure SSpot where
  R : SFrac
  Z : SFrac
  deriving Inhabited
def c_SSpot (x : SSpot) : List VV := [vi x.R.Num, vi x.R.Den, vi x.Z.Num, vi x.Z.Den]
theorem len_c_SSpot (x : SSpot) : (c_SSpot x).length = 4 := rfl
theorem still_c_SSpot (xs : List SSpot) : (xs.flatMap c_SSpot).all VV.still = true := all_flat (fun _ => rfl) xs
theorem isC_c_SSpot (xs : List SSpot) : (xs.flatMap c_SSpot).all VV.isC = true := all_flat (fun _ => rfl) xs
theorem new0_c_SSpot (xs : List SSpot) : (xs.flatMap c_SSpot).all new0 = true := all_flat (fun _ => rfl) xs
theorem unfr_c_SSpot (xs : List SSpot) : (xs.flatMap c_SSpot).map unfr = xs.flatMap c_SSpot := unfr_flat (fun _ => rfl) xs
structure Sway where
  failed : Int
  deriving Inhabited
def c_Sway (x : Sway) : List VV := [vi x.failed]
theorem len_c_Sway (x : Sway) : (c_Sway x).length = 1 := rfl
theorem still_c_Sway (xs : List Sway) : (xs.flatMap c_Sway).all VV.still = true := all_flat (fun _ => rfl) xs
theorem isC_c_Sway (xs : List Sway) : (xs.flatMap c_Sway).all VV.isC = true := all_flat (fun _ => rfl) xs
theorem new0_c_Sway (xs : List Sway) : (xs.flatMap c_Sway).all new0 = true := all_flat (fun _ => rfl) xs
theorem unfr_c_Sway (xs : List Sway) : (xs.flatMap c_Sway).map unfr = xs.flatMap c_Sway := unfr_flat (fun _ => rfl) xs
structure A47 where
  e0 : Int
  e1 : Int
  deriving Inhabited
def c_A47 (x : A47) : List VV := [vi x.e0, vi x.e1]
theorem len_c_A47 (x : A47) : (c_A47 x).length = 2 := rfl
theorem still_c_A47 (xs : List A47) : (xs.flatMap c_A47).all VV.still = true := all_flat (fun _ => rfl) xs
theorem isC_c_A47 (xs : List A47) : (xs.flatMap c_A47).all VV.isC = true := all_flat (fun _ => rfl) xs
theorem new0_c_A47 (xs : List A47) : (xs.flatMap c_A47).all new0 = true := all_flat (fun _ => rfl) xs
theorem unfr_c_A47 (xs : List A47) : (xs.flatMap c_A47).map unfr = xs.flatMap c_A47 := unfr_flat (fun _ => rfl) xs
structure A44 where
  e0 : SFrac
  e1 : SFrac
  deriving Inhabited
def c_A44 (x : A44) : List VV := [vi x.e0.Num, vi x.e0.Den, vi x.e1.Num, vi x.e1.Den]
theorem len_c_A44 (x : A44) : (c_A44 x).length = 4 := rfl
theorem still_c_A44 (xs : List A44) : (xs.flatMap c_A44).all VV.still = true := all_flat (fun _ => rfl) xs
theorem isC_c_A44 (xs : List A44) : (xs.flatMap c_A44).all VV.isC = true := all_flat (fun _ => rfl) xs
theorem new0_c_A44 (xs : List A44) : (xs.flatMap c_A44).all new0 = true := all_flat (fun _ => rfl) xs
theorem unfr_c_A44 (xs : List A44) : (xs.flatMap c_A44).map unfr = xs.flatMap c_A44 := unfr_flat (fun _ => rfl) xs
structure SRange where
  Lo : Int
  Hi : Int
  deriving Inhabited
def c_SRange (x : SRange) : List VV := [vi x.Lo, vi x.Hi]
theorem len_c_SRange (x : SRange) : (c_SRange x).length = 2 := rfl
theorem still_c_SRange (xs : List SRange) : (xs.flatMap c_SRange).all VV.still = true := all_flat (fun _ => rfl) xs
theorem isC_c_SRange (xs : List SRange) : (xs.flatMap c_SRange).all VV.isC = true := all_flat (fun _ => rfl) xs
theorem new0_c_SRange (xs : List SRange) : (xs.flatMap c_SRange).all new0 = true := all_flat (fun _ => rfl) xs
theorem unfr_c_SRange (xs : List SRange) : (xs.flatMap c_SRange).map unfr = xs.flatMap c_SRange := unfr_flat (fun _ => rfl) xs
theorem ag25 : isAggT Go.Proofs.Try.prog 25 = some true := by kernel_rfl
theorem sz25 : szOf Go.Proofs.Try.prog 25 = some 2 := by kernel_rfl
theorem ag32 : isAggT Go.Proofs.Try.prog 32 = some false := by kernel_rfl
theorem eqok25 : EqOK Go.Proofs.Try.prog 25 [some (.i .i64), some (.i .i64)] := eqOK_of (by kernel_rfl) (by kernel_rfl) (eqT_struct Go.Proofs.Try.underlying25 (by kernel_rfl) (by kernel_rfl) (by kernel_rfl) (.cons (by decide +kernel) rfl (eqT_int Go.Proofs.Try.underlying3 (by kernel_rfl) (by kernel_rfl)) (.cons (by decide +kernel) rfl (eqT_int Go.Proofs.Try.underlying3 (by kernel_rfl) (by kernel_rfl)) .nil)))
theorem eqok44 : EqOK Go.Proofs.Try.prog 44 [some (.i .i64), some (.i .i64), some (.i .i64), some (.i .i64)] := eqOK_of (by kernel_rfl) (by kernel_rfl) (eqT_array (len := 2) Go.Proofs.Try.underlying44 (by kernel_rfl) (by kernel_rfl) (eqT_struct Go.Proofs.Try.underlying25 (by kernel_rfl) (by kernel_rfl) (by kernel_rfl) (.cons (by decide +kernel) rfl (eqT_int Go.Proofs.Try.underlying3 (by kernel_rfl) (by kernel_rfl)) (.cons (by decide +kernel) rfl (eqT_int Go.Proofs.Try.underlying3 (by kernel_rfl) (by kernel_rfl)) .nil))))
theorem eqok47 : EqOK Go.Proofs.Try.prog 47 [some (.i .i64), some (.i .i64)] := eqOK_of (by kernel_rfl) (by kernel_rfl) (eqT_array (len := 2) Go.Proofs.Try.underlying47 (by kernel_rfl) (by kernel_rfl) (eqT_int Go.Proofs.Try.underlying3 (by kernel_rfl) (by kernel_rfl)))
theorem eqok53 : EqOK Go.Proofs.Try.prog 53 [some (.i .i64), some (.i .i64)] := eqOK_of (by kernel_rfl) (by kernel_rfl) (eqT_struct Go.Proofs.Try.underlying53 (by kernel_rfl) (by kernel_rfl) (by kernel_rfl) (.cons (by decide +kernel) rfl (eqT_int Go.Proofs.Try.underlying3 (by kernel_rfl) (by kernel_rfl)) (.cons (by decide +kernel) rfl (eqT_int Go.Proofs.Try.underlying3 (by kernel_rfl) (by kernel_rfl)) .nil)))
def noptics_isWithin (k : Nat) (a0 : Int) (a1 : Int) (a2 : Int) : Option Bool :=
  if a1 ≤ a0 then (some (decide (a0 ≤ a2))) else (some false)
theorem noptics_isWithin_ok (k : Nat) (a0 : Int) (a1 : Int) (a2 : Int) (r : Bool) (h : noptics_isWithin k a0 a1 a2 = some r) : VC Go.Proofs.Try.prog 65 [vi a0, vi a1, vi a2] (vb r) := by
 unfold noptics_isWithin at h
 rcases ifs h with ⟨h106, h⟩ | ⟨h106, h⟩
 ·have e107 := (ti (ti (ti (ti (an (an (decide_eq_true h106) trivial) (an (an (decide_eq_true h106) trivial) (an (an (decide_eq_true h106) trivial) (an (decide_eq_true h106) (ti trivial)))))))))
  injection h with h; subst h
  exact fun_ok pm pn Go.Proofs.Try.func65 (r0 := vb (decide (a0 ≤ a2))) (ans := [.reg (.n :: []), .reg (nN 7 (.b true :: .n :: []))]) (fr := true) (by kernel_rfl) (an (an (ti trivial) (an e107 trivial)) (ti trivial)) (Wv.refl _)
 ·have e108 := (ti (ti (ti (ti (an (decide_eq_false h106) (an (decide_eq_false h106) (an (decide_eq_false h106) (an (decide_eq_false h106) (ti trivial)))))))))
  injection h with h; subst h
  exact fun_ok pm pn Go.Proofs.Try.func65 (r0 := vb false) (ans := [.reg (.n :: []), .reg (nN 4 (nS 3 (.b false :: .n :: [])))]) (fr := true) (by kernel_rfl) (an (an (ti trivial) (an e108 trivial)) (ti trivial)) (Wv.refl _)
def noptics_isSized (k : Nat) (a0 : Int) (a1 : Int) : Option Bool :=
  (noptics_isWithin k a0 (w64 (0 - a1)) a1).bind fun r112 => (some r112)
theorem noptics_isSized_ok (k : Nat) (a0 : Int) (a1 : Int) (r : Bool) (h : noptics_isSized k a0 a1 = some r) : VC Go.Proofs.Try.prog 52 [vi a0, vi a1] (vb r) := by
 unfold noptics_isSized at h
 obtain ⟨r112, h113, h⟩ := bs h
 have e114 := (noptics_isWithin_ok k a0 (w64 (0 - a1)) a1 _ h113)
 injection h with h; subst h
 exact fun_ok pm pn Go.Proofs.Try.func52 (r0 := vb r112) (ans := [.reg (.n :: []), .reg (nN 4 (.call (vb r112) :: .n :: []))]) (fr := true) (by kernel_rfl) (an (an (ti trivial) (an (ti (ti (ti (ti (an e114 (ti trivial)))))) trivial)) (ti trivial)) (Wv.refl _)
def nnumber_size (k : Nat) (a0 : Int) : Option Int :=
  if a0 < 0 then (some (IntKind.u64.wrap (0 - (IntKind.u64.wrap a0)))) else (some (IntKind.u64.wrap a0))
theorem nnumber_size_ok (k : Nat) (a0 : Int) (r : Int) (h : nnumber_size k a0 = some r) : VC Go.Proofs.Try.prog 69 [vi a0] (VV.c (.int .u64 r)) := by
 unfold nnumber_size at h
 rcases ifs h with ⟨h126, h⟩ | ⟨h126, h⟩
 ·injection h with h; subst h
  exact fun_ok pm pn Go.Proofs.Try.func69 (r0 := VV.c (.int .u64 (IntKind.u64.wrap (0 - (IntKind.u64.wrap a0))))) (ans := [.reg (.n :: []), .reg (.n :: .n :: []), .br true, .reg (nN 4 [])]) (fr := true) (by kernel_rfl) (an (an (ti trivial) (an (ti (ti trivial)) (an (decide_eq_true h126) (an (ti (ti (ti (ti trivial)))) trivial)))) (ti trivial)) (Wv.refl _)
 ·injection h with h; subst h
  exact fun_ok pm pn Go.Proofs.Try.func69 (r0 := VV.c (.int .u64 (IntKind.u64.wrap a0))) (ans := [.reg (.n :: []), .reg (.n :: .n :: []), .br false, .reg (nN 3 [])]) (fr := true) (by kernel_rfl) (an (an (ti trivial) (an (an (ti (ti trivial)) (an (decide_eq_false h126) trivial)) (an (ti (ti (ti trivial))) trivial))) (ti trivial)) (Wv.refl _)
def nnumber_divisor_l0_0_h  (x0 : Int) (x1 : Int) : VS := ⟨mkA [(0, VV.c (.int .u64 x0)), (1, VV.c (.int .u64 x1))], [], .nil⟩
def nnumber_divisor_l0_0_e0  (r : Int) : VS := ⟨mkA [(0, VV.c (.int .u64 r))], [], .nil⟩
def nnumber_divisor_l0_0 (k : Nat)  : Nat → Int → Int → Option (Int)
  | 0, _, _ => none
  | fuel + 1, x0, x1 => if x1 = 0 then (some x0) else (if x1 ≠ 0 then (nnumber_divisor_l0_0 k  fuel x1 (x0.tmod x1)) else none)
theorem nnumber_divisor_l0_0_ok (k : Nat)  : ∀ (fuel : Nat) (x0 : Int) (x1 : Int) (r : Int), nnumber_divisor_l0_0 k  fuel x0 x1 = some r → (VLoop none Go.Proofs.Try.prog (szF Go.Proofs.Try.f68) (bodyOf Go.Proofs.Try.f68 0) (nnumber_divisor_l0_0_h  x0 x1) (.exit 0) (nnumber_divisor_l0_0_e0  r)) := by
 intro fuel
 induction fuel with
 | zero => intro x0 x1 r h; rw [nnumber_divisor_l0_0.eq_1] at h; cases h
 | succ fuel ih =>
  intro x0 x1 r h
  rw [nnumber_divisor_l0_0.eq_2] at h
  rcases ifs h with ⟨h146, h⟩ | ⟨h146, h⟩
  ·injection h with h; subst h
   exact round_stop (c := ⟨[(0, none)], [], []⟩) (s1 := (nnumber_divisor_l0_0_e0  x0)) pm pn (ans := [.reg (.n :: .n :: []), .br false]) (by kernel_rfl) (by intro e; cases e) (an (an (ti (ti trivial)) (an (not_f (decide_eq_true h146)) trivial)) (ti trivial))
  ·obtain ⟨h147, h⟩ := ifn h
   have h2 := ih _ _ _ h
   obtain ⟨q, hv, hq⟩ := pkR (rd := none) (P := Go.Proofs.Try.prog) (fn := Go.Proofs.Try.f68) (k := 0) (s := (nnumber_divisor_l0_0_h  x0 x1)) (ans := [.reg (.n :: .n :: []), .br true, .reg (nN 6 [])]) (c := ⟨[(0, none), (1, none)], [], []⟩) (e := .normal) (s1 := (nnumber_divisor_l0_0_h  x1 (x0.tmod x1))) (an (an (an (ti (ti trivial)) (an (not_t (decide_eq_false h146)) trivial)) (ti (ti (ti (an h147 (ti (ti trivial))))))) (ti trivial)) (by kernel_rfl)
   exact round_next pm pn hv hq h2
def nnumber_divisor (k : Nat) (a0 : Int) (a1 : Int) : Option Int :=
  (nnumber_divisor_l0_0 k k a0 a1).bind fun r149 => (some r149)
theorem nnumber_divisor_ok (k : Nat) (a0 : Int) (a1 : Int) (r : Int) (h : nnumber_divisor k a0 a1 = some r) : VC Go.Proofs.Try.prog 68 [VV.c (.int .u64 a0), VV.c (.int .u64 a1)] (VV.c (.int .u64 r)) := by
 unfold nnumber_divisor at h
 obtain ⟨r149, h148, h⟩ := bs h
 have hph148 := nnumber_divisor_l0_0_ok k  _ _ _ _ h148
 have e150 := (an (ti trivial) (VRun.loop hph148))
 injection h with h; subst h
 exact fun_ok pm pn Go.Proofs.Try.func68 (r0 := VV.c (.int .u64 r149)) (ans := [.reg (.n :: []), .sub ⟨[(0, none), (1, none)], [], []⟩ (.exit 0) (nnumber_divisor_l0_0_e0  r149), .reg (.n :: .n :: [])]) (fr := true) (by kernel_rfl) (an (an (ti trivial) (an e150 (an (ti (ti trivial)) trivial))) (ti trivial)) (Wv.refl _)
def arO1_0 (z0 : Int) (z1 : Int) (z2 : Int) : List Ans := (nN 6 (.call (VV.c (.int .u64 z0)) :: .n :: .n :: .call (VV.c (.int .u64 z1)) :: .call (VV.c (.int .u64 z2)) :: .n :: .b false :: []))
def nnumber_CheckFrac (k : Nat) (a0 : SFrac) : Option Int :=
  if a0.Den ≤ 0 then (some 3) else ((nnumber_size k a0.Num).bind fun r163 => ((nnumber_size k a0.Den).bind fun r166 => ((nnumber_divisor k r163 r166).bind fun r169 => (if r169 = 1 then (if 1000000000 < r163 then (some 2) else (if 1000000000 < a0.Den then (some 2) else (some 0))) else (some 3)))))
theorem nnumber_CheckFrac_ok (k : Nat) (a0 : SFrac) (r : Int) (h : nnumber_CheckFrac k a0 = some r) : VC Go.Proofs.Try.prog 53 [VV.ag (c_SFrac a0)] (vi r) := by
 unfold nnumber_CheckFrac at h
 rcases ifs h with ⟨h161, h⟩ | ⟨h161, h⟩
 ·have e162 := (ti (ti (ti (ti (an (decide_eq_true h161) (an (decide_eq_true h161) (an (decide_eq_true h161) (an (decide_eq_true h161) (an (decide_eq_true h161) (an (decide_eq_true h161) (an (decide_eq_true h161) (an (decide_eq_true h161) (an (decide_eq_true h161) trivial)))))))))))))
  injection h with h; subst h
  exact fun_ok pm pn Go.Proofs.Try.func53 (r0 := vi 3) (ans := [.reg (.n :: .n :: []), .reg (nN 4 (nS 8 (.b true :: []))), .br true, .reg (.n :: [])]) (fr := true) (by kernel_rfl) (an (an (ti (ti trivial)) (an e162 (an rt (an (ti trivial) trivial)))) (ti trivial)) (Wv.refl _)
 ·obtain ⟨r163, h164, h⟩ := bs h
  have e165 := (an (decide_eq_false h161) (nnumber_size_ok k a0.Num _ h164))
  obtain ⟨r166, h167, h⟩ := bs h
  have e168 := (an (decide_eq_false h161) (nnumber_size_ok k a0.Den _ h167))
  obtain ⟨r169, h170, h⟩ := bs h
  have e171 := (an (decide_eq_false h161) (nnumber_divisor_ok k r163 r166 _ h170))
  have e172 := (ti (ti (ti (ti (an (an (decide_eq_false h161) trivial) (an (an (decide_eq_false h161) trivial) (an e165 (an (an (decide_eq_false h161) trivial) (an (an (decide_eq_false h161) trivial) (an e168 (an e171 (an (an (decide_eq_false h161) trivial) (an (decide_eq_false h161) trivial)))))))))))))
  rcases ifs h with ⟨h173, h⟩ | ⟨h173, h⟩
  ·rcases ifs h with ⟨h175, h⟩ | ⟨h175, h⟩
   ·have e176 := (ti (ti (an (nnumber_size_ok k a0.Num _ h164) (ti (ti (an (decide_eq_true h175) (an (decide_eq_true h175) (an (decide_eq_true h175) (an (decide_eq_true h175) trivial)))))))))
    injection h with h; subst h
    exact fun_ok pm pn Go.Proofs.Try.func53 (r0 := vi 2) (ans := [.reg (.n :: .n :: []), .reg (arO1_0 r163 r166 r169), .br false, .reg (.n :: .n :: .call (VV.c (.int .u64 r163)) :: .n :: .n :: nS 3 (.b true :: [])), .br true, .reg (.n :: [])]) (fr := true) (by kernel_rfl) (an (an (ti (ti trivial)) (an (an e172 (an (not_f (decide_eq_true h173)) trivial)) (an e176 (an rt (an (ti trivial) trivial))))) (ti trivial)) (Wv.refl _)
   ·have e177 := (ti (ti (an (nnumber_size_ok k a0.Num _ h164) (ti (ti (an (an (decide_eq_false h175) trivial) (an (an (decide_eq_false h175) trivial) (an (an (decide_eq_false h175) trivial) (an (decide_eq_false h175) trivial)))))))))
    rcases ifs h with ⟨h178, h⟩ | ⟨h178, h⟩
    ·injection h with h; subst h
     exact fun_ok pm pn Go.Proofs.Try.func53 (r0 := vi 2) (ans := [.reg (.n :: .n :: []), .reg (arO1_0 r163 r166 r169), .br false, .reg (.n :: .n :: .call (VV.c (.int .u64 r163)) :: nN 5 (.b false :: [])), .br true, .reg (.n :: [])]) (fr := true) (by kernel_rfl) (an (an (ti (ti trivial)) (an (an e172 (an (not_f (decide_eq_true h173)) trivial)) (an e177 (an (decide_eq_true h178) (an (ti trivial) trivial))))) (ti trivial)) (Wv.refl _)
    ·injection h with h; subst h
     exact fun_ok pm pn Go.Proofs.Try.func53 (r0 := vi 0) (ans := [.reg (.n :: .n :: []), .reg (arO1_0 r163 r166 r169), .br false, .reg (.n :: .n :: .call (VV.c (.int .u64 r163)) :: nN 5 (.b false :: [])), .br false, .reg (.n :: [])]) (fr := true) (by kernel_rfl) (an (an (ti (ti trivial)) (an (an e172 (an (not_f (decide_eq_true h173)) trivial)) (an (an e177 (an (decide_eq_false h178) trivial)) (an (ti trivial) trivial)))) (ti trivial)) (Wv.refl _)
  ·injection h with h; subst h
   exact fun_ok pm pn Go.Proofs.Try.func53 (r0 := vi 3) (ans := [.reg (.n :: .n :: []), .reg (arO1_0 r163 r166 r169), .br true, .reg (.n :: [])]) (fr := true) (by kernel_rfl) (an (an (ti (ti trivial)) (an e172 (an (not_t (decide_eq_false h173)) (an (ti trivial) trivial)))) (ti trivial)) (Wv.refl _)
def noptics_checkFracs_l0_0_h (a0 : (List SFrac)) (x8 : Int) : VS := ⟨mkA [(6, VV.tr (List.flatMap c_SFrac a0) a0.length), (7, vi (a0.length : Int)), (8, vi x8)], [], .nil⟩
def noptics_checkFracs_l0_0_e0 (a0 : (List SFrac)) (r : Int) : VS := ⟨mkA [(2, vi r)], [], .nil⟩
def noptics_checkFracs_l0_0_e1 (a0 : (List SFrac)) (r : Unit) : VS := ⟨mkA [], [], .nil⟩
def noptics_checkFracs_l0_0 (k : Nat) (a0 : (List SFrac)) : Nat → Int → Option (Sum Int Unit)
  | 0, _ => none
  | fuel + 1, x8 => if x8 < (a0.length : Int) then (if 0 ≤ x8 ∧ x8 < (a0.length : Int) then ((nnumber_CheckFrac k (a0.getD x8.toNat default)).bind fun r220 => (if r220 = 0 then (noptics_checkFracs_l0_0 k a0 fuel (w64 (x8 + 1))) else (some (.inl r220)))) else none) else (some (.inr ()))
theorem noptics_checkFracs_l0_0_ok (k : Nat) (a0 : (List SFrac)) : ∀ (fuel : Nat) (x8 : Int) (r : Sum Int Unit), noptics_checkFracs_l0_0 k a0 fuel x8 = some r → (match r with | .inl r => VLoop none Go.Proofs.Try.prog (szF Go.Proofs.Try.f22) (bodyOf Go.Proofs.Try.f22 0) (noptics_checkFracs_l0_0_h a0 x8) .ret (noptics_checkFracs_l0_0_e0 a0 r) | .inr r => VLoop none Go.Proofs.Try.prog (szF Go.Proofs.Try.f22) (bodyOf Go.Proofs.Try.f22 0) (noptics_checkFracs_l0_0_h a0 x8) (.exit 0) (noptics_checkFracs_l0_0_e1 a0 r)) := by
 intro fuel
 induction fuel with
 | zero => intro x8 r h; rw [noptics_checkFracs_l0_0.eq_1] at h; cases h
 | succ fuel ih =>
  intro x8 r h
  rw [noptics_checkFracs_l0_0.eq_2] at h
  rcases ifs h with ⟨h217, h⟩ | ⟨h217, h⟩
  ·obtain ⟨h218, h⟩ := ifn h
   have e219 := (show loadL Go.Proofs.Try.prog 25 (x8.toNat * 2) (List.flatMap c_SFrac a0) = some (VV.ag (c_SFrac (a0.getD x8.toNat default))) from ld_whole ag25 c_SFrac 2 sz25 len_c_SFrac a0 default h218 (by omega))
   obtain ⟨r220, h221, h⟩ := bs h
   have e222 := (nnumber_CheckFrac_ok k (a0.getD x8.toNat default) _ h221)
   rcases ifs h with ⟨h223, h⟩ | ⟨h223, h⟩
   ·have h2 := ih _ _ h
    obtain ⟨q, hv, hq⟩ := pkR (rd := none) (P := Go.Proofs.Try.prog) (fn := Go.Proofs.Try.f22) (k := 0) (s := (noptics_checkFracs_l0_0_h a0 x8)) (ans := [.reg (.n :: []), .br true, .reg (.n :: .v (VV.ag (c_SFrac (a0.getD x8.toNat default))) :: .n :: .n :: []), .reg (.n :: .call (vi r220) :: .n :: []), .reg (.n :: .n :: []), .br false, .reg (.n :: .n :: [])]) (c := ⟨[(6, none), (7, none), (8, none)], [], []⟩) (e := .normal) (s1 := (noptics_checkFracs_l0_0_h a0 (w64 (x8 + 1)))) (an (an (ti trivial) (an (an (decide_eq_true h217) trivial) (an (an (an h218 (an e219 (ti (ti trivial)))) (an (ti (an e222 (ti trivial))) (an (ti (ti trivial)) (an (not_f (decide_eq_true h223)) trivial)))) (ti (ti trivial))))) (ti trivial)) (by kernel_rfl)
    cases r with
    | inl r => exact round_next pm pn hv hq h2
    | inr r =>
     exact round_next pm pn hv hq h2
   ·injection h with h; subst h
    exact round_stop (c := ⟨[(2, none)], [], []⟩) (s1 := (noptics_checkFracs_l0_0_e0 a0 r220)) pm pn (ans := [.reg (.n :: []), .br true, .reg (.n :: .v (VV.ag (c_SFrac (a0.getD x8.toNat default))) :: .n :: .n :: []), .reg (.n :: .call (vi r220) :: .n :: []), .reg (.n :: .n :: []), .br true, .reg (.n :: .n :: [])]) (by kernel_rfl) (by intro e; cases e) (an (an (ti trivial) (an (an (decide_eq_true h217) trivial) (an (an h218 (an e219 (ti (ti trivial)))) (an (ti (an e222 (ti trivial))) (an (ti (ti trivial)) (an (not_t (decide_eq_false h223)) (an (ti (ti trivial)) trivial))))))) (ti trivial))
  ·injection h with h; subst h
   exact round_stop (c := ⟨[], [], []⟩) (s1 := (noptics_checkFracs_l0_0_e1 a0 ())) pm pn (ans := [.reg (.n :: []), .br false]) (by kernel_rfl) (by intro e; cases e) (an (an (ti trivial) (an (decide_eq_false h217) trivial)) (ti trivial))
def noptics_checkFracs (k : Nat) (a0 : (List SFrac)) : Option Int :=
  (noptics_checkFracs_l0_0 k a0 k 0).bind fun r225 => (match r225 with | .inl r226 => (some r226) | .inr r227 => (some 0))
theorem noptics_checkFracs_ok (k : Nat) (a0 : (List SFrac)) (r : Int) (h : noptics_checkFracs k a0 = some r) : VC Go.Proofs.Try.prog 22 [VV.tr (List.flatMap c_SFrac a0) a0.length] (vi r) := by
 unfold noptics_checkFracs at h
 obtain ⟨r225, h224, h⟩ := bs h
 have hph224 := noptics_checkFracs_l0_0_ok k a0 _ _ _ h224
 cases r225 with
 | inl r226 =>
  dsimp only at h
  have e228 := (an (ti trivial) (VRun.loop hph224))
  injection h with h; subst h
  exact fun_ok pm pn Go.Proofs.Try.func22 (r0 := vi r226) (ans := [.reg (.n :: []), .reg (nN 3 []), .sub ⟨[(6, none), (7, none), (8, none)], [], []⟩ .ret (noptics_checkFracs_l0_0_e0 a0 r226)]) (fr := true) (by kernel_rfl) (an (an (ti trivial) (an (ti (ti (ti trivial))) e228)) (ti trivial)) (Wv.refl _)
 | inr r227 =>
  dsimp only at h
  have e229 := (an (ti trivial) (VRun.loop hph224))
  injection h with h; subst h
  exact fun_ok pm pn Go.Proofs.Try.func22 (r0 := vi 0) (ans := [.reg (.n :: []), .reg (nN 3 []), .sub ⟨[(6, none), (7, none), (8, none)], [], []⟩ (.exit 0) (noptics_checkFracs_l0_0_e1 a0 r227), .reg (.n :: [])]) (fr := true) (by kernel_rfl) (an (an (ti trivial) (an (an (ti (ti (ti trivial))) e229) (an (ti trivial) trivial))) (ti trivial)) (Wv.refl _)
theorem eqO1_0 (z0 : SConic) : [VV.tr (List.flatMap c_SFrac ([z0.K] : List SFrac)) (([z0.K] : List SFrac).length)] = [VV.tr [vi z0.K.Num, vi z0.K.Den] 1] := by first | rfl | (simp only [unfr_vi, List.map_cons, List.map_nil, un_i, un_tr, List.length_cons, List.length_nil, unfr_c_SFrac]; done) | (simp only [unfr_vi, List.map_cons, List.map_nil, un_i, un_tr, List.length_cons, List.length_nil, unfr_c_SFrac]; rfl) | (simp only [unfr_vi, List.map_cons, List.map_nil, un_i, un_tr, List.length_cons, List.length_nil, unfr_c_SFrac, c_SFrac, List.length_cons, List.length_nil, List.length_append]; done)
def noptics_CheckConic (k : Nat) (a0 : SConic) : Option Int :=
  if a0.Radius = 0 then (some 2) else ((noptics_isSized k a0.Radius 10000000).bind fun r243 => (if r243 = true then ((noptics_checkFracs k ([a0.K] : List SFrac)).bind fun r248 => (if r248 = 0 then ((noptics_isSized k a0.K.Num 100).bind fun r252 => (if r252 = true then (if 100 < a0.K.Den then (some 2) else (some 0)) else (some 2))) else (some r248))) else (some 2)))
theorem noptics_CheckConic_ok (k : Nat) (a0 : SConic) (r : Int) (h : noptics_CheckConic k a0 = some r) : VC Go.Proofs.Try.prog 51 [VV.ag (c_SConic a0)] (vi r) := by
 unfold noptics_CheckConic at h
 rcases ifs h with ⟨h241, h⟩ | ⟨h241, h⟩
 ·have e242 := (ti (ti (ti (ti (an (decide_eq_true h241) (an (decide_eq_true h241) (an (decide_eq_true h241) (an (decide_eq_true h241) (an (decide_eq_true h241) trivial)))))))))
  injection h with h; subst h
  exact fun_ok pm pn Go.Proofs.Try.func51 (r0 := vi 2) (ans := [.reg (.n :: .n :: []), .reg (nN 4 (nS 4 (.b true :: []))), .br true, .reg (.n :: [])]) (fr := true) (by kernel_rfl) (an (an (ti (ti trivial)) (an e242 (an rt (an (ti trivial) trivial)))) (ti trivial)) (Wv.refl _)
 ·obtain ⟨r243, h244, h⟩ := bs h
  have e245 := (an (decide_eq_false h241) (noptics_isSized_ok k a0.Radius 10000000 _ h244))
  have e246 := (ti (ti (ti (ti (an (an (decide_eq_false h241) trivial) (an (an (decide_eq_false h241) trivial) (an e245 (an (an (decide_eq_false h241) trivial) (an (decide_eq_false h241) trivial)))))))))
  rcases ifs h with ⟨h247, h⟩ | ⟨h247, h⟩
  ·obtain ⟨r248, h249, h⟩ := bs h
   have e250 := (VC.args (noptics_checkFracs_ok k ([a0.K] : List SFrac) _ h249) (eqO1_0 a0))
   rcases ifs h with ⟨h251, h⟩ | ⟨h251, h⟩
   ·obtain ⟨r252, h253, h⟩ := bs h
    have e254 := (noptics_isSized_ok k a0.K.Num 100 _ h253)
    rcases ifs h with ⟨h255, h⟩ | ⟨h255, h⟩
    ·have e256 := (ti (ti (ti (an e254 (ti (ti (an (an (not_f h255) trivial) (an (an (not_f h255) trivial) (an (an (not_f h255) trivial) (an (an (not_f h255) trivial) (an (not_f h255) trivial)))))))))))
     rcases ifs h with ⟨h257, h⟩ | ⟨h257, h⟩
     ·injection h with h; subst h
      exact fun_ok pm pn Go.Proofs.Try.func51 (r0 := vi 2) (ans := [.reg (.n :: .n :: []), .reg (nN 6 (.call (vb r243) :: .n :: .b false :: [])), .br false, .reg (.n :: .n :: .v VV.any :: .call (vi r248) :: .n :: []), .reg (.n :: .n :: []), .br false, .reg (nN 3 (.call (vb r252) :: nN 6 (.b false :: []))), .br true, .reg (.n :: [])]) (fr := true) (by kernel_rfl) (an (an (ti (ti trivial)) (an (an e246 (an (not_f h247) trivial)) (an (an (ti (ti (ti (an e250 (ti trivial))))) (an (ti (ti trivial)) (an (not_f (decide_eq_true h251)) trivial))) (an e256 (an (decide_eq_true h257) (an (ti trivial) trivial)))))) (ti trivial)) (Wv.refl _)
     ·injection h with h; subst h
      exact fun_ok pm pn Go.Proofs.Try.func51 (r0 := vi 0) (ans := [.reg (.n :: .n :: []), .reg (nN 6 (.call (vb r243) :: .n :: .b false :: [])), .br false, .reg (.n :: .n :: .v VV.any :: .call (vi r248) :: .n :: []), .reg (.n :: .n :: []), .br false, .reg (nN 3 (.call (vb r252) :: nN 6 (.b false :: []))), .br false, .reg (.n :: [])]) (fr := true) (by kernel_rfl) (an (an (ti (ti trivial)) (an (an e246 (an (not_f h247) trivial)) (an (an (ti (ti (ti (an e250 (ti trivial))))) (an (ti (ti trivial)) (an (not_f (decide_eq_true h251)) trivial))) (an (an e256 (an (decide_eq_false h257) trivial)) (an (ti trivial) trivial))))) (ti trivial)) (Wv.refl _)
    ·have e258 := (ti (ti (ti (an e254 (ti (ti (an (not_t (bool_f h255)) (an (not_t (bool_f h255)) (an (not_t (bool_f h255)) (an (not_t (bool_f h255)) (an (not_t (bool_f h255)) trivial)))))))))))
     injection h with h; subst h
     exact fun_ok pm pn Go.Proofs.Try.func51 (r0 := vi 2) (ans := [.reg (.n :: .n :: []), .reg (nN 6 (.call (vb r243) :: .n :: .b false :: [])), .br false, .reg (.n :: .n :: .v VV.any :: .call (vi r248) :: .n :: []), .reg (.n :: .n :: []), .br false, .reg (nN 3 (.call (vb r252) :: .n :: .n :: nS 4 (.b true :: []))), .br true, .reg (.n :: [])]) (fr := true) (by kernel_rfl) (an (an (ti (ti trivial)) (an (an e246 (an (not_f h247) trivial)) (an (an (ti (ti (ti (an e250 (ti trivial))))) (an (ti (ti trivial)) (an (not_f (decide_eq_true h251)) trivial))) (an e258 (an rt (an (ti trivial) trivial)))))) (ti trivial)) (Wv.refl _)
   ·injection h with h; subst h
    exact fun_ok pm pn Go.Proofs.Try.func51 (r0 := vi r248) (ans := [.reg (.n :: .n :: []), .reg (nN 6 (.call (vb r243) :: .n :: .b false :: [])), .br false, .reg (.n :: .n :: .v VV.any :: .call (vi r248) :: .n :: []), .reg (.n :: .n :: []), .br true, .reg (.n :: .n :: [])]) (fr := true) (by kernel_rfl) (an (an (ti (ti trivial)) (an (an e246 (an (not_f h247) trivial)) (an (ti (ti (ti (an e250 (ti trivial))))) (an (ti (ti trivial)) (an (not_t (decide_eq_false h251)) (an (ti (ti trivial)) trivial)))))) (ti trivial)) (Wv.refl _)
  ·injection h with h; subst h
   exact fun_ok pm pn Go.Proofs.Try.func51 (r0 := vi 2) (ans := [.reg (.n :: .n :: []), .reg (nN 6 (.call (vb r243) :: .n :: .b false :: [])), .br true, .reg (.n :: [])]) (fr := true) (by kernel_rfl) (an (an (ti (ti trivial)) (an e246 (an (not_t (bool_f h247)) (an (ti trivial) trivial)))) (ti trivial)) (Wv.refl _)
def arO1_1 (z0 : Bool) (z1 : Bool) : List Ans := (.n :: .n :: .call (vb z0) :: nN 5 (.call (vb z1) :: .n :: .b false :: nN 5 (.b false :: [])))
def arO1_2 (z0 : Bool) (z1 : Bool) : List Ans := (.n :: .n :: .call (vb z0) :: nN 5 (.call (vb z1) :: .n :: .b false :: .n :: nS 4 (.b true :: [])))
def noptics_checkRayConic (k : Nat) (a0 : SConic) : Option Int :=
  (noptics_CheckConic k a0).bind fun r275 => (if r275 = 0 then ((noptics_isSized k a0.Radius 200000).bind fun r279 => (if r279 = true then ((noptics_isSized k a0.K.Num 10).bind fun r283 => (if r283 = true then (if 10 < a0.K.Den then (some 2) else (some 0)) else (some 2))) else (some 2))) else (some r275))
theorem noptics_checkRayConic_ok (k : Nat) (a0 : SConic) (r : Int) (h : noptics_checkRayConic k a0 = some r) : VC Go.Proofs.Try.prog 21 [VV.ag (c_SConic a0)] (vi r) := by
 unfold noptics_checkRayConic at h
 obtain ⟨r275, h276, h⟩ := bs h
 have e277 := (ti (an (noptics_CheckConic_ok k a0 _ h276) (ti trivial)))
 rcases ifs h with ⟨h278, h⟩ | ⟨h278, h⟩
 ·obtain ⟨r279, h280, h⟩ := bs h
  have e281 := (noptics_isSized_ok k a0.Radius 200000 _ h280)
  rcases ifs h with ⟨h282, h⟩ | ⟨h282, h⟩
  ·obtain ⟨r283, h284, h⟩ := bs h
   have e285 := (an (not_f h282) (noptics_isSized_ok k a0.K.Num 10 _ h284))
   rcases ifs h with ⟨h286, h⟩ | ⟨h286, h⟩
   ·have e287 := (ti (ti (an e281 (ti (ti (an (an (not_f h282) trivial) (an (an (not_f h282) trivial) (an (an (not_f h282) trivial) (an e285 (an (an (not_f h282) trivial) (an (not_f h282) (ti (an (an (not_f h286) trivial) (an (an (not_f h286) trivial) (an (an (not_f h286) trivial) (an (an (not_f h286) trivial) (an (not_f h286) trivial)))))))))))))))))
    rcases ifs h with ⟨h288, h⟩ | ⟨h288, h⟩
    ·injection h with h; subst h
     exact fun_ok pm pn Go.Proofs.Try.func21 (r0 := vi 2) (ans := [.reg (.n :: .n :: []), .reg (.n :: .call (vi r275) :: .n :: []), .reg (.n :: .n :: []), .br false, .reg (arO1_1 r279 r283), .br true, .reg (.n :: [])]) (fr := true) (by kernel_rfl) (an (an (ti (ti trivial)) (an (an e277 (an (ti (ti trivial)) (an (not_f (decide_eq_true h278)) trivial))) (an e287 (an (decide_eq_true h288) (an (ti trivial) trivial))))) (ti trivial)) (Wv.refl _)
    ·injection h with h; subst h
     exact fun_ok pm pn Go.Proofs.Try.func21 (r0 := vi 0) (ans := [.reg (.n :: .n :: []), .reg (.n :: .call (vi r275) :: .n :: []), .reg (.n :: .n :: []), .br false, .reg (arO1_1 r279 r283), .br false, .reg (.n :: [])]) (fr := true) (by kernel_rfl) (an (an (ti (ti trivial)) (an (an e277 (an (ti (ti trivial)) (an (not_f (decide_eq_true h278)) trivial))) (an (an e287 (an (decide_eq_false h288) trivial)) (an (ti trivial) trivial)))) (ti trivial)) (Wv.refl _)
   ·have e289 := (ti (ti (an e281 (ti (ti (an (an (not_f h282) trivial) (an (an (not_f h282) trivial) (an (an (not_f h282) trivial) (an e285 (an (an (not_f h282) trivial) (an (not_f h282) (ti (an (not_t (bool_f h286)) (an (not_t (bool_f h286)) (an (not_t (bool_f h286)) (an (not_t (bool_f h286)) (an (not_t (bool_f h286)) trivial)))))))))))))))))
    injection h with h; subst h
    exact fun_ok pm pn Go.Proofs.Try.func21 (r0 := vi 2) (ans := [.reg (.n :: .n :: []), .reg (.n :: .call (vi r275) :: .n :: []), .reg (.n :: .n :: []), .br false, .reg (arO1_2 r279 r283), .br true, .reg (.n :: [])]) (fr := true) (by kernel_rfl) (an (an (ti (ti trivial)) (an (an e277 (an (ti (ti trivial)) (an (not_f (decide_eq_true h278)) trivial))) (an e289 (an rt (an (ti trivial) trivial))))) (ti trivial)) (Wv.refl _)
  ·have e290 := (ti (ti (an e281 (ti (ti (an (not_t (bool_f h282)) (an (not_t (bool_f h282)) (an (not_t (bool_f h282)) (an (not_t (bool_f h282)) (an (not_t (bool_f h282)) (an (not_t (bool_f h282)) (ti (an rt (an rt (an rt (an rt (an rt trivial)))))))))))))))))
   injection h with h; subst h
   exact fun_ok pm pn Go.Proofs.Try.func21 (r0 := vi 2) (ans := [.reg (.n :: .n :: []), .reg (.n :: .call (vi r275) :: .n :: []), .reg (.n :: .n :: []), .br false, .reg (.n :: .n :: .call (vb r279) :: .n :: .n :: nS 5 (.b true :: .n :: nS 4 (.b true :: []))), .br true, .reg (.n :: [])]) (fr := true) (by kernel_rfl) (an (an (ti (ti trivial)) (an (an e277 (an (ti (ti trivial)) (an (not_f (decide_eq_true h278)) trivial))) (an e290 (an rt (an (ti trivial) trivial))))) (ti trivial)) (Wv.refl _)
 ·injection h with h; subst h
  exact fun_ok pm pn Go.Proofs.Try.func21 (r0 := vi r275) (ans := [.reg (.n :: .n :: []), .reg (.n :: .call (vi r275) :: .n :: []), .reg (.n :: .n :: []), .br true, .reg (.n :: .n :: [])]) (fr := true) (by kernel_rfl) (an (an (ti (ti trivial)) (an e277 (an (ti (ti trivial)) (an (not_t (decide_eq_false h278)) (an (ti (ti trivial)) trivial))))) (ti trivial)) (Wv.refl _)
theorem eqO1_1 (z0 : SSpot) : [VV.tr (List.flatMap c_SFrac ([z0.R, z0.Z] : List SFrac)) (([z0.R, z0.Z] : List SFrac).length)] = [VV.tr [vi z0.R.Num, vi z0.R.Den, vi z0.Z.Num, vi z0.Z.Den] 2] := by first | rfl | (simp only [unfr_vi, List.map_cons, List.map_nil, un_i, un_tr, List.length_cons, List.length_nil, unfr_c_SFrac]; done) | (simp only [unfr_vi, List.map_cons, List.map_nil, un_i, un_tr, List.length_cons, List.length_nil, unfr_c_SFrac]; rfl) | (simp only [unfr_vi, List.map_cons, List.map_nil, un_i, un_tr, List.length_cons, List.length_nil, unfr_c_SFrac, c_SFrac, List.length_cons, List.length_nil, List.length_append]; done)
def noptics_firstError_l0_0_h (a0 : (List Int)) (x7 : Int) : VS := ⟨mkA [(5, VV.tr (List.map vi a0) a0.length), (6, vi (a0.length : Int)), (7, vi x7)], [], .nil⟩
def noptics_firstError_l0_0_e0 (a0 : (List Int)) (r : Int) : VS := ⟨mkA [(2, vi r)], [], .nil⟩
def noptics_firstError_l0_0_e1 (a0 : (List Int)) (r : Unit) : VS := ⟨mkA [], [], .nil⟩
def noptics_firstError_l0_0 (k : Nat) (a0 : (List Int)) : Nat → Int → Option (Sum Int Unit)
  | 0, _ => none
  | fuel + 1, x7 => if x7 < (a0.length : Int) then (if 0 ≤ x7 ∧ x7 < (a0.length : Int) then (if (a0.getD x7.toNat 0) = 0 then (noptics_firstError_l0_0 k a0 fuel (w64 (x7 + 1))) else (some (.inl (a0.getD x7.toNat 0)))) else none) else (some (.inr ()))
theorem noptics_firstError_l0_0_ok (k : Nat) (a0 : (List Int)) : ∀ (fuel : Nat) (x7 : Int) (r : Sum Int Unit), noptics_firstError_l0_0 k a0 fuel x7 = some r → (match r with | .inl r => VLoop none Go.Proofs.Try.prog (szF Go.Proofs.Try.f20) (bodyOf Go.Proofs.Try.f20 0) (noptics_firstError_l0_0_h a0 x7) .ret (noptics_firstError_l0_0_e0 a0 r) | .inr r => VLoop none Go.Proofs.Try.prog (szF Go.Proofs.Try.f20) (bodyOf Go.Proofs.Try.f20 0) (noptics_firstError_l0_0_h a0 x7) (.exit 0) (noptics_firstError_l0_0_e1 a0 r)) := by
 intro fuel
 induction fuel with
 | zero => intro x7 r h; rw [noptics_firstError_l0_0.eq_1] at h; cases h
 | succ fuel ih =>
  intro x7 r h
  rw [noptics_firstError_l0_0.eq_2] at h
  rcases ifs h with ⟨h322, h⟩ | ⟨h322, h⟩
  ·obtain ⟨h323, h⟩ := ifn h
   have e324 := (show loadL Go.Proofs.Try.prog 32 (x7.toNat * 1) (List.map vi a0) = some (vi (a0.getD x7.toNat 0)) from ld_map ag32 vi a0 0 h323 (by omega))
   rcases ifs h with ⟨h325, h⟩ | ⟨h325, h⟩
   ·have h2 := ih _ _ h
    obtain ⟨q, hv, hq⟩ := pkR (rd := none) (P := Go.Proofs.Try.prog) (fn := Go.Proofs.Try.f20) (k := 0) (s := (noptics_firstError_l0_0_h a0 x7)) (ans := [.reg (.n :: []), .br true, .reg (.n :: .v (vi (a0.getD x7.toNat 0)) :: .n :: []), .reg (.n :: .n :: []), .br false, .reg (.n :: .n :: [])]) (c := ⟨[(5, none), (6, none), (7, none)], [], []⟩) (e := .normal) (s1 := (noptics_firstError_l0_0_h a0 (w64 (x7 + 1)))) (an (an (ti trivial) (an (an (decide_eq_true h322) trivial) (an (an (an h323 (an e324 (ti trivial))) (an (ti (ti trivial)) (an (not_f (decide_eq_true h325)) trivial))) (ti (ti trivial))))) (ti trivial)) (by kernel_rfl)
    cases r with
    | inl r => exact round_next pm pn hv hq h2
    | inr r =>
     exact round_next pm pn hv hq h2
   ·injection h with h; subst h
    exact round_stop (c := ⟨[(2, none)], [], []⟩) (s1 := (noptics_firstError_l0_0_e0 a0 (a0.getD x7.toNat 0))) pm pn (ans := [.reg (.n :: []), .br true, .reg (.n :: .v (vi (a0.getD x7.toNat 0)) :: .n :: []), .reg (.n :: .n :: []), .br true, .reg (.n :: .n :: [])]) (by kernel_rfl) (by intro e; cases e) (an (an (ti trivial) (an (an (decide_eq_true h322) trivial) (an (an h323 (an e324 (ti trivial))) (an (ti (ti trivial)) (an (not_t (decide_eq_false h325)) (an (ti (ti trivial)) trivial)))))) (ti trivial))
  ·injection h with h; subst h
   exact round_stop (c := ⟨[], [], []⟩) (s1 := (noptics_firstError_l0_0_e1 a0 ())) pm pn (ans := [.reg (.n :: []), .br false]) (by kernel_rfl) (by intro e; cases e) (an (an (ti trivial) (an (decide_eq_false h322) trivial)) (ti trivial))
def noptics_firstError (k : Nat) (a0 : (List Int)) : Option Int :=
  (noptics_firstError_l0_0 k a0 k 0).bind fun r327 => (match r327 with | .inl r328 => (some r328) | .inr r329 => (some 0))
theorem noptics_firstError_ok (k : Nat) (a0 : (List Int)) (r : Int) (h : noptics_firstError k a0 = some r) : VC Go.Proofs.Try.prog 20 [VV.tr (List.map vi a0) a0.length] (vi r) := by
 unfold noptics_firstError at h
 obtain ⟨r327, h326, h⟩ := bs h
 have hph326 := noptics_firstError_l0_0_ok k a0 _ _ _ h326
 cases r327 with
 | inl r328 =>
  dsimp only at h
  have e330 := (an (ti trivial) (VRun.loop hph326))
  injection h with h; subst h
  exact fun_ok pm pn Go.Proofs.Try.func20 (r0 := vi r328) (ans := [.reg (.n :: []), .reg (nN 3 []), .sub ⟨[(5, none), (6, none), (7, none)], [], []⟩ .ret (noptics_firstError_l0_0_e0 a0 r328)]) (fr := true) (by kernel_rfl) (an (an (ti trivial) (an (ti (ti (ti trivial))) e330)) (ti trivial)) (Wv.refl _)
 | inr r329 =>
  dsimp only at h
  have e331 := (an (ti trivial) (VRun.loop hph326))
  injection h with h; subst h
  exact fun_ok pm pn Go.Proofs.Try.func20 (r0 := vi 0) (ans := [.reg (.n :: []), .reg (nN 3 []), .sub ⟨[(5, none), (6, none), (7, none)], [], []⟩ (.exit 0) (noptics_firstError_l0_0_e1 a0 r329), .reg (.n :: [])]) (fr := true) (by kernel_rfl) (an (an (ti trivial) (an (an (ti (ti (ti trivial))) e331) (an (ti trivial) trivial))) (ti trivial)) (Wv.refl _)
theorem eqO1_2 (z0 : Int) (z1 : Int) : [VV.tr (List.map vi ([z0, z1] : List Int)) (([z0, z1] : List Int).length)] = [VV.tr [vi z0, vi z1] 2] := by first | rfl | (simp only [unfr_vi, List.map_cons, List.map_nil, un_i, un_tr, List.length_map, List.length_cons, List.length_nil]; done) | (simp only [unfr_vi, List.map_cons, List.map_nil, un_i, un_tr, List.length_map, List.length_cons, List.length_nil]; rfl) | (simp only [unfr_vi, List.map_cons, List.map_nil, un_i, un_tr, List.length_map, List.length_cons, List.length_nil, List.length_cons, List.length_nil, List.length_append]; done)
def nnumber_checkFracs_l0_0_h (a0 : (List SFrac)) (x8 : Int) : VS := ⟨mkA [(6, VV.tr (List.flatMap c_SFrac a0) a0.length), (7, vi (a0.length : Int)), (8, vi x8)], [], .nil⟩
def nnumber_checkFracs_l0_0_e0 (a0 : (List SFrac)) (r : Int) : VS := ⟨mkA [(2, vi r)], [], .nil⟩
def nnumber_checkFracs_l0_0_e1 (a0 : (List SFrac)) (r : Unit) : VS := ⟨mkA [], [], .nil⟩
def nnumber_checkFracs_l0_0 (k : Nat) (a0 : (List SFrac)) : Nat → Int → Option (Sum Int Unit)
  | 0, _ => none
  | fuel + 1, x8 => if x8 < (a0.length : Int) then (if 0 ≤ x8 ∧ x8 < (a0.length : Int) then ((nnumber_CheckFrac k (a0.getD x8.toNat default)).bind fun r382 => (if r382 = 0 then (nnumber_checkFracs_l0_0 k a0 fuel (w64 (x8 + 1))) else (some (.inl r382)))) else none) else (some (.inr ()))
theorem nnumber_checkFracs_l0_0_ok (k : Nat) (a0 : (List SFrac)) : ∀ (fuel : Nat) (x8 : Int) (r : Sum Int Unit), nnumber_checkFracs_l0_0 k a0 fuel x8 = some r → (match r with | .inl r => VLoop none Go.Proofs.Try.prog (szF Go.Proofs.Try.f48) (bodyOf Go.Proofs.Try.f48 0) (nnumber_checkFracs_l0_0_h a0 x8) .ret (nnumber_checkFracs_l0_0_e0 a0 r) | .inr r => VLoop none Go.Proofs.Try.prog (szF Go.Proofs.Try.f48) (bodyOf Go.Proofs.Try.f48 0) (nnumber_checkFracs_l0_0_h a0 x8) (.exit 0) (nnumber_checkFracs_l0_0_e1 a0 r)) := by
 intro fuel
 induction fuel with
 | zero => intro x8 r h; rw [nnumber_checkFracs_l0_0.eq_1] at h; cases h
 | succ fuel ih =>
  intro x8 r h
  rw [nnumber_checkFracs_l0_0.eq_2] at h
  rcases ifs h with ⟨h379, h⟩ | ⟨h379, h⟩
  ·obtain ⟨h380, h⟩ := ifn h
   have e381 := (show loadL Go.Proofs.Try.prog 25 (x8.toNat * 2) (List.flatMap c_SFrac a0) = some (VV.ag (c_SFrac (a0.getD x8.toNat default))) from ld_whole ag25 c_SFrac 2 sz25 len_c_SFrac a0 default h380 (by omega))
   obtain ⟨r382, h383, h⟩ := bs h
   have e384 := (nnumber_CheckFrac_ok k (a0.getD x8.toNat default) _ h383)
   rcases ifs h with ⟨h385, h⟩ | ⟨h385, h⟩
   ·have h2 := ih _ _ h
    obtain ⟨q, hv, hq⟩ := pkR (rd := none) (P := Go.Proofs.Try.prog) (fn := Go.Proofs.Try.f48) (k := 0) (s := (nnumber_checkFracs_l0_0_h a0 x8)) (ans := [.reg (.n :: []), .br true, .reg (.n :: .v (VV.ag (c_SFrac (a0.getD x8.toNat default))) :: .n :: .n :: []), .reg (.n :: .call (vi r382) :: .n :: []), .reg (.n :: .n :: []), .br false, .reg (.n :: .n :: [])]) (c := ⟨[(6, none), (7, none), (8, none)], [], []⟩) (e := .normal) (s1 := (nnumber_checkFracs_l0_0_h a0 (w64 (x8 + 1)))) (an (an (ti trivial) (an (an (decide_eq_true h379) trivial) (an (an (an h380 (an e381 (ti (ti trivial)))) (an (ti (an e384 (ti trivial))) (an (ti (ti trivial)) (an (not_f (decide_eq_true h385)) trivial)))) (ti (ti trivial))))) (ti trivial)) (by kernel_rfl)
    cases r with
    | inl r => exact round_next pm pn hv hq h2
    | inr r =>
     exact round_next pm pn hv hq h2
   ·injection h with h; subst h
    exact round_stop (c := ⟨[(2, none)], [], []⟩) (s1 := (nnumber_checkFracs_l0_0_e0 a0 r382)) pm pn (ans := [.reg (.n :: []), .br true, .reg (.n :: .v (VV.ag (c_SFrac (a0.getD x8.toNat default))) :: .n :: .n :: []), .reg (.n :: .call (vi r382) :: .n :: []), .reg (.n :: .n :: []), .br true, .reg (.n :: .n :: [])]) (by kernel_rfl) (by intro e; cases e) (an (an (ti trivial) (an (an (decide_eq_true h379) trivial) (an (an h380 (an e381 (ti (ti trivial)))) (an (ti (an e384 (ti trivial))) (an (ti (ti trivial)) (an (not_t (decide_eq_false h385)) (an (ti (ti trivial)) trivial))))))) (ti trivial))
  ·injection h with h; subst h
   exact round_stop (c := ⟨[], [], []⟩) (s1 := (nnumber_checkFracs_l0_0_e1 a0 ())) pm pn (ans := [.reg (.n :: []), .br false]) (by kernel_rfl) (by intro e; cases e) (an (an (ti trivial) (an (decide_eq_false h379) trivial)) (ti trivial))
def nnumber_checkFracs (k : Nat) (a0 : (List SFrac)) : Option Int :=
  (nnumber_checkFracs_l0_0 k a0 k 0).bind fun r387 => (match r387 with | .inl r388 => (some r388) | .inr r389 => (some 0))
theorem nnumber_checkFracs_ok (k : Nat) (a0 : (List SFrac)) (r : Int) (h : nnumber_checkFracs k a0 = some r) : VC Go.Proofs.Try.prog 48 [VV.tr (List.flatMap c_SFrac a0) a0.length] (vi r) := by
 unfold nnumber_checkFracs at h
 obtain ⟨r387, h386, h⟩ := bs h
 have hph386 := nnumber_checkFracs_l0_0_ok k a0 _ _ _ h386
 cases r387 with
 | inl r388 =>
  dsimp only at h
  have e390 := (an (ti trivial) (VRun.loop hph386))
  injection h with h; subst h
  exact fun_ok pm pn Go.Proofs.Try.func48 (r0 := vi r388) (ans := [.reg (.n :: []), .reg (nN 3 []), .sub ⟨[(6, none), (7, none), (8, none)], [], []⟩ .ret (nnumber_checkFracs_l0_0_e0 a0 r388)]) (fr := true) (by kernel_rfl) (an (an (ti trivial) (an (ti (ti (ti trivial))) e390)) (ti trivial)) (Wv.refl _)
 | inr r389 =>
  dsimp only at h
  have e391 := (an (ti trivial) (VRun.loop hph386))
  injection h with h; subst h
  exact fun_ok pm pn Go.Proofs.Try.func48 (r0 := vi 0) (ans := [.reg (.n :: []), .reg (nN 3 []), .sub ⟨[(6, none), (7, none), (8, none)], [], []⟩ (.exit 0) (nnumber_checkFracs_l0_0_e1 a0 r389), .reg (.n :: [])]) (fr := true) (by kernel_rfl) (an (an (ti trivial) (an (an (ti (ti (ti trivial))) e391) (an (ti trivial) trivial))) (ti trivial)) (Wv.refl _)
theorem eqO1_3 (z0 : SFrac) (z1 : SFrac) : [VV.tr (List.flatMap c_SFrac ([z0, z1] : List SFrac)) (([z0, z1] : List SFrac).length)] = [VV.tr [vi z0.Num, vi z0.Den, vi z1.Num, vi z1.Den] 2] := by first | rfl | (simp only [unfr_vi, List.map_cons, List.map_nil, un_i, un_tr, List.length_cons, List.length_nil, unfr_c_SFrac]; done) | (simp only [unfr_vi, List.map_cons, List.map_nil, un_i, un_tr, List.length_cons, List.length_nil, unfr_c_SFrac]; rfl) | (simp only [unfr_vi, List.map_cons, List.map_nil, un_i, un_tr, List.length_cons, List.length_nil, unfr_c_SFrac, c_SFrac, List.length_cons, List.length_nil, List.length_append]; done)
theorem eqO1_4 (z0 : Int) (z1 : Int) (z2 : Int) : [VV.ag (c_SFrac (⟨w64 ((w64 (0 - z0)).tdiv (w64 z1)), w64 ((w64 (0 - z2)).tdiv (w64 z1))⟩ : SFrac))] = [VV.ag [vi (w64 ((w64 (0 - z0)).tdiv (w64 z1))), vi (w64 ((w64 (0 - z2)).tdiv (w64 z1)))]] := by first | rfl | (simp only [unfr_vi, List.map_cons, List.map_nil, un_i, unfr_c_SFrac]; done) | (simp only [unfr_vi, List.map_cons, List.map_nil, un_i, unfr_c_SFrac]; rfl) | (simp only [unfr_vi, List.map_cons, List.map_nil, un_i, unfr_c_SFrac, c_SFrac, List.length_cons, List.length_nil, List.length_append]; done)
theorem eqO1_5 (z0 : Int) (z1 : Int) (z2 : Int) : [VV.ag (c_SFrac (⟨w64 (z0.tdiv (w64 z1)), w64 (z2.tdiv (w64 z1))⟩ : SFrac))] = [VV.ag [vi (w64 (z0.tdiv (w64 z1))), vi (w64 (z2.tdiv (w64 z1)))]] := by first | rfl | (simp only [unfr_vi, List.map_cons, List.map_nil, un_i, unfr_c_SFrac]; done) | (simp only [unfr_vi, List.map_cons, List.map_nil, un_i, unfr_c_SFrac]; rfl) | (simp only [unfr_vi, List.map_cons, List.map_nil, un_i, unfr_c_SFrac, c_SFrac, List.length_cons, List.length_nil, List.length_append]; done)
def arO1_3 (z0 : Int) (z1 : Int) (z2 : Int) : List Ans := (.n :: .call (VV.c (.int .u64 z0)) :: .n :: .call (VV.c (.int .u64 z1)) :: .call (VV.c (.int .u64 z2)) :: .n :: .n :: [])
theorem eqO1_6 (z0 : Int) (z1 : Int) (z2 : Int) : VV.tu [VV.ag [vi (w64 ((w64 (0 - z0)).tdiv (w64 z1))), vi (w64 ((w64 (0 - z2)).tdiv (w64 z1)))], vi 0] = VV.tu [VV.ag (c_SFrac (⟨w64 ((w64 (0 - z0)).tdiv (w64 z1)), w64 ((w64 (0 - z2)).tdiv (w64 z1))⟩ : SFrac)), vi 0] := by first | rfl | (simp only [unfr_vi, List.map_cons, List.map_nil, un_i, unfr_c_SFrac]; done) | (simp only [unfr_vi, List.map_cons, List.map_nil, un_i, unfr_c_SFrac]; rfl) | (simp only [unfr_vi, List.map_cons, List.map_nil, un_i, unfr_c_SFrac, c_SFrac, List.length_cons, List.length_nil, List.length_append]; done)
theorem eqO1_7  : VV.tu [VV.ag [vi 0, vi 0], vi 8] = VV.tu [VV.ag (c_SFrac (⟨0, 0⟩ : SFrac)), vi 8] := by first | rfl | (simp only [unfr_vi, List.map_cons, List.map_nil, un_i, unfr_c_SFrac]; done) | (simp only [unfr_vi, List.map_cons, List.map_nil, un_i, unfr_c_SFrac]; rfl) | (simp only [unfr_vi, List.map_cons, List.map_nil, un_i, unfr_c_SFrac, c_SFrac, List.length_cons, List.length_nil, List.length_append]; done)
theorem eqO1_8 (z0 : Int) (z1 : Int) (z2 : Int) : VV.tu [VV.ag [vi (w64 (z0.tdiv (w64 z1))), vi (w64 (z2.tdiv (w64 z1)))], vi 0] = VV.tu [VV.ag (c_SFrac (⟨w64 (z0.tdiv (w64 z1)), w64 (z2.tdiv (w64 z1))⟩ : SFrac)), vi 0] := by first | rfl | (simp only [unfr_vi, List.map_cons, List.map_nil, un_i, unfr_c_SFrac]; done) | (simp only [unfr_vi, List.map_cons, List.map_nil, un_i, unfr_c_SFrac]; rfl) | (simp only [unfr_vi, List.map_cons, List.map_nil, un_i, unfr_c_SFrac, c_SFrac, List.length_cons, List.length_nil, List.length_append]; done)
def nnumber_lowest (k : Nat) (a0 : Int) (a1 : Int) : Option (SFrac × Int) :=
  if a1 < 0 then ((nnumber_size k (w64 (0 - a0))).bind fun r426 => ((nnumber_size k (w64 (0 - a1))).bind fun r429 => ((nnumber_divisor k r426 r429).bind fun r432 => (if (w64 r432) ≠ 0 then ((nnumber_CheckFrac k (⟨w64 ((w64 (0 - a0)).tdiv (w64 r432)), w64 ((w64 (0 - a1)).tdiv (w64 r432))⟩ : SFrac)).bind fun r437 => (if r437 = 0 then (some ((⟨w64 ((w64 (0 - a0)).tdiv (w64 r432)), w64 ((w64 (0 - a1)).tdiv (w64 r432))⟩ : SFrac), 0)) else (some ((⟨0, 0⟩ : SFrac), 8)))) else none)))) else ((nnumber_size k a0).bind fun r441 => ((nnumber_size k a1).bind fun r443 => ((nnumber_divisor k r441 r443).bind fun r445 => (if (w64 r445) ≠ 0 then ((nnumber_CheckFrac k (⟨w64 (a0.tdiv (w64 r445)), w64 (a1.tdiv (w64 r445))⟩ : SFrac)).bind fun r450 => (if r450 = 0 then (some ((⟨w64 (a0.tdiv (w64 r445)), w64 (a1.tdiv (w64 r445))⟩ : SFrac), 0)) else (some ((⟨0, 0⟩ : SFrac), 8)))) else none))))
theorem nnumber_lowest_ok (k : Nat) (a0 : Int) (a1 : Int) (r : (SFrac × Int)) (h : nnumber_lowest k a0 a1 = some r) : VC Go.Proofs.Try.prog 70 [vi a0, vi a1] (VV.tu [VV.ag (c_SFrac r.1), vi r.2]) := by
 unfold nnumber_lowest at h
 rcases ifs h with ⟨h425, h⟩ | ⟨h425, h⟩
 ·obtain ⟨r426, h427, h⟩ := bs h
  have e428 := (nnumber_size_ok k (w64 (0 - a0)) _ h427)
  obtain ⟨r429, h430, h⟩ := bs h
  have e431 := (nnumber_size_ok k (w64 (0 - a1)) _ h430)
  obtain ⟨r432, h433, h⟩ := bs h
  have e434 := (ti (an e428 (ti (an e431 (an (nnumber_divisor_ok k r426 r429 _ h433) (ti (ti trivial)))))))
  obtain ⟨h435, h⟩ := ifn h
  have e436 := (ti (ti (an h435 (ti (ti (an h435 (ti (ti (ti trivial)))))))))
  obtain ⟨r437, h438, h⟩ := bs h
  have e439 := (VC.args (nnumber_CheckFrac_ok k (⟨w64 ((w64 (0 - a0)).tdiv (w64 r432)), w64 ((w64 (0 - a1)).tdiv (w64 r432))⟩ : SFrac) _ h438) (eqO1_4 a0 r432 a1))
  rcases ifs h with ⟨h440, h⟩ | ⟨h440, h⟩
  ·injection h with h; subst h
   exact fun_ok pm pn Go.Proofs.Try.func70 (r0 := VV.tu [VV.ag [vi (w64 ((w64 (0 - a0)).tdiv (w64 r432))), vi (w64 ((w64 (0 - a1)).tdiv (w64 r432)))], vi 0]) (ans := [.reg (.n :: .n :: []), .reg (.n :: .n :: []), .br true, .reg (nN 6 []), .reg (arO1_3 r426 r429 r432), .reg (nN 9 []), .reg (.n :: .call (vi r437) :: .n :: []), .br false, .reg (nN 3 [])]) (fr := true) (by kernel_rfl) (an (an (ti (ti trivial)) (an (an (ti (ti trivial)) (an (decide_eq_true h425) (ti (ti (ti (ti (ti (ti trivial)))))))) (an e434 (an e436 (an (an (ti (an e439 (ti trivial))) (an (not_f (decide_eq_true h440)) trivial)) (an (ti (ti (ti trivial))) trivial)))))) (an (ti (ti (ti trivial))) (ti trivial))) (Wv.of_eq (eqO1_6 a0 r432 a1))
  ·injection h with h; subst h
   exact fun_ok pm pn Go.Proofs.Try.func70 (r0 := VV.tu [VV.ag [vi 0, vi 0], vi 8]) (ans := [.reg (.n :: .n :: []), .reg (.n :: .n :: []), .br true, .reg (nN 6 []), .reg (arO1_3 r426 r429 r432), .reg (nN 9 []), .reg (.n :: .call (vi r437) :: .n :: []), .br true, .reg (nN 3 [])]) (fr := true) (by kernel_rfl) (an (an (ti (ti trivial)) (an (an (ti (ti trivial)) (an (decide_eq_true h425) (ti (ti (ti (ti (ti (ti trivial)))))))) (an e434 (an e436 (an (ti (an e439 (ti trivial))) (an (not_t (decide_eq_false h440)) (an (ti (ti (ti trivial))) trivial))))))) (an (ti (ti (ti trivial))) (ti trivial))) (Wv.of_eq eqO1_7)
 ·obtain ⟨r441, h442, h⟩ := bs h
  obtain ⟨r443, h444, h⟩ := bs h
  obtain ⟨r445, h446, h⟩ := bs h
  have e447 := (ti (an (nnumber_size_ok k a0 _ h442) (ti (an (nnumber_size_ok k a1 _ h444) (an (nnumber_divisor_ok k r441 r443 _ h446) (ti (ti trivial)))))))
  obtain ⟨h448, h⟩ := ifn h
  have e449 := (ti (ti (an h448 (ti (ti (an h448 (ti (ti (ti trivial)))))))))
  obtain ⟨r450, h451, h⟩ := bs h
  have e452 := (VC.args (nnumber_CheckFrac_ok k (⟨w64 (a0.tdiv (w64 r445)), w64 (a1.tdiv (w64 r445))⟩ : SFrac) _ h451) (eqO1_5 a0 r445 a1))
  rcases ifs h with ⟨h453, h⟩ | ⟨h453, h⟩
  ·injection h with h; subst h
   exact fun_ok pm pn Go.Proofs.Try.func70 (r0 := VV.tu [VV.ag [vi (w64 (a0.tdiv (w64 r445))), vi (w64 (a1.tdiv (w64 r445)))], vi 0]) (ans := [.reg (.n :: .n :: []), .reg (.n :: .n :: []), .br false, .reg (arO1_3 r441 r443 r445), .reg (nN 9 []), .reg (.n :: .call (vi r450) :: .n :: []), .br false, .reg (nN 3 [])]) (fr := true) (by kernel_rfl) (an (an (ti (ti trivial)) (an (an (ti (ti trivial)) (an (decide_eq_false h425) trivial)) (an e447 (an e449 (an (an (ti (an e452 (ti trivial))) (an (not_f (decide_eq_true h453)) trivial)) (an (ti (ti (ti trivial))) trivial)))))) (an (ti (ti (ti trivial))) (ti trivial))) (Wv.of_eq (eqO1_8 a0 r445 a1))
  ·injection h with h; subst h
   exact fun_ok pm pn Go.Proofs.Try.func70 (r0 := VV.tu [VV.ag [vi 0, vi 0], vi 8]) (ans := [.reg (.n :: .n :: []), .reg (.n :: .n :: []), .br false, .reg (arO1_3 r441 r443 r445), .reg (nN 9 []), .reg (.n :: .call (vi r450) :: .n :: []), .br true, .reg (nN 3 [])]) (fr := true) (by kernel_rfl) (an (an (ti (ti trivial)) (an (an (ti (ti trivial)) (an (decide_eq_false h425) trivial)) (an e447 (an e449 (an (ti (an e452 (ti trivial))) (an (not_t (decide_eq_false h453)) (an (ti (ti (ti trivial))) trivial))))))) (an (ti (ti (ti trivial))) (ti trivial))) (Wv.of_eq eqO1_7)
theorem eqO1_9 (z0 : Int) : VV.tu [VV.ag [vi 0, vi 0], vi z0] = VV.tu [VV.ag (c_SFrac (⟨0, 0⟩ : SFrac)), vi z0] := by first | rfl | (simp only [unfr_vi, List.map_cons, List.map_nil, un_i, unfr_c_SFrac]; done) | (simp only [unfr_vi, List.map_cons, List.map_nil, un_i, unfr_c_SFrac]; rfl) | (simp only [unfr_vi, List.map_cons, List.map_nil, un_i, unfr_c_SFrac, c_SFrac, List.length_cons, List.length_nil, List.length_append]; done)
def nnumber_Mul (k : Nat) (a0 : SFrac) (a1 : SFrac) : Option (SFrac × Int) :=
  (nnumber_checkFracs k ([a0, a1] : List SFrac)).bind fun r458 => (if r458 = 0 then ((nnumber_lowest k (w64 (a0.Num * a1.Num)) (w64 (a0.Den * a1.Den))).bind fun r462 => (some (r462.1, r462.2))) else (some ((⟨0, 0⟩ : SFrac), r458)))
theorem nnumber_Mul_ok (k : Nat) (a0 : SFrac) (a1 : SFrac) (r : (SFrac × Int)) (h : nnumber_Mul k a0 a1 = some r) : VC Go.Proofs.Try.prog 56 [VV.ag (c_SFrac a0), VV.ag (c_SFrac a1)] (VV.tu [VV.ag (c_SFrac r.1), vi r.2]) := by
 unfold nnumber_Mul at h
 obtain ⟨r458, h459, h⟩ := bs h
 have e460 := (VC.args (nnumber_checkFracs_ok k ([a0, a1] : List SFrac) _ h459) (eqO1_3 a0 a1))
 rcases ifs h with ⟨h461, h⟩ | ⟨h461, h⟩
 ·obtain ⟨r462, h463, h⟩ := bs h
  have e464 := (nnumber_lowest_ok k (w64 (a0.Num * a1.Num)) (w64 (a0.Den * a1.Den)) _ h463)
  have e465 := (ti (ti (ti (ti (ti (ti (ti (ti (ti (ti (an e464 (ti (ti (ti (ti trivial)))))))))))))))
  injection h with h; subst h
  exact fun_ok pm pn Go.Proofs.Try.func56 (r0 := VV.tu [VV.ag (c_SFrac r462.1), vi r462.2]) (ans := [.reg (nN 4 []), .reg (.n :: .n :: .v VV.any :: .call (vi r458) :: .n :: []), .reg (.n :: .n :: []), .br false, .reg (nN 10 (.call (VV.tu [VV.ag (c_SFrac r462.1), vi r462.2]) :: nN 4 []))]) (fr := true) (by kernel_rfl) (an (an (ti (ti (ti (ti trivial)))) (an (an (ti (ti (ti (an e460 (ti trivial))))) (an (ti (ti trivial)) (an (not_f (decide_eq_true h461)) trivial))) (an e465 trivial))) (an (ti (ti (ti trivial))) (ti trivial))) (Wv.refl _)
 ·injection h with h; subst h
  exact fun_ok pm pn Go.Proofs.Try.func56 (r0 := VV.tu [VV.ag [vi 0, vi 0], vi r458]) (ans := [.reg (nN 4 []), .reg (.n :: .n :: .v VV.any :: .call (vi r458) :: .n :: []), .reg (.n :: .n :: []), .br true, .reg (nN 4 [])]) (fr := true) (by kernel_rfl) (an (an (ti (ti (ti (ti trivial)))) (an (ti (ti (ti (an e460 (ti trivial))))) (an (ti (ti trivial)) (an (not_t (decide_eq_false h461)) (an (ti (ti (ti (ti trivial)))) trivial))))) (an (ti (ti (ti trivial))) (ti trivial))) (Wv.of_eq (eqO1_9 r458))
theorem eqO1_10  : VV.ag [vi 0, vi 0] = VV.ag (c_SFrac (⟨0, 0⟩ : SFrac)) := by first | rfl | (simp only [unfr_vi, List.map_cons, List.map_nil, un_i, unfr_c_SFrac]; done) | (simp only [unfr_vi, List.map_cons, List.map_nil, un_i, unfr_c_SFrac]; rfl) | (simp only [unfr_vi, List.map_cons, List.map_nil, un_i, unfr_c_SFrac, c_SFrac, List.length_cons, List.length_nil, List.length_append]; done)
def n_optics_way_step_c1_number_Mul (k : Nat) (a0 : Sway) (a1 : Unit) (a2 : SFrac) (a3 : SFrac) : Option (SFrac × Sway) :=
  if a0.failed = 0 then ((nnumber_Mul k a2 a3).bind fun r470 => (some (r470.1, (⟨r470.2⟩ : Sway)))) else (some ((⟨0, 0⟩ : SFrac), a0))
theorem n_optics_way_step_c1_number_Mul_ok (k : Nat) (a0 : Sway) (a1 : Unit) (a2 : SFrac) (a3 : SFrac) (r : (SFrac × Sway)) (h : n_optics_way_step_c1_number_Mul k a0 a1 a2 a3 = some r) : VM Go.Proofs.Try.prog 54 [VV.pt 0 0, VV.fn 56 [], VV.ag (c_SFrac a2), VV.ag (c_SFrac a3)] [⟨true, bigH, [vi a0.failed]⟩] (VV.ag (c_SFrac r.1)) [⟨true, bigH, [vi r.2.failed]⟩] := by
 unfold n_optics_way_step_c1_number_Mul at h
 rcases ifs h with ⟨h469, h⟩ | ⟨h469, h⟩
 ·obtain ⟨r470, h471, h⟩ := bs h
  have e472 := (ti (ti (ti (an (nnumber_Mul_ok k a2 a3 _ h471) (ti (ti (ti (ti (ti (ti trivial))))))))))
  injection h with h; subst h
  exact fun_okM pm pn Go.Proofs.Try.func54 (L := [⟨true, bigH, [vi a0.failed]⟩]) (r0 := VV.ag (c_SFrac r470.1)) (ans := [.reg (nN 3 []), .reg (nN 5 []), .br false, .reg (nN 3 (.call (VV.tu [VV.ag (c_SFrac r470.1), vi r470.2]) :: nN 6 [])), .reg (nN 5 []), .reg (.n :: .n :: [])]) (fr := true) (by kernel_rfl) (an (an (ti (ti (ti trivial))) (an (an (ti (ti (ti (ti (ti trivial))))) (an (not_f (decide_eq_true h469)) trivial)) (an e472 (an (ti (ti (ti (ti (ti trivial))))) (an (ti (ti trivial)) trivial))))) (an (an (ti (ti (ti trivial))) trivial) (an (an (ti trivial) trivial) (show okStill [⟨true, bigH, [vi a0.failed]⟩] from ⟨(fun h => nomatch h), trivial⟩)))) (Wv.refl _) rfl
 ·injection h with h; subst h
  exact fun_okM pm pn Go.Proofs.Try.func54 (L := [⟨true, bigH, [vi a0.failed]⟩]) (r0 := VV.ag [vi 0, vi 0]) (ans := [.reg (nN 3 []), .reg (nN 5 []), .br true, .reg (.n :: .n :: [])]) (fr := true) (by kernel_rfl) (an (an (ti (ti (ti trivial))) (an (ti (ti (ti (ti (ti trivial))))) (an (not_t (decide_eq_false h469)) (an (ti (ti trivial)) trivial)))) (an (an (ti (ti (ti trivial))) trivial) (an (an (ti trivial) trivial) (show okStill [⟨true, bigH, [vi a0.failed]⟩] from ⟨(fun h => nomatch h), trivial⟩)))) (Wv.of_eq eqO1_10) rfl
def n_optics_way_times (k : Nat) (a0 : Sway) (a1 : SFrac) (a2 : SFrac) : Option (SFrac × Sway) :=
  (n_optics_way_step_c1_number_Mul k a0 () a1 a2).bind fun r476 => (some (r476.1, r476.2))
theorem n_optics_way_times_ok (k : Nat) (a0 : Sway) (a1 : SFrac) (a2 : SFrac) (r : (SFrac × Sway)) (h : n_optics_way_times k a0 a1 a2 = some r) : VM Go.Proofs.Try.prog 24 [VV.pt 0 0, VV.ag (c_SFrac a1), VV.ag (c_SFrac a2)] [⟨true, bigH, [vi a0.failed]⟩] (VV.ag (c_SFrac r.1)) [⟨true, bigH, [vi r.2.failed]⟩] := by
 unfold n_optics_way_times at h
 obtain ⟨r476, h477, h⟩ := bs h
 have e478 := (an (n_optics_way_step_c1_number_Mul_ok k a0 () a1 a2 _ h477) (an (ti trivial) (ti trivial)))
 injection h with h; subst h
 exact fun_okM pm pn Go.Proofs.Try.func24 (L := [⟨true, bigH, [vi a0.failed]⟩]) (r0 := VV.ag (c_SFrac r476.1)) (ans := [.reg (nN 3 []), .reg (nN 3 (.mod1 0 (VV.ag (c_SFrac r476.1)) ⟨true, bigH, [vi r476.2.failed]⟩ :: .n :: []))]) (fr := true) (by kernel_rfl) (an (an (ti (ti (ti trivial))) (an (ti (ti (ti (an e478 (ti trivial))))) trivial)) (an (an (ti (ti (ti trivial))) trivial) (an (an (ti trivial) trivial) (show okStill [⟨true, bigH, [vi a0.failed]⟩] from ⟨(fun h => nomatch h), trivial⟩)))) (Wv.refl _) rfl
theorem eqO1_11  : ([⟨true, bigH, [vi ((⟨0⟩ : Sway).failed)]⟩] : List Blk) = ([⟨true, bigH, [vi 0]⟩] : List Blk) := by first | rfl | (simp only [unfr_vi, List.map_cons, List.map_nil, un_i]; done) | (simp only [unfr_vi, List.map_cons, List.map_nil, un_i]; rfl) | (simp only [unfr_vi, List.map_cons, List.map_nil, un_i, List.length_cons, List.length_nil, List.length_append]; done)
def noptics_shape (k : Nat) (a0 : SConic) : Option (Int × Int) :=
  some (w64 (a0.K.Num + a0.K.Den), a0.K.Den)
theorem noptics_shape_ok (k : Nat) (a0 : SConic) (r : (Int × Int)) (h : noptics_shape k a0 = some r) : VC Go.Proofs.Try.prog 57 [VV.ag (c_SConic a0)] (VV.tu [vi r.1, vi r.2]) := by
 unfold noptics_shape at h
 have e483 := (ti (ti (ti (ti (ti (ti (ti (ti (ti (ti (ti (ti trivial))))))))))))
 injection h with h; subst h
 exact fun_ok pm pn Go.Proofs.Try.func57 (r0 := VV.tu [vi (w64 (a0.K.Num + a0.K.Den)), vi a0.K.Den]) (ans := [.reg (nN 3 []), .reg (nN 12 [])]) (fr := true) (by kernel_rfl) (an (an (ti (ti (ti trivial))) (an e483 trivial)) (ti (ti trivial))) (Wv.refl _)
theorem eqO1_12 (z0 : (Int × Int)) : VV.ag [vi z0.1, vi z0.2] = VV.ag (c_SFrac (⟨z0.1, z0.2⟩ : SFrac)) := by first | rfl | (simp only [unfr_vi, List.map_cons, List.map_nil, un_i, unfr_c_SFrac]; done) | (simp only [unfr_vi, List.map_cons, List.map_nil, un_i, unfr_c_SFrac]; rfl) | (simp only [unfr_vi, List.map_cons, List.map_nil, un_i, unfr_c_SFrac, c_SFrac, List.length_cons, List.length_nil, List.length_append]; done)
def noptics_onePlusK (k : Nat) (a0 : SConic) : Option SFrac :=
  (noptics_shape k a0).bind fun r487 => (some (⟨r487.1, r487.2⟩ : SFrac))
theorem noptics_onePlusK_ok (k : Nat) (a0 : SConic) (r : SFrac) (h : noptics_onePlusK k a0 = some r) : VC Go.Proofs.Try.prog 25 [VV.ag (c_SConic a0)] (VV.ag (c_SFrac r)) := by
 unfold noptics_onePlusK at h
 obtain ⟨r487, h488, h⟩ := bs h
 have e489 := (ti (an (noptics_shape_ok k a0 _ h488) (ti (ti (ti (ti (ti trivial)))))))
 injection h with h; subst h
 exact fun_ok pm pn Go.Proofs.Try.func25 (r0 := VV.ag [vi r487.1, vi r487.2]) (ans := [.reg (.n :: .n :: []), .reg (.n :: .call (VV.tu [vi r487.1, vi r487.2]) :: nN 5 []), .reg (nN 4 [])]) (fr := true) (by kernel_rfl) (an (an (ti (ti trivial)) (an e489 (an (ti (ti (ti (ti trivial)))) trivial))) (an (ti (ti (ti trivial))) trivial)) (Wv.of_eq (eqO1_12 r487))
def nnumber_Add (k : Nat) (a0 : SFrac) (a1 : SFrac) : Option (SFrac × Int) :=
  (nnumber_checkFracs k ([a0, a1] : List SFrac)).bind fun r507 => (if r507 = 0 then ((nnumber_lowest k (w64 ((w64 (a0.Num * a1.Den)) + (w64 (a1.Num * a0.Den)))) (w64 (a0.Den * a1.Den))).bind fun r511 => (some (r511.1, r511.2))) else (some ((⟨0, 0⟩ : SFrac), r507)))
theorem nnumber_Add_ok (k : Nat) (a0 : SFrac) (a1 : SFrac) (r : (SFrac × Int)) (h : nnumber_Add k a0 a1 = some r) : VC Go.Proofs.Try.prog 55 [VV.ag (c_SFrac a0), VV.ag (c_SFrac a1)] (VV.tu [VV.ag (c_SFrac r.1), vi r.2]) := by
 unfold nnumber_Add at h
 obtain ⟨r507, h508, h⟩ := bs h
 have e509 := (VC.args (nnumber_checkFracs_ok k ([a0, a1] : List SFrac) _ h508) (eqO1_3 a0 a1))
 rcases ifs h with ⟨h510, h⟩ | ⟨h510, h⟩
 ·obtain ⟨r511, h512, h⟩ := bs h
  have e513 := (nnumber_lowest_ok k (w64 ((w64 (a0.Num * a1.Den)) + (w64 (a1.Num * a0.Den)))) (w64 (a0.Den * a1.Den)) _ h512)
  have e514 := (ti (ti (ti (ti (ti (ti (ti (ti (ti (ti (ti (ti (ti (ti (ti (ti (an e513 (ti (ti (ti (ti trivial)))))))))))))))))))))
  injection h with h; subst h
  exact fun_ok pm pn Go.Proofs.Try.func55 (r0 := VV.tu [VV.ag (c_SFrac r511.1), vi r511.2]) (ans := [.reg (nN 4 []), .reg (.n :: .n :: .v VV.any :: .call (vi r507) :: .n :: []), .reg (.n :: .n :: []), .br false, .reg (nN 16 (.call (VV.tu [VV.ag (c_SFrac r511.1), vi r511.2]) :: nN 4 []))]) (fr := true) (by kernel_rfl) (an (an (ti (ti (ti (ti trivial)))) (an (an (ti (ti (ti (an e509 (ti trivial))))) (an (ti (ti trivial)) (an (not_f (decide_eq_true h510)) trivial))) (an e514 trivial))) (an (ti (ti (ti trivial))) (ti trivial))) (Wv.refl _)
 ·injection h with h; subst h
  exact fun_ok pm pn Go.Proofs.Try.func55 (r0 := VV.tu [VV.ag [vi 0, vi 0], vi r507]) (ans := [.reg (nN 4 []), .reg (.n :: .n :: .v VV.any :: .call (vi r507) :: .n :: []), .reg (.n :: .n :: []), .br true, .reg (nN 4 [])]) (fr := true) (by kernel_rfl) (an (an (ti (ti (ti (ti trivial)))) (an (ti (ti (ti (an e509 (ti trivial))))) (an (ti (ti trivial)) (an (not_t (decide_eq_false h510)) (an (ti (ti (ti (ti trivial)))) trivial))))) (an (ti (ti (ti trivial))) (ti trivial))) (Wv.of_eq (eqO1_9 r507))
def n_optics_way_step_c1_number_Add (k : Nat) (a0 : Sway) (a1 : Unit) (a2 : SFrac) (a3 : SFrac) : Option (SFrac × Sway) :=
  if a0.failed = 0 then ((nnumber_Add k a2 a3).bind fun r519 => (some (r519.1, (⟨r519.2⟩ : Sway)))) else (some ((⟨0, 0⟩ : SFrac), a0))
theorem n_optics_way_step_c1_number_Add_ok (k : Nat) (a0 : Sway) (a1 : Unit) (a2 : SFrac) (a3 : SFrac) (r : (SFrac × Sway)) (h : n_optics_way_step_c1_number_Add k a0 a1 a2 a3 = some r) : VM Go.Proofs.Try.prog 54 [VV.pt 0 0, VV.fn 55 [], VV.ag (c_SFrac a2), VV.ag (c_SFrac a3)] [⟨true, bigH, [vi a0.failed]⟩] (VV.ag (c_SFrac r.1)) [⟨true, bigH, [vi r.2.failed]⟩] := by
 unfold n_optics_way_step_c1_number_Add at h
 rcases ifs h with ⟨h518, h⟩ | ⟨h518, h⟩
 ·obtain ⟨r519, h520, h⟩ := bs h
  have e521 := (ti (ti (ti (an (nnumber_Add_ok k a2 a3 _ h520) (ti (ti (ti (ti (ti (ti trivial))))))))))
  injection h with h; subst h
  exact fun_okM pm pn Go.Proofs.Try.func54 (L := [⟨true, bigH, [vi a0.failed]⟩]) (r0 := VV.ag (c_SFrac r519.1)) (ans := [.reg (nN 3 []), .reg (nN 5 []), .br false, .reg (nN 3 (.call (VV.tu [VV.ag (c_SFrac r519.1), vi r519.2]) :: nN 6 [])), .reg (nN 5 []), .reg (.n :: .n :: [])]) (fr := true) (by kernel_rfl) (an (an (ti (ti (ti trivial))) (an (an (ti (ti (ti (ti (ti trivial))))) (an (not_f (decide_eq_true h518)) trivial)) (an e521 (an (ti (ti (ti (ti (ti trivial))))) (an (ti (ti trivial)) trivial))))) (an (an (ti (ti (ti trivial))) trivial) (an (an (ti trivial) trivial) (show okStill [⟨true, bigH, [vi a0.failed]⟩] from ⟨(fun h => nomatch h), trivial⟩)))) (Wv.refl _) rfl
 ·injection h with h; subst h
  exact fun_okM pm pn Go.Proofs.Try.func54 (L := [⟨true, bigH, [vi a0.failed]⟩]) (r0 := VV.ag [vi 0, vi 0]) (ans := [.reg (nN 3 []), .reg (nN 5 []), .br true, .reg (.n :: .n :: [])]) (fr := true) (by kernel_rfl) (an (an (ti (ti (ti trivial))) (an (ti (ti (ti (ti (ti trivial))))) (an (not_t (decide_eq_false h518)) (an (ti (ti trivial)) trivial)))) (an (an (ti (ti (ti trivial))) trivial) (an (an (ti trivial) trivial) (show okStill [⟨true, bigH, [vi a0.failed]⟩] from ⟨(fun h => nomatch h), trivial⟩)))) (Wv.of_eq eqO1_10) rfl
def n_optics_way_plus (k : Nat) (a0 : Sway) (a1 : SFrac) (a2 : SFrac) : Option (SFrac × Sway) :=
  (n_optics_way_step_c1_number_Add k a0 () a1 a2).bind fun r525 => (some (r525.1, r525.2))
theorem n_optics_way_plus_ok (k : Nat) (a0 : Sway) (a1 : SFrac) (a2 : SFrac) (r : (SFrac × Sway)) (h : n_optics_way_plus k a0 a1 a2 = some r) : VM Go.Proofs.Try.prog 23 [VV.pt 0 0, VV.ag (c_SFrac a1), VV.ag (c_SFrac a2)] [⟨true, bigH, [vi a0.failed]⟩] (VV.ag (c_SFrac r.1)) [⟨true, bigH, [vi r.2.failed]⟩] := by
 unfold n_optics_way_plus at h
 obtain ⟨r525, h526, h⟩ := bs h
 have e527 := (an (n_optics_way_step_c1_number_Add_ok k a0 () a1 a2 _ h526) (an (ti trivial) (ti trivial)))
 injection h with h; subst h
 exact fun_okM pm pn Go.Proofs.Try.func23 (L := [⟨true, bigH, [vi a0.failed]⟩]) (r0 := VV.ag (c_SFrac r525.1)) (ans := [.reg (nN 3 []), .reg (nN 3 (.mod1 0 (VV.ag (c_SFrac r525.1)) ⟨true, bigH, [vi r525.2.failed]⟩ :: .n :: []))]) (fr := true) (by kernel_rfl) (an (an (ti (ti (ti trivial))) (an (ti (ti (ti (an e527 (ti trivial))))) trivial)) (an (an (ti (ti (ti trivial))) trivial) (an (an (ti trivial) trivial) (show okStill [⟨true, bigH, [vi a0.failed]⟩] from ⟨(fun h => nomatch h), trivial⟩)))) (Wv.refl _) rfl
theorem eqO1_13 (z0 : Int) : VV.ag [vi z0, vi 1] = VV.ag (c_SFrac (⟨z0, 1⟩ : SFrac)) := by first | rfl | (simp only [unfr_vi, List.map_cons, List.map_nil, un_i, unfr_c_SFrac]; done) | (simp only [unfr_vi, List.map_cons, List.map_nil, un_i, unfr_c_SFrac]; rfl) | (simp only [unfr_vi, List.map_cons, List.map_nil, un_i, unfr_c_SFrac, c_SFrac, List.length_cons, List.length_nil, List.length_append]; done)
def noptics_whole (k : Nat) (a0 : Int) : Option SFrac :=
  some (⟨a0, 1⟩ : SFrac)
theorem noptics_whole_ok (k : Nat) (a0 : Int) (r : SFrac) (h : noptics_whole k a0 = some r) : VC Go.Proofs.Try.prog 27 [vi a0] (VV.ag (c_SFrac r)) := by
 unfold noptics_whole at h
 injection h with h; subst h
 exact fun_ok pm pn Go.Proofs.Try.func27 (r0 := VV.ag [vi a0, vi 1]) (ans := [.reg (.n :: []), .reg (nN 3 [])]) (fr := true) (by kernel_rfl) (an (an (ti trivial) (an (ti (ti (ti trivial))) trivial)) (an (ti (ti (ti trivial))) trivial)) (Wv.of_eq (eqO1_13 a0))
def nnumber_Sub (k : Nat) (a0 : SFrac) (a1 : SFrac) : Option (SFrac × Int) :=
  (nnumber_checkFracs k ([a0, a1] : List SFrac)).bind fun r547 => (if r547 = 0 then ((nnumber_lowest k (w64 ((w64 (a0.Num * a1.Den)) - (w64 (a1.Num * a0.Den)))) (w64 (a0.Den * a1.Den))).bind fun r551 => (some (r551.1, r551.2))) else (some ((⟨0, 0⟩ : SFrac), r547)))
theorem nnumber_Sub_ok (k : Nat) (a0 : SFrac) (a1 : SFrac) (r : (SFrac × Int)) (h : nnumber_Sub k a0 a1 = some r) : VC Go.Proofs.Try.prog 58 [VV.ag (c_SFrac a0), VV.ag (c_SFrac a1)] (VV.tu [VV.ag (c_SFrac r.1), vi r.2]) := by
 unfold nnumber_Sub at h
 obtain ⟨r547, h548, h⟩ := bs h
 have e549 := (VC.args (nnumber_checkFracs_ok k ([a0, a1] : List SFrac) _ h548) (eqO1_3 a0 a1))
 rcases ifs h with ⟨h550, h⟩ | ⟨h550, h⟩
 ·obtain ⟨r551, h552, h⟩ := bs h
  have e553 := (nnumber_lowest_ok k (w64 ((w64 (a0.Num * a1.Den)) - (w64 (a1.Num * a0.Den)))) (w64 (a0.Den * a1.Den)) _ h552)
  have e554 := (ti (ti (ti (ti (ti (ti (ti (ti (ti (ti (ti (ti (ti (ti (ti (ti (an e553 (ti (ti (ti (ti trivial)))))))))))))))))))))
  injection h with h; subst h
  exact fun_ok pm pn Go.Proofs.Try.func58 (r0 := VV.tu [VV.ag (c_SFrac r551.1), vi r551.2]) (ans := [.reg (nN 4 []), .reg (.n :: .n :: .v VV.any :: .call (vi r547) :: .n :: []), .reg (.n :: .n :: []), .br false, .reg (nN 16 (.call (VV.tu [VV.ag (c_SFrac r551.1), vi r551.2]) :: nN 4 []))]) (fr := true) (by kernel_rfl) (an (an (ti (ti (ti (ti trivial)))) (an (an (ti (ti (ti (an e549 (ti trivial))))) (an (ti (ti trivial)) (an (not_f (decide_eq_true h550)) trivial))) (an e554 trivial))) (an (ti (ti (ti trivial))) (ti trivial))) (Wv.refl _)
 ·injection h with h; subst h
  exact fun_ok pm pn Go.Proofs.Try.func58 (r0 := VV.tu [VV.ag [vi 0, vi 0], vi r547]) (ans := [.reg (nN 4 []), .reg (.n :: .n :: .v VV.any :: .call (vi r547) :: .n :: []), .reg (.n :: .n :: []), .br true, .reg (nN 4 [])]) (fr := true) (by kernel_rfl) (an (an (ti (ti (ti (ti trivial)))) (an (ti (ti (ti (an e549 (ti trivial))))) (an (ti (ti trivial)) (an (not_t (decide_eq_false h550)) (an (ti (ti (ti (ti trivial)))) trivial))))) (an (ti (ti (ti trivial))) (ti trivial))) (Wv.of_eq (eqO1_9 r547))
def n_optics_way_step_c1_number_Sub (k : Nat) (a0 : Sway) (a1 : Unit) (a2 : SFrac) (a3 : SFrac) : Option (SFrac × Sway) :=
  if a0.failed = 0 then ((nnumber_Sub k a2 a3).bind fun r559 => (some (r559.1, (⟨r559.2⟩ : Sway)))) else (some ((⟨0, 0⟩ : SFrac), a0))
theorem n_optics_way_step_c1_number_Sub_ok (k : Nat) (a0 : Sway) (a1 : Unit) (a2 : SFrac) (a3 : SFrac) (r : (SFrac × Sway)) (h : n_optics_way_step_c1_number_Sub k a0 a1 a2 a3 = some r) : VM Go.Proofs.Try.prog 54 [VV.pt 0 0, VV.fn 58 [], VV.ag (c_SFrac a2), VV.ag (c_SFrac a3)] [⟨true, bigH, [vi a0.failed]⟩] (VV.ag (c_SFrac r.1)) [⟨true, bigH, [vi r.2.failed]⟩] := by
 unfold n_optics_way_step_c1_number_Sub at h
 rcases ifs h with ⟨h558, h⟩ | ⟨h558, h⟩
 ·obtain ⟨r559, h560, h⟩ := bs h
  have e561 := (ti (ti (ti (an (nnumber_Sub_ok k a2 a3 _ h560) (ti (ti (ti (ti (ti (ti trivial))))))))))
  injection h with h; subst h
  exact fun_okM pm pn Go.Proofs.Try.func54 (L := [⟨true, bigH, [vi a0.failed]⟩]) (r0 := VV.ag (c_SFrac r559.1)) (ans := [.reg (nN 3 []), .reg (nN 5 []), .br false, .reg (nN 3 (.call (VV.tu [VV.ag (c_SFrac r559.1), vi r559.2]) :: nN 6 [])), .reg (nN 5 []), .reg (.n :: .n :: [])]) (fr := true) (by kernel_rfl) (an (an (ti (ti (ti trivial))) (an (an (ti (ti (ti (ti (ti trivial))))) (an (not_f (decide_eq_true h558)) trivial)) (an e561 (an (ti (ti (ti (ti (ti trivial))))) (an (ti (ti trivial)) trivial))))) (an (an (ti (ti (ti trivial))) trivial) (an (an (ti trivial) trivial) (show okStill [⟨true, bigH, [vi a0.failed]⟩] from ⟨(fun h => nomatch h), trivial⟩)))) (Wv.refl _) rfl
 ·injection h with h; subst h
  exact fun_okM pm pn Go.Proofs.Try.func54 (L := [⟨true, bigH, [vi a0.failed]⟩]) (r0 := VV.ag [vi 0, vi 0]) (ans := [.reg (nN 3 []), .reg (nN 5 []), .br true, .reg (.n :: .n :: [])]) (fr := true) (by kernel_rfl) (an (an (ti (ti (ti trivial))) (an (ti (ti (ti (ti (ti trivial))))) (an (not_t (decide_eq_false h558)) (an (ti (ti trivial)) trivial)))) (an (an (ti (ti (ti trivial))) trivial) (an (an (ti trivial) trivial) (show okStill [⟨true, bigH, [vi a0.failed]⟩] from ⟨(fun h => nomatch h), trivial⟩)))) (Wv.of_eq eqO1_10) rfl
def n_optics_way_minus (k : Nat) (a0 : Sway) (a1 : SFrac) (a2 : SFrac) : Option (SFrac × Sway) :=
  (n_optics_way_step_c1_number_Sub k a0 () a1 a2).bind fun r565 => (some (r565.1, r565.2))
theorem n_optics_way_minus_ok (k : Nat) (a0 : Sway) (a1 : SFrac) (a2 : SFrac) (r : (SFrac × Sway)) (h : n_optics_way_minus k a0 a1 a2 = some r) : VM Go.Proofs.Try.prog 26 [VV.pt 0 0, VV.ag (c_SFrac a1), VV.ag (c_SFrac a2)] [⟨true, bigH, [vi a0.failed]⟩] (VV.ag (c_SFrac r.1)) [⟨true, bigH, [vi r.2.failed]⟩] := by
 unfold n_optics_way_minus at h
 obtain ⟨r565, h566, h⟩ := bs h
 have e567 := (an (n_optics_way_step_c1_number_Sub_ok k a0 () a1 a2 _ h566) (an (ti trivial) (ti trivial)))
 injection h with h; subst h
 exact fun_okM pm pn Go.Proofs.Try.func26 (L := [⟨true, bigH, [vi a0.failed]⟩]) (r0 := VV.ag (c_SFrac r565.1)) (ans := [.reg (nN 3 []), .reg (nN 3 (.mod1 0 (VV.ag (c_SFrac r565.1)) ⟨true, bigH, [vi r565.2.failed]⟩ :: .n :: []))]) (fr := true) (by kernel_rfl) (an (an (ti (ti (ti trivial))) (an (ti (ti (ti (an e567 (ti trivial))))) trivial)) (an (an (ti (ti (ti trivial))) trivial) (an (an (ti trivial) trivial) (show okStill [⟨true, bigH, [vi a0.failed]⟩] from ⟨(fun h => nomatch h), trivial⟩)))) (Wv.refl _) rfl
def noptics_beside_bool_ (k : Nat) (a0 : Bool) (a1 : (List Int)) : Option (Bool × Int) :=
  (noptics_firstError k a1).bind fun r579 => (if r579 = 0 then (some (a0, 0)) else (some (false, r579)))
theorem noptics_beside_bool__ok (k : Nat) (a0 : Bool) (a1 : (List Int)) (r : (Bool × Int)) (h : noptics_beside_bool_ k a0 a1 = some r) : VC Go.Proofs.Try.prog 28 [vb a0, VV.tr (List.map vi a1) a1.length] (VV.tu [vb r.1, vi r.2]) := by
 unfold noptics_beside_bool_ at h
 obtain ⟨r579, h580, h⟩ := bs h
 have e581 := (ti (an (noptics_firstError_ok k a1 _ h580) (ti trivial)))
 rcases ifs h with ⟨h582, h⟩ | ⟨h582, h⟩
 ·injection h with h; subst h
  exact fun_ok pm pn Go.Proofs.Try.func28 (r0 := VV.tu [vb a0, vi 0]) (ans := [.reg (.n :: .n :: []), .reg (.n :: .call (vi r579) :: .n :: []), .reg (.n :: .n :: []), .br false, .reg (nN 3 [])]) (fr := true) (by kernel_rfl) (an (an (ti (ti trivial)) (an (an e581 (an (ti (ti trivial)) (an (not_f (decide_eq_true h582)) trivial))) (an (ti (ti (ti trivial))) trivial))) (ti (ti trivial))) (Wv.refl _)
 ·injection h with h; subst h
  exact fun_ok pm pn Go.Proofs.Try.func28 (r0 := VV.tu [vb false, vi r579]) (ans := [.reg (.n :: .n :: []), .reg (.n :: .call (vi r579) :: .n :: []), .reg (.n :: .n :: []), .br true, .reg (.n :: []), .reg (nN 4 [])]) (fr := true) (by kernel_rfl) (an (an (ti (ti trivial)) (an e581 (an (ti (ti trivial)) (an (not_t (decide_eq_false h582)) (an (ti trivial) (an (ti (ti (ti (ti trivial)))) trivial)))))) (ti (ti trivial))) (Wv.refl _)
theorem eqO1_14 (z0 : (SFrac × Sway)) (z1 : SFrac) : [vb ((z0.1.Num : Int) == z1.Num && ((z0.1.Den : Int) == z1.Den && true)), VV.tr (List.map vi ([z0.2.failed] : List Int)) (([z0.2.failed] : List Int).length)] = [vb ((z0.1.Num : Int) == z1.Num && ((z0.1.Den : Int) == z1.Den && true)), VV.tr [vi z0.2.failed] 1] := by first | rfl | (simp only [unfr_vi, unfr_vb, List.map_cons, List.map_nil, un_i, un_b, un_tr, List.length_map, List.length_cons, List.length_nil]; done) | (simp only [unfr_vi, unfr_vb, List.map_cons, List.map_nil, un_i, un_b, un_tr, List.length_map, List.length_cons, List.length_nil]; rfl) | (simp only [unfr_vi, unfr_vb, List.map_cons, List.map_nil, un_i, un_b, un_tr, List.length_map, List.length_cons, List.length_nil, List.length_cons, List.length_nil, List.length_append]; done)
def arO1_4 (z0 : Int) (z1 : Int) (z2 : Int) : List Ans := (.n :: .call (vi z0) :: nN 4 (.v VV.any :: .call (vi z1) :: .v VV.any :: .call (vi z2) :: .n :: []))
def arO1_5 (z0 : (SFrac × Sway)) (z1 : SFrac) (z2 : (SFrac × Sway)) (z3 : (SFrac × Sway)) (z4 : (SFrac × Sway)) : List Ans := (nN 4 (.mod1 2 (VV.ag (c_SFrac z0.1)) ⟨true, bigH, [vi z0.2.failed]⟩ :: .n :: .call (VV.ag (c_SFrac z1)) :: nN 4 (.mod1 2 (VV.ag (c_SFrac z2.1)) ⟨true, bigH, [vi z2.2.failed]⟩ :: .mod1 2 (VV.ag (c_SFrac z3.1)) ⟨true, bigH, [vi z3.2.failed]⟩ :: .mod1 2 (VV.ag (c_SFrac z4.1)) ⟨true, bigH, [vi z4.2.failed]⟩ :: .n :: .n :: [])))
def arO1_6 (z0 : SFrac) (z1 : (SFrac × Sway)) (z2 : (SFrac × Sway)) : List Ans := (nN 4 (.call (VV.ag (c_SFrac z0)) :: .n :: .n :: .mod1 2 (VV.ag (c_SFrac z1.1)) ⟨true, bigH, [vi z1.2.failed]⟩ :: .mod1 2 (VV.ag (c_SFrac z2.1)) ⟨true, bigH, [vi z2.2.failed]⟩ :: .n :: .n :: []))
def arO1_7 (z0 : SFrac) (z1 : (Bool × Int)) : List Ans := (.n :: .call (VV.ag (c_SFrac z0)) :: nN 3 (.v VV.any :: .call (VV.tu [vb z1.1, vi z1.2]) :: nN 4 []))
def noptics_OnConic (k : Nat) (a0 : SConic) (a1 : SSpot) : Option (Bool × Int) :=
  (noptics_checkRayConic k a0).bind fun r587 => ((noptics_checkFracs k ([a1.R, a1.Z] : List SFrac)).bind fun r589 => ((noptics_firstError k ([r587, r589] : List Int)).bind fun r592 => (if r592 = 0 then ((n_optics_way_times k (⟨0⟩ : Sway) a1.R a1.R).bind fun r597 => ((noptics_onePlusK k a0).bind fun r600 => ((n_optics_way_times k r597.2 a1.Z a1.Z).bind fun r602 => ((n_optics_way_times k r602.2 r600 r602.1).bind fun r605 => ((n_optics_way_plus k r605.2 r597.1 r605.1).bind fun r608 => ((noptics_whole k (w64 (2 * a0.Radius))).bind fun r612 => ((n_optics_way_times k r608.2 r612 a1.Z).bind fun r615 => ((n_optics_way_minus k r615.2 r608.1 r615.1).bind fun r618 => ((noptics_whole k 0).bind fun r622 => ((noptics_beside_bool_ k ((r618.1.Num : Int) == r622.Num && ((r618.1.Den : Int) == r622.Den && true)) ([r618.2.failed] : List Int)).bind fun r625 => (some (r625.1, r625.2)))))))))))) else (some (false, r592)))))
theorem noptics_OnConic_ok (k : Nat) (a0 : SConic) (a1 : SSpot) (r : (Bool × Int)) (h : noptics_OnConic k a0 a1 = some r) : VC Go.Proofs.Try.prog 10 [VV.ag (c_SConic a0), VV.ag (c_SSpot a1)] (VV.tu [vb r.1, vi r.2]) := by
 unfold noptics_OnConic at h
 obtain ⟨r587, h588, h⟩ := bs h
 obtain ⟨r589, h590, h⟩ := bs h
 have e591 := (VC.args (noptics_checkFracs_ok k ([a1.R, a1.Z] : List SFrac) _ h590) (eqO1_1 a1))
 obtain ⟨r592, h593, h⟩ := bs h
 have e594 := (VC.args (noptics_firstError_ok k ([r587, r589] : List Int) _ h593) (eqO1_2 r587 r589))
 have e595 := (ti (an (noptics_checkRayConic_ok k a0 _ h588) (ti (ti (ti (ti (ti (an e591 (ti (an e594 (ti trivial)))))))))))
 rcases ifs h with ⟨h596, h⟩ | ⟨h596, h⟩
 ·obtain ⟨r597, h598, h⟩ := bs h
  have e599 := (an (VM.args (n_optics_way_times_ok k (⟨0⟩ : Sway) a1.R a1.R _ h598) rfl eqO1_11 rfl) (an (ti trivial) (ti trivial)))
  obtain ⟨r600, h601, h⟩ := bs h
  obtain ⟨r602, h603, h⟩ := bs h
  have e604 := (an (n_optics_way_times_ok k r597.2 a1.Z a1.Z _ h603) (an (ti trivial) (ti trivial)))
  obtain ⟨r605, h606, h⟩ := bs h
  have e607 := (an (n_optics_way_times_ok k r602.2 r600 r602.1 _ h606) (an (ti trivial) (ti trivial)))
  obtain ⟨r608, h609, h⟩ := bs h
  have e610 := (an (n_optics_way_plus_ok k r605.2 r597.1 r605.1 _ h609) (an (ti trivial) (ti trivial)))
  have e611 := (ti (ti (ti (ti (an e599 (ti (an (noptics_onePlusK_ok k a0 _ h601) (ti (ti (ti (ti (an e604 (an e607 (an e610 (ti (ti trivial))))))))))))))))
  obtain ⟨r612, h613, h⟩ := bs h
  have e614 := (noptics_whole_ok k (w64 (2 * a0.Radius)) _ h613)
  obtain ⟨r615, h616, h⟩ := bs h
  have e617 := (an (n_optics_way_times_ok k r608.2 r612 a1.Z _ h616) (an (ti trivial) (ti trivial)))
  obtain ⟨r618, h619, h⟩ := bs h
  have e620 := (an (n_optics_way_minus_ok k r615.2 r608.1 r615.1 _ h619) (an (ti trivial) (ti trivial)))
  have e621 := (ti (ti (ti (ti (an e614 (ti (ti (an e617 (an e620 (ti (ti trivial)))))))))))
  obtain ⟨r622, h623, h⟩ := bs h
  have e624 := (show List.map kdV [Value.int .i64 r618.1.Num, Value.int .i64 r618.1.Den] = List.map kdV [Value.int .i64 r622.Num, Value.int .i64 r622.Den] ∧ EqOK Go.Proofs.Try.prog 25 (List.map kdV [Value.int .i64 r622.Num, Value.int .i64 r622.Den]) from ⟨rfl, eqok25⟩)
  obtain ⟨r625, h626, h⟩ := bs h
  have e627 := (VC.args (noptics_beside_bool__ok k ((r618.1.Num : Int) == r622.Num && ((r618.1.Den : Int) == r622.Den && true)) ([r618.2.failed] : List Int) _ h626) (eqO1_14 r618 r622))
  have e628 := (ti (an (noptics_whole_ok k 0 _ h623) (an e624 (ti (ti (ti (an e627 (ti (ti (ti (ti trivial)))))))))))
  injection h with h; subst h
  exact fun_ok pm pn Go.Proofs.Try.func10 (r0 := VV.tu [vb r625.1, vi r625.2]) (ans := [.reg (nN 4 []), .reg (arO1_4 r587 r589 r592), .reg (.n :: .n :: []), .br false, .reg (.n :: []), .reg (arO1_5 r597 r600 r602 r605 r608), .reg (arO1_6 r612 r615 r618), .reg (arO1_7 r622 r625)]) (fr := true) (by kernel_rfl) (an (an (ti (ti (ti (ti trivial)))) (an (an e595 (an (ti (ti trivial)) (an (not_f (decide_eq_true h596)) trivial))) (an (ti trivial) (an e611 (an e621 (an e628 trivial)))))) (ti (ti trivial))) (Wv.refl _)
 ·injection h with h; subst h
  exact fun_ok pm pn Go.Proofs.Try.func10 (r0 := VV.tu [vb false, vi r592]) (ans := [.reg (nN 4 []), .reg (arO1_4 r587 r589 r592), .reg (.n :: .n :: []), .br true, .reg (nN 3 [])]) (fr := true) (by kernel_rfl) (an (an (ti (ti (ti (ti trivial)))) (an e595 (an (ti (ti trivial)) (an (not_t (decide_eq_false h596)) (an (ti (ti (ti trivial))) trivial))))) (ti (ti trivial))) (Wv.refl _)
def noptics_checkToward (k : Nat) (a0 : A47) : Option Int :=
  (noptics_isSized k a0.e0 1000).bind fun r649 => (if r649 = true then ((noptics_isSized k a0.e1 1000).bind fun r654 => (if r654 = true then (if ((a0.e0 : Int) == 0 && ((a0.e1 : Int) == 0 && true)) = true then (some 11) else (some 0)) else (some 2))) else (some 2))
theorem noptics_checkToward_ok (k : Nat) (a0 : A47) (r : Int) (h : noptics_checkToward k a0 = some r) : VC Go.Proofs.Try.prog 35 [VV.ag (c_A47 a0)] (vi r) := by
 unfold noptics_checkToward at h
 have e648 := (show (0:Int) ≤ 0 ∧ (0:Int) < ((2 : Nat) : Int) from ⟨by decide, by decide⟩)
 obtain ⟨r649, h650, h⟩ := bs h
 have e651 := (noptics_isSized_ok k a0.e0 1000 _ h650)
 rcases ifs h with ⟨h652, h⟩ | ⟨h652, h⟩
 ·have e653 := (an (not_f h652) (show (0:Int) ≤ 1 ∧ (1:Int) < ((2 : Nat) : Int) from ⟨by decide, by decide⟩))
  obtain ⟨r654, h655, h⟩ := bs h
  have e656 := (an (not_f h652) (noptics_isSized_ok k a0.e1 1000 _ h655))
  have e657 := (an e648 (ti (an e651 (ti (ti (an e653 (an (an (not_f h652) trivial) (an e656 (an (an (not_f h652) trivial) (an (not_f h652) trivial))))))))))
  rcases ifs h with ⟨h658, h⟩ | ⟨h658, h⟩
  ·have e659 := (show List.map kdV [Value.int .i64 a0.e0, Value.int .i64 a0.e1] = List.map kdV [Value.int .i64 0, Value.int .i64 0] ∧ EqOK Go.Proofs.Try.prog 47 (List.map kdV [Value.int .i64 0, Value.int .i64 0]) from ⟨rfl, eqok47⟩)
   rcases ifs h with ⟨h660, h⟩ | ⟨h660, h⟩
   ·injection h with h; subst h
    exact fun_ok pm pn Go.Proofs.Try.func35 (r0 := vi 11) (ans := [.reg (.n :: .n :: []), .reg (.n :: .n :: .call (vb r649) :: nN 4 (.call (vb r654) :: .n :: .b false :: [])), .br false, .reg (nN 3 []), .br true, .reg (.n :: [])]) (fr := true) (by kernel_rfl) (an (an (ti (ti trivial)) (an (an e657 (an (not_f h658) trivial)) (an (ti (ti (an e659 trivial))) (an h660 (an (ti trivial) trivial))))) (ti trivial)) (Wv.refl _)
   ·injection h with h; subst h
    exact fun_ok pm pn Go.Proofs.Try.func35 (r0 := vi 0) (ans := [.reg (.n :: .n :: []), .reg (.n :: .n :: .call (vb r649) :: nN 4 (.call (vb r654) :: .n :: .b false :: [])), .br false, .reg (nN 3 []), .br false, .reg (.n :: [])]) (fr := true) (by kernel_rfl) (an (an (ti (ti trivial)) (an (an e657 (an (not_f h658) trivial)) (an (an (ti (ti (an e659 trivial))) (an (bool_f h660) trivial)) (an (ti trivial) trivial)))) (ti trivial)) (Wv.refl _)
  ·injection h with h; subst h
   exact fun_ok pm pn Go.Proofs.Try.func35 (r0 := vi 2) (ans := [.reg (.n :: .n :: []), .reg (.n :: .n :: .call (vb r649) :: nN 4 (.call (vb r654) :: .n :: .b false :: [])), .br true, .reg (.n :: [])]) (fr := true) (by kernel_rfl) (an (an (ti (ti trivial)) (an e657 (an (not_t (bool_f h658)) (an (ti trivial) trivial)))) (ti trivial)) (Wv.refl _)
 ·have e661 := (an e648 (ti (an e651 (ti (ti (an (not_t (bool_f h652)) (an (not_t (bool_f h652)) (an (not_t (bool_f h652)) (an (not_t (bool_f h652)) (an (not_t (bool_f h652)) trivial))))))))))
  injection h with h; subst h
  exact fun_ok pm pn Go.Proofs.Try.func35 (r0 := vi 2) (ans := [.reg (.n :: .n :: []), .reg (.n :: .n :: .call (vb r649) :: .n :: .n :: nS 4 (.b true :: [])), .br true, .reg (.n :: [])]) (fr := true) (by kernel_rfl) (an (an (ti (ti trivial)) (an e661 (an rt (an (ti trivial) trivial)))) (ti trivial)) (Wv.refl _)
theorem eqO1_15 (z0 : Int) (z1 : Int) (z2 : Int) : [VV.tr (List.map vi ([z0, z1, z2] : List Int)) (([z0, z1, z2] : List Int).length)] = [VV.tr [vi z0, vi z1, vi z2] 3] := by first | rfl | (simp only [unfr_vi, List.map_cons, List.map_nil, un_i, un_tr, List.length_map, List.length_cons, List.length_nil]; done) | (simp only [unfr_vi, List.map_cons, List.map_nil, un_i, un_tr, List.length_map, List.length_cons, List.length_nil]; rfl) | (simp only [unfr_vi, List.map_cons, List.map_nil, un_i, un_tr, List.length_map, List.length_cons, List.length_nil, List.length_cons, List.length_nil, List.length_append]; done)
def arO1_8 (z0 : (SFrac × Sway)) (z1 : (SFrac × Sway)) (z2 : (SFrac × Sway)) : List Ans := (nN 4 (.mod1 0 (VV.ag (c_SFrac z0.1)) ⟨true, bigH, [vi z0.2.failed]⟩ :: nN 3 (.mod1 0 (VV.ag (c_SFrac z1.1)) ⟨true, bigH, [vi z1.2.failed]⟩ :: .mod1 0 (VV.ag (c_SFrac z2.1)) ⟨true, bigH, [vi z2.2.failed]⟩ :: .n :: [])))
def n_optics_way_products (k : Nat) (a0 : Sway) (a1 : SFrac) (a2 : SFrac) (a3 : SFrac) (a4 : SFrac) : Option (SFrac × Sway) :=
  (n_optics_way_times k a0 a1 a2).bind fun r705 => ((n_optics_way_times k r705.2 a3 a4).bind fun r708 => ((n_optics_way_plus k r708.2 r705.1 r708.1).bind fun r711 => (some (r711.1, r711.2))))
theorem n_optics_way_products_ok (k : Nat) (a0 : Sway) (a1 : SFrac) (a2 : SFrac) (a3 : SFrac) (a4 : SFrac) (r : (SFrac × Sway)) (h : n_optics_way_products k a0 a1 a2 a3 a4 = some r) : VM Go.Proofs.Try.prog 62 [VV.pt 0 0, VV.ag (c_SFrac a1), VV.ag (c_SFrac a2), VV.ag (c_SFrac a3), VV.ag (c_SFrac a4)] [⟨true, bigH, [vi a0.failed]⟩] (VV.ag (c_SFrac r.1)) [⟨true, bigH, [vi r.2.failed]⟩] := by
 unfold n_optics_way_products at h
 obtain ⟨r705, h706, h⟩ := bs h
 have e707 := (an (n_optics_way_times_ok k a0 a1 a2 _ h706) (an (ti trivial) (ti trivial)))
 obtain ⟨r708, h709, h⟩ := bs h
 have e710 := (an (n_optics_way_times_ok k r705.2 a3 a4 _ h709) (an (ti trivial) (ti trivial)))
 obtain ⟨r711, h712, h⟩ := bs h
 have e713 := (an (n_optics_way_plus_ok k r708.2 r705.1 r708.1 _ h712) (an (ti trivial) (ti trivial)))
 have e714 := (ti (ti (ti (ti (an e707 (ti (ti (ti (an e710 (an e713 (ti trivial)))))))))))
 injection h with h; subst h
 exact fun_okM pm pn Go.Proofs.Try.func62 (L := [⟨true, bigH, [vi a0.failed]⟩]) (r0 := VV.ag (c_SFrac r711.1)) (ans := [.reg (nN 5 []), .reg (arO1_8 r705 r708 r711)]) (fr := true) (by kernel_rfl) (an (an (ti (ti (ti (ti (ti trivial))))) (an e714 trivial)) (an (an (ti (ti (ti trivial))) trivial) (an (an (ti trivial) trivial) (show okStill [⟨true, bigH, [vi a0.failed]⟩] from ⟨(fun h => nomatch h), trivial⟩)))) (Wv.refl _) rfl
theorem eqO1_16  : VV.tu [VV.ag [vi 0, vi 0], vi 11] = VV.tu [VV.ag (c_SFrac (⟨0, 0⟩ : SFrac)), vi 11] := by first | rfl | (simp only [unfr_vi, List.map_cons, List.map_nil, un_i, unfr_c_SFrac]; done) | (simp only [unfr_vi, List.map_cons, List.map_nil, un_i, unfr_c_SFrac]; rfl) | (simp only [unfr_vi, List.map_cons, List.map_nil, un_i, unfr_c_SFrac, c_SFrac, List.length_cons, List.length_nil, List.length_append]; done)
def nnumber_Quo (k : Nat) (a0 : SFrac) (a1 : SFrac) : Option (SFrac × Int) :=
  (nnumber_checkFracs k ([a0, a1] : List SFrac)).bind fun r741 => (if r741 = 0 then (if a1.Num = 0 then (some ((⟨0, 0⟩ : SFrac), 11)) else ((nnumber_lowest k (w64 (a0.Num * a1.Den)) (w64 (a0.Den * a1.Num))).bind fun r746 => (some (r746.1, r746.2)))) else (some ((⟨0, 0⟩ : SFrac), r741)))
theorem nnumber_Quo_ok (k : Nat) (a0 : SFrac) (a1 : SFrac) (r : (SFrac × Int)) (h : nnumber_Quo k a0 a1 = some r) : VC Go.Proofs.Try.prog 60 [VV.ag (c_SFrac a0), VV.ag (c_SFrac a1)] (VV.tu [VV.ag (c_SFrac r.1), vi r.2]) := by
 unfold nnumber_Quo at h
 obtain ⟨r741, h742, h⟩ := bs h
 have e743 := (VC.args (nnumber_checkFracs_ok k ([a0, a1] : List SFrac) _ h742) (eqO1_3 a0 a1))
 rcases ifs h with ⟨h744, h⟩ | ⟨h744, h⟩
 ·rcases ifs h with ⟨h745, h⟩ | ⟨h745, h⟩
  ·injection h with h; subst h
   exact fun_ok pm pn Go.Proofs.Try.func60 (r0 := VV.tu [VV.ag [vi 0, vi 0], vi 11]) (ans := [.reg (nN 4 []), .reg (.n :: .n :: .v VV.any :: .call (vi r741) :: .n :: []), .reg (.n :: .n :: []), .br false, .reg (nN 3 []), .br true, .reg (nN 3 [])]) (fr := true) (by kernel_rfl) (an (an (ti (ti (ti (ti trivial)))) (an (an (ti (ti (ti (an e743 (ti trivial))))) (an (ti (ti trivial)) (an (not_f (decide_eq_true h744)) trivial))) (an (ti (ti (ti trivial))) (an (decide_eq_true h745) (an (ti (ti (ti trivial))) trivial))))) (an (ti (ti (ti trivial))) (ti trivial))) (Wv.of_eq eqO1_16)
  ·obtain ⟨r746, h747, h⟩ := bs h
   have e748 := (nnumber_lowest_ok k (w64 (a0.Num * a1.Den)) (w64 (a0.Den * a1.Num)) _ h747)
   have e749 := (ti (ti (ti (ti (ti (ti (ti (ti (ti (ti (an e748 (ti (ti (ti (ti trivial)))))))))))))))
   injection h with h; subst h
   exact fun_ok pm pn Go.Proofs.Try.func60 (r0 := VV.tu [VV.ag (c_SFrac r746.1), vi r746.2]) (ans := [.reg (nN 4 []), .reg (.n :: .n :: .v VV.any :: .call (vi r741) :: .n :: []), .reg (.n :: .n :: []), .br false, .reg (nN 3 []), .br false, .reg (nN 10 (.call (VV.tu [VV.ag (c_SFrac r746.1), vi r746.2]) :: nN 4 []))]) (fr := true) (by kernel_rfl) (an (an (ti (ti (ti (ti trivial)))) (an (an (ti (ti (ti (an e743 (ti trivial))))) (an (ti (ti trivial)) (an (not_f (decide_eq_true h744)) trivial))) (an (an (ti (ti (ti trivial))) (an (decide_eq_false h745) trivial)) (an e749 trivial)))) (an (ti (ti (ti trivial))) (ti trivial))) (Wv.refl _)
 ·injection h with h; subst h
  exact fun_ok pm pn Go.Proofs.Try.func60 (r0 := VV.tu [VV.ag [vi 0, vi 0], vi r741]) (ans := [.reg (nN 4 []), .reg (.n :: .n :: .v VV.any :: .call (vi r741) :: .n :: []), .reg (.n :: .n :: []), .br true, .reg (nN 4 [])]) (fr := true) (by kernel_rfl) (an (an (ti (ti (ti (ti trivial)))) (an (ti (ti (ti (an e743 (ti trivial))))) (an (ti (ti trivial)) (an (not_t (decide_eq_false h744)) (an (ti (ti (ti (ti trivial)))) trivial))))) (an (ti (ti (ti trivial))) (ti trivial))) (Wv.of_eq (eqO1_9 r741))
def n_optics_way_step_c1_number_Quo (k : Nat) (a0 : Sway) (a1 : Unit) (a2 : SFrac) (a3 : SFrac) : Option (SFrac × Sway) :=
  if a0.failed = 0 then ((nnumber_Quo k a2 a3).bind fun r754 => (some (r754.1, (⟨r754.2⟩ : Sway)))) else (some ((⟨0, 0⟩ : SFrac), a0))
theorem n_optics_way_step_c1_number_Quo_ok (k : Nat) (a0 : Sway) (a1 : Unit) (a2 : SFrac) (a3 : SFrac) (r : (SFrac × Sway)) (h : n_optics_way_step_c1_number_Quo k a0 a1 a2 a3 = some r) : VM Go.Proofs.Try.prog 54 [VV.pt 0 0, VV.fn 60 [], VV.ag (c_SFrac a2), VV.ag (c_SFrac a3)] [⟨true, bigH, [vi a0.failed]⟩] (VV.ag (c_SFrac r.1)) [⟨true, bigH, [vi r.2.failed]⟩] := by
 unfold n_optics_way_step_c1_number_Quo at h
 rcases ifs h with ⟨h753, h⟩ | ⟨h753, h⟩
 ·obtain ⟨r754, h755, h⟩ := bs h
  have e756 := (ti (ti (ti (an (nnumber_Quo_ok k a2 a3 _ h755) (ti (ti (ti (ti (ti (ti trivial))))))))))
  injection h with h; subst h
  exact fun_okM pm pn Go.Proofs.Try.func54 (L := [⟨true, bigH, [vi a0.failed]⟩]) (r0 := VV.ag (c_SFrac r754.1)) (ans := [.reg (nN 3 []), .reg (nN 5 []), .br false, .reg (nN 3 (.call (VV.tu [VV.ag (c_SFrac r754.1), vi r754.2]) :: nN 6 [])), .reg (nN 5 []), .reg (.n :: .n :: [])]) (fr := true) (by kernel_rfl) (an (an (ti (ti (ti trivial))) (an (an (ti (ti (ti (ti (ti trivial))))) (an (not_f (decide_eq_true h753)) trivial)) (an e756 (an (ti (ti (ti (ti (ti trivial))))) (an (ti (ti trivial)) trivial))))) (an (an (ti (ti (ti trivial))) trivial) (an (an (ti trivial) trivial) (show okStill [⟨true, bigH, [vi a0.failed]⟩] from ⟨(fun h => nomatch h), trivial⟩)))) (Wv.refl _) rfl
 ·injection h with h; subst h
  exact fun_okM pm pn Go.Proofs.Try.func54 (L := [⟨true, bigH, [vi a0.failed]⟩]) (r0 := VV.ag [vi 0, vi 0]) (ans := [.reg (nN 3 []), .reg (nN 5 []), .br true, .reg (.n :: .n :: [])]) (fr := true) (by kernel_rfl) (an (an (ti (ti (ti trivial))) (an (ti (ti (ti (ti (ti trivial))))) (an (not_t (decide_eq_false h753)) (an (ti (ti trivial)) trivial)))) (an (an (ti (ti (ti trivial))) trivial) (an (an (ti trivial) trivial) (show okStill [⟨true, bigH, [vi a0.failed]⟩] from ⟨(fun h => nomatch h), trivial⟩)))) (Wv.of_eq eqO1_10) rfl
def n_optics_way_over (k : Nat) (a0 : Sway) (a1 : SFrac) (a2 : SFrac) : Option (SFrac × Sway) :=
  (n_optics_way_step_c1_number_Quo k a0 () a1 a2).bind fun r760 => (some (r760.1, r760.2))
theorem n_optics_way_over_ok (k : Nat) (a0 : Sway) (a1 : SFrac) (a2 : SFrac) (r : (SFrac × Sway)) (h : n_optics_way_over k a0 a1 a2 = some r) : VM Go.Proofs.Try.prog 32 [VV.pt 0 0, VV.ag (c_SFrac a1), VV.ag (c_SFrac a2)] [⟨true, bigH, [vi a0.failed]⟩] (VV.ag (c_SFrac r.1)) [⟨true, bigH, [vi r.2.failed]⟩] := by
 unfold n_optics_way_over at h
 obtain ⟨r760, h761, h⟩ := bs h
 have e762 := (an (n_optics_way_step_c1_number_Quo_ok k a0 () a1 a2 _ h761) (an (ti trivial) (ti trivial)))
 injection h with h; subst h
 exact fun_okM pm pn Go.Proofs.Try.func32 (L := [⟨true, bigH, [vi a0.failed]⟩]) (r0 := VV.ag (c_SFrac r760.1)) (ans := [.reg (nN 3 []), .reg (nN 3 (.mod1 0 (VV.ag (c_SFrac r760.1)) ⟨true, bigH, [vi r760.2.failed]⟩ :: .n :: []))]) (fr := true) (by kernel_rfl) (an (an (ti (ti (ti trivial))) (an (ti (ti (ti (an e762 (ti trivial))))) trivial)) (an (an (ti (ti (ti trivial))) trivial) (an (an (ti trivial) trivial) (show okStill [⟨true, bigH, [vi a0.failed]⟩] from ⟨(fun h => nomatch h), trivial⟩)))) (Wv.refl _) rfl
def arO1_9 (z0 : (SFrac × Sway)) (z1 : SFrac) (z2 : (SFrac × Sway)) : List Ans := (nN 10 (.mod1 0 (VV.ag (c_SFrac z0.1)) ⟨true, bigH, [vi z0.2.failed]⟩ :: .call (VV.ag (c_SFrac z1)) :: .mod1 0 (VV.ag (c_SFrac z2.1)) ⟨true, bigH, [vi z2.2.failed]⟩ :: .n :: .n :: []))
def arO1_10 (z0 : (SFrac × Sway)) (z1 : (SFrac × Sway)) : List Ans := (nN 11 (.mod1 0 (VV.ag (c_SFrac z0.1)) ⟨true, bigH, [vi z0.2.failed]⟩ :: .mod1 0 (VV.ag (c_SFrac z1.1)) ⟨true, bigH, [vi z1.2.failed]⟩ :: .n :: .n :: []))
def arO1_11 (z0 : (SFrac × Sway)) (z1 : (SFrac × Sway)) (z2 : (SFrac × Sway)) (z3 : (SFrac × Sway)) : List Ans := (nN 7 (.mod1 0 (VV.ag (c_SFrac z0.1)) ⟨true, bigH, [vi z0.2.failed]⟩ :: .mod1 0 (VV.ag (c_SFrac z1.1)) ⟨true, bigH, [vi z1.2.failed]⟩ :: nN 7 (.mod1 0 (VV.ag (c_SFrac z2.1)) ⟨true, bigH, [vi z2.2.failed]⟩ :: .mod1 0 (VV.ag (c_SFrac z3.1)) ⟨true, bigH, [vi z3.2.failed]⟩ :: .n :: .n :: [])))
theorem eqO1_17 (z0 : (SFrac × Sway)) (z1 : (SFrac × Sway)) : VV.ag [vi z0.1.Num, vi z0.1.Den, vi z1.1.Num, vi z1.1.Den] = VV.ag [vi (((⟨z0.1, z1.1⟩ : A44).e0).Num), vi (((⟨z0.1, z1.1⟩ : A44).e0).Den), vi (((⟨z0.1, z1.1⟩ : A44).e1).Num), vi (((⟨z0.1, z1.1⟩ : A44).e1).Den)] := by first | rfl | (simp only [unfr_vi, List.map_cons, List.map_nil, un_i]; done) | (simp only [unfr_vi, List.map_cons, List.map_nil, un_i]; rfl) | (simp only [unfr_vi, List.map_cons, List.map_nil, un_i, List.length_cons, List.length_nil, List.length_append]; done)
def n_optics_way_mirrored (k : Nat) (a0 : Sway) (a1 : A44) (a2 : A44) : Option (A44 × Sway) :=
  (n_optics_way_products k a0 a1.e0 a2.e0 a1.e1 a2.e1).bind fun r788 => ((noptics_whole k 2).bind fun r791 => ((n_optics_way_times k r788.2 r788.1 r791).bind fun r793 => ((n_optics_way_products k r793.2 a2.e0 a2.e0 a2.e1 a2.e1).bind fun r801 => ((n_optics_way_over k r801.2 r793.1 r801.1).bind fun r804 => ((n_optics_way_times k r804.2 r804.1 a2.e0).bind fun r810 => ((n_optics_way_minus k r810.2 a1.e0 r810.1).bind fun r813 => ((n_optics_way_times k r813.2 r804.1 a2.e1).bind fun r818 => ((n_optics_way_minus k r818.2 a1.e1 r818.1).bind fun r821 => (some ((⟨r813.1, r821.1⟩ : A44), r821.2))))))))))
theorem n_optics_way_mirrored_ok (k : Nat) (a0 : Sway) (a1 : A44) (a2 : A44) (r : (A44 × Sway)) (h : n_optics_way_mirrored k a0 a1 a2 = some r) : VM Go.Proofs.Try.prog 36 [VV.pt 0 0, VV.ag (c_A44 a1), VV.ag (c_A44 a2)] [⟨true, bigH, [vi a0.failed]⟩] (VV.ag (c_A44 r.1)) [⟨true, bigH, [vi r.2.failed]⟩] := by
 unfold n_optics_way_mirrored at h
 have e784 := (show (0:Int) ≤ 0 ∧ (0:Int) < ((2 : Nat) : Int) from ⟨by decide, by decide⟩)
 have e785 := (show (0:Int) ≤ 0 ∧ (0:Int) < ((2 : Nat) : Int) from ⟨by decide, by decide⟩)
 have e786 := (show (0:Int) ≤ 1 ∧ (1:Int) < ((2 : Nat) : Int) from ⟨by decide, by decide⟩)
 have e787 := (show (0:Int) ≤ 1 ∧ (1:Int) < ((2 : Nat) : Int) from ⟨by decide, by decide⟩)
 obtain ⟨r788, h789, h⟩ := bs h
 have e790 := (an (n_optics_way_products_ok k a0 a1.e0 a2.e0 a1.e1 a2.e1 _ h789) (an (ti trivial) (ti trivial)))
 obtain ⟨r791, h792, h⟩ := bs h
 obtain ⟨r793, h794, h⟩ := bs h
 have e795 := (an (n_optics_way_times_ok k r788.2 r788.1 r791 _ h794) (an (ti trivial) (ti trivial)))
 have e796 := (ti (ti (an e784 (ti (an e785 (ti (an e786 (ti (an e787 (ti (an e790 (an (noptics_whole_ok k 2 _ h792) (an e795 (ti (ti trivial)))))))))))))))
 have e797 := (show (0:Int) ≤ 0 ∧ (0:Int) < ((2 : Nat) : Int) from ⟨by decide, by decide⟩)
 have e798 := (show (0:Int) ≤ 0 ∧ (0:Int) < ((2 : Nat) : Int) from ⟨by decide, by decide⟩)
 have e799 := (show (0:Int) ≤ 1 ∧ (1:Int) < ((2 : Nat) : Int) from ⟨by decide, by decide⟩)
 have e800 := (show (0:Int) ≤ 1 ∧ (1:Int) < ((2 : Nat) : Int) from ⟨by decide, by decide⟩)
 obtain ⟨r801, h802, h⟩ := bs h
 have e803 := (an (n_optics_way_products_ok k r793.2 a2.e0 a2.e0 a2.e1 a2.e1 _ h802) (an (ti trivial) (ti trivial)))
 obtain ⟨r804, h805, h⟩ := bs h
 have e806 := (an (n_optics_way_over_ok k r801.2 r793.1 r801.1 _ h805) (an (ti trivial) (ti trivial)))
 have e807 := (ti (ti (ti (an e797 (ti (an e798 (ti (an e799 (ti (an e800 (ti (an e803 (an e806 (ti (ti trivial)))))))))))))))
 have e808 := (show (0:Int) ≤ 0 ∧ (0:Int) < ((2 : Nat) : Int) from ⟨by decide, by decide⟩)
 have e809 := (show (0:Int) ≤ 0 ∧ (0:Int) < ((2 : Nat) : Int) from ⟨by decide, by decide⟩)
 obtain ⟨r810, h811, h⟩ := bs h
 have e812 := (an (n_optics_way_times_ok k r804.2 r804.1 a2.e0 _ h811) (an (ti trivial) (ti trivial)))
 obtain ⟨r813, h814, h⟩ := bs h
 have e815 := (an (n_optics_way_minus_ok k r810.2 a1.e0 r810.1 _ h814) (an (ti trivial) (ti trivial)))
 have e816 := (show (0:Int) ≤ 1 ∧ (1:Int) < ((2 : Nat) : Int) from ⟨by decide, by decide⟩)
 have e817 := (show (0:Int) ≤ 1 ∧ (1:Int) < ((2 : Nat) : Int) from ⟨by decide, by decide⟩)
 obtain ⟨r818, h819, h⟩ := bs h
 have e820 := (an (n_optics_way_times_ok k r813.2 r804.1 a2.e1 _ h819) (an (ti trivial) (ti trivial)))
 obtain ⟨r821, h822, h⟩ := bs h
 have e823 := (an (n_optics_way_minus_ok k r818.2 a1.e1 r818.1 _ h822) (an (ti trivial) (ti trivial)))
 have e824 := (ti (an e808 (ti (ti (ti (an e809 (ti (an e812 (an e815 (ti (an e816 (ti (ti (ti (an e817 (ti (an e820 (an e823 (ti (ti trivial))))))))))))))))))))
 injection h with h; subst h
 exact fun_okM pm pn Go.Proofs.Try.func36 (L := [⟨true, bigH, [vi a0.failed]⟩]) (r0 := VV.ag [vi r813.1.Num, vi r813.1.Den, vi r821.1.Num, vi r821.1.Den]) (ans := [.reg (nN 3 []), .reg (arO1_9 r788 r791 r793), .reg (arO1_10 r801 r804), .reg (arO1_11 r810 r813 r818 r821)]) (fr := true) (by kernel_rfl) (an (an (ti (ti (ti trivial))) (an e796 (an e807 (an e824 trivial)))) (an (an (ti (ti (ti (ti (ti trivial))))) trivial) (an (an (ti trivial) trivial) (show okStill [⟨true, bigH, [vi a0.failed]⟩] from ⟨(fun h => nomatch h), trivial⟩)))) (Wv.of_eq (eqO1_17 r813 r821)) rfl
theorem eqO1_18 (z0 : SFrac) (z1 : SFrac) (z2 : SSpot) (z3 : (SFrac × Sway)) : [VV.pt 0 0, VV.ag [vi (((⟨z0, z1⟩ : A44).e0).Num), vi (((⟨z0, z1⟩ : A44).e0).Den), vi (((⟨z0, z1⟩ : A44).e1).Num), vi (((⟨z0, z1⟩ : A44).e1).Den)], VV.ag [vi (((⟨z2.R, z3.1⟩ : A44).e0).Num), vi (((⟨z2.R, z3.1⟩ : A44).e0).Den), vi (((⟨z2.R, z3.1⟩ : A44).e1).Num), vi (((⟨z2.R, z3.1⟩ : A44).e1).Den)]] = [VV.pt 0 0, VV.ag [vi z0.Num, vi z0.Den, vi z1.Num, vi z1.Den], VV.ag [vi z2.R.Num, vi z2.R.Den, vi z3.1.Num, vi z3.1.Den]] := by first | rfl | (simp only [unfr_vi, List.map_cons, List.map_nil, un_i]; done) | (simp only [unfr_vi, List.map_cons, List.map_nil, un_i]; rfl) | (simp only [unfr_vi, List.map_cons, List.map_nil, un_i, List.length_cons, List.length_nil, List.length_append]; done)
theorem eqO1_19 (z0 : Int) : VV.tu [VV.ag [vi 0, vi 0, vi 0, vi 0], vi z0] = VV.tu [VV.ag [vi (((⟨(⟨0, 0⟩ : SFrac), (⟨0, 0⟩ : SFrac)⟩ : A44).e0).Num), vi (((⟨(⟨0, 0⟩ : SFrac), (⟨0, 0⟩ : SFrac)⟩ : A44).e0).Den), vi (((⟨(⟨0, 0⟩ : SFrac), (⟨0, 0⟩ : SFrac)⟩ : A44).e1).Num), vi (((⟨(⟨0, 0⟩ : SFrac), (⟨0, 0⟩ : SFrac)⟩ : A44).e1).Den)], vi z0] := by first | rfl | (simp only [unfr_vi, List.map_cons, List.map_nil, un_i]; done) | (simp only [unfr_vi, List.map_cons, List.map_nil, un_i]; rfl) | (simp only [unfr_vi, List.map_cons, List.map_nil, un_i, List.length_cons, List.length_nil, List.length_append]; done)
def noptics_beside_2_api_Frac_ (k : Nat) (a0 : A44) (a1 : (List Int)) : Option (A44 × Int) :=
  (noptics_firstError k a1).bind fun r833 => (if r833 = 0 then (some (a0, 0)) else (some ((⟨(⟨0, 0⟩ : SFrac), (⟨0, 0⟩ : SFrac)⟩ : A44), r833)))
theorem noptics_beside_2_api_Frac__ok (k : Nat) (a0 : A44) (a1 : (List Int)) (r : (A44 × Int)) (h : noptics_beside_2_api_Frac_ k a0 a1 = some r) : VC Go.Proofs.Try.prog 37 [VV.ag (c_A44 a0), VV.tr (List.map vi a1) a1.length] (VV.tu [VV.ag (c_A44 r.1), vi r.2]) := by
 unfold noptics_beside_2_api_Frac_ at h
 obtain ⟨r833, h834, h⟩ := bs h
 have e835 := (ti (an (noptics_firstError_ok k a1 _ h834) (ti trivial)))
 rcases ifs h with ⟨h836, h⟩ | ⟨h836, h⟩
 ·injection h with h; subst h
  exact fun_ok pm pn Go.Proofs.Try.func37 (r0 := VV.tu [VV.ag (c_A44 a0), vi 0]) (ans := [.reg (nN 3 []), .reg (.n :: .call (vi r833) :: .n :: []), .reg (.n :: .n :: []), .br false, .reg (nN 3 [])]) (fr := true) (by kernel_rfl) (an (an (ti (ti (ti trivial))) (an (an e835 (an (ti (ti trivial)) (an (not_f (decide_eq_true h836)) trivial))) (an (ti (ti (ti trivial))) trivial))) (an (ti (ti (ti (ti (ti trivial))))) (ti trivial))) (Wv.refl _)
 ·injection h with h; subst h
  exact fun_ok pm pn Go.Proofs.Try.func37 (r0 := VV.tu [VV.ag [vi 0, vi 0, vi 0, vi 0], vi r833]) (ans := [.reg (nN 3 []), .reg (.n :: .call (vi r833) :: .n :: []), .reg (.n :: .n :: []), .br true, .reg (.n :: []), .reg (nN 4 [])]) (fr := true) (by kernel_rfl) (an (an (ti (ti (ti trivial))) (an e835 (an (ti (ti trivial)) (an (not_t (decide_eq_false h836)) (an (ti trivial) (an (ti (ti (ti (ti trivial)))) trivial)))))) (an (ti (ti (ti (ti (ti trivial))))) (ti trivial))) (Wv.of_eq (eqO1_19 r833))
theorem eqO1_20 (z0 : (A44 × Sway)) : [VV.ag (c_A44 z0.1), VV.tr (List.map vi ([z0.2.failed] : List Int)) (([z0.2.failed] : List Int).length)] = [VV.ag (c_A44 z0.1), VV.tr [vi z0.2.failed] 1] := by first | rfl | (simp only [unfr_vi, List.map_cons, List.map_nil, un_i, un_tr, List.length_map, List.length_cons, List.length_nil, unfr_c_A44]; done) | (simp only [unfr_vi, List.map_cons, List.map_nil, un_i, un_tr, List.length_map, List.length_cons, List.length_nil, unfr_c_A44]; rfl) | (simp only [unfr_vi, List.map_cons, List.map_nil, un_i, un_tr, List.length_map, List.length_cons, List.length_nil, unfr_c_A44, List.length_cons, List.length_nil, List.length_append]; done)
def arO1_12 (z0 : Int) (z1 : Int) (z2 : Int) (z3 : Int) : List Ans := (.n :: .call (vi z0) :: nN 4 (.v VV.any :: .call (vi z1) :: .n :: .call (vi z2) :: .v VV.any :: .call (vi z3) :: .n :: []))
def arO1_13 (z0 : SFrac) (z1 : (SFrac × Sway)) (z2 : SFrac) (z3 : (SFrac × Sway)) : List Ans := (nN 3 (.call (VV.ag (c_SFrac z0)) :: .n :: .n :: .mod1 4 (VV.ag (c_SFrac z1.1)) ⟨true, bigH, [vi z1.2.failed]⟩ :: .n :: .n :: .call (VV.ag (c_SFrac z2)) :: .mod1 4 (VV.ag (c_SFrac z3.1)) ⟨true, bigH, [vi z3.2.failed]⟩ :: nN 3 []))
def arO1_14 (z0 : SFrac) (z1 : SFrac) (z2 : (A44 × Sway)) : List Ans := (.n :: .n :: .call (VV.ag (c_SFrac z0)) :: .n :: .n :: .call (VV.ag (c_SFrac z1)) :: .n :: .n :: .mod1 4 (VV.ag (c_A44 z2.1)) ⟨true, bigH, [vi z2.2.failed]⟩ :: .n :: .n :: [])
theorem eqO1_21  : VV.tu [VV.ag [vi 0, vi 0, vi 0, vi 0], vi 24] = VV.tu [VV.ag [vi (((⟨(⟨0, 0⟩ : SFrac), (⟨0, 0⟩ : SFrac)⟩ : A44).e0).Num), vi (((⟨(⟨0, 0⟩ : SFrac), (⟨0, 0⟩ : SFrac)⟩ : A44).e0).Den), vi (((⟨(⟨0, 0⟩ : SFrac), (⟨0, 0⟩ : SFrac)⟩ : A44).e1).Num), vi (((⟨(⟨0, 0⟩ : SFrac), (⟨0, 0⟩ : SFrac)⟩ : A44).e1).Den)], vi 24] := by first | rfl | (simp only [unfr_vi, List.map_cons, List.map_nil, un_i]; done) | (simp only [unfr_vi, List.map_cons, List.map_nil, un_i]; rfl) | (simp only [unfr_vi, List.map_cons, List.map_nil, un_i, List.length_cons, List.length_nil, List.length_append]; done)
theorem eqO1_22 (z0 : (Bool × Int)) : VV.tu [VV.ag [vi 0, vi 0, vi 0, vi 0], vi z0.2] = VV.tu [VV.ag [vi (((⟨(⟨0, 0⟩ : SFrac), (⟨0, 0⟩ : SFrac)⟩ : A44).e0).Num), vi (((⟨(⟨0, 0⟩ : SFrac), (⟨0, 0⟩ : SFrac)⟩ : A44).e0).Den), vi (((⟨(⟨0, 0⟩ : SFrac), (⟨0, 0⟩ : SFrac)⟩ : A44).e1).Num), vi (((⟨(⟨0, 0⟩ : SFrac), (⟨0, 0⟩ : SFrac)⟩ : A44).e1).Den)], vi z0.2] := by first | rfl | (simp only [unfr_vi, List.map_cons, List.map_nil, un_i]; done) | (simp only [unfr_vi, List.map_cons, List.map_nil, un_i]; rfl) | (simp only [unfr_vi, List.map_cons, List.map_nil, un_i, List.length_cons, List.length_nil, List.length_append]; done)
def noptics_Reflect (k : Nat) (a0 : SConic) (a1 : SSpot) (a2 : A47) : Option (A44 × Int) :=
  (noptics_checkRayConic k a0).bind fun r841 => ((noptics_checkFracs k ([a1.R, a1.Z] : List SFrac)).bind fun r843 => ((noptics_checkToward k a2).bind fun r846 => ((noptics_firstError k ([r841, r843, r846] : List Int)).bind fun r848 => (if r848 = 0 then ((noptics_OnConic k a0 a1).bind fun r853 => (if r853.2 = 0 then (if r853.1 = true then ((noptics_onePlusK k a0).bind fun r858 => ((n_optics_way_times k (⟨0⟩ : Sway) r858 a1.Z).bind fun r860 => ((noptics_whole k a0.Radius).bind fun r863 => ((n_optics_way_minus k r860.2 r860.1 r863).bind fun r865 => ((noptics_whole k a2.e0).bind fun r870 => ((noptics_whole k a2.e1).bind fun r873 => ((n_optics_way_mirrored k r865.2 (⟨r870, r873⟩ : A44) (⟨a1.R, r865.1⟩ : A44)).bind fun r875 => ((noptics_beside_2_api_Frac_ k r875.1 ([r875.2.failed] : List Int)).bind fun r879 => (some (r879.1, r879.2)))))))))) else (some ((⟨(⟨0, 0⟩ : SFrac), (⟨0, 0⟩ : SFrac)⟩ : A44), 24))) else (some ((⟨(⟨0, 0⟩ : SFrac), (⟨0, 0⟩ : SFrac)⟩ : A44), r853.2)))) else (some ((⟨(⟨0, 0⟩ : SFrac), (⟨0, 0⟩ : SFrac)⟩ : A44), r848))))))
theorem noptics_Reflect_ok (k : Nat) (a0 : SConic) (a1 : SSpot) (a2 : A47) (r : (A44 × Int)) (h : noptics_Reflect k a0 a1 a2 = some r) : VC Go.Proofs.Try.prog 13 [VV.ag (c_SConic a0), VV.ag (c_SSpot a1), VV.ag (c_A47 a2)] (VV.tu [VV.ag (c_A44 r.1), vi r.2]) := by
 unfold noptics_Reflect at h
 obtain ⟨r841, h842, h⟩ := bs h
 obtain ⟨r843, h844, h⟩ := bs h
 have e845 := (VC.args (noptics_checkFracs_ok k ([a1.R, a1.Z] : List SFrac) _ h844) (eqO1_1 a1))
 obtain ⟨r846, h847, h⟩ := bs h
 obtain ⟨r848, h849, h⟩ := bs h
 have e850 := (VC.args (noptics_firstError_ok k ([r841, r843, r846] : List Int) _ h849) (eqO1_15 r841 r843 r846))
 have e851 := (ti (an (noptics_checkRayConic_ok k a0 _ h842) (ti (ti (ti (ti (ti (an e845 (ti (an (noptics_checkToward_ok k a2 _ h847) (ti (an e850 (ti trivial)))))))))))))
 rcases ifs h with ⟨h852, h⟩ | ⟨h852, h⟩
 ·obtain ⟨r853, h854, h⟩ := bs h
  have e855 := (ti (ti (an (noptics_OnConic_ok k a0 a1 _ h854) (ti (ti (ti (ti (ti trivial))))))))
  rcases ifs h with ⟨h856, h⟩ | ⟨h856, h⟩
  ·rcases ifs h with ⟨h857, h⟩ | ⟨h857, h⟩
   ·obtain ⟨r858, h859, h⟩ := bs h
    obtain ⟨r860, h861, h⟩ := bs h
    have e862 := (an (VM.args (n_optics_way_times_ok k (⟨0⟩ : Sway) r858 a1.Z _ h861) rfl eqO1_11 rfl) (an (ti trivial) (ti trivial)))
    obtain ⟨r863, h864, h⟩ := bs h
    obtain ⟨r865, h866, h⟩ := bs h
    have e867 := (an (n_optics_way_minus_ok k r860.2 r860.1 r863 _ h866) (an (ti trivial) (ti trivial)))
    have e868 := (ti (ti (ti (an (noptics_onePlusK_ok k a0 _ h859) (ti (ti (an e862 (ti (ti (an (noptics_whole_ok k a0.Radius _ h864) (an e867 (ti (ti (ti trivial))))))))))))))
    have e869 := (show (0:Int) ≤ 0 ∧ (0:Int) < ((2 : Nat) : Int) from ⟨by decide, by decide⟩)
    obtain ⟨r870, h871, h⟩ := bs h
    have e872 := (show (0:Int) ≤ 1 ∧ (1:Int) < ((2 : Nat) : Int) from ⟨by decide, by decide⟩)
    obtain ⟨r873, h874, h⟩ := bs h
    obtain ⟨r875, h876, h⟩ := bs h
    have e877 := (an (VM.args (n_optics_way_mirrored_ok k r865.2 (⟨r870, r873⟩ : A44) (⟨a1.R, r865.1⟩ : A44) _ h876) (eqO1_18 r870 r873 a1 r865) rfl rfl) (an (ti trivial) (ti trivial)))
    have e878 := (an e869 (ti (an (noptics_whole_ok k a2.e0 _ h871) (an e872 (ti (an (noptics_whole_ok k a2.e1 _ h874) (ti (ti (an e877 (ti (ti trivial)))))))))))
    obtain ⟨r879, h880, h⟩ := bs h
    have e881 := (VC.args (noptics_beside_2_api_Frac__ok k r875.1 ([r875.2.failed] : List Int) _ h880) (eqO1_20 r875))
    have e882 := (ti (ti (ti (ti (an e881 (ti (ti (ti (ti trivial)))))))))
    injection h with h; subst h
    exact fun_ok pm pn Go.Proofs.Try.func13 (r0 := VV.tu [VV.ag (c_A44 r879.1), vi r879.2]) (ans := [.reg (nN 5 []), .reg (arO1_12 r841 r843 r846 r848), .reg (.n :: .n :: []), .br false, .reg (.n :: .n :: .call (VV.tu [vb r853.1, vi r853.2]) :: nN 5 []), .reg (.n :: .n :: []), .br false, .reg (.n :: .n :: []), .br false, .reg (.n :: []), .reg (arO1_13 r858 r860 r863 r865), .reg (arO1_14 r870 r873 r875), .reg (nN 3 (.v VV.any :: .call (VV.tu [VV.ag (c_A44 r879.1), vi r879.2]) :: nN 4 []))]) (fr := true) (by kernel_rfl) (an (an (ti (ti (ti (ti (ti trivial))))) (an (an e851 (an (ti (ti trivial)) (an (not_f (decide_eq_true h852)) trivial))) (an e855 (an (an (ti (ti trivial)) (an (not_f (decide_eq_true h856)) trivial)) (an (an (ti (ti trivial)) (an (not_f h857) trivial)) (an (ti trivial) (an e868 (an e878 (an e882 trivial))))))))) (an (ti (ti (ti (ti (ti trivial))))) (ti trivial))) (Wv.refl _)
   ·injection h with h; subst h
    exact fun_ok pm pn Go.Proofs.Try.func13 (r0 := VV.tu [VV.ag [vi 0, vi 0, vi 0, vi 0], vi 24]) (ans := [.reg (nN 5 []), .reg (arO1_12 r841 r843 r846 r848), .reg (.n :: .n :: []), .br false, .reg (.n :: .n :: .call (VV.tu [vb r853.1, vi r853.2]) :: nN 5 []), .reg (.n :: .n :: []), .br false, .reg (.n :: .n :: []), .br true, .reg (nN 3 [])]) (fr := true) (by kernel_rfl) (an (an (ti (ti (ti (ti (ti trivial))))) (an (an e851 (an (ti (ti trivial)) (an (not_f (decide_eq_true h852)) trivial))) (an e855 (an (an (ti (ti trivial)) (an (not_f (decide_eq_true h856)) trivial)) (an (ti (ti trivial)) (an (not_t (bool_f h857)) (an (ti (ti (ti trivial))) trivial))))))) (an (ti (ti (ti (ti (ti trivial))))) (ti trivial))) (Wv.of_eq eqO1_21)
  ·injection h with h; subst h
   exact fun_ok pm pn Go.Proofs.Try.func13 (r0 := VV.tu [VV.ag [vi 0, vi 0, vi 0, vi 0], vi r853.2]) (ans := [.reg (nN 5 []), .reg (arO1_12 r841 r843 r846 r848), .reg (.n :: .n :: []), .br false, .reg (.n :: .n :: .call (VV.tu [vb r853.1, vi r853.2]) :: nN 5 []), .reg (.n :: .n :: []), .br true, .reg (nN 4 [])]) (fr := true) (by kernel_rfl) (an (an (ti (ti (ti (ti (ti trivial))))) (an (an e851 (an (ti (ti trivial)) (an (not_f (decide_eq_true h852)) trivial))) (an e855 (an (ti (ti trivial)) (an (not_t (decide_eq_false h856)) (an (ti (ti (ti (ti trivial)))) trivial)))))) (an (ti (ti (ti (ti (ti trivial))))) (ti trivial))) (Wv.of_eq (eqO1_22 r853))
 ·injection h with h; subst h
  exact fun_ok pm pn Go.Proofs.Try.func13 (r0 := VV.tu [VV.ag [vi 0, vi 0, vi 0, vi 0], vi r848]) (ans := [.reg (nN 5 []), .reg (arO1_12 r841 r843 r846 r848), .reg (.n :: .n :: []), .br true, .reg (nN 4 [])]) (fr := true) (by kernel_rfl) (an (an (ti (ti (ti (ti (ti trivial))))) (an e851 (an (ti (ti trivial)) (an (not_t (decide_eq_false h852)) (an (ti (ti (ti (ti trivial)))) trivial))))) (an (ti (ti (ti (ti (ti trivial))))) (ti trivial))) (Wv.of_eq (eqO1_19 r848))
theorem eqO1_23 (z0 : SFrac) : [VV.tr (List.flatMap c_SFrac ([z0] : List SFrac)) (([z0] : List SFrac).length)] = [VV.tr [vi z0.Num, vi z0.Den] 1] := by first | rfl | (simp only [unfr_vi, List.map_cons, List.map_nil, un_i, un_tr, List.length_cons, List.length_nil, unfr_c_SFrac]; done) | (simp only [unfr_vi, List.map_cons, List.map_nil, un_i, un_tr, List.length_cons, List.length_nil, unfr_c_SFrac]; rfl) | (simp only [unfr_vi, List.map_cons, List.map_nil, un_i, un_tr, List.length_cons, List.length_nil, unfr_c_SFrac, c_SFrac, List.length_cons, List.length_nil, List.length_append]; done)
def nnumber_wholeRoot_l0_0_h (a0 : Int) (x3 : Int) (x4 : Int) : VS := ⟨mkA [(0, vi a0), (3, vi x3), (4, vi x4)], [], .nil⟩
def nnumber_wholeRoot_l0_0_e0 (a0 : Int) (r : Int) : VS := ⟨mkA [(3, vi r)], [], .nil⟩
def nnumber_wholeRoot_l0_0 (k : Nat) (a0 : Int) : Nat → Int → Int → Option (Int)
  | 0, _, _ => none
  | fuel + 1, x3, x4 => if x4 < x3 then (if x4 ≠ 0 then (nnumber_wholeRoot_l0_0 k a0 fuel x4 (w64 ((w64 (x4 + (w64 (a0.tdiv x4)))).tdiv 2))) else none) else (some x3)
theorem nnumber_wholeRoot_l0_0_ok (k : Nat) (a0 : Int) : ∀ (fuel : Nat) (x3 : Int) (x4 : Int) (r : Int), nnumber_wholeRoot_l0_0 k a0 fuel x3 x4 = some r → (VLoop none Go.Proofs.Try.prog (szF Go.Proofs.Try.f67) (bodyOf Go.Proofs.Try.f67 0) (nnumber_wholeRoot_l0_0_h a0 x3 x4) (.exit 0) (nnumber_wholeRoot_l0_0_e0 a0 r)) := by
 intro fuel
 induction fuel with
 | zero => intro x3 x4 r h; rw [nnumber_wholeRoot_l0_0.eq_1] at h; cases h
 | succ fuel ih =>
  intro x3 x4 r h
  rw [nnumber_wholeRoot_l0_0.eq_2] at h
  rcases ifs h with ⟨h914, h⟩ | ⟨h914, h⟩
  ·obtain ⟨h915, h⟩ := ifn h
   have e916 := (ti (ti (ti (an h915 (ti (an (show (2 : Int) ≠ 0 from (by decide)) (ti trivial)))))))
   have h2 := ih _ _ _ h
   obtain ⟨q, hv, hq⟩ := pkR (rd := none) (P := Go.Proofs.Try.prog) (fn := Go.Proofs.Try.f67) (k := 0) (s := (nnumber_wholeRoot_l0_0_h a0 x3 x4)) (ans := [.reg (nN 3 []), .br true, .reg (.n :: .n :: []), .reg (nN 7 [])]) (c := ⟨[(0, none), (3, none), (4, none)], [], []⟩) (e := .normal) (s1 := (nnumber_wholeRoot_l0_0_h a0 x4 (w64 ((w64 (x4 + (w64 (a0.tdiv x4)))).tdiv 2)))) (an (an (an (ti (ti (ti trivial))) (an (decide_eq_true h914) trivial)) (an (ti (ti trivial)) e916)) (ti trivial)) (by kernel_rfl)
   exact round_next pm pn hv hq h2
  ·injection h with h; subst h
   exact round_stop (c := ⟨[(3, none)], [], []⟩) (s1 := (nnumber_wholeRoot_l0_0_e0 a0 x3)) pm pn (ans := [.reg (nN 3 []), .br false]) (by kernel_rfl) (by intro e; cases e) (an (an (ti (ti (ti trivial))) (an (decide_eq_false h914) trivial)) (ti trivial))
def nnumber_wholeRoot (k : Nat) (a0 : Int) : Option Int :=
  (nnumber_wholeRoot_l0_0 k a0 k a0 (w64 ((w64 (a0 + 1)).tdiv 2))).bind fun r918 => (some r918)
theorem nnumber_wholeRoot_ok (k : Nat) (a0 : Int) (r : Int) (h : nnumber_wholeRoot k a0 = some r) : VC Go.Proofs.Try.prog 67 [vi a0] (vi r) := by
 unfold nnumber_wholeRoot at h
 have e907 := (ti (ti (an (show (2 : Int) ≠ 0 from (by decide)) (ti trivial))))
 obtain ⟨r918, h917, h⟩ := bs h
 have hph917 := nnumber_wholeRoot_l0_0_ok k a0 _ _ _ _ h917
 have e919 := (an (ti trivial) (VRun.loop hph917))
 injection h with h; subst h
 exact fun_ok pm pn Go.Proofs.Try.func67 (r0 := vi r918) (ans := [.reg (.n :: []), .reg (.n :: .n :: []), .reg (nN 4 []), .sub ⟨[(0, none), (3, none), (4, none)], [], []⟩ (.exit 0) (nnumber_wholeRoot_l0_0_e0 a0 r918), .reg (.n :: .n :: [])]) (fr := true) (by kernel_rfl) (an (an (ti trivial) (an (ti (ti trivial)) (an (an e907 e919) (an (ti (ti trivial)) trivial)))) (ti trivial)) (Wv.refl _)
theorem eqO1_24 (z0 : Int) : VV.ag [vi z0, vi z0] = VV.ag (c_SRange (⟨z0, z0⟩ : SRange)) := by first | rfl | (simp only [unfr_vi, List.map_cons, List.map_nil, un_i, unfr_c_SRange]; done) | (simp only [unfr_vi, List.map_cons, List.map_nil, un_i, unfr_c_SRange]; rfl) | (simp only [unfr_vi, List.map_cons, List.map_nil, un_i, unfr_c_SRange, c_SRange, List.length_cons, List.length_nil, List.length_append]; done)
theorem eqO1_25 (z0 : Int) : VV.ag [vi z0, vi (w64 (z0 + 1))] = VV.ag (c_SRange (⟨z0, w64 (z0 + 1)⟩ : SRange)) := by first | rfl | (simp only [unfr_vi, List.map_cons, List.map_nil, un_i, unfr_c_SRange]; done) | (simp only [unfr_vi, List.map_cons, List.map_nil, un_i, unfr_c_SRange]; rfl) | (simp only [unfr_vi, List.map_cons, List.map_nil, un_i, unfr_c_SRange, c_SRange, List.length_cons, List.length_nil, List.length_append]; done)
def nnumber_squareRoot (k : Nat) (a0 : Int) (a1 : Int) : Option SRange :=
  if a1 ≠ 0 then ((nnumber_wholeRoot k (w64 (a0.tdiv a1))).bind fun r925 => (if (w64 ((w64 (r925 * r925)) * a1)) = a0 then (some (⟨r925, r925⟩ : SRange)) else (some (⟨r925, w64 (r925 + 1)⟩ : SRange)))) else none
theorem nnumber_squareRoot_ok (k : Nat) (a0 : Int) (a1 : Int) (r : SRange) (h : nnumber_squareRoot k a0 a1 = some r) : VC Go.Proofs.Try.prog 49 [vi a0, vi a1] (VV.ag (c_SRange r)) := by
 unfold nnumber_squareRoot at h
 obtain ⟨h924, h⟩ := ifn h
 obtain ⟨r925, h926, h⟩ := bs h
 have e927 := (nnumber_wholeRoot_ok k (w64 (a0.tdiv a1)) _ h926)
 rcases ifs h with ⟨h928, h⟩ | ⟨h928, h⟩
 ·injection h with h; subst h
  exact fun_ok pm pn Go.Proofs.Try.func49 (r0 := VV.ag [vi r925, vi r925]) (ans := [.reg (.n :: []), .reg (nN 3 (.call (vi r925) :: .n :: [])), .reg (nN 7 []), .br true, .reg (nN 4 [])]) (fr := true) (by kernel_rfl) (an (an (ti trivial) (an (ti (ti (an h924 (an e927 (ti trivial))))) (an (ti (ti (ti (ti (ti (ti (ti trivial))))))) (an (decide_eq_true h928) (an (ti (ti (ti (ti trivial)))) trivial))))) (an (ti (ti (ti trivial))) trivial)) (Wv.of_eq (eqO1_24 r925))
 ·injection h with h; subst h
  exact fun_ok pm pn Go.Proofs.Try.func49 (r0 := VV.ag [vi r925, vi (w64 (r925 + 1))]) (ans := [.reg (.n :: []), .reg (nN 3 (.call (vi r925) :: .n :: [])), .reg (nN 7 []), .br false, .reg (nN 5 [])]) (fr := true) (by kernel_rfl) (an (an (ti trivial) (an (ti (ti (an h924 (an e927 (ti trivial))))) (an (an (ti (ti (ti (ti (ti (ti (ti trivial))))))) (an (decide_eq_false h928) trivial)) (an (ti (ti (ti (ti (ti trivial))))) trivial)))) (an (ti (ti (ti trivial))) trivial)) (Wv.of_eq (eqO1_25 r925))
theorem eqO1_26  : VV.tu [VV.ag [vi 0, vi 0], vi 2] = VV.tu [VV.ag (c_SRange (⟨0, 0⟩ : SRange)), vi 2] := by first | rfl | (simp only [unfr_vi, List.map_cons, List.map_nil, un_i, unfr_c_SRange]; done) | (simp only [unfr_vi, List.map_cons, List.map_nil, un_i, unfr_c_SRange]; rfl) | (simp only [unfr_vi, List.map_cons, List.map_nil, un_i, unfr_c_SRange, c_SRange, List.length_cons, List.length_nil, List.length_append]; done)
theorem eqO1_27 (z0 : Int) : VV.tu [VV.ag [vi 0, vi 0], vi z0] = VV.tu [VV.ag (c_SRange (⟨0, 0⟩ : SRange)), vi z0] := by first | rfl | (simp only [unfr_vi, List.map_cons, List.map_nil, un_i, unfr_c_SRange]; done) | (simp only [unfr_vi, List.map_cons, List.map_nil, un_i, unfr_c_SRange]; rfl) | (simp only [unfr_vi, List.map_cons, List.map_nil, un_i, unfr_c_SRange, c_SRange, List.length_cons, List.length_nil, List.length_append]; done)
def nnumber_Sqrt (k : Nat) (a0 : SFrac) (a1 : Int) : Option (SRange × Int) :=
  (nnumber_checkFracs k ([a0] : List SFrac)).bind fun r933 => (if r933 = 0 then (if a0.Num < 0 then (some ((⟨0, 0⟩ : SRange), 2)) else (if a1 < 1 then (some ((⟨0, 0⟩ : SRange), 2)) else (if 10000 < a1 then (some ((⟨0, 0⟩ : SRange), 2)) else ((nnumber_squareRoot k (w64 ((w64 (a1 * a1)) * a0.Num)) a0.Den).bind fun r943 => (some (r943, 0)))))) else (some ((⟨0, 0⟩ : SRange), r933)))
theorem nnumber_Sqrt_ok (k : Nat) (a0 : SFrac) (a1 : Int) (r : (SRange × Int)) (h : nnumber_Sqrt k a0 a1 = some r) : VC Go.Proofs.Try.prog 18 [VV.ag (c_SFrac a0), vi a1] (VV.tu [VV.ag (c_SRange r.1), vi r.2]) := by
 unfold nnumber_Sqrt at h
 obtain ⟨r933, h934, h⟩ := bs h
 have e935 := (VC.args (nnumber_checkFracs_ok k ([a0] : List SFrac) _ h934) (eqO1_23 a0))
 rcases ifs h with ⟨h936, h⟩ | ⟨h936, h⟩
 ·rcases ifs h with ⟨h937, h⟩ | ⟨h937, h⟩
  ·have e938 := (ti (ti (ti (ti (an (decide_eq_true h937) (an (decide_eq_true h937) (an (decide_eq_true h937) (ti (an rt (an rt (an rt trivial)))))))))))
   injection h with h; subst h
   exact fun_ok pm pn Go.Proofs.Try.func18 (r0 := VV.tu [VV.ag [vi 0, vi 0], vi 2]) (ans := [.reg (nN 3 []), .reg (.n :: .v VV.any :: .call (vi r933) :: .n :: []), .reg (.n :: .n :: []), .br false, .reg (nN 4 (.skip :: .skip :: .b true :: .n :: .skip :: .skip :: .b true :: [])), .br true, .reg (nN 3 [])]) (fr := true) (by kernel_rfl) (an (an (ti (ti (ti trivial))) (an (an (ti (ti (an e935 (ti trivial)))) (an (ti (ti trivial)) (an (not_f (decide_eq_true h936)) trivial))) (an e938 (an rt (an (ti (ti (ti trivial))) trivial))))) (an (ti (ti (ti trivial))) (ti trivial))) (Wv.of_eq eqO1_26)
  ·rcases ifs h with ⟨h939, h⟩ | ⟨h939, h⟩
   ·have e940 := (ti (ti (ti (ti (an (an (decide_eq_false h937) trivial) (an (an (decide_eq_false h937) trivial) (an (decide_eq_false h937) (ti (an (decide_eq_true h939) (an (decide_eq_true h939) (an (decide_eq_true h939) trivial)))))))))))
    injection h with h; subst h
    exact fun_ok pm pn Go.Proofs.Try.func18 (r0 := VV.tu [VV.ag [vi 0, vi 0], vi 2]) (ans := [.reg (nN 3 []), .reg (.n :: .v VV.any :: .call (vi r933) :: .n :: []), .reg (.n :: .n :: []), .br false, .reg (nN 6 (.b false :: .n :: .skip :: .skip :: .b true :: [])), .br true, .reg (nN 3 [])]) (fr := true) (by kernel_rfl) (an (an (ti (ti (ti trivial))) (an (an (ti (ti (an e935 (ti trivial)))) (an (ti (ti trivial)) (an (not_f (decide_eq_true h936)) trivial))) (an e940 (an rt (an (ti (ti (ti trivial))) trivial))))) (an (ti (ti (ti trivial))) (ti trivial))) (Wv.of_eq eqO1_26)
   ·have e941 := (ti (ti (ti (ti (an (an (decide_eq_false h937) trivial) (an (an (decide_eq_false h937) trivial) (an (decide_eq_false h937) (ti (an (an (decide_eq_false h939) trivial) (an (an (decide_eq_false h939) trivial) (an (decide_eq_false h939) trivial)))))))))))
    rcases ifs h with ⟨h942, h⟩ | ⟨h942, h⟩
    ·injection h with h; subst h
     exact fun_ok pm pn Go.Proofs.Try.func18 (r0 := VV.tu [VV.ag [vi 0, vi 0], vi 2]) (ans := [.reg (nN 3 []), .reg (.n :: .v VV.any :: .call (vi r933) :: .n :: []), .reg (.n :: .n :: []), .br false, .reg (nN 6 (.b false :: nN 3 (.b false :: []))), .br true, .reg (nN 3 [])]) (fr := true) (by kernel_rfl) (an (an (ti (ti (ti trivial))) (an (an (ti (ti (an e935 (ti trivial)))) (an (ti (ti trivial)) (an (not_f (decide_eq_true h936)) trivial))) (an e941 (an (decide_eq_true h942) (an (ti (ti (ti trivial))) trivial))))) (an (ti (ti (ti trivial))) (ti trivial))) (Wv.of_eq eqO1_26)
    ·obtain ⟨r943, h944, h⟩ := bs h
     have e945 := (nnumber_squareRoot_ok k (w64 ((w64 (a1 * a1)) * a0.Num)) a0.Den _ h944)
     have e946 := (ti (ti (ti (ti (ti (ti (ti (ti (an e945 (ti (ti trivial)))))))))))
     injection h with h; subst h
     exact fun_ok pm pn Go.Proofs.Try.func18 (r0 := VV.tu [VV.ag (c_SRange r943), vi 0]) (ans := [.reg (nN 3 []), .reg (.n :: .v VV.any :: .call (vi r933) :: .n :: []), .reg (.n :: .n :: []), .br false, .reg (nN 6 (.b false :: nN 3 (.b false :: []))), .br false, .reg (nN 8 (.call (VV.ag (c_SRange r943)) :: .n :: .n :: []))]) (fr := true) (by kernel_rfl) (an (an (ti (ti (ti trivial))) (an (an (ti (ti (an e935 (ti trivial)))) (an (ti (ti trivial)) (an (not_f (decide_eq_true h936)) trivial))) (an (an e941 (an (decide_eq_false h942) trivial)) (an e946 trivial)))) (an (ti (ti (ti trivial))) (ti trivial))) (Wv.refl _)
 ·injection h with h; subst h
  exact fun_ok pm pn Go.Proofs.Try.func18 (r0 := VV.tu [VV.ag [vi 0, vi 0], vi r933]) (ans := [.reg (nN 3 []), .reg (.n :: .v VV.any :: .call (vi r933) :: .n :: []), .reg (.n :: .n :: []), .br true, .reg (nN 4 [])]) (fr := true) (by kernel_rfl) (an (an (ti (ti (ti trivial))) (an (ti (ti (an e935 (ti trivial)))) (an (ti (ti trivial)) (an (not_t (decide_eq_false h936)) (an (ti (ti (ti (ti trivial)))) trivial))))) (an (ti (ti (ti trivial))) (ti trivial))) (Wv.of_eq (eqO1_27 r933))
def nspeculumtop_whole (k : Nat) (a0 : Int) : Option SFrac :=
  some (⟨a0, 1⟩ : SFrac)
theorem nspeculumtop_whole_ok (k : Nat) (a0 : Int) (r : SFrac) (h : nspeculumtop_whole k a0 = some r) : VC Go.Proofs.Try.prog 8 [vi a0] (VV.ag (c_SFrac r)) := by
 unfold nspeculumtop_whole at h
 injection h with h; subst h
 exact fun_ok pm pn Go.Proofs.Try.func8 (r0 := VV.ag [vi a0, vi 1]) (ans := [.reg (.n :: []), .reg (nN 3 [])]) (fr := true) (by kernel_rfl) (an (an (ti trivial) (an (ti (ti (ti trivial))) trivial)) (an (ti (ti (ti trivial))) trivial)) (Wv.of_eq (eqO1_13 a0))
theorem eqO1_28 (z0 : SFrac) (z1 : SFrac) : [VV.ag (c_SConic (⟨100, z0⟩ : SConic)), VV.ag [vi (((⟨z1, (⟨9, 2⟩ : SFrac)⟩ : SSpot).R).Num), vi (((⟨z1, (⟨9, 2⟩ : SFrac)⟩ : SSpot).R).Den), vi (((⟨z1, (⟨9, 2⟩ : SFrac)⟩ : SSpot).Z).Num), vi (((⟨z1, (⟨9, 2⟩ : SFrac)⟩ : SSpot).Z).Den)], VV.ag (c_A47 (⟨0, (-1)⟩ : A47))] = [VV.ag [vi 100, vi z0.Num, vi z0.Den], VV.ag [vi z1.Num, vi z1.Den, vi 9, vi 2], VV.ag [vi 0, vi (-1)]] := by first | rfl | (simp only [unfr_vi, List.map_cons, List.map_nil, un_i, unfr_c_SConic, unfr_c_A47]; done) | (simp only [unfr_vi, List.map_cons, List.map_nil, un_i, unfr_c_SConic, unfr_c_A47]; rfl) | (simp only [unfr_vi, List.map_cons, List.map_nil, un_i, unfr_c_SConic, unfr_c_A47, c_SConic, List.length_cons, List.length_nil, List.length_append]; done)
def arO1_15 (z0 : SFrac) (z1 : SFrac) (z2 : (A44 × Int)) : List Ans := (.call (VV.ag (c_SFrac z0)) :: .n :: .call (VV.ag (c_SFrac z1)) :: nN 3 (.call (VV.tu [VV.ag (c_A44 z2.1), vi z2.2]) :: nN 6 []))
def arO1_16 (z0 : SFrac) (z1 : (SRange × Int)) : List Ans := (.call (VV.ag (c_SFrac z0)) :: .call (VV.tu [VV.ag (c_SRange z1.1), vi z1.2]) :: nN 6 [])
def arO1_17  : List Ans := (nN 3 (nS 5 (.b false :: .n :: .skip :: .skip :: .b false :: .n :: nS 3 (.b false :: .n :: []))))
def nspeculumtop_seen (k : Nat)  : Option Bool :=
  (nspeculumtop_whole k (-1)).bind fun r969 => ((nspeculumtop_whole k 30).bind fun r971 => ((noptics_Reflect k (⟨100, r969⟩ : SConic) (⟨r971, (⟨9, 2⟩ : SFrac)⟩ : SSpot) (⟨0, (-1)⟩ : A47)).bind fun r973 => ((nspeculumtop_whole k 2).bind fun r977 => ((nnumber_Sqrt k r977 1000).bind fun r979 => (if r973.2 = 0 then (if ((r973.1.e0.Num : Int) == (-60) && ((r973.1.e0.Den : Int) == 109 && ((r973.1.e1.Num : Int) == 91 && ((r973.1.e1.Den : Int) == 109 && true)))) = true then (if r979.2 = 0 then (some ((r979.1.Lo : Int) == 1414 && ((r979.1.Hi : Int) == 1415 && true))) else (some false)) else (some false)) else (some false))))))
theorem nspeculumtop_seen_ok (k : Nat)  (r : Bool) (h : nspeculumtop_seen k  = some r) : VC Go.Proofs.Try.prog 6 [] (vb r) := by
 unfold nspeculumtop_seen at h
 obtain ⟨r969, h970, h⟩ := bs h
 obtain ⟨r971, h972, h⟩ := bs h
 obtain ⟨r973, h974, h⟩ := bs h
 have e975 := (VC.args (noptics_Reflect_ok k (⟨100, r969⟩ : SConic) (⟨r971, (⟨9, 2⟩ : SFrac)⟩ : SSpot) (⟨0, (-1)⟩ : A47) _ h974) (eqO1_28 r969 r971))
 have e976 := (an (nspeculumtop_whole_ok k (-1) _ h970) (ti (an (nspeculumtop_whole_ok k 30 _ h972) (ti (ti (ti (an e975 (ti (ti (ti (ti (ti (ti trivial)))))))))))))
 obtain ⟨r977, h978, h⟩ := bs h
 obtain ⟨r979, h980, h⟩ := bs h
 have e981 := (an (nspeculumtop_whole_ok k 2 _ h978) (an (nnumber_Sqrt_ok k r977 1000 _ h980) (ti (ti (ti (ti (ti (ti trivial))))))))
 rcases ifs h with ⟨h982, h⟩ | ⟨h982, h⟩
 ·have e983 := (an (decide_eq_true h982) (show List.map kdV [Value.int .i64 r973.1.e0.Num, Value.int .i64 r973.1.e0.Den, Value.int .i64 r973.1.e1.Num, Value.int .i64 r973.1.e1.Den] = List.map kdV [Value.int .i64 (-60), Value.int .i64 109, Value.int .i64 91, Value.int .i64 109] ∧ EqOK Go.Proofs.Try.prog 44 (List.map kdV [Value.int .i64 (-60), Value.int .i64 109, Value.int .i64 91, Value.int .i64 109]) from ⟨rfl, eqok44⟩))
  rcases ifs h with ⟨h984, h⟩ | ⟨h984, h⟩
  ·rcases ifs h with ⟨h985, h⟩ | ⟨h985, h⟩
   ·have e986 := (an (decide_eq_true h985) (show List.map kdV [Value.int .i64 r979.1.Lo, Value.int .i64 r979.1.Hi] = List.map kdV [Value.int .i64 1414, Value.int .i64 1415] ∧ EqOK Go.Proofs.Try.prog 53 (List.map kdV [Value.int .i64 1414, Value.int .i64 1415]) from ⟨rfl, eqok53⟩))
    have e987 := (ti (ti (ti (an (an (decide_eq_true h982) trivial) (an (an (decide_eq_true h982) trivial) (an (an (decide_eq_true h982) trivial) (an (an (decide_eq_true h982) trivial) (an e983 (an (decide_eq_true h982) (ti (an (an h984 trivial) (an (an h984 trivial) (an h984 (ti (an (an (decide_eq_true h985) trivial) (an (an (decide_eq_true h985) trivial) (an e986 (an (decide_eq_true h985) (ti trivial)))))))))))))))))))
    injection h with h; subst h
    exact fun_ok pm pn Go.Proofs.Try.func6 (r0 := vb ((r979.1.Lo : Int) == 1414 && ((r979.1.Hi : Int) == 1415 && true))) (ans := [.reg (.n :: []), .reg (arO1_15 r969 r971 r973), .reg (arO1_16 r977 r979), .reg (nN 8 (.b true :: nN 3 (.b true :: nN 4 (.b true :: .n :: []))))]) (fr := true) (by kernel_rfl) (an (an (ti trivial) (an e976 (an e981 (an e987 trivial)))) (ti trivial)) (Wv.refl _)
   ·have e988 := (ti (ti (ti (an (an (decide_eq_true h982) trivial) (an (an (decide_eq_true h982) trivial) (an (an (decide_eq_true h982) trivial) (an (an (decide_eq_true h982) trivial) (an e983 (an (decide_eq_true h982) (ti (an (an h984 trivial) (an (an h984 trivial) (an h984 (ti (an (decide_eq_false h985) (an (decide_eq_false h985) (an (decide_eq_false h985) (an (decide_eq_false h985) (ti trivial)))))))))))))))))))
    injection h with h; subst h
    exact fun_ok pm pn Go.Proofs.Try.func6 (r0 := vb false) (ans := [.reg (.n :: []), .reg (arO1_15 r969 r971 r973), .reg (arO1_16 r977 r979), .reg (nN 8 (.b true :: nN 3 (.b true :: .n :: nS 3 (.b false :: .n :: []))))]) (fr := true) (by kernel_rfl) (an (an (ti trivial) (an e976 (an e981 (an e988 trivial)))) (ti trivial)) (Wv.refl _)
  ·have e989 := (ti (ti (ti (an (an (decide_eq_true h982) trivial) (an (an (decide_eq_true h982) trivial) (an (an (decide_eq_true h982) trivial) (an (an (decide_eq_true h982) trivial) (an e983 (an (decide_eq_true h982) (ti (an (bool_f h984) (an (bool_f h984) (an (bool_f h984) (ti (an rf (an rf (an rf (an rf (ti trivial)))))))))))))))))))
   injection h with h; subst h
   exact fun_ok pm pn Go.Proofs.Try.func6 (r0 := vb false) (ans := [.reg (.n :: []), .reg (arO1_15 r969 r971 r973), .reg (arO1_16 r977 r979), .reg (nN 8 (.b true :: .n :: .skip :: .skip :: .b false :: .n :: nS 3 (.b false :: .n :: [])))]) (fr := true) (by kernel_rfl) (an (an (ti trivial) (an e976 (an e981 (an e989 trivial)))) (ti trivial)) (Wv.refl _)
 ·have e990 := (ti (ti (ti (an (decide_eq_false h982) (an (decide_eq_false h982) (an (decide_eq_false h982) (an (decide_eq_false h982) (an (decide_eq_false h982) (an (decide_eq_false h982) (ti (an rf (an rf (an rf (ti (an rf (an rf (an rf (an rf (ti trivial)))))))))))))))))))
  injection h with h; subst h
  exact fun_ok pm pn Go.Proofs.Try.func6 (r0 := vb false) (ans := [.reg (.n :: []), .reg (arO1_15 r969 r971 r973), .reg (arO1_16 r977 r979), .reg arO1_17]) (fr := true) (by kernel_rfl) (an (an (ti trivial) (an e976 (an e981 (an e990 trivial)))) (ti trivial)) (Wv.refl _)
def nspeculumbase_Abs (k : Nat) (a0 : Int) : Option Int :=
  if a0 < 0 then (some (w64 (0 - a0))) else (some a0)
theorem nspeculumbase_Abs_ok (k : Nat) (a0 : Int) (r : Int) (h : nspeculumbase_Abs k a0 = some r) : VC Go.Proofs.Try.prog 50 [vi a0] (vi r) := by
 unfold nspeculumbase_Abs at h
 rcases ifs h with ⟨h1001, h⟩ | ⟨h1001, h⟩
 ·injection h with h; subst h
  exact fun_ok pm pn Go.Proofs.Try.func50 (r0 := vi (w64 (0 - a0))) (ans := [.reg (.n :: []), .reg (.n :: .n :: []), .br true, .reg (nN 3 [])]) (fr := true) (by kernel_rfl) (an (an (ti trivial) (an (ti (ti trivial)) (an (decide_eq_true h1001) (an (ti (ti (ti trivial))) trivial)))) (ti trivial)) (Wv.refl _)
 ·injection h with h; subst h
  exact fun_ok pm pn Go.Proofs.Try.func50 (r0 := vi a0) (ans := [.reg (.n :: []), .reg (.n :: .n :: []), .br false, .reg (.n :: .n :: [])]) (fr := true) (by kernel_rfl) (an (an (ti trivial) (an (an (ti (ti trivial)) (an (decide_eq_false h1001) trivial)) (an (ti (ti trivial)) trivial))) (ti trivial)) (Wv.refl _)
def nspeculumbase_Gcd_l0_0_h  (x0 : Int) (x1 : Int) : VS := ⟨mkA [(0, vi x0), (1, vi x1)], [], .nil⟩
def nspeculumbase_Gcd_l0_0_e0  (r : Int) : VS := ⟨mkA [(0, vi r)], [], .nil⟩
def nspeculumbase_Gcd_l0_0 (k : Nat)  : Nat → Int → Int → Option (Int)
  | 0, _, _ => none
  | fuel + 1, x0, x1 => if x1 = 0 then (some x0) else (if x1 ≠ 0 then (nspeculumbase_Gcd_l0_0 k  fuel x1 (x0.tmod x1)) else none)
theorem nspeculumbase_Gcd_l0_0_ok (k : Nat)  : ∀ (fuel : Nat) (x0 : Int) (x1 : Int) (r : Int), nspeculumbase_Gcd_l0_0 k  fuel x0 x1 = some r → (VLoop none Go.Proofs.Try.prog (szF Go.Proofs.Try.f19) (bodyOf Go.Proofs.Try.f19 0) (nspeculumbase_Gcd_l0_0_h  x0 x1) (.exit 0) (nspeculumbase_Gcd_l0_0_e0  r)) := by
 intro fuel
 induction fuel with
 | zero => intro x0 x1 r h; rw [nspeculumbase_Gcd_l0_0.eq_1] at h; cases h
 | succ fuel ih =>
  intro x0 x1 r h
  rw [nspeculumbase_Gcd_l0_0.eq_2] at h
  rcases ifs h with ⟨h1009, h⟩ | ⟨h1009, h⟩
  ·injection h with h; subst h
   exact round_stop (c := ⟨[(0, none)], [], []⟩) (s1 := (nspeculumbase_Gcd_l0_0_e0  x0)) pm pn (ans := [.reg (.n :: .n :: []), .br false]) (by kernel_rfl) (by intro e; cases e) (an (an (ti (ti trivial)) (an (not_f (decide_eq_true h1009)) trivial)) (ti trivial))
  ·obtain ⟨h1010, h⟩ := ifn h
   have h2 := ih _ _ _ h
   obtain ⟨q, hv, hq⟩ := pkR (rd := none) (P := Go.Proofs.Try.prog) (fn := Go.Proofs.Try.f19) (k := 0) (s := (nspeculumbase_Gcd_l0_0_h  x0 x1)) (ans := [.reg (.n :: .n :: []), .br true, .reg (nN 6 [])]) (c := ⟨[(0, none), (1, none)], [], []⟩) (e := .normal) (s1 := (nspeculumbase_Gcd_l0_0_h  x1 (x0.tmod x1))) (an (an (an (ti (ti trivial)) (an (not_t (decide_eq_false h1009)) trivial)) (ti (ti (ti (an h1010 (ti (ti trivial))))))) (ti trivial)) (by kernel_rfl)
   exact round_next pm pn hv hq h2
def nspeculumbase_Gcd (k : Nat) (a0 : Int) (a1 : Int) : Option Int :=
  (nspeculumbase_Gcd_l0_0 k k a0 a1).bind fun r1012 => ((nspeculumbase_Abs k r1012).bind fun r1014 => (some r1014))
theorem nspeculumbase_Gcd_ok (k : Nat) (a0 : Int) (a1 : Int) (r : Int) (h : nspeculumbase_Gcd k a0 a1 = some r) : VC Go.Proofs.Try.prog 19 [vi a0, vi a1] (vi r) := by
 unfold nspeculumbase_Gcd at h
 obtain ⟨r1012, h1011, h⟩ := bs h
 have hph1011 := nspeculumbase_Gcd_l0_0_ok k  _ _ _ _ h1011
 have e1013 := (an (ti trivial) (VRun.loop hph1011))
 obtain ⟨r1014, h1015, h⟩ := bs h
 have e1016 := (ti (an (nspeculumbase_Abs_ok k r1012 _ h1015) (ti trivial)))
 injection h with h; subst h
 exact fun_ok pm pn Go.Proofs.Try.func19 (r0 := vi r1014) (ans := [.reg (.n :: []), .sub ⟨[(0, none), (1, none)], [], []⟩ (.exit 0) (nspeculumbase_Gcd_l0_0_e0  r1012), .reg (.n :: .call (vi r1014) :: .n :: [])]) (fr := true) (by kernel_rfl) (an (an (ti trivial) (an e1013 (an e1016 trivial))) (ti trivial)) (Wv.refl _)
theorem eqO1_29 (z0 : Int) (z1 : Int) (z2 : Int) : VV.ag [vi (w64 (z0.tdiv (w64 (0 - z1)))), vi (w64 (z2.tdiv (w64 (0 - z1))))] = VV.ag (c_SFrac (⟨w64 (z0.tdiv (w64 (0 - z1))), w64 (z2.tdiv (w64 (0 - z1)))⟩ : SFrac)) := by first | rfl | (simp only [unfr_vi, List.map_cons, List.map_nil, un_i, unfr_c_SFrac]; done) | (simp only [unfr_vi, List.map_cons, List.map_nil, un_i, unfr_c_SFrac]; rfl) | (simp only [unfr_vi, List.map_cons, List.map_nil, un_i, unfr_c_SFrac, c_SFrac, List.length_cons, List.length_nil, List.length_append]; done)
theorem eqO1_30 (z0 : Int) (z1 : Int) (z2 : Int) : VV.ag [vi (w64 (z0.tdiv z1)), vi (w64 (z2.tdiv z1))] = VV.ag (c_SFrac (⟨w64 (z0.tdiv z1), w64 (z2.tdiv z1)⟩ : SFrac)) := by first | rfl | (simp only [unfr_vi, List.map_cons, List.map_nil, un_i, unfr_c_SFrac]; done) | (simp only [unfr_vi, List.map_cons, List.map_nil, un_i, unfr_c_SFrac]; rfl) | (simp only [unfr_vi, List.map_cons, List.map_nil, un_i, unfr_c_SFrac, c_SFrac, List.length_cons, List.length_nil, List.length_append]; done)
def nspeculumbase_Lowest (k : Nat) (a0 : Int) (a1 : Int) : Option SFrac :=
  (nspeculumbase_Gcd k a0 a1).bind fun r1025 => (if a1 < 0 then (if (w64 (0 - r1025)) ≠ 0 then (some (⟨w64 (a0.tdiv (w64 (0 - r1025))), w64 (a1.tdiv (w64 (0 - r1025)))⟩ : SFrac)) else none) else (if r1025 ≠ 0 then (some (⟨w64 (a0.tdiv r1025), w64 (a1.tdiv r1025)⟩ : SFrac)) else none))
theorem nspeculumbase_Lowest_ok (k : Nat) (a0 : Int) (a1 : Int) (r : SFrac) (h : nspeculumbase_Lowest k a0 a1 = some r) : VC Go.Proofs.Try.prog 9 [vi a0, vi a1] (VV.ag (c_SFrac r)) := by
 unfold nspeculumbase_Lowest at h
 obtain ⟨r1025, h1026, h⟩ := bs h
 have e1027 := (ti (ti (an (nspeculumbase_Gcd_ok k a0 a1 _ h1026) (ti trivial))))
 rcases ifs h with ⟨h1028, h⟩ | ⟨h1028, h⟩
 ·obtain ⟨h1029, h⟩ := ifn h
  have e1030 := (ti (ti (an h1029 (ti (ti (an h1029 (ti (ti trivial))))))))
  injection h with h; subst h
  exact fun_ok pm pn Go.Proofs.Try.func9 (r0 := VV.ag [vi (w64 (a0.tdiv (w64 (0 - r1025)))), vi (w64 (a1.tdiv (w64 (0 - r1025))))]) (ans := [.reg (.n :: []), .reg (.n :: .n :: .call (vi r1025) :: .n :: []), .reg (.n :: .n :: []), .br true, .reg (nN 3 []), .reg (nN 8 [])]) (fr := true) (by kernel_rfl) (an (an (ti trivial) (an e1027 (an (an (ti (ti trivial)) (an (decide_eq_true h1028) (ti (ti (ti trivial))))) (an e1030 trivial)))) (an (ti (ti (ti trivial))) trivial)) (Wv.of_eq (eqO1_29 a0 r1025 a1))
 ·obtain ⟨h1031, h⟩ := ifn h
  have e1032 := (ti (ti (an h1031 (ti (ti (an h1031 (ti (ti trivial))))))))
  injection h with h; subst h
  exact fun_ok pm pn Go.Proofs.Try.func9 (r0 := VV.ag [vi (w64 (a0.tdiv r1025)), vi (w64 (a1.tdiv r1025))]) (ans := [.reg (.n :: []), .reg (.n :: .n :: .call (vi r1025) :: .n :: []), .reg (.n :: .n :: []), .br false, .reg (nN 8 [])]) (fr := true) (by kernel_rfl) (an (an (ti trivial) (an e1027 (an (an (ti (ti trivial)) (an (decide_eq_false h1028) trivial)) (an e1032 trivial)))) (an (ti (ti (ti trivial))) trivial)) (Wv.of_eq (eqO1_30 a0 r1025 a1))
def nspeculumbase_Within (k : Nat) (a0 : Int) (a1 : Int) (a2 : Int) : Option Bool :=
  if a1 ≤ a0 then (some (decide (a0 ≤ a2))) else (some false)
theorem nspeculumbase_Within_ok (k : Nat) (a0 : Int) (a1 : Int) (a2 : Int) (r : Bool) (h : nspeculumbase_Within k a0 a1 a2 = some r) : VC Go.Proofs.Try.prog 7 [vi a0, vi a1, vi a2] (vb r) := by
 unfold nspeculumbase_Within at h
 rcases ifs h with ⟨h1036, h⟩ | ⟨h1036, h⟩
 ·have e1037 := (ti (ti (ti (ti (an (an (decide_eq_true h1036) trivial) (an (an (decide_eq_true h1036) trivial) (an (an (decide_eq_true h1036) trivial) (an (decide_eq_true h1036) (ti trivial)))))))))
  injection h with h; subst h
  exact fun_ok pm pn Go.Proofs.Try.func7 (r0 := vb (decide (a0 ≤ a2))) (ans := [.reg (.n :: []), .reg (nN 7 (.b true :: .n :: []))]) (fr := true) (by kernel_rfl) (an (an (ti trivial) (an e1037 trivial)) (ti trivial)) (Wv.refl _)
 ·have e1038 := (ti (ti (ti (ti (an (decide_eq_false h1036) (an (decide_eq_false h1036) (an (decide_eq_false h1036) (an (decide_eq_false h1036) (ti trivial)))))))))
  injection h with h; subst h
  exact fun_ok pm pn Go.Proofs.Try.func7 (r0 := vb false) (ans := [.reg (.n :: []), .reg (nN 4 (nS 3 (.b false :: .n :: [])))]) (fr := true) (by kernel_rfl) (an (an (ti trivial) (an e1038 trivial)) (ti trivial)) (Wv.refl _)
def nspeculumbase_Mod (k : Nat) (a0 : Int) (a1 : Int) : Option Int :=
  if a1 ≠ 0 then (if (a0.tmod a1) < 0 then (some (w64 ((a0.tmod a1) + a1))) else (some (a0.tmod a1))) else none
theorem nspeculumbase_Mod_ok (k : Nat) (a0 : Int) (a1 : Int) (r : Int) (h : nspeculumbase_Mod k a0 a1 = some r) : VC Go.Proofs.Try.prog 15 [vi a0, vi a1] (vi r) := by
 unfold nspeculumbase_Mod at h
 obtain ⟨h1041, h⟩ := ifn h
 rcases ifs h with ⟨h1042, h⟩ | ⟨h1042, h⟩
 ·injection h with h; subst h
  exact fun_ok pm pn Go.Proofs.Try.func15 (r0 := vi (w64 ((a0.tmod a1) + a1))) (ans := [.reg (.n :: []), .reg (nN 4 []), .reg (.n :: .n :: []), .br true, .reg (nN 4 [])]) (fr := true) (by kernel_rfl) (an (an (ti trivial) (an (ti (ti (an h1041 (ti trivial)))) (an (ti (ti trivial)) (an (decide_eq_true h1042) (an (ti (ti (ti (ti trivial)))) trivial))))) (ti trivial)) (Wv.refl _)
 ·injection h with h; subst h
  exact fun_ok pm pn Go.Proofs.Try.func15 (r0 := vi (a0.tmod a1)) (ans := [.reg (.n :: []), .reg (nN 4 []), .reg (.n :: .n :: []), .br false, .reg (.n :: .n :: [])]) (fr := true) (by kernel_rfl) (an (an (ti trivial) (an (ti (ti (an h1041 (ti trivial)))) (an (an (ti (ti trivial)) (an (decide_eq_false h1042) trivial)) (an (ti (ti trivial)) trivial)))) (ti trivial)) (Wv.refl _)
end Go.Proofs.Ytojmekclegbndaa.Vg

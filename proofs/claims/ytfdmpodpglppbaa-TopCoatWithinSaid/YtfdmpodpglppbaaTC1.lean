/- Written by a program out of the program: what Go functions do, as plain functions, and their contracts. -/
import Derived.Test.YtfdmpodpglppbaaWa
namespace Go.Proofs.Ytfdmpodpglppbaa.Vg
set_option maxRecDepth 100000
set_option maxHeartbeats 4000000
set_option linter.unusedVariables false
set_option linter.unusedSimpArgs false
open Go Go.Proofs.Ytfdmpodpglppbaa.Ev Go.Proofs.Ytfdmpodpglppbaa.Vv
structure SCoatEvent where
  Mirror : ByteArray
  Day : Int
  Kind : Int
  deriving Inhabited
def c_SCoatEvent (x : SCoatEvent) : List VV := [vs x.Mirror, vi x.Day, vi x.Kind]
theorem len_c_SCoatEvent (x : SCoatEvent) : (c_SCoatEvent x).length = 3 := rfl
theorem still_c_SCoatEvent (xs : List SCoatEvent) : (xs.flatMap c_SCoatEvent).all VV.still = true := all_flat (fun _ => rfl) xs
theorem isC_c_SCoatEvent (xs : List SCoatEvent) : (xs.flatMap c_SCoatEvent).all VV.isC = true := all_flat (fun _ => rfl) xs
theorem new0_c_SCoatEvent (xs : List SCoatEvent) : (xs.flatMap c_SCoatEvent).all new0 = true := all_flat (fun _ => rfl) xs
theorem unfr_c_SCoatEvent (xs : List SCoatEvent) : (xs.flatMap c_SCoatEvent).map unfr = xs.flatMap c_SCoatEvent := unfr_flat (fun _ => rfl) xs
structure SRange where
  Lo : Int
  Hi : Int
  deriving Inhabited
def c_SRange (x : SRange) : List VV := [vi x.Lo, vi x.Hi]
theorem len_c_SRange (x : SRange) : (c_SRange x).length = 2 := rfl
theorem still_c_SRange (xs : List SRange) : (xs.flatMap c_SRange).all VV.still = true := all_flat (fun _ => rfl) xs
theorem isC_c_SRange (xs : List SRange) : (xs.flatMap c_SRange).all VV.isC = true := all_flat (fun _ => rfl) xs
theorem new0_c_SRange (xs : List SRange) : (xs.flatMap c_SRange).all new0 = true := all_flat (fun _ => rfl) xs
theorem unfr_c_SRange (xs : List SRange) : (xs.flatMap c_SRange).map unfr = xs.flatMap c_SRange := unfr_flat (fun _ => rfl) xs
structure SAging where
  Fresh : SRange
  Loss : SRange
  Back : SRange
  Washes : Int
  deriving Inhabited
def c_SAging (x : SAging) : List VV := [vi x.Fresh.Lo, vi x.Fresh.Hi, vi x.Loss.Lo, vi x.Loss.Hi, vi x.Back.Lo, vi x.Back.Hi, vi x.Washes]
theorem len_c_SAging (x : SAging) : (c_SAging x).length = 7 := rfl
theorem still_c_SAging (xs : List SAging) : (xs.flatMap c_SAging).all VV.still = true := all_flat (fun _ => rfl) xs
theorem isC_c_SAging (xs : List SAging) : (xs.flatMap c_SAging).all VV.isC = true := all_flat (fun _ => rfl) xs
theorem new0_c_SAging (xs : List SAging) : (xs.flatMap c_SAging).all new0 = true := all_flat (fun _ => rfl) xs
theorem unfr_c_SAging (xs : List SAging) : (xs.flatMap c_SAging).map unfr = xs.flatMap c_SAging := unfr_flat (fun _ => rfl) xs
structure Sfilm where
  Aging : SAging
  isOn : Bool
  washed : Int
  since : Int
  bright : SRange
  deriving Inhabited
def c_Sfilm (x : Sfilm) : List VV := [vi x.Aging.Fresh.Lo, vi x.Aging.Fresh.Hi, vi x.Aging.Loss.Lo, vi x.Aging.Loss.Hi, vi x.Aging.Back.Lo, vi x.Aging.Back.Hi, vi x.Aging.Washes, vb x.isOn, vi x.washed, vi x.since, vi x.bright.Lo, vi x.bright.Hi]
theorem len_c_Sfilm (x : Sfilm) : (c_Sfilm x).length = 12 := rfl
theorem still_c_Sfilm (xs : List Sfilm) : (xs.flatMap c_Sfilm).all VV.still = true := all_flat (fun _ => rfl) xs
theorem isC_c_Sfilm (xs : List Sfilm) : (xs.flatMap c_Sfilm).all VV.isC = true := all_flat (fun _ => rfl) xs
theorem new0_c_Sfilm (xs : List Sfilm) : (xs.flatMap c_Sfilm).all new0 = true := all_flat (fun _ => rfl) xs
theorem unfr_c_Sfilm (xs : List Sfilm) : (xs.flatMap c_Sfilm).map unfr = xs.flatMap c_Sfilm := unfr_flat (fun _ => rfl) xs
theorem ag3 : isAggT Go.Proofs.Try.prog 3 = some false := by kernel_rfl
theorem ag9 : isAggT Go.Proofs.Try.prog 9 = some false := by kernel_rfl
theorem ag48 : isAggT Go.Proofs.Try.prog 48 = some true := by kernel_rfl
theorem sz48 : szOf Go.Proofs.Try.prog 48 = some 3 := by kernel_rfl
def nspeculumlaw08_Past_l0_0_h (a0 : (List SCoatEvent)) (x3 : Int) : VS := ⟨mkA [(0, VV.tr (List.flatMap c_SCoatEvent a0) a0.length), (3, vi x3)], [], .nil⟩
def nspeculumlaw08_Past_l0_0_e0 (a0 : (List SCoatEvent)) (r : Unit) : VS := ⟨mkA [(2, vb false)], [], .nil⟩
def nspeculumlaw08_Past_l0_0_e1 (a0 : (List SCoatEvent)) (r : Unit) : VS := ⟨mkA [], [], .nil⟩
def nspeculumlaw08_Past_l0_0 (k : Nat) (a0 : (List SCoatEvent)) : Nat → Int → Option (Sum Unit Unit)
  | 0, _ => none
  | fuel + 1, x3 => if x3 < (a0.length : Int) then (if 0 ≤ x3 ∧ x3 < (a0.length : Int) then (if 20 < (((a0.getD x3.toNat default).Mirror).size : Int) then (some (.inl ())) else (nspeculumlaw08_Past_l0_0 k a0 fuel (w64 (x3 + 1)))) else none) else (some (.inr ()))
theorem nspeculumlaw08_Past_l0_0_ok (k : Nat) (a0 : (List SCoatEvent)) : ∀ (fuel : Nat) (x3 : Int) (r : Sum Unit Unit), nspeculumlaw08_Past_l0_0 k a0 fuel x3 = some r → (match r with | .inl r => VLoop none Go.Proofs.Try.prog (szF Go.Proofs.Try.f5) (bodyOf Go.Proofs.Try.f5 0) (nspeculumlaw08_Past_l0_0_h a0 x3) .ret (nspeculumlaw08_Past_l0_0_e0 a0 r) | .inr r => VLoop none Go.Proofs.Try.prog (szF Go.Proofs.Try.f5) (bodyOf Go.Proofs.Try.f5 0) (nspeculumlaw08_Past_l0_0_h a0 x3) (.exit 0) (nspeculumlaw08_Past_l0_0_e1 a0 r)) := by
 intro fuel
 induction fuel with
 | zero => intro x3 r h; rw [nspeculumlaw08_Past_l0_0.eq_1] at h; cases h
 | succ fuel ih =>
  intro x3 r h
  rw [nspeculumlaw08_Past_l0_0.eq_2] at h
  rcases ifs h with ⟨h165, h⟩ | ⟨h165, h⟩
  ·obtain ⟨h166, h⟩ := ifn h
   have e167 := (show loadL Go.Proofs.Try.prog 9 (x3.toNat * 3 + 0) (List.flatMap c_SCoatEvent a0) = some (vs ((a0.getD x3.toNat default).Mirror)) from (ld_flat ag9 c_SCoatEvent 3 0 len_c_SCoatEvent (by omega) a0 default h166 (by omega)).trans rfl)
   have e168 := (ti (ti (an h166 (ti (an e167 (ti (ti trivial)))))))
   rcases ifs h with ⟨h169, h⟩ | ⟨h169, h⟩
   ·injection h with h; subst h
    exact round_stop (c := ⟨[(2, none)], [], []⟩) (s1 := (nspeculumlaw08_Past_l0_0_e0 a0 ())) pm pn (ans := [.reg (nN 4 []), .br true, .reg (nN 4 (.v (vs ((a0.getD x3.toNat default).Mirror)) :: .n :: .n :: [])), .br true, .reg (.n :: [])]) (by kernel_rfl) (by intro e; cases e) (an (an (an (ti (ti (ti (ti trivial)))) (an (decide_eq_true h165) trivial)) (an e168 (an (decide_eq_true h169) (an (ti trivial) trivial)))) (ti trivial))
   ·have h2 := ih _ _ h
    obtain ⟨q, hv, hq⟩ := pkR (rd := none) (P := Go.Proofs.Try.prog) (fn := Go.Proofs.Try.f5) (k := 0) (s := (nspeculumlaw08_Past_l0_0_h a0 x3)) (ans := [.reg (nN 4 []), .br true, .reg (nN 4 (.v (vs ((a0.getD x3.toNat default).Mirror)) :: .n :: .n :: [])), .br false, .reg (nN 3 [])]) (c := ⟨[(0, none), (3, none)], [], []⟩) (e := .normal) (s1 := (nspeculumlaw08_Past_l0_0_h a0 (w64 (x3 + 1)))) (an (an (an (ti (ti (ti (ti trivial)))) (an (decide_eq_true h165) trivial)) (an (an e168 (an (decide_eq_false h169) trivial)) (ti (ti (ti trivial))))) (ti trivial)) (by kernel_rfl)
    cases r with
    | inl r => exact round_next pm pn hv hq h2
    | inr r =>
     exact round_next pm pn hv hq h2
  ·injection h with h; subst h
   exact round_stop (c := ⟨[], [], []⟩) (s1 := (nspeculumlaw08_Past_l0_0_e1 a0 ())) pm pn (ans := [.reg (nN 4 []), .br false]) (by kernel_rfl) (by intro e; cases e) (an (an (ti (ti (ti (ti trivial)))) (an (decide_eq_false h165) trivial)) (ti trivial))
def nspeculumlaw08_Past_l0_1_h (a0 : (List SCoatEvent)) (x3 : Int) : VS := ⟨mkA [(0, VV.tr (List.flatMap c_SCoatEvent a0) a0.length), (3, vi x3)], [], .nil⟩
def nspeculumlaw08_Past_l0_1_e0 (a0 : (List SCoatEvent)) (r : Unit) : VS := ⟨mkA [(2, vb false)], [], .nil⟩
def nspeculumlaw08_Past_l0_1_e1 (a0 : (List SCoatEvent)) (r : Unit) : VS := ⟨mkA [], [], .nil⟩
def nspeculumlaw08_Past_l0_1 (k : Nat) (a0 : (List SCoatEvent)) : Nat → Int → Option (Sum Unit Unit)
  | 0, _ => none
  | fuel + 1, x3 => if x3 < (a0.length : Int) then (if 0 ≤ x3 ∧ x3 < (a0.length : Int) then (if 20 < (((a0.getD x3.toNat default).Mirror).size : Int) then (some (.inl ())) else (nspeculumlaw08_Past_l0_1 k a0 fuel (w64 (x3 + 1)))) else none) else (some (.inr ()))
theorem nspeculumlaw08_Past_l0_1_ok (k : Nat) (a0 : (List SCoatEvent)) : ∀ (fuel : Nat) (x3 : Int) (r : Sum Unit Unit), nspeculumlaw08_Past_l0_1 k a0 fuel x3 = some r → (match r with | .inl r => VLoop none Go.Proofs.Try.prog (szF Go.Proofs.Try.f5) (bodyOf Go.Proofs.Try.f5 0) (nspeculumlaw08_Past_l0_1_h a0 x3) .ret (nspeculumlaw08_Past_l0_1_e0 a0 r) | .inr r => VLoop none Go.Proofs.Try.prog (szF Go.Proofs.Try.f5) (bodyOf Go.Proofs.Try.f5 0) (nspeculumlaw08_Past_l0_1_h a0 x3) (.exit 0) (nspeculumlaw08_Past_l0_1_e1 a0 r)) := by
 intro fuel
 induction fuel with
 | zero => intro x3 r h; rw [nspeculumlaw08_Past_l0_1.eq_1] at h; cases h
 | succ fuel ih =>
  intro x3 r h
  rw [nspeculumlaw08_Past_l0_1.eq_2] at h
  rcases ifs h with ⟨h188, h⟩ | ⟨h188, h⟩
  ·obtain ⟨h189, h⟩ := ifn h
   have e190 := (show loadL Go.Proofs.Try.prog 9 (x3.toNat * 3 + 0) (List.flatMap c_SCoatEvent a0) = some (vs ((a0.getD x3.toNat default).Mirror)) from (ld_flat ag9 c_SCoatEvent 3 0 len_c_SCoatEvent (by omega) a0 default h189 (by omega)).trans rfl)
   have e191 := (ti (ti (an h189 (ti (an e190 (ti (ti trivial)))))))
   rcases ifs h with ⟨h192, h⟩ | ⟨h192, h⟩
   ·injection h with h; subst h
    exact round_stop (c := ⟨[(2, none)], [], []⟩) (s1 := (nspeculumlaw08_Past_l0_1_e0 a0 ())) pm pn (ans := [.reg (nN 4 []), .br true, .reg (nN 4 (.v (vs ((a0.getD x3.toNat default).Mirror)) :: .n :: .n :: [])), .br true, .reg (.n :: [])]) (by kernel_rfl) (by intro e; cases e) (an (an (an (ti (ti (ti (ti trivial)))) (an (decide_eq_true h188) trivial)) (an e191 (an (decide_eq_true h192) (an (ti trivial) trivial)))) (ti trivial))
   ·have h2 := ih _ _ h
    obtain ⟨q, hv, hq⟩ := pkR (rd := none) (P := Go.Proofs.Try.prog) (fn := Go.Proofs.Try.f5) (k := 0) (s := (nspeculumlaw08_Past_l0_1_h a0 x3)) (ans := [.reg (nN 4 []), .br true, .reg (nN 4 (.v (vs ((a0.getD x3.toNat default).Mirror)) :: .n :: .n :: [])), .br false, .reg (nN 3 [])]) (c := ⟨[(0, none), (3, none)], [], []⟩) (e := .normal) (s1 := (nspeculumlaw08_Past_l0_1_h a0 (w64 (x3 + 1)))) (an (an (an (ti (ti (ti (ti trivial)))) (an (decide_eq_true h188) trivial)) (an (an e191 (an (decide_eq_false h192) trivial)) (ti (ti (ti trivial))))) (ti trivial)) (by kernel_rfl)
    cases r with
    | inl r => exact round_next pm pn hv hq h2
    | inr r =>
     exact round_next pm pn hv hq h2
  ·injection h with h; subst h
   exact round_stop (c := ⟨[], [], []⟩) (s1 := (nspeculumlaw08_Past_l0_1_e1 a0 ())) pm pn (ans := [.reg (nN 4 []), .br false]) (by kernel_rfl) (by intro e; cases e) (an (an (ti (ti (ti (ti trivial)))) (an (decide_eq_false h188) trivial)) (ti trivial))
def nspeculumlaw08_Past (k : Nat) (a0 : (List SCoatEvent)) : Option Bool :=
  if 10 < (a0.length : Int) then (if (a0.length : Int) ≤ 40 then (some false) else (if 43 < (a0.length : Int) then (some false) else ((nspeculumlaw08_Past_l0_0 k a0 k 0).bind fun r171 => (match r171 with | .inl r172 => (some false) | .inr r173 => (some true))))) else (if 43 < (a0.length : Int) then (some false) else ((nspeculumlaw08_Past_l0_1 k a0 k 0).bind fun r194 => (match r194 with | .inl r195 => (some false) | .inr r196 => (some true))))
theorem nspeculumlaw08_Past_ok (k : Nat) (a0 : (List SCoatEvent)) (r : Bool) (h : nspeculumlaw08_Past k a0 = some r) : VC Go.Proofs.Try.prog 5 [VV.tr (List.flatMap c_SCoatEvent a0) a0.length] (vb r) := by
 unfold nspeculumlaw08_Past at h
 rcases ifs h with ⟨h150, h⟩ | ⟨h150, h⟩
 ·rcases ifs h with ⟨h151, h⟩ | ⟨h151, h⟩
  ·have e152 := (ti (ti (ti (ti (an (an (decide_eq_true h150) trivial) (an (an (decide_eq_true h150) trivial) (an (an (decide_eq_true h150) trivial) (an (decide_eq_true h150) (ti (an (decide_eq_true h151) (an (decide_eq_true h151) (an (decide_eq_true h151) (an (decide_eq_true h151) trivial)))))))))))))
   injection h with h; subst h
   exact fun_ok pm pn Go.Proofs.Try.func5 (r0 := vb false) (ans := [.reg (.n :: []), .reg (nN 7 (.b true :: .n :: nS 3 (.b true :: []))), .br true, .reg (.n :: [])]) (fr := true) (by kernel_rfl) (an (an (ti trivial) (an e152 (an rt (an (ti trivial) trivial)))) (ti trivial)) (Wv.refl _)
  ·have e153 := (ti (ti (ti (ti (an (an (decide_eq_true h150) trivial) (an (an (decide_eq_true h150) trivial) (an (an (decide_eq_true h150) trivial) (an (decide_eq_true h150) (ti (an (an (decide_eq_false h151) trivial) (an (an (decide_eq_false h151) trivial) (an (an (decide_eq_false h151) trivial) (an (decide_eq_false h151) trivial)))))))))))))
   rcases ifs h with ⟨h154, h⟩ | ⟨h154, h⟩
   ·injection h with h; subst h
    exact fun_ok pm pn Go.Proofs.Try.func5 (r0 := vb false) (ans := [.reg (.n :: []), .reg (nN 7 (.b true :: nN 4 (.b false :: []))), .br true, .reg (.n :: [])]) (fr := true) (by kernel_rfl) (an (an (ti trivial) (an e153 (an (decide_eq_true h154) (an (ti trivial) trivial)))) (ti trivial)) (Wv.refl _)
   ·obtain ⟨r171, h170, h⟩ := bs h
    have hph170 := nspeculumlaw08_Past_l0_0_ok k a0 _ _ _ h170
    cases r171 with
    | inl r172 =>
     dsimp only at h
     have e174 := (an (ti trivial) (VRun.loop hph170))
     injection h with h; subst h
     exact fun_ok pm pn Go.Proofs.Try.func5 (r0 := vb false) (ans := [.reg (.n :: []), .reg (nN 7 (.b true :: nN 4 (.b false :: []))), .br false, .reg (.n :: []), .sub ⟨[(0, none), (3, none)], [], []⟩ .ret (nspeculumlaw08_Past_l0_0_e0 a0 r172)]) (fr := true) (by kernel_rfl) (an (an (ti trivial) (an (an e153 (an (decide_eq_false h154) trivial)) (an (ti trivial) e174))) (ti trivial)) (Wv.refl _)
    | inr r173 =>
     dsimp only at h
     have e175 := (an (ti trivial) (VRun.loop hph170))
     injection h with h; subst h
     exact fun_ok pm pn Go.Proofs.Try.func5 (r0 := vb true) (ans := [.reg (.n :: []), .reg (nN 7 (.b true :: nN 4 (.b false :: []))), .br false, .reg (.n :: []), .sub ⟨[(0, none), (3, none)], [], []⟩ (.exit 0) (nspeculumlaw08_Past_l0_0_e1 a0 r173), .reg (.n :: [])]) (fr := true) (by kernel_rfl) (an (an (ti trivial) (an (an e153 (an (decide_eq_false h154) trivial)) (an (an (ti trivial) e175) (an (ti trivial) trivial)))) (ti trivial)) (Wv.refl _)
 ·have e176 := (ti (ti (ti (ti (an (decide_eq_false h150) (an (decide_eq_false h150) (an (decide_eq_false h150) (an (decide_eq_false h150) (ti (an (an rf trivial) (an (an rf trivial) (an (an rf trivial) (an rf trivial)))))))))))))
  rcases ifs h with ⟨h177, h⟩ | ⟨h177, h⟩
  ·injection h with h; subst h
   exact fun_ok pm pn Go.Proofs.Try.func5 (r0 := vb false) (ans := [.reg (.n :: []), .reg (nN 4 (nS 3 (.b false :: nN 4 (.b false :: [])))), .br true, .reg (.n :: [])]) (fr := true) (by kernel_rfl) (an (an (ti trivial) (an e176 (an (decide_eq_true h177) (an (ti trivial) trivial)))) (ti trivial)) (Wv.refl _)
  ·obtain ⟨r194, h193, h⟩ := bs h
   have hph193 := nspeculumlaw08_Past_l0_1_ok k a0 _ _ _ h193
   cases r194 with
   | inl r195 =>
    dsimp only at h
    have e197 := (an (ti trivial) (VRun.loop hph193))
    injection h with h; subst h
    exact fun_ok pm pn Go.Proofs.Try.func5 (r0 := vb false) (ans := [.reg (.n :: []), .reg (nN 4 (nS 3 (.b false :: nN 4 (.b false :: [])))), .br false, .reg (.n :: []), .sub ⟨[(0, none), (3, none)], [], []⟩ .ret (nspeculumlaw08_Past_l0_1_e0 a0 r195)]) (fr := true) (by kernel_rfl) (an (an (ti trivial) (an (an e176 (an (decide_eq_false h177) trivial)) (an (ti trivial) e197))) (ti trivial)) (Wv.refl _)
   | inr r196 =>
    dsimp only at h
    have e198 := (an (ti trivial) (VRun.loop hph193))
    injection h with h; subst h
    exact fun_ok pm pn Go.Proofs.Try.func5 (r0 := vb true) (ans := [.reg (.n :: []), .reg (nN 4 (nS 3 (.b false :: nN 4 (.b false :: [])))), .br false, .reg (.n :: []), .sub ⟨[(0, none), (3, none)], [], []⟩ (.exit 0) (nspeculumlaw08_Past_l0_1_e1 a0 r196), .reg (.n :: [])]) (fr := true) (by kernel_rfl) (an (an (ti trivial) (an (an e176 (an (decide_eq_false h177) trivial)) (an (an (ti trivial) e198) (an (ti trivial) trivial)))) (ti trivial)) (Wv.refl _)
def ncoat_isWithin (k : Nat) (a0 : Int) (a1 : Int) (a2 : SRange) : Option Bool :=
  if a0 ≤ a2.Lo then (if a2.Lo ≤ a2.Hi then (some (decide (a2.Hi ≤ a1))) else (some false)) else (some false)
theorem ncoat_isWithin_ok (k : Nat) (a0 : Int) (a1 : Int) (a2 : SRange) (r : Bool) (h : ncoat_isWithin k a0 a1 a2 = some r) : VC Go.Proofs.Try.prog 38 [vi a0, vi a1, VV.ag (c_SRange a2)] (vb r) := by
 unfold ncoat_isWithin at h
 rcases ifs h with ⟨h205, h⟩ | ⟨h205, h⟩
 ·rcases ifs h with ⟨h206, h⟩ | ⟨h206, h⟩
  ·have e207 := (ti (ti (ti (ti (ti (an (an (decide_eq_true h205) trivial) (an (an (decide_eq_true h205) trivial) (an (an (decide_eq_true h205) trivial) (an (an (decide_eq_true h205) trivial) (an (an (decide_eq_true h205) trivial) (an (decide_eq_true h205) (ti (an (an (decide_eq_true h206) trivial) (an (an (decide_eq_true h206) trivial) (an (an (decide_eq_true h206) trivial) (an (an (decide_eq_true h206) trivial) (an (decide_eq_true h206) (ti trivial))))))))))))))))))
   injection h with h; subst h
   exact fun_ok pm pn Go.Proofs.Try.func38 (r0 := vb (decide (a2.Hi ≤ a1))) (ans := [.reg (.n :: .n :: []), .reg (nN 10 (.b true :: nN 5 (.b true :: .n :: [])))]) (fr := true) (by kernel_rfl) (an (an (ti (ti trivial)) (an e207 trivial)) (ti trivial)) (Wv.refl _)
  ·have e208 := (ti (ti (ti (ti (ti (an (an (decide_eq_true h205) trivial) (an (an (decide_eq_true h205) trivial) (an (an (decide_eq_true h205) trivial) (an (an (decide_eq_true h205) trivial) (an (an (decide_eq_true h205) trivial) (an (decide_eq_true h205) (ti (an (decide_eq_false h206) (an (decide_eq_false h206) (an (decide_eq_false h206) (an (decide_eq_false h206) (an (decide_eq_false h206) (ti trivial))))))))))))))))))
   injection h with h; subst h
   exact fun_ok pm pn Go.Proofs.Try.func38 (r0 := vb false) (ans := [.reg (.n :: .n :: []), .reg (nN 10 (.b true :: .n :: nS 4 (.b false :: .n :: [])))]) (fr := true) (by kernel_rfl) (an (an (ti (ti trivial)) (an e208 trivial)) (ti trivial)) (Wv.refl _)
 ·have e209 := (ti (ti (ti (ti (ti (an (decide_eq_false h205) (an (decide_eq_false h205) (an (decide_eq_false h205) (an (decide_eq_false h205) (an (decide_eq_false h205) (an (decide_eq_false h205) (ti (an rf (an rf (an rf (an rf (an rf (ti trivial))))))))))))))))))
  injection h with h; subst h
  exact fun_ok pm pn Go.Proofs.Try.func38 (r0 := vb false) (ans := [.reg (.n :: .n :: []), .reg (nN 5 (nS 5 (.b false :: .n :: nS 4 (.b false :: .n :: []))))]) (fr := true) (by kernel_rfl) (an (an (ti (ti trivial)) (an e209 trivial)) (ti trivial)) (Wv.refl _)
def ncoat_areWithin_l0_0_h (a0 : Int) (a1 : Int) (a2 : (List Int)) (x11 : Int) : VS := ⟨mkA [(0, vi a0), (1, vi a1), (9, VV.tr (List.map vi a2) a2.length), (10, vi (a2.length : Int)), (11, vi x11)], [], .nil⟩
def ncoat_areWithin_l0_0_e0 (a0 : Int) (a1 : Int) (a2 : (List Int)) (r : Unit) : VS := ⟨mkA [(6, vb false)], [], .nil⟩
def ncoat_areWithin_l0_0_e1 (a0 : Int) (a1 : Int) (a2 : (List Int)) (r : Unit) : VS := ⟨mkA [], [], .nil⟩
def ncoat_areWithin_l0_0 (k : Nat) (a0 : Int) (a1 : Int) (a2 : (List Int)) : Nat → Int → Option (Sum Unit Unit)
  | 0, _ => none
  | fuel + 1, x11 => if x11 < (a2.length : Int) then (if 0 ≤ x11 ∧ x11 < (a2.length : Int) then (if (a2.getD x11.toNat 0) < a0 then (some (.inl ())) else (if a1 < (a2.getD x11.toNat 0) then (some (.inl ())) else (ncoat_areWithin_l0_0 k a0 a1 a2 fuel (w64 (x11 + 1))))) else none) else (some (.inr ()))
theorem ncoat_areWithin_l0_0_ok (k : Nat) (a0 : Int) (a1 : Int) (a2 : (List Int)) : ∀ (fuel : Nat) (x11 : Int) (r : Sum Unit Unit), ncoat_areWithin_l0_0 k a0 a1 a2 fuel x11 = some r → (match r with | .inl r => VLoop none Go.Proofs.Try.prog (szF Go.Proofs.Try.f20) (bodyOf Go.Proofs.Try.f20 0) (ncoat_areWithin_l0_0_h a0 a1 a2 x11) .ret (ncoat_areWithin_l0_0_e0 a0 a1 a2 r) | .inr r => VLoop none Go.Proofs.Try.prog (szF Go.Proofs.Try.f20) (bodyOf Go.Proofs.Try.f20 0) (ncoat_areWithin_l0_0_h a0 a1 a2 x11) (.exit 0) (ncoat_areWithin_l0_0_e1 a0 a1 a2 r)) := by
 intro fuel
 induction fuel with
 | zero => intro x11 r h; rw [ncoat_areWithin_l0_0.eq_1] at h; cases h
 | succ fuel ih =>
  intro x11 r h
  rw [ncoat_areWithin_l0_0.eq_2] at h
  rcases ifs h with ⟨h299, h⟩ | ⟨h299, h⟩
  ·obtain ⟨h300, h⟩ := ifn h
   have e301 := (show loadL Go.Proofs.Try.prog 3 (x11.toNat * 1) (List.map vi a2) = some (vi (a2.getD x11.toNat 0)) from ld_map ag3 vi a2 0 h300 (by omega))
   rcases ifs h with ⟨h302, h⟩ | ⟨h302, h⟩
   ·have e303 := (ti (ti (ti (ti (an (decide_eq_true h302) (an (decide_eq_true h302) (an (decide_eq_true h302) (an (decide_eq_true h302) trivial))))))))
    injection h with h; subst h
    exact round_stop (c := ⟨[(6, none)], [], []⟩) (s1 := (ncoat_areWithin_l0_0_e0 a0 a1 a2 ())) pm pn (ans := [.reg (.n :: []), .br true, .reg (.n :: .v (vi (a2.getD x11.toNat 0)) :: .n :: []), .reg (nN 4 (nS 3 (.b true :: []))), .br true, .reg (.n :: [])]) (by kernel_rfl) (by intro e; cases e) (an (an (ti trivial) (an (an (decide_eq_true h299) trivial) (an (an h300 (an e301 (ti trivial))) (an e303 (an rt (an (ti trivial) trivial)))))) (ti trivial))
   ·have e304 := (ti (ti (ti (ti (an (an (decide_eq_false h302) trivial) (an (an (decide_eq_false h302) trivial) (an (an (decide_eq_false h302) trivial) (an (decide_eq_false h302) trivial))))))))
    rcases ifs h with ⟨h305, h⟩ | ⟨h305, h⟩
    ·injection h with h; subst h
     exact round_stop (c := ⟨[(6, none)], [], []⟩) (s1 := (ncoat_areWithin_l0_0_e0 a0 a1 a2 ())) pm pn (ans := [.reg (.n :: []), .br true, .reg (.n :: .v (vi (a2.getD x11.toNat 0)) :: .n :: []), .reg (nN 7 (.b false :: [])), .br true, .reg (.n :: [])]) (by kernel_rfl) (by intro e; cases e) (an (an (ti trivial) (an (an (decide_eq_true h299) trivial) (an (an h300 (an e301 (ti trivial))) (an e304 (an (decide_eq_true h305) (an (ti trivial) trivial)))))) (ti trivial))
    ·have h2 := ih _ _ h
     obtain ⟨q, hv, hq⟩ := pkR (rd := none) (P := Go.Proofs.Try.prog) (fn := Go.Proofs.Try.f20) (k := 0) (s := (ncoat_areWithin_l0_0_h a0 a1 a2 x11)) (ans := [.reg (.n :: []), .br true, .reg (.n :: .v (vi (a2.getD x11.toNat 0)) :: .n :: []), .reg (nN 7 (.b false :: [])), .br false, .reg (.n :: .n :: [])]) (c := ⟨[(0, none), (1, none), (9, none), (10, none), (11, none)], [], []⟩) (e := .normal) (s1 := (ncoat_areWithin_l0_0_h a0 a1 a2 (w64 (x11 + 1)))) (an (an (ti trivial) (an (an (decide_eq_true h299) trivial) (an (an (an h300 (an e301 (ti trivial))) (an e304 (an (decide_eq_false h305) trivial))) (ti (ti trivial))))) (ti trivial)) (by kernel_rfl)
     cases r with
     | inl r => exact round_next pm pn hv hq h2
     | inr r =>
      exact round_next pm pn hv hq h2
  ·injection h with h; subst h
   exact round_stop (c := ⟨[], [], []⟩) (s1 := (ncoat_areWithin_l0_0_e1 a0 a1 a2 ())) pm pn (ans := [.reg (.n :: []), .br false]) (by kernel_rfl) (by intro e; cases e) (an (an (ti trivial) (an (decide_eq_false h299) trivial)) (ti trivial))
def ncoat_areWithin (k : Nat) (a0 : Int) (a1 : Int) (a2 : (List Int)) : Option Bool :=
  (ncoat_areWithin_l0_0 k a0 a1 a2 k 0).bind fun r307 => (match r307 with | .inl r308 => (some false) | .inr r309 => (some true))
theorem ncoat_areWithin_ok (k : Nat) (a0 : Int) (a1 : Int) (a2 : (List Int)) (r : Bool) (h : ncoat_areWithin k a0 a1 a2 = some r) : VC Go.Proofs.Try.prog 20 [vi a0, vi a1, VV.tr (List.map vi a2) a2.length] (vb r) := by
 unfold ncoat_areWithin at h
 obtain ⟨r307, h306, h⟩ := bs h
 have hph306 := ncoat_areWithin_l0_0_ok k a0 a1 a2 _ _ _ h306
 cases r307 with
 | inl r308 =>
  dsimp only at h
  have e310 := (an (ti trivial) (VRun.loop hph306))
  injection h with h; subst h
  exact fun_ok pm pn Go.Proofs.Try.func20 (r0 := vb false) (ans := [.reg (.n :: []), .reg (nN 3 []), .sub ⟨[(0, none), (1, none), (9, none), (10, none), (11, none)], [], []⟩ .ret (ncoat_areWithin_l0_0_e0 a0 a1 a2 r308)]) (fr := true) (by kernel_rfl) (an (an (ti trivial) (an (ti (ti (ti trivial))) e310)) (ti trivial)) (Wv.refl _)
 | inr r309 =>
  dsimp only at h
  have e311 := (an (ti trivial) (VRun.loop hph306))
  injection h with h; subst h
  exact fun_ok pm pn Go.Proofs.Try.func20 (r0 := vb true) (ans := [.reg (.n :: []), .reg (nN 3 []), .sub ⟨[(0, none), (1, none), (9, none), (10, none), (11, none)], [], []⟩ (.exit 0) (ncoat_areWithin_l0_0_e1 a0 a1 a2 r309), .reg (.n :: [])]) (fr := true) (by kernel_rfl) (an (an (ti trivial) (an (an (ti (ti (ti trivial))) e311) (an (ti trivial) trivial))) (ti trivial)) (Wv.refl _)
theorem eqTC1_0 (z0 : SAging) : [vi 0, vi 100, VV.tr (List.map vi ([z0.Washes] : List Int)) (([z0.Washes] : List Int).length)] = [vi 0, vi 100, VV.tr [vi z0.Washes] 1] := by first | rfl | (simp only [unfr_vi, List.map_cons, List.map_nil, un_i, un_tr, List.length_map, List.length_cons, List.length_nil]; done) | (simp only [unfr_vi, List.map_cons, List.map_nil, un_i, un_tr, List.length_map, List.length_cons, List.length_nil]; rfl) | (simp only [unfr_vi, List.map_cons, List.map_nil, un_i, un_tr, List.length_map, List.length_cons, List.length_nil, List.length_cons, List.length_nil, List.length_append]; done)
def ncoat_CheckAging_l0_0_h (a0 : SAging) (x12 : Int) : VS := ⟨mkA [(1, VV.pt 0 0), (11, VV.ag [vi a0.Fresh.Lo, vi a0.Fresh.Hi, vi a0.Loss.Lo, vi a0.Loss.Hi, vi a0.Back.Lo, vi a0.Back.Hi]), (12, vi x12)], [some ⟨true, 1, c_SAging a0⟩], .nil⟩
def ncoat_CheckAging_l0_0_e0 (a0 : SAging) (r : Unit) : VS := ⟨mkA [(2, vi 2)], [], .nil⟩
def ncoat_CheckAging_l0_0_e1 (a0 : SAging) (r : Unit) : VS := ⟨mkA [(1, VV.pt 0 0)], [some ⟨true, 1, c_SAging a0⟩], .nil⟩
def ncoat_CheckAging_l0_0 (k : Nat) (a0 : SAging) : Nat → Int → Option (Sum Unit Unit)
  | 0, _ => none
  | fuel + 1, x12 => if x12 < 3 then (if x12 = 0 then ((ncoat_isWithin k 0 1000 a0.Fresh).bind fun r343 => (if r343 = true then (ncoat_CheckAging_l0_0 k a0 fuel (w64 (x12 + 1))) else (some (.inl ())))) else (if x12 = 1 then ((ncoat_isWithin k 0 1000 a0.Loss).bind fun r349 => (if r349 = true then (ncoat_CheckAging_l0_0 k a0 fuel (w64 (x12 + 1))) else (some (.inl ())))) else (if x12 = 2 then ((ncoat_isWithin k 0 1000 a0.Back).bind fun r355 => (if r355 = true then (ncoat_CheckAging_l0_0 k a0 fuel (w64 (x12 + 1))) else (some (.inl ())))) else none))) else (some (.inr ()))
theorem ncoat_CheckAging_l0_0_ok (k : Nat) (a0 : SAging) : ∀ (fuel : Nat) (x12 : Int) (r : Sum Unit Unit), ncoat_CheckAging_l0_0 k a0 fuel x12 = some r → (match r with | .inl r => VLoop none Go.Proofs.Try.prog (szF Go.Proofs.Try.f34) (bodyOf Go.Proofs.Try.f34 0) (ncoat_CheckAging_l0_0_h a0 x12) .ret (ncoat_CheckAging_l0_0_e0 a0 r) | .inr r => VLoop none Go.Proofs.Try.prog (szF Go.Proofs.Try.f34) (bodyOf Go.Proofs.Try.f34 0) (ncoat_CheckAging_l0_0_h a0 x12) (.exit 0) (ncoat_CheckAging_l0_0_e1 a0 r)) := by
 intro fuel
 induction fuel with
 | zero => intro x12 r h; rw [ncoat_CheckAging_l0_0.eq_1] at h; cases h
 | succ fuel ih =>
  intro x12 r h
  rw [ncoat_CheckAging_l0_0.eq_2] at h
  rcases ifs h with ⟨h340, h⟩ | ⟨h340, h⟩
  ·rcases ifs h with ⟨h341, h⟩ | ⟨h341, h⟩
   ·have e342 := (show (0:Int) ≤ x12 ∧ x12 < ((3 : Nat) : Int) ∧ partV (x12.toNat * 2) (some 2) [vi a0.Fresh.Lo, vi a0.Fresh.Hi, vi a0.Loss.Lo, vi a0.Loss.Hi, vi a0.Back.Lo, vi a0.Back.Hi] = some (VV.ag (c_SRange a0.Fresh)) from ⟨by have := (of_decide_eq_true (decide_eq_true h341)); omega, by have := (of_decide_eq_true (decide_eq_true h341)); omega, by rw [show x12 = (0 : Int) from (of_decide_eq_true (decide_eq_true h341))]; rfl⟩)
    obtain ⟨r343, h344, h⟩ := bs h
    have e345 := (ncoat_isWithin_ok k 0 1000 a0.Fresh _ h344)
    rcases ifs h with ⟨h346, h⟩ | ⟨h346, h⟩
    ·have h2 := ih _ _ h
     obtain ⟨q, hv, hq⟩ := pkR (rd := none) (P := Go.Proofs.Try.prog) (fn := Go.Proofs.Try.f34) (k := 0) (s := (ncoat_CheckAging_l0_0_h a0 x12)) (ans := [.reg (.n :: []), .br true, .reg (.v (VV.ag (c_SRange a0.Fresh)) :: .n :: .n :: []), .reg (.n :: .call (vb r343) :: .n :: []), .br false, .reg (.n :: .n :: [])]) (c := ⟨[(1, none), (11, none), (12, none)], [none], []⟩) (e := .normal) (s1 := (ncoat_CheckAging_l0_0_h a0 (w64 (x12 + 1)))) (an (an (ti trivial) (an (an (decide_eq_true h340) trivial) (an (an (an e342 (ti (ti trivial))) (an (ti (an e345 (ti trivial))) (an (not_f h346) trivial))) (ti (ti trivial))))) (ti trivial)) (by kernel_rfl)
     cases r with
     | inl r => exact round_next pm pn hv hq h2
     | inr r =>
      exact round_next pm pn hv hq h2
    ·injection h with h; subst h
     exact round_stop (c := ⟨[(2, none)], [], []⟩) (s1 := (ncoat_CheckAging_l0_0_e0 a0 ())) pm pn (ans := [.reg (.n :: []), .br true, .reg (.v (VV.ag (c_SRange a0.Fresh)) :: .n :: .n :: []), .reg (.n :: .call (vb r343) :: .n :: []), .br true, .reg (.n :: [])]) (by kernel_rfl) (by intro e; cases e) (an (an (ti trivial) (an (an (decide_eq_true h340) trivial) (an (an e342 (ti (ti trivial))) (an (ti (an e345 (ti trivial))) (an (not_t (bool_f h346)) (an (ti trivial) trivial)))))) (ti trivial))
   ·rcases ifs h with ⟨h347, h⟩ | ⟨h347, h⟩
    ·have e348 := (show (0:Int) ≤ x12 ∧ x12 < ((3 : Nat) : Int) ∧ partV (x12.toNat * 2) (some 2) [vi a0.Fresh.Lo, vi a0.Fresh.Hi, vi a0.Loss.Lo, vi a0.Loss.Hi, vi a0.Back.Lo, vi a0.Back.Hi] = some (VV.ag (c_SRange a0.Loss)) from ⟨by have := (of_decide_eq_true (decide_eq_true h347)); omega, by have := (of_decide_eq_true (decide_eq_true h347)); omega, by rw [show x12 = (1 : Int) from (of_decide_eq_true (decide_eq_true h347))]; rfl⟩)
     obtain ⟨r349, h350, h⟩ := bs h
     have e351 := (ncoat_isWithin_ok k 0 1000 a0.Loss _ h350)
     rcases ifs h with ⟨h352, h⟩ | ⟨h352, h⟩
     ·have h2 := ih _ _ h
      obtain ⟨q, hv, hq⟩ := pkR (rd := none) (P := Go.Proofs.Try.prog) (fn := Go.Proofs.Try.f34) (k := 0) (s := (ncoat_CheckAging_l0_0_h a0 x12)) (ans := [.reg (.n :: []), .br true, .reg (.v (VV.ag (c_SRange a0.Loss)) :: .n :: .n :: []), .reg (.n :: .call (vb r349) :: .n :: []), .br false, .reg (.n :: .n :: [])]) (c := ⟨[(1, none), (11, none), (12, none)], [none], []⟩) (e := .normal) (s1 := (ncoat_CheckAging_l0_0_h a0 (w64 (x12 + 1)))) (an (an (ti trivial) (an (an (decide_eq_true h340) trivial) (an (an (an e348 (ti (ti trivial))) (an (ti (an e351 (ti trivial))) (an (not_f h352) trivial))) (ti (ti trivial))))) (ti trivial)) (by kernel_rfl)
      cases r with
      | inl r => exact round_next pm pn hv hq h2
      | inr r =>
       exact round_next pm pn hv hq h2
     ·injection h with h; subst h
      exact round_stop (c := ⟨[(2, none)], [], []⟩) (s1 := (ncoat_CheckAging_l0_0_e0 a0 ())) pm pn (ans := [.reg (.n :: []), .br true, .reg (.v (VV.ag (c_SRange a0.Loss)) :: .n :: .n :: []), .reg (.n :: .call (vb r349) :: .n :: []), .br true, .reg (.n :: [])]) (by kernel_rfl) (by intro e; cases e) (an (an (ti trivial) (an (an (decide_eq_true h340) trivial) (an (an e348 (ti (ti trivial))) (an (ti (an e351 (ti trivial))) (an (not_t (bool_f h352)) (an (ti trivial) trivial)))))) (ti trivial))
    ·rcases ifs h with ⟨h353, h⟩ | ⟨h353, h⟩
     ·have e354 := (show (0:Int) ≤ x12 ∧ x12 < ((3 : Nat) : Int) ∧ partV (x12.toNat * 2) (some 2) [vi a0.Fresh.Lo, vi a0.Fresh.Hi, vi a0.Loss.Lo, vi a0.Loss.Hi, vi a0.Back.Lo, vi a0.Back.Hi] = some (VV.ag (c_SRange a0.Back)) from ⟨by have := (of_decide_eq_true (decide_eq_true h353)); omega, by have := (of_decide_eq_true (decide_eq_true h353)); omega, by rw [show x12 = (2 : Int) from (of_decide_eq_true (decide_eq_true h353))]; rfl⟩)
      obtain ⟨r355, h356, h⟩ := bs h
      have e357 := (ncoat_isWithin_ok k 0 1000 a0.Back _ h356)
      rcases ifs h with ⟨h358, h⟩ | ⟨h358, h⟩
      ·have h2 := ih _ _ h
       obtain ⟨q, hv, hq⟩ := pkR (rd := none) (P := Go.Proofs.Try.prog) (fn := Go.Proofs.Try.f34) (k := 0) (s := (ncoat_CheckAging_l0_0_h a0 x12)) (ans := [.reg (.n :: []), .br true, .reg (.v (VV.ag (c_SRange a0.Back)) :: .n :: .n :: []), .reg (.n :: .call (vb r355) :: .n :: []), .br false, .reg (.n :: .n :: [])]) (c := ⟨[(1, none), (11, none), (12, none)], [none], []⟩) (e := .normal) (s1 := (ncoat_CheckAging_l0_0_h a0 (w64 (x12 + 1)))) (an (an (ti trivial) (an (an (decide_eq_true h340) trivial) (an (an (an e354 (ti (ti trivial))) (an (ti (an e357 (ti trivial))) (an (not_f h358) trivial))) (ti (ti trivial))))) (ti trivial)) (by kernel_rfl)
       cases r with
       | inl r => exact round_next pm pn hv hq h2
       | inr r =>
        exact round_next pm pn hv hq h2
      ·injection h with h; subst h
       exact round_stop (c := ⟨[(2, none)], [], []⟩) (s1 := (ncoat_CheckAging_l0_0_e0 a0 ())) pm pn (ans := [.reg (.n :: []), .br true, .reg (.v (VV.ag (c_SRange a0.Back)) :: .n :: .n :: []), .reg (.n :: .call (vb r355) :: .n :: []), .br true, .reg (.n :: [])]) (by kernel_rfl) (by intro e; cases e) (an (an (ti trivial) (an (an (decide_eq_true h340) trivial) (an (an e354 (ti (ti trivial))) (an (ti (an e357 (ti trivial))) (an (not_t (bool_f h358)) (an (ti trivial) trivial)))))) (ti trivial))
     ·cases h
  ·injection h with h; subst h
   exact round_stop (c := ⟨[(1, none)], [none], []⟩) (s1 := (ncoat_CheckAging_l0_0_e1 a0 ())) pm pn (ans := [.reg (.n :: []), .br false]) (by kernel_rfl) (by intro e; cases e) (an (an (ti trivial) (an (decide_eq_false h340) trivial)) (ti trivial))
def ncoat_CheckAging (k : Nat) (a0 : SAging) : Option Int :=
  (ncoat_CheckAging_l0_0 k a0 k 0).bind fun r360 => (match r360 with | .inl r361 => (some 2) | .inr r362 => ((ncoat_areWithin k 0 100 ([a0.Washes] : List Int)).bind fun r365 => (if r365 = true then (some 0) else (some 2))))
theorem ncoat_CheckAging_ok (k : Nat) (a0 : SAging) (r : Int) (h : ncoat_CheckAging k a0 = some r) : VC Go.Proofs.Try.prog 34 [VV.ag (c_SAging a0)] (vi r) := by
 unfold ncoat_CheckAging at h
 obtain ⟨r360, h359, h⟩ := bs h
 have hph359 := ncoat_CheckAging_l0_0_ok k a0 _ _ _ h359
 cases r360 with
 | inl r361 =>
  dsimp only at h
  have e363 := (an (ti trivial) (VRun.loop hph359))
  injection h with h; subst h
  exact fun_ok pm pn Go.Proofs.Try.func34 (r0 := vi 2) (ans := [.reg (.n :: .n :: []), .reg (nN 8 []), .sub ⟨[(1, none), (11, none), (12, none)], [none], []⟩ .ret (ncoat_CheckAging_l0_0_e0 a0 r361)]) (fr := true) (by kernel_rfl) (an (an (ti (ti trivial)) (an (ti (ti (ti (ti (ti (ti (ti (ti trivial)))))))) e363)) (ti trivial)) (Wv.refl _)
 | inr r362 =>
  dsimp only at h
  have e364 := (an (ti trivial) (VRun.loop hph359))
  obtain ⟨r365, h366, h⟩ := bs h
  have e367 := (VC.args (ncoat_areWithin_ok k 0 100 ([a0.Washes] : List Int) _ h366) (eqTC1_0 a0))
  rcases ifs h with ⟨h368, h⟩ | ⟨h368, h⟩
  ·injection h with h; subst h
   exact fun_ok pm pn Go.Proofs.Try.func34 (r0 := vi 0) (ans := [.reg (.n :: .n :: []), .reg (nN 8 []), .sub ⟨[(1, none), (11, none), (12, none)], [none], []⟩ (.exit 0) (ncoat_CheckAging_l0_0_e1 a0 r362), .reg (.n :: .n :: .v VV.any :: .call (vb r365) :: .n :: []), .br false, .reg (.n :: [])]) (fr := true) (by kernel_rfl) (an (an (ti (ti trivial)) (an (an (ti (ti (ti (ti (ti (ti (ti (ti trivial)))))))) e364) (an (an (ti (ti (ti (an e367 (ti trivial))))) (an (not_f h368) trivial)) (an (ti trivial) trivial)))) (ti trivial)) (Wv.refl _)
  ·injection h with h; subst h
   exact fun_ok pm pn Go.Proofs.Try.func34 (r0 := vi 2) (ans := [.reg (.n :: .n :: []), .reg (nN 8 []), .sub ⟨[(1, none), (11, none), (12, none)], [none], []⟩ (.exit 0) (ncoat_CheckAging_l0_0_e1 a0 r362), .reg (.n :: .n :: .v VV.any :: .call (vb r365) :: .n :: []), .br true, .reg (.n :: [])]) (fr := true) (by kernel_rfl) (an (an (ti (ti trivial)) (an (an (ti (ti (ti (ti (ti (ti (ti (ti trivial)))))))) e364) (an (ti (ti (ti (an e367 (ti trivial))))) (an (not_t (bool_f h368)) (an (ti trivial) trivial))))) (ti trivial)) (Wv.refl _)
theorem eqTC1_1 (z0 : ByteArray) : [vi 1, vi 12, VV.tr (List.map vi ([(z0.size : Int)] : List Int)) (([(z0.size : Int)] : List Int).length)] = [vi 1, vi 12, VV.tr [vi (z0.size : Int)] 1] := by first | rfl | (simp only [unfr_vi, List.map_cons, List.map_nil, un_i, un_tr, List.length_map, List.length_cons, List.length_nil]; done) | (simp only [unfr_vi, List.map_cons, List.map_nil, un_i, un_tr, List.length_map, List.length_cons, List.length_nil]; rfl) | (simp only [unfr_vi, List.map_cons, List.map_nil, un_i, un_tr, List.length_map, List.length_cons, List.length_nil, List.length_cons, List.length_nil, List.length_append]; done)
def arTC1_0  : List Ans := (nN 3 (.skip :: .skip :: .b false :: nN 4 (.skip :: .skip :: .b false :: .b false :: .n :: [])))
def ncoat_isLetter (k : Nat) (a0 : Int) : Option Bool :=
  if 97 ≤ a0 then (if a0 ≤ 122 then (some true) else (if 65 ≤ a0 then (some (decide (a0 ≤ 90))) else (some false))) else (if 65 ≤ a0 then (some (decide (a0 ≤ 90))) else (some false))
theorem ncoat_isLetter_ok (k : Nat) (a0 : Int) (r : Bool) (h : ncoat_isLetter k a0 = some r) : VC Go.Proofs.Try.prog 46 [VV.c (.int .i32 a0)] (vb r) := by
 unfold ncoat_isLetter at h
 rcases ifs h with ⟨h395, h⟩ | ⟨h395, h⟩
 ·rcases ifs h with ⟨h396, h⟩ | ⟨h396, h⟩
  ·have e397 := (ti (ti (ti (an (an (decide_eq_true h395) trivial) (an (an (decide_eq_true h395) trivial) (an (decide_eq_true h395) (ti (an (decide_eq_true h396) (an (decide_eq_true h396) (an (decide_eq_true h396) (ti (ti (an (decide_eq_true h396) (an (decide_eq_true h396) (ti trivial)))))))))))))))
   injection h with h; subst h
   exact fun_ok pm pn Go.Proofs.Try.func46 (r0 := vb true) (ans := [.reg (.n :: []), .reg (nN 5 (.b true :: .n :: nS 6 (.b true :: .n :: [])))]) (fr := true) (by kernel_rfl) (an (an (ti trivial) (an e397 trivial)) (ti trivial)) (Wv.refl _)
  ·rcases ifs h with ⟨h398, h⟩ | ⟨h398, h⟩
   ·have e399 := (an (decide_eq_false h396) (decide_eq_true h398))
    have e400 := (ti (ti (ti (an (an (decide_eq_true h395) trivial) (an (an (decide_eq_true h395) trivial) (an (decide_eq_true h395) (ti (an (an (decide_eq_false h396) trivial) (an (an (decide_eq_false h396) trivial) (an (an (decide_eq_false h396) trivial) (an (an (decide_eq_true h398) trivial) (an (an (decide_eq_true h398) trivial) (an e399 (an (decide_eq_false h396) (ti trivial)))))))))))))))
    injection h with h; subst h
    exact fun_ok pm pn Go.Proofs.Try.func46 (r0 := vb (decide (a0 ≤ 90))) (ans := [.reg (.n :: []), .reg (nN 5 (.b true :: nN 6 (.b true :: .b false :: .n :: [])))]) (fr := true) (by kernel_rfl) (an (an (ti trivial) (an e400 trivial)) (ti trivial)) (Wv.refl _)
   ·have e401 := (an (decide_eq_false h396) (decide_eq_false h398))
    have e402 := (ti (ti (ti (an (an (decide_eq_true h395) trivial) (an (an (decide_eq_true h395) trivial) (an (decide_eq_true h395) (ti (an (an (decide_eq_false h396) trivial) (an (an (decide_eq_false h396) trivial) (an (an (decide_eq_false h396) trivial) (an (decide_eq_false h398) (an (decide_eq_false h398) (an e401 (an (decide_eq_false h396) (ti trivial)))))))))))))))
    injection h with h; subst h
    exact fun_ok pm pn Go.Proofs.Try.func46 (r0 := vb false) (ans := [.reg (.n :: []), .reg (nN 5 (.b true :: nN 4 (.skip :: .skip :: .b false :: .b false :: .n :: [])))]) (fr := true) (by kernel_rfl) (an (an (ti trivial) (an e402 trivial)) (ti trivial)) (Wv.refl _)
 ·rcases ifs h with ⟨h403, h⟩ | ⟨h403, h⟩
  ·have e404 := (ti (ti (ti (an (decide_eq_false h395) (an (decide_eq_false h395) (an (decide_eq_false h395) (ti (an (an rf trivial) (an (an rf trivial) (an (an rf trivial) (an (an (decide_eq_true h403) trivial) (an (an (decide_eq_true h403) trivial) (an (an rf (decide_eq_true h403)) (an rf (ti trivial)))))))))))))))
   injection h with h; subst h
   exact fun_ok pm pn Go.Proofs.Try.func46 (r0 := vb (decide (a0 ≤ 90))) (ans := [.reg (.n :: []), .reg (nN 3 (.skip :: .skip :: .b false :: nN 6 (.b true :: .b false :: .n :: [])))]) (fr := true) (by kernel_rfl) (an (an (ti trivial) (an e404 trivial)) (ti trivial)) (Wv.refl _)
  ·have e405 := (ti (ti (ti (an (decide_eq_false h395) (an (decide_eq_false h395) (an (decide_eq_false h395) (ti (an (an rf trivial) (an (an rf trivial) (an (an rf trivial) (an (decide_eq_false h403) (an (decide_eq_false h403) (an (an rf (decide_eq_false h403)) (an rf (ti trivial)))))))))))))))
   injection h with h; subst h
   exact fun_ok pm pn Go.Proofs.Try.func46 (r0 := vb false) (ans := [.reg (.n :: []), .reg arTC1_0]) (fr := true) (by kernel_rfl) (an (an (ti trivial) (an e405 trivial)) (ti trivial)) (Wv.refl _)
def arTC1_1 (z0 : Bool) : List Ans := (.n :: .call (vb z0) :: .n :: .n :: nS 7 (.b false :: .n :: .skip :: .skip :: .b false :: .n :: []))
def arTC1_2 (z0 : Bool) : List Ans := (.n :: .call (vb z0) :: nN 7 (.b true :: .n :: .b true :: .n :: .skip :: .skip :: .b false :: .n :: []))
def arTC1_3 (z0 : Bool) : List Ans := (.n :: .call (vb z0) :: nN 5 (.skip :: .skip :: .b false :: .n :: .b true :: nN 3 (.b true :: .n :: [])))
def ncoat_isForeign (k : Nat) (a0 : Int) : Option Bool :=
  (ncoat_isLetter k a0).bind fun r428 => (if r428 = true then (some false) else (if 48 ≤ a0 then (if a0 ≤ 57 then (some false) else (some (!(decide (a0 = 45))))) else (some (!(decide (a0 = 45))))))
theorem ncoat_isForeign_ok (k : Nat) (a0 : Int) (r : Bool) (h : ncoat_isForeign k a0 = some r) : VC Go.Proofs.Try.prog 48 [VV.c (.int .i32 a0)] (vb r) := by
 unfold ncoat_isForeign at h
 obtain ⟨r428, h429, h⟩ := bs h
 rcases ifs h with ⟨h430, h⟩ | ⟨h430, h⟩
 ·have e431 := (ti (an (ncoat_isLetter_ok k a0 _ h429) (ti (ti (an (not_f h430) (an (not_f h430) (an (not_f h430) (ti (ti (an (not_f h430) (an (not_f h430) (an (not_f h430) (ti (an rf (an rf (an rf (ti trivial)))))))))))))))))
  injection h with h; subst h
  exact fun_ok pm pn Go.Proofs.Try.func48 (r0 := vb false) (ans := [.reg (.n :: []), .reg (arTC1_1 r428)]) (fr := true) (by kernel_rfl) (an (an (ti trivial) (an e431 trivial)) (ti trivial)) (Wv.refl _)
 ·rcases ifs h with ⟨h432, h⟩ | ⟨h432, h⟩
  ·have e433 := (an (not_t (bool_f h430)) (decide_eq_true h432))
   rcases ifs h with ⟨h434, h⟩ | ⟨h434, h⟩
   ·have e435 := (ti (an (ncoat_isLetter_ok k a0 _ h429) (ti (ti (an (an (not_t (bool_f h430)) trivial) (an (an (not_t (bool_f h430)) trivial) (an (an (not_t (bool_f h430)) trivial) (an (an (decide_eq_true h432) trivial) (an (an (decide_eq_true h432) trivial) (an e433 (an (an (not_t (bool_f h430)) trivial) (an (not_t (bool_f h430)) (ti (an (not_f (decide_eq_true h434)) (an (not_f (decide_eq_true h434)) (an (not_f (decide_eq_true h434)) (ti trivial)))))))))))))))))
    injection h with h; subst h
    exact fun_ok pm pn Go.Proofs.Try.func48 (r0 := vb false) (ans := [.reg (.n :: []), .reg (arTC1_2 r428)]) (fr := true) (by kernel_rfl) (an (an (ti trivial) (an e435 trivial)) (ti trivial)) (Wv.refl _)
   ·have e436 := (an (not_t (decide_eq_false h434)) trivial)
    have e437 := (an (not_t (decide_eq_false h434)) trivial)
    have e438 := (ti (an (ncoat_isLetter_ok k a0 _ h429) (ti (ti (an (an (not_t (bool_f h430)) trivial) (an (an (not_t (bool_f h430)) trivial) (an (an (not_t (bool_f h430)) trivial) (an (an (decide_eq_true h432) trivial) (an (an (decide_eq_true h432) trivial) (an e433 (an (an (not_t (bool_f h430)) trivial) (an (not_t (bool_f h430)) (ti (an e436 (an e437 (an (not_t (decide_eq_false h434)) (ti trivial)))))))))))))))))
    injection h with h; subst h
    exact fun_ok pm pn Go.Proofs.Try.func48 (r0 := vb (!(decide (a0 = 45)))) (ans := [.reg (.n :: []), .reg (.n :: .call (vb r428) :: nN 7 (.b true :: .n :: .b true :: nN 3 (.b true :: .n :: [])))]) (fr := true) (by kernel_rfl) (an (an (ti trivial) (an e438 trivial)) (ti trivial)) (Wv.refl _)
  ·have e439 := (an (not_t (bool_f h430)) (decide_eq_false h432))
   have e440 := (an (show (!false) = true from (not_t rfl)) trivial)
   have e441 := (an (show (!false) = true from (not_t rfl)) trivial)
   have e442 := (ti (an (ncoat_isLetter_ok k a0 _ h429) (ti (ti (an (an (not_t (bool_f h430)) trivial) (an (an (not_t (bool_f h430)) trivial) (an (an (not_t (bool_f h430)) trivial) (an (decide_eq_false h432) (an (decide_eq_false h432) (an e439 (an (an (not_t (bool_f h430)) trivial) (an (not_t (bool_f h430)) (ti (an e440 (an e441 (an (show (!false) = true from (not_t rfl)) (ti trivial)))))))))))))))))
   injection h with h; subst h
   exact fun_ok pm pn Go.Proofs.Try.func48 (r0 := vb (!(decide (a0 = 45)))) (ans := [.reg (.n :: []), .reg (arTC1_3 r428)]) (fr := true) (by kernel_rfl) (an (an (ti trivial) (an e442 trivial)) (ti trivial)) (Wv.refl _)
def nstrings_indexFunc_c1_coat_isForeign_l0_0_h (a0 : ByteArray) (a2 : Bool) (b0_1 : Int) : VS := ⟨mkA [(1, VV.fn 48 []), (2, vb a2), (10, VV.it 0)], [some ⟨true, bigX, [vs a0, vi b0_1]⟩], .nil⟩
def nstrings_indexFunc_c1_coat_isForeign_l0_0_e0 (a0 : ByteArray) (a2 : Bool) (r : Int) : VS := ⟨mkA [(6, vi r)], [], .nil⟩
def nstrings_indexFunc_c1_coat_isForeign_l0_0_e1 (a0 : ByteArray) (a2 : Bool) (r : Unit) : VS := ⟨mkA [], [], .nil⟩
def nstrings_indexFunc_c1_coat_isForeign_l0_0 (k : Nat) (a0 : ByteArray) (a2 : Bool) : Nat → Int → Option (Sum Int Unit)
  | 0, _ => none
  | fuel + 1, b0_1 => if b0_1 < (a0.size : Int) then (if 0 ≤ b0_1 then ((ncoat_isForeign k (((Go.Utf8.decode a0 (b0_1).toNat).1 : Nat) : Int)).bind fun r489 => (if (r489 == a2) = true then (some (.inl b0_1)) else (nstrings_indexFunc_c1_coat_isForeign_l0_0 k a0 a2 fuel (b0_1 + (((Go.Utf8.decode a0 (b0_1).toNat).2 : Nat) : Int))))) else none) else (some (.inr ()))
theorem nstrings_indexFunc_c1_coat_isForeign_l0_0_ok (k : Nat) (a0 : ByteArray) (a2 : Bool) : ∀ (fuel : Nat) (b0_1 : Int) (r : Sum Int Unit), nstrings_indexFunc_c1_coat_isForeign_l0_0 k a0 a2 fuel b0_1 = some r → (match r with | .inl r => VLoop none Go.Proofs.Try.prog (szF Go.Proofs.Try.f50) (bodyOf Go.Proofs.Try.f50 0) (nstrings_indexFunc_c1_coat_isForeign_l0_0_h a0 a2 b0_1) .ret (nstrings_indexFunc_c1_coat_isForeign_l0_0_e0 a0 a2 r) | .inr r => VLoop none Go.Proofs.Try.prog (szF Go.Proofs.Try.f50) (bodyOf Go.Proofs.Try.f50 0) (nstrings_indexFunc_c1_coat_isForeign_l0_0_h a0 a2 b0_1) (.exit 0) (nstrings_indexFunc_c1_coat_isForeign_l0_0_e1 a0 a2 r)) := by
 intro fuel
 induction fuel with
 | zero => intro b0_1 r h; rw [nstrings_indexFunc_c1_coat_isForeign_l0_0.eq_1] at h; cases h
 | succ fuel ih =>
  intro b0_1 r h
  rw [nstrings_indexFunc_c1_coat_isForeign_l0_0.eq_2] at h
  rcases ifs h with ⟨h486, h⟩ | ⟨h486, h⟩
  ·obtain ⟨h487, h⟩ := ifn h
   have e488 := (show 0 ≤ b0_1 ∧ b0_1 < (a0.size : Int) from ⟨h487, of_decide_eq_true (decide_eq_true h486)⟩)
   obtain ⟨r489, h490, h⟩ := bs h
   have e491 := (ncoat_isForeign_ok k (((Go.Utf8.decode a0 (b0_1).toNat).1 : Nat) : Int) _ h490)
   rcases ifs h with ⟨h492, h⟩ | ⟨h492, h⟩
   ·injection h with h; subst h
    exact round_stop (c := ⟨[(6, none)], [], []⟩) (s1 := (nstrings_indexFunc_c1_coat_isForeign_l0_0_e0 a0 a2 b0_1)) pm pn (ans := [.reg (.b true :: .n :: []), .br true, .reg (nN 4 []), .reg (.n :: .n :: .call (vb r489) :: .n :: .n :: []), .br true, .reg (.n :: .n :: [])]) (by kernel_rfl) (by intro e; cases e) (an (an (an e488 (ti trivial)) (an (an rt trivial) (an (ti (ti (ti (ti trivial)))) (an (ti (ti (an e491 (ti (ti trivial))))) (an h492 (an (ti (ti trivial)) trivial)))))) (ti trivial))
   ·have h2 := ih _ _ h
    obtain ⟨q, hv, hq⟩ := pkR (rd := none) (P := Go.Proofs.Try.prog) (fn := Go.Proofs.Try.f50) (k := 0) (s := (nstrings_indexFunc_c1_coat_isForeign_l0_0_h a0 a2 b0_1)) (ans := [.reg (.b true :: .n :: []), .br true, .reg (nN 4 []), .reg (.n :: .n :: .call (vb r489) :: .n :: .n :: []), .br false]) (c := ⟨[(1, none), (2, none), (10, none)], [none], []⟩) (e := .normal) (s1 := (nstrings_indexFunc_c1_coat_isForeign_l0_0_h a0 a2 (b0_1 + (((Go.Utf8.decode a0 (b0_1).toNat).2 : Nat) : Int)))) (an (an (an e488 (ti trivial)) (an (an rt trivial) (an (ti (ti (ti (ti trivial)))) (an (ti (ti (an e491 (ti (ti trivial))))) (an (bool_f h492) trivial))))) (ti trivial)) (by kernel_rfl)
    cases r with
    | inl r => exact round_next pm pn hv hq h2
    | inr r =>
     exact round_next pm pn hv hq h2
  ·have e493 := (show (a0.size : Int) ≤ b0_1 from (by have := of_decide_eq_false (decide_eq_false h486); omega))
   injection h with h; subst h
   exact round_stop (c := ⟨[], [], []⟩) (s1 := (nstrings_indexFunc_c1_coat_isForeign_l0_0_e1 a0 a2 ())) pm pn (ans := [.reg (.b false :: .n :: []), .br false]) (by kernel_rfl) (by intro e; cases e) (an (an (an e493 (ti trivial)) (an rf trivial)) (ti trivial))
def nstrings_indexFunc_c1_coat_isForeign (k : Nat) (a0 : ByteArray) (a1 : Unit) (a2 : Bool) : Option Int :=
  (nstrings_indexFunc_c1_coat_isForeign_l0_0 k a0 a2 k 0).bind fun r495 => (match r495 with | .inl r496 => (some r496) | .inr r497 => (some (-1)))
theorem nstrings_indexFunc_c1_coat_isForeign_ok (k : Nat) (a0 : ByteArray) (a1 : Unit) (a2 : Bool) (r : Int) (h : nstrings_indexFunc_c1_coat_isForeign k a0 a1 a2 = some r) : VC Go.Proofs.Try.prog 50 [vs a0, VV.fn 48 [], vb a2] (vi r) := by
 unfold nstrings_indexFunc_c1_coat_isForeign at h
 obtain ⟨r495, h494, h⟩ := bs h
 have hph494 := nstrings_indexFunc_c1_coat_isForeign_l0_0_ok k a0 a2 _ _ _ h494
 cases r495 with
 | inl r496 =>
  dsimp only at h
  have e498 := (an (ti trivial) (VRun.loop hph494))
  injection h with h; subst h
  exact fun_ok pm pn Go.Proofs.Try.func50 (r0 := vi r496) (ans := [.reg (.n :: []), .reg (.n :: .n :: []), .sub ⟨[(1, none), (2, none), (10, none)], [none], []⟩ .ret (nstrings_indexFunc_c1_coat_isForeign_l0_0_e0 a0 a2 r496)]) (fr := true) (by kernel_rfl) (an (an (ti trivial) (an (ti (ti trivial)) e498)) (ti trivial)) (Wv.refl _)
 | inr r497 =>
  dsimp only at h
  have e499 := (an (ti trivial) (VRun.loop hph494))
  injection h with h; subst h
  exact fun_ok pm pn Go.Proofs.Try.func50 (r0 := vi (-1)) (ans := [.reg (.n :: []), .reg (.n :: .n :: []), .sub ⟨[(1, none), (2, none), (10, none)], [none], []⟩ (.exit 0) (nstrings_indexFunc_c1_coat_isForeign_l0_0_e1 a0 a2 r497), .reg (.n :: [])]) (fr := true) (by kernel_rfl) (an (an (ti trivial) (an (an (ti (ti trivial)) e499) (an (ti trivial) trivial))) (ti trivial)) (Wv.refl _)
def nstrings_IndexFunc_c1_coat_isForeign (k : Nat) (a0 : ByteArray) (a1 : Unit) : Option Int :=
  (nstrings_indexFunc_c1_coat_isForeign k a0 a1 true).bind fun r503 => (some r503)
theorem nstrings_IndexFunc_c1_coat_isForeign_ok (k : Nat) (a0 : ByteArray) (a1 : Unit) (r : Int) (h : nstrings_IndexFunc_c1_coat_isForeign k a0 a1 = some r) : VC Go.Proofs.Try.prog 49 [vs a0, VV.fn 48 []] (vi r) := by
 unfold nstrings_IndexFunc_c1_coat_isForeign at h
 obtain ⟨r503, h504, h⟩ := bs h
 have e505 := (nstrings_indexFunc_c1_coat_isForeign_ok k a0 a1 true _ h504)
 injection h with h; subst h
 exact fun_ok pm pn Go.Proofs.Try.func49 (r0 := vi r503) (ans := [.reg (.n :: []), .reg (.n :: .n :: .call (vi r503) :: .n :: [])]) (fr := true) (by kernel_rfl) (an (an (ti trivial) (an (ti (ti (an e505 (ti trivial)))) trivial)) (ti trivial)) (Wv.refl _)
def nstrings_ContainsFunc_c1_coat_isForeign (k : Nat) (a0 : ByteArray) (a1 : Unit) : Option Bool :=
  (nstrings_IndexFunc_c1_coat_isForeign k a0 a1).bind fun r509 => (some (decide (0 ≤ r509)))
theorem nstrings_ContainsFunc_c1_coat_isForeign_ok (k : Nat) (a0 : ByteArray) (a1 : Unit) (r : Bool) (h : nstrings_ContainsFunc_c1_coat_isForeign k a0 a1 = some r) : VC Go.Proofs.Try.prog 47 [vs a0, VV.fn 48 []] (vb r) := by
 unfold nstrings_ContainsFunc_c1_coat_isForeign at h
 obtain ⟨r509, h510, h⟩ := bs h
 have e511 := (nstrings_IndexFunc_c1_coat_isForeign_ok k a0 a1 _ h510)
 injection h with h; subst h
 exact fun_ok pm pn Go.Proofs.Try.func47 (r0 := vb (decide (0 ≤ r509))) (ans := [.reg (.n :: []), .reg (.n :: .n :: .call (vi r509) :: .n :: .n :: [])]) (fr := true) (by kernel_rfl) (an (an (ti trivial) (an (ti (ti (an e511 (ti (ti trivial))))) trivial)) (ti trivial)) (Wv.refl _)
def arTC1_4 (z0 : Bool) (z1 : Bool) (z2 : Bool) : List Ans := (.n :: .n :: .v VV.any :: .call (vb z0) :: nN 4 (.call (vb z1) :: .b true :: .n :: .n :: .call (vb z2) :: .n :: .b true :: .n :: []))
def arTC1_5 (z0 : Bool) (z1 : Bool) : List Ans := (.n :: .n :: .v VV.any :: .call (vb z0) :: nN 4 (.call (vb z1) :: .b true :: .n :: nS 3 (.b false :: .n :: [])))
def arTC1_6 (z0 : Bool) : List Ans := (.n :: .n :: .v VV.any :: .call (vb z0) :: .n :: nS 4 (.b false :: .n :: nS 3 (.b false :: .n :: [])))
def ncoat_isName (k : Nat) (a0 : ByteArray) : Option Bool :=
  (ncoat_areWithin k 1 12 ([(a0.size : Int)] : List Int)).bind fun r518 => (if r518 = true then (if (0 : Int) ≤ 0 ∧ 0 < (a0.size : Int) then ((ncoat_isLetter k (IntKind.i32.wrap (bat a0 0))).bind fun r523 => (if r523 = true then ((nstrings_ContainsFunc_c1_coat_isForeign k a0 ()).bind fun r527 => (some (!r527))) else (some false))) else none) else (some false))
theorem ncoat_isName_ok (k : Nat) (a0 : ByteArray) (r : Bool) (h : ncoat_isName k a0 = some r) : VC Go.Proofs.Try.prog 44 [vs a0] (vb r) := by
 unfold ncoat_isName at h
 obtain ⟨r518, h519, h⟩ := bs h
 have e520 := (VC.args (ncoat_areWithin_ok k 1 12 ([(a0.size : Int)] : List Int) _ h519) (eqTC1_1 a0))
 rcases ifs h with ⟨h521, h⟩ | ⟨h521, h⟩
 ·obtain ⟨h522, h⟩ := ifn h
  obtain ⟨r523, h524, h⟩ := bs h
  have e525 := (an h521 (ncoat_isLetter_ok k (IntKind.i32.wrap (bat a0 0)) _ h524))
  rcases ifs h with ⟨h526, h⟩ | ⟨h526, h⟩
  ·obtain ⟨r527, h528, h⟩ := bs h
   have e529 := (an h526 (nstrings_ContainsFunc_c1_coat_isForeign_ok k a0 () _ h528))
   have e530 := (ti (ti (ti (an e520 (ti (an (an h521 trivial) (an (an h521 h522) (an (an h521 trivial) (an e525 (an h521 (ti (an (an h526 trivial) (an e529 (an (an h526 trivial) (an h526 (ti trivial))))))))))))))))
   injection h with h; subst h
   exact fun_ok pm pn Go.Proofs.Try.func44 (r0 := vb (!r527)) (ans := [.reg (.n :: []), .reg (arTC1_4 r518 r523 r527)]) (fr := true) (by kernel_rfl) (an (an (ti trivial) (an e530 trivial)) (ti trivial)) (Wv.refl _)
  ·have e531 := (ti (ti (ti (an e520 (ti (an (an h521 trivial) (an (an h521 h522) (an (an h521 trivial) (an e525 (an h521 (ti (an (bool_f h526) (an (bool_f h526) (an (bool_f h526) (an (bool_f h526) (ti trivial))))))))))))))))
   injection h with h; subst h
   exact fun_ok pm pn Go.Proofs.Try.func44 (r0 := vb false) (ans := [.reg (.n :: []), .reg (arTC1_5 r518 r523)]) (fr := true) (by kernel_rfl) (an (an (ti trivial) (an e531 trivial)) (ti trivial)) (Wv.refl _)
 ·have e532 := (ti (ti (ti (an e520 (ti (an (bool_f h521) (an (bool_f h521) (an (bool_f h521) (an (bool_f h521) (an (bool_f h521) (ti (an rf (an rf (an rf (an rf (ti trivial))))))))))))))))
  injection h with h; subst h
  exact fun_ok pm pn Go.Proofs.Try.func44 (r0 := vb false) (ans := [.reg (.n :: []), .reg (arTC1_6 r518)]) (fr := true) (by kernel_rfl) (an (an (ti trivial) (an e532 trivial)) (ti trivial)) (Wv.refl _)
theorem eqTC1_2 (z0 : Int) : [vi 0, vi 100000, VV.tr (List.map vi ([z0] : List Int)) (([z0] : List Int).length)] = [vi 0, vi 100000, VV.tr [vi z0] 1] := by first | rfl | (simp only [unfr_vi, List.map_cons, List.map_nil, un_i, un_tr, List.length_map, List.length_cons, List.length_nil]; done) | (simp only [unfr_vi, List.map_cons, List.map_nil, un_i, un_tr, List.length_map, List.length_cons, List.length_nil]; rfl) | (simp only [unfr_vi, List.map_cons, List.map_nil, un_i, un_tr, List.length_map, List.length_cons, List.length_nil, List.length_cons, List.length_nil, List.length_append]; done)
def ncoat_checkDay (k : Nat) (a0 : Int) : Option Int :=
  (ncoat_areWithin k 0 100000 ([a0] : List Int)).bind fun r541 => (if r541 = true then (some 0) else (some 2))
theorem ncoat_checkDay_ok (k : Nat) (a0 : Int) (r : Int) (h : ncoat_checkDay k a0 = some r) : VC Go.Proofs.Try.prog 26 [vi a0] (vi r) := by
 unfold ncoat_checkDay at h
 obtain ⟨r541, h542, h⟩ := bs h
 have e543 := (VC.args (ncoat_areWithin_ok k 0 100000 ([a0] : List Int) _ h542) (eqTC1_2 a0))
 rcases ifs h with ⟨h544, h⟩ | ⟨h544, h⟩
 ·injection h with h; subst h
  exact fun_ok pm pn Go.Proofs.Try.func26 (r0 := vi 0) (ans := [.reg (.n :: []), .reg (.n :: .v VV.any :: .call (vb r541) :: .n :: []), .br false, .reg (.n :: [])]) (fr := true) (by kernel_rfl) (an (an (ti trivial) (an (an (ti (ti (an e543 (ti trivial)))) (an (not_f h544) trivial)) (an (ti trivial) trivial))) (ti trivial)) (Wv.refl _)
 ·injection h with h; subst h
  exact fun_ok pm pn Go.Proofs.Try.func26 (r0 := vi 2) (ans := [.reg (.n :: []), .reg (.n :: .v VV.any :: .call (vb r541) :: .n :: []), .br true, .reg (.n :: [])]) (fr := true) (by kernel_rfl) (an (an (ti trivial) (an (ti (ti (an e543 (ti trivial)))) (an (not_t (bool_f h544)) (an (ti trivial) trivial)))) (ti trivial)) (Wv.refl _)
theorem eqTC1_3 (z0 : SCoatEvent) : [vi 0, vi 2, VV.tr (List.map vi ([z0.Kind] : List Int)) (([z0.Kind] : List Int).length)] = [vi 0, vi 2, VV.tr [vi z0.Kind] 1] := by first | rfl | (simp only [unfr_vi, List.map_cons, List.map_nil, un_i, un_tr, List.length_map, List.length_cons, List.length_nil]; done) | (simp only [unfr_vi, List.map_cons, List.map_nil, un_i, un_tr, List.length_map, List.length_cons, List.length_nil]; rfl) | (simp only [unfr_vi, List.map_cons, List.map_nil, un_i, un_tr, List.length_map, List.length_cons, List.length_nil, List.length_cons, List.length_nil, List.length_append]; done)
def ncoat_checkAlone (k : Nat) (a0 : SCoatEvent) : Option Int :=
  (ncoat_isName k a0.Mirror).bind fun r553 => (if r553 = true then ((ncoat_checkDay k a0.Day).bind fun r557 => (if r557 = 0 then ((ncoat_areWithin k 0 2 ([a0.Kind] : List Int)).bind fun r561 => (if r561 = true then (some 0) else (some 15))) else (some r557))) else (some 4))
theorem ncoat_checkAlone_ok (k : Nat) (a0 : SCoatEvent) (r : Int) (h : ncoat_checkAlone k a0 = some r) : VC Go.Proofs.Try.prog 39 [VV.ag (c_SCoatEvent a0)] (vi r) := by
 unfold ncoat_checkAlone at h
 obtain ⟨r553, h554, h⟩ := bs h
 have e555 := (ti (ti (an (ncoat_isName_ok k a0.Mirror _ h554) (ti trivial))))
 rcases ifs h with ⟨h556, h⟩ | ⟨h556, h⟩
 ·obtain ⟨r557, h558, h⟩ := bs h
  have e559 := (ti (ti (an (ncoat_checkDay_ok k a0.Day _ h558) (ti trivial))))
  rcases ifs h with ⟨h560, h⟩ | ⟨h560, h⟩
  ·obtain ⟨r561, h562, h⟩ := bs h
   have e563 := (VC.args (ncoat_areWithin_ok k 0 2 ([a0.Kind] : List Int) _ h562) (eqTC1_3 a0))
   rcases ifs h with ⟨h564, h⟩ | ⟨h564, h⟩
   ·injection h with h; subst h
    exact fun_ok pm pn Go.Proofs.Try.func39 (r0 := vi 0) (ans := [.reg (.n :: .n :: []), .reg (.n :: .n :: .call (vb r553) :: .n :: []), .br false, .reg (.n :: .n :: .call (vi r557) :: .n :: []), .reg (.n :: .n :: []), .br false, .reg (.n :: .n :: .v VV.any :: .call (vb r561) :: .n :: []), .br false, .reg (.n :: [])]) (fr := true) (by kernel_rfl) (an (an (ti (ti trivial)) (an (an e555 (an (not_f h556) trivial)) (an (an e559 (an (ti (ti trivial)) (an (not_f (decide_eq_true h560)) trivial))) (an (an (ti (ti (ti (an e563 (ti trivial))))) (an (not_f h564) trivial)) (an (ti trivial) trivial))))) (ti trivial)) (Wv.refl _)
   ·injection h with h; subst h
    exact fun_ok pm pn Go.Proofs.Try.func39 (r0 := vi 15) (ans := [.reg (.n :: .n :: []), .reg (.n :: .n :: .call (vb r553) :: .n :: []), .br false, .reg (.n :: .n :: .call (vi r557) :: .n :: []), .reg (.n :: .n :: []), .br false, .reg (.n :: .n :: .v VV.any :: .call (vb r561) :: .n :: []), .br true, .reg (.n :: [])]) (fr := true) (by kernel_rfl) (an (an (ti (ti trivial)) (an (an e555 (an (not_f h556) trivial)) (an (an e559 (an (ti (ti trivial)) (an (not_f (decide_eq_true h560)) trivial))) (an (ti (ti (ti (an e563 (ti trivial))))) (an (not_t (bool_f h564)) (an (ti trivial) trivial)))))) (ti trivial)) (Wv.refl _)
  ·injection h with h; subst h
   exact fun_ok pm pn Go.Proofs.Try.func39 (r0 := vi r557) (ans := [.reg (.n :: .n :: []), .reg (.n :: .n :: .call (vb r553) :: .n :: []), .br false, .reg (.n :: .n :: .call (vi r557) :: .n :: []), .reg (.n :: .n :: []), .br true, .reg (.n :: .n :: [])]) (fr := true) (by kernel_rfl) (an (an (ti (ti trivial)) (an (an e555 (an (not_f h556) trivial)) (an e559 (an (ti (ti trivial)) (an (not_t (decide_eq_false h560)) (an (ti (ti trivial)) trivial)))))) (ti trivial)) (Wv.refl _)
 ·injection h with h; subst h
  exact fun_ok pm pn Go.Proofs.Try.func39 (r0 := vi 4) (ans := [.reg (.n :: .n :: []), .reg (.n :: .n :: .call (vb r553) :: .n :: []), .br true, .reg (.n :: [])]) (fr := true) (by kernel_rfl) (an (an (ti (ti trivial)) (an e555 (an (not_t (bool_f h556)) (an (ti trivial) trivial)))) (ti trivial)) (Wv.refl _)
def n_coat_film_left (k : Nat) (a0 : Sfilm) : Option Int :=
  if a0.isOn = true then (some (w64 (a0.Aging.Washes - a0.washed))) else (some (-1))
theorem n_coat_film_left_ok (k : Nat) (a0 : Sfilm) (r : Int) (h : n_coat_film_left k a0 = some r) : VC Go.Proofs.Try.prog 45 [VV.ag (c_Sfilm a0)] (vi r) := by
 unfold n_coat_film_left at h
 rcases ifs h with ⟨h580, h⟩ | ⟨h580, h⟩
 ·injection h with h; subst h
  exact fun_ok pm pn Go.Proofs.Try.func45 (r0 := vi (w64 (a0.Aging.Washes - a0.washed))) (ans := [.reg (.n :: .n :: []), .reg (nN 3 []), .br false, .reg (nN 7 [])]) (fr := true) (by kernel_rfl) (an (an (ti (ti trivial)) (an (an (ti (ti (ti trivial))) (an (not_f h580) trivial)) (an (ti (ti (ti (ti (ti (ti (ti trivial))))))) trivial))) (ti trivial)) (Wv.refl _)
 ·injection h with h; subst h
  exact fun_ok pm pn Go.Proofs.Try.func45 (r0 := vi (-1)) (ans := [.reg (.n :: .n :: []), .reg (nN 3 []), .br true, .reg (.n :: [])]) (fr := true) (by kernel_rfl) (an (an (ti (ti trivial)) (an (ti (ti (ti trivial))) (an (not_t (bool_f h580)) (an (ti trivial) trivial)))) (ti trivial)) (Wv.refl _)
def n_coat_film_refusal (k : Nat) (a0 : Sfilm) (a1 : Int) : Option Int :=
  if ((decide (a1 = 0)) == a0.isOn) = true then (some 24) else (if a1 = 1 then ((n_coat_film_left k a0).bind fun r589 => (if r589 = 0 then (some 16) else (some 0))) else (some 0))
theorem n_coat_film_refusal_ok (k : Nat) (a0 : Sfilm) (a1 : Int) (r : Int) (h : n_coat_film_refusal k a0 a1 = some r) : VC Go.Proofs.Try.prog 40 [VV.ag (c_Sfilm a0), vi a1] (vi r) := by
 unfold n_coat_film_refusal at h
 rcases ifs h with ⟨h587, h⟩ | ⟨h587, h⟩
 ·injection h with h; subst h
  exact fun_ok pm pn Go.Proofs.Try.func40 (r0 := vi 24) (ans := [.reg (.n :: .n :: []), .reg (nN 3 []), .reg (nN 5 []), .br true, .reg (.n :: [])]) (fr := true) (by kernel_rfl) (an (an (ti (ti trivial)) (an (ti (ti (ti trivial))) (an (ti (ti (ti (ti (ti trivial))))) (an h587 (an (ti trivial) trivial))))) (ti trivial)) (Wv.refl _)
 ·rcases ifs h with ⟨h588, h⟩ | ⟨h588, h⟩
  ·obtain ⟨r589, h590, h⟩ := bs h
   have e591 := (an (decide_eq_true h588) (n_coat_film_left_ok k a0 _ h590))
   have e592 := (ti (ti (ti (an (an (decide_eq_true h588) trivial) (an e591 (an (an (decide_eq_true h588) trivial) (an (decide_eq_true h588) (ti trivial))))))))
   rcases ifs h with ⟨h593, h⟩ | ⟨h593, h⟩
   ·injection h with h; subst h
    exact fun_ok pm pn Go.Proofs.Try.func40 (r0 := vi 16) (ans := [.reg (.n :: .n :: []), .reg (nN 3 []), .reg (nN 5 []), .br false, .reg (nN 4 (.call (vi r589) :: .n :: .b true :: .n :: [])), .br true, .reg (.n :: [])]) (fr := true) (by kernel_rfl) (an (an (ti (ti trivial)) (an (ti (ti (ti trivial))) (an (ti (ti (ti (ti (ti trivial))))) (an (bool_f h587) (an e592 (an (decide_eq_true h593) (an (ti trivial) trivial))))))) (ti trivial)) (Wv.refl _)
   ·injection h with h; subst h
    exact fun_ok pm pn Go.Proofs.Try.func40 (r0 := vi 0) (ans := [.reg (.n :: .n :: []), .reg (nN 3 []), .reg (nN 5 []), .br false, .reg (nN 4 (.call (vi r589) :: .n :: .b true :: .n :: [])), .br false, .reg (.n :: [])]) (fr := true) (by kernel_rfl) (an (an (ti (ti trivial)) (an (ti (ti (ti trivial))) (an (an (ti (ti (ti (ti (ti trivial))))) (an (bool_f h587) (an e592 (an (decide_eq_false h593) trivial)))) (an (ti trivial) trivial)))) (ti trivial)) (Wv.refl _)
  ·have e594 := (ti (ti (ti (an (decide_eq_false h588) (an (decide_eq_false h588) (an (decide_eq_false h588) (an (decide_eq_false h588) (ti trivial))))))))
   injection h with h; subst h
   exact fun_ok pm pn Go.Proofs.Try.func40 (r0 := vi 0) (ans := [.reg (.n :: .n :: []), .reg (nN 3 []), .reg (nN 5 []), .br false, .reg (nN 3 (nS 3 (.b false :: .n :: []))), .br false, .reg (.n :: [])]) (fr := true) (by kernel_rfl) (an (an (ti (ti trivial)) (an (ti (ti (ti trivial))) (an (an (ti (ti (ti (ti (ti trivial))))) (an (bool_f h587) (an e594 (an rf trivial)))) (an (ti trivial) trivial)))) (ti trivial)) (Wv.refl _)
def arTC1_7 (z0 : (List SCoatEvent)) : List Ans := (.n :: .n :: .v (VV.ag (c_SCoatEvent (z0.getD ((0 : Int)).toNat default))) :: nN 5 (.v (VV.ag (c_SCoatEvent (z0.getD (w64 ((z0.length : Int) - 1)).toNat default))) :: nN 4 []))
def ncoat_checkBehind (k : Nat) (a0 : (List SCoatEvent)) (a1 : Sfilm) (a2 : SCoatEvent) : Option Int :=
  (ncoat_checkAlone k a2).bind fun r601 => (if r601 = 0 then (if 0 < (a0.length : Int) then (if (0 : Int) ≤ 0 ∧ 0 < (a0.length : Int) then (if 0 ≤ w64 ((a0.length : Int) - 1) ∧ w64 ((a0.length : Int) - 1) < (a0.length : Int) then (if a2.Mirror = ((a0.getD ((0 : Int)).toNat default).Mirror) then (if a2.Day < ((a0.getD (w64 ((a0.length : Int) - 1)).toNat default).Day) then (some 9) else ((n_coat_film_refusal k a1 a2.Kind).bind fun r613 => (some r613))) else (some 13)) else none) else none) else ((n_coat_film_refusal k a1 a2.Kind).bind fun r616 => (some r616))) else (some r601))
theorem ncoat_checkBehind_ok (k : Nat) (a0 : (List SCoatEvent)) (a1 : Sfilm) (a2 : SCoatEvent) (r : Int) (h : ncoat_checkBehind k a0 a1 a2 = some r) : VC Go.Proofs.Try.prog 35 [VV.tr (List.flatMap c_SCoatEvent a0) a0.length, VV.ag (c_Sfilm a1), VV.ag (c_SCoatEvent a2)] (vi r) := by
 unfold ncoat_checkBehind at h
 obtain ⟨r601, h602, h⟩ := bs h
 have e603 := (ti (an (ncoat_checkAlone_ok k a2 _ h602) (ti trivial)))
 rcases ifs h with ⟨h604, h⟩ | ⟨h604, h⟩
 ·rcases ifs h with ⟨h605, h⟩ | ⟨h605, h⟩
  ·obtain ⟨h606, h⟩ := ifn h
   have e607 := (show loadL Go.Proofs.Try.prog 48 (((0 : Int)).toNat * 3) (List.flatMap c_SCoatEvent a0) = some (VV.ag (c_SCoatEvent (a0.getD ((0 : Int)).toNat default))) from ld_whole ag48 c_SCoatEvent 3 sz48 len_c_SCoatEvent a0 default h606 (by omega))
   obtain ⟨h608, h⟩ := ifn h
   have e609 := (show loadL Go.Proofs.Try.prog 48 ((w64 ((a0.length : Int) - 1)).toNat * 3) (List.flatMap c_SCoatEvent a0) = some (VV.ag (c_SCoatEvent (a0.getD (w64 ((a0.length : Int) - 1)).toNat default))) from ld_whole ag48 c_SCoatEvent 3 sz48 len_c_SCoatEvent a0 default h608 (by omega))
   have e610 := (ti (an h606 (an e607 (ti (ti (ti (ti (an h608 (an e609 (ti (ti (ti (ti trivial)))))))))))))
   rcases ifs h with ⟨h611, h⟩ | ⟨h611, h⟩
   ·rcases ifs h with ⟨h612, h⟩ | ⟨h612, h⟩
    ·injection h with h; subst h
     exact fun_ok pm pn Go.Proofs.Try.func35 (r0 := vi 9) (ans := [.reg (nN 3 []), .reg (.n :: .call (vi r601) :: .n :: []), .reg (.n :: .n :: []), .br false, .reg (nN 3 []), .br true, .reg (arTC1_7 a0), .reg (nN 6 []), .br false, .reg (nN 6 []), .br true, .reg (.n :: [])]) (fr := true) (by kernel_rfl) (an (an (ti (ti (ti trivial))) (an (an e603 (an (ti (ti trivial)) (an (not_f (decide_eq_true h604)) trivial))) (an (ti (ti (ti trivial))) (an (decide_eq_true h605) (an e610 (an (ti (ti (ti (ti (ti (ti trivial)))))) (an (not_f (decide_eq_true h611)) (an (ti (ti (ti (ti (ti (ti trivial)))))) (an (decide_eq_true h612) (an (ti trivial) trivial)))))))))) (ti trivial)) (Wv.refl _)
    ·obtain ⟨r613, h614, h⟩ := bs h
     have e615 := (n_coat_film_refusal_ok k a1 a2.Kind _ h614)
     injection h with h; subst h
     exact fun_ok pm pn Go.Proofs.Try.func35 (r0 := vi r613) (ans := [.reg (nN 3 []), .reg (.n :: .call (vi r601) :: .n :: []), .reg (.n :: .n :: []), .br false, .reg (nN 3 []), .br true, .reg (arTC1_7 a0), .reg (nN 6 []), .br false, .reg (nN 6 []), .br false, .reg (nN 3 (.call (vi r613) :: .n :: []))]) (fr := true) (by kernel_rfl) (an (an (ti (ti (ti trivial))) (an (an e603 (an (ti (ti trivial)) (an (not_f (decide_eq_true h604)) trivial))) (an (an (ti (ti (ti trivial))) (an (decide_eq_true h605) (an e610 (an (ti (ti (ti (ti (ti (ti trivial)))))) (an (not_f (decide_eq_true h611)) (an (ti (ti (ti (ti (ti (ti trivial)))))) (an (decide_eq_false h612) trivial))))))) (an (ti (ti (ti (an e615 (ti trivial))))) trivial)))) (ti trivial)) (Wv.refl _)
   ·injection h with h; subst h
    exact fun_ok pm pn Go.Proofs.Try.func35 (r0 := vi 13) (ans := [.reg (nN 3 []), .reg (.n :: .call (vi r601) :: .n :: []), .reg (.n :: .n :: []), .br false, .reg (nN 3 []), .br true, .reg (arTC1_7 a0), .reg (nN 6 []), .br true, .reg (.n :: [])]) (fr := true) (by kernel_rfl) (an (an (ti (ti (ti trivial))) (an (an e603 (an (ti (ti trivial)) (an (not_f (decide_eq_true h604)) trivial))) (an (ti (ti (ti trivial))) (an (decide_eq_true h605) (an e610 (an (ti (ti (ti (ti (ti (ti trivial)))))) (an (not_t (decide_eq_false h611)) (an (ti trivial) trivial)))))))) (ti trivial)) (Wv.refl _)
  ·obtain ⟨r616, h617, h⟩ := bs h
   have e618 := (n_coat_film_refusal_ok k a1 a2.Kind _ h617)
   injection h with h; subst h
   exact fun_ok pm pn Go.Proofs.Try.func35 (r0 := vi r616) (ans := [.reg (nN 3 []), .reg (.n :: .call (vi r601) :: .n :: []), .reg (.n :: .n :: []), .br false, .reg (nN 3 []), .br false, .reg (nN 3 (.call (vi r616) :: .n :: []))]) (fr := true) (by kernel_rfl) (an (an (ti (ti (ti trivial))) (an (an e603 (an (ti (ti trivial)) (an (not_f (decide_eq_true h604)) trivial))) (an (an (ti (ti (ti trivial))) (an (decide_eq_false h605) trivial)) (an (ti (ti (ti (an e618 (ti trivial))))) trivial)))) (ti trivial)) (Wv.refl _)
 ·injection h with h; subst h
  exact fun_ok pm pn Go.Proofs.Try.func35 (r0 := vi r601) (ans := [.reg (nN 3 []), .reg (.n :: .call (vi r601) :: .n :: []), .reg (.n :: .n :: []), .br true, .reg (.n :: .n :: [])]) (fr := true) (by kernel_rfl) (an (an (ti (ti (ti trivial))) (an e603 (an (ti (ti trivial)) (an (not_t (decide_eq_false h604)) (an (ti (ti trivial)) trivial))))) (ti trivial)) (Wv.refl _)
theorem eqTC1_4 (z0 : (List SCoatEvent)) (z1 : SAging) : [VV.tr (List.flatMap c_SCoatEvent (sl z0 0 (((0 : Int)).toNat))) ((sl z0 0 (((0 : Int)).toNat)).length), VV.ag [vi ((((⟨z1, false, 0, 0, (⟨0, 0⟩ : SRange)⟩ : Sfilm).Aging).Fresh).Lo), vi ((((⟨z1, false, 0, 0, (⟨0, 0⟩ : SRange)⟩ : Sfilm).Aging).Fresh).Hi), vi ((((⟨z1, false, 0, 0, (⟨0, 0⟩ : SRange)⟩ : Sfilm).Aging).Loss).Lo), vi ((((⟨z1, false, 0, 0, (⟨0, 0⟩ : SRange)⟩ : Sfilm).Aging).Loss).Hi), vi ((((⟨z1, false, 0, 0, (⟨0, 0⟩ : SRange)⟩ : Sfilm).Aging).Back).Lo), vi ((((⟨z1, false, 0, 0, (⟨0, 0⟩ : SRange)⟩ : Sfilm).Aging).Back).Hi), vi (((⟨z1, false, 0, 0, (⟨0, 0⟩ : SRange)⟩ : Sfilm).Aging).Washes), vb ((⟨z1, false, 0, 0, (⟨0, 0⟩ : SRange)⟩ : Sfilm).isOn), vi ((⟨z1, false, 0, 0, (⟨0, 0⟩ : SRange)⟩ : Sfilm).washed), vi ((⟨z1, false, 0, 0, (⟨0, 0⟩ : SRange)⟩ : Sfilm).since), vi (((⟨z1, false, 0, 0, (⟨0, 0⟩ : SRange)⟩ : Sfilm).bright).Lo), vi (((⟨z1, false, 0, 0, (⟨0, 0⟩ : SRange)⟩ : Sfilm).bright).Hi)], VV.ag (c_SCoatEvent (z0.getD ((0 : Int)).toNat default))] = [VV.tr (List.flatMap c_SCoatEvent (sl z0 0 (((0 : Int)).toNat))) ((sl z0 0 (((0 : Int)).toNat)).length), VV.ag [vi z1.Fresh.Lo, vi z1.Fresh.Hi, vi z1.Loss.Lo, vi z1.Loss.Hi, vi z1.Back.Lo, vi z1.Back.Hi, vi z1.Washes, vb false, vi 0, vi 0, vi 0, vi 0], VV.ag (c_SCoatEvent (z0.getD ((0 : Int)).toNat default))] := by first | rfl | (simp only [unfr_vi, unfr_vb, List.map_cons, List.map_nil, un_i, un_b, un_tr, List.length_cons, List.length_nil, unfr_c_SCoatEvent]; done) | (simp only [unfr_vi, unfr_vb, List.map_cons, List.map_nil, un_i, un_b, un_tr, List.length_cons, List.length_nil, unfr_c_SCoatEvent]; rfl) | (simp only [unfr_vi, unfr_vb, List.map_cons, List.map_nil, un_i, un_b, un_tr, List.length_cons, List.length_nil, unfr_c_SCoatEvent, c_SCoatEvent, List.length_cons, List.length_nil, List.length_append]; done)
theorem eqTC1_5 (z0 : Sfilm) (z1 : Int) : VV.ag [vi z0.Aging.Fresh.Lo, vi z0.Aging.Fresh.Hi, vi z0.Aging.Loss.Lo, vi z0.Aging.Loss.Hi, vi z0.Aging.Back.Lo, vi z0.Aging.Back.Hi, vi z0.Aging.Washes, vb true, vi 0, vi z1, vi z0.Aging.Fresh.Lo, vi z0.Aging.Fresh.Hi] = VV.ag [vi ((((⟨z0.Aging, true, 0, z1, z0.Aging.Fresh⟩ : Sfilm).Aging).Fresh).Lo), vi ((((⟨z0.Aging, true, 0, z1, z0.Aging.Fresh⟩ : Sfilm).Aging).Fresh).Hi), vi ((((⟨z0.Aging, true, 0, z1, z0.Aging.Fresh⟩ : Sfilm).Aging).Loss).Lo), vi ((((⟨z0.Aging, true, 0, z1, z0.Aging.Fresh⟩ : Sfilm).Aging).Loss).Hi), vi ((((⟨z0.Aging, true, 0, z1, z0.Aging.Fresh⟩ : Sfilm).Aging).Back).Lo), vi ((((⟨z0.Aging, true, 0, z1, z0.Aging.Fresh⟩ : Sfilm).Aging).Back).Hi), vi (((⟨z0.Aging, true, 0, z1, z0.Aging.Fresh⟩ : Sfilm).Aging).Washes), vb ((⟨z0.Aging, true, 0, z1, z0.Aging.Fresh⟩ : Sfilm).isOn), vi ((⟨z0.Aging, true, 0, z1, z0.Aging.Fresh⟩ : Sfilm).washed), vi ((⟨z0.Aging, true, 0, z1, z0.Aging.Fresh⟩ : Sfilm).since), vi (((⟨z0.Aging, true, 0, z1, z0.Aging.Fresh⟩ : Sfilm).bright).Lo), vi (((⟨z0.Aging, true, 0, z1, z0.Aging.Fresh⟩ : Sfilm).bright).Hi)] := by first | rfl | (simp only [unfr_vi, unfr_vb, List.map_cons, List.map_nil, un_i, un_b]; done) | (simp only [unfr_vi, unfr_vb, List.map_cons, List.map_nil, un_i, un_b]; rfl) | (simp only [unfr_vi, unfr_vb, List.map_cons, List.map_nil, un_i, un_b, List.length_cons, List.length_nil, List.length_append]; done)
def n_coat_film_put (k : Nat) (a0 : Sfilm) (a1 : Int) : Option Sfilm :=
  some (⟨a0.Aging, true, 0, a1, a0.Aging.Fresh⟩ : Sfilm)
theorem n_coat_film_put_ok (k : Nat) (a0 : Sfilm) (a1 : Int) (r : Sfilm) (h : n_coat_film_put k a0 a1 = some r) : VC Go.Proofs.Try.prog 41 [VV.ag (c_Sfilm a0), vi a1] (VV.ag (c_Sfilm r)) := by
 unfold n_coat_film_put at h
 injection h with h; subst h
 exact fun_ok pm pn Go.Proofs.Try.func41 (r0 := VV.ag [vi a0.Aging.Fresh.Lo, vi a0.Aging.Fresh.Hi, vi a0.Aging.Loss.Lo, vi a0.Aging.Loss.Hi, vi a0.Aging.Back.Lo, vi a0.Aging.Back.Hi, vi a0.Aging.Washes, vb true, vi 0, vi a1, vi a0.Aging.Fresh.Lo, vi a0.Aging.Fresh.Hi]) (ans := [.reg (.n :: .n :: []), .reg (nN 8 [])]) (fr := true) (by kernel_rfl) (an (an (ti (ti trivial)) (an (ti (ti (ti (ti (ti (ti (ti (ti trivial)))))))) trivial)) (an (ti (ti (ti (ti (ti (ti (ti (ti (ti (ti (ti (ti (ti trivial))))))))))))) trivial)) (Wv.of_eq (eqTC1_5 a0 a1))
def ncoat_up (k : Nat) (a0 : Int) (a1 : Int) : Option Int :=
  if a1 ≠ 0 then (some (w64 ((w64 ((w64 (a0 + a1)) - 1)).tdiv a1))) else none
theorem ncoat_up_ok (k : Nat) (a0 : Int) (a1 : Int) (r : Int) (h : ncoat_up k a0 a1 = some r) : VC Go.Proofs.Try.prog 37 [vi a0, vi a1] (vi r) := by
 unfold ncoat_up at h
 obtain ⟨h631, h⟩ := ifn h
 injection h with h; subst h
 exact fun_ok pm pn Go.Proofs.Try.func37 (r0 := vi (w64 ((w64 ((w64 (a0 + a1)) - 1)).tdiv a1))) (ans := [.reg (.n :: []), .reg (nN 7 [])]) (fr := true) (by kernel_rfl) (an (an (ti trivial) (an (ti (ti (ti (ti (ti (an h631 (ti trivial))))))) trivial)) (ti trivial)) (Wv.refl _)
theorem eqTC1_6 (z0 : Int) (z1 : Int) (z2 : Int) : VV.ag [vi (w64 (z0.tdiv z1)), vi z2] = VV.ag (c_SRange (⟨w64 (z0.tdiv z1), z2⟩ : SRange)) := by first | rfl | (simp only [unfr_vi, List.map_cons, List.map_nil, un_i, unfr_c_SRange]; done) | (simp only [unfr_vi, List.map_cons, List.map_nil, un_i, unfr_c_SRange]; rfl) | (simp only [unfr_vi, List.map_cons, List.map_nil, un_i, unfr_c_SRange, c_SRange, List.length_cons, List.length_nil, List.length_append]; done)
def ncoat_outward (k : Nat) (a0 : Int) (a1 : Int) (a2 : Int) : Option SRange :=
  if a2 ≠ 0 then ((ncoat_up k a1 a2).bind fun r636 => (some (⟨w64 (a0.tdiv a2), r636⟩ : SRange))) else none
theorem ncoat_outward_ok (k : Nat) (a0 : Int) (a1 : Int) (a2 : Int) (r : SRange) (h : ncoat_outward k a0 a1 a2 = some r) : VC Go.Proofs.Try.prog 28 [vi a0, vi a1, vi a2] (VV.ag (c_SRange r)) := by
 unfold ncoat_outward at h
 obtain ⟨h635, h⟩ := ifn h
 obtain ⟨r636, h637, h⟩ := bs h
 have e638 := (ti (ti (an h635 (ti (ti (an (ncoat_up_ok k a1 a2 _ h637) (ti (ti trivial))))))))
 injection h with h; subst h
 exact fun_ok pm pn Go.Proofs.Try.func28 (r0 := VV.ag [vi (w64 (a0.tdiv a2)), vi r636]) (ans := [.reg (.n :: []), .reg (nN 5 (.call (vi r636) :: .n :: .n :: []))]) (fr := true) (by kernel_rfl) (an (an (ti trivial) (an e638 trivial)) (an (ti (ti (ti trivial))) trivial)) (Wv.of_eq (eqTC1_6 a0 a2 r636))
theorem eqTC1_7 (z0 : Sfilm) (z1 : SRange) : VV.ag [vi (maxI 0 (w64 (z0.bright.Lo - z1.Hi))), vi (maxI 0 (w64 (z0.bright.Hi - z1.Lo)))] = VV.ag (c_SRange (⟨maxI 0 (w64 (z0.bright.Lo - z1.Hi)), maxI 0 (w64 (z0.bright.Hi - z1.Lo))⟩ : SRange)) := by first | rfl | (simp only [unfr_vi, List.map_cons, List.map_nil, un_i, unfr_c_SRange]; done) | (simp only [unfr_vi, List.map_cons, List.map_nil, un_i, unfr_c_SRange]; rfl) | (simp only [unfr_vi, List.map_cons, List.map_nil, un_i, unfr_c_SRange, c_SRange, List.length_cons, List.length_nil, List.length_append]; done)
def n_coat_film_brightOn (k : Nat) (a0 : Sfilm) (a1 : Int) : Option SRange :=
  (ncoat_outward k (w64 (a0.Aging.Loss.Lo * (w64 (a1 - a0.since)))) (w64 (a0.Aging.Loss.Hi * (w64 (a1 - a0.since)))) 1000).bind fun r644 => (some (⟨maxI 0 (w64 (a0.bright.Lo - r644.Hi)), maxI 0 (w64 (a0.bright.Hi - r644.Lo))⟩ : SRange))
theorem n_coat_film_brightOn_ok (k : Nat) (a0 : Sfilm) (a1 : Int) (r : SRange) (h : n_coat_film_brightOn k a0 a1 = some r) : VC Go.Proofs.Try.prog 17 [VV.ag (c_Sfilm a0), vi a1] (VV.ag (c_SRange r)) := by
 unfold n_coat_film_brightOn at h
 obtain ⟨r644, h645, h⟩ := bs h
 have e646 := (ncoat_outward_ok k (w64 (a0.Aging.Loss.Lo * (w64 (a1 - a0.since)))) (w64 (a0.Aging.Loss.Hi * (w64 (a1 - a0.since)))) 1000 _ h645)
 have e647 := (ti (ti (ti (ti (ti (ti (ti (ti (ti (ti (ti (ti (an e646 (ti (ti trivial)))))))))))))))
 have e648 := (ti (ti (ti (ti (ti (ti (ti (ti (ti (ti (ti (ti (ti (ti (ti (ti trivial))))))))))))))))
 injection h with h; subst h
 exact fun_ok pm pn Go.Proofs.Try.func17 (r0 := VV.ag [vi (maxI 0 (w64 (a0.bright.Lo - r644.Hi))), vi (maxI 0 (w64 (a0.bright.Hi - r644.Lo)))]) (ans := [.reg (.n :: .n :: []), .reg (nN 5 []), .reg (nN 12 (.call (VV.ag (c_SRange r644)) :: .n :: .n :: [])), .reg (nN 16 [])]) (fr := true) (by kernel_rfl) (an (an (ti (ti trivial)) (an (ti (ti (ti (ti (ti trivial))))) (an e647 (an e648 trivial)))) (an (ti (ti (ti trivial))) trivial)) (Wv.of_eq (eqTC1_7 a0 r644))
theorem eqTC1_8 (z0 : Sfilm) (z1 : Int) (z2 : SRange) : VV.ag [vi z0.Aging.Fresh.Lo, vi z0.Aging.Fresh.Hi, vi z0.Aging.Loss.Lo, vi z0.Aging.Loss.Hi, vi z0.Aging.Back.Lo, vi z0.Aging.Back.Hi, vi z0.Aging.Washes, vb z0.isOn, vi (w64 (z0.washed + 1)), vi z1, vi (minI (w64 (z2.Lo + z0.Aging.Back.Lo)) z0.Aging.Fresh.Lo), vi (minI (w64 (z2.Hi + z0.Aging.Back.Hi)) z0.Aging.Fresh.Hi)] = VV.ag [vi ((((⟨z0.Aging, z0.isOn, w64 (z0.washed + 1), z1, (⟨minI (w64 (z2.Lo + z0.Aging.Back.Lo)) z0.Aging.Fresh.Lo, minI (w64 (z2.Hi + z0.Aging.Back.Hi)) z0.Aging.Fresh.Hi⟩ : SRange)⟩ : Sfilm).Aging).Fresh).Lo), vi ((((⟨z0.Aging, z0.isOn, w64 (z0.washed + 1), z1, (⟨minI (w64 (z2.Lo + z0.Aging.Back.Lo)) z0.Aging.Fresh.Lo, minI (w64 (z2.Hi + z0.Aging.Back.Hi)) z0.Aging.Fresh.Hi⟩ : SRange)⟩ : Sfilm).Aging).Fresh).Hi), vi ((((⟨z0.Aging, z0.isOn, w64 (z0.washed + 1), z1, (⟨minI (w64 (z2.Lo + z0.Aging.Back.Lo)) z0.Aging.Fresh.Lo, minI (w64 (z2.Hi + z0.Aging.Back.Hi)) z0.Aging.Fresh.Hi⟩ : SRange)⟩ : Sfilm).Aging).Loss).Lo), vi ((((⟨z0.Aging, z0.isOn, w64 (z0.washed + 1), z1, (⟨minI (w64 (z2.Lo + z0.Aging.Back.Lo)) z0.Aging.Fresh.Lo, minI (w64 (z2.Hi + z0.Aging.Back.Hi)) z0.Aging.Fresh.Hi⟩ : SRange)⟩ : Sfilm).Aging).Loss).Hi), vi ((((⟨z0.Aging, z0.isOn, w64 (z0.washed + 1), z1, (⟨minI (w64 (z2.Lo + z0.Aging.Back.Lo)) z0.Aging.Fresh.Lo, minI (w64 (z2.Hi + z0.Aging.Back.Hi)) z0.Aging.Fresh.Hi⟩ : SRange)⟩ : Sfilm).Aging).Back).Lo), vi ((((⟨z0.Aging, z0.isOn, w64 (z0.washed + 1), z1, (⟨minI (w64 (z2.Lo + z0.Aging.Back.Lo)) z0.Aging.Fresh.Lo, minI (w64 (z2.Hi + z0.Aging.Back.Hi)) z0.Aging.Fresh.Hi⟩ : SRange)⟩ : Sfilm).Aging).Back).Hi), vi (((⟨z0.Aging, z0.isOn, w64 (z0.washed + 1), z1, (⟨minI (w64 (z2.Lo + z0.Aging.Back.Lo)) z0.Aging.Fresh.Lo, minI (w64 (z2.Hi + z0.Aging.Back.Hi)) z0.Aging.Fresh.Hi⟩ : SRange)⟩ : Sfilm).Aging).Washes), vb ((⟨z0.Aging, z0.isOn, w64 (z0.washed + 1), z1, (⟨minI (w64 (z2.Lo + z0.Aging.Back.Lo)) z0.Aging.Fresh.Lo, minI (w64 (z2.Hi + z0.Aging.Back.Hi)) z0.Aging.Fresh.Hi⟩ : SRange)⟩ : Sfilm).isOn), vi ((⟨z0.Aging, z0.isOn, w64 (z0.washed + 1), z1, (⟨minI (w64 (z2.Lo + z0.Aging.Back.Lo)) z0.Aging.Fresh.Lo, minI (w64 (z2.Hi + z0.Aging.Back.Hi)) z0.Aging.Fresh.Hi⟩ : SRange)⟩ : Sfilm).washed), vi ((⟨z0.Aging, z0.isOn, w64 (z0.washed + 1), z1, (⟨minI (w64 (z2.Lo + z0.Aging.Back.Lo)) z0.Aging.Fresh.Lo, minI (w64 (z2.Hi + z0.Aging.Back.Hi)) z0.Aging.Fresh.Hi⟩ : SRange)⟩ : Sfilm).since), vi (((⟨z0.Aging, z0.isOn, w64 (z0.washed + 1), z1, (⟨minI (w64 (z2.Lo + z0.Aging.Back.Lo)) z0.Aging.Fresh.Lo, minI (w64 (z2.Hi + z0.Aging.Back.Hi)) z0.Aging.Fresh.Hi⟩ : SRange)⟩ : Sfilm).bright).Lo), vi (((⟨z0.Aging, z0.isOn, w64 (z0.washed + 1), z1, (⟨minI (w64 (z2.Lo + z0.Aging.Back.Lo)) z0.Aging.Fresh.Lo, minI (w64 (z2.Hi + z0.Aging.Back.Hi)) z0.Aging.Fresh.Hi⟩ : SRange)⟩ : Sfilm).bright).Hi)] := by first | rfl | (simp only [unfr_vi, unfr_vb, List.map_cons, List.map_nil, un_i, un_b]; done) | (simp only [unfr_vi, unfr_vb, List.map_cons, List.map_nil, un_i, un_b]; rfl) | (simp only [unfr_vi, unfr_vb, List.map_cons, List.map_nil, un_i, un_b, List.length_cons, List.length_nil, List.length_append]; done)
def n_coat_film_wash (k : Nat) (a0 : Sfilm) (a1 : Int) : Option Sfilm :=
  (n_coat_film_brightOn k a0 a1).bind fun r653 => (some (⟨a0.Aging, a0.isOn, w64 (a0.washed + 1), a1, (⟨minI (w64 (r653.Lo + a0.Aging.Back.Lo)) a0.Aging.Fresh.Lo, minI (w64 (r653.Hi + a0.Aging.Back.Hi)) a0.Aging.Fresh.Hi⟩ : SRange)⟩ : Sfilm))
theorem n_coat_film_wash_ok (k : Nat) (a0 : Sfilm) (a1 : Int) (r : Sfilm) (h : n_coat_film_wash k a0 a1 = some r) : VC Go.Proofs.Try.prog 42 [VV.ag (c_Sfilm a0), vi a1] (VV.ag (c_Sfilm r)) := by
 unfold n_coat_film_wash at h
 obtain ⟨r653, h654, h⟩ := bs h
 have e655 := (n_coat_film_brightOn_ok k a0 a1 _ h654)
 have e656 := (ti (ti (ti (ti (ti (ti (ti (ti (ti (ti (ti (ti (ti (ti (ti (ti (ti (ti (ti (ti (ti (ti (ti (ti (ti (ti (ti trivial)))))))))))))))))))))))))))
 injection h with h; subst h
 exact fun_ok pm pn Go.Proofs.Try.func42 (r0 := VV.ag [vi a0.Aging.Fresh.Lo, vi a0.Aging.Fresh.Hi, vi a0.Aging.Loss.Lo, vi a0.Aging.Loss.Hi, vi a0.Aging.Back.Lo, vi a0.Aging.Back.Hi, vi a0.Aging.Washes, vb a0.isOn, vi (w64 (a0.washed + 1)), vi a1, vi (minI (w64 (r653.Lo + a0.Aging.Back.Lo)) a0.Aging.Fresh.Lo), vi (minI (w64 (r653.Hi + a0.Aging.Back.Hi)) a0.Aging.Fresh.Hi)]) (ans := [.reg (.n :: .n :: []), .reg (.n :: .n :: .call (VV.ag (c_SRange r653)) :: .n :: .n :: []), .reg (nN 27 []), .reg (nN 3 []), .reg (nN 5 []), .reg (.n :: .n :: [])]) (fr := true) (by kernel_rfl) (an (an (ti (ti trivial)) (an (ti (ti (an e655 (ti (ti trivial))))) (an e656 (an (ti (ti (ti trivial))) (an (ti (ti (ti (ti (ti trivial))))) (an (ti (ti trivial)) trivial)))))) (an (ti (ti (ti (ti (ti (ti (ti (ti (ti (ti (ti (ti (ti trivial))))))))))))) trivial)) (Wv.of_eq (eqTC1_8 a0 a1 r653))
theorem eqTC1_9 (z0 : Sfilm) : VV.ag [vi z0.Aging.Fresh.Lo, vi z0.Aging.Fresh.Hi, vi z0.Aging.Loss.Lo, vi z0.Aging.Loss.Hi, vi z0.Aging.Back.Lo, vi z0.Aging.Back.Hi, vi z0.Aging.Washes, vb false, vi 0, vi 0, vi 0, vi 0] = VV.ag [vi ((((⟨z0.Aging, false, 0, 0, (⟨0, 0⟩ : SRange)⟩ : Sfilm).Aging).Fresh).Lo), vi ((((⟨z0.Aging, false, 0, 0, (⟨0, 0⟩ : SRange)⟩ : Sfilm).Aging).Fresh).Hi), vi ((((⟨z0.Aging, false, 0, 0, (⟨0, 0⟩ : SRange)⟩ : Sfilm).Aging).Loss).Lo), vi ((((⟨z0.Aging, false, 0, 0, (⟨0, 0⟩ : SRange)⟩ : Sfilm).Aging).Loss).Hi), vi ((((⟨z0.Aging, false, 0, 0, (⟨0, 0⟩ : SRange)⟩ : Sfilm).Aging).Back).Lo), vi ((((⟨z0.Aging, false, 0, 0, (⟨0, 0⟩ : SRange)⟩ : Sfilm).Aging).Back).Hi), vi (((⟨z0.Aging, false, 0, 0, (⟨0, 0⟩ : SRange)⟩ : Sfilm).Aging).Washes), vb ((⟨z0.Aging, false, 0, 0, (⟨0, 0⟩ : SRange)⟩ : Sfilm).isOn), vi ((⟨z0.Aging, false, 0, 0, (⟨0, 0⟩ : SRange)⟩ : Sfilm).washed), vi ((⟨z0.Aging, false, 0, 0, (⟨0, 0⟩ : SRange)⟩ : Sfilm).since), vi (((⟨z0.Aging, false, 0, 0, (⟨0, 0⟩ : SRange)⟩ : Sfilm).bright).Lo), vi (((⟨z0.Aging, false, 0, 0, (⟨0, 0⟩ : SRange)⟩ : Sfilm).bright).Hi)] := by first | rfl | (simp only [unfr_vi, unfr_vb, List.map_cons, List.map_nil, un_i, un_b]; done) | (simp only [unfr_vi, unfr_vb, List.map_cons, List.map_nil, un_i, un_b]; rfl) | (simp only [unfr_vi, unfr_vb, List.map_cons, List.map_nil, un_i, un_b, List.length_cons, List.length_nil, List.length_append]; done)
def n_coat_film_strip (k : Nat) (a0 : Sfilm) : Option Sfilm :=
  some (⟨a0.Aging, false, 0, 0, (⟨0, 0⟩ : SRange)⟩ : Sfilm)
theorem n_coat_film_strip_ok (k : Nat) (a0 : Sfilm) (r : Sfilm) (h : n_coat_film_strip k a0 = some r) : VC Go.Proofs.Try.prog 43 [VV.ag (c_Sfilm a0)] (VV.ag (c_Sfilm r)) := by
 unfold n_coat_film_strip at h
 injection h with h; subst h
 exact fun_ok pm pn Go.Proofs.Try.func43 (r0 := VV.ag [vi a0.Aging.Fresh.Lo, vi a0.Aging.Fresh.Hi, vi a0.Aging.Loss.Lo, vi a0.Aging.Loss.Hi, vi a0.Aging.Back.Lo, vi a0.Aging.Back.Hi, vi a0.Aging.Washes, vb false, vi 0, vi 0, vi 0, vi 0]) (ans := [.reg (.n :: .n :: []), .reg (nN 4 [])]) (fr := true) (by kernel_rfl) (an (an (ti (ti trivial)) (an (ti (ti (ti (ti trivial)))) trivial)) (an (ti (ti (ti (ti (ti (ti (ti (ti (ti (ti (ti (ti (ti trivial))))))))))))) trivial)) (Wv.of_eq (eqTC1_9 a0))
def n_coat_film_behind (k : Nat) (a0 : Sfilm) (a1 : SCoatEvent) : Option Sfilm :=
  if a1.Kind = 0 then ((n_coat_film_put k a0 a1.Day).bind fun r664 => (some r664)) else (if a1.Kind = 1 then ((n_coat_film_wash k a0 a1.Day).bind fun r668 => (some r668)) else ((n_coat_film_strip k a0).bind fun r671 => (some r671)))
theorem n_coat_film_behind_ok (k : Nat) (a0 : Sfilm) (a1 : SCoatEvent) (r : Sfilm) (h : n_coat_film_behind k a0 a1 = some r) : VC Go.Proofs.Try.prog 36 [VV.ag (c_Sfilm a0), VV.ag (c_SCoatEvent a1)] (VV.ag (c_Sfilm r)) := by
 unfold n_coat_film_behind at h
 rcases ifs h with ⟨h663, h⟩ | ⟨h663, h⟩
 ·obtain ⟨r664, h665, h⟩ := bs h
  have e666 := (ti (ti (ti (an (n_coat_film_put_ok k a0 a1.Day _ h665) (ti trivial)))))
  injection h with h; subst h
  exact fun_ok pm pn Go.Proofs.Try.func36 (r0 := VV.ag (c_Sfilm r664)) (ans := [.reg (nN 3 []), .reg (.n :: .n :: []), .reg (.n :: .n :: []), .br true, .reg (nN 3 (.call (VV.ag (c_Sfilm r664)) :: .n :: []))]) (fr := true) (by kernel_rfl) (an (an (ti (ti (ti trivial))) (an (ti (ti trivial)) (an (ti (ti trivial)) (an (decide_eq_true h663) (an e666 trivial))))) (an (ti (ti (ti (ti (ti (ti (ti (ti (ti (ti (ti (ti (ti trivial))))))))))))) trivial)) (Wv.refl _)
 ·rcases ifs h with ⟨h667, h⟩ | ⟨h667, h⟩
  ·obtain ⟨r668, h669, h⟩ := bs h
   have e670 := (n_coat_film_wash_ok k a0 a1.Day _ h669)
   injection h with h; subst h
   exact fun_ok pm pn Go.Proofs.Try.func36 (r0 := VV.ag (c_Sfilm r668)) (ans := [.reg (nN 3 []), .reg (.n :: .n :: []), .reg (.n :: .n :: []), .br false, .reg (.n :: .n :: []), .br true, .reg (nN 3 (.call (VV.ag (c_Sfilm r668)) :: .n :: []))]) (fr := true) (by kernel_rfl) (an (an (ti (ti (ti trivial))) (an (ti (ti trivial)) (an (ti (ti trivial)) (an (decide_eq_false h663) (an (ti (ti trivial)) (an (decide_eq_true h667) (an (ti (ti (ti (an e670 (ti trivial))))) trivial))))))) (an (ti (ti (ti (ti (ti (ti (ti (ti (ti (ti (ti (ti (ti trivial))))))))))))) trivial)) (Wv.refl _)
  ·obtain ⟨r671, h672, h⟩ := bs h
   have e673 := (ti (an (n_coat_film_strip_ok k a0 _ h672) (ti trivial)))
   injection h with h; subst h
   exact fun_ok pm pn Go.Proofs.Try.func36 (r0 := VV.ag (c_Sfilm r671)) (ans := [.reg (nN 3 []), .reg (.n :: .n :: []), .reg (.n :: .n :: []), .br false, .reg (.n :: .n :: []), .br false, .reg (.n :: .call (VV.ag (c_Sfilm r671)) :: .n :: [])]) (fr := true) (by kernel_rfl) (an (an (ti (ti (ti trivial))) (an (an (ti (ti trivial)) (an (ti (ti trivial)) (an (decide_eq_false h663) (an (ti (ti trivial)) (an (decide_eq_false h667) trivial))))) (an e673 trivial))) (an (ti (ti (ti (ti (ti (ti (ti (ti (ti (ti (ti (ti (ti trivial))))))))))))) trivial)) (Wv.refl _)
theorem eqTC1_10 (z0 : SAging) (z1 : (List SCoatEvent)) : [VV.ag [vi ((((⟨z0, false, 0, 0, (⟨0, 0⟩ : SRange)⟩ : Sfilm).Aging).Fresh).Lo), vi ((((⟨z0, false, 0, 0, (⟨0, 0⟩ : SRange)⟩ : Sfilm).Aging).Fresh).Hi), vi ((((⟨z0, false, 0, 0, (⟨0, 0⟩ : SRange)⟩ : Sfilm).Aging).Loss).Lo), vi ((((⟨z0, false, 0, 0, (⟨0, 0⟩ : SRange)⟩ : Sfilm).Aging).Loss).Hi), vi ((((⟨z0, false, 0, 0, (⟨0, 0⟩ : SRange)⟩ : Sfilm).Aging).Back).Lo), vi ((((⟨z0, false, 0, 0, (⟨0, 0⟩ : SRange)⟩ : Sfilm).Aging).Back).Hi), vi (((⟨z0, false, 0, 0, (⟨0, 0⟩ : SRange)⟩ : Sfilm).Aging).Washes), vb ((⟨z0, false, 0, 0, (⟨0, 0⟩ : SRange)⟩ : Sfilm).isOn), vi ((⟨z0, false, 0, 0, (⟨0, 0⟩ : SRange)⟩ : Sfilm).washed), vi ((⟨z0, false, 0, 0, (⟨0, 0⟩ : SRange)⟩ : Sfilm).since), vi (((⟨z0, false, 0, 0, (⟨0, 0⟩ : SRange)⟩ : Sfilm).bright).Lo), vi (((⟨z0, false, 0, 0, (⟨0, 0⟩ : SRange)⟩ : Sfilm).bright).Hi)], VV.ag (c_SCoatEvent (z1.getD ((0 : Int)).toNat default))] = [VV.ag [vi z0.Fresh.Lo, vi z0.Fresh.Hi, vi z0.Loss.Lo, vi z0.Loss.Hi, vi z0.Back.Lo, vi z0.Back.Hi, vi z0.Washes, vb false, vi 0, vi 0, vi 0, vi 0], VV.ag (c_SCoatEvent (z1.getD ((0 : Int)).toNat default))] := by first | rfl | (simp only [unfr_vi, unfr_vb, List.map_cons, List.map_nil, un_i, un_b, unfr_c_SCoatEvent]; done) | (simp only [unfr_vi, unfr_vb, List.map_cons, List.map_nil, un_i, un_b, unfr_c_SCoatEvent]; rfl) | (simp only [unfr_vi, unfr_vb, List.map_cons, List.map_nil, un_i, un_b, unfr_c_SCoatEvent, c_SCoatEvent, List.length_cons, List.length_nil, List.length_append]; done)
theorem eqTC1_11 (z0 : (List SCoatEvent)) (z1 : Int) (z2 : Int) (z3 : Int) (z4 : Int) (z5 : Int) (z6 : Int) (z7 : Int) (z8 : Int) (z9 : Bool) (z10 : Int) (z11 : Int) (z12 : Int) (z13 : Int) : [VV.tr (List.flatMap c_SCoatEvent (sl z0 0 ((z1).toNat))) ((sl z0 0 ((z1).toNat)).length), VV.ag [vi ((((⟨(⟨(⟨z2, z3⟩ : SRange), (⟨z4, z5⟩ : SRange), (⟨z6, z7⟩ : SRange), z8⟩ : SAging), z9, z10, z11, (⟨z12, z13⟩ : SRange)⟩ : Sfilm).Aging).Fresh).Lo), vi ((((⟨(⟨(⟨z2, z3⟩ : SRange), (⟨z4, z5⟩ : SRange), (⟨z6, z7⟩ : SRange), z8⟩ : SAging), z9, z10, z11, (⟨z12, z13⟩ : SRange)⟩ : Sfilm).Aging).Fresh).Hi), vi ((((⟨(⟨(⟨z2, z3⟩ : SRange), (⟨z4, z5⟩ : SRange), (⟨z6, z7⟩ : SRange), z8⟩ : SAging), z9, z10, z11, (⟨z12, z13⟩ : SRange)⟩ : Sfilm).Aging).Loss).Lo), vi ((((⟨(⟨(⟨z2, z3⟩ : SRange), (⟨z4, z5⟩ : SRange), (⟨z6, z7⟩ : SRange), z8⟩ : SAging), z9, z10, z11, (⟨z12, z13⟩ : SRange)⟩ : Sfilm).Aging).Loss).Hi), vi ((((⟨(⟨(⟨z2, z3⟩ : SRange), (⟨z4, z5⟩ : SRange), (⟨z6, z7⟩ : SRange), z8⟩ : SAging), z9, z10, z11, (⟨z12, z13⟩ : SRange)⟩ : Sfilm).Aging).Back).Lo), vi ((((⟨(⟨(⟨z2, z3⟩ : SRange), (⟨z4, z5⟩ : SRange), (⟨z6, z7⟩ : SRange), z8⟩ : SAging), z9, z10, z11, (⟨z12, z13⟩ : SRange)⟩ : Sfilm).Aging).Back).Hi), vi (((⟨(⟨(⟨z2, z3⟩ : SRange), (⟨z4, z5⟩ : SRange), (⟨z6, z7⟩ : SRange), z8⟩ : SAging), z9, z10, z11, (⟨z12, z13⟩ : SRange)⟩ : Sfilm).Aging).Washes), vb ((⟨(⟨(⟨z2, z3⟩ : SRange), (⟨z4, z5⟩ : SRange), (⟨z6, z7⟩ : SRange), z8⟩ : SAging), z9, z10, z11, (⟨z12, z13⟩ : SRange)⟩ : Sfilm).isOn), vi ((⟨(⟨(⟨z2, z3⟩ : SRange), (⟨z4, z5⟩ : SRange), (⟨z6, z7⟩ : SRange), z8⟩ : SAging), z9, z10, z11, (⟨z12, z13⟩ : SRange)⟩ : Sfilm).washed), vi ((⟨(⟨(⟨z2, z3⟩ : SRange), (⟨z4, z5⟩ : SRange), (⟨z6, z7⟩ : SRange), z8⟩ : SAging), z9, z10, z11, (⟨z12, z13⟩ : SRange)⟩ : Sfilm).since), vi (((⟨(⟨(⟨z2, z3⟩ : SRange), (⟨z4, z5⟩ : SRange), (⟨z6, z7⟩ : SRange), z8⟩ : SAging), z9, z10, z11, (⟨z12, z13⟩ : SRange)⟩ : Sfilm).bright).Lo), vi (((⟨(⟨(⟨z2, z3⟩ : SRange), (⟨z4, z5⟩ : SRange), (⟨z6, z7⟩ : SRange), z8⟩ : SAging), z9, z10, z11, (⟨z12, z13⟩ : SRange)⟩ : Sfilm).bright).Hi)], VV.ag (c_SCoatEvent (z0.getD z1.toNat default))] = [VV.tr (List.flatMap c_SCoatEvent (sl z0 0 ((z1).toNat))) ((sl z0 0 ((z1).toNat)).length), VV.ag [vi z2, vi z3, vi z4, vi z5, vi z6, vi z7, vi z8, vb z9, vi z10, vi z11, vi z12, vi z13], VV.ag (c_SCoatEvent (z0.getD z1.toNat default))] := by first | rfl | (simp only [unfr_vi, unfr_vb, List.map_cons, List.map_nil, un_i, un_b, un_tr, List.length_cons, List.length_nil, unfr_c_SCoatEvent]; done) | (simp only [unfr_vi, unfr_vb, List.map_cons, List.map_nil, un_i, un_b, un_tr, List.length_cons, List.length_nil, unfr_c_SCoatEvent]; rfl) | (simp only [unfr_vi, unfr_vb, List.map_cons, List.map_nil, un_i, un_b, un_tr, List.length_cons, List.length_nil, unfr_c_SCoatEvent, c_SCoatEvent, List.length_cons, List.length_nil, List.length_append]; done)
theorem eqTC1_12 (z0 : Int) (z1 : Int) (z2 : Int) (z3 : Int) (z4 : Int) (z5 : Int) (z6 : Int) (z7 : Bool) (z8 : Int) (z9 : Int) (z10 : Int) (z11 : Int) (z12 : (List SCoatEvent)) (z13 : Int) : [VV.ag [vi ((((⟨(⟨(⟨z0, z1⟩ : SRange), (⟨z2, z3⟩ : SRange), (⟨z4, z5⟩ : SRange), z6⟩ : SAging), z7, z8, z9, (⟨z10, z11⟩ : SRange)⟩ : Sfilm).Aging).Fresh).Lo), vi ((((⟨(⟨(⟨z0, z1⟩ : SRange), (⟨z2, z3⟩ : SRange), (⟨z4, z5⟩ : SRange), z6⟩ : SAging), z7, z8, z9, (⟨z10, z11⟩ : SRange)⟩ : Sfilm).Aging).Fresh).Hi), vi ((((⟨(⟨(⟨z0, z1⟩ : SRange), (⟨z2, z3⟩ : SRange), (⟨z4, z5⟩ : SRange), z6⟩ : SAging), z7, z8, z9, (⟨z10, z11⟩ : SRange)⟩ : Sfilm).Aging).Loss).Lo), vi ((((⟨(⟨(⟨z0, z1⟩ : SRange), (⟨z2, z3⟩ : SRange), (⟨z4, z5⟩ : SRange), z6⟩ : SAging), z7, z8, z9, (⟨z10, z11⟩ : SRange)⟩ : Sfilm).Aging).Loss).Hi), vi ((((⟨(⟨(⟨z0, z1⟩ : SRange), (⟨z2, z3⟩ : SRange), (⟨z4, z5⟩ : SRange), z6⟩ : SAging), z7, z8, z9, (⟨z10, z11⟩ : SRange)⟩ : Sfilm).Aging).Back).Lo), vi ((((⟨(⟨(⟨z0, z1⟩ : SRange), (⟨z2, z3⟩ : SRange), (⟨z4, z5⟩ : SRange), z6⟩ : SAging), z7, z8, z9, (⟨z10, z11⟩ : SRange)⟩ : Sfilm).Aging).Back).Hi), vi (((⟨(⟨(⟨z0, z1⟩ : SRange), (⟨z2, z3⟩ : SRange), (⟨z4, z5⟩ : SRange), z6⟩ : SAging), z7, z8, z9, (⟨z10, z11⟩ : SRange)⟩ : Sfilm).Aging).Washes), vb ((⟨(⟨(⟨z0, z1⟩ : SRange), (⟨z2, z3⟩ : SRange), (⟨z4, z5⟩ : SRange), z6⟩ : SAging), z7, z8, z9, (⟨z10, z11⟩ : SRange)⟩ : Sfilm).isOn), vi ((⟨(⟨(⟨z0, z1⟩ : SRange), (⟨z2, z3⟩ : SRange), (⟨z4, z5⟩ : SRange), z6⟩ : SAging), z7, z8, z9, (⟨z10, z11⟩ : SRange)⟩ : Sfilm).washed), vi ((⟨(⟨(⟨z0, z1⟩ : SRange), (⟨z2, z3⟩ : SRange), (⟨z4, z5⟩ : SRange), z6⟩ : SAging), z7, z8, z9, (⟨z10, z11⟩ : SRange)⟩ : Sfilm).since), vi (((⟨(⟨(⟨z0, z1⟩ : SRange), (⟨z2, z3⟩ : SRange), (⟨z4, z5⟩ : SRange), z6⟩ : SAging), z7, z8, z9, (⟨z10, z11⟩ : SRange)⟩ : Sfilm).bright).Lo), vi (((⟨(⟨(⟨z0, z1⟩ : SRange), (⟨z2, z3⟩ : SRange), (⟨z4, z5⟩ : SRange), z6⟩ : SAging), z7, z8, z9, (⟨z10, z11⟩ : SRange)⟩ : Sfilm).bright).Hi)], VV.ag (c_SCoatEvent (z12.getD z13.toNat default))] = [VV.ag [vi z0, vi z1, vi z2, vi z3, vi z4, vi z5, vi z6, vb z7, vi z8, vi z9, vi z10, vi z11], VV.ag (c_SCoatEvent (z12.getD z13.toNat default))] := by first | rfl | (simp only [unfr_vi, unfr_vb, List.map_cons, List.map_nil, un_i, un_b, unfr_c_SCoatEvent]; done) | (simp only [unfr_vi, unfr_vb, List.map_cons, List.map_nil, un_i, un_b, unfr_c_SCoatEvent]; rfl) | (simp only [unfr_vi, unfr_vb, List.map_cons, List.map_nil, un_i, un_b, unfr_c_SCoatEvent, c_SCoatEvent, List.length_cons, List.length_nil, List.length_append]; done)
def arTC1_8 (z0 : (List SCoatEvent)) (z1 : Int) (z2 : Int) : List Ans := (.n :: .n :: .v (VV.tr (List.flatMap c_SCoatEvent (sl z0 0 ((z1).toNat))) ((sl z0 0 ((z1).toNat)).length)) :: .n :: .n :: .call (vi z2) :: .n :: [])
def ncoat_CheckHistory_l0_0_h (a0 : SAging) (a1 : (List SCoatEvent)) (b1_0 : Int) (b1_1 : Int) (b1_10 : Int) (b1_11 : Int) (b1_2 : Int) (b1_3 : Int) (b1_4 : Int) (b1_5 : Int) (b1_6 : Int) (b1_7 : Bool) (b1_8 : Int) (b1_9 : Int) (x23 : Int) : VS := ⟨mkA [(1, VV.tr (List.flatMap c_SCoatEvent a1) a1.length), (7, VV.pt 1 0), (21, VV.tr (List.flatMap c_SCoatEvent a1) a1.length), (22, vi (a1.length : Int)), (23, vi x23)], [some ⟨true, 1, c_SAging a0⟩, some ⟨true, 1, [vi b1_0, vi b1_1, vi b1_2, vi b1_3, vi b1_4, vi b1_5, vi b1_6, vb b1_7, vi b1_8, vi b1_9, vi b1_10, vi b1_11]⟩], .nil⟩
def ncoat_CheckHistory_l0_0_e0 (a0 : SAging) (a1 : (List SCoatEvent)) (r : Int × Int) : VS := ⟨mkA [(4, vi r.1), (5, vi r.2)], [], .nil⟩
def ncoat_CheckHistory_l0_0_e1 (a0 : SAging) (a1 : (List SCoatEvent)) (r : Unit) : VS := ⟨mkA [], [], .nil⟩
def ncoat_CheckHistory_l0_0 (k : Nat) (a0 : SAging) (a1 : (List SCoatEvent)) : Nat → Int → Int → Int → Int → Int → Int → Int → Int → Int → Bool → Int → Int → Int → Option (Sum (Int × Int) Unit)
  | 0, _, _, _, _, _, _, _, _, _, _, _, _, _ => none
  | fuel + 1, b1_0, b1_1, b1_10, b1_11, b1_2, b1_3, b1_4, b1_5, b1_6, b1_7, b1_8, b1_9, x23 => if x23 < (a1.length : Int) then (if 0 ≤ x23 ∧ x23 < (a1.length : Int) then (if 0 ≤ (0 : Int) ∧ (0 : Int) ≤ x23 ∧ x23 ≤ (a1.length : Int) then ((ncoat_checkBehind k (sl a1 0 ((x23).toNat)) (⟨(⟨(⟨b1_0, b1_1⟩ : SRange), (⟨b1_2, b1_3⟩ : SRange), (⟨b1_4, b1_5⟩ : SRange), b1_6⟩ : SAging), b1_7, b1_8, b1_9, (⟨b1_10, b1_11⟩ : SRange)⟩ : Sfilm) (a1.getD x23.toNat default)).bind fun r745 => (if r745 = 0 then ((n_coat_film_behind k (⟨(⟨(⟨b1_0, b1_1⟩ : SRange), (⟨b1_2, b1_3⟩ : SRange), (⟨b1_4, b1_5⟩ : SRange), b1_6⟩ : SAging), b1_7, b1_8, b1_9, (⟨b1_10, b1_11⟩ : SRange)⟩ : Sfilm) (a1.getD x23.toNat default)).bind fun r750 => (ncoat_CheckHistory_l0_0 k a0 a1 fuel r750.Aging.Fresh.Lo r750.Aging.Fresh.Hi r750.bright.Lo r750.bright.Hi r750.Aging.Loss.Lo r750.Aging.Loss.Hi r750.Aging.Back.Lo r750.Aging.Back.Hi r750.Aging.Washes r750.isOn r750.washed r750.since (w64 (x23 + 1)))) else (some (.inl (x23, r745))))) else none) else none) else (some (.inr ()))
theorem ncoat_CheckHistory_l0_0_ok (k : Nat) (a0 : SAging) (a1 : (List SCoatEvent)) : ∀ (fuel : Nat) (b1_0 : Int) (b1_1 : Int) (b1_10 : Int) (b1_11 : Int) (b1_2 : Int) (b1_3 : Int) (b1_4 : Int) (b1_5 : Int) (b1_6 : Int) (b1_7 : Bool) (b1_8 : Int) (b1_9 : Int) (x23 : Int) (r : Sum (Int × Int) Unit), ncoat_CheckHistory_l0_0 k a0 a1 fuel b1_0 b1_1 b1_10 b1_11 b1_2 b1_3 b1_4 b1_5 b1_6 b1_7 b1_8 b1_9 x23 = some r → (match r with | .inl r => VLoop none Go.Proofs.Try.prog (szF Go.Proofs.Try.f25) (bodyOf Go.Proofs.Try.f25 0) (ncoat_CheckHistory_l0_0_h a0 a1 b1_0 b1_1 b1_10 b1_11 b1_2 b1_3 b1_4 b1_5 b1_6 b1_7 b1_8 b1_9 x23) .ret (ncoat_CheckHistory_l0_0_e0 a0 a1 r) | .inr r => VLoop none Go.Proofs.Try.prog (szF Go.Proofs.Try.f25) (bodyOf Go.Proofs.Try.f25 0) (ncoat_CheckHistory_l0_0_h a0 a1 b1_0 b1_1 b1_10 b1_11 b1_2 b1_3 b1_4 b1_5 b1_6 b1_7 b1_8 b1_9 x23) (.exit 0) (ncoat_CheckHistory_l0_0_e1 a0 a1 r)) := by
 intro fuel
 induction fuel with
 | zero => intro b1_0 b1_1 b1_10 b1_11 b1_2 b1_3 b1_4 b1_5 b1_6 b1_7 b1_8 b1_9 x23 r h; rw [ncoat_CheckHistory_l0_0.eq_1] at h; cases h
 | succ fuel ih =>
  intro b1_0 b1_1 b1_10 b1_11 b1_2 b1_3 b1_4 b1_5 b1_6 b1_7 b1_8 b1_9 x23 r h
  rw [ncoat_CheckHistory_l0_0.eq_2] at h
  rcases ifs h with ⟨h740, h⟩ | ⟨h740, h⟩
  ·obtain ⟨h741, h⟩ := ifn h
   have e742 := (show loadL Go.Proofs.Try.prog 48 (x23.toNat * 3) (List.flatMap c_SCoatEvent a1) = some (VV.ag (c_SCoatEvent (a1.getD x23.toNat default))) from ld_whole ag48 c_SCoatEvent 3 sz48 len_c_SCoatEvent a1 default h741 (by omega))
   obtain ⟨h743, h⟩ := ifn h
   have e744 := (show (True ∧ 0 ≤ x23 ∧ 0 ≤ (x23).toNat ∧ (x23).toNat ≤ a1.length ∧ (x23).toNat * 3 ≤ List.length (List.flatMap c_SCoatEvent a1)) ∧ VV.tr (List.take (((x23).toNat - 0) * 3) (List.drop (0 * 3) (List.flatMap c_SCoatEvent a1))) ((x23).toNat - 0) = VV.tr (List.flatMap c_SCoatEvent (sl a1 0 ((x23).toNat))) ((sl a1 0 ((x23).toNat)).length) from ⟨⟨trivial, (by have := h743; omega), (by have := h743; omega), (by have := h743; omega), (by rw [flatMap_len len_c_SCoatEvent]; have := h743; omega)⟩, (by exact sl_flat len_c_SCoatEvent a1 0 ((x23).toNat) (by have := h743; omega) (by have := h743; omega))⟩)
   obtain ⟨r745, h746, h⟩ := bs h
   have e747 := (VC.args (ncoat_checkBehind_ok k (sl a1 0 ((x23).toNat)) (⟨(⟨(⟨b1_0, b1_1⟩ : SRange), (⟨b1_2, b1_3⟩ : SRange), (⟨b1_4, b1_5⟩ : SRange), b1_6⟩ : SAging), b1_7, b1_8, b1_9, (⟨b1_10, b1_11⟩ : SRange)⟩ : Sfilm) (a1.getD x23.toNat default) _ h746) (eqTC1_11 a1 x23 b1_0 b1_1 b1_2 b1_3 b1_4 b1_5 b1_6 b1_7 b1_8 b1_9 b1_10 b1_11))
   have e748 := (ti (ti (an e744 (ti (ti (an e747 (ti trivial)))))))
   rcases ifs h with ⟨h749, h⟩ | ⟨h749, h⟩
   ·obtain ⟨r750, h751, h⟩ := bs h
    have e752 := (VC.args (n_coat_film_behind_ok k (⟨(⟨(⟨b1_0, b1_1⟩ : SRange), (⟨b1_2, b1_3⟩ : SRange), (⟨b1_4, b1_5⟩ : SRange), b1_6⟩ : SAging), b1_7, b1_8, b1_9, (⟨b1_10, b1_11⟩ : SRange)⟩ : Sfilm) (a1.getD x23.toNat default) _ h751) (eqTC1_12 b1_0 b1_1 b1_2 b1_3 b1_4 b1_5 b1_6 b1_7 b1_8 b1_9 b1_10 b1_11 a1 x23))
    have h2 := ih _ _ _ _ _ _ _ _ _ _ _ _ _ _ h
    obtain ⟨q, hv, hq⟩ := pkR (rd := none) (P := Go.Proofs.Try.prog) (fn := Go.Proofs.Try.f25) (k := 0) (s := (ncoat_CheckHistory_l0_0_h a0 a1 b1_0 b1_1 b1_10 b1_11 b1_2 b1_3 b1_4 b1_5 b1_6 b1_7 b1_8 b1_9 x23)) (ans := [.reg (.n :: []), .br true, .reg (.n :: .n :: .v (VV.ag (c_SCoatEvent (a1.getD x23.toNat default))) :: nN 3 []), .reg (arTC1_8 a1 x23 r745), .reg (.n :: .n :: []), .br false, .reg (.n :: .n :: .call (VV.ag (c_Sfilm r750)) :: .n :: []), .reg (.n :: .n :: [])]) (c := ⟨[(1, none), (7, none), (21, none), (22, none), (23, none)], [none, none], []⟩) (e := .normal) (s1 := (ncoat_CheckHistory_l0_0_h a0 a1 r750.Aging.Fresh.Lo r750.Aging.Fresh.Hi r750.bright.Lo r750.bright.Hi r750.Aging.Loss.Lo r750.Aging.Loss.Hi r750.Aging.Back.Lo r750.Aging.Back.Hi r750.Aging.Washes r750.isOn r750.washed r750.since (w64 (x23 + 1)))) (an (an (ti trivial) (an (an (decide_eq_true h740) trivial) (an (an (ti (an h741 (an e742 (ti (ti (ti trivial)))))) (an (an e748 (an (ti (ti trivial)) (an (not_f (decide_eq_true h749)) trivial))) (ti (ti (an e752 (ti trivial)))))) (ti (ti trivial))))) (ti trivial)) (by kernel_rfl)
    cases r with
    | inl r => exact round_next pm pn hv hq h2
    | inr r =>
     exact round_next pm pn hv hq h2
   ·injection h with h; subst h
    exact round_stop (c := ⟨[(4, none), (5, none)], [], []⟩) (s1 := (ncoat_CheckHistory_l0_0_e0 a0 a1 (x23, r745))) pm pn (ans := [.reg (.n :: []), .br true, .reg (.n :: .n :: .v (VV.ag (c_SCoatEvent (a1.getD x23.toNat default))) :: nN 3 []), .reg (arTC1_8 a1 x23 r745), .reg (.n :: .n :: []), .br true, .reg (nN 4 [])]) (by kernel_rfl) (by intro e; cases e) (an (an (ti trivial) (an (an (decide_eq_true h740) trivial) (an (ti (an h741 (an e742 (ti (ti (ti trivial)))))) (an e748 (an (ti (ti trivial)) (an (not_t (decide_eq_false h749)) (an (ti (ti (ti (ti trivial)))) trivial))))))) (ti trivial))
  ·injection h with h; subst h
   exact round_stop (c := ⟨[], [], []⟩) (s1 := (ncoat_CheckHistory_l0_0_e1 a0 a1 ())) pm pn (ans := [.reg (.n :: []), .br false]) (by kernel_rfl) (by intro e; cases e) (an (an (ti trivial) (an (decide_eq_false h740) trivial)) (ti trivial))
def ncoat_CheckHistory (k : Nat) (a0 : SAging) (a1 : (List SCoatEvent)) : Option (Int × Int) :=
  (ncoat_CheckAging k a0).bind fun r709 => (if r709 = 0 then (if 40 < (a1.length : Int) then (some (0, 8)) else ((ncoat_CheckHistory_l0_0 k a0 a1 k a0.Fresh.Lo a0.Fresh.Hi 0 0 a0.Loss.Lo a0.Loss.Hi a0.Back.Lo a0.Back.Hi a0.Washes false 0 0 0).bind fun r754 => (match r754 with | .inl r755 => (some (r755.1, r755.2)) | .inr r756 => (some (0, 0))))) else (some (0, r709)))
theorem ncoat_CheckHistory_ok (k : Nat) (a0 : SAging) (a1 : (List SCoatEvent)) (r : (Int × Int)) (h : ncoat_CheckHistory k a0 a1 = some r) : VC Go.Proofs.Try.prog 25 [VV.ag (c_SAging a0), VV.tr (List.flatMap c_SCoatEvent a1) a1.length] (VV.tu [vi r.1, vi r.2]) := by
 unfold ncoat_CheckHistory at h
 obtain ⟨r709, h710, h⟩ := bs h
 have e711 := (ti (an (ncoat_CheckAging_ok k a0 _ h710) (ti trivial)))
 rcases ifs h with ⟨h712, h⟩ | ⟨h712, h⟩
 ·rcases ifs h with ⟨h713, h⟩ | ⟨h713, h⟩
  ·injection h with h; subst h
   exact fun_ok pm pn Go.Proofs.Try.func25 (r0 := VV.tu [vi 0, vi 8]) (ans := [.reg (nN 3 []), .reg (.n :: .call (vi r709) :: .n :: []), .reg (.n :: .n :: []), .br false, .reg (nN 3 []), .br true, .reg (.n :: .n :: [])]) (fr := true) (by kernel_rfl) (an (an (ti (ti (ti trivial))) (an (an e711 (an (ti (ti trivial)) (an (not_f (decide_eq_true h712)) trivial))) (an (ti (ti (ti trivial))) (an (decide_eq_true h713) (an (ti (ti trivial)) trivial))))) (ti (ti trivial))) (Wv.refl _)
  ·obtain ⟨r754, h753, h⟩ := bs h
   have hph753 := ncoat_CheckHistory_l0_0_ok k a0 a1 _ _ _ _ _ _ _ _ _ _ _ _ _ _ _ h753
   cases r754 with
   | inl r755 =>
    dsimp only at h
    have e757 := (an (ti trivial) (VRun.loop hph753))
    injection h with h; subst h
    exact fun_ok pm pn Go.Proofs.Try.func25 (r0 := VV.tu [vi r755.1, vi r755.2]) (ans := [.reg (nN 3 []), .reg (.n :: .call (vi r709) :: .n :: []), .reg (.n :: .n :: []), .br false, .reg (nN 3 []), .br false, .reg (nN 4 []), .reg (nN 3 []), .sub ⟨[(1, none), (7, none), (21, none), (22, none), (23, none)], [none, none], []⟩ .ret (ncoat_CheckHistory_l0_0_e0 a0 a1 r755)]) (fr := true) (by kernel_rfl) (an (an (ti (ti (ti trivial))) (an (an e711 (an (ti (ti trivial)) (an (not_f (decide_eq_true h712)) trivial))) (an (an (ti (ti (ti trivial))) (an (decide_eq_false h713) trivial)) (an (ti (ti (ti (ti trivial)))) (an (ti (ti (ti trivial))) e757))))) (ti (ti trivial))) (Wv.refl _)
   | inr r756 =>
    dsimp only at h
    have e758 := (an (ti trivial) (VRun.loop hph753))
    injection h with h; subst h
    exact fun_ok pm pn Go.Proofs.Try.func25 (r0 := VV.tu [vi 0, vi 0]) (ans := [.reg (nN 3 []), .reg (.n :: .call (vi r709) :: .n :: []), .reg (.n :: .n :: []), .br false, .reg (nN 3 []), .br false, .reg (nN 4 []), .reg (nN 3 []), .sub ⟨[(1, none), (7, none), (21, none), (22, none), (23, none)], [none, none], []⟩ (.exit 0) (ncoat_CheckHistory_l0_0_e1 a0 a1 r756), .reg (.n :: .n :: [])]) (fr := true) (by kernel_rfl) (an (an (ti (ti (ti trivial))) (an (an e711 (an (ti (ti trivial)) (an (not_f (decide_eq_true h712)) trivial))) (an (an (ti (ti (ti trivial))) (an (decide_eq_false h713) trivial)) (an (ti (ti (ti (ti trivial)))) (an (an (ti (ti (ti trivial))) e758) (an (ti (ti trivial)) trivial)))))) (ti (ti trivial))) (Wv.refl _)
 ·injection h with h; subst h
  exact fun_ok pm pn Go.Proofs.Try.func25 (r0 := VV.tu [vi 0, vi r709]) (ans := [.reg (nN 3 []), .reg (.n :: .call (vi r709) :: .n :: []), .reg (.n :: .n :: []), .br true, .reg (nN 3 [])]) (fr := true) (by kernel_rfl) (an (an (ti (ti (ti trivial))) (an e711 (an (ti (ti trivial)) (an (not_t (decide_eq_false h712)) (an (ti (ti (ti trivial))) trivial))))) (ti (ti trivial))) (Wv.refl _)
def nspeculumbase_Within (k : Nat) (a0 : Int) (a1 : Int) (a2 : Int) : Option Bool :=
  if a1 ≤ a0 then (some (decide (a0 ≤ a2))) else (some false)
theorem nspeculumbase_Within_ok (k : Nat) (a0 : Int) (a1 : Int) (a2 : Int) (r : Bool) (h : nspeculumbase_Within k a0 a1 a2 = some r) : VC Go.Proofs.Try.prog 8 [vi a0, vi a1, vi a2] (vb r) := by
 unfold nspeculumbase_Within at h
 rcases ifs h with ⟨h763, h⟩ | ⟨h763, h⟩
 ·have e764 := (ti (ti (ti (ti (an (an (decide_eq_true h763) trivial) (an (an (decide_eq_true h763) trivial) (an (an (decide_eq_true h763) trivial) (an (decide_eq_true h763) (ti trivial)))))))))
  injection h with h; subst h
  exact fun_ok pm pn Go.Proofs.Try.func8 (r0 := vb (decide (a0 ≤ a2))) (ans := [.reg (.n :: []), .reg (nN 7 (.b true :: .n :: []))]) (fr := true) (by kernel_rfl) (an (an (ti trivial) (an e764 trivial)) (ti trivial)) (Wv.refl _)
 ·have e765 := (ti (ti (ti (ti (an (decide_eq_false h763) (an (decide_eq_false h763) (an (decide_eq_false h763) (an (decide_eq_false h763) (ti trivial)))))))))
  injection h with h; subst h
  exact fun_ok pm pn Go.Proofs.Try.func8 (r0 := vb false) (ans := [.reg (.n :: []), .reg (nN 4 (nS 3 (.b false :: .n :: [])))]) (fr := true) (by kernel_rfl) (an (an (ti trivial) (an e765 trivial)) (ti trivial)) (Wv.refl _)
def nspeculumref08_CheckAging_l0_0_h (a0 : SAging) (x12 : Int) : VS := ⟨mkA [(1, VV.pt 0 0), (11, VV.ag [vi a0.Fresh.Lo, vi a0.Fresh.Hi, vi a0.Loss.Lo, vi a0.Loss.Hi, vi a0.Back.Lo, vi a0.Back.Hi]), (12, vi x12)], [some ⟨true, 1, c_SAging a0⟩], .nil⟩
def nspeculumref08_CheckAging_l0_0_e0 (a0 : SAging) (r : Unit) : VS := ⟨mkA [(2, vi 2)], [], .nil⟩
def nspeculumref08_CheckAging_l0_0_e1 (a0 : SAging) (r : Unit) : VS := ⟨mkA [(1, VV.pt 0 0)], [some ⟨true, 1, c_SAging a0⟩], .nil⟩
def nspeculumref08_CheckAging_l0_0 (k : Nat) (a0 : SAging) : Nat → Int → Option (Sum Unit Unit)
  | 0, _ => none
  | fuel + 1, x12 => if x12 < 3 then (if x12 = 0 then ((nspeculumbase_Within k a0.Fresh.Lo 0 a0.Fresh.Hi).bind fun r878 => (if r878 = true then (if 1000 < a0.Fresh.Hi then (some (.inl ())) else (nspeculumref08_CheckAging_l0_0 k a0 fuel (w64 (x12 + 1)))) else (some (.inl ())))) else (if x12 = 1 then ((nspeculumbase_Within k a0.Loss.Lo 0 a0.Loss.Hi).bind fun r887 => (if r887 = true then (if 1000 < a0.Loss.Hi then (some (.inl ())) else (nspeculumref08_CheckAging_l0_0 k a0 fuel (w64 (x12 + 1)))) else (some (.inl ())))) else (if x12 = 2 then ((nspeculumbase_Within k a0.Back.Lo 0 a0.Back.Hi).bind fun r896 => (if r896 = true then (if 1000 < a0.Back.Hi then (some (.inl ())) else (nspeculumref08_CheckAging_l0_0 k a0 fuel (w64 (x12 + 1)))) else (some (.inl ())))) else none))) else (some (.inr ()))
theorem nspeculumref08_CheckAging_l0_0_ok (k : Nat) (a0 : SAging) : ∀ (fuel : Nat) (x12 : Int) (r : Sum Unit Unit), nspeculumref08_CheckAging_l0_0 k a0 fuel x12 = some r → (match r with | .inl r => VLoop none Go.Proofs.Try.prog (szF Go.Proofs.Try.f6) (bodyOf Go.Proofs.Try.f6 0) (nspeculumref08_CheckAging_l0_0_h a0 x12) .ret (nspeculumref08_CheckAging_l0_0_e0 a0 r) | .inr r => VLoop none Go.Proofs.Try.prog (szF Go.Proofs.Try.f6) (bodyOf Go.Proofs.Try.f6 0) (nspeculumref08_CheckAging_l0_0_h a0 x12) (.exit 0) (nspeculumref08_CheckAging_l0_0_e1 a0 r)) := by
 intro fuel
 induction fuel with
 | zero => intro x12 r h; rw [nspeculumref08_CheckAging_l0_0.eq_1] at h; cases h
 | succ fuel ih =>
  intro x12 r h
  rw [nspeculumref08_CheckAging_l0_0.eq_2] at h
  rcases ifs h with ⟨h875, h⟩ | ⟨h875, h⟩
  ·rcases ifs h with ⟨h876, h⟩ | ⟨h876, h⟩
   ·have e877 := (show (0:Int) ≤ x12 ∧ x12 < ((3 : Nat) : Int) ∧ partV (x12.toNat * 2) (some 2) [vi a0.Fresh.Lo, vi a0.Fresh.Hi, vi a0.Loss.Lo, vi a0.Loss.Hi, vi a0.Back.Lo, vi a0.Back.Hi] = some (VV.ag (c_SRange a0.Fresh)) from ⟨by have := (of_decide_eq_true (decide_eq_true h876)); omega, by have := (of_decide_eq_true (decide_eq_true h876)); omega, by rw [show x12 = (0 : Int) from (of_decide_eq_true (decide_eq_true h876))]; rfl⟩)
    obtain ⟨r878, h879, h⟩ := bs h
    have e880 := (nspeculumbase_Within_ok k a0.Fresh.Lo 0 a0.Fresh.Hi _ h879)
    rcases ifs h with ⟨h881, h⟩ | ⟨h881, h⟩
    ·have e882 := (ti (ti (ti (ti (an e880 (ti (ti (an (an (not_f h881) trivial) (an (an (not_f h881) trivial) (an (an (not_f h881) trivial) (an (not_f h881) trivial)))))))))))
     rcases ifs h with ⟨h883, h⟩ | ⟨h883, h⟩
     ·injection h with h; subst h
      exact round_stop (c := ⟨[(2, none)], [], []⟩) (s1 := (nspeculumref08_CheckAging_l0_0_e0 a0 ())) pm pn (ans := [.reg (.n :: []), .br true, .reg (.v (VV.ag (c_SRange a0.Fresh)) :: .n :: .n :: []), .reg (nN 4 (.call (vb r878) :: nN 5 (.b false :: []))), .br true, .reg (.n :: [])]) (by kernel_rfl) (by intro e; cases e) (an (an (ti trivial) (an (an (decide_eq_true h875) trivial) (an (an e877 (ti (ti trivial))) (an e882 (an (decide_eq_true h883) (an (ti trivial) trivial)))))) (ti trivial))
     ·have h2 := ih _ _ h
      obtain ⟨q, hv, hq⟩ := pkR (rd := none) (P := Go.Proofs.Try.prog) (fn := Go.Proofs.Try.f6) (k := 0) (s := (nspeculumref08_CheckAging_l0_0_h a0 x12)) (ans := [.reg (.n :: []), .br true, .reg (.v (VV.ag (c_SRange a0.Fresh)) :: .n :: .n :: []), .reg (nN 4 (.call (vb r878) :: nN 5 (.b false :: []))), .br false, .reg (.n :: .n :: [])]) (c := ⟨[(1, none), (11, none), (12, none)], [none], []⟩) (e := .normal) (s1 := (nspeculumref08_CheckAging_l0_0_h a0 (w64 (x12 + 1)))) (an (an (ti trivial) (an (an (decide_eq_true h875) trivial) (an (an (an e877 (ti (ti trivial))) (an e882 (an (decide_eq_false h883) trivial))) (ti (ti trivial))))) (ti trivial)) (by kernel_rfl)
      cases r with
      | inl r => exact round_next pm pn hv hq h2
      | inr r =>
       exact round_next pm pn hv hq h2
    ·have e884 := (ti (ti (ti (ti (an e880 (ti (ti (an (not_t (bool_f h881)) (an (not_t (bool_f h881)) (an (not_t (bool_f h881)) (an (not_t (bool_f h881)) trivial)))))))))))
     injection h with h; subst h
     exact round_stop (c := ⟨[(2, none)], [], []⟩) (s1 := (nspeculumref08_CheckAging_l0_0_e0 a0 ())) pm pn (ans := [.reg (.n :: []), .br true, .reg (.v (VV.ag (c_SRange a0.Fresh)) :: .n :: .n :: []), .reg (nN 4 (.call (vb r878) :: .n :: .n :: nS 3 (.b true :: []))), .br true, .reg (.n :: [])]) (by kernel_rfl) (by intro e; cases e) (an (an (ti trivial) (an (an (decide_eq_true h875) trivial) (an (an e877 (ti (ti trivial))) (an e884 (an rt (an (ti trivial) trivial)))))) (ti trivial))
   ·rcases ifs h with ⟨h885, h⟩ | ⟨h885, h⟩
    ·have e886 := (show (0:Int) ≤ x12 ∧ x12 < ((3 : Nat) : Int) ∧ partV (x12.toNat * 2) (some 2) [vi a0.Fresh.Lo, vi a0.Fresh.Hi, vi a0.Loss.Lo, vi a0.Loss.Hi, vi a0.Back.Lo, vi a0.Back.Hi] = some (VV.ag (c_SRange a0.Loss)) from ⟨by have := (of_decide_eq_true (decide_eq_true h885)); omega, by have := (of_decide_eq_true (decide_eq_true h885)); omega, by rw [show x12 = (1 : Int) from (of_decide_eq_true (decide_eq_true h885))]; rfl⟩)
     obtain ⟨r887, h888, h⟩ := bs h
     have e889 := (nspeculumbase_Within_ok k a0.Loss.Lo 0 a0.Loss.Hi _ h888)
     rcases ifs h with ⟨h890, h⟩ | ⟨h890, h⟩
     ·have e891 := (ti (ti (ti (ti (an e889 (ti (ti (an (an (not_f h890) trivial) (an (an (not_f h890) trivial) (an (an (not_f h890) trivial) (an (not_f h890) trivial)))))))))))
      rcases ifs h with ⟨h892, h⟩ | ⟨h892, h⟩
      ·injection h with h; subst h
       exact round_stop (c := ⟨[(2, none)], [], []⟩) (s1 := (nspeculumref08_CheckAging_l0_0_e0 a0 ())) pm pn (ans := [.reg (.n :: []), .br true, .reg (.v (VV.ag (c_SRange a0.Loss)) :: .n :: .n :: []), .reg (nN 4 (.call (vb r887) :: nN 5 (.b false :: []))), .br true, .reg (.n :: [])]) (by kernel_rfl) (by intro e; cases e) (an (an (ti trivial) (an (an (decide_eq_true h875) trivial) (an (an e886 (ti (ti trivial))) (an e891 (an (decide_eq_true h892) (an (ti trivial) trivial)))))) (ti trivial))
      ·have h2 := ih _ _ h
       obtain ⟨q, hv, hq⟩ := pkR (rd := none) (P := Go.Proofs.Try.prog) (fn := Go.Proofs.Try.f6) (k := 0) (s := (nspeculumref08_CheckAging_l0_0_h a0 x12)) (ans := [.reg (.n :: []), .br true, .reg (.v (VV.ag (c_SRange a0.Loss)) :: .n :: .n :: []), .reg (nN 4 (.call (vb r887) :: nN 5 (.b false :: []))), .br false, .reg (.n :: .n :: [])]) (c := ⟨[(1, none), (11, none), (12, none)], [none], []⟩) (e := .normal) (s1 := (nspeculumref08_CheckAging_l0_0_h a0 (w64 (x12 + 1)))) (an (an (ti trivial) (an (an (decide_eq_true h875) trivial) (an (an (an e886 (ti (ti trivial))) (an e891 (an (decide_eq_false h892) trivial))) (ti (ti trivial))))) (ti trivial)) (by kernel_rfl)
       cases r with
       | inl r => exact round_next pm pn hv hq h2
       | inr r =>
        exact round_next pm pn hv hq h2
     ·have e893 := (ti (ti (ti (ti (an e889 (ti (ti (an (not_t (bool_f h890)) (an (not_t (bool_f h890)) (an (not_t (bool_f h890)) (an (not_t (bool_f h890)) trivial)))))))))))
      injection h with h; subst h
      exact round_stop (c := ⟨[(2, none)], [], []⟩) (s1 := (nspeculumref08_CheckAging_l0_0_e0 a0 ())) pm pn (ans := [.reg (.n :: []), .br true, .reg (.v (VV.ag (c_SRange a0.Loss)) :: .n :: .n :: []), .reg (nN 4 (.call (vb r887) :: .n :: .n :: nS 3 (.b true :: []))), .br true, .reg (.n :: [])]) (by kernel_rfl) (by intro e; cases e) (an (an (ti trivial) (an (an (decide_eq_true h875) trivial) (an (an e886 (ti (ti trivial))) (an e893 (an rt (an (ti trivial) trivial)))))) (ti trivial))
    ·rcases ifs h with ⟨h894, h⟩ | ⟨h894, h⟩
     ·have e895 := (show (0:Int) ≤ x12 ∧ x12 < ((3 : Nat) : Int) ∧ partV (x12.toNat * 2) (some 2) [vi a0.Fresh.Lo, vi a0.Fresh.Hi, vi a0.Loss.Lo, vi a0.Loss.Hi, vi a0.Back.Lo, vi a0.Back.Hi] = some (VV.ag (c_SRange a0.Back)) from ⟨by have := (of_decide_eq_true (decide_eq_true h894)); omega, by have := (of_decide_eq_true (decide_eq_true h894)); omega, by rw [show x12 = (2 : Int) from (of_decide_eq_true (decide_eq_true h894))]; rfl⟩)
      obtain ⟨r896, h897, h⟩ := bs h
      have e898 := (nspeculumbase_Within_ok k a0.Back.Lo 0 a0.Back.Hi _ h897)
      rcases ifs h with ⟨h899, h⟩ | ⟨h899, h⟩
      ·have e900 := (ti (ti (ti (ti (an e898 (ti (ti (an (an (not_f h899) trivial) (an (an (not_f h899) trivial) (an (an (not_f h899) trivial) (an (not_f h899) trivial)))))))))))
       rcases ifs h with ⟨h901, h⟩ | ⟨h901, h⟩
       ·injection h with h; subst h
        exact round_stop (c := ⟨[(2, none)], [], []⟩) (s1 := (nspeculumref08_CheckAging_l0_0_e0 a0 ())) pm pn (ans := [.reg (.n :: []), .br true, .reg (.v (VV.ag (c_SRange a0.Back)) :: .n :: .n :: []), .reg (nN 4 (.call (vb r896) :: nN 5 (.b false :: []))), .br true, .reg (.n :: [])]) (by kernel_rfl) (by intro e; cases e) (an (an (ti trivial) (an (an (decide_eq_true h875) trivial) (an (an e895 (ti (ti trivial))) (an e900 (an (decide_eq_true h901) (an (ti trivial) trivial)))))) (ti trivial))
       ·have h2 := ih _ _ h
        obtain ⟨q, hv, hq⟩ := pkR (rd := none) (P := Go.Proofs.Try.prog) (fn := Go.Proofs.Try.f6) (k := 0) (s := (nspeculumref08_CheckAging_l0_0_h a0 x12)) (ans := [.reg (.n :: []), .br true, .reg (.v (VV.ag (c_SRange a0.Back)) :: .n :: .n :: []), .reg (nN 4 (.call (vb r896) :: nN 5 (.b false :: []))), .br false, .reg (.n :: .n :: [])]) (c := ⟨[(1, none), (11, none), (12, none)], [none], []⟩) (e := .normal) (s1 := (nspeculumref08_CheckAging_l0_0_h a0 (w64 (x12 + 1)))) (an (an (ti trivial) (an (an (decide_eq_true h875) trivial) (an (an (an e895 (ti (ti trivial))) (an e900 (an (decide_eq_false h901) trivial))) (ti (ti trivial))))) (ti trivial)) (by kernel_rfl)
        cases r with
        | inl r => exact round_next pm pn hv hq h2
        | inr r =>
         exact round_next pm pn hv hq h2
      ·have e902 := (ti (ti (ti (ti (an e898 (ti (ti (an (not_t (bool_f h899)) (an (not_t (bool_f h899)) (an (not_t (bool_f h899)) (an (not_t (bool_f h899)) trivial)))))))))))
       injection h with h; subst h
       exact round_stop (c := ⟨[(2, none)], [], []⟩) (s1 := (nspeculumref08_CheckAging_l0_0_e0 a0 ())) pm pn (ans := [.reg (.n :: []), .br true, .reg (.v (VV.ag (c_SRange a0.Back)) :: .n :: .n :: []), .reg (nN 4 (.call (vb r896) :: .n :: .n :: nS 3 (.b true :: []))), .br true, .reg (.n :: [])]) (by kernel_rfl) (by intro e; cases e) (an (an (ti trivial) (an (an (decide_eq_true h875) trivial) (an (an e895 (ti (ti trivial))) (an e902 (an rt (an (ti trivial) trivial)))))) (ti trivial))
     ·cases h
  ·injection h with h; subst h
   exact round_stop (c := ⟨[(1, none)], [none], []⟩) (s1 := (nspeculumref08_CheckAging_l0_0_e1 a0 ())) pm pn (ans := [.reg (.n :: []), .br false]) (by kernel_rfl) (by intro e; cases e) (an (an (ti trivial) (an (decide_eq_false h875) trivial)) (ti trivial))
def nspeculumref08_CheckAging (k : Nat) (a0 : SAging) : Option Int :=
  (nspeculumref08_CheckAging_l0_0 k a0 k 0).bind fun r904 => (match r904 with | .inl r905 => (some 2) | .inr r906 => ((nspeculumbase_Within k a0.Washes 0 100).bind fun r909 => (if r909 = true then (some 0) else (some 2))))
theorem nspeculumref08_CheckAging_ok (k : Nat) (a0 : SAging) (r : Int) (h : nspeculumref08_CheckAging k a0 = some r) : VC Go.Proofs.Try.prog 6 [VV.ag (c_SAging a0)] (vi r) := by
 unfold nspeculumref08_CheckAging at h
 obtain ⟨r904, h903, h⟩ := bs h
 have hph903 := nspeculumref08_CheckAging_l0_0_ok k a0 _ _ _ h903
 cases r904 with
 | inl r905 =>
  dsimp only at h
  have e907 := (an (ti trivial) (VRun.loop hph903))
  injection h with h; subst h
  exact fun_ok pm pn Go.Proofs.Try.func6 (r0 := vi 2) (ans := [.reg (.n :: .n :: []), .reg (nN 8 []), .sub ⟨[(1, none), (11, none), (12, none)], [none], []⟩ .ret (nspeculumref08_CheckAging_l0_0_e0 a0 r905)]) (fr := true) (by kernel_rfl) (an (an (ti (ti trivial)) (an (ti (ti (ti (ti (ti (ti (ti (ti trivial)))))))) e907)) (ti trivial)) (Wv.refl _)
 | inr r906 =>
  dsimp only at h
  have e908 := (an (ti trivial) (VRun.loop hph903))
  obtain ⟨r909, h910, h⟩ := bs h
  have e911 := (nspeculumbase_Within_ok k a0.Washes 0 100 _ h910)
  rcases ifs h with ⟨h912, h⟩ | ⟨h912, h⟩
  ·injection h with h; subst h
   exact fun_ok pm pn Go.Proofs.Try.func6 (r0 := vi 0) (ans := [.reg (.n :: .n :: []), .reg (nN 8 []), .sub ⟨[(1, none), (11, none), (12, none)], [none], []⟩ (.exit 0) (nspeculumref08_CheckAging_l0_0_e1 a0 r906), .reg (.n :: .n :: .call (vb r909) :: .n :: []), .br false, .reg (.n :: [])]) (fr := true) (by kernel_rfl) (an (an (ti (ti trivial)) (an (an (ti (ti (ti (ti (ti (ti (ti (ti trivial)))))))) e908) (an (an (ti (ti (an e911 (ti trivial)))) (an (not_f h912) trivial)) (an (ti trivial) trivial)))) (ti trivial)) (Wv.refl _)
  ·injection h with h; subst h
   exact fun_ok pm pn Go.Proofs.Try.func6 (r0 := vi 2) (ans := [.reg (.n :: .n :: []), .reg (nN 8 []), .sub ⟨[(1, none), (11, none), (12, none)], [none], []⟩ (.exit 0) (nspeculumref08_CheckAging_l0_0_e1 a0 r906), .reg (.n :: .n :: .call (vb r909) :: .n :: []), .br true, .reg (.n :: [])]) (fr := true) (by kernel_rfl) (an (an (ti (ti trivial)) (an (an (ti (ti (ti (ti (ti (ti (ti (ti trivial)))))))) e908) (an (ti (ti (an e911 (ti trivial)))) (an (not_t (bool_f h912)) (an (ti trivial) trivial))))) (ti trivial)) (Wv.refl _)
def nspeculumbase_isLetter (k : Nat) (a0 : Int) : Option Bool :=
  if 97 ≤ a0 then (if a0 ≤ 122 then (some true) else (if 65 ≤ a0 then (some (decide (a0 ≤ 90))) else (some false))) else (if 65 ≤ a0 then (some (decide (a0 ≤ 90))) else (some false))
theorem nspeculumbase_isLetter_ok (k : Nat) (a0 : Int) (r : Bool) (h : nspeculumbase_isLetter k a0 = some r) : VC Go.Proofs.Try.prog 32 [VV.c (.int .u8 a0)] (vb r) := by
 unfold nspeculumbase_isLetter at h
 rcases ifs h with ⟨h933, h⟩ | ⟨h933, h⟩
 ·rcases ifs h with ⟨h934, h⟩ | ⟨h934, h⟩
  ·have e935 := (ti (ti (ti (an (an (decide_eq_true h933) trivial) (an (an (decide_eq_true h933) trivial) (an (decide_eq_true h933) (ti (an (decide_eq_true h934) (an (decide_eq_true h934) (an (decide_eq_true h934) (ti (ti (an (decide_eq_true h934) (an (decide_eq_true h934) (ti trivial)))))))))))))))
   injection h with h; subst h
   exact fun_ok pm pn Go.Proofs.Try.func32 (r0 := vb true) (ans := [.reg (.n :: []), .reg (nN 5 (.b true :: .n :: nS 6 (.b true :: .n :: [])))]) (fr := true) (by kernel_rfl) (an (an (ti trivial) (an e935 trivial)) (ti trivial)) (Wv.refl _)
  ·rcases ifs h with ⟨h936, h⟩ | ⟨h936, h⟩
   ·have e937 := (an (decide_eq_false h934) (decide_eq_true h936))
    have e938 := (ti (ti (ti (an (an (decide_eq_true h933) trivial) (an (an (decide_eq_true h933) trivial) (an (decide_eq_true h933) (ti (an (an (decide_eq_false h934) trivial) (an (an (decide_eq_false h934) trivial) (an (an (decide_eq_false h934) trivial) (an (an (decide_eq_true h936) trivial) (an (an (decide_eq_true h936) trivial) (an e937 (an (decide_eq_false h934) (ti trivial)))))))))))))))
    injection h with h; subst h
    exact fun_ok pm pn Go.Proofs.Try.func32 (r0 := vb (decide (a0 ≤ 90))) (ans := [.reg (.n :: []), .reg (nN 5 (.b true :: nN 6 (.b true :: .b false :: .n :: [])))]) (fr := true) (by kernel_rfl) (an (an (ti trivial) (an e938 trivial)) (ti trivial)) (Wv.refl _)
   ·have e939 := (an (decide_eq_false h934) (decide_eq_false h936))
    have e940 := (ti (ti (ti (an (an (decide_eq_true h933) trivial) (an (an (decide_eq_true h933) trivial) (an (decide_eq_true h933) (ti (an (an (decide_eq_false h934) trivial) (an (an (decide_eq_false h934) trivial) (an (an (decide_eq_false h934) trivial) (an (decide_eq_false h936) (an (decide_eq_false h936) (an e939 (an (decide_eq_false h934) (ti trivial)))))))))))))))
    injection h with h; subst h
    exact fun_ok pm pn Go.Proofs.Try.func32 (r0 := vb false) (ans := [.reg (.n :: []), .reg (nN 5 (.b true :: nN 4 (.skip :: .skip :: .b false :: .b false :: .n :: [])))]) (fr := true) (by kernel_rfl) (an (an (ti trivial) (an e940 trivial)) (ti trivial)) (Wv.refl _)
 ·rcases ifs h with ⟨h941, h⟩ | ⟨h941, h⟩
  ·have e942 := (ti (ti (ti (an (decide_eq_false h933) (an (decide_eq_false h933) (an (decide_eq_false h933) (ti (an (an rf trivial) (an (an rf trivial) (an (an rf trivial) (an (an (decide_eq_true h941) trivial) (an (an (decide_eq_true h941) trivial) (an (an rf (decide_eq_true h941)) (an rf (ti trivial)))))))))))))))
   injection h with h; subst h
   exact fun_ok pm pn Go.Proofs.Try.func32 (r0 := vb (decide (a0 ≤ 90))) (ans := [.reg (.n :: []), .reg (nN 3 (.skip :: .skip :: .b false :: nN 6 (.b true :: .b false :: .n :: [])))]) (fr := true) (by kernel_rfl) (an (an (ti trivial) (an e942 trivial)) (ti trivial)) (Wv.refl _)
  ·have e943 := (ti (ti (ti (an (decide_eq_false h933) (an (decide_eq_false h933) (an (decide_eq_false h933) (ti (an (an rf trivial) (an (an rf trivial) (an (an rf trivial) (an (decide_eq_false h941) (an (decide_eq_false h941) (an (an rf (decide_eq_false h941)) (an rf (ti trivial)))))))))))))))
   injection h with h; subst h
   exact fun_ok pm pn Go.Proofs.Try.func32 (r0 := vb false) (ans := [.reg (.n :: []), .reg arTC1_0]) (fr := true) (by kernel_rfl) (an (an (ti trivial) (an e943 trivial)) (ti trivial)) (Wv.refl _)
def nspeculumbase_isDigit (k : Nat) (a0 : Int) : Option Bool :=
  if 48 ≤ a0 then (some (decide (a0 ≤ 57))) else (some false)
theorem nspeculumbase_isDigit_ok (k : Nat) (a0 : Int) (r : Bool) (h : nspeculumbase_isDigit k a0 = some r) : VC Go.Proofs.Try.prog 33 [VV.c (.int .u8 a0)] (vb r) := by
 unfold nspeculumbase_isDigit at h
 rcases ifs h with ⟨h959, h⟩ | ⟨h959, h⟩
 ·have e960 := (ti (ti (ti (an (an (decide_eq_true h959) trivial) (an (an (decide_eq_true h959) trivial) (an (decide_eq_true h959) (ti trivial)))))))
  injection h with h; subst h
  exact fun_ok pm pn Go.Proofs.Try.func33 (r0 := vb (decide (a0 ≤ 57))) (ans := [.reg (.n :: []), .reg (nN 5 (.b true :: .n :: []))]) (fr := true) (by kernel_rfl) (an (an (ti trivial) (an e960 trivial)) (ti trivial)) (Wv.refl _)
 ·have e961 := (ti (ti (ti (an (decide_eq_false h959) (an (decide_eq_false h959) (an (decide_eq_false h959) (ti trivial)))))))
  injection h with h; subst h
  exact fun_ok pm pn Go.Proofs.Try.func33 (r0 := vb false) (ans := [.reg (.n :: []), .reg (nN 3 (.skip :: .skip :: .b false :: .n :: []))]) (fr := true) (by kernel_rfl) (an (an (ti trivial) (an e961 trivial)) (ti trivial)) (Wv.refl _)
def arTC1_9 (z0 : Bool) (z1 : Bool) : List Ans := (nN 3 (.call (vb z0) :: nN 5 (.call (vb z1) :: .n :: .b true :: .n :: nS 4 (.b false :: []))))
def arTC1_10 (z0 : Bool) (z1 : Bool) : List Ans := (nN 3 (.call (vb z0) :: nN 5 (.call (vb z1) :: .n :: .b true :: nN 5 (.b true :: []))))
def nspeculumbase_IsName_l0_0_h (a0 : ByteArray) (x3 : Int) : VS := ⟨mkA [(0, vs a0), (3, vi x3)], [], .nil⟩
def nspeculumbase_IsName_l0_0_e0 (a0 : ByteArray) (r : Unit) : VS := ⟨mkA [(2, vb false)], [], .nil⟩
def nspeculumbase_IsName_l0_0_e1 (a0 : ByteArray) (r : Unit) : VS := ⟨mkA [], [], .nil⟩
def nspeculumbase_IsName_l0_0 (k : Nat) (a0 : ByteArray) : Nat → Int → Option (Sum Unit Unit)
  | 0, _ => none
  | fuel + 1, x3 => if x3 < (a0.size : Int) then (if 0 ≤ x3 ∧ x3 < (a0.size : Int) then ((nspeculumbase_isLetter k (bat a0 x3)).bind fun r1043 => (if r1043 = true then (nspeculumbase_IsName_l0_0 k a0 fuel (w64 (x3 + 1))) else ((nspeculumbase_isDigit k (bat a0 x3)).bind fun r1048 => (if r1048 = true then (nspeculumbase_IsName_l0_0 k a0 fuel (w64 (x3 + 1))) else (if (bat a0 x3) = 45 then (nspeculumbase_IsName_l0_0 k a0 fuel (w64 (x3 + 1))) else (some (.inl ()))))))) else none) else (some (.inr ()))
theorem nspeculumbase_IsName_l0_0_ok (k : Nat) (a0 : ByteArray) : ∀ (fuel : Nat) (x3 : Int) (r : Sum Unit Unit), nspeculumbase_IsName_l0_0 k a0 fuel x3 = some r → (match r with | .inl r => VLoop none Go.Proofs.Try.prog (szF Go.Proofs.Try.f24) (bodyOf Go.Proofs.Try.f24 0) (nspeculumbase_IsName_l0_0_h a0 x3) .ret (nspeculumbase_IsName_l0_0_e0 a0 r) | .inr r => VLoop none Go.Proofs.Try.prog (szF Go.Proofs.Try.f24) (bodyOf Go.Proofs.Try.f24 0) (nspeculumbase_IsName_l0_0_h a0 x3) (.exit 0) (nspeculumbase_IsName_l0_0_e1 a0 r)) := by
 intro fuel
 induction fuel with
 | zero => intro x3 r h; rw [nspeculumbase_IsName_l0_0.eq_1] at h; cases h
 | succ fuel ih =>
  intro x3 r h
  rw [nspeculumbase_IsName_l0_0.eq_2] at h
  rcases ifs h with ⟨h1041, h⟩ | ⟨h1041, h⟩
  ·obtain ⟨h1042, h⟩ := ifn h
   obtain ⟨r1043, h1044, h⟩ := bs h
   have e1045 := (nspeculumbase_isLetter_ok k (bat a0 x3) _ h1044)
   rcases ifs h with ⟨h1046, h⟩ | ⟨h1046, h⟩
   ·have e1047 := (ti (ti (an h1042 (an e1045 (ti (ti (an (not_f h1046) (an (not_f h1046) (an (not_f h1046) (an (not_f h1046) (an (not_f h1046) (an (not_f h1046) (ti (an rf (an rf (an rf (an rf (an rf trivial))))))))))))))))))
    have h2 := ih _ _ h
    obtain ⟨q, hv, hq⟩ := pkR (rd := none) (P := Go.Proofs.Try.prog) (fn := Go.Proofs.Try.f24) (k := 0) (s := (nspeculumbase_IsName_l0_0_h a0 x3)) (ans := [.reg (nN 4 []), .br true, .reg (nN 3 (.call (vb r1043) :: .n :: .n :: nS 5 (.b false :: .n :: nS 4 (.b false :: [])))), .br false, .reg (nN 3 [])]) (c := ⟨[(0, none), (3, none)], [], []⟩) (e := .normal) (s1 := (nspeculumbase_IsName_l0_0_h a0 (w64 (x3 + 1)))) (an (an (an (ti (ti (ti (ti trivial)))) (an (decide_eq_true h1041) trivial)) (an (an e1047 (an rf trivial)) (ti (ti (ti trivial))))) (ti trivial)) (by kernel_rfl)
    cases r with
    | inl r => exact round_next pm pn hv hq h2
    | inr r =>
     exact round_next pm pn hv hq h2
   ·obtain ⟨r1048, h1049, h⟩ := bs h
    have e1050 := (an (not_t (bool_f h1046)) (nspeculumbase_isDigit_ok k (bat a0 x3) _ h1049))
    rcases ifs h with ⟨h1051, h⟩ | ⟨h1051, h⟩
    ·have e1052 := (ti (ti (an h1042 (an e1045 (ti (ti (an (an (not_t (bool_f h1046)) trivial) (an (an (not_t (bool_f h1046)) trivial) (an (an (not_t (bool_f h1046)) h1042) (an e1050 (an (an (not_t (bool_f h1046)) trivial) (an (not_t (bool_f h1046)) (ti (an (not_f h1051) (an (not_f h1051) (an (not_f h1051) (an (not_f h1051) (an (not_f h1051) trivial))))))))))))))))))
     have h2 := ih _ _ h
     obtain ⟨q, hv, hq⟩ := pkR (rd := none) (P := Go.Proofs.Try.prog) (fn := Go.Proofs.Try.f24) (k := 0) (s := (nspeculumbase_IsName_l0_0_h a0 x3)) (ans := [.reg (nN 4 []), .br true, .reg (arTC1_9 r1043 r1048), .br false, .reg (nN 3 [])]) (c := ⟨[(0, none), (3, none)], [], []⟩) (e := .normal) (s1 := (nspeculumbase_IsName_l0_0_h a0 (w64 (x3 + 1)))) (an (an (an (ti (ti (ti (ti trivial)))) (an (decide_eq_true h1041) trivial)) (an (an e1052 (an rf trivial)) (ti (ti (ti trivial))))) (ti trivial)) (by kernel_rfl)
     cases r with
     | inl r => exact round_next pm pn hv hq h2
     | inr r =>
      exact round_next pm pn hv hq h2
    ·have e1053 := (ti (ti (an h1042 (an e1045 (ti (ti (an (an (not_t (bool_f h1046)) trivial) (an (an (not_t (bool_f h1046)) trivial) (an (an (not_t (bool_f h1046)) h1042) (an e1050 (an (an (not_t (bool_f h1046)) trivial) (an (not_t (bool_f h1046)) (ti (an (an (not_t (bool_f h1051)) trivial) (an (an (not_t (bool_f h1051)) trivial) (an (an (not_t (bool_f h1051)) h1042) (an (an (not_t (bool_f h1051)) trivial) (an (not_t (bool_f h1051)) trivial))))))))))))))))))
     rcases ifs h with ⟨h1054, h⟩ | ⟨h1054, h⟩
     ·have h2 := ih _ _ h
      obtain ⟨q, hv, hq⟩ := pkR (rd := none) (P := Go.Proofs.Try.prog) (fn := Go.Proofs.Try.f24) (k := 0) (s := (nspeculumbase_IsName_l0_0_h a0 x3)) (ans := [.reg (nN 4 []), .br true, .reg (arTC1_10 r1043 r1048), .br false, .reg (nN 3 [])]) (c := ⟨[(0, none), (3, none)], [], []⟩) (e := .normal) (s1 := (nspeculumbase_IsName_l0_0_h a0 (w64 (x3 + 1)))) (an (an (an (ti (ti (ti (ti trivial)))) (an (decide_eq_true h1041) trivial)) (an (an e1053 (an (not_f (decide_eq_true h1054)) trivial)) (ti (ti (ti trivial))))) (ti trivial)) (by kernel_rfl)
      cases r with
      | inl r => exact round_next pm pn hv hq h2
      | inr r =>
       exact round_next pm pn hv hq h2
     ·injection h with h; subst h
      exact round_stop (c := ⟨[(2, none)], [], []⟩) (s1 := (nspeculumbase_IsName_l0_0_e0 a0 ())) pm pn (ans := [.reg (nN 4 []), .br true, .reg (arTC1_10 r1043 r1048), .br true, .reg (.n :: [])]) (by kernel_rfl) (by intro e; cases e) (an (an (an (ti (ti (ti (ti trivial)))) (an (decide_eq_true h1041) trivial)) (an e1053 (an (not_t (decide_eq_false h1054)) (an (ti trivial) trivial)))) (ti trivial))
  ·injection h with h; subst h
   exact round_stop (c := ⟨[], [], []⟩) (s1 := (nspeculumbase_IsName_l0_0_e1 a0 ())) pm pn (ans := [.reg (nN 4 []), .br false]) (by kernel_rfl) (by intro e; cases e) (an (an (ti (ti (ti (ti trivial)))) (an (decide_eq_false h1041) trivial)) (ti trivial))
def nspeculumbase_IsName (k : Nat) (a0 : ByteArray) : Option Bool :=
  if (a0.size : Int) = 0 then (some false) else (if 12 < (a0.size : Int) then (some false) else (if (0 : Int) ≤ 0 ∧ 0 < (a0.size : Int) then ((nspeculumbase_isLetter k (bat a0 0)).bind fun r1008 => (if r1008 = true then ((nspeculumbase_IsName_l0_0 k a0 k 0).bind fun r1056 => (match r1056 with | .inl r1057 => (some false) | .inr r1058 => (some true))) else (some false))) else none))
theorem nspeculumbase_IsName_ok (k : Nat) (a0 : ByteArray) (r : Bool) (h : nspeculumbase_IsName k a0 = some r) : VC Go.Proofs.Try.prog 24 [vs a0] (vb r) := by
 unfold nspeculumbase_IsName at h
 rcases ifs h with ⟨h1003, h⟩ | ⟨h1003, h⟩
 ·have e1004 := (ti (ti (ti (ti (an (decide_eq_true h1003) (an (decide_eq_true h1003) (an (decide_eq_true h1003) (an (decide_eq_true h1003) (ti (an rt (an rt (an rt (an rt (an rt trivial))))))))))))))
  injection h with h; subst h
  exact fun_ok pm pn Go.Proofs.Try.func24 (r0 := vb false) (ans := [.reg (.n :: []), .reg (nN 4 (nS 3 (.b true :: .n :: nS 4 (.b true :: [])))), .br true, .reg (.n :: [])]) (fr := true) (by kernel_rfl) (an (an (ti trivial) (an e1004 (an rt (an (ti trivial) trivial)))) (ti trivial)) (Wv.refl _)
 ·rcases ifs h with ⟨h1005, h⟩ | ⟨h1005, h⟩
  ·have e1006 := (ti (ti (ti (ti (an (an (decide_eq_false h1003) trivial) (an (an (decide_eq_false h1003) trivial) (an (an (decide_eq_false h1003) trivial) (an (decide_eq_false h1003) (ti (an (decide_eq_true h1005) (an (decide_eq_true h1005) (an (decide_eq_true h1005) (an (decide_eq_true h1005) (an (decide_eq_true h1005) trivial))))))))))))))
   injection h with h; subst h
   exact fun_ok pm pn Go.Proofs.Try.func24 (r0 := vb false) (ans := [.reg (.n :: []), .reg (nN 7 (.b false :: .n :: nS 4 (.b true :: []))), .br true, .reg (.n :: [])]) (fr := true) (by kernel_rfl) (an (an (ti trivial) (an e1006 (an rt (an (ti trivial) trivial)))) (ti trivial)) (Wv.refl _)
  ·obtain ⟨h1007, h⟩ := ifn h
   obtain ⟨r1008, h1009, h⟩ := bs h
   have e1010 := (an (decide_eq_false h1005) (nspeculumbase_isLetter_ok k (bat a0 0) _ h1009))
   have e1011 := (ti (ti (ti (ti (an (an (decide_eq_false h1003) trivial) (an (an (decide_eq_false h1003) trivial) (an (an (decide_eq_false h1003) trivial) (an (decide_eq_false h1003) (ti (an (an (decide_eq_false h1005) trivial) (an (an (decide_eq_false h1005) h1007) (an e1010 (an (an (decide_eq_false h1005) trivial) (an (decide_eq_false h1005) trivial))))))))))))))
   rcases ifs h with ⟨h1012, h⟩ | ⟨h1012, h⟩
   ·obtain ⟨r1056, h1055, h⟩ := bs h
    have hph1055 := nspeculumbase_IsName_l0_0_ok k a0 _ _ _ h1055
    cases r1056 with
    | inl r1057 =>
     dsimp only at h
     have e1059 := (an (ti trivial) (VRun.loop hph1055))
     injection h with h; subst h
     exact fun_ok pm pn Go.Proofs.Try.func24 (r0 := vb false) (ans := [.reg (.n :: []), .reg (nN 7 (.b false :: nN 3 (.call (vb r1008) :: .n :: .b false :: []))), .br false, .reg (.n :: []), .sub ⟨[(0, none), (3, none)], [], []⟩ .ret (nspeculumbase_IsName_l0_0_e0 a0 r1057)]) (fr := true) (by kernel_rfl) (an (an (ti trivial) (an (an e1011 (an (not_f h1012) trivial)) (an (ti trivial) e1059))) (ti trivial)) (Wv.refl _)
    | inr r1058 =>
     dsimp only at h
     have e1060 := (an (ti trivial) (VRun.loop hph1055))
     injection h with h; subst h
     exact fun_ok pm pn Go.Proofs.Try.func24 (r0 := vb true) (ans := [.reg (.n :: []), .reg (nN 7 (.b false :: nN 3 (.call (vb r1008) :: .n :: .b false :: []))), .br false, .reg (.n :: []), .sub ⟨[(0, none), (3, none)], [], []⟩ (.exit 0) (nspeculumbase_IsName_l0_0_e1 a0 r1058), .reg (.n :: [])]) (fr := true) (by kernel_rfl) (an (an (ti trivial) (an (an e1011 (an (not_f h1012) trivial)) (an (an (ti trivial) e1060) (an (ti trivial) trivial)))) (ti trivial)) (Wv.refl _)
   ·injection h with h; subst h
    exact fun_ok pm pn Go.Proofs.Try.func24 (r0 := vb false) (ans := [.reg (.n :: []), .reg (nN 7 (.b false :: nN 3 (.call (vb r1008) :: .n :: .b false :: []))), .br true, .reg (.n :: [])]) (fr := true) (by kernel_rfl) (an (an (ti trivial) (an e1011 (an (not_t (bool_f h1012)) (an (ti trivial) trivial)))) (ti trivial)) (Wv.refl _)
def nspeculumref08_CheckEvent (k : Nat) (a0 : SCoatEvent) : Option Int :=
  (nspeculumbase_IsName k a0.Mirror).bind fun r1073 => (if r1073 = true then ((nspeculumbase_Within k a0.Day 0 100000).bind fun r1077 => (if r1077 = true then ((nspeculumbase_Within k a0.Kind 0 2).bind fun r1081 => (if r1081 = true then (some 0) else (some 15))) else (some 2))) else (some 4))
theorem nspeculumref08_CheckEvent_ok (k : Nat) (a0 : SCoatEvent) (r : Int) (h : nspeculumref08_CheckEvent k a0 = some r) : VC Go.Proofs.Try.prog 14 [VV.ag (c_SCoatEvent a0)] (vi r) := by
 unfold nspeculumref08_CheckEvent at h
 obtain ⟨r1073, h1074, h⟩ := bs h
 have e1075 := (nspeculumbase_IsName_ok k a0.Mirror _ h1074)
 rcases ifs h with ⟨h1076, h⟩ | ⟨h1076, h⟩
 ·obtain ⟨r1077, h1078, h⟩ := bs h
  have e1079 := (nspeculumbase_Within_ok k a0.Day 0 100000 _ h1078)
  rcases ifs h with ⟨h1080, h⟩ | ⟨h1080, h⟩
  ·obtain ⟨r1081, h1082, h⟩ := bs h
   have e1083 := (nspeculumbase_Within_ok k a0.Kind 0 2 _ h1082)
   rcases ifs h with ⟨h1084, h⟩ | ⟨h1084, h⟩
   ·injection h with h; subst h
    exact fun_ok pm pn Go.Proofs.Try.func14 (r0 := vi 0) (ans := [.reg (.n :: .n :: []), .reg (.n :: .n :: .call (vb r1073) :: .n :: []), .br false, .reg (.n :: .n :: .call (vb r1077) :: .n :: []), .br false, .reg (.n :: .n :: .call (vb r1081) :: .n :: []), .br false, .reg (.n :: [])]) (fr := true) (by kernel_rfl) (an (an (ti (ti trivial)) (an (an (ti (ti (an e1075 (ti trivial)))) (an (not_f h1076) trivial)) (an (an (ti (ti (an e1079 (ti trivial)))) (an (not_f h1080) trivial)) (an (an (ti (ti (an e1083 (ti trivial)))) (an (not_f h1084) trivial)) (an (ti trivial) trivial))))) (ti trivial)) (Wv.refl _)
   ·injection h with h; subst h
    exact fun_ok pm pn Go.Proofs.Try.func14 (r0 := vi 15) (ans := [.reg (.n :: .n :: []), .reg (.n :: .n :: .call (vb r1073) :: .n :: []), .br false, .reg (.n :: .n :: .call (vb r1077) :: .n :: []), .br false, .reg (.n :: .n :: .call (vb r1081) :: .n :: []), .br true, .reg (.n :: [])]) (fr := true) (by kernel_rfl) (an (an (ti (ti trivial)) (an (an (ti (ti (an e1075 (ti trivial)))) (an (not_f h1076) trivial)) (an (an (ti (ti (an e1079 (ti trivial)))) (an (not_f h1080) trivial)) (an (ti (ti (an e1083 (ti trivial)))) (an (not_t (bool_f h1084)) (an (ti trivial) trivial)))))) (ti trivial)) (Wv.refl _)
  ·injection h with h; subst h
   exact fun_ok pm pn Go.Proofs.Try.func14 (r0 := vi 2) (ans := [.reg (.n :: .n :: []), .reg (.n :: .n :: .call (vb r1073) :: .n :: []), .br false, .reg (.n :: .n :: .call (vb r1077) :: .n :: []), .br true, .reg (.n :: [])]) (fr := true) (by kernel_rfl) (an (an (ti (ti trivial)) (an (an (ti (ti (an e1075 (ti trivial)))) (an (not_f h1076) trivial)) (an (ti (ti (an e1079 (ti trivial)))) (an (not_t (bool_f h1080)) (an (ti trivial) trivial))))) (ti trivial)) (Wv.refl _)
 ·injection h with h; subst h
  exact fun_ok pm pn Go.Proofs.Try.func14 (r0 := vi 4) (ans := [.reg (.n :: .n :: []), .reg (.n :: .n :: .call (vb r1073) :: .n :: []), .br true, .reg (.n :: [])]) (fr := true) (by kernel_rfl) (an (an (ti (ti trivial)) (an (ti (ti (an e1075 (ti trivial)))) (an (not_t (bool_f h1076)) (an (ti trivial) trivial)))) (ti trivial)) (Wv.refl _)
def nspeculumref08_state_l0_0_h (a0 : SAging) (a1 : (List SCoatEvent)) (x5 : Int) (x6 : Int) : VS := ⟨mkA [(1, VV.tr (List.flatMap c_SCoatEvent a1) a1.length), (2, VV.pt 0 0), (5, vi x5), (6, vi x6)], [some ⟨true, 1, c_SAging a0⟩], .nil⟩
def nspeculumref08_state_l0_0_e0 (a0 : SAging) (a1 : (List SCoatEvent)) (r : Int) : VS := ⟨mkA [(5, vi r)], [], .nil⟩
def nspeculumref08_state_l0_0 (k : Nat) (a0 : SAging) (a1 : (List SCoatEvent)) : Nat → Int → Int → Option (Int)
  | 0, _, _ => none
  | fuel + 1, x5, x6 => if x6 < (a1.length : Int) then (if 0 ≤ x6 ∧ x6 < (a1.length : Int) then (if ((a1.getD x6.toNat default).Kind) = 0 then (if ((a1.getD x6.toNat default).Kind) = 1 then (if ((a1.getD x6.toNat default).Kind) = 2 then (nspeculumref08_state_l0_0 k a0 a1 fuel (-1) (w64 (x6 + 1))) else (nspeculumref08_state_l0_0 k a0 a1 fuel (w64 (a0.Washes - 1)) (w64 (x6 + 1)))) else (if ((a1.getD x6.toNat default).Kind) = 2 then (nspeculumref08_state_l0_0 k a0 a1 fuel (-1) (w64 (x6 + 1))) else (nspeculumref08_state_l0_0 k a0 a1 fuel a0.Washes (w64 (x6 + 1))))) else (if ((a1.getD x6.toNat default).Kind) = 1 then (if ((a1.getD x6.toNat default).Kind) = 2 then (nspeculumref08_state_l0_0 k a0 a1 fuel (-1) (w64 (x6 + 1))) else (nspeculumref08_state_l0_0 k a0 a1 fuel (w64 (x5 - 1)) (w64 (x6 + 1)))) else (if ((a1.getD x6.toNat default).Kind) = 2 then (nspeculumref08_state_l0_0 k a0 a1 fuel (-1) (w64 (x6 + 1))) else (nspeculumref08_state_l0_0 k a0 a1 fuel x5 (w64 (x6 + 1)))))) else none) else (some x5)
theorem nspeculumref08_state_l0_0_ok (k : Nat) (a0 : SAging) (a1 : (List SCoatEvent)) : ∀ (fuel : Nat) (x5 : Int) (x6 : Int) (r : Int), nspeculumref08_state_l0_0 k a0 a1 fuel x5 x6 = some r → (VLoop none Go.Proofs.Try.prog (szF Go.Proofs.Try.f15) (bodyOf Go.Proofs.Try.f15 0) (nspeculumref08_state_l0_0_h a0 a1 x5 x6) (.exit 0) (nspeculumref08_state_l0_0_e0 a0 a1 r)) := by
 intro fuel
 induction fuel with
 | zero => intro x5 x6 r h; rw [nspeculumref08_state_l0_0.eq_1] at h; cases h
 | succ fuel ih =>
  intro x5 x6 r h
  rw [nspeculumref08_state_l0_0.eq_2] at h
  rcases ifs h with ⟨h1181, h⟩ | ⟨h1181, h⟩
  ·obtain ⟨h1182, h⟩ := ifn h
   have e1183 := (show loadL Go.Proofs.Try.prog 3 (x6.toNat * 3 + 2) (List.flatMap c_SCoatEvent a1) = some (vi ((a1.getD x6.toNat default).Kind)) from (ld_flat ag3 c_SCoatEvent 3 2 len_c_SCoatEvent (by omega) a1 default h1182 (by omega)).trans rfl)
   rcases ifs h with ⟨h1184, h⟩ | ⟨h1184, h⟩
   ·have e1185 := (show loadL Go.Proofs.Try.prog 3 (x6.toNat * 3 + 2) (List.flatMap c_SCoatEvent a1) = some (vi ((a1.getD x6.toNat default).Kind)) from (ld_flat ag3 c_SCoatEvent 3 2 len_c_SCoatEvent (by omega) a1 default h1182 (by omega)).trans rfl)
    rcases ifs h with ⟨h1186, h⟩ | ⟨h1186, h⟩
    ·have e1187 := (show loadL Go.Proofs.Try.prog 3 (x6.toNat * 3 + 2) (List.flatMap c_SCoatEvent a1) = some (vi ((a1.getD x6.toNat default).Kind)) from (ld_flat ag3 c_SCoatEvent 3 2 len_c_SCoatEvent (by omega) a1 default h1182 (by omega)).trans rfl)
     rcases ifs h with ⟨h1188, h⟩ | ⟨h1188, h⟩
     ·have h2 := ih _ _ _ h
      obtain ⟨q, hv, hq⟩ := pkR (rd := none) (P := Go.Proofs.Try.prog) (fn := Go.Proofs.Try.f15) (k := 0) (s := (nspeculumref08_state_l0_0_h a0 a1 x5 x6)) (ans := [.reg (nN 4 []), .br true, .reg (nN 4 (.v (vi ((a1.getD x6.toNat default).Kind)) :: .n :: [])), .br true, .reg (nN 3 []), .reg (nN 4 (.v (vi ((a1.getD x6.toNat default).Kind)) :: .n :: [])), .br true, .reg (nN 3 []), .reg (nN 4 (.v (vi ((a1.getD x6.toNat default).Kind)) :: .n :: [])), .br true, .reg (.n :: []), .reg (nN 3 [])]) (c := ⟨[(1, none), (2, none), (5, none), (6, none)], [none], []⟩) (e := .normal) (s1 := (nspeculumref08_state_l0_0_h a0 a1 (-1) (w64 (x6 + 1)))) (an (an (an (ti (ti (ti (ti trivial)))) (an (decide_eq_true h1181) trivial)) (an (an (an (ti (ti (an h1182 (ti (an e1183 (ti trivial)))))) (an (decide_eq_true h1184) (ti (ti (ti trivial))))) (an (an (ti (ti (an h1182 (ti (an e1185 (ti trivial)))))) (an (decide_eq_true h1186) (ti (ti (ti trivial))))) (an (ti (ti (an h1182 (ti (an e1187 (ti trivial)))))) (an (decide_eq_true h1188) (ti trivial))))) (ti (ti (ti trivial))))) (ti trivial)) (by kernel_rfl)
      exact round_next pm pn hv hq h2
     ·have h2 := ih _ _ _ h
      obtain ⟨q, hv, hq⟩ := pkR (rd := none) (P := Go.Proofs.Try.prog) (fn := Go.Proofs.Try.f15) (k := 0) (s := (nspeculumref08_state_l0_0_h a0 a1 x5 x6)) (ans := [.reg (nN 4 []), .br true, .reg (nN 4 (.v (vi ((a1.getD x6.toNat default).Kind)) :: .n :: [])), .br true, .reg (nN 3 []), .reg (nN 4 (.v (vi ((a1.getD x6.toNat default).Kind)) :: .n :: [])), .br true, .reg (nN 3 []), .reg (nN 4 (.v (vi ((a1.getD x6.toNat default).Kind)) :: .n :: [])), .br false, .reg (nN 3 [])]) (c := ⟨[(1, none), (2, none), (5, none), (6, none)], [none], []⟩) (e := .normal) (s1 := (nspeculumref08_state_l0_0_h a0 a1 (w64 (a0.Washes - 1)) (w64 (x6 + 1)))) (an (an (an (ti (ti (ti (ti trivial)))) (an (decide_eq_true h1181) trivial)) (an (an (an (ti (ti (an h1182 (ti (an e1183 (ti trivial)))))) (an (decide_eq_true h1184) (ti (ti (ti trivial))))) (an (an (ti (ti (an h1182 (ti (an e1185 (ti trivial)))))) (an (decide_eq_true h1186) (ti (ti (ti trivial))))) (an (ti (ti (an h1182 (ti (an e1187 (ti trivial)))))) (an (decide_eq_false h1188) trivial)))) (ti (ti (ti trivial))))) (ti trivial)) (by kernel_rfl)
      exact round_next pm pn hv hq h2
    ·have e1189 := (show loadL Go.Proofs.Try.prog 3 (x6.toNat * 3 + 2) (List.flatMap c_SCoatEvent a1) = some (vi ((a1.getD x6.toNat default).Kind)) from (ld_flat ag3 c_SCoatEvent 3 2 len_c_SCoatEvent (by omega) a1 default h1182 (by omega)).trans rfl)
     rcases ifs h with ⟨h1190, h⟩ | ⟨h1190, h⟩
     ·have h2 := ih _ _ _ h
      obtain ⟨q, hv, hq⟩ := pkR (rd := none) (P := Go.Proofs.Try.prog) (fn := Go.Proofs.Try.f15) (k := 0) (s := (nspeculumref08_state_l0_0_h a0 a1 x5 x6)) (ans := [.reg (nN 4 []), .br true, .reg (nN 4 (.v (vi ((a1.getD x6.toNat default).Kind)) :: .n :: [])), .br true, .reg (nN 3 []), .reg (nN 4 (.v (vi ((a1.getD x6.toNat default).Kind)) :: .n :: [])), .br false, .reg (nN 4 (.v (vi ((a1.getD x6.toNat default).Kind)) :: .n :: [])), .br true, .reg (.n :: []), .reg (nN 3 [])]) (c := ⟨[(1, none), (2, none), (5, none), (6, none)], [none], []⟩) (e := .normal) (s1 := (nspeculumref08_state_l0_0_h a0 a1 (-1) (w64 (x6 + 1)))) (an (an (an (ti (ti (ti (ti trivial)))) (an (decide_eq_true h1181) trivial)) (an (an (an (ti (ti (an h1182 (ti (an e1183 (ti trivial)))))) (an (decide_eq_true h1184) (ti (ti (ti trivial))))) (an (an (ti (ti (an h1182 (ti (an e1185 (ti trivial)))))) (an (decide_eq_false h1186) trivial)) (an (ti (ti (an h1182 (ti (an e1189 (ti trivial)))))) (an (decide_eq_true h1190) (ti trivial))))) (ti (ti (ti trivial))))) (ti trivial)) (by kernel_rfl)
      exact round_next pm pn hv hq h2
     ·have h2 := ih _ _ _ h
      obtain ⟨q, hv, hq⟩ := pkR (rd := none) (P := Go.Proofs.Try.prog) (fn := Go.Proofs.Try.f15) (k := 0) (s := (nspeculumref08_state_l0_0_h a0 a1 x5 x6)) (ans := [.reg (nN 4 []), .br true, .reg (nN 4 (.v (vi ((a1.getD x6.toNat default).Kind)) :: .n :: [])), .br true, .reg (nN 3 []), .reg (nN 4 (.v (vi ((a1.getD x6.toNat default).Kind)) :: .n :: [])), .br false, .reg (nN 4 (.v (vi ((a1.getD x6.toNat default).Kind)) :: .n :: [])), .br false, .reg (nN 3 [])]) (c := ⟨[(1, none), (2, none), (5, none), (6, none)], [none], []⟩) (e := .normal) (s1 := (nspeculumref08_state_l0_0_h a0 a1 a0.Washes (w64 (x6 + 1)))) (an (an (an (ti (ti (ti (ti trivial)))) (an (decide_eq_true h1181) trivial)) (an (an (an (ti (ti (an h1182 (ti (an e1183 (ti trivial)))))) (an (decide_eq_true h1184) (ti (ti (ti trivial))))) (an (an (ti (ti (an h1182 (ti (an e1185 (ti trivial)))))) (an (decide_eq_false h1186) trivial)) (an (ti (ti (an h1182 (ti (an e1189 (ti trivial)))))) (an (decide_eq_false h1190) trivial)))) (ti (ti (ti trivial))))) (ti trivial)) (by kernel_rfl)
      exact round_next pm pn hv hq h2
   ·have e1191 := (show loadL Go.Proofs.Try.prog 3 (x6.toNat * 3 + 2) (List.flatMap c_SCoatEvent a1) = some (vi ((a1.getD x6.toNat default).Kind)) from (ld_flat ag3 c_SCoatEvent 3 2 len_c_SCoatEvent (by omega) a1 default h1182 (by omega)).trans rfl)
    rcases ifs h with ⟨h1192, h⟩ | ⟨h1192, h⟩
    ·have e1193 := (show loadL Go.Proofs.Try.prog 3 (x6.toNat * 3 + 2) (List.flatMap c_SCoatEvent a1) = some (vi ((a1.getD x6.toNat default).Kind)) from (ld_flat ag3 c_SCoatEvent 3 2 len_c_SCoatEvent (by omega) a1 default h1182 (by omega)).trans rfl)
     rcases ifs h with ⟨h1194, h⟩ | ⟨h1194, h⟩
     ·have h2 := ih _ _ _ h
      obtain ⟨q, hv, hq⟩ := pkR (rd := none) (P := Go.Proofs.Try.prog) (fn := Go.Proofs.Try.f15) (k := 0) (s := (nspeculumref08_state_l0_0_h a0 a1 x5 x6)) (ans := [.reg (nN 4 []), .br true, .reg (nN 4 (.v (vi ((a1.getD x6.toNat default).Kind)) :: .n :: [])), .br false, .reg (nN 4 (.v (vi ((a1.getD x6.toNat default).Kind)) :: .n :: [])), .br true, .reg (nN 3 []), .reg (nN 4 (.v (vi ((a1.getD x6.toNat default).Kind)) :: .n :: [])), .br true, .reg (.n :: []), .reg (nN 3 [])]) (c := ⟨[(1, none), (2, none), (5, none), (6, none)], [none], []⟩) (e := .normal) (s1 := (nspeculumref08_state_l0_0_h a0 a1 (-1) (w64 (x6 + 1)))) (an (an (an (ti (ti (ti (ti trivial)))) (an (decide_eq_true h1181) trivial)) (an (an (an (ti (ti (an h1182 (ti (an e1183 (ti trivial)))))) (an (decide_eq_false h1184) trivial)) (an (an (ti (ti (an h1182 (ti (an e1191 (ti trivial)))))) (an (decide_eq_true h1192) (ti (ti (ti trivial))))) (an (ti (ti (an h1182 (ti (an e1193 (ti trivial)))))) (an (decide_eq_true h1194) (ti trivial))))) (ti (ti (ti trivial))))) (ti trivial)) (by kernel_rfl)
      exact round_next pm pn hv hq h2
     ·have h2 := ih _ _ _ h
      obtain ⟨q, hv, hq⟩ := pkR (rd := none) (P := Go.Proofs.Try.prog) (fn := Go.Proofs.Try.f15) (k := 0) (s := (nspeculumref08_state_l0_0_h a0 a1 x5 x6)) (ans := [.reg (nN 4 []), .br true, .reg (nN 4 (.v (vi ((a1.getD x6.toNat default).Kind)) :: .n :: [])), .br false, .reg (nN 4 (.v (vi ((a1.getD x6.toNat default).Kind)) :: .n :: [])), .br true, .reg (nN 3 []), .reg (nN 4 (.v (vi ((a1.getD x6.toNat default).Kind)) :: .n :: [])), .br false, .reg (nN 3 [])]) (c := ⟨[(1, none), (2, none), (5, none), (6, none)], [none], []⟩) (e := .normal) (s1 := (nspeculumref08_state_l0_0_h a0 a1 (w64 (x5 - 1)) (w64 (x6 + 1)))) (an (an (an (ti (ti (ti (ti trivial)))) (an (decide_eq_true h1181) trivial)) (an (an (an (ti (ti (an h1182 (ti (an e1183 (ti trivial)))))) (an (decide_eq_false h1184) trivial)) (an (an (ti (ti (an h1182 (ti (an e1191 (ti trivial)))))) (an (decide_eq_true h1192) (ti (ti (ti trivial))))) (an (ti (ti (an h1182 (ti (an e1193 (ti trivial)))))) (an (decide_eq_false h1194) trivial)))) (ti (ti (ti trivial))))) (ti trivial)) (by kernel_rfl)
      exact round_next pm pn hv hq h2
    ·have e1195 := (show loadL Go.Proofs.Try.prog 3 (x6.toNat * 3 + 2) (List.flatMap c_SCoatEvent a1) = some (vi ((a1.getD x6.toNat default).Kind)) from (ld_flat ag3 c_SCoatEvent 3 2 len_c_SCoatEvent (by omega) a1 default h1182 (by omega)).trans rfl)
     rcases ifs h with ⟨h1196, h⟩ | ⟨h1196, h⟩
     ·have h2 := ih _ _ _ h
      obtain ⟨q, hv, hq⟩ := pkR (rd := none) (P := Go.Proofs.Try.prog) (fn := Go.Proofs.Try.f15) (k := 0) (s := (nspeculumref08_state_l0_0_h a0 a1 x5 x6)) (ans := [.reg (nN 4 []), .br true, .reg (nN 4 (.v (vi ((a1.getD x6.toNat default).Kind)) :: .n :: [])), .br false, .reg (nN 4 (.v (vi ((a1.getD x6.toNat default).Kind)) :: .n :: [])), .br false, .reg (nN 4 (.v (vi ((a1.getD x6.toNat default).Kind)) :: .n :: [])), .br true, .reg (.n :: []), .reg (nN 3 [])]) (c := ⟨[(1, none), (2, none), (5, none), (6, none)], [none], []⟩) (e := .normal) (s1 := (nspeculumref08_state_l0_0_h a0 a1 (-1) (w64 (x6 + 1)))) (an (an (an (ti (ti (ti (ti trivial)))) (an (decide_eq_true h1181) trivial)) (an (an (an (ti (ti (an h1182 (ti (an e1183 (ti trivial)))))) (an (decide_eq_false h1184) trivial)) (an (an (ti (ti (an h1182 (ti (an e1191 (ti trivial)))))) (an (decide_eq_false h1192) trivial)) (an (ti (ti (an h1182 (ti (an e1195 (ti trivial)))))) (an (decide_eq_true h1196) (ti trivial))))) (ti (ti (ti trivial))))) (ti trivial)) (by kernel_rfl)
      exact round_next pm pn hv hq h2
     ·have h2 := ih _ _ _ h
      obtain ⟨q, hv, hq⟩ := pkR (rd := none) (P := Go.Proofs.Try.prog) (fn := Go.Proofs.Try.f15) (k := 0) (s := (nspeculumref08_state_l0_0_h a0 a1 x5 x6)) (ans := [.reg (nN 4 []), .br true, .reg (nN 4 (.v (vi ((a1.getD x6.toNat default).Kind)) :: .n :: [])), .br false, .reg (nN 4 (.v (vi ((a1.getD x6.toNat default).Kind)) :: .n :: [])), .br false, .reg (nN 4 (.v (vi ((a1.getD x6.toNat default).Kind)) :: .n :: [])), .br false, .reg (nN 3 [])]) (c := ⟨[(1, none), (2, none), (5, none), (6, none)], [none], []⟩) (e := .normal) (s1 := (nspeculumref08_state_l0_0_h a0 a1 x5 (w64 (x6 + 1)))) (an (an (an (ti (ti (ti (ti trivial)))) (an (decide_eq_true h1181) trivial)) (an (an (an (ti (ti (an h1182 (ti (an e1183 (ti trivial)))))) (an (decide_eq_false h1184) trivial)) (an (an (ti (ti (an h1182 (ti (an e1191 (ti trivial)))))) (an (decide_eq_false h1192) trivial)) (an (ti (ti (an h1182 (ti (an e1195 (ti trivial)))))) (an (decide_eq_false h1196) trivial)))) (ti (ti (ti trivial))))) (ti trivial)) (by kernel_rfl)
      exact round_next pm pn hv hq h2
  ·injection h with h; subst h
   exact round_stop (c := ⟨[(5, none)], [], []⟩) (s1 := (nspeculumref08_state_l0_0_e0 a0 a1 x5)) pm pn (ans := [.reg (nN 4 []), .br false]) (by kernel_rfl) (by intro e; cases e) (an (an (ti (ti (ti (ti trivial)))) (an (decide_eq_false h1181) trivial)) (ti trivial))
def nspeculumref08_state (k : Nat) (a0 : SAging) (a1 : (List SCoatEvent)) : Option Int :=
  (nspeculumref08_state_l0_0 k a0 a1 k (-1) 0).bind fun r1198 => (some r1198)
theorem nspeculumref08_state_ok (k : Nat) (a0 : SAging) (a1 : (List SCoatEvent)) (r : Int) (h : nspeculumref08_state k a0 a1 = some r) : VC Go.Proofs.Try.prog 15 [VV.ag (c_SAging a0), VV.tr (List.flatMap c_SCoatEvent a1) a1.length] (vi r) := by
 unfold nspeculumref08_state at h
 obtain ⟨r1198, h1197, h⟩ := bs h
 have hph1197 := nspeculumref08_state_l0_0_ok k a0 a1 _ _ _ _ h1197
 have e1199 := (an (ti trivial) (VRun.loop hph1197))
 injection h with h; subst h
 exact fun_ok pm pn Go.Proofs.Try.func15 (r0 := vi r1198) (ans := [.reg (.n :: .n :: []), .reg (.n :: []), .reg (.n :: []), .sub ⟨[(1, none), (2, none), (5, none), (6, none)], [none], []⟩ (.exit 0) (nspeculumref08_state_l0_0_e0 a0 a1 r1198), .reg (.n :: .n :: [])]) (fr := true) (by kernel_rfl) (an (an (ti (ti trivial)) (an (ti trivial) (an (an (ti trivial) e1199) (an (ti (ti trivial)) trivial)))) (ti trivial)) (Wv.refl _)
def arTC1_11 (z0 : (List SCoatEvent)) (z1 : Int) (z2 : Int) : List Ans := (nN 3 (.v (VV.ag (c_SCoatEvent (z0.getD z1.toNat default))) :: .call (vi z2) :: .n :: []))
def arTC1_12 (z0 : (List SCoatEvent)) (z1 : Int) : List Ans := (nN 4 (.v (vs ((z0.getD z1.toNat default).Mirror)) :: nN 3 (.v (vs ((z0.getD ((0 : Int)).toNat default).Mirror)) :: .n :: [])))
def arTC1_13 (z0 : (List SCoatEvent)) (z1 : Int) : List Ans := (nN 7 (.v (vi ((z0.getD z1.toNat default).Day)) :: nN 5 (.v (vi ((z0.getD (w64 (z1 - 1)).toNat default).Day)) :: .n :: .b true :: [])))
def arTC1_14 (z0 : (List SCoatEvent)) (z1 : Int) (z2 : Int) : List Ans := (nN 3 (.v (VV.tr (List.flatMap c_SCoatEvent (sl z0 0 ((z1).toNat))) ((sl z0 0 ((z1).toNat)).length)) :: .call (vi z2) :: .n :: []))
def arTC1_15 (z0 : (List SCoatEvent)) (z1 : Int) : List Ans := (nN 4 (.v (vi ((z0.getD z1.toNat default).Kind)) :: .n :: .n :: .skip :: .skip :: .b false :: []))
def nspeculumref08_CheckHistory_l0_0_h (a0 : SAging) (a1 : (List SCoatEvent)) (x6 : Int) : VS := ⟨mkA [(1, VV.tr (List.flatMap c_SCoatEvent a1) a1.length), (2, VV.pt 0 0), (6, vi x6)], [some ⟨true, 1, c_SAging a0⟩], .nil⟩
def nspeculumref08_CheckHistory_l0_0_e0 (a0 : SAging) (a1 : (List SCoatEvent)) (r : Int × Int) : VS := ⟨mkA [(4, vi r.1), (5, vi r.2)], [], .nil⟩
def nspeculumref08_CheckHistory_l0_0_e1 (a0 : SAging) (a1 : (List SCoatEvent)) (r : Unit) : VS := ⟨mkA [], [], .nil⟩
def nspeculumref08_CheckHistory_l0_0 (k : Nat) (a0 : SAging) (a1 : (List SCoatEvent)) : Nat → Int → Option (Sum (Int × Int) Unit)
  | 0, _ => none
  | fuel + 1, x6 => if x6 < (a1.length : Int) then (if 0 ≤ x6 ∧ x6 < (a1.length : Int) then ((nspeculumref08_CheckEvent k (a1.getD x6.toNat default)).bind fun r1386 => (if r1386 = 0 then (if (0 : Int) ≤ 0 ∧ 0 < (a1.length : Int) then (if ((a1.getD x6.toNat default).Mirror) = ((a1.getD ((0 : Int)).toNat default).Mirror) then (if 0 < x6 then (if 0 ≤ w64 (x6 - 1) ∧ w64 (x6 - 1) < (a1.length : Int) then (if ((a1.getD x6.toNat default).Day) < ((a1.getD (w64 (x6 - 1)).toNat default).Day) then (some (.inl (x6, 9))) else (if 0 ≤ (0 : Int) ∧ (0 : Int) ≤ x6 ∧ x6 ≤ (a1.length : Int) then ((nspeculumref08_state k a0 (sl a1 0 ((x6).toNat))).bind fun r1404 => (if ((decide (((a1.getD x6.toNat default).Kind) = 0)) == (decide (r1404 < 0))) = true then (if ((a1.getD x6.toNat default).Kind) = 1 then (if r1404 = 0 then (some (.inl (x6, 16))) else (nspeculumref08_CheckHistory_l0_0 k a0 a1 fuel (w64 (x6 + 1)))) else (nspeculumref08_CheckHistory_l0_0 k a0 a1 fuel (w64 (x6 + 1)))) else (some (.inl (x6, 24))))) else none)) else none) else (if 0 ≤ (0 : Int) ∧ (0 : Int) ≤ x6 ∧ x6 ≤ (a1.length : Int) then ((nspeculumref08_state k a0 (sl a1 0 ((x6).toNat))).bind fun r1418 => (if ((decide (((a1.getD x6.toNat default).Kind) = 0)) == (decide (r1418 < 0))) = true then (if ((a1.getD x6.toNat default).Kind) = 1 then (if r1418 = 0 then (some (.inl (x6, 16))) else (nspeculumref08_CheckHistory_l0_0 k a0 a1 fuel (w64 (x6 + 1)))) else (nspeculumref08_CheckHistory_l0_0 k a0 a1 fuel (w64 (x6 + 1)))) else (some (.inl (x6, 24))))) else none)) else (some (.inl (x6, 13)))) else none) else (some (.inl (x6, r1386))))) else none) else (some (.inr ()))
theorem nspeculumref08_CheckHistory_l0_0_ok (k : Nat) (a0 : SAging) (a1 : (List SCoatEvent)) : ∀ (fuel : Nat) (x6 : Int) (r : Sum (Int × Int) Unit), nspeculumref08_CheckHistory_l0_0 k a0 a1 fuel x6 = some r → (match r with | .inl r => VLoop none Go.Proofs.Try.prog (szF Go.Proofs.Try.f7) (bodyOf Go.Proofs.Try.f7 0) (nspeculumref08_CheckHistory_l0_0_h a0 a1 x6) .ret (nspeculumref08_CheckHistory_l0_0_e0 a0 a1 r) | .inr r => VLoop none Go.Proofs.Try.prog (szF Go.Proofs.Try.f7) (bodyOf Go.Proofs.Try.f7 0) (nspeculumref08_CheckHistory_l0_0_h a0 a1 x6) (.exit 0) (nspeculumref08_CheckHistory_l0_0_e1 a0 a1 r)) := by
 intro fuel
 induction fuel with
 | zero => intro x6 r h; rw [nspeculumref08_CheckHistory_l0_0.eq_1] at h; cases h
 | succ fuel ih =>
  intro x6 r h
  rw [nspeculumref08_CheckHistory_l0_0.eq_2] at h
  rcases ifs h with ⟨h1383, h⟩ | ⟨h1383, h⟩
  ·obtain ⟨h1384, h⟩ := ifn h
   have e1385 := (show loadL Go.Proofs.Try.prog 48 (x6.toNat * 3) (List.flatMap c_SCoatEvent a1) = some (VV.ag (c_SCoatEvent (a1.getD x6.toNat default))) from ld_whole ag48 c_SCoatEvent 3 sz48 len_c_SCoatEvent a1 default h1384 (by omega))
   obtain ⟨r1386, h1387, h⟩ := bs h
   have e1388 := (nspeculumref08_CheckEvent_ok k (a1.getD x6.toNat default) _ h1387)
   have e1389 := (ti (ti (an h1384 (an e1385 (an e1388 (ti trivial))))))
   rcases ifs h with ⟨h1390, h⟩ | ⟨h1390, h⟩
   ·have e1391 := (show loadL Go.Proofs.Try.prog 9 (x6.toNat * 3 + 0) (List.flatMap c_SCoatEvent a1) = some (vs ((a1.getD x6.toNat default).Mirror)) from (ld_flat ag9 c_SCoatEvent 3 0 len_c_SCoatEvent (by omega) a1 default h1384 (by omega)).trans rfl)
    obtain ⟨h1392, h⟩ := ifn h
    have e1393 := (show loadL Go.Proofs.Try.prog 9 (((0 : Int)).toNat * 3 + 0) (List.flatMap c_SCoatEvent a1) = some (vs ((a1.getD ((0 : Int)).toNat default).Mirror)) from (ld_flat ag9 c_SCoatEvent 3 0 len_c_SCoatEvent (by omega) a1 default h1392 (by omega)).trans rfl)
    have e1394 := (ti (ti (an h1384 (ti (an e1391 (ti (an h1392 (ti (an e1393 (ti trivial))))))))))
    rcases ifs h with ⟨h1395, h⟩ | ⟨h1395, h⟩
    ·rcases ifs h with ⟨h1396, h⟩ | ⟨h1396, h⟩
     ·have e1397 := (an (decide_eq_true h1396) (show loadL Go.Proofs.Try.prog 3 (x6.toNat * 3 + 1) (List.flatMap c_SCoatEvent a1) = some (vi ((a1.getD x6.toNat default).Day)) from (ld_flat ag3 c_SCoatEvent 3 1 len_c_SCoatEvent (by omega) a1 default h1384 (by omega)).trans rfl))
      obtain ⟨h1398, h⟩ := ifn h
      have e1399 := (an (decide_eq_true h1396) (show loadL Go.Proofs.Try.prog 3 ((w64 (x6 - 1)).toNat * 3 + 1) (List.flatMap c_SCoatEvent a1) = some (vi ((a1.getD (w64 (x6 - 1)).toNat default).Day)) from (ld_flat ag3 c_SCoatEvent 3 1 len_c_SCoatEvent (by omega) a1 default h1398 (by omega)).trans rfl))
      have e1400 := (ti (ti (ti (an (an (decide_eq_true h1396) trivial) (an (an (decide_eq_true h1396) trivial) (an (an (decide_eq_true h1396) h1384) (an (an (decide_eq_true h1396) trivial) (an e1397 (an (an (decide_eq_true h1396) trivial) (an (an (decide_eq_true h1396) trivial) (an (an (decide_eq_true h1396) trivial) (an (an (decide_eq_true h1396) h1398) (an (an (decide_eq_true h1396) trivial) (an e1399 (an (an (decide_eq_true h1396) trivial) (an (decide_eq_true h1396) trivial))))))))))))))))
      rcases ifs h with ⟨h1401, h⟩ | ⟨h1401, h⟩
      ·injection h with h; subst h
       exact round_stop (c := ⟨[(4, none), (5, none)], [], []⟩) (s1 := (nspeculumref08_CheckHistory_l0_0_e0 a0 a1 (x6, 9))) pm pn (ans := [.reg (nN 4 []), .br true, .reg (arTC1_11 a1 x6 r1386), .reg (.n :: .n :: []), .br false, .reg (arTC1_12 a1 x6), .br false, .reg (arTC1_13 a1 x6), .br true, .reg (nN 3 [])]) (by kernel_rfl) (by intro e; cases e) (an (an (an (ti (ti (ti (ti trivial)))) (an (decide_eq_true h1383) trivial)) (an (an e1389 (an (ti (ti trivial)) (an (not_f (decide_eq_true h1390)) trivial))) (an (an e1394 (an (not_f (decide_eq_true h1395)) trivial)) (an e1400 (an (decide_eq_true h1401) (an (ti (ti (ti trivial))) trivial)))))) (ti trivial))
      ·obtain ⟨h1402, h⟩ := ifn h
       have e1403 := (show (True ∧ 0 ≤ x6 ∧ 0 ≤ (x6).toNat ∧ (x6).toNat ≤ a1.length ∧ (x6).toNat * 3 ≤ List.length (List.flatMap c_SCoatEvent a1)) ∧ VV.tr (List.take (((x6).toNat - 0) * 3) (List.drop (0 * 3) (List.flatMap c_SCoatEvent a1))) ((x6).toNat - 0) = VV.tr (List.flatMap c_SCoatEvent (sl a1 0 ((x6).toNat))) ((sl a1 0 ((x6).toNat)).length) from ⟨⟨trivial, (by have := h1402; omega), (by have := h1402; omega), (by have := h1402; omega), (by rw [flatMap_len len_c_SCoatEvent]; have := h1402; omega)⟩, (by exact sl_flat len_c_SCoatEvent a1 0 ((x6).toNat) (by have := h1402; omega) (by have := h1402; omega))⟩)
       obtain ⟨r1404, h1405, h⟩ := bs h
       have e1406 := (nspeculumref08_state_ok k a0 (sl a1 0 ((x6).toNat)) _ h1405)
       have e1407 := (show loadL Go.Proofs.Try.prog 3 (x6.toNat * 3 + 2) (List.flatMap c_SCoatEvent a1) = some (vi ((a1.getD x6.toNat default).Kind)) from (ld_flat ag3 c_SCoatEvent 3 2 len_c_SCoatEvent (by omega) a1 default h1384 (by omega)).trans rfl)
       have e1408 := (ti (ti (an h1384 (ti (an e1407 (ti (ti (ti (ti trivial)))))))))
       rcases ifs h with ⟨h1409, h⟩ | ⟨h1409, h⟩
       ·have e1410 := (show loadL Go.Proofs.Try.prog 3 (x6.toNat * 3 + 2) (List.flatMap c_SCoatEvent a1) = some (vi ((a1.getD x6.toNat default).Kind)) from (ld_flat ag3 c_SCoatEvent 3 2 len_c_SCoatEvent (by omega) a1 default h1384 (by omega)).trans rfl)
        rcases ifs h with ⟨h1411, h⟩ | ⟨h1411, h⟩
        ·have e1412 := (ti (ti (an h1384 (ti (an e1410 (ti (ti (an (an (decide_eq_true h1411) trivial) (an (an (decide_eq_true h1411) trivial) (an (decide_eq_true h1411) trivial))))))))))
         rcases ifs h with ⟨h1413, h⟩ | ⟨h1413, h⟩
         ·injection h with h; subst h
          exact round_stop (c := ⟨[(4, none), (5, none)], [], []⟩) (s1 := (nspeculumref08_CheckHistory_l0_0_e0 a0 a1 (x6, 16))) pm pn (ans := [.reg (nN 4 []), .br true, .reg (arTC1_11 a1 x6 r1386), .reg (.n :: .n :: []), .br false, .reg (arTC1_12 a1 x6), .br false, .reg (arTC1_13 a1 x6), .br false, .reg (arTC1_14 a1 x6 r1404), .reg (nN 4 (.v (vi ((a1.getD x6.toNat default).Kind)) :: nN 4 [])), .br false, .reg (nN 4 (.v (vi ((a1.getD x6.toNat default).Kind)) :: nN 4 (.b true :: []))), .br true, .reg (nN 3 [])]) (by kernel_rfl) (by intro e; cases e) (an (an (an (ti (ti (ti (ti trivial)))) (an (decide_eq_true h1383) trivial)) (an (an e1389 (an (ti (ti trivial)) (an (not_f (decide_eq_true h1390)) trivial))) (an (an e1394 (an (not_f (decide_eq_true h1395)) trivial)) (an (an e1400 (an (decide_eq_false h1401) trivial)) (an (ti (ti (ti (an e1403 (an e1406 (ti trivial)))))) (an (an e1408 (an (not_f h1409) trivial)) (an e1412 (an (decide_eq_true h1413) (an (ti (ti (ti trivial))) trivial))))))))) (ti trivial))
         ·have h2 := ih _ _ h
          obtain ⟨q, hv, hq⟩ := pkR (rd := none) (P := Go.Proofs.Try.prog) (fn := Go.Proofs.Try.f7) (k := 0) (s := (nspeculumref08_CheckHistory_l0_0_h a0 a1 x6)) (ans := [.reg (nN 4 []), .br true, .reg (arTC1_11 a1 x6 r1386), .reg (.n :: .n :: []), .br false, .reg (arTC1_12 a1 x6), .br false, .reg (arTC1_13 a1 x6), .br false, .reg (arTC1_14 a1 x6 r1404), .reg (nN 4 (.v (vi ((a1.getD x6.toNat default).Kind)) :: nN 4 [])), .br false, .reg (nN 4 (.v (vi ((a1.getD x6.toNat default).Kind)) :: nN 4 (.b true :: []))), .br false, .reg (nN 3 [])]) (c := ⟨[(1, none), (2, none), (6, none)], [none], []⟩) (e := .normal) (s1 := (nspeculumref08_CheckHistory_l0_0_h a0 a1 (w64 (x6 + 1)))) (an (an (an (ti (ti (ti (ti trivial)))) (an (decide_eq_true h1383) trivial)) (an (an (an e1389 (an (ti (ti trivial)) (an (not_f (decide_eq_true h1390)) trivial))) (an (an e1394 (an (not_f (decide_eq_true h1395)) trivial)) (an (an e1400 (an (decide_eq_false h1401) trivial)) (an (ti (ti (ti (an e1403 (an e1406 (ti trivial)))))) (an (an e1408 (an (not_f h1409) trivial)) (an e1412 (an (decide_eq_false h1413) trivial))))))) (ti (ti (ti trivial))))) (ti trivial)) (by kernel_rfl)
          cases r with
          | inl r => exact round_next pm pn hv hq h2
          | inr r =>
           exact round_next pm pn hv hq h2
        ·have e1414 := (ti (ti (an h1384 (ti (an e1410 (ti (ti (an (decide_eq_false h1411) (an (decide_eq_false h1411) (an (decide_eq_false h1411) trivial))))))))))
         have h2 := ih _ _ h
         obtain ⟨q, hv, hq⟩ := pkR (rd := none) (P := Go.Proofs.Try.prog) (fn := Go.Proofs.Try.f7) (k := 0) (s := (nspeculumref08_CheckHistory_l0_0_h a0 a1 x6)) (ans := [.reg (nN 4 []), .br true, .reg (arTC1_11 a1 x6 r1386), .reg (.n :: .n :: []), .br false, .reg (arTC1_12 a1 x6), .br false, .reg (arTC1_13 a1 x6), .br false, .reg (arTC1_14 a1 x6 r1404), .reg (nN 4 (.v (vi ((a1.getD x6.toNat default).Kind)) :: nN 4 [])), .br false, .reg (arTC1_15 a1 x6), .br false, .reg (nN 3 [])]) (c := ⟨[(1, none), (2, none), (6, none)], [none], []⟩) (e := .normal) (s1 := (nspeculumref08_CheckHistory_l0_0_h a0 a1 (w64 (x6 + 1)))) (an (an (an (ti (ti (ti (ti trivial)))) (an (decide_eq_true h1383) trivial)) (an (an (an e1389 (an (ti (ti trivial)) (an (not_f (decide_eq_true h1390)) trivial))) (an (an e1394 (an (not_f (decide_eq_true h1395)) trivial)) (an (an e1400 (an (decide_eq_false h1401) trivial)) (an (ti (ti (ti (an e1403 (an e1406 (ti trivial)))))) (an (an e1408 (an (not_f h1409) trivial)) (an e1414 (an rf trivial))))))) (ti (ti (ti trivial))))) (ti trivial)) (by kernel_rfl)
         cases r with
         | inl r => exact round_next pm pn hv hq h2
         | inr r =>
          exact round_next pm pn hv hq h2
       ·injection h with h; subst h
        exact round_stop (c := ⟨[(4, none), (5, none)], [], []⟩) (s1 := (nspeculumref08_CheckHistory_l0_0_e0 a0 a1 (x6, 24))) pm pn (ans := [.reg (nN 4 []), .br true, .reg (arTC1_11 a1 x6 r1386), .reg (.n :: .n :: []), .br false, .reg (arTC1_12 a1 x6), .br false, .reg (arTC1_13 a1 x6), .br false, .reg (arTC1_14 a1 x6 r1404), .reg (nN 4 (.v (vi ((a1.getD x6.toNat default).Kind)) :: nN 4 [])), .br true, .reg (nN 3 [])]) (by kernel_rfl) (by intro e; cases e) (an (an (an (ti (ti (ti (ti trivial)))) (an (decide_eq_true h1383) trivial)) (an (an e1389 (an (ti (ti trivial)) (an (not_f (decide_eq_true h1390)) trivial))) (an (an e1394 (an (not_f (decide_eq_true h1395)) trivial)) (an (an e1400 (an (decide_eq_false h1401) trivial)) (an (ti (ti (ti (an e1403 (an e1406 (ti trivial)))))) (an e1408 (an (not_t (bool_f h1409)) (an (ti (ti (ti trivial))) trivial)))))))) (ti trivial))
     ·have e1415 := (ti (ti (ti (an (decide_eq_false h1396) (an (decide_eq_false h1396) (an (decide_eq_false h1396) (an (decide_eq_false h1396) (an (decide_eq_false h1396) (an (decide_eq_false h1396) (an (decide_eq_false h1396) (an (decide_eq_false h1396) (an (decide_eq_false h1396) (an (decide_eq_false h1396) (an (decide_eq_false h1396) (an (decide_eq_false h1396) (an (decide_eq_false h1396) trivial))))))))))))))))
      obtain ⟨h1416, h⟩ := ifn h
      have e1417 := (show (True ∧ 0 ≤ x6 ∧ 0 ≤ (x6).toNat ∧ (x6).toNat ≤ a1.length ∧ (x6).toNat * 3 ≤ List.length (List.flatMap c_SCoatEvent a1)) ∧ VV.tr (List.take (((x6).toNat - 0) * 3) (List.drop (0 * 3) (List.flatMap c_SCoatEvent a1))) ((x6).toNat - 0) = VV.tr (List.flatMap c_SCoatEvent (sl a1 0 ((x6).toNat))) ((sl a1 0 ((x6).toNat)).length) from ⟨⟨trivial, (by have := h1416; omega), (by have := h1416; omega), (by have := h1416; omega), (by rw [flatMap_len len_c_SCoatEvent]; have := h1416; omega)⟩, (by exact sl_flat len_c_SCoatEvent a1 0 ((x6).toNat) (by have := h1416; omega) (by have := h1416; omega))⟩)
      obtain ⟨r1418, h1419, h⟩ := bs h
      have e1420 := (nspeculumref08_state_ok k a0 (sl a1 0 ((x6).toNat)) _ h1419)
      have e1421 := (show loadL Go.Proofs.Try.prog 3 (x6.toNat * 3 + 2) (List.flatMap c_SCoatEvent a1) = some (vi ((a1.getD x6.toNat default).Kind)) from (ld_flat ag3 c_SCoatEvent 3 2 len_c_SCoatEvent (by omega) a1 default h1384 (by omega)).trans rfl)
      have e1422 := (ti (ti (an h1384 (ti (an e1421 (ti (ti (ti (ti trivial)))))))))
      rcases ifs h with ⟨h1423, h⟩ | ⟨h1423, h⟩
      ·have e1424 := (show loadL Go.Proofs.Try.prog 3 (x6.toNat * 3 + 2) (List.flatMap c_SCoatEvent a1) = some (vi ((a1.getD x6.toNat default).Kind)) from (ld_flat ag3 c_SCoatEvent 3 2 len_c_SCoatEvent (by omega) a1 default h1384 (by omega)).trans rfl)
       rcases ifs h with ⟨h1425, h⟩ | ⟨h1425, h⟩
       ·have e1426 := (ti (ti (an h1384 (ti (an e1424 (ti (ti (an (an (decide_eq_true h1425) trivial) (an (an (decide_eq_true h1425) trivial) (an (decide_eq_true h1425) trivial))))))))))
        rcases ifs h with ⟨h1427, h⟩ | ⟨h1427, h⟩
        ·injection h with h; subst h
         exact round_stop (c := ⟨[(4, none), (5, none)], [], []⟩) (s1 := (nspeculumref08_CheckHistory_l0_0_e0 a0 a1 (x6, 16))) pm pn (ans := [.reg (nN 4 []), .br true, .reg (arTC1_11 a1 x6 r1386), .reg (.n :: .n :: []), .br false, .reg (arTC1_12 a1 x6), .br false, .reg (nN 3 (nS 12 (.b false :: []))), .br false, .reg (arTC1_14 a1 x6 r1418), .reg (nN 4 (.v (vi ((a1.getD x6.toNat default).Kind)) :: nN 4 [])), .br false, .reg (nN 4 (.v (vi ((a1.getD x6.toNat default).Kind)) :: nN 4 (.b true :: []))), .br true, .reg (nN 3 [])]) (by kernel_rfl) (by intro e; cases e) (an (an (an (ti (ti (ti (ti trivial)))) (an (decide_eq_true h1383) trivial)) (an (an e1389 (an (ti (ti trivial)) (an (not_f (decide_eq_true h1390)) trivial))) (an (an e1394 (an (not_f (decide_eq_true h1395)) trivial)) (an (an e1415 (an rf trivial)) (an (ti (ti (ti (an e1417 (an e1420 (ti trivial)))))) (an (an e1422 (an (not_f h1423) trivial)) (an e1426 (an (decide_eq_true h1427) (an (ti (ti (ti trivial))) trivial))))))))) (ti trivial))
        ·have h2 := ih _ _ h
         obtain ⟨q, hv, hq⟩ := pkR (rd := none) (P := Go.Proofs.Try.prog) (fn := Go.Proofs.Try.f7) (k := 0) (s := (nspeculumref08_CheckHistory_l0_0_h a0 a1 x6)) (ans := [.reg (nN 4 []), .br true, .reg (arTC1_11 a1 x6 r1386), .reg (.n :: .n :: []), .br false, .reg (arTC1_12 a1 x6), .br false, .reg (nN 3 (nS 12 (.b false :: []))), .br false, .reg (arTC1_14 a1 x6 r1418), .reg (nN 4 (.v (vi ((a1.getD x6.toNat default).Kind)) :: nN 4 [])), .br false, .reg (nN 4 (.v (vi ((a1.getD x6.toNat default).Kind)) :: nN 4 (.b true :: []))), .br false, .reg (nN 3 [])]) (c := ⟨[(1, none), (2, none), (6, none)], [none], []⟩) (e := .normal) (s1 := (nspeculumref08_CheckHistory_l0_0_h a0 a1 (w64 (x6 + 1)))) (an (an (an (ti (ti (ti (ti trivial)))) (an (decide_eq_true h1383) trivial)) (an (an (an e1389 (an (ti (ti trivial)) (an (not_f (decide_eq_true h1390)) trivial))) (an (an e1394 (an (not_f (decide_eq_true h1395)) trivial)) (an (an e1415 (an rf trivial)) (an (ti (ti (ti (an e1417 (an e1420 (ti trivial)))))) (an (an e1422 (an (not_f h1423) trivial)) (an e1426 (an (decide_eq_false h1427) trivial))))))) (ti (ti (ti trivial))))) (ti trivial)) (by kernel_rfl)
         cases r with
         | inl r => exact round_next pm pn hv hq h2
         | inr r =>
          exact round_next pm pn hv hq h2
       ·have e1428 := (ti (ti (an h1384 (ti (an e1424 (ti (ti (an (decide_eq_false h1425) (an (decide_eq_false h1425) (an (decide_eq_false h1425) trivial))))))))))
        have h2 := ih _ _ h
        obtain ⟨q, hv, hq⟩ := pkR (rd := none) (P := Go.Proofs.Try.prog) (fn := Go.Proofs.Try.f7) (k := 0) (s := (nspeculumref08_CheckHistory_l0_0_h a0 a1 x6)) (ans := [.reg (nN 4 []), .br true, .reg (arTC1_11 a1 x6 r1386), .reg (.n :: .n :: []), .br false, .reg (arTC1_12 a1 x6), .br false, .reg (nN 3 (nS 12 (.b false :: []))), .br false, .reg (arTC1_14 a1 x6 r1418), .reg (nN 4 (.v (vi ((a1.getD x6.toNat default).Kind)) :: nN 4 [])), .br false, .reg (arTC1_15 a1 x6), .br false, .reg (nN 3 [])]) (c := ⟨[(1, none), (2, none), (6, none)], [none], []⟩) (e := .normal) (s1 := (nspeculumref08_CheckHistory_l0_0_h a0 a1 (w64 (x6 + 1)))) (an (an (an (ti (ti (ti (ti trivial)))) (an (decide_eq_true h1383) trivial)) (an (an (an e1389 (an (ti (ti trivial)) (an (not_f (decide_eq_true h1390)) trivial))) (an (an e1394 (an (not_f (decide_eq_true h1395)) trivial)) (an (an e1415 (an rf trivial)) (an (ti (ti (ti (an e1417 (an e1420 (ti trivial)))))) (an (an e1422 (an (not_f h1423) trivial)) (an e1428 (an rf trivial))))))) (ti (ti (ti trivial))))) (ti trivial)) (by kernel_rfl)
        cases r with
        | inl r => exact round_next pm pn hv hq h2
        | inr r =>
         exact round_next pm pn hv hq h2
      ·injection h with h; subst h
       exact round_stop (c := ⟨[(4, none), (5, none)], [], []⟩) (s1 := (nspeculumref08_CheckHistory_l0_0_e0 a0 a1 (x6, 24))) pm pn (ans := [.reg (nN 4 []), .br true, .reg (arTC1_11 a1 x6 r1386), .reg (.n :: .n :: []), .br false, .reg (arTC1_12 a1 x6), .br false, .reg (nN 3 (nS 12 (.b false :: []))), .br false, .reg (arTC1_14 a1 x6 r1418), .reg (nN 4 (.v (vi ((a1.getD x6.toNat default).Kind)) :: nN 4 [])), .br true, .reg (nN 3 [])]) (by kernel_rfl) (by intro e; cases e) (an (an (an (ti (ti (ti (ti trivial)))) (an (decide_eq_true h1383) trivial)) (an (an e1389 (an (ti (ti trivial)) (an (not_f (decide_eq_true h1390)) trivial))) (an (an e1394 (an (not_f (decide_eq_true h1395)) trivial)) (an (an e1415 (an rf trivial)) (an (ti (ti (ti (an e1417 (an e1420 (ti trivial)))))) (an e1422 (an (not_t (bool_f h1423)) (an (ti (ti (ti trivial))) trivial)))))))) (ti trivial))
    ·injection h with h; subst h
     exact round_stop (c := ⟨[(4, none), (5, none)], [], []⟩) (s1 := (nspeculumref08_CheckHistory_l0_0_e0 a0 a1 (x6, 13))) pm pn (ans := [.reg (nN 4 []), .br true, .reg (arTC1_11 a1 x6 r1386), .reg (.n :: .n :: []), .br false, .reg (arTC1_12 a1 x6), .br true, .reg (nN 3 [])]) (by kernel_rfl) (by intro e; cases e) (an (an (an (ti (ti (ti (ti trivial)))) (an (decide_eq_true h1383) trivial)) (an (an e1389 (an (ti (ti trivial)) (an (not_f (decide_eq_true h1390)) trivial))) (an e1394 (an (not_t (decide_eq_false h1395)) (an (ti (ti (ti trivial))) trivial))))) (ti trivial))
   ·injection h with h; subst h
    exact round_stop (c := ⟨[(4, none), (5, none)], [], []⟩) (s1 := (nspeculumref08_CheckHistory_l0_0_e0 a0 a1 (x6, r1386))) pm pn (ans := [.reg (nN 4 []), .br true, .reg (arTC1_11 a1 x6 r1386), .reg (.n :: .n :: []), .br true, .reg (nN 4 [])]) (by kernel_rfl) (by intro e; cases e) (an (an (an (ti (ti (ti (ti trivial)))) (an (decide_eq_true h1383) trivial)) (an e1389 (an (ti (ti trivial)) (an (not_t (decide_eq_false h1390)) (an (ti (ti (ti (ti trivial)))) trivial))))) (ti trivial))
  ·injection h with h; subst h
   exact round_stop (c := ⟨[], [], []⟩) (s1 := (nspeculumref08_CheckHistory_l0_0_e1 a0 a1 ())) pm pn (ans := [.reg (nN 4 []), .br false]) (by kernel_rfl) (by intro e; cases e) (an (an (ti (ti (ti (ti trivial)))) (an (decide_eq_false h1383) trivial)) (ti trivial))
def nspeculumref08_CheckHistory (k : Nat) (a0 : SAging) (a1 : (List SCoatEvent)) : Option (Int × Int) :=
  if 40 < (a1.length : Int) then (some (0, 8)) else ((nspeculumref08_CheckHistory_l0_0 k a0 a1 k 0).bind fun r1430 => (match r1430 with | .inl r1431 => (some (r1431.1, r1431.2)) | .inr r1432 => (some (0, 0))))
theorem nspeculumref08_CheckHistory_ok (k : Nat) (a0 : SAging) (a1 : (List SCoatEvent)) (r : (Int × Int)) (h : nspeculumref08_CheckHistory k a0 a1 = some r) : VC Go.Proofs.Try.prog 7 [VV.ag (c_SAging a0), VV.tr (List.flatMap c_SCoatEvent a1) a1.length] (VV.tu [vi r.1, vi r.2]) := by
 unfold nspeculumref08_CheckHistory at h
 rcases ifs h with ⟨h1309, h⟩ | ⟨h1309, h⟩
 ·injection h with h; subst h
  exact fun_ok pm pn Go.Proofs.Try.func7 (r0 := VV.tu [vi 0, vi 8]) (ans := [.reg (nN 3 []), .reg (nN 3 []), .br true, .reg (.n :: .n :: [])]) (fr := true) (by kernel_rfl) (an (an (ti (ti (ti trivial))) (an (ti (ti (ti trivial))) (an (decide_eq_true h1309) (an (ti (ti trivial)) trivial)))) (ti (ti trivial))) (Wv.refl _)
 ·obtain ⟨r1430, h1429, h⟩ := bs h
  have hph1429 := nspeculumref08_CheckHistory_l0_0_ok k a0 a1 _ _ _ h1429
  cases r1430 with
  | inl r1431 =>
   dsimp only at h
   have e1433 := (an (ti trivial) (VRun.loop hph1429))
   injection h with h; subst h
   exact fun_ok pm pn Go.Proofs.Try.func7 (r0 := VV.tu [vi r1431.1, vi r1431.2]) (ans := [.reg (nN 3 []), .reg (nN 3 []), .br false, .reg (.n :: []), .sub ⟨[(1, none), (2, none), (6, none)], [none], []⟩ .ret (nspeculumref08_CheckHistory_l0_0_e0 a0 a1 r1431)]) (fr := true) (by kernel_rfl) (an (an (ti (ti (ti trivial))) (an (an (ti (ti (ti trivial))) (an (decide_eq_false h1309) trivial)) (an (ti trivial) e1433))) (ti (ti trivial))) (Wv.refl _)
  | inr r1432 =>
   dsimp only at h
   have e1434 := (an (ti trivial) (VRun.loop hph1429))
   injection h with h; subst h
   exact fun_ok pm pn Go.Proofs.Try.func7 (r0 := VV.tu [vi 0, vi 0]) (ans := [.reg (nN 3 []), .reg (nN 3 []), .br false, .reg (.n :: []), .sub ⟨[(1, none), (2, none), (6, none)], [none], []⟩ (.exit 0) (nspeculumref08_CheckHistory_l0_0_e1 a0 a1 r1432), .reg (.n :: .n :: [])]) (fr := true) (by kernel_rfl) (an (an (ti (ti (ti trivial))) (an (an (ti (ti (ti trivial))) (an (decide_eq_false h1309) trivial)) (an (an (ti trivial) e1434) (an (ti (ti trivial)) trivial)))) (ti (ti trivial))) (Wv.refl _)
end Go.Proofs.Ytfdmpodpglppbaa.Vg

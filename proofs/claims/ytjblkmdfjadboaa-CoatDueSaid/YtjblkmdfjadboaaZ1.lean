/- Written by a program out of the program: what Go functions do, as plain functions, and their contracts. -/
import Derived.Test.YtjblkmdfjadboaaWa
namespace Go.Proofs.Ytjblkmdfjadboaa.Vg
set_option maxRecDepth 100000
set_option maxHeartbeats 4000000
set_option linter.unusedVariables false
set_option linter.unusedSimpArgs false
open Go Go.Proofs.Ytjblkmdfjadboaa.Ev Go.Proofs.Ytjblkmdfjadboaa.Vv
structure SRange where
  Lo : Int
  Hi : Int
  deriving Inhabited
def c_SRange (x : SRange) : List VV := [vi x.Lo, vi x.Hi]
theorem len_c_SRange (x : SRange) : (c_SRange x).length = 2 := rfl
theorem still_c_SRange (xs : List SRange) : (xs.flatMap c_SRange).all VV.still = true := all_flat (fun _ => rfl) xs
theorem isC_c_SRange (xs : List SRange) : (xs.flatMap c_SRange).all VV.isC = true := all_flat (fun _ => rfl) xs
theorem new0_c_SRange (xs : List SRange) : (xs.flatMap c_SRange).all new0 = true := all_flat (fun _ => rfl) xs
theorem unfr_c_SRange (xs : List SRange) : (xs.flatMap c_SRange).map unfr = xs.flatMap c_SRange := unfr_flat (fun _ => rfl) xs
structure SAging where
  Fresh : SRange
  Loss : SRange
  Back : SRange
  Washes : Int
  deriving Inhabited
def c_SAging (x : SAging) : List VV := [vi x.Fresh.Lo, vi x.Fresh.Hi, vi x.Loss.Lo, vi x.Loss.Hi, vi x.Back.Lo, vi x.Back.Hi, vi x.Washes]
theorem len_c_SAging (x : SAging) : (c_SAging x).length = 7 := rfl
theorem still_c_SAging (xs : List SAging) : (xs.flatMap c_SAging).all VV.still = true := all_flat (fun _ => rfl) xs
theorem isC_c_SAging (xs : List SAging) : (xs.flatMap c_SAging).all VV.isC = true := all_flat (fun _ => rfl) xs
theorem new0_c_SAging (xs : List SAging) : (xs.flatMap c_SAging).all new0 = true := all_flat (fun _ => rfl) xs
theorem unfr_c_SAging (xs : List SAging) : (xs.flatMap c_SAging).map unfr = xs.flatMap c_SAging := unfr_flat (fun _ => rfl) xs
structure SCoatEvent where
  Mirror : ByteArray
  Day : Int
  Kind : Int
  deriving Inhabited
def c_SCoatEvent (x : SCoatEvent) : List VV := [vs x.Mirror, vi x.Day, vi x.Kind]
theorem len_c_SCoatEvent (x : SCoatEvent) : (c_SCoatEvent x).length = 3 := rfl
theorem still_c_SCoatEvent (xs : List SCoatEvent) : (xs.flatMap c_SCoatEvent).all VV.still = true := all_flat (fun _ => rfl) xs
theorem isC_c_SCoatEvent (xs : List SCoatEvent) : (xs.flatMap c_SCoatEvent).all VV.isC = true := all_flat (fun _ => rfl) xs
theorem new0_c_SCoatEvent (xs : List SCoatEvent) : (xs.flatMap c_SCoatEvent).all new0 = true := all_flat (fun _ => rfl) xs
theorem unfr_c_SCoatEvent (xs : List SCoatEvent) : (xs.flatMap c_SCoatEvent).map unfr = xs.flatMap c_SCoatEvent := unfr_flat (fun _ => rfl) xs
structure Sfilm where
  Aging : SAging
  isOn : Bool
  washed : Int
  since : Int
  bright : SRange
  deriving Inhabited
def c_Sfilm (x : Sfilm) : List VV := [vi x.Aging.Fresh.Lo, vi x.Aging.Fresh.Hi, vi x.Aging.Loss.Lo, vi x.Aging.Loss.Hi, vi x.Aging.Back.Lo, vi x.Aging.Back.Hi, vi x.Aging.Washes, vb x.isOn, vi x.washed, vi x.since, vi x.bright.Lo, vi x.bright.Hi]
theorem len_c_Sfilm (x : Sfilm) : (c_Sfilm x).length = 12 := rfl
theorem still_c_Sfilm (xs : List Sfilm) : (xs.flatMap c_Sfilm).all VV.still = true := all_flat (fun _ => rfl) xs
theorem isC_c_Sfilm (xs : List Sfilm) : (xs.flatMap c_Sfilm).all VV.isC = true := all_flat (fun _ => rfl) xs
theorem new0_c_Sfilm (xs : List Sfilm) : (xs.flatMap c_Sfilm).all new0 = true := all_flat (fun _ => rfl) xs
theorem unfr_c_Sfilm (xs : List Sfilm) : (xs.flatMap c_Sfilm).map unfr = xs.flatMap c_Sfilm := unfr_flat (fun _ => rfl) xs
theorem ag3 : isAggT Go.Proofs.Try.prog 3 = some false := by kernel_rfl
theorem ag9 : isAggT Go.Proofs.Try.prog 9 = some false := by kernel_rfl
theorem ag38 : isAggT Go.Proofs.Try.prog 38 = some true := by kernel_rfl
theorem sz38 : szOf Go.Proofs.Try.prog 38 = some 3 := by kernel_rfl
def ncoat_isWithin (k : Nat) (a0 : Int) (a1 : Int) (a2 : SRange) : Option Bool :=
  if a0 ≤ a2.Lo then (if a2.Lo ≤ a2.Hi then (some (decide (a2.Hi ≤ a1))) else (some false)) else (some false)
theorem ncoat_isWithin_ok (k : Nat) (a0 : Int) (a1 : Int) (a2 : SRange) (r : Bool) (h : ncoat_isWithin k a0 a1 a2 = some r) : VC Go.Proofs.Try.prog 48 [vi a0, vi a1, VV.ag (c_SRange a2)] (vb r) := by
 unfold ncoat_isWithin at h
 rcases ifs h with ⟨h107, h⟩ | ⟨h107, h⟩
 ·rcases ifs h with ⟨h108, h⟩ | ⟨h108, h⟩
  ·have e109 := (ti (ti (ti (ti (ti (an (an (decide_eq_true h107) trivial) (an (an (decide_eq_true h107) trivial) (an (an (decide_eq_true h107) trivial) (an (an (decide_eq_true h107) trivial) (an (an (decide_eq_true h107) trivial) (an (decide_eq_true h107) (ti (an (an (decide_eq_true h108) trivial) (an (an (decide_eq_true h108) trivial) (an (an (decide_eq_true h108) trivial) (an (an (decide_eq_true h108) trivial) (an (decide_eq_true h108) (ti trivial))))))))))))))))))
   injection h with h; subst h
   exact fun_ok pm pn Go.Proofs.Try.func48 (r0 := vb (decide (a2.Hi ≤ a1))) (ans := [.reg (.n :: .n :: []), .reg (nN 10 (.b true :: nN 5 (.b true :: .n :: [])))]) (fr := true) (by kernel_rfl) (an (an (ti (ti trivial)) (an e109 trivial)) (ti trivial)) (Wv.refl _)
  ·have e110 := (ti (ti (ti (ti (ti (an (an (decide_eq_true h107) trivial) (an (an (decide_eq_true h107) trivial) (an (an (decide_eq_true h107) trivial) (an (an (decide_eq_true h107) trivial) (an (an (decide_eq_true h107) trivial) (an (decide_eq_true h107) (ti (an (decide_eq_false h108) (an (decide_eq_false h108) (an (decide_eq_false h108) (an (decide_eq_false h108) (an (decide_eq_false h108) (ti trivial))))))))))))))))))
   injection h with h; subst h
   exact fun_ok pm pn Go.Proofs.Try.func48 (r0 := vb false) (ans := [.reg (.n :: .n :: []), .reg (nN 10 (.b true :: .n :: nS 4 (.b false :: .n :: [])))]) (fr := true) (by kernel_rfl) (an (an (ti (ti trivial)) (an e110 trivial)) (ti trivial)) (Wv.refl _)
 ·have e111 := (ti (ti (ti (ti (ti (an (decide_eq_false h107) (an (decide_eq_false h107) (an (decide_eq_false h107) (an (decide_eq_false h107) (an (decide_eq_false h107) (an (decide_eq_false h107) (ti (an rf (an rf (an rf (an rf (an rf (ti trivial))))))))))))))))))
  injection h with h; subst h
  exact fun_ok pm pn Go.Proofs.Try.func48 (r0 := vb false) (ans := [.reg (.n :: .n :: []), .reg (nN 5 (nS 5 (.b false :: .n :: nS 4 (.b false :: .n :: []))))]) (fr := true) (by kernel_rfl) (an (an (ti (ti trivial)) (an e111 trivial)) (ti trivial)) (Wv.refl _)
def ncoat_areWithin_l0_0_h (a0 : Int) (a1 : Int) (a2 : (List Int)) (x11 : Int) : VS := ⟨mkA [(0, vi a0), (1, vi a1), (9, VV.tr (List.map vi a2) a2.length), (10, vi (a2.length : Int)), (11, vi x11)], [], .nil⟩
def ncoat_areWithin_l0_0_e0 (a0 : Int) (a1 : Int) (a2 : (List Int)) (r : Unit) : VS := ⟨mkA [(6, vb false)], [], .nil⟩
def ncoat_areWithin_l0_0_e1 (a0 : Int) (a1 : Int) (a2 : (List Int)) (r : Unit) : VS := ⟨mkA [], [], .nil⟩
def ncoat_areWithin_l0_0 (k : Nat) (a0 : Int) (a1 : Int) (a2 : (List Int)) : Nat → Int → Option (Sum Unit Unit)
  | 0, _ => none
  | fuel + 1, x11 => if x11 < (a2.length : Int) then (if 0 ≤ x11 ∧ x11 < (a2.length : Int) then (if (a2.getD x11.toNat 0) < a0 then (some (.inl ())) else (if a1 < (a2.getD x11.toNat 0) then (some (.inl ())) else (ncoat_areWithin_l0_0 k a0 a1 a2 fuel (w64 (x11 + 1))))) else none) else (some (.inr ()))
theorem ncoat_areWithin_l0_0_ok (k : Nat) (a0 : Int) (a1 : Int) (a2 : (List Int)) : ∀ (fuel : Nat) (x11 : Int) (r : Sum Unit Unit), ncoat_areWithin_l0_0 k a0 a1 a2 fuel x11 = some r → (match r with | .inl r => VLoop none Go.Proofs.Try.prog (szF Go.Proofs.Try.f17) (bodyOf Go.Proofs.Try.f17 0) (ncoat_areWithin_l0_0_h a0 a1 a2 x11) .ret (ncoat_areWithin_l0_0_e0 a0 a1 a2 r) | .inr r => VLoop none Go.Proofs.Try.prog (szF Go.Proofs.Try.f17) (bodyOf Go.Proofs.Try.f17 0) (ncoat_areWithin_l0_0_h a0 a1 a2 x11) (.exit 0) (ncoat_areWithin_l0_0_e1 a0 a1 a2 r)) := by
 intro fuel
 induction fuel with
 | zero => intro x11 r h; rw [ncoat_areWithin_l0_0.eq_1] at h; cases h
 | succ fuel ih =>
  intro x11 r h
  rw [ncoat_areWithin_l0_0.eq_2] at h
  rcases ifs h with ⟨h201, h⟩ | ⟨h201, h⟩
  ·obtain ⟨h202, h⟩ := ifn h
   have e203 := (show loadL Go.Proofs.Try.prog 3 (x11.toNat * 1) (List.map vi a2) = some (vi (a2.getD x11.toNat 0)) from ld_map ag3 vi a2 0 h202 (by omega))
   rcases ifs h with ⟨h204, h⟩ | ⟨h204, h⟩
   ·have e205 := (ti (ti (ti (ti (an (decide_eq_true h204) (an (decide_eq_true h204) (an (decide_eq_true h204) (an (decide_eq_true h204) trivial))))))))
    injection h with h; subst h
    exact round_stop (c := ⟨[(6, none)], [], []⟩) (s1 := (ncoat_areWithin_l0_0_e0 a0 a1 a2 ())) pm pn (ans := [.reg (.n :: []), .br true, .reg (.n :: .v (vi (a2.getD x11.toNat 0)) :: .n :: []), .reg (nN 4 (nS 3 (.b true :: []))), .br true, .reg (.n :: [])]) (by kernel_rfl) (by intro e; cases e) (an (an (ti trivial) (an (an (decide_eq_true h201) trivial) (an (an h202 (an e203 (ti trivial))) (an e205 (an rt (an (ti trivial) trivial)))))) (ti trivial))
   ·have e206 := (ti (ti (ti (ti (an (an (decide_eq_false h204) trivial) (an (an (decide_eq_false h204) trivial) (an (an (decide_eq_false h204) trivial) (an (decide_eq_false h204) trivial))))))))
    rcases ifs h with ⟨h207, h⟩ | ⟨h207, h⟩
    ·injection h with h; subst h
     exact round_stop (c := ⟨[(6, none)], [], []⟩) (s1 := (ncoat_areWithin_l0_0_e0 a0 a1 a2 ())) pm pn (ans := [.reg (.n :: []), .br true, .reg (.n :: .v (vi (a2.getD x11.toNat 0)) :: .n :: []), .reg (nN 7 (.b false :: [])), .br true, .reg (.n :: [])]) (by kernel_rfl) (by intro e; cases e) (an (an (ti trivial) (an (an (decide_eq_true h201) trivial) (an (an h202 (an e203 (ti trivial))) (an e206 (an (decide_eq_true h207) (an (ti trivial) trivial)))))) (ti trivial))
    ·have h2 := ih _ _ h
     obtain ⟨q, hv, hq⟩ := pkR (rd := none) (P := Go.Proofs.Try.prog) (fn := Go.Proofs.Try.f17) (k := 0) (s := (ncoat_areWithin_l0_0_h a0 a1 a2 x11)) (ans := [.reg (.n :: []), .br true, .reg (.n :: .v (vi (a2.getD x11.toNat 0)) :: .n :: []), .reg (nN 7 (.b false :: [])), .br false, .reg (.n :: .n :: [])]) (c := ⟨[(0, none), (1, none), (9, none), (10, none), (11, none)], [], []⟩) (e := .normal) (s1 := (ncoat_areWithin_l0_0_h a0 a1 a2 (w64 (x11 + 1)))) (an (an (ti trivial) (an (an (decide_eq_true h201) trivial) (an (an (an h202 (an e203 (ti trivial))) (an e206 (an (decide_eq_false h207) trivial))) (ti (ti trivial))))) (ti trivial)) (by kernel_rfl)
     cases r with
     | inl r => exact round_next pm pn hv hq h2
     | inr r =>
      exact round_next pm pn hv hq h2
  ·injection h with h; subst h
   exact round_stop (c := ⟨[], [], []⟩) (s1 := (ncoat_areWithin_l0_0_e1 a0 a1 a2 ())) pm pn (ans := [.reg (.n :: []), .br false]) (by kernel_rfl) (by intro e; cases e) (an (an (ti trivial) (an (decide_eq_false h201) trivial)) (ti trivial))
def ncoat_areWithin (k : Nat) (a0 : Int) (a1 : Int) (a2 : (List Int)) : Option Bool :=
  (ncoat_areWithin_l0_0 k a0 a1 a2 k 0).bind fun r209 => (match r209 with | .inl r210 => (some false) | .inr r211 => (some true))
theorem ncoat_areWithin_ok (k : Nat) (a0 : Int) (a1 : Int) (a2 : (List Int)) (r : Bool) (h : ncoat_areWithin k a0 a1 a2 = some r) : VC Go.Proofs.Try.prog 17 [vi a0, vi a1, VV.tr (List.map vi a2) a2.length] (vb r) := by
 unfold ncoat_areWithin at h
 obtain ⟨r209, h208, h⟩ := bs h
 have hph208 := ncoat_areWithin_l0_0_ok k a0 a1 a2 _ _ _ h208
 cases r209 with
 | inl r210 =>
  dsimp only at h
  have e212 := (an (ti trivial) (VRun.loop hph208))
  injection h with h; subst h
  exact fun_ok pm pn Go.Proofs.Try.func17 (r0 := vb false) (ans := [.reg (.n :: []), .reg (nN 3 []), .sub ⟨[(0, none), (1, none), (9, none), (10, none), (11, none)], [], []⟩ .ret (ncoat_areWithin_l0_0_e0 a0 a1 a2 r210)]) (fr := true) (by kernel_rfl) (an (an (ti trivial) (an (ti (ti (ti trivial))) e212)) (ti trivial)) (Wv.refl _)
 | inr r211 =>
  dsimp only at h
  have e213 := (an (ti trivial) (VRun.loop hph208))
  injection h with h; subst h
  exact fun_ok pm pn Go.Proofs.Try.func17 (r0 := vb true) (ans := [.reg (.n :: []), .reg (nN 3 []), .sub ⟨[(0, none), (1, none), (9, none), (10, none), (11, none)], [], []⟩ (.exit 0) (ncoat_areWithin_l0_0_e1 a0 a1 a2 r211), .reg (.n :: [])]) (fr := true) (by kernel_rfl) (an (an (ti trivial) (an (an (ti (ti (ti trivial))) e213) (an (ti trivial) trivial))) (ti trivial)) (Wv.refl _)
theorem eqZ1_0 (z0 : SAging) : [vi 0, vi 100, VV.tr (List.map vi ([z0.Washes] : List Int)) (([z0.Washes] : List Int).length)] = [vi 0, vi 100, VV.tr [vi z0.Washes] 1] := by first | rfl | (simp only [unfr_vi, List.map_cons, List.map_nil, un_i, un_tr, List.length_map, List.length_cons, List.length_nil]; done) | (simp only [unfr_vi, List.map_cons, List.map_nil, un_i, un_tr, List.length_map, List.length_cons, List.length_nil]; rfl) | (simp only [unfr_vi, List.map_cons, List.map_nil, un_i, un_tr, List.length_map, List.length_cons, List.length_nil, List.length_cons, List.length_nil, List.length_append]; done)
def ncoat_CheckAging_l0_0_h (a0 : SAging) (x12 : Int) : VS := ⟨mkA [(1, VV.pt 0 0), (11, VV.ag [vi a0.Fresh.Lo, vi a0.Fresh.Hi, vi a0.Loss.Lo, vi a0.Loss.Hi, vi a0.Back.Lo, vi a0.Back.Hi]), (12, vi x12)], [some ⟨true, 1, c_SAging a0⟩], .nil⟩
def ncoat_CheckAging_l0_0_e0 (a0 : SAging) (r : Unit) : VS := ⟨mkA [(2, vi 2)], [], .nil⟩
def ncoat_CheckAging_l0_0_e1 (a0 : SAging) (r : Unit) : VS := ⟨mkA [(1, VV.pt 0 0)], [some ⟨true, 1, c_SAging a0⟩], .nil⟩
def ncoat_CheckAging_l0_0 (k : Nat) (a0 : SAging) : Nat → Int → Option (Sum Unit Unit)
  | 0, _ => none
  | fuel + 1, x12 => if x12 < 3 then (if x12 = 0 then ((ncoat_isWithin k 0 1000 a0.Fresh).bind fun r245 => (if r245 = true then (ncoat_CheckAging_l0_0 k a0 fuel (w64 (x12 + 1))) else (some (.inl ())))) else (if x12 = 1 then ((ncoat_isWithin k 0 1000 a0.Loss).bind fun r251 => (if r251 = true then (ncoat_CheckAging_l0_0 k a0 fuel (w64 (x12 + 1))) else (some (.inl ())))) else (if x12 = 2 then ((ncoat_isWithin k 0 1000 a0.Back).bind fun r257 => (if r257 = true then (ncoat_CheckAging_l0_0 k a0 fuel (w64 (x12 + 1))) else (some (.inl ())))) else none))) else (some (.inr ()))
theorem ncoat_CheckAging_l0_0_ok (k : Nat) (a0 : SAging) : ∀ (fuel : Nat) (x12 : Int) (r : Sum Unit Unit), ncoat_CheckAging_l0_0 k a0 fuel x12 = some r → (match r with | .inl r => VLoop none Go.Proofs.Try.prog (szF Go.Proofs.Try.f40) (bodyOf Go.Proofs.Try.f40 0) (ncoat_CheckAging_l0_0_h a0 x12) .ret (ncoat_CheckAging_l0_0_e0 a0 r) | .inr r => VLoop none Go.Proofs.Try.prog (szF Go.Proofs.Try.f40) (bodyOf Go.Proofs.Try.f40 0) (ncoat_CheckAging_l0_0_h a0 x12) (.exit 0) (ncoat_CheckAging_l0_0_e1 a0 r)) := by
 intro fuel
 induction fuel with
 | zero => intro x12 r h; rw [ncoat_CheckAging_l0_0.eq_1] at h; cases h
 | succ fuel ih =>
  intro x12 r h
  rw [ncoat_CheckAging_l0_0.eq_2] at h
  rcases ifs h with ⟨h242, h⟩ | ⟨h242, h⟩
  ·rcases ifs h with ⟨h243, h⟩ | ⟨h243, h⟩
   ·have e244 := (show (0:Int) ≤ x12 ∧ x12 < ((3 : Nat) : Int) ∧ partV (x12.toNat * 2) (some 2) [vi a0.Fresh.Lo, vi a0.Fresh.Hi, vi a0.Loss.Lo, vi a0.Loss.Hi, vi a0.Back.Lo, vi a0.Back.Hi] = some (VV.ag (c_SRange a0.Fresh)) from ⟨by have := (of_decide_eq_true (decide_eq_true h243)); omega, by have := (of_decide_eq_true (decide_eq_true h243)); omega, by rw [show x12 = (0 : Int) from (of_decide_eq_true (decide_eq_true h243))]; rfl⟩)
    obtain ⟨r245, h246, h⟩ := bs h
    have e247 := (ncoat_isWithin_ok k 0 1000 a0.Fresh _ h246)
    rcases ifs h with ⟨h248, h⟩ | ⟨h248, h⟩
    ·have h2 := ih _ _ h
     obtain ⟨q, hv, hq⟩ := pkR (rd := none) (P := Go.Proofs.Try.prog) (fn := Go.Proofs.Try.f40) (k := 0) (s := (ncoat_CheckAging_l0_0_h a0 x12)) (ans := [.reg (.n :: []), .br true, .reg (.v (VV.ag (c_SRange a0.Fresh)) :: .n :: .n :: []), .reg (.n :: .call (vb r245) :: .n :: []), .br false, .reg (.n :: .n :: [])]) (c := ⟨[(1, none), (11, none), (12, none)], [none], []⟩) (e := .normal) (s1 := (ncoat_CheckAging_l0_0_h a0 (w64 (x12 + 1)))) (an (an (ti trivial) (an (an (decide_eq_true h242) trivial) (an (an (an e244 (ti (ti trivial))) (an (ti (an e247 (ti trivial))) (an (not_f h248) trivial))) (ti (ti trivial))))) (ti trivial)) (by kernel_rfl)
     cases r with
     | inl r => exact round_next pm pn hv hq h2
     | inr r =>
      exact round_next pm pn hv hq h2
    ·injection h with h; subst h
     exact round_stop (c := ⟨[(2, none)], [], []⟩) (s1 := (ncoat_CheckAging_l0_0_e0 a0 ())) pm pn (ans := [.reg (.n :: []), .br true, .reg (.v (VV.ag (c_SRange a0.Fresh)) :: .n :: .n :: []), .reg (.n :: .call (vb r245) :: .n :: []), .br true, .reg (.n :: [])]) (by kernel_rfl) (by intro e; cases e) (an (an (ti trivial) (an (an (decide_eq_true h242) trivial) (an (an e244 (ti (ti trivial))) (an (ti (an e247 (ti trivial))) (an (not_t (bool_f h248)) (an (ti trivial) trivial)))))) (ti trivial))
   ·rcases ifs h with ⟨h249, h⟩ | ⟨h249, h⟩
    ·have e250 := (show (0:Int) ≤ x12 ∧ x12 < ((3 : Nat) : Int) ∧ partV (x12.toNat * 2) (some 2) [vi a0.Fresh.Lo, vi a0.Fresh.Hi, vi a0.Loss.Lo, vi a0.Loss.Hi, vi a0.Back.Lo, vi a0.Back.Hi] = some (VV.ag (c_SRange a0.Loss)) from ⟨by have := (of_decide_eq_true (decide_eq_true h249)); omega, by have := (of_decide_eq_true (decide_eq_true h249)); omega, by rw [show x12 = (1 : Int) from (of_decide_eq_true (decide_eq_true h249))]; rfl⟩)
     obtain ⟨r251, h252, h⟩ := bs h
     have e253 := (ncoat_isWithin_ok k 0 1000 a0.Loss _ h252)
     rcases ifs h with ⟨h254, h⟩ | ⟨h254, h⟩
     ·have h2 := ih _ _ h
      obtain ⟨q, hv, hq⟩ := pkR (rd := none) (P := Go.Proofs.Try.prog) (fn := Go.Proofs.Try.f40) (k := 0) (s := (ncoat_CheckAging_l0_0_h a0 x12)) (ans := [.reg (.n :: []), .br true, .reg (.v (VV.ag (c_SRange a0.Loss)) :: .n :: .n :: []), .reg (.n :: .call (vb r251) :: .n :: []), .br false, .reg (.n :: .n :: [])]) (c := ⟨[(1, none), (11, none), (12, none)], [none], []⟩) (e := .normal) (s1 := (ncoat_CheckAging_l0_0_h a0 (w64 (x12 + 1)))) (an (an (ti trivial) (an (an (decide_eq_true h242) trivial) (an (an (an e250 (ti (ti trivial))) (an (ti (an e253 (ti trivial))) (an (not_f h254) trivial))) (ti (ti trivial))))) (ti trivial)) (by kernel_rfl)
      cases r with
      | inl r => exact round_next pm pn hv hq h2
      | inr r =>
       exact round_next pm pn hv hq h2
     ·injection h with h; subst h
      exact round_stop (c := ⟨[(2, none)], [], []⟩) (s1 := (ncoat_CheckAging_l0_0_e0 a0 ())) pm pn (ans := [.reg (.n :: []), .br true, .reg (.v (VV.ag (c_SRange a0.Loss)) :: .n :: .n :: []), .reg (.n :: .call (vb r251) :: .n :: []), .br true, .reg (.n :: [])]) (by kernel_rfl) (by intro e; cases e) (an (an (ti trivial) (an (an (decide_eq_true h242) trivial) (an (an e250 (ti (ti trivial))) (an (ti (an e253 (ti trivial))) (an (not_t (bool_f h254)) (an (ti trivial) trivial)))))) (ti trivial))
    ·rcases ifs h with ⟨h255, h⟩ | ⟨h255, h⟩
     ·have e256 := (show (0:Int) ≤ x12 ∧ x12 < ((3 : Nat) : Int) ∧ partV (x12.toNat * 2) (some 2) [vi a0.Fresh.Lo, vi a0.Fresh.Hi, vi a0.Loss.Lo, vi a0.Loss.Hi, vi a0.Back.Lo, vi a0.Back.Hi] = some (VV.ag (c_SRange a0.Back)) from ⟨by have := (of_decide_eq_true (decide_eq_true h255)); omega, by have := (of_decide_eq_true (decide_eq_true h255)); omega, by rw [show x12 = (2 : Int) from (of_decide_eq_true (decide_eq_true h255))]; rfl⟩)
      obtain ⟨r257, h258, h⟩ := bs h
      have e259 := (ncoat_isWithin_ok k 0 1000 a0.Back _ h258)
      rcases ifs h with ⟨h260, h⟩ | ⟨h260, h⟩
      ·have h2 := ih _ _ h
       obtain ⟨q, hv, hq⟩ := pkR (rd := none) (P := Go.Proofs.Try.prog) (fn := Go.Proofs.Try.f40) (k := 0) (s := (ncoat_CheckAging_l0_0_h a0 x12)) (ans := [.reg (.n :: []), .br true, .reg (.v (VV.ag (c_SRange a0.Back)) :: .n :: .n :: []), .reg (.n :: .call (vb r257) :: .n :: []), .br false, .reg (.n :: .n :: [])]) (c := ⟨[(1, none), (11, none), (12, none)], [none], []⟩) (e := .normal) (s1 := (ncoat_CheckAging_l0_0_h a0 (w64 (x12 + 1)))) (an (an (ti trivial) (an (an (decide_eq_true h242) trivial) (an (an (an e256 (ti (ti trivial))) (an (ti (an e259 (ti trivial))) (an (not_f h260) trivial))) (ti (ti trivial))))) (ti trivial)) (by kernel_rfl)
       cases r with
       | inl r => exact round_next pm pn hv hq h2
       | inr r =>
        exact round_next pm pn hv hq h2
      ·injection h with h; subst h
       exact round_stop (c := ⟨[(2, none)], [], []⟩) (s1 := (ncoat_CheckAging_l0_0_e0 a0 ())) pm pn (ans := [.reg (.n :: []), .br true, .reg (.v (VV.ag (c_SRange a0.Back)) :: .n :: .n :: []), .reg (.n :: .call (vb r257) :: .n :: []), .br true, .reg (.n :: [])]) (by kernel_rfl) (by intro e; cases e) (an (an (ti trivial) (an (an (decide_eq_true h242) trivial) (an (an e256 (ti (ti trivial))) (an (ti (an e259 (ti trivial))) (an (not_t (bool_f h260)) (an (ti trivial) trivial)))))) (ti trivial))
     ·cases h
  ·injection h with h; subst h
   exact round_stop (c := ⟨[(1, none)], [none], []⟩) (s1 := (ncoat_CheckAging_l0_0_e1 a0 ())) pm pn (ans := [.reg (.n :: []), .br false]) (by kernel_rfl) (by intro e; cases e) (an (an (ti trivial) (an (decide_eq_false h242) trivial)) (ti trivial))
def ncoat_CheckAging (k : Nat) (a0 : SAging) : Option Int :=
  (ncoat_CheckAging_l0_0 k a0 k 0).bind fun r262 => (match r262 with | .inl r263 => (some 2) | .inr r264 => ((ncoat_areWithin k 0 100 ([a0.Washes] : List Int)).bind fun r267 => (if r267 = true then (some 0) else (some 2))))
theorem ncoat_CheckAging_ok (k : Nat) (a0 : SAging) (r : Int) (h : ncoat_CheckAging k a0 = some r) : VC Go.Proofs.Try.prog 40 [VV.ag (c_SAging a0)] (vi r) := by
 unfold ncoat_CheckAging at h
 obtain ⟨r262, h261, h⟩ := bs h
 have hph261 := ncoat_CheckAging_l0_0_ok k a0 _ _ _ h261
 cases r262 with
 | inl r263 =>
  dsimp only at h
  have e265 := (an (ti trivial) (VRun.loop hph261))
  injection h with h; subst h
  exact fun_ok pm pn Go.Proofs.Try.func40 (r0 := vi 2) (ans := [.reg (.n :: .n :: []), .reg (nN 8 []), .sub ⟨[(1, none), (11, none), (12, none)], [none], []⟩ .ret (ncoat_CheckAging_l0_0_e0 a0 r263)]) (fr := true) (by kernel_rfl) (an (an (ti (ti trivial)) (an (ti (ti (ti (ti (ti (ti (ti (ti trivial)))))))) e265)) (ti trivial)) (Wv.refl _)
 | inr r264 =>
  dsimp only at h
  have e266 := (an (ti trivial) (VRun.loop hph261))
  obtain ⟨r267, h268, h⟩ := bs h
  have e269 := (VC.args (ncoat_areWithin_ok k 0 100 ([a0.Washes] : List Int) _ h268) (eqZ1_0 a0))
  rcases ifs h with ⟨h270, h⟩ | ⟨h270, h⟩
  ·injection h with h; subst h
   exact fun_ok pm pn Go.Proofs.Try.func40 (r0 := vi 0) (ans := [.reg (.n :: .n :: []), .reg (nN 8 []), .sub ⟨[(1, none), (11, none), (12, none)], [none], []⟩ (.exit 0) (ncoat_CheckAging_l0_0_e1 a0 r264), .reg (.n :: .n :: .v VV.any :: .call (vb r267) :: .n :: []), .br false, .reg (.n :: [])]) (fr := true) (by kernel_rfl) (an (an (ti (ti trivial)) (an (an (ti (ti (ti (ti (ti (ti (ti (ti trivial)))))))) e266) (an (an (ti (ti (ti (an e269 (ti trivial))))) (an (not_f h270) trivial)) (an (ti trivial) trivial)))) (ti trivial)) (Wv.refl _)
  ·injection h with h; subst h
   exact fun_ok pm pn Go.Proofs.Try.func40 (r0 := vi 2) (ans := [.reg (.n :: .n :: []), .reg (nN 8 []), .sub ⟨[(1, none), (11, none), (12, none)], [none], []⟩ (.exit 0) (ncoat_CheckAging_l0_0_e1 a0 r264), .reg (.n :: .n :: .v VV.any :: .call (vb r267) :: .n :: []), .br true, .reg (.n :: [])]) (fr := true) (by kernel_rfl) (an (an (ti (ti trivial)) (an (an (ti (ti (ti (ti (ti (ti (ti (ti trivial)))))))) e266) (an (ti (ti (ti (an e269 (ti trivial))))) (an (not_t (bool_f h270)) (an (ti trivial) trivial))))) (ti trivial)) (Wv.refl _)
theorem eqZ1_1 (z0 : ByteArray) : [vi 1, vi 12, VV.tr (List.map vi ([(z0.size : Int)] : List Int)) (([(z0.size : Int)] : List Int).length)] = [vi 1, vi 12, VV.tr [vi (z0.size : Int)] 1] := by first | rfl | (simp only [unfr_vi, List.map_cons, List.map_nil, un_i, un_tr, List.length_map, List.length_cons, List.length_nil]; done) | (simp only [unfr_vi, List.map_cons, List.map_nil, un_i, un_tr, List.length_map, List.length_cons, List.length_nil]; rfl) | (simp only [unfr_vi, List.map_cons, List.map_nil, un_i, un_tr, List.length_map, List.length_cons, List.length_nil, List.length_cons, List.length_nil, List.length_append]; done)
def arZ1_0  : List Ans := (nN 3 (.skip :: .skip :: .b false :: nN 4 (.skip :: .skip :: .b false :: .b false :: .n :: [])))
def ncoat_isLetter (k : Nat) (a0 : Int) : Option Bool :=
  if 97 ≤ a0 then (if a0 ≤ 122 then (some true) else (if 65 ≤ a0 then (some (decide (a0 ≤ 90))) else (some false))) else (if 65 ≤ a0 then (some (decide (a0 ≤ 90))) else (some false))
theorem ncoat_isLetter_ok (k : Nat) (a0 : Int) (r : Bool) (h : ncoat_isLetter k a0 = some r) : VC Go.Proofs.Try.prog 58 [VV.c (.int .i32 a0)] (vb r) := by
 unfold ncoat_isLetter at h
 rcases ifs h with ⟨h297, h⟩ | ⟨h297, h⟩
 ·rcases ifs h with ⟨h298, h⟩ | ⟨h298, h⟩
  ·have e299 := (ti (ti (ti (an (an (decide_eq_true h297) trivial) (an (an (decide_eq_true h297) trivial) (an (decide_eq_true h297) (ti (an (decide_eq_true h298) (an (decide_eq_true h298) (an (decide_eq_true h298) (ti (ti (an (decide_eq_true h298) (an (decide_eq_true h298) (ti trivial)))))))))))))))
   injection h with h; subst h
   exact fun_ok pm pn Go.Proofs.Try.func58 (r0 := vb true) (ans := [.reg (.n :: []), .reg (nN 5 (.b true :: .n :: nS 6 (.b true :: .n :: [])))]) (fr := true) (by kernel_rfl) (an (an (ti trivial) (an e299 trivial)) (ti trivial)) (Wv.refl _)
  ·rcases ifs h with ⟨h300, h⟩ | ⟨h300, h⟩
   ·have e301 := (an (decide_eq_false h298) (decide_eq_true h300))
    have e302 := (ti (ti (ti (an (an (decide_eq_true h297) trivial) (an (an (decide_eq_true h297) trivial) (an (decide_eq_true h297) (ti (an (an (decide_eq_false h298) trivial) (an (an (decide_eq_false h298) trivial) (an (an (decide_eq_false h298) trivial) (an (an (decide_eq_true h300) trivial) (an (an (decide_eq_true h300) trivial) (an e301 (an (decide_eq_false h298) (ti trivial)))))))))))))))
    injection h with h; subst h
    exact fun_ok pm pn Go.Proofs.Try.func58 (r0 := vb (decide (a0 ≤ 90))) (ans := [.reg (.n :: []), .reg (nN 5 (.b true :: nN 6 (.b true :: .b false :: .n :: [])))]) (fr := true) (by kernel_rfl) (an (an (ti trivial) (an e302 trivial)) (ti trivial)) (Wv.refl _)
   ·have e303 := (an (decide_eq_false h298) (decide_eq_false h300))
    have e304 := (ti (ti (ti (an (an (decide_eq_true h297) trivial) (an (an (decide_eq_true h297) trivial) (an (decide_eq_true h297) (ti (an (an (decide_eq_false h298) trivial) (an (an (decide_eq_false h298) trivial) (an (an (decide_eq_false h298) trivial) (an (decide_eq_false h300) (an (decide_eq_false h300) (an e303 (an (decide_eq_false h298) (ti trivial)))))))))))))))
    injection h with h; subst h
    exact fun_ok pm pn Go.Proofs.Try.func58 (r0 := vb false) (ans := [.reg (.n :: []), .reg (nN 5 (.b true :: nN 4 (.skip :: .skip :: .b false :: .b false :: .n :: [])))]) (fr := true) (by kernel_rfl) (an (an (ti trivial) (an e304 trivial)) (ti trivial)) (Wv.refl _)
 ·rcases ifs h with ⟨h305, h⟩ | ⟨h305, h⟩
  ·have e306 := (ti (ti (ti (an (decide_eq_false h297) (an (decide_eq_false h297) (an (decide_eq_false h297) (ti (an (an rf trivial) (an (an rf trivial) (an (an rf trivial) (an (an (decide_eq_true h305) trivial) (an (an (decide_eq_true h305) trivial) (an (an rf (decide_eq_true h305)) (an rf (ti trivial)))))))))))))))
   injection h with h; subst h
   exact fun_ok pm pn Go.Proofs.Try.func58 (r0 := vb (decide (a0 ≤ 90))) (ans := [.reg (.n :: []), .reg (nN 3 (.skip :: .skip :: .b false :: nN 6 (.b true :: .b false :: .n :: [])))]) (fr := true) (by kernel_rfl) (an (an (ti trivial) (an e306 trivial)) (ti trivial)) (Wv.refl _)
  ·have e307 := (ti (ti (ti (an (decide_eq_false h297) (an (decide_eq_false h297) (an (decide_eq_false h297) (ti (an (an rf trivial) (an (an rf trivial) (an (an rf trivial) (an (decide_eq_false h305) (an (decide_eq_false h305) (an (an rf (decide_eq_false h305)) (an rf (ti trivial)))))))))))))))
   injection h with h; subst h
   exact fun_ok pm pn Go.Proofs.Try.func58 (r0 := vb false) (ans := [.reg (.n :: []), .reg arZ1_0]) (fr := true) (by kernel_rfl) (an (an (ti trivial) (an e307 trivial)) (ti trivial)) (Wv.refl _)
def arZ1_1 (z0 : Bool) : List Ans := (.n :: .call (vb z0) :: .n :: .n :: nS 7 (.b false :: .n :: .skip :: .skip :: .b false :: .n :: []))
def arZ1_2 (z0 : Bool) : List Ans := (.n :: .call (vb z0) :: nN 7 (.b true :: .n :: .b true :: .n :: .skip :: .skip :: .b false :: .n :: []))
def arZ1_3 (z0 : Bool) : List Ans := (.n :: .call (vb z0) :: nN 5 (.skip :: .skip :: .b false :: .n :: .b true :: nN 3 (.b true :: .n :: [])))
def ncoat_isForeign (k : Nat) (a0 : Int) : Option Bool :=
  (ncoat_isLetter k a0).bind fun r330 => (if r330 = true then (some false) else (if 48 ≤ a0 then (if a0 ≤ 57 then (some false) else (some (!(decide (a0 = 45))))) else (some (!(decide (a0 = 45))))))
theorem ncoat_isForeign_ok (k : Nat) (a0 : Int) (r : Bool) (h : ncoat_isForeign k a0 = some r) : VC Go.Proofs.Try.prog 60 [VV.c (.int .i32 a0)] (vb r) := by
 unfold ncoat_isForeign at h
 obtain ⟨r330, h331, h⟩ := bs h
 rcases ifs h with ⟨h332, h⟩ | ⟨h332, h⟩
 ·have e333 := (ti (an (ncoat_isLetter_ok k a0 _ h331) (ti (ti (an (not_f h332) (an (not_f h332) (an (not_f h332) (ti (ti (an (not_f h332) (an (not_f h332) (an (not_f h332) (ti (an rf (an rf (an rf (ti trivial)))))))))))))))))
  injection h with h; subst h
  exact fun_ok pm pn Go.Proofs.Try.func60 (r0 := vb false) (ans := [.reg (.n :: []), .reg (arZ1_1 r330)]) (fr := true) (by kernel_rfl) (an (an (ti trivial) (an e333 trivial)) (ti trivial)) (Wv.refl _)
 ·rcases ifs h with ⟨h334, h⟩ | ⟨h334, h⟩
  ·have e335 := (an (not_t (bool_f h332)) (decide_eq_true h334))
   rcases ifs h with ⟨h336, h⟩ | ⟨h336, h⟩
   ·have e337 := (ti (an (ncoat_isLetter_ok k a0 _ h331) (ti (ti (an (an (not_t (bool_f h332)) trivial) (an (an (not_t (bool_f h332)) trivial) (an (an (not_t (bool_f h332)) trivial) (an (an (decide_eq_true h334) trivial) (an (an (decide_eq_true h334) trivial) (an e335 (an (an (not_t (bool_f h332)) trivial) (an (not_t (bool_f h332)) (ti (an (not_f (decide_eq_true h336)) (an (not_f (decide_eq_true h336)) (an (not_f (decide_eq_true h336)) (ti trivial)))))))))))))))))
    injection h with h; subst h
    exact fun_ok pm pn Go.Proofs.Try.func60 (r0 := vb false) (ans := [.reg (.n :: []), .reg (arZ1_2 r330)]) (fr := true) (by kernel_rfl) (an (an (ti trivial) (an e337 trivial)) (ti trivial)) (Wv.refl _)
   ·have e338 := (an (not_t (decide_eq_false h336)) trivial)
    have e339 := (an (not_t (decide_eq_false h336)) trivial)
    have e340 := (ti (an (ncoat_isLetter_ok k a0 _ h331) (ti (ti (an (an (not_t (bool_f h332)) trivial) (an (an (not_t (bool_f h332)) trivial) (an (an (not_t (bool_f h332)) trivial) (an (an (decide_eq_true h334) trivial) (an (an (decide_eq_true h334) trivial) (an e335 (an (an (not_t (bool_f h332)) trivial) (an (not_t (bool_f h332)) (ti (an e338 (an e339 (an (not_t (decide_eq_false h336)) (ti trivial)))))))))))))))))
    injection h with h; subst h
    exact fun_ok pm pn Go.Proofs.Try.func60 (r0 := vb (!(decide (a0 = 45)))) (ans := [.reg (.n :: []), .reg (.n :: .call (vb r330) :: nN 7 (.b true :: .n :: .b true :: nN 3 (.b true :: .n :: [])))]) (fr := true) (by kernel_rfl) (an (an (ti trivial) (an e340 trivial)) (ti trivial)) (Wv.refl _)
  ·have e341 := (an (not_t (bool_f h332)) (decide_eq_false h334))
   have e342 := (an (show (!false) = true from (not_t rfl)) trivial)
   have e343 := (an (show (!false) = true from (not_t rfl)) trivial)
   have e344 := (ti (an (ncoat_isLetter_ok k a0 _ h331) (ti (ti (an (an (not_t (bool_f h332)) trivial) (an (an (not_t (bool_f h332)) trivial) (an (an (not_t (bool_f h332)) trivial) (an (decide_eq_false h334) (an (decide_eq_false h334) (an e341 (an (an (not_t (bool_f h332)) trivial) (an (not_t (bool_f h332)) (ti (an e342 (an e343 (an (show (!false) = true from (not_t rfl)) (ti trivial)))))))))))))))))
   injection h with h; subst h
   exact fun_ok pm pn Go.Proofs.Try.func60 (r0 := vb (!(decide (a0 = 45)))) (ans := [.reg (.n :: []), .reg (arZ1_3 r330)]) (fr := true) (by kernel_rfl) (an (an (ti trivial) (an e344 trivial)) (ti trivial)) (Wv.refl _)
def nstrings_indexFunc_c1_coat_isForeign_l0_0_h (a0 : ByteArray) (a2 : Bool) (b0_1 : Int) : VS := ⟨mkA [(1, VV.fn 60 []), (2, vb a2), (10, VV.it 0)], [some ⟨true, bigX, [vs a0, vi b0_1]⟩], .nil⟩
def nstrings_indexFunc_c1_coat_isForeign_l0_0_e0 (a0 : ByteArray) (a2 : Bool) (r : Int) : VS := ⟨mkA [(6, vi r)], [], .nil⟩
def nstrings_indexFunc_c1_coat_isForeign_l0_0_e1 (a0 : ByteArray) (a2 : Bool) (r : Unit) : VS := ⟨mkA [], [], .nil⟩
def nstrings_indexFunc_c1_coat_isForeign_l0_0 (k : Nat) (a0 : ByteArray) (a2 : Bool) : Nat → Int → Option (Sum Int Unit)
  | 0, _ => none
  | fuel + 1, b0_1 => if b0_1 < (a0.size : Int) then (if 0 ≤ b0_1 then ((ncoat_isForeign k (((Go.Utf8.decode a0 (b0_1).toNat).1 : Nat) : Int)).bind fun r391 => (if (r391 == a2) = true then (some (.inl b0_1)) else (nstrings_indexFunc_c1_coat_isForeign_l0_0 k a0 a2 fuel (b0_1 + (((Go.Utf8.decode a0 (b0_1).toNat).2 : Nat) : Int))))) else none) else (some (.inr ()))
theorem nstrings_indexFunc_c1_coat_isForeign_l0_0_ok (k : Nat) (a0 : ByteArray) (a2 : Bool) : ∀ (fuel : Nat) (b0_1 : Int) (r : Sum Int Unit), nstrings_indexFunc_c1_coat_isForeign_l0_0 k a0 a2 fuel b0_1 = some r → (match r with | .inl r => VLoop none Go.Proofs.Try.prog (szF Go.Proofs.Try.f62) (bodyOf Go.Proofs.Try.f62 0) (nstrings_indexFunc_c1_coat_isForeign_l0_0_h a0 a2 b0_1) .ret (nstrings_indexFunc_c1_coat_isForeign_l0_0_e0 a0 a2 r) | .inr r => VLoop none Go.Proofs.Try.prog (szF Go.Proofs.Try.f62) (bodyOf Go.Proofs.Try.f62 0) (nstrings_indexFunc_c1_coat_isForeign_l0_0_h a0 a2 b0_1) (.exit 0) (nstrings_indexFunc_c1_coat_isForeign_l0_0_e1 a0 a2 r)) := by
 intro fuel
 induction fuel with
 | zero => intro b0_1 r h; rw [nstrings_indexFunc_c1_coat_isForeign_l0_0.eq_1] at h; cases h
 | succ fuel ih =>
  intro b0_1 r h
  rw [nstrings_indexFunc_c1_coat_isForeign_l0_0.eq_2] at h
  rcases ifs h with ⟨h388, h⟩ | ⟨h388, h⟩
  ·obtain ⟨h389, h⟩ := ifn h
   have e390 := (show 0 ≤ b0_1 ∧ b0_1 < (a0.size : Int) from ⟨h389, of_decide_eq_true (decide_eq_true h388)⟩)
   obtain ⟨r391, h392, h⟩ := bs h
   have e393 := (ncoat_isForeign_ok k (((Go.Utf8.decode a0 (b0_1).toNat).1 : Nat) : Int) _ h392)
   rcases ifs h with ⟨h394, h⟩ | ⟨h394, h⟩
   ·injection h with h; subst h
    exact round_stop (c := ⟨[(6, none)], [], []⟩) (s1 := (nstrings_indexFunc_c1_coat_isForeign_l0_0_e0 a0 a2 b0_1)) pm pn (ans := [.reg (.b true :: .n :: []), .br true, .reg (nN 4 []), .reg (.n :: .n :: .call (vb r391) :: .n :: .n :: []), .br true, .reg (.n :: .n :: [])]) (by kernel_rfl) (by intro e; cases e) (an (an (an e390 (ti trivial)) (an (an rt trivial) (an (ti (ti (ti (ti trivial)))) (an (ti (ti (an e393 (ti (ti trivial))))) (an h394 (an (ti (ti trivial)) trivial)))))) (ti trivial))
   ·have h2 := ih _ _ h
    obtain ⟨q, hv, hq⟩ := pkR (rd := none) (P := Go.Proofs.Try.prog) (fn := Go.Proofs.Try.f62) (k := 0) (s := (nstrings_indexFunc_c1_coat_isForeign_l0_0_h a0 a2 b0_1)) (ans := [.reg (.b true :: .n :: []), .br true, .reg (nN 4 []), .reg (.n :: .n :: .call (vb r391) :: .n :: .n :: []), .br false]) (c := ⟨[(1, none), (2, none), (10, none)], [none], []⟩) (e := .normal) (s1 := (nstrings_indexFunc_c1_coat_isForeign_l0_0_h a0 a2 (b0_1 + (((Go.Utf8.decode a0 (b0_1).toNat).2 : Nat) : Int)))) (an (an (an e390 (ti trivial)) (an (an rt trivial) (an (ti (ti (ti (ti trivial)))) (an (ti (ti (an e393 (ti (ti trivial))))) (an (bool_f h394) trivial))))) (ti trivial)) (by kernel_rfl)
    cases r with
    | inl r => exact round_next pm pn hv hq h2
    | inr r =>
     exact round_next pm pn hv hq h2
  ·have e395 := (show (a0.size : Int) ≤ b0_1 from (by have := of_decide_eq_false (decide_eq_false h388); omega))
   injection h with h; subst h
   exact round_stop (c := ⟨[], [], []⟩) (s1 := (nstrings_indexFunc_c1_coat_isForeign_l0_0_e1 a0 a2 ())) pm pn (ans := [.reg (.b false :: .n :: []), .br false]) (by kernel_rfl) (by intro e; cases e) (an (an (an e395 (ti trivial)) (an rf trivial)) (ti trivial))
def nstrings_indexFunc_c1_coat_isForeign (k : Nat) (a0 : ByteArray) (a1 : Unit) (a2 : Bool) : Option Int :=
  (nstrings_indexFunc_c1_coat_isForeign_l0_0 k a0 a2 k 0).bind fun r397 => (match r397 with | .inl r398 => (some r398) | .inr r399 => (some (-1)))
theorem nstrings_indexFunc_c1_coat_isForeign_ok (k : Nat) (a0 : ByteArray) (a1 : Unit) (a2 : Bool) (r : Int) (h : nstrings_indexFunc_c1_coat_isForeign k a0 a1 a2 = some r) : VC Go.Proofs.Try.prog 62 [vs a0, VV.fn 60 [], vb a2] (vi r) := by
 unfold nstrings_indexFunc_c1_coat_isForeign at h
 obtain ⟨r397, h396, h⟩ := bs h
 have hph396 := nstrings_indexFunc_c1_coat_isForeign_l0_0_ok k a0 a2 _ _ _ h396
 cases r397 with
 | inl r398 =>
  dsimp only at h
  have e400 := (an (ti trivial) (VRun.loop hph396))
  injection h with h; subst h
  exact fun_ok pm pn Go.Proofs.Try.func62 (r0 := vi r398) (ans := [.reg (.n :: []), .reg (.n :: .n :: []), .sub ⟨[(1, none), (2, none), (10, none)], [none], []⟩ .ret (nstrings_indexFunc_c1_coat_isForeign_l0_0_e0 a0 a2 r398)]) (fr := true) (by kernel_rfl) (an (an (ti trivial) (an (ti (ti trivial)) e400)) (ti trivial)) (Wv.refl _)
 | inr r399 =>
  dsimp only at h
  have e401 := (an (ti trivial) (VRun.loop hph396))
  injection h with h; subst h
  exact fun_ok pm pn Go.Proofs.Try.func62 (r0 := vi (-1)) (ans := [.reg (.n :: []), .reg (.n :: .n :: []), .sub ⟨[(1, none), (2, none), (10, none)], [none], []⟩ (.exit 0) (nstrings_indexFunc_c1_coat_isForeign_l0_0_e1 a0 a2 r399), .reg (.n :: [])]) (fr := true) (by kernel_rfl) (an (an (ti trivial) (an (an (ti (ti trivial)) e401) (an (ti trivial) trivial))) (ti trivial)) (Wv.refl _)
def nstrings_IndexFunc_c1_coat_isForeign (k : Nat) (a0 : ByteArray) (a1 : Unit) : Option Int :=
  (nstrings_indexFunc_c1_coat_isForeign k a0 a1 true).bind fun r405 => (some r405)
theorem nstrings_IndexFunc_c1_coat_isForeign_ok (k : Nat) (a0 : ByteArray) (a1 : Unit) (r : Int) (h : nstrings_IndexFunc_c1_coat_isForeign k a0 a1 = some r) : VC Go.Proofs.Try.prog 61 [vs a0, VV.fn 60 []] (vi r) := by
 unfold nstrings_IndexFunc_c1_coat_isForeign at h
 obtain ⟨r405, h406, h⟩ := bs h
 have e407 := (nstrings_indexFunc_c1_coat_isForeign_ok k a0 a1 true _ h406)
 injection h with h; subst h
 exact fun_ok pm pn Go.Proofs.Try.func61 (r0 := vi r405) (ans := [.reg (.n :: []), .reg (.n :: .n :: .call (vi r405) :: .n :: [])]) (fr := true) (by kernel_rfl) (an (an (ti trivial) (an (ti (ti (an e407 (ti trivial)))) trivial)) (ti trivial)) (Wv.refl _)
def nstrings_ContainsFunc_c1_coat_isForeign (k : Nat) (a0 : ByteArray) (a1 : Unit) : Option Bool :=
  (nstrings_IndexFunc_c1_coat_isForeign k a0 a1).bind fun r411 => (some (decide (0 ≤ r411)))
theorem nstrings_ContainsFunc_c1_coat_isForeign_ok (k : Nat) (a0 : ByteArray) (a1 : Unit) (r : Bool) (h : nstrings_ContainsFunc_c1_coat_isForeign k a0 a1 = some r) : VC Go.Proofs.Try.prog 59 [vs a0, VV.fn 60 []] (vb r) := by
 unfold nstrings_ContainsFunc_c1_coat_isForeign at h
 obtain ⟨r411, h412, h⟩ := bs h
 have e413 := (nstrings_IndexFunc_c1_coat_isForeign_ok k a0 a1 _ h412)
 injection h with h; subst h
 exact fun_ok pm pn Go.Proofs.Try.func59 (r0 := vb (decide (0 ≤ r411))) (ans := [.reg (.n :: []), .reg (.n :: .n :: .call (vi r411) :: .n :: .n :: [])]) (fr := true) (by kernel_rfl) (an (an (ti trivial) (an (ti (ti (an e413 (ti (ti trivial))))) trivial)) (ti trivial)) (Wv.refl _)
def arZ1_4 (z0 : Bool) (z1 : Bool) (z2 : Bool) : List Ans := (.n :: .n :: .v VV.any :: .call (vb z0) :: nN 4 (.call (vb z1) :: .b true :: .n :: .n :: .call (vb z2) :: .n :: .b true :: .n :: []))
def arZ1_5 (z0 : Bool) (z1 : Bool) : List Ans := (.n :: .n :: .v VV.any :: .call (vb z0) :: nN 4 (.call (vb z1) :: .b true :: .n :: nS 3 (.b false :: .n :: [])))
def arZ1_6 (z0 : Bool) : List Ans := (.n :: .n :: .v VV.any :: .call (vb z0) :: .n :: nS 4 (.b false :: .n :: nS 3 (.b false :: .n :: [])))
def ncoat_isName (k : Nat) (a0 : ByteArray) : Option Bool :=
  (ncoat_areWithin k 1 12 ([(a0.size : Int)] : List Int)).bind fun r420 => (if r420 = true then (if (0 : Int) ≤ 0 ∧ 0 < (a0.size : Int) then ((ncoat_isLetter k (IntKind.i32.wrap (bat a0 0))).bind fun r425 => (if r425 = true then ((nstrings_ContainsFunc_c1_coat_isForeign k a0 ()).bind fun r429 => (some (!r429))) else (some false))) else none) else (some false))
theorem ncoat_isName_ok (k : Nat) (a0 : ByteArray) (r : Bool) (h : ncoat_isName k a0 = some r) : VC Go.Proofs.Try.prog 56 [vs a0] (vb r) := by
 unfold ncoat_isName at h
 obtain ⟨r420, h421, h⟩ := bs h
 have e422 := (VC.args (ncoat_areWithin_ok k 1 12 ([(a0.size : Int)] : List Int) _ h421) (eqZ1_1 a0))
 rcases ifs h with ⟨h423, h⟩ | ⟨h423, h⟩
 ·obtain ⟨h424, h⟩ := ifn h
  obtain ⟨r425, h426, h⟩ := bs h
  have e427 := (an h423 (ncoat_isLetter_ok k (IntKind.i32.wrap (bat a0 0)) _ h426))
  rcases ifs h with ⟨h428, h⟩ | ⟨h428, h⟩
  ·obtain ⟨r429, h430, h⟩ := bs h
   have e431 := (an h428 (nstrings_ContainsFunc_c1_coat_isForeign_ok k a0 () _ h430))
   have e432 := (ti (ti (ti (an e422 (ti (an (an h423 trivial) (an (an h423 h424) (an (an h423 trivial) (an e427 (an h423 (ti (an (an h428 trivial) (an e431 (an (an h428 trivial) (an h428 (ti trivial))))))))))))))))
   injection h with h; subst h
   exact fun_ok pm pn Go.Proofs.Try.func56 (r0 := vb (!r429)) (ans := [.reg (.n :: []), .reg (arZ1_4 r420 r425 r429)]) (fr := true) (by kernel_rfl) (an (an (ti trivial) (an e432 trivial)) (ti trivial)) (Wv.refl _)
  ·have e433 := (ti (ti (ti (an e422 (ti (an (an h423 trivial) (an (an h423 h424) (an (an h423 trivial) (an e427 (an h423 (ti (an (bool_f h428) (an (bool_f h428) (an (bool_f h428) (an (bool_f h428) (ti trivial))))))))))))))))
   injection h with h; subst h
   exact fun_ok pm pn Go.Proofs.Try.func56 (r0 := vb false) (ans := [.reg (.n :: []), .reg (arZ1_5 r420 r425)]) (fr := true) (by kernel_rfl) (an (an (ti trivial) (an e433 trivial)) (ti trivial)) (Wv.refl _)
 ·have e434 := (ti (ti (ti (an e422 (ti (an (bool_f h423) (an (bool_f h423) (an (bool_f h423) (an (bool_f h423) (an (bool_f h423) (ti (an rf (an rf (an rf (an rf (ti trivial))))))))))))))))
  injection h with h; subst h
  exact fun_ok pm pn Go.Proofs.Try.func56 (r0 := vb false) (ans := [.reg (.n :: []), .reg (arZ1_6 r420)]) (fr := true) (by kernel_rfl) (an (an (ti trivial) (an e434 trivial)) (ti trivial)) (Wv.refl _)
theorem eqZ1_2 (z0 : Int) : [vi 0, vi 100000, VV.tr (List.map vi ([z0] : List Int)) (([z0] : List Int).length)] = [vi 0, vi 100000, VV.tr [vi z0] 1] := by first | rfl | (simp only [unfr_vi, List.map_cons, List.map_nil, un_i, un_tr, List.length_map, List.length_cons, List.length_nil]; done) | (simp only [unfr_vi, List.map_cons, List.map_nil, un_i, un_tr, List.length_map, List.length_cons, List.length_nil]; rfl) | (simp only [unfr_vi, List.map_cons, List.map_nil, un_i, un_tr, List.length_map, List.length_cons, List.length_nil, List.length_cons, List.length_nil, List.length_append]; done)
def ncoat_checkDay (k : Nat) (a0 : Int) : Option Int :=
  (ncoat_areWithin k 0 100000 ([a0] : List Int)).bind fun r443 => (if r443 = true then (some 0) else (some 2))
theorem ncoat_checkDay_ok (k : Nat) (a0 : Int) (r : Int) (h : ncoat_checkDay k a0 = some r) : VC Go.Proofs.Try.prog 30 [vi a0] (vi r) := by
 unfold ncoat_checkDay at h
 obtain ⟨r443, h444, h⟩ := bs h
 have e445 := (VC.args (ncoat_areWithin_ok k 0 100000 ([a0] : List Int) _ h444) (eqZ1_2 a0))
 rcases ifs h with ⟨h446, h⟩ | ⟨h446, h⟩
 ·injection h with h; subst h
  exact fun_ok pm pn Go.Proofs.Try.func30 (r0 := vi 0) (ans := [.reg (.n :: []), .reg (.n :: .v VV.any :: .call (vb r443) :: .n :: []), .br false, .reg (.n :: [])]) (fr := true) (by kernel_rfl) (an (an (ti trivial) (an (an (ti (ti (an e445 (ti trivial)))) (an (not_f h446) trivial)) (an (ti trivial) trivial))) (ti trivial)) (Wv.refl _)
 ·injection h with h; subst h
  exact fun_ok pm pn Go.Proofs.Try.func30 (r0 := vi 2) (ans := [.reg (.n :: []), .reg (.n :: .v VV.any :: .call (vb r443) :: .n :: []), .br true, .reg (.n :: [])]) (fr := true) (by kernel_rfl) (an (an (ti trivial) (an (ti (ti (an e445 (ti trivial)))) (an (not_t (bool_f h446)) (an (ti trivial) trivial)))) (ti trivial)) (Wv.refl _)
theorem eqZ1_3 (z0 : SCoatEvent) : [vi 0, vi 2, VV.tr (List.map vi ([z0.Kind] : List Int)) (([z0.Kind] : List Int).length)] = [vi 0, vi 2, VV.tr [vi z0.Kind] 1] := by first | rfl | (simp only [unfr_vi, List.map_cons, List.map_nil, un_i, un_tr, List.length_map, List.length_cons, List.length_nil]; done) | (simp only [unfr_vi, List.map_cons, List.map_nil, un_i, un_tr, List.length_map, List.length_cons, List.length_nil]; rfl) | (simp only [unfr_vi, List.map_cons, List.map_nil, un_i, un_tr, List.length_map, List.length_cons, List.length_nil, List.length_cons, List.length_nil, List.length_append]; done)
def ncoat_checkAlone (k : Nat) (a0 : SCoatEvent) : Option Int :=
  (ncoat_isName k a0.Mirror).bind fun r455 => (if r455 = true then ((ncoat_checkDay k a0.Day).bind fun r459 => (if r459 = 0 then ((ncoat_areWithin k 0 2 ([a0.Kind] : List Int)).bind fun r463 => (if r463 = true then (some 0) else (some 15))) else (some r459))) else (some 4))
theorem ncoat_checkAlone_ok (k : Nat) (a0 : SCoatEvent) (r : Int) (h : ncoat_checkAlone k a0 = some r) : VC Go.Proofs.Try.prog 49 [VV.ag (c_SCoatEvent a0)] (vi r) := by
 unfold ncoat_checkAlone at h
 obtain ⟨r455, h456, h⟩ := bs h
 have e457 := (ti (ti (an (ncoat_isName_ok k a0.Mirror _ h456) (ti trivial))))
 rcases ifs h with ⟨h458, h⟩ | ⟨h458, h⟩
 ·obtain ⟨r459, h460, h⟩ := bs h
  have e461 := (ti (ti (an (ncoat_checkDay_ok k a0.Day _ h460) (ti trivial))))
  rcases ifs h with ⟨h462, h⟩ | ⟨h462, h⟩
  ·obtain ⟨r463, h464, h⟩ := bs h
   have e465 := (VC.args (ncoat_areWithin_ok k 0 2 ([a0.Kind] : List Int) _ h464) (eqZ1_3 a0))
   rcases ifs h with ⟨h466, h⟩ | ⟨h466, h⟩
   ·injection h with h; subst h
    exact fun_ok pm pn Go.Proofs.Try.func49 (r0 := vi 0) (ans := [.reg (.n :: .n :: []), .reg (.n :: .n :: .call (vb r455) :: .n :: []), .br false, .reg (.n :: .n :: .call (vi r459) :: .n :: []), .reg (.n :: .n :: []), .br false, .reg (.n :: .n :: .v VV.any :: .call (vb r463) :: .n :: []), .br false, .reg (.n :: [])]) (fr := true) (by kernel_rfl) (an (an (ti (ti trivial)) (an (an e457 (an (not_f h458) trivial)) (an (an e461 (an (ti (ti trivial)) (an (not_f (decide_eq_true h462)) trivial))) (an (an (ti (ti (ti (an e465 (ti trivial))))) (an (not_f h466) trivial)) (an (ti trivial) trivial))))) (ti trivial)) (Wv.refl _)
   ·injection h with h; subst h
    exact fun_ok pm pn Go.Proofs.Try.func49 (r0 := vi 15) (ans := [.reg (.n :: .n :: []), .reg (.n :: .n :: .call (vb r455) :: .n :: []), .br false, .reg (.n :: .n :: .call (vi r459) :: .n :: []), .reg (.n :: .n :: []), .br false, .reg (.n :: .n :: .v VV.any :: .call (vb r463) :: .n :: []), .br true, .reg (.n :: [])]) (fr := true) (by kernel_rfl) (an (an (ti (ti trivial)) (an (an e457 (an (not_f h458) trivial)) (an (an e461 (an (ti (ti trivial)) (an (not_f (decide_eq_true h462)) trivial))) (an (ti (ti (ti (an e465 (ti trivial))))) (an (not_t (bool_f h466)) (an (ti trivial) trivial)))))) (ti trivial)) (Wv.refl _)
  ·injection h with h; subst h
   exact fun_ok pm pn Go.Proofs.Try.func49 (r0 := vi r459) (ans := [.reg (.n :: .n :: []), .reg (.n :: .n :: .call (vb r455) :: .n :: []), .br false, .reg (.n :: .n :: .call (vi r459) :: .n :: []), .reg (.n :: .n :: []), .br true, .reg (.n :: .n :: [])]) (fr := true) (by kernel_rfl) (an (an (ti (ti trivial)) (an (an e457 (an (not_f h458) trivial)) (an e461 (an (ti (ti trivial)) (an (not_t (decide_eq_false h462)) (an (ti (ti trivial)) trivial)))))) (ti trivial)) (Wv.refl _)
 ·injection h with h; subst h
  exact fun_ok pm pn Go.Proofs.Try.func49 (r0 := vi 4) (ans := [.reg (.n :: .n :: []), .reg (.n :: .n :: .call (vb r455) :: .n :: []), .br true, .reg (.n :: [])]) (fr := true) (by kernel_rfl) (an (an (ti (ti trivial)) (an e457 (an (not_t (bool_f h458)) (an (ti trivial) trivial)))) (ti trivial)) (Wv.refl _)
def n_coat_film_left (k : Nat) (a0 : Sfilm) : Option Int :=
  if a0.isOn = true then (some (w64 (a0.Aging.Washes - a0.washed))) else (some (-1))
theorem n_coat_film_left_ok (k : Nat) (a0 : Sfilm) (r : Int) (h : n_coat_film_left k a0 = some r) : VC Go.Proofs.Try.prog 57 [VV.ag (c_Sfilm a0)] (vi r) := by
 unfold n_coat_film_left at h
 rcases ifs h with ⟨h482, h⟩ | ⟨h482, h⟩
 ·injection h with h; subst h
  exact fun_ok pm pn Go.Proofs.Try.func57 (r0 := vi (w64 (a0.Aging.Washes - a0.washed))) (ans := [.reg (.n :: .n :: []), .reg (nN 3 []), .br false, .reg (nN 7 [])]) (fr := true) (by kernel_rfl) (an (an (ti (ti trivial)) (an (an (ti (ti (ti trivial))) (an (not_f h482) trivial)) (an (ti (ti (ti (ti (ti (ti (ti trivial))))))) trivial))) (ti trivial)) (Wv.refl _)
 ·injection h with h; subst h
  exact fun_ok pm pn Go.Proofs.Try.func57 (r0 := vi (-1)) (ans := [.reg (.n :: .n :: []), .reg (nN 3 []), .br true, .reg (.n :: [])]) (fr := true) (by kernel_rfl) (an (an (ti (ti trivial)) (an (ti (ti (ti trivial))) (an (not_t (bool_f h482)) (an (ti trivial) trivial)))) (ti trivial)) (Wv.refl _)
def n_coat_film_refusal (k : Nat) (a0 : Sfilm) (a1 : Int) : Option Int :=
  if ((decide (a1 = 0)) == a0.isOn) = true then (some 24) else (if a1 = 1 then ((n_coat_film_left k a0).bind fun r491 => (if r491 = 0 then (some 16) else (some 0))) else (some 0))
theorem n_coat_film_refusal_ok (k : Nat) (a0 : Sfilm) (a1 : Int) (r : Int) (h : n_coat_film_refusal k a0 a1 = some r) : VC Go.Proofs.Try.prog 50 [VV.ag (c_Sfilm a0), vi a1] (vi r) := by
 unfold n_coat_film_refusal at h
 rcases ifs h with ⟨h489, h⟩ | ⟨h489, h⟩
 ·injection h with h; subst h
  exact fun_ok pm pn Go.Proofs.Try.func50 (r0 := vi 24) (ans := [.reg (.n :: .n :: []), .reg (nN 3 []), .reg (nN 5 []), .br true, .reg (.n :: [])]) (fr := true) (by kernel_rfl) (an (an (ti (ti trivial)) (an (ti (ti (ti trivial))) (an (ti (ti (ti (ti (ti trivial))))) (an h489 (an (ti trivial) trivial))))) (ti trivial)) (Wv.refl _)
 ·rcases ifs h with ⟨h490, h⟩ | ⟨h490, h⟩
  ·obtain ⟨r491, h492, h⟩ := bs h
   have e493 := (an (decide_eq_true h490) (n_coat_film_left_ok k a0 _ h492))
   have e494 := (ti (ti (ti (an (an (decide_eq_true h490) trivial) (an e493 (an (an (decide_eq_true h490) trivial) (an (decide_eq_true h490) (ti trivial))))))))
   rcases ifs h with ⟨h495, h⟩ | ⟨h495, h⟩
   ·injection h with h; subst h
    exact fun_ok pm pn Go.Proofs.Try.func50 (r0 := vi 16) (ans := [.reg (.n :: .n :: []), .reg (nN 3 []), .reg (nN 5 []), .br false, .reg (nN 4 (.call (vi r491) :: .n :: .b true :: .n :: [])), .br true, .reg (.n :: [])]) (fr := true) (by kernel_rfl) (an (an (ti (ti trivial)) (an (ti (ti (ti trivial))) (an (ti (ti (ti (ti (ti trivial))))) (an (bool_f h489) (an e494 (an (decide_eq_true h495) (an (ti trivial) trivial))))))) (ti trivial)) (Wv.refl _)
   ·injection h with h; subst h
    exact fun_ok pm pn Go.Proofs.Try.func50 (r0 := vi 0) (ans := [.reg (.n :: .n :: []), .reg (nN 3 []), .reg (nN 5 []), .br false, .reg (nN 4 (.call (vi r491) :: .n :: .b true :: .n :: [])), .br false, .reg (.n :: [])]) (fr := true) (by kernel_rfl) (an (an (ti (ti trivial)) (an (ti (ti (ti trivial))) (an (an (ti (ti (ti (ti (ti trivial))))) (an (bool_f h489) (an e494 (an (decide_eq_false h495) trivial)))) (an (ti trivial) trivial)))) (ti trivial)) (Wv.refl _)
  ·have e496 := (ti (ti (ti (an (decide_eq_false h490) (an (decide_eq_false h490) (an (decide_eq_false h490) (an (decide_eq_false h490) (ti trivial))))))))
   injection h with h; subst h
   exact fun_ok pm pn Go.Proofs.Try.func50 (r0 := vi 0) (ans := [.reg (.n :: .n :: []), .reg (nN 3 []), .reg (nN 5 []), .br false, .reg (nN 3 (nS 3 (.b false :: .n :: []))), .br false, .reg (.n :: [])]) (fr := true) (by kernel_rfl) (an (an (ti (ti trivial)) (an (ti (ti (ti trivial))) (an (an (ti (ti (ti (ti (ti trivial))))) (an (bool_f h489) (an e496 (an rf trivial)))) (an (ti trivial) trivial)))) (ti trivial)) (Wv.refl _)
def arZ1_7 (z0 : (List SCoatEvent)) : List Ans := (.n :: .n :: .v (VV.ag (c_SCoatEvent (z0.getD ((0 : Int)).toNat default))) :: nN 5 (.v (VV.ag (c_SCoatEvent (z0.getD (w64 ((z0.length : Int) - 1)).toNat default))) :: nN 4 []))
def ncoat_checkBehind (k : Nat) (a0 : (List SCoatEvent)) (a1 : Sfilm) (a2 : SCoatEvent) : Option Int :=
  (ncoat_checkAlone k a2).bind fun r503 => (if r503 = 0 then (if 0 < (a0.length : Int) then (if (0 : Int) ≤ 0 ∧ 0 < (a0.length : Int) then (if 0 ≤ w64 ((a0.length : Int) - 1) ∧ w64 ((a0.length : Int) - 1) < (a0.length : Int) then (if a2.Mirror = ((a0.getD ((0 : Int)).toNat default).Mirror) then (if a2.Day < ((a0.getD (w64 ((a0.length : Int) - 1)).toNat default).Day) then (some 9) else ((n_coat_film_refusal k a1 a2.Kind).bind fun r515 => (some r515))) else (some 13)) else none) else none) else ((n_coat_film_refusal k a1 a2.Kind).bind fun r518 => (some r518))) else (some r503))
theorem ncoat_checkBehind_ok (k : Nat) (a0 : (List SCoatEvent)) (a1 : Sfilm) (a2 : SCoatEvent) (r : Int) (h : ncoat_checkBehind k a0 a1 a2 = some r) : VC Go.Proofs.Try.prog 41 [VV.tr (List.flatMap c_SCoatEvent a0) a0.length, VV.ag (c_Sfilm a1), VV.ag (c_SCoatEvent a2)] (vi r) := by
 unfold ncoat_checkBehind at h
 obtain ⟨r503, h504, h⟩ := bs h
 have e505 := (ti (an (ncoat_checkAlone_ok k a2 _ h504) (ti trivial)))
 rcases ifs h with ⟨h506, h⟩ | ⟨h506, h⟩
 ·rcases ifs h with ⟨h507, h⟩ | ⟨h507, h⟩
  ·obtain ⟨h508, h⟩ := ifn h
   have e509 := (show loadL Go.Proofs.Try.prog 38 (((0 : Int)).toNat * 3) (List.flatMap c_SCoatEvent a0) = some (VV.ag (c_SCoatEvent (a0.getD ((0 : Int)).toNat default))) from ld_whole ag38 c_SCoatEvent 3 sz38 len_c_SCoatEvent a0 default h508 (by omega))
   obtain ⟨h510, h⟩ := ifn h
   have e511 := (show loadL Go.Proofs.Try.prog 38 ((w64 ((a0.length : Int) - 1)).toNat * 3) (List.flatMap c_SCoatEvent a0) = some (VV.ag (c_SCoatEvent (a0.getD (w64 ((a0.length : Int) - 1)).toNat default))) from ld_whole ag38 c_SCoatEvent 3 sz38 len_c_SCoatEvent a0 default h510 (by omega))
   have e512 := (ti (an h508 (an e509 (ti (ti (ti (ti (an h510 (an e511 (ti (ti (ti (ti trivial)))))))))))))
   rcases ifs h with ⟨h513, h⟩ | ⟨h513, h⟩
   ·rcases ifs h with ⟨h514, h⟩ | ⟨h514, h⟩
    ·injection h with h; subst h
     exact fun_ok pm pn Go.Proofs.Try.func41 (r0 := vi 9) (ans := [.reg (nN 3 []), .reg (.n :: .call (vi r503) :: .n :: []), .reg (.n :: .n :: []), .br false, .reg (nN 3 []), .br true, .reg (arZ1_7 a0), .reg (nN 6 []), .br false, .reg (nN 6 []), .br true, .reg (.n :: [])]) (fr := true) (by kernel_rfl) (an (an (ti (ti (ti trivial))) (an (an e505 (an (ti (ti trivial)) (an (not_f (decide_eq_true h506)) trivial))) (an (ti (ti (ti trivial))) (an (decide_eq_true h507) (an e512 (an (ti (ti (ti (ti (ti (ti trivial)))))) (an (not_f (decide_eq_true h513)) (an (ti (ti (ti (ti (ti (ti trivial)))))) (an (decide_eq_true h514) (an (ti trivial) trivial)))))))))) (ti trivial)) (Wv.refl _)
    ·obtain ⟨r515, h516, h⟩ := bs h
     have e517 := (n_coat_film_refusal_ok k a1 a2.Kind _ h516)
     injection h with h; subst h
     exact fun_ok pm pn Go.Proofs.Try.func41 (r0 := vi r515) (ans := [.reg (nN 3 []), .reg (.n :: .call (vi r503) :: .n :: []), .reg (.n :: .n :: []), .br false, .reg (nN 3 []), .br true, .reg (arZ1_7 a0), .reg (nN 6 []), .br false, .reg (nN 6 []), .br false, .reg (nN 3 (.call (vi r515) :: .n :: []))]) (fr := true) (by kernel_rfl) (an (an (ti (ti (ti trivial))) (an (an e505 (an (ti (ti trivial)) (an (not_f (decide_eq_true h506)) trivial))) (an (an (ti (ti (ti trivial))) (an (decide_eq_true h507) (an e512 (an (ti (ti (ti (ti (ti (ti trivial)))))) (an (not_f (decide_eq_true h513)) (an (ti (ti (ti (ti (ti (ti trivial)))))) (an (decide_eq_false h514) trivial))))))) (an (ti (ti (ti (an e517 (ti trivial))))) trivial)))) (ti trivial)) (Wv.refl _)
   ·injection h with h; subst h
    exact fun_ok pm pn Go.Proofs.Try.func41 (r0 := vi 13) (ans := [.reg (nN 3 []), .reg (.n :: .call (vi r503) :: .n :: []), .reg (.n :: .n :: []), .br false, .reg (nN 3 []), .br true, .reg (arZ1_7 a0), .reg (nN 6 []), .br true, .reg (.n :: [])]) (fr := true) (by kernel_rfl) (an (an (ti (ti (ti trivial))) (an (an e505 (an (ti (ti trivial)) (an (not_f (decide_eq_true h506)) trivial))) (an (ti (ti (ti trivial))) (an (decide_eq_true h507) (an e512 (an (ti (ti (ti (ti (ti (ti trivial)))))) (an (not_t (decide_eq_false h513)) (an (ti trivial) trivial)))))))) (ti trivial)) (Wv.refl _)
  ·obtain ⟨r518, h519, h⟩ := bs h
   have e520 := (n_coat_film_refusal_ok k a1 a2.Kind _ h519)
   injection h with h; subst h
   exact fun_ok pm pn Go.Proofs.Try.func41 (r0 := vi r518) (ans := [.reg (nN 3 []), .reg (.n :: .call (vi r503) :: .n :: []), .reg (.n :: .n :: []), .br false, .reg (nN 3 []), .br false, .reg (nN 3 (.call (vi r518) :: .n :: []))]) (fr := true) (by kernel_rfl) (an (an (ti (ti (ti trivial))) (an (an e505 (an (ti (ti trivial)) (an (not_f (decide_eq_true h506)) trivial))) (an (an (ti (ti (ti trivial))) (an (decide_eq_false h507) trivial)) (an (ti (ti (ti (an e520 (ti trivial))))) trivial)))) (ti trivial)) (Wv.refl _)
 ·injection h with h; subst h
  exact fun_ok pm pn Go.Proofs.Try.func41 (r0 := vi r503) (ans := [.reg (nN 3 []), .reg (.n :: .call (vi r503) :: .n :: []), .reg (.n :: .n :: []), .br true, .reg (.n :: .n :: [])]) (fr := true) (by kernel_rfl) (an (an (ti (ti (ti trivial))) (an e505 (an (ti (ti trivial)) (an (not_t (decide_eq_false h506)) (an (ti (ti trivial)) trivial))))) (ti trivial)) (Wv.refl _)
theorem eqZ1_4 (z0 : (List SCoatEvent)) (z1 : SAging) : [VV.tr (List.flatMap c_SCoatEvent (sl z0 0 (((0 : Int)).toNat))) ((sl z0 0 (((0 : Int)).toNat)).length), VV.ag [vi ((((⟨z1, false, 0, 0, (⟨0, 0⟩ : SRange)⟩ : Sfilm).Aging).Fresh).Lo), vi ((((⟨z1, false, 0, 0, (⟨0, 0⟩ : SRange)⟩ : Sfilm).Aging).Fresh).Hi), vi ((((⟨z1, false, 0, 0, (⟨0, 0⟩ : SRange)⟩ : Sfilm).Aging).Loss).Lo), vi ((((⟨z1, false, 0, 0, (⟨0, 0⟩ : SRange)⟩ : Sfilm).Aging).Loss).Hi), vi ((((⟨z1, false, 0, 0, (⟨0, 0⟩ : SRange)⟩ : Sfilm).Aging).Back).Lo), vi ((((⟨z1, false, 0, 0, (⟨0, 0⟩ : SRange)⟩ : Sfilm).Aging).Back).Hi), vi (((⟨z1, false, 0, 0, (⟨0, 0⟩ : SRange)⟩ : Sfilm).Aging).Washes), vb ((⟨z1, false, 0, 0, (⟨0, 0⟩ : SRange)⟩ : Sfilm).isOn), vi ((⟨z1, false, 0, 0, (⟨0, 0⟩ : SRange)⟩ : Sfilm).washed), vi ((⟨z1, false, 0, 0, (⟨0, 0⟩ : SRange)⟩ : Sfilm).since), vi (((⟨z1, false, 0, 0, (⟨0, 0⟩ : SRange)⟩ : Sfilm).bright).Lo), vi (((⟨z1, false, 0, 0, (⟨0, 0⟩ : SRange)⟩ : Sfilm).bright).Hi)], VV.ag (c_SCoatEvent (z0.getD ((0 : Int)).toNat default))] = [VV.tr (List.flatMap c_SCoatEvent (sl z0 0 (((0 : Int)).toNat))) ((sl z0 0 (((0 : Int)).toNat)).length), VV.ag [vi z1.Fresh.Lo, vi z1.Fresh.Hi, vi z1.Loss.Lo, vi z1.Loss.Hi, vi z1.Back.Lo, vi z1.Back.Hi, vi z1.Washes, vb false, vi 0, vi 0, vi 0, vi 0], VV.ag (c_SCoatEvent (z0.getD ((0 : Int)).toNat default))] := by first | rfl | (simp only [unfr_vi, unfr_vb, List.map_cons, List.map_nil, un_i, un_b, un_tr, List.length_cons, List.length_nil, unfr_c_SCoatEvent]; done) | (simp only [unfr_vi, unfr_vb, List.map_cons, List.map_nil, un_i, un_b, un_tr, List.length_cons, List.length_nil, unfr_c_SCoatEvent]; rfl) | (simp only [unfr_vi, unfr_vb, List.map_cons, List.map_nil, un_i, un_b, un_tr, List.length_cons, List.length_nil, unfr_c_SCoatEvent, c_SCoatEvent, List.length_cons, List.length_nil, List.length_append]; done)
theorem eqZ1_5 (z0 : Sfilm) (z1 : Int) : VV.ag [vi z0.Aging.Fresh.Lo, vi z0.Aging.Fresh.Hi, vi z0.Aging.Loss.Lo, vi z0.Aging.Loss.Hi, vi z0.Aging.Back.Lo, vi z0.Aging.Back.Hi, vi z0.Aging.Washes, vb true, vi 0, vi z1, vi z0.Aging.Fresh.Lo, vi z0.Aging.Fresh.Hi] = VV.ag [vi ((((⟨z0.Aging, true, 0, z1, z0.Aging.Fresh⟩ : Sfilm).Aging).Fresh).Lo), vi ((((⟨z0.Aging, true, 0, z1, z0.Aging.Fresh⟩ : Sfilm).Aging).Fresh).Hi), vi ((((⟨z0.Aging, true, 0, z1, z0.Aging.Fresh⟩ : Sfilm).Aging).Loss).Lo), vi ((((⟨z0.Aging, true, 0, z1, z0.Aging.Fresh⟩ : Sfilm).Aging).Loss).Hi), vi ((((⟨z0.Aging, true, 0, z1, z0.Aging.Fresh⟩ : Sfilm).Aging).Back).Lo), vi ((((⟨z0.Aging, true, 0, z1, z0.Aging.Fresh⟩ : Sfilm).Aging).Back).Hi), vi (((⟨z0.Aging, true, 0, z1, z0.Aging.Fresh⟩ : Sfilm).Aging).Washes), vb ((⟨z0.Aging, true, 0, z1, z0.Aging.Fresh⟩ : Sfilm).isOn), vi ((⟨z0.Aging, true, 0, z1, z0.Aging.Fresh⟩ : Sfilm).washed), vi ((⟨z0.Aging, true, 0, z1, z0.Aging.Fresh⟩ : Sfilm).since), vi (((⟨z0.Aging, true, 0, z1, z0.Aging.Fresh⟩ : Sfilm).bright).Lo), vi (((⟨z0.Aging, true, 0, z1, z0.Aging.Fresh⟩ : Sfilm).bright).Hi)] := by first | rfl | (simp only [unfr_vi, unfr_vb, List.map_cons, List.map_nil, un_i, un_b]; done) | (simp only [unfr_vi, unfr_vb, List.map_cons, List.map_nil, un_i, un_b]; rfl) | (simp only [unfr_vi, unfr_vb, List.map_cons, List.map_nil, un_i, un_b, List.length_cons, List.length_nil, List.length_append]; done)
def n_coat_film_put (k : Nat) (a0 : Sfilm) (a1 : Int) : Option Sfilm :=
  some (⟨a0.Aging, true, 0, a1, a0.Aging.Fresh⟩ : Sfilm)
theorem n_coat_film_put_ok (k : Nat) (a0 : Sfilm) (a1 : Int) (r : Sfilm) (h : n_coat_film_put k a0 a1 = some r) : VC Go.Proofs.Try.prog 51 [VV.ag (c_Sfilm a0), vi a1] (VV.ag (c_Sfilm r)) := by
 unfold n_coat_film_put at h
 injection h with h; subst h
 exact fun_ok pm pn Go.Proofs.Try.func51 (r0 := VV.ag [vi a0.Aging.Fresh.Lo, vi a0.Aging.Fresh.Hi, vi a0.Aging.Loss.Lo, vi a0.Aging.Loss.Hi, vi a0.Aging.Back.Lo, vi a0.Aging.Back.Hi, vi a0.Aging.Washes, vb true, vi 0, vi a1, vi a0.Aging.Fresh.Lo, vi a0.Aging.Fresh.Hi]) (ans := [.reg (.n :: .n :: []), .reg (nN 8 [])]) (fr := true) (by kernel_rfl) (an (an (ti (ti trivial)) (an (ti (ti (ti (ti (ti (ti (ti (ti trivial)))))))) trivial)) (an (ti (ti (ti (ti (ti (ti (ti (ti (ti (ti (ti (ti (ti trivial))))))))))))) trivial)) (Wv.of_eq (eqZ1_5 a0 a1))
def ncoat_up (k : Nat) (a0 : Int) (a1 : Int) : Option Int :=
  if a1 ≠ 0 then (some (w64 ((w64 ((w64 (a0 + a1)) - 1)).tdiv a1))) else none
theorem ncoat_up_ok (k : Nat) (a0 : Int) (a1 : Int) (r : Int) (h : ncoat_up k a0 a1 = some r) : VC Go.Proofs.Try.prog 44 [vi a0, vi a1] (vi r) := by
 unfold ncoat_up at h
 obtain ⟨h533, h⟩ := ifn h
 injection h with h; subst h
 exact fun_ok pm pn Go.Proofs.Try.func44 (r0 := vi (w64 ((w64 ((w64 (a0 + a1)) - 1)).tdiv a1))) (ans := [.reg (.n :: []), .reg (nN 7 [])]) (fr := true) (by kernel_rfl) (an (an (ti trivial) (an (ti (ti (ti (ti (ti (an h533 (ti trivial))))))) trivial)) (ti trivial)) (Wv.refl _)
theorem eqZ1_6 (z0 : Int) (z1 : Int) (z2 : Int) : VV.ag [vi (w64 (z0.tdiv z1)), vi z2] = VV.ag (c_SRange (⟨w64 (z0.tdiv z1), z2⟩ : SRange)) := by first | rfl | (simp only [unfr_vi, List.map_cons, List.map_nil, un_i, unfr_c_SRange]; done) | (simp only [unfr_vi, List.map_cons, List.map_nil, un_i, unfr_c_SRange]; rfl) | (simp only [unfr_vi, List.map_cons, List.map_nil, un_i, unfr_c_SRange, c_SRange, List.length_cons, List.length_nil, List.length_append]; done)
def ncoat_outward (k : Nat) (a0 : Int) (a1 : Int) (a2 : Int) : Option SRange :=
  if a2 ≠ 0 then ((ncoat_up k a1 a2).bind fun r538 => (some (⟨w64 (a0.tdiv a2), r538⟩ : SRange))) else none
theorem ncoat_outward_ok (k : Nat) (a0 : Int) (a1 : Int) (a2 : Int) (r : SRange) (h : ncoat_outward k a0 a1 a2 = some r) : VC Go.Proofs.Try.prog 37 [vi a0, vi a1, vi a2] (VV.ag (c_SRange r)) := by
 unfold ncoat_outward at h
 obtain ⟨h537, h⟩ := ifn h
 obtain ⟨r538, h539, h⟩ := bs h
 have e540 := (ti (ti (an h537 (ti (ti (an (ncoat_up_ok k a1 a2 _ h539) (ti (ti trivial))))))))
 injection h with h; subst h
 exact fun_ok pm pn Go.Proofs.Try.func37 (r0 := VV.ag [vi (w64 (a0.tdiv a2)), vi r538]) (ans := [.reg (.n :: []), .reg (nN 5 (.call (vi r538) :: .n :: .n :: []))]) (fr := true) (by kernel_rfl) (an (an (ti trivial) (an e540 trivial)) (an (ti (ti (ti trivial))) trivial)) (Wv.of_eq (eqZ1_6 a0 a2 r538))
theorem eqZ1_7 (z0 : Sfilm) (z1 : SRange) : VV.ag [vi (maxI 0 (w64 (z0.bright.Lo - z1.Hi))), vi (maxI 0 (w64 (z0.bright.Hi - z1.Lo)))] = VV.ag (c_SRange (⟨maxI 0 (w64 (z0.bright.Lo - z1.Hi)), maxI 0 (w64 (z0.bright.Hi - z1.Lo))⟩ : SRange)) := by first | rfl | (simp only [unfr_vi, List.map_cons, List.map_nil, un_i, unfr_c_SRange]; done) | (simp only [unfr_vi, List.map_cons, List.map_nil, un_i, unfr_c_SRange]; rfl) | (simp only [unfr_vi, List.map_cons, List.map_nil, un_i, unfr_c_SRange, c_SRange, List.length_cons, List.length_nil, List.length_append]; done)
def n_coat_film_brightOn (k : Nat) (a0 : Sfilm) (a1 : Int) : Option SRange :=
  (ncoat_outward k (w64 (a0.Aging.Loss.Lo * (w64 (a1 - a0.since)))) (w64 (a0.Aging.Loss.Hi * (w64 (a1 - a0.since)))) 1000).bind fun r546 => (some (⟨maxI 0 (w64 (a0.bright.Lo - r546.Hi)), maxI 0 (w64 (a0.bright.Hi - r546.Lo))⟩ : SRange))
theorem n_coat_film_brightOn_ok (k : Nat) (a0 : Sfilm) (a1 : Int) (r : SRange) (h : n_coat_film_brightOn k a0 a1 = some r) : VC Go.Proofs.Try.prog 27 [VV.ag (c_Sfilm a0), vi a1] (VV.ag (c_SRange r)) := by
 unfold n_coat_film_brightOn at h
 obtain ⟨r546, h547, h⟩ := bs h
 have e548 := (ncoat_outward_ok k (w64 (a0.Aging.Loss.Lo * (w64 (a1 - a0.since)))) (w64 (a0.Aging.Loss.Hi * (w64 (a1 - a0.since)))) 1000 _ h547)
 have e549 := (ti (ti (ti (ti (ti (ti (ti (ti (ti (ti (ti (ti (an e548 (ti (ti trivial)))))))))))))))
 have e550 := (ti (ti (ti (ti (ti (ti (ti (ti (ti (ti (ti (ti (ti (ti (ti (ti trivial))))))))))))))))
 injection h with h; subst h
 exact fun_ok pm pn Go.Proofs.Try.func27 (r0 := VV.ag [vi (maxI 0 (w64 (a0.bright.Lo - r546.Hi))), vi (maxI 0 (w64 (a0.bright.Hi - r546.Lo)))]) (ans := [.reg (.n :: .n :: []), .reg (nN 5 []), .reg (nN 12 (.call (VV.ag (c_SRange r546)) :: .n :: .n :: [])), .reg (nN 16 [])]) (fr := true) (by kernel_rfl) (an (an (ti (ti trivial)) (an (ti (ti (ti (ti (ti trivial))))) (an e549 (an e550 trivial)))) (an (ti (ti (ti trivial))) trivial)) (Wv.of_eq (eqZ1_7 a0 r546))
theorem eqZ1_8 (z0 : Sfilm) (z1 : Int) (z2 : SRange) : VV.ag [vi z0.Aging.Fresh.Lo, vi z0.Aging.Fresh.Hi, vi z0.Aging.Loss.Lo, vi z0.Aging.Loss.Hi, vi z0.Aging.Back.Lo, vi z0.Aging.Back.Hi, vi z0.Aging.Washes, vb z0.isOn, vi (w64 (z0.washed + 1)), vi z1, vi (minI (w64 (z2.Lo + z0.Aging.Back.Lo)) z0.Aging.Fresh.Lo), vi (minI (w64 (z2.Hi + z0.Aging.Back.Hi)) z0.Aging.Fresh.Hi)] = VV.ag [vi ((((⟨z0.Aging, z0.isOn, w64 (z0.washed + 1), z1, (⟨minI (w64 (z2.Lo + z0.Aging.Back.Lo)) z0.Aging.Fresh.Lo, minI (w64 (z2.Hi + z0.Aging.Back.Hi)) z0.Aging.Fresh.Hi⟩ : SRange)⟩ : Sfilm).Aging).Fresh).Lo), vi ((((⟨z0.Aging, z0.isOn, w64 (z0.washed + 1), z1, (⟨minI (w64 (z2.Lo + z0.Aging.Back.Lo)) z0.Aging.Fresh.Lo, minI (w64 (z2.Hi + z0.Aging.Back.Hi)) z0.Aging.Fresh.Hi⟩ : SRange)⟩ : Sfilm).Aging).Fresh).Hi), vi ((((⟨z0.Aging, z0.isOn, w64 (z0.washed + 1), z1, (⟨minI (w64 (z2.Lo + z0.Aging.Back.Lo)) z0.Aging.Fresh.Lo, minI (w64 (z2.Hi + z0.Aging.Back.Hi)) z0.Aging.Fresh.Hi⟩ : SRange)⟩ : Sfilm).Aging).Loss).Lo), vi ((((⟨z0.Aging, z0.isOn, w64 (z0.washed + 1), z1, (⟨minI (w64 (z2.Lo + z0.Aging.Back.Lo)) z0.Aging.Fresh.Lo, minI (w64 (z2.Hi + z0.Aging.Back.Hi)) z0.Aging.Fresh.Hi⟩ : SRange)⟩ : Sfilm).Aging).Loss).Hi), vi ((((⟨z0.Aging, z0.isOn, w64 (z0.washed + 1), z1, (⟨minI (w64 (z2.Lo + z0.Aging.Back.Lo)) z0.Aging.Fresh.Lo, minI (w64 (z2.Hi + z0.Aging.Back.Hi)) z0.Aging.Fresh.Hi⟩ : SRange)⟩ : Sfilm).Aging).Back).Lo), vi ((((⟨z0.Aging, z0.isOn, w64 (z0.washed + 1), z1, (⟨minI (w64 (z2.Lo + z0.Aging.Back.Lo)) z0.Aging.Fresh.Lo, minI (w64 (z2.Hi + z0.Aging.Back.Hi)) z0.Aging.Fresh.Hi⟩ : SRange)⟩ : Sfilm).Aging).Back).Hi), vi (((⟨z0.Aging, z0.isOn, w64 (z0.washed + 1), z1, (⟨minI (w64 (z2.Lo + z0.Aging.Back.Lo)) z0.Aging.Fresh.Lo, minI (w64 (z2.Hi + z0.Aging.Back.Hi)) z0.Aging.Fresh.Hi⟩ : SRange)⟩ : Sfilm).Aging).Washes), vb ((⟨z0.Aging, z0.isOn, w64 (z0.washed + 1), z1, (⟨minI (w64 (z2.Lo + z0.Aging.Back.Lo)) z0.Aging.Fresh.Lo, minI (w64 (z2.Hi + z0.Aging.Back.Hi)) z0.Aging.Fresh.Hi⟩ : SRange)⟩ : Sfilm).isOn), vi ((⟨z0.Aging, z0.isOn, w64 (z0.washed + 1), z1, (⟨minI (w64 (z2.Lo + z0.Aging.Back.Lo)) z0.Aging.Fresh.Lo, minI (w64 (z2.Hi + z0.Aging.Back.Hi)) z0.Aging.Fresh.Hi⟩ : SRange)⟩ : Sfilm).washed), vi ((⟨z0.Aging, z0.isOn, w64 (z0.washed + 1), z1, (⟨minI (w64 (z2.Lo + z0.Aging.Back.Lo)) z0.Aging.Fresh.Lo, minI (w64 (z2.Hi + z0.Aging.Back.Hi)) z0.Aging.Fresh.Hi⟩ : SRange)⟩ : Sfilm).since), vi (((⟨z0.Aging, z0.isOn, w64 (z0.washed + 1), z1, (⟨minI (w64 (z2.Lo + z0.Aging.Back.Lo)) z0.Aging.Fresh.Lo, minI (w64 (z2.Hi + z0.Aging.Back.Hi)) z0.Aging.Fresh.Hi⟩ : SRange)⟩ : Sfilm).bright).Lo), vi (((⟨z0.Aging, z0.isOn, w64 (z0.washed + 1), z1, (⟨minI (w64 (z2.Lo + z0.Aging.Back.Lo)) z0.Aging.Fresh.Lo, minI (w64 (z2.Hi + z0.Aging.Back.Hi)) z0.Aging.Fresh.Hi⟩ : SRange)⟩ : Sfilm).bright).Hi)] := by first | rfl | (simp only [unfr_vi, unfr_vb, List.map_cons, List.map_nil, un_i, un_b]; done) | (simp only [unfr_vi, unfr_vb, List.map_cons, List.map_nil, un_i, un_b]; rfl) | (simp only [unfr_vi, unfr_vb, List.map_cons, List.map_nil, un_i, un_b, List.length_cons, List.length_nil, List.length_append]; done)
def n_coat_film_wash (k : Nat) (a0 : Sfilm) (a1 : Int) : Option Sfilm :=
  (n_coat_film_brightOn k a0 a1).bind fun r555 => (some (⟨a0.Aging, a0.isOn, w64 (a0.washed + 1), a1, (⟨minI (w64 (r555.Lo + a0.Aging.Back.Lo)) a0.Aging.Fresh.Lo, minI (w64 (r555.Hi + a0.Aging.Back.Hi)) a0.Aging.Fresh.Hi⟩ : SRange)⟩ : Sfilm))
theorem n_coat_film_wash_ok (k : Nat) (a0 : Sfilm) (a1 : Int) (r : Sfilm) (h : n_coat_film_wash k a0 a1 = some r) : VC Go.Proofs.Try.prog 52 [VV.ag (c_Sfilm a0), vi a1] (VV.ag (c_Sfilm r)) := by
 unfold n_coat_film_wash at h
 obtain ⟨r555, h556, h⟩ := bs h
 have e557 := (n_coat_film_brightOn_ok k a0 a1 _ h556)
 have e558 := (ti (ti (ti (ti (ti (ti (ti (ti (ti (ti (ti (ti (ti (ti (ti (ti (ti (ti (ti (ti (ti (ti (ti (ti (ti (ti (ti trivial)))))))))))))))))))))))))))
 injection h with h; subst h
 exact fun_ok pm pn Go.Proofs.Try.func52 (r0 := VV.ag [vi a0.Aging.Fresh.Lo, vi a0.Aging.Fresh.Hi, vi a0.Aging.Loss.Lo, vi a0.Aging.Loss.Hi, vi a0.Aging.Back.Lo, vi a0.Aging.Back.Hi, vi a0.Aging.Washes, vb a0.isOn, vi (w64 (a0.washed + 1)), vi a1, vi (minI (w64 (r555.Lo + a0.Aging.Back.Lo)) a0.Aging.Fresh.Lo), vi (minI (w64 (r555.Hi + a0.Aging.Back.Hi)) a0.Aging.Fresh.Hi)]) (ans := [.reg (.n :: .n :: []), .reg (.n :: .n :: .call (VV.ag (c_SRange r555)) :: .n :: .n :: []), .reg (nN 27 []), .reg (nN 3 []), .reg (nN 5 []), .reg (.n :: .n :: [])]) (fr := true) (by kernel_rfl) (an (an (ti (ti trivial)) (an (ti (ti (an e557 (ti (ti trivial))))) (an e558 (an (ti (ti (ti trivial))) (an (ti (ti (ti (ti (ti trivial))))) (an (ti (ti trivial)) trivial)))))) (an (ti (ti (ti (ti (ti (ti (ti (ti (ti (ti (ti (ti (ti trivial))))))))))))) trivial)) (Wv.of_eq (eqZ1_8 a0 a1 r555))
theorem eqZ1_9 (z0 : Sfilm) : VV.ag [vi z0.Aging.Fresh.Lo, vi z0.Aging.Fresh.Hi, vi z0.Aging.Loss.Lo, vi z0.Aging.Loss.Hi, vi z0.Aging.Back.Lo, vi z0.Aging.Back.Hi, vi z0.Aging.Washes, vb false, vi 0, vi 0, vi 0, vi 0] = VV.ag [vi ((((⟨z0.Aging, false, 0, 0, (⟨0, 0⟩ : SRange)⟩ : Sfilm).Aging).Fresh).Lo), vi ((((⟨z0.Aging, false, 0, 0, (⟨0, 0⟩ : SRange)⟩ : Sfilm).Aging).Fresh).Hi), vi ((((⟨z0.Aging, false, 0, 0, (⟨0, 0⟩ : SRange)⟩ : Sfilm).Aging).Loss).Lo), vi ((((⟨z0.Aging, false, 0, 0, (⟨0, 0⟩ : SRange)⟩ : Sfilm).Aging).Loss).Hi), vi ((((⟨z0.Aging, false, 0, 0, (⟨0, 0⟩ : SRange)⟩ : Sfilm).Aging).Back).Lo), vi ((((⟨z0.Aging, false, 0, 0, (⟨0, 0⟩ : SRange)⟩ : Sfilm).Aging).Back).Hi), vi (((⟨z0.Aging, false, 0, 0, (⟨0, 0⟩ : SRange)⟩ : Sfilm).Aging).Washes), vb ((⟨z0.Aging, false, 0, 0, (⟨0, 0⟩ : SRange)⟩ : Sfilm).isOn), vi ((⟨z0.Aging, false, 0, 0, (⟨0, 0⟩ : SRange)⟩ : Sfilm).washed), vi ((⟨z0.Aging, false, 0, 0, (⟨0, 0⟩ : SRange)⟩ : Sfilm).since), vi (((⟨z0.Aging, false, 0, 0, (⟨0, 0⟩ : SRange)⟩ : Sfilm).bright).Lo), vi (((⟨z0.Aging, false, 0, 0, (⟨0, 0⟩ : SRange)⟩ : Sfilm).bright).Hi)] := by first | rfl | (simp only [unfr_vi, unfr_vb, List.map_cons, List.map_nil, un_i, un_b]; done) | (simp only [unfr_vi, unfr_vb, List.map_cons, List.map_nil, un_i, un_b]; rfl) | (simp only [unfr_vi, unfr_vb, List.map_cons, List.map_nil, un_i, un_b, List.length_cons, List.length_nil, List.length_append]; done)
def n_coat_film_strip (k : Nat) (a0 : Sfilm) : Option Sfilm :=
  some (⟨a0.Aging, false, 0, 0, (⟨0, 0⟩ : SRange)⟩ : Sfilm)
theorem n_coat_film_strip_ok (k : Nat) (a0 : Sfilm) (r : Sfilm) (h : n_coat_film_strip k a0 = some r) : VC Go.Proofs.Try.prog 53 [VV.ag (c_Sfilm a0)] (VV.ag (c_Sfilm r)) := by
 unfold n_coat_film_strip at h
 injection h with h; subst h
 exact fun_ok pm pn Go.Proofs.Try.func53 (r0 := VV.ag [vi a0.Aging.Fresh.Lo, vi a0.Aging.Fresh.Hi, vi a0.Aging.Loss.Lo, vi a0.Aging.Loss.Hi, vi a0.Aging.Back.Lo, vi a0.Aging.Back.Hi, vi a0.Aging.Washes, vb false, vi 0, vi 0, vi 0, vi 0]) (ans := [.reg (.n :: .n :: []), .reg (nN 4 [])]) (fr := true) (by kernel_rfl) (an (an (ti (ti trivial)) (an (ti (ti (ti (ti trivial)))) trivial)) (an (ti (ti (ti (ti (ti (ti (ti (ti (ti (ti (ti (ti (ti trivial))))))))))))) trivial)) (Wv.of_eq (eqZ1_9 a0))
def n_coat_film_behind (k : Nat) (a0 : Sfilm) (a1 : SCoatEvent) : Option Sfilm :=
  if a1.Kind = 0 then ((n_coat_film_put k a0 a1.Day).bind fun r566 => (some r566)) else (if a1.Kind = 1 then ((n_coat_film_wash k a0 a1.Day).bind fun r570 => (some r570)) else ((n_coat_film_strip k a0).bind fun r573 => (some r573)))
theorem n_coat_film_behind_ok (k : Nat) (a0 : Sfilm) (a1 : SCoatEvent) (r : Sfilm) (h : n_coat_film_behind k a0 a1 = some r) : VC Go.Proofs.Try.prog 42 [VV.ag (c_Sfilm a0), VV.ag (c_SCoatEvent a1)] (VV.ag (c_Sfilm r)) := by
 unfold n_coat_film_behind at h
 rcases ifs h with ⟨h565, h⟩ | ⟨h565, h⟩
 ·obtain ⟨r566, h567, h⟩ := bs h
  have e568 := (ti (ti (ti (an (n_coat_film_put_ok k a0 a1.Day _ h567) (ti trivial)))))
  injection h with h; subst h
  exact fun_ok pm pn Go.Proofs.Try.func42 (r0 := VV.ag (c_Sfilm r566)) (ans := [.reg (nN 3 []), .reg (.n :: .n :: []), .reg (.n :: .n :: []), .br true, .reg (nN 3 (.call (VV.ag (c_Sfilm r566)) :: .n :: []))]) (fr := true) (by kernel_rfl) (an (an (ti (ti (ti trivial))) (an (ti (ti trivial)) (an (ti (ti trivial)) (an (decide_eq_true h565) (an e568 trivial))))) (an (ti (ti (ti (ti (ti (ti (ti (ti (ti (ti (ti (ti (ti trivial))))))))))))) trivial)) (Wv.refl _)
 ·rcases ifs h with ⟨h569, h⟩ | ⟨h569, h⟩
  ·obtain ⟨r570, h571, h⟩ := bs h
   have e572 := (n_coat_film_wash_ok k a0 a1.Day _ h571)
   injection h with h; subst h
   exact fun_ok pm pn Go.Proofs.Try.func42 (r0 := VV.ag (c_Sfilm r570)) (ans := [.reg (nN 3 []), .reg (.n :: .n :: []), .reg (.n :: .n :: []), .br false, .reg (.n :: .n :: []), .br true, .reg (nN 3 (.call (VV.ag (c_Sfilm r570)) :: .n :: []))]) (fr := true) (by kernel_rfl) (an (an (ti (ti (ti trivial))) (an (ti (ti trivial)) (an (ti (ti trivial)) (an (decide_eq_false h565) (an (ti (ti trivial)) (an (decide_eq_true h569) (an (ti (ti (ti (an e572 (ti trivial))))) trivial))))))) (an (ti (ti (ti (ti (ti (ti (ti (ti (ti (ti (ti (ti (ti trivial))))))))))))) trivial)) (Wv.refl _)
  ·obtain ⟨r573, h574, h⟩ := bs h
   have e575 := (ti (an (n_coat_film_strip_ok k a0 _ h574) (ti trivial)))
   injection h with h; subst h
   exact fun_ok pm pn Go.Proofs.Try.func42 (r0 := VV.ag (c_Sfilm r573)) (ans := [.reg (nN 3 []), .reg (.n :: .n :: []), .reg (.n :: .n :: []), .br false, .reg (.n :: .n :: []), .br false, .reg (.n :: .call (VV.ag (c_Sfilm r573)) :: .n :: [])]) (fr := true) (by kernel_rfl) (an (an (ti (ti (ti trivial))) (an (an (ti (ti trivial)) (an (ti (ti trivial)) (an (decide_eq_false h565) (an (ti (ti trivial)) (an (decide_eq_false h569) trivial))))) (an e575 trivial))) (an (ti (ti (ti (ti (ti (ti (ti (ti (ti (ti (ti (ti (ti trivial))))))))))))) trivial)) (Wv.refl _)
theorem eqZ1_10 (z0 : SAging) (z1 : (List SCoatEvent)) : [VV.ag [vi ((((⟨z0, false, 0, 0, (⟨0, 0⟩ : SRange)⟩ : Sfilm).Aging).Fresh).Lo), vi ((((⟨z0, false, 0, 0, (⟨0, 0⟩ : SRange)⟩ : Sfilm).Aging).Fresh).Hi), vi ((((⟨z0, false, 0, 0, (⟨0, 0⟩ : SRange)⟩ : Sfilm).Aging).Loss).Lo), vi ((((⟨z0, false, 0, 0, (⟨0, 0⟩ : SRange)⟩ : Sfilm).Aging).Loss).Hi), vi ((((⟨z0, false, 0, 0, (⟨0, 0⟩ : SRange)⟩ : Sfilm).Aging).Back).Lo), vi ((((⟨z0, false, 0, 0, (⟨0, 0⟩ : SRange)⟩ : Sfilm).Aging).Back).Hi), vi (((⟨z0, false, 0, 0, (⟨0, 0⟩ : SRange)⟩ : Sfilm).Aging).Washes), vb ((⟨z0, false, 0, 0, (⟨0, 0⟩ : SRange)⟩ : Sfilm).isOn), vi ((⟨z0, false, 0, 0, (⟨0, 0⟩ : SRange)⟩ : Sfilm).washed), vi ((⟨z0, false, 0, 0, (⟨0, 0⟩ : SRange)⟩ : Sfilm).since), vi (((⟨z0, false, 0, 0, (⟨0, 0⟩ : SRange)⟩ : Sfilm).bright).Lo), vi (((⟨z0, false, 0, 0, (⟨0, 0⟩ : SRange)⟩ : Sfilm).bright).Hi)], VV.ag (c_SCoatEvent (z1.getD ((0 : Int)).toNat default))] = [VV.ag [vi z0.Fresh.Lo, vi z0.Fresh.Hi, vi z0.Loss.Lo, vi z0.Loss.Hi, vi z0.Back.Lo, vi z0.Back.Hi, vi z0.Washes, vb false, vi 0, vi 0, vi 0, vi 0], VV.ag (c_SCoatEvent (z1.getD ((0 : Int)).toNat default))] := by first | rfl | (simp only [unfr_vi, unfr_vb, List.map_cons, List.map_nil, un_i, un_b, unfr_c_SCoatEvent]; done) | (simp only [unfr_vi, unfr_vb, List.map_cons, List.map_nil, un_i, un_b, unfr_c_SCoatEvent]; rfl) | (simp only [unfr_vi, unfr_vb, List.map_cons, List.map_nil, un_i, un_b, unfr_c_SCoatEvent, c_SCoatEvent, List.length_cons, List.length_nil, List.length_append]; done)
theorem eqZ1_11 (z0 : (List SCoatEvent)) (z1 : Int) (z2 : Int) (z3 : Int) (z4 : Int) (z5 : Int) (z6 : Int) (z7 : Int) (z8 : Int) (z9 : Bool) (z10 : Int) (z11 : Int) (z12 : Int) (z13 : Int) : [VV.tr (List.flatMap c_SCoatEvent (sl z0 0 ((z1).toNat))) ((sl z0 0 ((z1).toNat)).length), VV.ag [vi ((((⟨(⟨(⟨z2, z3⟩ : SRange), (⟨z4, z5⟩ : SRange), (⟨z6, z7⟩ : SRange), z8⟩ : SAging), z9, z10, z11, (⟨z12, z13⟩ : SRange)⟩ : Sfilm).Aging).Fresh).Lo), vi ((((⟨(⟨(⟨z2, z3⟩ : SRange), (⟨z4, z5⟩ : SRange), (⟨z6, z7⟩ : SRange), z8⟩ : SAging), z9, z10, z11, (⟨z12, z13⟩ : SRange)⟩ : Sfilm).Aging).Fresh).Hi), vi ((((⟨(⟨(⟨z2, z3⟩ : SRange), (⟨z4, z5⟩ : SRange), (⟨z6, z7⟩ : SRange), z8⟩ : SAging), z9, z10, z11, (⟨z12, z13⟩ : SRange)⟩ : Sfilm).Aging).Loss).Lo), vi ((((⟨(⟨(⟨z2, z3⟩ : SRange), (⟨z4, z5⟩ : SRange), (⟨z6, z7⟩ : SRange), z8⟩ : SAging), z9, z10, z11, (⟨z12, z13⟩ : SRange)⟩ : Sfilm).Aging).Loss).Hi), vi ((((⟨(⟨(⟨z2, z3⟩ : SRange), (⟨z4, z5⟩ : SRange), (⟨z6, z7⟩ : SRange), z8⟩ : SAging), z9, z10, z11, (⟨z12, z13⟩ : SRange)⟩ : Sfilm).Aging).Back).Lo), vi ((((⟨(⟨(⟨z2, z3⟩ : SRange), (⟨z4, z5⟩ : SRange), (⟨z6, z7⟩ : SRange), z8⟩ : SAging), z9, z10, z11, (⟨z12, z13⟩ : SRange)⟩ : Sfilm).Aging).Back).Hi), vi (((⟨(⟨(⟨z2, z3⟩ : SRange), (⟨z4, z5⟩ : SRange), (⟨z6, z7⟩ : SRange), z8⟩ : SAging), z9, z10, z11, (⟨z12, z13⟩ : SRange)⟩ : Sfilm).Aging).Washes), vb ((⟨(⟨(⟨z2, z3⟩ : SRange), (⟨z4, z5⟩ : SRange), (⟨z6, z7⟩ : SRange), z8⟩ : SAging), z9, z10, z11, (⟨z12, z13⟩ : SRange)⟩ : Sfilm).isOn), vi ((⟨(⟨(⟨z2, z3⟩ : SRange), (⟨z4, z5⟩ : SRange), (⟨z6, z7⟩ : SRange), z8⟩ : SAging), z9, z10, z11, (⟨z12, z13⟩ : SRange)⟩ : Sfilm).washed), vi ((⟨(⟨(⟨z2, z3⟩ : SRange), (⟨z4, z5⟩ : SRange), (⟨z6, z7⟩ : SRange), z8⟩ : SAging), z9, z10, z11, (⟨z12, z13⟩ : SRange)⟩ : Sfilm).since), vi (((⟨(⟨(⟨z2, z3⟩ : SRange), (⟨z4, z5⟩ : SRange), (⟨z6, z7⟩ : SRange), z8⟩ : SAging), z9, z10, z11, (⟨z12, z13⟩ : SRange)⟩ : Sfilm).bright).Lo), vi (((⟨(⟨(⟨z2, z3⟩ : SRange), (⟨z4, z5⟩ : SRange), (⟨z6, z7⟩ : SRange), z8⟩ : SAging), z9, z10, z11, (⟨z12, z13⟩ : SRange)⟩ : Sfilm).bright).Hi)], VV.ag (c_SCoatEvent (z0.getD z1.toNat default))] = [VV.tr (List.flatMap c_SCoatEvent (sl z0 0 ((z1).toNat))) ((sl z0 0 ((z1).toNat)).length), VV.ag [vi z2, vi z3, vi z4, vi z5, vi z6, vi z7, vi z8, vb z9, vi z10, vi z11, vi z12, vi z13], VV.ag (c_SCoatEvent (z0.getD z1.toNat default))] := by first | rfl | (simp only [unfr_vi, unfr_vb, List.map_cons, List.map_nil, un_i, un_b, un_tr, List.length_cons, List.length_nil, unfr_c_SCoatEvent]; done) | (simp only [unfr_vi, unfr_vb, List.map_cons, List.map_nil, un_i, un_b, un_tr, List.length_cons, List.length_nil, unfr_c_SCoatEvent]; rfl) | (simp only [unfr_vi, unfr_vb, List.map_cons, List.map_nil, un_i, un_b, un_tr, List.length_cons, List.length_nil, unfr_c_SCoatEvent, c_SCoatEvent, List.length_cons, List.length_nil, List.length_append]; done)
theorem eqZ1_12 (z0 : Int) (z1 : Int) (z2 : Int) (z3 : Int) (z4 : Int) (z5 : Int) (z6 : Int) (z7 : Bool) (z8 : Int) (z9 : Int) (z10 : Int) (z11 : Int) (z12 : (List SCoatEvent)) (z13 : Int) : [VV.ag [vi ((((⟨(⟨(⟨z0, z1⟩ : SRange), (⟨z2, z3⟩ : SRange), (⟨z4, z5⟩ : SRange), z6⟩ : SAging), z7, z8, z9, (⟨z10, z11⟩ : SRange)⟩ : Sfilm).Aging).Fresh).Lo), vi ((((⟨(⟨(⟨z0, z1⟩ : SRange), (⟨z2, z3⟩ : SRange), (⟨z4, z5⟩ : SRange), z6⟩ : SAging), z7, z8, z9, (⟨z10, z11⟩ : SRange)⟩ : Sfilm).Aging).Fresh).Hi), vi ((((⟨(⟨(⟨z0, z1⟩ : SRange), (⟨z2, z3⟩ : SRange), (⟨z4, z5⟩ : SRange), z6⟩ : SAging), z7, z8, z9, (⟨z10, z11⟩ : SRange)⟩ : Sfilm).Aging).Loss).Lo), vi ((((⟨(⟨(⟨z0, z1⟩ : SRange), (⟨z2, z3⟩ : SRange), (⟨z4, z5⟩ : SRange), z6⟩ : SAging), z7, z8, z9, (⟨z10, z11⟩ : SRange)⟩ : Sfilm).Aging).Loss).Hi), vi ((((⟨(⟨(⟨z0, z1⟩ : SRange), (⟨z2, z3⟩ : SRange), (⟨z4, z5⟩ : SRange), z6⟩ : SAging), z7, z8, z9, (⟨z10, z11⟩ : SRange)⟩ : Sfilm).Aging).Back).Lo), vi ((((⟨(⟨(⟨z0, z1⟩ : SRange), (⟨z2, z3⟩ : SRange), (⟨z4, z5⟩ : SRange), z6⟩ : SAging), z7, z8, z9, (⟨z10, z11⟩ : SRange)⟩ : Sfilm).Aging).Back).Hi), vi (((⟨(⟨(⟨z0, z1⟩ : SRange), (⟨z2, z3⟩ : SRange), (⟨z4, z5⟩ : SRange), z6⟩ : SAging), z7, z8, z9, (⟨z10, z11⟩ : SRange)⟩ : Sfilm).Aging).Washes), vb ((⟨(⟨(⟨z0, z1⟩ : SRange), (⟨z2, z3⟩ : SRange), (⟨z4, z5⟩ : SRange), z6⟩ : SAging), z7, z8, z9, (⟨z10, z11⟩ : SRange)⟩ : Sfilm).isOn), vi ((⟨(⟨(⟨z0, z1⟩ : SRange), (⟨z2, z3⟩ : SRange), (⟨z4, z5⟩ : SRange), z6⟩ : SAging), z7, z8, z9, (⟨z10, z11⟩ : SRange)⟩ : Sfilm).washed), vi ((⟨(⟨(⟨z0, z1⟩ : SRange), (⟨z2, z3⟩ : SRange), (⟨z4, z5⟩ : SRange), z6⟩ : SAging), z7, z8, z9, (⟨z10, z11⟩ : SRange)⟩ : Sfilm).since), vi (((⟨(⟨(⟨z0, z1⟩ : SRange), (⟨z2, z3⟩ : SRange), (⟨z4, z5⟩ : SRange), z6⟩ : SAging), z7, z8, z9, (⟨z10, z11⟩ : SRange)⟩ : Sfilm).bright).Lo), vi (((⟨(⟨(⟨z0, z1⟩ : SRange), (⟨z2, z3⟩ : SRange), (⟨z4, z5⟩ : SRange), z6⟩ : SAging), z7, z8, z9, (⟨z10, z11⟩ : SRange)⟩ : Sfilm).bright).Hi)], VV.ag (c_SCoatEvent (z12.getD z13.toNat default))] = [VV.ag [vi z0, vi z1, vi z2, vi z3, vi z4, vi z5, vi z6, vb z7, vi z8, vi z9, vi z10, vi z11], VV.ag (c_SCoatEvent (z12.getD z13.toNat default))] := by first | rfl | (simp only [unfr_vi, unfr_vb, List.map_cons, List.map_nil, un_i, un_b, unfr_c_SCoatEvent]; done) | (simp only [unfr_vi, unfr_vb, List.map_cons, List.map_nil, un_i, un_b, unfr_c_SCoatEvent]; rfl) | (simp only [unfr_vi, unfr_vb, List.map_cons, List.map_nil, un_i, un_b, unfr_c_SCoatEvent, c_SCoatEvent, List.length_cons, List.length_nil, List.length_append]; done)
def arZ1_8 (z0 : (List SCoatEvent)) (z1 : Int) (z2 : Int) : List Ans := (.n :: .n :: .v (VV.tr (List.flatMap c_SCoatEvent (sl z0 0 ((z1).toNat))) ((sl z0 0 ((z1).toNat)).length)) :: .n :: .n :: .call (vi z2) :: .n :: [])
def ncoat_CheckHistory_l0_0_h (a0 : SAging) (a1 : (List SCoatEvent)) (b1_0 : Int) (b1_1 : Int) (b1_10 : Int) (b1_11 : Int) (b1_2 : Int) (b1_3 : Int) (b1_4 : Int) (b1_5 : Int) (b1_6 : Int) (b1_7 : Bool) (b1_8 : Int) (b1_9 : Int) (x23 : Int) : VS := ⟨mkA [(1, VV.tr (List.flatMap c_SCoatEvent a1) a1.length), (7, VV.pt 1 0), (21, VV.tr (List.flatMap c_SCoatEvent a1) a1.length), (22, vi (a1.length : Int)), (23, vi x23)], [some ⟨true, 1, c_SAging a0⟩, some ⟨true, 1, [vi b1_0, vi b1_1, vi b1_2, vi b1_3, vi b1_4, vi b1_5, vi b1_6, vb b1_7, vi b1_8, vi b1_9, vi b1_10, vi b1_11]⟩], .nil⟩
def ncoat_CheckHistory_l0_0_e0 (a0 : SAging) (a1 : (List SCoatEvent)) (r : Int × Int) : VS := ⟨mkA [(4, vi r.1), (5, vi r.2)], [], .nil⟩
def ncoat_CheckHistory_l0_0_e1 (a0 : SAging) (a1 : (List SCoatEvent)) (r : Unit) : VS := ⟨mkA [], [], .nil⟩
def ncoat_CheckHistory_l0_0 (k : Nat) (a0 : SAging) (a1 : (List SCoatEvent)) : Nat → Int → Int → Int → Int → Int → Int → Int → Int → Int → Bool → Int → Int → Int → Option (Sum (Int × Int) Unit)
  | 0, _, _, _, _, _, _, _, _, _, _, _, _, _ => none
  | fuel + 1, b1_0, b1_1, b1_10, b1_11, b1_2, b1_3, b1_4, b1_5, b1_6, b1_7, b1_8, b1_9, x23 => if x23 < (a1.length : Int) then (if 0 ≤ x23 ∧ x23 < (a1.length : Int) then (if 0 ≤ (0 : Int) ∧ (0 : Int) ≤ x23 ∧ x23 ≤ (a1.length : Int) then ((ncoat_checkBehind k (sl a1 0 ((x23).toNat)) (⟨(⟨(⟨b1_0, b1_1⟩ : SRange), (⟨b1_2, b1_3⟩ : SRange), (⟨b1_4, b1_5⟩ : SRange), b1_6⟩ : SAging), b1_7, b1_8, b1_9, (⟨b1_10, b1_11⟩ : SRange)⟩ : Sfilm) (a1.getD x23.toNat default)).bind fun r647 => (if r647 = 0 then ((n_coat_film_behind k (⟨(⟨(⟨b1_0, b1_1⟩ : SRange), (⟨b1_2, b1_3⟩ : SRange), (⟨b1_4, b1_5⟩ : SRange), b1_6⟩ : SAging), b1_7, b1_8, b1_9, (⟨b1_10, b1_11⟩ : SRange)⟩ : Sfilm) (a1.getD x23.toNat default)).bind fun r652 => (ncoat_CheckHistory_l0_0 k a0 a1 fuel r652.Aging.Fresh.Lo r652.Aging.Fresh.Hi r652.bright.Lo r652.bright.Hi r652.Aging.Loss.Lo r652.Aging.Loss.Hi r652.Aging.Back.Lo r652.Aging.Back.Hi r652.Aging.Washes r652.isOn r652.washed r652.since (w64 (x23 + 1)))) else (some (.inl (x23, r647))))) else none) else none) else (some (.inr ()))
theorem ncoat_CheckHistory_l0_0_ok (k : Nat) (a0 : SAging) (a1 : (List SCoatEvent)) : ∀ (fuel : Nat) (b1_0 : Int) (b1_1 : Int) (b1_10 : Int) (b1_11 : Int) (b1_2 : Int) (b1_3 : Int) (b1_4 : Int) (b1_5 : Int) (b1_6 : Int) (b1_7 : Bool) (b1_8 : Int) (b1_9 : Int) (x23 : Int) (r : Sum (Int × Int) Unit), ncoat_CheckHistory_l0_0 k a0 a1 fuel b1_0 b1_1 b1_10 b1_11 b1_2 b1_3 b1_4 b1_5 b1_6 b1_7 b1_8 b1_9 x23 = some r → (match r with | .inl r => VLoop none Go.Proofs.Try.prog (szF Go.Proofs.Try.f29) (bodyOf Go.Proofs.Try.f29 0) (ncoat_CheckHistory_l0_0_h a0 a1 b1_0 b1_1 b1_10 b1_11 b1_2 b1_3 b1_4 b1_5 b1_6 b1_7 b1_8 b1_9 x23) .ret (ncoat_CheckHistory_l0_0_e0 a0 a1 r) | .inr r => VLoop none Go.Proofs.Try.prog (szF Go.Proofs.Try.f29) (bodyOf Go.Proofs.Try.f29 0) (ncoat_CheckHistory_l0_0_h a0 a1 b1_0 b1_1 b1_10 b1_11 b1_2 b1_3 b1_4 b1_5 b1_6 b1_7 b1_8 b1_9 x23) (.exit 0) (ncoat_CheckHistory_l0_0_e1 a0 a1 r)) := by
 intro fuel
 induction fuel with
 | zero => intro b1_0 b1_1 b1_10 b1_11 b1_2 b1_3 b1_4 b1_5 b1_6 b1_7 b1_8 b1_9 x23 r h; rw [ncoat_CheckHistory_l0_0.eq_1] at h; cases h
 | succ fuel ih =>
  intro b1_0 b1_1 b1_10 b1_11 b1_2 b1_3 b1_4 b1_5 b1_6 b1_7 b1_8 b1_9 x23 r h
  rw [ncoat_CheckHistory_l0_0.eq_2] at h
  rcases ifs h with ⟨h642, h⟩ | ⟨h642, h⟩
  ·obtain ⟨h643, h⟩ := ifn h
   have e644 := (show loadL Go.Proofs.Try.prog 38 (x23.toNat * 3) (List.flatMap c_SCoatEvent a1) = some (VV.ag (c_SCoatEvent (a1.getD x23.toNat default))) from ld_whole ag38 c_SCoatEvent 3 sz38 len_c_SCoatEvent a1 default h643 (by omega))
   obtain ⟨h645, h⟩ := ifn h
   have e646 := (show (True ∧ 0 ≤ x23 ∧ 0 ≤ (x23).toNat ∧ (x23).toNat ≤ a1.length ∧ (x23).toNat * 3 ≤ List.length (List.flatMap c_SCoatEvent a1)) ∧ VV.tr (List.take (((x23).toNat - 0) * 3) (List.drop (0 * 3) (List.flatMap c_SCoatEvent a1))) ((x23).toNat - 0) = VV.tr (List.flatMap c_SCoatEvent (sl a1 0 ((x23).toNat))) ((sl a1 0 ((x23).toNat)).length) from ⟨⟨trivial, (by have := h645; omega), (by have := h645; omega), (by have := h645; omega), (by rw [flatMap_len len_c_SCoatEvent]; have := h645; omega)⟩, (by exact sl_flat len_c_SCoatEvent a1 0 ((x23).toNat) (by have := h645; omega) (by have := h645; omega))⟩)
   obtain ⟨r647, h648, h⟩ := bs h
   have e649 := (VC.args (ncoat_checkBehind_ok k (sl a1 0 ((x23).toNat)) (⟨(⟨(⟨b1_0, b1_1⟩ : SRange), (⟨b1_2, b1_3⟩ : SRange), (⟨b1_4, b1_5⟩ : SRange), b1_6⟩ : SAging), b1_7, b1_8, b1_9, (⟨b1_10, b1_11⟩ : SRange)⟩ : Sfilm) (a1.getD x23.toNat default) _ h648) (eqZ1_11 a1 x23 b1_0 b1_1 b1_2 b1_3 b1_4 b1_5 b1_6 b1_7 b1_8 b1_9 b1_10 b1_11))
   have e650 := (ti (ti (an e646 (ti (ti (an e649 (ti trivial)))))))
   rcases ifs h with ⟨h651, h⟩ | ⟨h651, h⟩
   ·obtain ⟨r652, h653, h⟩ := bs h
    have e654 := (VC.args (n_coat_film_behind_ok k (⟨(⟨(⟨b1_0, b1_1⟩ : SRange), (⟨b1_2, b1_3⟩ : SRange), (⟨b1_4, b1_5⟩ : SRange), b1_6⟩ : SAging), b1_7, b1_8, b1_9, (⟨b1_10, b1_11⟩ : SRange)⟩ : Sfilm) (a1.getD x23.toNat default) _ h653) (eqZ1_12 b1_0 b1_1 b1_2 b1_3 b1_4 b1_5 b1_6 b1_7 b1_8 b1_9 b1_10 b1_11 a1 x23))
    have h2 := ih _ _ _ _ _ _ _ _ _ _ _ _ _ _ h
    obtain ⟨q, hv, hq⟩ := pkR (rd := none) (P := Go.Proofs.Try.prog) (fn := Go.Proofs.Try.f29) (k := 0) (s := (ncoat_CheckHistory_l0_0_h a0 a1 b1_0 b1_1 b1_10 b1_11 b1_2 b1_3 b1_4 b1_5 b1_6 b1_7 b1_8 b1_9 x23)) (ans := [.reg (.n :: []), .br true, .reg (.n :: .n :: .v (VV.ag (c_SCoatEvent (a1.getD x23.toNat default))) :: nN 3 []), .reg (arZ1_8 a1 x23 r647), .reg (.n :: .n :: []), .br false, .reg (.n :: .n :: .call (VV.ag (c_Sfilm r652)) :: .n :: []), .reg (.n :: .n :: [])]) (c := ⟨[(1, none), (7, none), (21, none), (22, none), (23, none)], [none, none], []⟩) (e := .normal) (s1 := (ncoat_CheckHistory_l0_0_h a0 a1 r652.Aging.Fresh.Lo r652.Aging.Fresh.Hi r652.bright.Lo r652.bright.Hi r652.Aging.Loss.Lo r652.Aging.Loss.Hi r652.Aging.Back.Lo r652.Aging.Back.Hi r652.Aging.Washes r652.isOn r652.washed r652.since (w64 (x23 + 1)))) (an (an (ti trivial) (an (an (decide_eq_true h642) trivial) (an (an (ti (an h643 (an e644 (ti (ti (ti trivial)))))) (an (an e650 (an (ti (ti trivial)) (an (not_f (decide_eq_true h651)) trivial))) (ti (ti (an e654 (ti trivial)))))) (ti (ti trivial))))) (ti trivial)) (by kernel_rfl)
    cases r with
    | inl r => exact round_next pm pn hv hq h2
    | inr r =>
     exact round_next pm pn hv hq h2
   ·injection h with h; subst h
    exact round_stop (c := ⟨[(4, none), (5, none)], [], []⟩) (s1 := (ncoat_CheckHistory_l0_0_e0 a0 a1 (x23, r647))) pm pn (ans := [.reg (.n :: []), .br true, .reg (.n :: .n :: .v (VV.ag (c_SCoatEvent (a1.getD x23.toNat default))) :: nN 3 []), .reg (arZ1_8 a1 x23 r647), .reg (.n :: .n :: []), .br true, .reg (nN 4 [])]) (by kernel_rfl) (by intro e; cases e) (an (an (ti trivial) (an (an (decide_eq_true h642) trivial) (an (ti (an h643 (an e644 (ti (ti (ti trivial)))))) (an e650 (an (ti (ti trivial)) (an (not_t (decide_eq_false h651)) (an (ti (ti (ti (ti trivial)))) trivial))))))) (ti trivial))
  ·injection h with h; subst h
   exact round_stop (c := ⟨[], [], []⟩) (s1 := (ncoat_CheckHistory_l0_0_e1 a0 a1 ())) pm pn (ans := [.reg (.n :: []), .br false]) (by kernel_rfl) (by intro e; cases e) (an (an (ti trivial) (an (decide_eq_false h642) trivial)) (ti trivial))
def ncoat_CheckHistory (k : Nat) (a0 : SAging) (a1 : (List SCoatEvent)) : Option (Int × Int) :=
  (ncoat_CheckAging k a0).bind fun r611 => (if r611 = 0 then (if 40 < (a1.length : Int) then (some (0, 8)) else ((ncoat_CheckHistory_l0_0 k a0 a1 k a0.Fresh.Lo a0.Fresh.Hi 0 0 a0.Loss.Lo a0.Loss.Hi a0.Back.Lo a0.Back.Hi a0.Washes false 0 0 0).bind fun r656 => (match r656 with | .inl r657 => (some (r657.1, r657.2)) | .inr r658 => (some (0, 0))))) else (some (0, r611)))
theorem ncoat_CheckHistory_ok (k : Nat) (a0 : SAging) (a1 : (List SCoatEvent)) (r : (Int × Int)) (h : ncoat_CheckHistory k a0 a1 = some r) : VC Go.Proofs.Try.prog 29 [VV.ag (c_SAging a0), VV.tr (List.flatMap c_SCoatEvent a1) a1.length] (VV.tu [vi r.1, vi r.2]) := by
 unfold ncoat_CheckHistory at h
 obtain ⟨r611, h612, h⟩ := bs h
 have e613 := (ti (an (ncoat_CheckAging_ok k a0 _ h612) (ti trivial)))
 rcases ifs h with ⟨h614, h⟩ | ⟨h614, h⟩
 ·rcases ifs h with ⟨h615, h⟩ | ⟨h615, h⟩
  ·injection h with h; subst h
   exact fun_ok pm pn Go.Proofs.Try.func29 (r0 := VV.tu [vi 0, vi 8]) (ans := [.reg (nN 3 []), .reg (.n :: .call (vi r611) :: .n :: []), .reg (.n :: .n :: []), .br false, .reg (nN 3 []), .br true, .reg (.n :: .n :: [])]) (fr := true) (by kernel_rfl) (an (an (ti (ti (ti trivial))) (an (an e613 (an (ti (ti trivial)) (an (not_f (decide_eq_true h614)) trivial))) (an (ti (ti (ti trivial))) (an (decide_eq_true h615) (an (ti (ti trivial)) trivial))))) (ti (ti trivial))) (Wv.refl _)
  ·obtain ⟨r656, h655, h⟩ := bs h
   have hph655 := ncoat_CheckHistory_l0_0_ok k a0 a1 _ _ _ _ _ _ _ _ _ _ _ _ _ _ _ h655
   cases r656 with
   | inl r657 =>
    dsimp only at h
    have e659 := (an (ti trivial) (VRun.loop hph655))
    injection h with h; subst h
    exact fun_ok pm pn Go.Proofs.Try.func29 (r0 := VV.tu [vi r657.1, vi r657.2]) (ans := [.reg (nN 3 []), .reg (.n :: .call (vi r611) :: .n :: []), .reg (.n :: .n :: []), .br false, .reg (nN 3 []), .br false, .reg (nN 4 []), .reg (nN 3 []), .sub ⟨[(1, none), (7, none), (21, none), (22, none), (23, none)], [none, none], []⟩ .ret (ncoat_CheckHistory_l0_0_e0 a0 a1 r657)]) (fr := true) (by kernel_rfl) (an (an (ti (ti (ti trivial))) (an (an e613 (an (ti (ti trivial)) (an (not_f (decide_eq_true h614)) trivial))) (an (an (ti (ti (ti trivial))) (an (decide_eq_false h615) trivial)) (an (ti (ti (ti (ti trivial)))) (an (ti (ti (ti trivial))) e659))))) (ti (ti trivial))) (Wv.refl _)
   | inr r658 =>
    dsimp only at h
    have e660 := (an (ti trivial) (VRun.loop hph655))
    injection h with h; subst h
    exact fun_ok pm pn Go.Proofs.Try.func29 (r0 := VV.tu [vi 0, vi 0]) (ans := [.reg (nN 3 []), .reg (.n :: .call (vi r611) :: .n :: []), .reg (.n :: .n :: []), .br false, .reg (nN 3 []), .br false, .reg (nN 4 []), .reg (nN 3 []), .sub ⟨[(1, none), (7, none), (21, none), (22, none), (23, none)], [none, none], []⟩ (.exit 0) (ncoat_CheckHistory_l0_0_e1 a0 a1 r658), .reg (.n :: .n :: [])]) (fr := true) (by kernel_rfl) (an (an (ti (ti (ti trivial))) (an (an e613 (an (ti (ti trivial)) (an (not_f (decide_eq_true h614)) trivial))) (an (an (ti (ti (ti trivial))) (an (decide_eq_false h615) trivial)) (an (ti (ti (ti (ti trivial)))) (an (an (ti (ti (ti trivial))) e660) (an (ti (ti trivial)) trivial)))))) (ti (ti trivial))) (Wv.refl _)
 ·injection h with h; subst h
  exact fun_ok pm pn Go.Proofs.Try.func29 (r0 := VV.tu [vi 0, vi r611]) (ans := [.reg (nN 3 []), .reg (.n :: .call (vi r611) :: .n :: []), .reg (.n :: .n :: []), .br true, .reg (nN 3 [])]) (fr := true) (by kernel_rfl) (an (an (ti (ti (ti trivial))) (an e613 (an (ti (ti trivial)) (an (not_t (decide_eq_false h614)) (an (ti (ti (ti trivial))) trivial))))) (ti (ti trivial))) (Wv.refl _)
def nspeculumbase_Within (k : Nat) (a0 : Int) (a1 : Int) (a2 : Int) : Option Bool :=
  if a1 ≤ a0 then (some (decide (a0 ≤ a2))) else (some false)
theorem nspeculumbase_Within_ok (k : Nat) (a0 : Int) (a1 : Int) (a2 : Int) (r : Bool) (h : nspeculumbase_Within k a0 a1 a2 = some r) : VC Go.Proofs.Try.prog 24 [vi a0, vi a1, vi a2] (vb r) := by
 unfold nspeculumbase_Within at h
 rcases ifs h with ⟨h665, h⟩ | ⟨h665, h⟩
 ·have e666 := (ti (ti (ti (ti (an (an (decide_eq_true h665) trivial) (an (an (decide_eq_true h665) trivial) (an (an (decide_eq_true h665) trivial) (an (decide_eq_true h665) (ti trivial)))))))))
  injection h with h; subst h
  exact fun_ok pm pn Go.Proofs.Try.func24 (r0 := vb (decide (a0 ≤ a2))) (ans := [.reg (.n :: []), .reg (nN 7 (.b true :: .n :: []))]) (fr := true) (by kernel_rfl) (an (an (ti trivial) (an e666 trivial)) (ti trivial)) (Wv.refl _)
 ·have e667 := (ti (ti (ti (ti (an (decide_eq_false h665) (an (decide_eq_false h665) (an (decide_eq_false h665) (an (decide_eq_false h665) (ti trivial)))))))))
  injection h with h; subst h
  exact fun_ok pm pn Go.Proofs.Try.func24 (r0 := vb false) (ans := [.reg (.n :: []), .reg (nN 4 (nS 3 (.b false :: .n :: [])))]) (fr := true) (by kernel_rfl) (an (an (ti trivial) (an e667 trivial)) (ti trivial)) (Wv.refl _)
def nspeculumref08_CheckAging_l0_0_h (a0 : SAging) (x12 : Int) : VS := ⟨mkA [(1, VV.pt 0 0), (11, VV.ag [vi a0.Fresh.Lo, vi a0.Fresh.Hi, vi a0.Loss.Lo, vi a0.Loss.Hi, vi a0.Back.Lo, vi a0.Back.Hi]), (12, vi x12)], [some ⟨true, 1, c_SAging a0⟩], .nil⟩
def nspeculumref08_CheckAging_l0_0_e0 (a0 : SAging) (r : Unit) : VS := ⟨mkA [(2, vi 2)], [], .nil⟩
def nspeculumref08_CheckAging_l0_0_e1 (a0 : SAging) (r : Unit) : VS := ⟨mkA [(1, VV.pt 0 0)], [some ⟨true, 1, c_SAging a0⟩], .nil⟩
def nspeculumref08_CheckAging_l0_0 (k : Nat) (a0 : SAging) : Nat → Int → Option (Sum Unit Unit)
  | 0, _ => none
  | fuel + 1, x12 => if x12 < 3 then (if x12 = 0 then ((nspeculumbase_Within k a0.Fresh.Lo 0 a0.Fresh.Hi).bind fun r780 => (if r780 = true then (if 1000 < a0.Fresh.Hi then (some (.inl ())) else (nspeculumref08_CheckAging_l0_0 k a0 fuel (w64 (x12 + 1)))) else (some (.inl ())))) else (if x12 = 1 then ((nspeculumbase_Within k a0.Loss.Lo 0 a0.Loss.Hi).bind fun r789 => (if r789 = true then (if 1000 < a0.Loss.Hi then (some (.inl ())) else (nspeculumref08_CheckAging_l0_0 k a0 fuel (w64 (x12 + 1)))) else (some (.inl ())))) else (if x12 = 2 then ((nspeculumbase_Within k a0.Back.Lo 0 a0.Back.Hi).bind fun r798 => (if r798 = true then (if 1000 < a0.Back.Hi then (some (.inl ())) else (nspeculumref08_CheckAging_l0_0 k a0 fuel (w64 (x12 + 1)))) else (some (.inl ())))) else none))) else (some (.inr ()))
theorem nspeculumref08_CheckAging_l0_0_ok (k : Nat) (a0 : SAging) : ∀ (fuel : Nat) (x12 : Int) (r : Sum Unit Unit), nspeculumref08_CheckAging_l0_0 k a0 fuel x12 = some r → (match r with | .inl r => VLoop none Go.Proofs.Try.prog (szF Go.Proofs.Try.f21) (bodyOf Go.Proofs.Try.f21 0) (nspeculumref08_CheckAging_l0_0_h a0 x12) .ret (nspeculumref08_CheckAging_l0_0_e0 a0 r) | .inr r => VLoop none Go.Proofs.Try.prog (szF Go.Proofs.Try.f21) (bodyOf Go.Proofs.Try.f21 0) (nspeculumref08_CheckAging_l0_0_h a0 x12) (.exit 0) (nspeculumref08_CheckAging_l0_0_e1 a0 r)) := by
 intro fuel
 induction fuel with
 | zero => intro x12 r h; rw [nspeculumref08_CheckAging_l0_0.eq_1] at h; cases h
 | succ fuel ih =>
  intro x12 r h
  rw [nspeculumref08_CheckAging_l0_0.eq_2] at h
  rcases ifs h with ⟨h777, h⟩ | ⟨h777, h⟩
  ·rcases ifs h with ⟨h778, h⟩ | ⟨h778, h⟩
   ·have e779 := (show (0:Int) ≤ x12 ∧ x12 < ((3 : Nat) : Int) ∧ partV (x12.toNat * 2) (some 2) [vi a0.Fresh.Lo, vi a0.Fresh.Hi, vi a0.Loss.Lo, vi a0.Loss.Hi, vi a0.Back.Lo, vi a0.Back.Hi] = some (VV.ag (c_SRange a0.Fresh)) from ⟨by have := (of_decide_eq_true (decide_eq_true h778)); omega, by have := (of_decide_eq_true (decide_eq_true h778)); omega, by rw [show x12 = (0 : Int) from (of_decide_eq_true (decide_eq_true h778))]; rfl⟩)
    obtain ⟨r780, h781, h⟩ := bs h
    have e782 := (nspeculumbase_Within_ok k a0.Fresh.Lo 0 a0.Fresh.Hi _ h781)
    rcases ifs h with ⟨h783, h⟩ | ⟨h783, h⟩
    ·have e784 := (ti (ti (ti (ti (an e782 (ti (ti (an (an (not_f h783) trivial) (an (an (not_f h783) trivial) (an (an (not_f h783) trivial) (an (not_f h783) trivial)))))))))))
     rcases ifs h with ⟨h785, h⟩ | ⟨h785, h⟩
     ·injection h with h; subst h
      exact round_stop (c := ⟨[(2, none)], [], []⟩) (s1 := (nspeculumref08_CheckAging_l0_0_e0 a0 ())) pm pn (ans := [.reg (.n :: []), .br true, .reg (.v (VV.ag (c_SRange a0.Fresh)) :: .n :: .n :: []), .reg (nN 4 (.call (vb r780) :: nN 5 (.b false :: []))), .br true, .reg (.n :: [])]) (by kernel_rfl) (by intro e; cases e) (an (an (ti trivial) (an (an (decide_eq_true h777) trivial) (an (an e779 (ti (ti trivial))) (an e784 (an (decide_eq_true h785) (an (ti trivial) trivial)))))) (ti trivial))
     ·have h2 := ih _ _ h
      obtain ⟨q, hv, hq⟩ := pkR (rd := none) (P := Go.Proofs.Try.prog) (fn := Go.Proofs.Try.f21) (k := 0) (s := (nspeculumref08_CheckAging_l0_0_h a0 x12)) (ans := [.reg (.n :: []), .br true, .reg (.v (VV.ag (c_SRange a0.Fresh)) :: .n :: .n :: []), .reg (nN 4 (.call (vb r780) :: nN 5 (.b false :: []))), .br false, .reg (.n :: .n :: [])]) (c := ⟨[(1, none), (11, none), (12, none)], [none], []⟩) (e := .normal) (s1 := (nspeculumref08_CheckAging_l0_0_h a0 (w64 (x12 + 1)))) (an (an (ti trivial) (an (an (decide_eq_true h777) trivial) (an (an (an e779 (ti (ti trivial))) (an e784 (an (decide_eq_false h785) trivial))) (ti (ti trivial))))) (ti trivial)) (by kernel_rfl)
      cases r with
      | inl r => exact round_next pm pn hv hq h2
      | inr r =>
       exact round_next pm pn hv hq h2
    ·have e786 := (ti (ti (ti (ti (an e782 (ti (ti (an (not_t (bool_f h783)) (an (not_t (bool_f h783)) (an (not_t (bool_f h783)) (an (not_t (bool_f h783)) trivial)))))))))))
     injection h with h; subst h
     exact round_stop (c := ⟨[(2, none)], [], []⟩) (s1 := (nspeculumref08_CheckAging_l0_0_e0 a0 ())) pm pn (ans := [.reg (.n :: []), .br true, .reg (.v (VV.ag (c_SRange a0.Fresh)) :: .n :: .n :: []), .reg (nN 4 (.call (vb r780) :: .n :: .n :: nS 3 (.b true :: []))), .br true, .reg (.n :: [])]) (by kernel_rfl) (by intro e; cases e) (an (an (ti trivial) (an (an (decide_eq_true h777) trivial) (an (an e779 (ti (ti trivial))) (an e786 (an rt (an (ti trivial) trivial)))))) (ti trivial))
   ·rcases ifs h with ⟨h787, h⟩ | ⟨h787, h⟩
    ·have e788 := (show (0:Int) ≤ x12 ∧ x12 < ((3 : Nat) : Int) ∧ partV (x12.toNat * 2) (some 2) [vi a0.Fresh.Lo, vi a0.Fresh.Hi, vi a0.Loss.Lo, vi a0.Loss.Hi, vi a0.Back.Lo, vi a0.Back.Hi] = some (VV.ag (c_SRange a0.Loss)) from ⟨by have := (of_decide_eq_true (decide_eq_true h787)); omega, by have := (of_decide_eq_true (decide_eq_true h787)); omega, by rw [show x12 = (1 : Int) from (of_decide_eq_true (decide_eq_true h787))]; rfl⟩)
     obtain ⟨r789, h790, h⟩ := bs h
     have e791 := (nspeculumbase_Within_ok k a0.Loss.Lo 0 a0.Loss.Hi _ h790)
     rcases ifs h with ⟨h792, h⟩ | ⟨h792, h⟩
     ·have e793 := (ti (ti (ti (ti (an e791 (ti (ti (an (an (not_f h792) trivial) (an (an (not_f h792) trivial) (an (an (not_f h792) trivial) (an (not_f h792) trivial)))))))))))
      rcases ifs h with ⟨h794, h⟩ | ⟨h794, h⟩
      ·injection h with h; subst h
       exact round_stop (c := ⟨[(2, none)], [], []⟩) (s1 := (nspeculumref08_CheckAging_l0_0_e0 a0 ())) pm pn (ans := [.reg (.n :: []), .br true, .reg (.v (VV.ag (c_SRange a0.Loss)) :: .n :: .n :: []), .reg (nN 4 (.call (vb r789) :: nN 5 (.b false :: []))), .br true, .reg (.n :: [])]) (by kernel_rfl) (by intro e; cases e) (an (an (ti trivial) (an (an (decide_eq_true h777) trivial) (an (an e788 (ti (ti trivial))) (an e793 (an (decide_eq_true h794) (an (ti trivial) trivial)))))) (ti trivial))
      ·have h2 := ih _ _ h
       obtain ⟨q, hv, hq⟩ := pkR (rd := none) (P := Go.Proofs.Try.prog) (fn := Go.Proofs.Try.f21) (k := 0) (s := (nspeculumref08_CheckAging_l0_0_h a0 x12)) (ans := [.reg (.n :: []), .br true, .reg (.v (VV.ag (c_SRange a0.Loss)) :: .n :: .n :: []), .reg (nN 4 (.call (vb r789) :: nN 5 (.b false :: []))), .br false, .reg (.n :: .n :: [])]) (c := ⟨[(1, none), (11, none), (12, none)], [none], []⟩) (e := .normal) (s1 := (nspeculumref08_CheckAging_l0_0_h a0 (w64 (x12 + 1)))) (an (an (ti trivial) (an (an (decide_eq_true h777) trivial) (an (an (an e788 (ti (ti trivial))) (an e793 (an (decide_eq_false h794) trivial))) (ti (ti trivial))))) (ti trivial)) (by kernel_rfl)
       cases r with
       | inl r => exact round_next pm pn hv hq h2
       | inr r =>
        exact round_next pm pn hv hq h2
     ·have e795 := (ti (ti (ti (ti (an e791 (ti (ti (an (not_t (bool_f h792)) (an (not_t (bool_f h792)) (an (not_t (bool_f h792)) (an (not_t (bool_f h792)) trivial)))))))))))
      injection h with h; subst h
      exact round_stop (c := ⟨[(2, none)], [], []⟩) (s1 := (nspeculumref08_CheckAging_l0_0_e0 a0 ())) pm pn (ans := [.reg (.n :: []), .br true, .reg (.v (VV.ag (c_SRange a0.Loss)) :: .n :: .n :: []), .reg (nN 4 (.call (vb r789) :: .n :: .n :: nS 3 (.b true :: []))), .br true, .reg (.n :: [])]) (by kernel_rfl) (by intro e; cases e) (an (an (ti trivial) (an (an (decide_eq_true h777) trivial) (an (an e788 (ti (ti trivial))) (an e795 (an rt (an (ti trivial) trivial)))))) (ti trivial))
    ·rcases ifs h with ⟨h796, h⟩ | ⟨h796, h⟩
     ·have e797 := (show (0:Int) ≤ x12 ∧ x12 < ((3 : Nat) : Int) ∧ partV (x12.toNat * 2) (some 2) [vi a0.Fresh.Lo, vi a0.Fresh.Hi, vi a0.Loss.Lo, vi a0.Loss.Hi, vi a0.Back.Lo, vi a0.Back.Hi] = some (VV.ag (c_SRange a0.Back)) from ⟨by have := (of_decide_eq_true (decide_eq_true h796)); omega, by have := (of_decide_eq_true (decide_eq_true h796)); omega, by rw [show x12 = (2 : Int) from (of_decide_eq_true (decide_eq_true h796))]; rfl⟩)
      obtain ⟨r798, h799, h⟩ := bs h
      have e800 := (nspeculumbase_Within_ok k a0.Back.Lo 0 a0.Back.Hi _ h799)
      rcases ifs h with ⟨h801, h⟩ | ⟨h801, h⟩
      ·have e802 := (ti (ti (ti (ti (an e800 (ti (ti (an (an (not_f h801) trivial) (an (an (not_f h801) trivial) (an (an (not_f h801) trivial) (an (not_f h801) trivial)))))))))))
       rcases ifs h with ⟨h803, h⟩ | ⟨h803, h⟩
       ·injection h with h; subst h
        exact round_stop (c := ⟨[(2, none)], [], []⟩) (s1 := (nspeculumref08_CheckAging_l0_0_e0 a0 ())) pm pn (ans := [.reg (.n :: []), .br true, .reg (.v (VV.ag (c_SRange a0.Back)) :: .n :: .n :: []), .reg (nN 4 (.call (vb r798) :: nN 5 (.b false :: []))), .br true, .reg (.n :: [])]) (by kernel_rfl) (by intro e; cases e) (an (an (ti trivial) (an (an (decide_eq_true h777) trivial) (an (an e797 (ti (ti trivial))) (an e802 (an (decide_eq_true h803) (an (ti trivial) trivial)))))) (ti trivial))
       ·have h2 := ih _ _ h
        obtain ⟨q, hv, hq⟩ := pkR (rd := none) (P := Go.Proofs.Try.prog) (fn := Go.Proofs.Try.f21) (k := 0) (s := (nspeculumref08_CheckAging_l0_0_h a0 x12)) (ans := [.reg (.n :: []), .br true, .reg (.v (VV.ag (c_SRange a0.Back)) :: .n :: .n :: []), .reg (nN 4 (.call (vb r798) :: nN 5 (.b false :: []))), .br false, .reg (.n :: .n :: [])]) (c := ⟨[(1, none), (11, none), (12, none)], [none], []⟩) (e := .normal) (s1 := (nspeculumref08_CheckAging_l0_0_h a0 (w64 (x12 + 1)))) (an (an (ti trivial) (an (an (decide_eq_true h777) trivial) (an (an (an e797 (ti (ti trivial))) (an e802 (an (decide_eq_false h803) trivial))) (ti (ti trivial))))) (ti trivial)) (by kernel_rfl)
        cases r with
        | inl r => exact round_next pm pn hv hq h2
        | inr r =>
         exact round_next pm pn hv hq h2
      ·have e804 := (ti (ti (ti (ti (an e800 (ti (ti (an (not_t (bool_f h801)) (an (not_t (bool_f h801)) (an (not_t (bool_f h801)) (an (not_t (bool_f h801)) trivial)))))))))))
       injection h with h; subst h
       exact round_stop (c := ⟨[(2, none)], [], []⟩) (s1 := (nspeculumref08_CheckAging_l0_0_e0 a0 ())) pm pn (ans := [.reg (.n :: []), .br true, .reg (.v (VV.ag (c_SRange a0.Back)) :: .n :: .n :: []), .reg (nN 4 (.call (vb r798) :: .n :: .n :: nS 3 (.b true :: []))), .br true, .reg (.n :: [])]) (by kernel_rfl) (by intro e; cases e) (an (an (ti trivial) (an (an (decide_eq_true h777) trivial) (an (an e797 (ti (ti trivial))) (an e804 (an rt (an (ti trivial) trivial)))))) (ti trivial))
     ·cases h
  ·injection h with h; subst h
   exact round_stop (c := ⟨[(1, none)], [none], []⟩) (s1 := (nspeculumref08_CheckAging_l0_0_e1 a0 ())) pm pn (ans := [.reg (.n :: []), .br false]) (by kernel_rfl) (by intro e; cases e) (an (an (ti trivial) (an (decide_eq_false h777) trivial)) (ti trivial))
def nspeculumref08_CheckAging (k : Nat) (a0 : SAging) : Option Int :=
  (nspeculumref08_CheckAging_l0_0 k a0 k 0).bind fun r806 => (match r806 with | .inl r807 => (some 2) | .inr r808 => ((nspeculumbase_Within k a0.Washes 0 100).bind fun r811 => (if r811 = true then (some 0) else (some 2))))
theorem nspeculumref08_CheckAging_ok (k : Nat) (a0 : SAging) (r : Int) (h : nspeculumref08_CheckAging k a0 = some r) : VC Go.Proofs.Try.prog 21 [VV.ag (c_SAging a0)] (vi r) := by
 unfold nspeculumref08_CheckAging at h
 obtain ⟨r806, h805, h⟩ := bs h
 have hph805 := nspeculumref08_CheckAging_l0_0_ok k a0 _ _ _ h805
 cases r806 with
 | inl r807 =>
  dsimp only at h
  have e809 := (an (ti trivial) (VRun.loop hph805))
  injection h with h; subst h
  exact fun_ok pm pn Go.Proofs.Try.func21 (r0 := vi 2) (ans := [.reg (.n :: .n :: []), .reg (nN 8 []), .sub ⟨[(1, none), (11, none), (12, none)], [none], []⟩ .ret (nspeculumref08_CheckAging_l0_0_e0 a0 r807)]) (fr := true) (by kernel_rfl) (an (an (ti (ti trivial)) (an (ti (ti (ti (ti (ti (ti (ti (ti trivial)))))))) e809)) (ti trivial)) (Wv.refl _)
 | inr r808 =>
  dsimp only at h
  have e810 := (an (ti trivial) (VRun.loop hph805))
  obtain ⟨r811, h812, h⟩ := bs h
  have e813 := (nspeculumbase_Within_ok k a0.Washes 0 100 _ h812)
  rcases ifs h with ⟨h814, h⟩ | ⟨h814, h⟩
  ·injection h with h; subst h
   exact fun_ok pm pn Go.Proofs.Try.func21 (r0 := vi 0) (ans := [.reg (.n :: .n :: []), .reg (nN 8 []), .sub ⟨[(1, none), (11, none), (12, none)], [none], []⟩ (.exit 0) (nspeculumref08_CheckAging_l0_0_e1 a0 r808), .reg (.n :: .n :: .call (vb r811) :: .n :: []), .br false, .reg (.n :: [])]) (fr := true) (by kernel_rfl) (an (an (ti (ti trivial)) (an (an (ti (ti (ti (ti (ti (ti (ti (ti trivial)))))))) e810) (an (an (ti (ti (an e813 (ti trivial)))) (an (not_f h814) trivial)) (an (ti trivial) trivial)))) (ti trivial)) (Wv.refl _)
  ·injection h with h; subst h
   exact fun_ok pm pn Go.Proofs.Try.func21 (r0 := vi 2) (ans := [.reg (.n :: .n :: []), .reg (nN 8 []), .sub ⟨[(1, none), (11, none), (12, none)], [none], []⟩ (.exit 0) (nspeculumref08_CheckAging_l0_0_e1 a0 r808), .reg (.n :: .n :: .call (vb r811) :: .n :: []), .br true, .reg (.n :: [])]) (fr := true) (by kernel_rfl) (an (an (ti (ti trivial)) (an (an (ti (ti (ti (ti (ti (ti (ti (ti trivial)))))))) e810) (an (ti (ti (an e813 (ti trivial)))) (an (not_t (bool_f h814)) (an (ti trivial) trivial))))) (ti trivial)) (Wv.refl _)
def nspeculumbase_isLetter (k : Nat) (a0 : Int) : Option Bool :=
  if 97 ≤ a0 then (if a0 ≤ 122 then (some true) else (if 65 ≤ a0 then (some (decide (a0 ≤ 90))) else (some false))) else (if 65 ≤ a0 then (some (decide (a0 ≤ 90))) else (some false))
theorem nspeculumbase_isLetter_ok (k : Nat) (a0 : Int) (r : Bool) (h : nspeculumbase_isLetter k a0 = some r) : VC Go.Proofs.Try.prog 54 [VV.c (.int .u8 a0)] (vb r) := by
 unfold nspeculumbase_isLetter at h
 rcases ifs h with ⟨h835, h⟩ | ⟨h835, h⟩
 ·rcases ifs h with ⟨h836, h⟩ | ⟨h836, h⟩
  ·have e837 := (ti (ti (ti (an (an (decide_eq_true h835) trivial) (an (an (decide_eq_true h835) trivial) (an (decide_eq_true h835) (ti (an (decide_eq_true h836) (an (decide_eq_true h836) (an (decide_eq_true h836) (ti (ti (an (decide_eq_true h836) (an (decide_eq_true h836) (ti trivial)))))))))))))))
   injection h with h; subst h
   exact fun_ok pm pn Go.Proofs.Try.func54 (r0 := vb true) (ans := [.reg (.n :: []), .reg (nN 5 (.b true :: .n :: nS 6 (.b true :: .n :: [])))]) (fr := true) (by kernel_rfl) (an (an (ti trivial) (an e837 trivial)) (ti trivial)) (Wv.refl _)
  ·rcases ifs h with ⟨h838, h⟩ | ⟨h838, h⟩
   ·have e839 := (an (decide_eq_false h836) (decide_eq_true h838))
    have e840 := (ti (ti (ti (an (an (decide_eq_true h835) trivial) (an (an (decide_eq_true h835) trivial) (an (decide_eq_true h835) (ti (an (an (decide_eq_false h836) trivial) (an (an (decide_eq_false h836) trivial) (an (an (decide_eq_false h836) trivial) (an (an (decide_eq_true h838) trivial) (an (an (decide_eq_true h838) trivial) (an e839 (an (decide_eq_false h836) (ti trivial)))))))))))))))
    injection h with h; subst h
    exact fun_ok pm pn Go.Proofs.Try.func54 (r0 := vb (decide (a0 ≤ 90))) (ans := [.reg (.n :: []), .reg (nN 5 (.b true :: nN 6 (.b true :: .b false :: .n :: [])))]) (fr := true) (by kernel_rfl) (an (an (ti trivial) (an e840 trivial)) (ti trivial)) (Wv.refl _)
   ·have e841 := (an (decide_eq_false h836) (decide_eq_false h838))
    have e842 := (ti (ti (ti (an (an (decide_eq_true h835) trivial) (an (an (decide_eq_true h835) trivial) (an (decide_eq_true h835) (ti (an (an (decide_eq_false h836) trivial) (an (an (decide_eq_false h836) trivial) (an (an (decide_eq_false h836) trivial) (an (decide_eq_false h838) (an (decide_eq_false h838) (an e841 (an (decide_eq_false h836) (ti trivial)))))))))))))))
    injection h with h; subst h
    exact fun_ok pm pn Go.Proofs.Try.func54 (r0 := vb false) (ans := [.reg (.n :: []), .reg (nN 5 (.b true :: nN 4 (.skip :: .skip :: .b false :: .b false :: .n :: [])))]) (fr := true) (by kernel_rfl) (an (an (ti trivial) (an e842 trivial)) (ti trivial)) (Wv.refl _)
 ·rcases ifs h with ⟨h843, h⟩ | ⟨h843, h⟩
  ·have e844 := (ti (ti (ti (an (decide_eq_false h835) (an (decide_eq_false h835) (an (decide_eq_false h835) (ti (an (an rf trivial) (an (an rf trivial) (an (an rf trivial) (an (an (decide_eq_true h843) trivial) (an (an (decide_eq_true h843) trivial) (an (an rf (decide_eq_true h843)) (an rf (ti trivial)))))))))))))))
   injection h with h; subst h
   exact fun_ok pm pn Go.Proofs.Try.func54 (r0 := vb (decide (a0 ≤ 90))) (ans := [.reg (.n :: []), .reg (nN 3 (.skip :: .skip :: .b false :: nN 6 (.b true :: .b false :: .n :: [])))]) (fr := true) (by kernel_rfl) (an (an (ti trivial) (an e844 trivial)) (ti trivial)) (Wv.refl _)
  ·have e845 := (ti (ti (ti (an (decide_eq_false h835) (an (decide_eq_false h835) (an (decide_eq_false h835) (ti (an (an rf trivial) (an (an rf trivial) (an (an rf trivial) (an (decide_eq_false h843) (an (decide_eq_false h843) (an (an rf (decide_eq_false h843)) (an rf (ti trivial)))))))))))))))
   injection h with h; subst h
   exact fun_ok pm pn Go.Proofs.Try.func54 (r0 := vb false) (ans := [.reg (.n :: []), .reg arZ1_0]) (fr := true) (by kernel_rfl) (an (an (ti trivial) (an e845 trivial)) (ti trivial)) (Wv.refl _)
def nspeculumbase_isDigit (k : Nat) (a0 : Int) : Option Bool :=
  if 48 ≤ a0 then (some (decide (a0 ≤ 57))) else (some false)
theorem nspeculumbase_isDigit_ok (k : Nat) (a0 : Int) (r : Bool) (h : nspeculumbase_isDigit k a0 = some r) : VC Go.Proofs.Try.prog 55 [VV.c (.int .u8 a0)] (vb r) := by
 unfold nspeculumbase_isDigit at h
 rcases ifs h with ⟨h861, h⟩ | ⟨h861, h⟩
 ·have e862 := (ti (ti (ti (an (an (decide_eq_true h861) trivial) (an (an (decide_eq_true h861) trivial) (an (decide_eq_true h861) (ti trivial)))))))
  injection h with h; subst h
  exact fun_ok pm pn Go.Proofs.Try.func55 (r0 := vb (decide (a0 ≤ 57))) (ans := [.reg (.n :: []), .reg (nN 5 (.b true :: .n :: []))]) (fr := true) (by kernel_rfl) (an (an (ti trivial) (an e862 trivial)) (ti trivial)) (Wv.refl _)
 ·have e863 := (ti (ti (ti (an (decide_eq_false h861) (an (decide_eq_false h861) (an (decide_eq_false h861) (ti trivial)))))))
  injection h with h; subst h
  exact fun_ok pm pn Go.Proofs.Try.func55 (r0 := vb false) (ans := [.reg (.n :: []), .reg (nN 3 (.skip :: .skip :: .b false :: .n :: []))]) (fr := true) (by kernel_rfl) (an (an (ti trivial) (an e863 trivial)) (ti trivial)) (Wv.refl _)
def arZ1_9 (z0 : Bool) (z1 : Bool) : List Ans := (nN 3 (.call (vb z0) :: nN 5 (.call (vb z1) :: .n :: .b true :: .n :: nS 4 (.b false :: []))))
def arZ1_10 (z0 : Bool) (z1 : Bool) : List Ans := (nN 3 (.call (vb z0) :: nN 5 (.call (vb z1) :: .n :: .b true :: nN 5 (.b true :: []))))
def nspeculumbase_IsName_l0_0_h (a0 : ByteArray) (x3 : Int) : VS := ⟨mkA [(0, vs a0), (3, vi x3)], [], .nil⟩
def nspeculumbase_IsName_l0_0_e0 (a0 : ByteArray) (r : Unit) : VS := ⟨mkA [(2, vb false)], [], .nil⟩
def nspeculumbase_IsName_l0_0_e1 (a0 : ByteArray) (r : Unit) : VS := ⟨mkA [], [], .nil⟩
def nspeculumbase_IsName_l0_0 (k : Nat) (a0 : ByteArray) : Nat → Int → Option (Sum Unit Unit)
  | 0, _ => none
  | fuel + 1, x3 => if x3 < (a0.size : Int) then (if 0 ≤ x3 ∧ x3 < (a0.size : Int) then ((nspeculumbase_isLetter k (bat a0 x3)).bind fun r945 => (if r945 = true then (nspeculumbase_IsName_l0_0 k a0 fuel (w64 (x3 + 1))) else ((nspeculumbase_isDigit k (bat a0 x3)).bind fun r950 => (if r950 = true then (nspeculumbase_IsName_l0_0 k a0 fuel (w64 (x3 + 1))) else (if (bat a0 x3) = 45 then (nspeculumbase_IsName_l0_0 k a0 fuel (w64 (x3 + 1))) else (some (.inl ()))))))) else none) else (some (.inr ()))
theorem nspeculumbase_IsName_l0_0_ok (k : Nat) (a0 : ByteArray) : ∀ (fuel : Nat) (x3 : Int) (r : Sum Unit Unit), nspeculumbase_IsName_l0_0 k a0 fuel x3 = some r → (match r with | .inl r => VLoop none Go.Proofs.Try.prog (szF Go.Proofs.Try.f43) (bodyOf Go.Proofs.Try.f43 0) (nspeculumbase_IsName_l0_0_h a0 x3) .ret (nspeculumbase_IsName_l0_0_e0 a0 r) | .inr r => VLoop none Go.Proofs.Try.prog (szF Go.Proofs.Try.f43) (bodyOf Go.Proofs.Try.f43 0) (nspeculumbase_IsName_l0_0_h a0 x3) (.exit 0) (nspeculumbase_IsName_l0_0_e1 a0 r)) := by
 intro fuel
 induction fuel with
 | zero => intro x3 r h; rw [nspeculumbase_IsName_l0_0.eq_1] at h; cases h
 | succ fuel ih =>
  intro x3 r h
  rw [nspeculumbase_IsName_l0_0.eq_2] at h
  rcases ifs h with ⟨h943, h⟩ | ⟨h943, h⟩
  ·obtain ⟨h944, h⟩ := ifn h
   obtain ⟨r945, h946, h⟩ := bs h
   have e947 := (nspeculumbase_isLetter_ok k (bat a0 x3) _ h946)
   rcases ifs h with ⟨h948, h⟩ | ⟨h948, h⟩
   ·have e949 := (ti (ti (an h944 (an e947 (ti (ti (an (not_f h948) (an (not_f h948) (an (not_f h948) (an (not_f h948) (an (not_f h948) (an (not_f h948) (ti (an rf (an rf (an rf (an rf (an rf trivial))))))))))))))))))
    have h2 := ih _ _ h
    obtain ⟨q, hv, hq⟩ := pkR (rd := none) (P := Go.Proofs.Try.prog) (fn := Go.Proofs.Try.f43) (k := 0) (s := (nspeculumbase_IsName_l0_0_h a0 x3)) (ans := [.reg (nN 4 []), .br true, .reg (nN 3 (.call (vb r945) :: .n :: .n :: nS 5 (.b false :: .n :: nS 4 (.b false :: [])))), .br false, .reg (nN 3 [])]) (c := ⟨[(0, none), (3, none)], [], []⟩) (e := .normal) (s1 := (nspeculumbase_IsName_l0_0_h a0 (w64 (x3 + 1)))) (an (an (an (ti (ti (ti (ti trivial)))) (an (decide_eq_true h943) trivial)) (an (an e949 (an rf trivial)) (ti (ti (ti trivial))))) (ti trivial)) (by kernel_rfl)
    cases r with
    | inl r => exact round_next pm pn hv hq h2
    | inr r =>
     exact round_next pm pn hv hq h2
   ·obtain ⟨r950, h951, h⟩ := bs h
    have e952 := (an (not_t (bool_f h948)) (nspeculumbase_isDigit_ok k (bat a0 x3) _ h951))
    rcases ifs h with ⟨h953, h⟩ | ⟨h953, h⟩
    ·have e954 := (ti (ti (an h944 (an e947 (ti (ti (an (an (not_t (bool_f h948)) trivial) (an (an (not_t (bool_f h948)) trivial) (an (an (not_t (bool_f h948)) h944) (an e952 (an (an (not_t (bool_f h948)) trivial) (an (not_t (bool_f h948)) (ti (an (not_f h953) (an (not_f h953) (an (not_f h953) (an (not_f h953) (an (not_f h953) trivial))))))))))))))))))
     have h2 := ih _ _ h
     obtain ⟨q, hv, hq⟩ := pkR (rd := none) (P := Go.Proofs.Try.prog) (fn := Go.Proofs.Try.f43) (k := 0) (s := (nspeculumbase_IsName_l0_0_h a0 x3)) (ans := [.reg (nN 4 []), .br true, .reg (arZ1_9 r945 r950), .br false, .reg (nN 3 [])]) (c := ⟨[(0, none), (3, none)], [], []⟩) (e := .normal) (s1 := (nspeculumbase_IsName_l0_0_h a0 (w64 (x3 + 1)))) (an (an (an (ti (ti (ti (ti trivial)))) (an (decide_eq_true h943) trivial)) (an (an e954 (an rf trivial)) (ti (ti (ti trivial))))) (ti trivial)) (by kernel_rfl)
     cases r with
     | inl r => exact round_next pm pn hv hq h2
     | inr r =>
      exact round_next pm pn hv hq h2
    ·have e955 := (ti (ti (an h944 (an e947 (ti (ti (an (an (not_t (bool_f h948)) trivial) (an (an (not_t (bool_f h948)) trivial) (an (an (not_t (bool_f h948)) h944) (an e952 (an (an (not_t (bool_f h948)) trivial) (an (not_t (bool_f h948)) (ti (an (an (not_t (bool_f h953)) trivial) (an (an (not_t (bool_f h953)) trivial) (an (an (not_t (bool_f h953)) h944) (an (an (not_t (bool_f h953)) trivial) (an (not_t (bool_f h953)) trivial))))))))))))))))))
     rcases ifs h with ⟨h956, h⟩ | ⟨h956, h⟩
     ·have h2 := ih _ _ h
      obtain ⟨q, hv, hq⟩ := pkR (rd := none) (P := Go.Proofs.Try.prog) (fn := Go.Proofs.Try.f43) (k := 0) (s := (nspeculumbase_IsName_l0_0_h a0 x3)) (ans := [.reg (nN 4 []), .br true, .reg (arZ1_10 r945 r950), .br false, .reg (nN 3 [])]) (c := ⟨[(0, none), (3, none)], [], []⟩) (e := .normal) (s1 := (nspeculumbase_IsName_l0_0_h a0 (w64 (x3 + 1)))) (an (an (an (ti (ti (ti (ti trivial)))) (an (decide_eq_true h943) trivial)) (an (an e955 (an (not_f (decide_eq_true h956)) trivial)) (ti (ti (ti trivial))))) (ti trivial)) (by kernel_rfl)
      cases r with
      | inl r => exact round_next pm pn hv hq h2
      | inr r =>
       exact round_next pm pn hv hq h2
     ·injection h with h; subst h
      exact round_stop (c := ⟨[(2, none)], [], []⟩) (s1 := (nspeculumbase_IsName_l0_0_e0 a0 ())) pm pn (ans := [.reg (nN 4 []), .br true, .reg (arZ1_10 r945 r950), .br true, .reg (.n :: [])]) (by kernel_rfl) (by intro e; cases e) (an (an (an (ti (ti (ti (ti trivial)))) (an (decide_eq_true h943) trivial)) (an e955 (an (not_t (decide_eq_false h956)) (an (ti trivial) trivial)))) (ti trivial))
  ·injection h with h; subst h
   exact round_stop (c := ⟨[], [], []⟩) (s1 := (nspeculumbase_IsName_l0_0_e1 a0 ())) pm pn (ans := [.reg (nN 4 []), .br false]) (by kernel_rfl) (by intro e; cases e) (an (an (ti (ti (ti (ti trivial)))) (an (decide_eq_false h943) trivial)) (ti trivial))
def nspeculumbase_IsName (k : Nat) (a0 : ByteArray) : Option Bool :=
  if (a0.size : Int) = 0 then (some false) else (if 12 < (a0.size : Int) then (some false) else (if (0 : Int) ≤ 0 ∧ 0 < (a0.size : Int) then ((nspeculumbase_isLetter k (bat a0 0)).bind fun r910 => (if r910 = true then ((nspeculumbase_IsName_l0_0 k a0 k 0).bind fun r958 => (match r958 with | .inl r959 => (some false) | .inr r960 => (some true))) else (some false))) else none))
theorem nspeculumbase_IsName_ok (k : Nat) (a0 : ByteArray) (r : Bool) (h : nspeculumbase_IsName k a0 = some r) : VC Go.Proofs.Try.prog 43 [vs a0] (vb r) := by
 unfold nspeculumbase_IsName at h
 rcases ifs h with ⟨h905, h⟩ | ⟨h905, h⟩
 ·have e906 := (ti (ti (ti (ti (an (decide_eq_true h905) (an (decide_eq_true h905) (an (decide_eq_true h905) (an (decide_eq_true h905) (ti (an rt (an rt (an rt (an rt (an rt trivial))))))))))))))
  injection h with h; subst h
  exact fun_ok pm pn Go.Proofs.Try.func43 (r0 := vb false) (ans := [.reg (.n :: []), .reg (nN 4 (nS 3 (.b true :: .n :: nS 4 (.b true :: [])))), .br true, .reg (.n :: [])]) (fr := true) (by kernel_rfl) (an (an (ti trivial) (an e906 (an rt (an (ti trivial) trivial)))) (ti trivial)) (Wv.refl _)
 ·rcases ifs h with ⟨h907, h⟩ | ⟨h907, h⟩
  ·have e908 := (ti (ti (ti (ti (an (an (decide_eq_false h905) trivial) (an (an (decide_eq_false h905) trivial) (an (an (decide_eq_false h905) trivial) (an (decide_eq_false h905) (ti (an (decide_eq_true h907) (an (decide_eq_true h907) (an (decide_eq_true h907) (an (decide_eq_true h907) (an (decide_eq_true h907) trivial))))))))))))))
   injection h with h; subst h
   exact fun_ok pm pn Go.Proofs.Try.func43 (r0 := vb false) (ans := [.reg (.n :: []), .reg (nN 7 (.b false :: .n :: nS 4 (.b true :: []))), .br true, .reg (.n :: [])]) (fr := true) (by kernel_rfl) (an (an (ti trivial) (an e908 (an rt (an (ti trivial) trivial)))) (ti trivial)) (Wv.refl _)
  ·obtain ⟨h909, h⟩ := ifn h
   obtain ⟨r910, h911, h⟩ := bs h
   have e912 := (an (decide_eq_false h907) (nspeculumbase_isLetter_ok k (bat a0 0) _ h911))
   have e913 := (ti (ti (ti (ti (an (an (decide_eq_false h905) trivial) (an (an (decide_eq_false h905) trivial) (an (an (decide_eq_false h905) trivial) (an (decide_eq_false h905) (ti (an (an (decide_eq_false h907) trivial) (an (an (decide_eq_false h907) h909) (an e912 (an (an (decide_eq_false h907) trivial) (an (decide_eq_false h907) trivial))))))))))))))
   rcases ifs h with ⟨h914, h⟩ | ⟨h914, h⟩
   ·obtain ⟨r958, h957, h⟩ := bs h
    have hph957 := nspeculumbase_IsName_l0_0_ok k a0 _ _ _ h957
    cases r958 with
    | inl r959 =>
     dsimp only at h
     have e961 := (an (ti trivial) (VRun.loop hph957))
     injection h with h; subst h
     exact fun_ok pm pn Go.Proofs.Try.func43 (r0 := vb false) (ans := [.reg (.n :: []), .reg (nN 7 (.b false :: nN 3 (.call (vb r910) :: .n :: .b false :: []))), .br false, .reg (.n :: []), .sub ⟨[(0, none), (3, none)], [], []⟩ .ret (nspeculumbase_IsName_l0_0_e0 a0 r959)]) (fr := true) (by kernel_rfl) (an (an (ti trivial) (an (an e913 (an (not_f h914) trivial)) (an (ti trivial) e961))) (ti trivial)) (Wv.refl _)
    | inr r960 =>
     dsimp only at h
     have e962 := (an (ti trivial) (VRun.loop hph957))
     injection h with h; subst h
     exact fun_ok pm pn Go.Proofs.Try.func43 (r0 := vb true) (ans := [.reg (.n :: []), .reg (nN 7 (.b false :: nN 3 (.call (vb r910) :: .n :: .b false :: []))), .br false, .reg (.n :: []), .sub ⟨[(0, none), (3, none)], [], []⟩ (.exit 0) (nspeculumbase_IsName_l0_0_e1 a0 r960), .reg (.n :: [])]) (fr := true) (by kernel_rfl) (an (an (ti trivial) (an (an e913 (an (not_f h914) trivial)) (an (an (ti trivial) e962) (an (ti trivial) trivial)))) (ti trivial)) (Wv.refl _)
   ·injection h with h; subst h
    exact fun_ok pm pn Go.Proofs.Try.func43 (r0 := vb false) (ans := [.reg (.n :: []), .reg (nN 7 (.b false :: nN 3 (.call (vb r910) :: .n :: .b false :: []))), .br true, .reg (.n :: [])]) (fr := true) (by kernel_rfl) (an (an (ti trivial) (an e913 (an (not_t (bool_f h914)) (an (ti trivial) trivial)))) (ti trivial)) (Wv.refl _)
def nspeculumref08_CheckEvent (k : Nat) (a0 : SCoatEvent) : Option Int :=
  (nspeculumbase_IsName k a0.Mirror).bind fun r975 => (if r975 = true then ((nspeculumbase_Within k a0.Day 0 100000).bind fun r979 => (if r979 = true then ((nspeculumbase_Within k a0.Kind 0 2).bind fun r983 => (if r983 = true then (some 0) else (some 15))) else (some 2))) else (some 4))
theorem nspeculumref08_CheckEvent_ok (k : Nat) (a0 : SCoatEvent) (r : Int) (h : nspeculumref08_CheckEvent k a0 = some r) : VC Go.Proofs.Try.prog 34 [VV.ag (c_SCoatEvent a0)] (vi r) := by
 unfold nspeculumref08_CheckEvent at h
 obtain ⟨r975, h976, h⟩ := bs h
 have e977 := (nspeculumbase_IsName_ok k a0.Mirror _ h976)
 rcases ifs h with ⟨h978, h⟩ | ⟨h978, h⟩
 ·obtain ⟨r979, h980, h⟩ := bs h
  have e981 := (nspeculumbase_Within_ok k a0.Day 0 100000 _ h980)
  rcases ifs h with ⟨h982, h⟩ | ⟨h982, h⟩
  ·obtain ⟨r983, h984, h⟩ := bs h
   have e985 := (nspeculumbase_Within_ok k a0.Kind 0 2 _ h984)
   rcases ifs h with ⟨h986, h⟩ | ⟨h986, h⟩
   ·injection h with h; subst h
    exact fun_ok pm pn Go.Proofs.Try.func34 (r0 := vi 0) (ans := [.reg (.n :: .n :: []), .reg (.n :: .n :: .call (vb r975) :: .n :: []), .br false, .reg (.n :: .n :: .call (vb r979) :: .n :: []), .br false, .reg (.n :: .n :: .call (vb r983) :: .n :: []), .br false, .reg (.n :: [])]) (fr := true) (by kernel_rfl) (an (an (ti (ti trivial)) (an (an (ti (ti (an e977 (ti trivial)))) (an (not_f h978) trivial)) (an (an (ti (ti (an e981 (ti trivial)))) (an (not_f h982) trivial)) (an (an (ti (ti (an e985 (ti trivial)))) (an (not_f h986) trivial)) (an (ti trivial) trivial))))) (ti trivial)) (Wv.refl _)
   ·injection h with h; subst h
    exact fun_ok pm pn Go.Proofs.Try.func34 (r0 := vi 15) (ans := [.reg (.n :: .n :: []), .reg (.n :: .n :: .call (vb r975) :: .n :: []), .br false, .reg (.n :: .n :: .call (vb r979) :: .n :: []), .br false, .reg (.n :: .n :: .call (vb r983) :: .n :: []), .br true, .reg (.n :: [])]) (fr := true) (by kernel_rfl) (an (an (ti (ti trivial)) (an (an (ti (ti (an e977 (ti trivial)))) (an (not_f h978) trivial)) (an (an (ti (ti (an e981 (ti trivial)))) (an (not_f h982) trivial)) (an (ti (ti (an e985 (ti trivial)))) (an (not_t (bool_f h986)) (an (ti trivial) trivial)))))) (ti trivial)) (Wv.refl _)
  ·injection h with h; subst h
   exact fun_ok pm pn Go.Proofs.Try.func34 (r0 := vi 2) (ans := [.reg (.n :: .n :: []), .reg (.n :: .n :: .call (vb r975) :: .n :: []), .br false, .reg (.n :: .n :: .call (vb r979) :: .n :: []), .br true, .reg (.n :: [])]) (fr := true) (by kernel_rfl) (an (an (ti (ti trivial)) (an (an (ti (ti (an e977 (ti trivial)))) (an (not_f h978) trivial)) (an (ti (ti (an e981 (ti trivial)))) (an (not_t (bool_f h982)) (an (ti trivial) trivial))))) (ti trivial)) (Wv.refl _)
 ·injection h with h; subst h
  exact fun_ok pm pn Go.Proofs.Try.func34 (r0 := vi 4) (ans := [.reg (.n :: .n :: []), .reg (.n :: .n :: .call (vb r975) :: .n :: []), .br true, .reg (.n :: [])]) (fr := true) (by kernel_rfl) (an (an (ti (ti trivial)) (an (ti (ti (an e977 (ti trivial)))) (an (not_t (bool_f h978)) (an (ti trivial) trivial)))) (ti trivial)) (Wv.refl _)
def nspeculumref08_state_l0_0_h (a0 : SAging) (a1 : (List SCoatEvent)) (x5 : Int) (x6 : Int) : VS := ⟨mkA [(1, VV.tr (List.flatMap c_SCoatEvent a1) a1.length), (2, VV.pt 0 0), (5, vi x5), (6, vi x6)], [some ⟨true, 1, c_SAging a0⟩], .nil⟩
def nspeculumref08_state_l0_0_e0 (a0 : SAging) (a1 : (List SCoatEvent)) (r : Int) : VS := ⟨mkA [(5, vi r)], [], .nil⟩
def nspeculumref08_state_l0_0 (k : Nat) (a0 : SAging) (a1 : (List SCoatEvent)) : Nat → Int → Int → Option (Int)
  | 0, _, _ => none
  | fuel + 1, x5, x6 => if x6 < (a1.length : Int) then (if 0 ≤ x6 ∧ x6 < (a1.length : Int) then (if ((a1.getD x6.toNat default).Kind) = 0 then (if ((a1.getD x6.toNat default).Kind) = 1 then (if ((a1.getD x6.toNat default).Kind) = 2 then (nspeculumref08_state_l0_0 k a0 a1 fuel (-1) (w64 (x6 + 1))) else (nspeculumref08_state_l0_0 k a0 a1 fuel (w64 (a0.Washes - 1)) (w64 (x6 + 1)))) else (if ((a1.getD x6.toNat default).Kind) = 2 then (nspeculumref08_state_l0_0 k a0 a1 fuel (-1) (w64 (x6 + 1))) else (nspeculumref08_state_l0_0 k a0 a1 fuel a0.Washes (w64 (x6 + 1))))) else (if ((a1.getD x6.toNat default).Kind) = 1 then (if ((a1.getD x6.toNat default).Kind) = 2 then (nspeculumref08_state_l0_0 k a0 a1 fuel (-1) (w64 (x6 + 1))) else (nspeculumref08_state_l0_0 k a0 a1 fuel (w64 (x5 - 1)) (w64 (x6 + 1)))) else (if ((a1.getD x6.toNat default).Kind) = 2 then (nspeculumref08_state_l0_0 k a0 a1 fuel (-1) (w64 (x6 + 1))) else (nspeculumref08_state_l0_0 k a0 a1 fuel x5 (w64 (x6 + 1)))))) else none) else (some x5)
theorem nspeculumref08_state_l0_0_ok (k : Nat) (a0 : SAging) (a1 : (List SCoatEvent)) : ∀ (fuel : Nat) (x5 : Int) (x6 : Int) (r : Int), nspeculumref08_state_l0_0 k a0 a1 fuel x5 x6 = some r → (VLoop none Go.Proofs.Try.prog (szF Go.Proofs.Try.f23) (bodyOf Go.Proofs.Try.f23 0) (nspeculumref08_state_l0_0_h a0 a1 x5 x6) (.exit 0) (nspeculumref08_state_l0_0_e0 a0 a1 r)) := by
 intro fuel
 induction fuel with
 | zero => intro x5 x6 r h; rw [nspeculumref08_state_l0_0.eq_1] at h; cases h
 | succ fuel ih =>
  intro x5 x6 r h
  rw [nspeculumref08_state_l0_0.eq_2] at h
  rcases ifs h with ⟨h1083, h⟩ | ⟨h1083, h⟩
  ·obtain ⟨h1084, h⟩ := ifn h
   have e1085 := (show loadL Go.Proofs.Try.prog 3 (x6.toNat * 3 + 2) (List.flatMap c_SCoatEvent a1) = some (vi ((a1.getD x6.toNat default).Kind)) from (ld_flat ag3 c_SCoatEvent 3 2 len_c_SCoatEvent (by omega) a1 default h1084 (by omega)).trans rfl)
   rcases ifs h with ⟨h1086, h⟩ | ⟨h1086, h⟩
   ·have e1087 := (show loadL Go.Proofs.Try.prog 3 (x6.toNat * 3 + 2) (List.flatMap c_SCoatEvent a1) = some (vi ((a1.getD x6.toNat default).Kind)) from (ld_flat ag3 c_SCoatEvent 3 2 len_c_SCoatEvent (by omega) a1 default h1084 (by omega)).trans rfl)
    rcases ifs h with ⟨h1088, h⟩ | ⟨h1088, h⟩
    ·have e1089 := (show loadL Go.Proofs.Try.prog 3 (x6.toNat * 3 + 2) (List.flatMap c_SCoatEvent a1) = some (vi ((a1.getD x6.toNat default).Kind)) from (ld_flat ag3 c_SCoatEvent 3 2 len_c_SCoatEvent (by omega) a1 default h1084 (by omega)).trans rfl)
     rcases ifs h with ⟨h1090, h⟩ | ⟨h1090, h⟩
     ·have h2 := ih _ _ _ h
      obtain ⟨q, hv, hq⟩ := pkR (rd := none) (P := Go.Proofs.Try.prog) (fn := Go.Proofs.Try.f23) (k := 0) (s := (nspeculumref08_state_l0_0_h a0 a1 x5 x6)) (ans := [.reg (nN 4 []), .br true, .reg (nN 4 (.v (vi ((a1.getD x6.toNat default).Kind)) :: .n :: [])), .br true, .reg (nN 3 []), .reg (nN 4 (.v (vi ((a1.getD x6.toNat default).Kind)) :: .n :: [])), .br true, .reg (nN 3 []), .reg (nN 4 (.v (vi ((a1.getD x6.toNat default).Kind)) :: .n :: [])), .br true, .reg (.n :: []), .reg (nN 3 [])]) (c := ⟨[(1, none), (2, none), (5, none), (6, none)], [none], []⟩) (e := .normal) (s1 := (nspeculumref08_state_l0_0_h a0 a1 (-1) (w64 (x6 + 1)))) (an (an (an (ti (ti (ti (ti trivial)))) (an (decide_eq_true h1083) trivial)) (an (an (an (ti (ti (an h1084 (ti (an e1085 (ti trivial)))))) (an (decide_eq_true h1086) (ti (ti (ti trivial))))) (an (an (ti (ti (an h1084 (ti (an e1087 (ti trivial)))))) (an (decide_eq_true h1088) (ti (ti (ti trivial))))) (an (ti (ti (an h1084 (ti (an e1089 (ti trivial)))))) (an (decide_eq_true h1090) (ti trivial))))) (ti (ti (ti trivial))))) (ti trivial)) (by kernel_rfl)
      exact round_next pm pn hv hq h2
     ·have h2 := ih _ _ _ h
      obtain ⟨q, hv, hq⟩ := pkR (rd := none) (P := Go.Proofs.Try.prog) (fn := Go.Proofs.Try.f23) (k := 0) (s := (nspeculumref08_state_l0_0_h a0 a1 x5 x6)) (ans := [.reg (nN 4 []), .br true, .reg (nN 4 (.v (vi ((a1.getD x6.toNat default).Kind)) :: .n :: [])), .br true, .reg (nN 3 []), .reg (nN 4 (.v (vi ((a1.getD x6.toNat default).Kind)) :: .n :: [])), .br true, .reg (nN 3 []), .reg (nN 4 (.v (vi ((a1.getD x6.toNat default).Kind)) :: .n :: [])), .br false, .reg (nN 3 [])]) (c := ⟨[(1, none), (2, none), (5, none), (6, none)], [none], []⟩) (e := .normal) (s1 := (nspeculumref08_state_l0_0_h a0 a1 (w64 (a0.Washes - 1)) (w64 (x6 + 1)))) (an (an (an (ti (ti (ti (ti trivial)))) (an (decide_eq_true h1083) trivial)) (an (an (an (ti (ti (an h1084 (ti (an e1085 (ti trivial)))))) (an (decide_eq_true h1086) (ti (ti (ti trivial))))) (an (an (ti (ti (an h1084 (ti (an e1087 (ti trivial)))))) (an (decide_eq_true h1088) (ti (ti (ti trivial))))) (an (ti (ti (an h1084 (ti (an e1089 (ti trivial)))))) (an (decide_eq_false h1090) trivial)))) (ti (ti (ti trivial))))) (ti trivial)) (by kernel_rfl)
      exact round_next pm pn hv hq h2
    ·have e1091 := (show loadL Go.Proofs.Try.prog 3 (x6.toNat * 3 + 2) (List.flatMap c_SCoatEvent a1) = some (vi ((a1.getD x6.toNat default).Kind)) from (ld_flat ag3 c_SCoatEvent 3 2 len_c_SCoatEvent (by omega) a1 default h1084 (by omega)).trans rfl)
     rcases ifs h with ⟨h1092, h⟩ | ⟨h1092, h⟩
     ·have h2 := ih _ _ _ h
      obtain ⟨q, hv, hq⟩ := pkR (rd := none) (P := Go.Proofs.Try.prog) (fn := Go.Proofs.Try.f23) (k := 0) (s := (nspeculumref08_state_l0_0_h a0 a1 x5 x6)) (ans := [.reg (nN 4 []), .br true, .reg (nN 4 (.v (vi ((a1.getD x6.toNat default).Kind)) :: .n :: [])), .br true, .reg (nN 3 []), .reg (nN 4 (.v (vi ((a1.getD x6.toNat default).Kind)) :: .n :: [])), .br false, .reg (nN 4 (.v (vi ((a1.getD x6.toNat default).Kind)) :: .n :: [])), .br true, .reg (.n :: []), .reg (nN 3 [])]) (c := ⟨[(1, none), (2, none), (5, none), (6, none)], [none], []⟩) (e := .normal) (s1 := (nspeculumref08_state_l0_0_h a0 a1 (-1) (w64 (x6 + 1)))) (an (an (an (ti (ti (ti (ti trivial)))) (an (decide_eq_true h1083) trivial)) (an (an (an (ti (ti (an h1084 (ti (an e1085 (ti trivial)))))) (an (decide_eq_true h1086) (ti (ti (ti trivial))))) (an (an (ti (ti (an h1084 (ti (an e1087 (ti trivial)))))) (an (decide_eq_false h1088) trivial)) (an (ti (ti (an h1084 (ti (an e1091 (ti trivial)))))) (an (decide_eq_true h1092) (ti trivial))))) (ti (ti (ti trivial))))) (ti trivial)) (by kernel_rfl)
      exact round_next pm pn hv hq h2
     ·have h2 := ih _ _ _ h
      obtain ⟨q, hv, hq⟩ := pkR (rd := none) (P := Go.Proofs.Try.prog) (fn := Go.Proofs.Try.f23) (k := 0) (s := (nspeculumref08_state_l0_0_h a0 a1 x5 x6)) (ans := [.reg (nN 4 []), .br true, .reg (nN 4 (.v (vi ((a1.getD x6.toNat default).Kind)) :: .n :: [])), .br true, .reg (nN 3 []), .reg (nN 4 (.v (vi ((a1.getD x6.toNat default).Kind)) :: .n :: [])), .br false, .reg (nN 4 (.v (vi ((a1.getD x6.toNat default).Kind)) :: .n :: [])), .br false, .reg (nN 3 [])]) (c := ⟨[(1, none), (2, none), (5, none), (6, none)], [none], []⟩) (e := .normal) (s1 := (nspeculumref08_state_l0_0_h a0 a1 a0.Washes (w64 (x6 + 1)))) (an (an (an (ti (ti (ti (ti trivial)))) (an (decide_eq_true h1083) trivial)) (an (an (an (ti (ti (an h1084 (ti (an e1085 (ti trivial)))))) (an (decide_eq_true h1086) (ti (ti (ti trivial))))) (an (an (ti (ti (an h1084 (ti (an e1087 (ti trivial)))))) (an (decide_eq_false h1088) trivial)) (an (ti (ti (an h1084 (ti (an e1091 (ti trivial)))))) (an (decide_eq_false h1092) trivial)))) (ti (ti (ti trivial))))) (ti trivial)) (by kernel_rfl)
      exact round_next pm pn hv hq h2
   ·have e1093 := (show loadL Go.Proofs.Try.prog 3 (x6.toNat * 3 + 2) (List.flatMap c_SCoatEvent a1) = some (vi ((a1.getD x6.toNat default).Kind)) from (ld_flat ag3 c_SCoatEvent 3 2 len_c_SCoatEvent (by omega) a1 default h1084 (by omega)).trans rfl)
    rcases ifs h with ⟨h1094, h⟩ | ⟨h1094, h⟩
    ·have e1095 := (show loadL Go.Proofs.Try.prog 3 (x6.toNat * 3 + 2) (List.flatMap c_SCoatEvent a1) = some (vi ((a1.getD x6.toNat default).Kind)) from (ld_flat ag3 c_SCoatEvent 3 2 len_c_SCoatEvent (by omega) a1 default h1084 (by omega)).trans rfl)
     rcases ifs h with ⟨h1096, h⟩ | ⟨h1096, h⟩
     ·have h2 := ih _ _ _ h
      obtain ⟨q, hv, hq⟩ := pkR (rd := none) (P := Go.Proofs.Try.prog) (fn := Go.Proofs.Try.f23) (k := 0) (s := (nspeculumref08_state_l0_0_h a0 a1 x5 x6)) (ans := [.reg (nN 4 []), .br true, .reg (nN 4 (.v (vi ((a1.getD x6.toNat default).Kind)) :: .n :: [])), .br false, .reg (nN 4 (.v (vi ((a1.getD x6.toNat default).Kind)) :: .n :: [])), .br true, .reg (nN 3 []), .reg (nN 4 (.v (vi ((a1.getD x6.toNat default).Kind)) :: .n :: [])), .br true, .reg (.n :: []), .reg (nN 3 [])]) (c := ⟨[(1, none), (2, none), (5, none), (6, none)], [none], []⟩) (e := .normal) (s1 := (nspeculumref08_state_l0_0_h a0 a1 (-1) (w64 (x6 + 1)))) (an (an (an (ti (ti (ti (ti trivial)))) (an (decide_eq_true h1083) trivial)) (an (an (an (ti (ti (an h1084 (ti (an e1085 (ti trivial)))))) (an (decide_eq_false h1086) trivial)) (an (an (ti (ti (an h1084 (ti (an e1093 (ti trivial)))))) (an (decide_eq_true h1094) (ti (ti (ti trivial))))) (an (ti (ti (an h1084 (ti (an e1095 (ti trivial)))))) (an (decide_eq_true h1096) (ti trivial))))) (ti (ti (ti trivial))))) (ti trivial)) (by kernel_rfl)
      exact round_next pm pn hv hq h2
     ·have h2 := ih _ _ _ h
      obtain ⟨q, hv, hq⟩ := pkR (rd := none) (P := Go.Proofs.Try.prog) (fn := Go.Proofs.Try.f23) (k := 0) (s := (nspeculumref08_state_l0_0_h a0 a1 x5 x6)) (ans := [.reg (nN 4 []), .br true, .reg (nN 4 (.v (vi ((a1.getD x6.toNat default).Kind)) :: .n :: [])), .br false, .reg (nN 4 (.v (vi ((a1.getD x6.toNat default).Kind)) :: .n :: [])), .br true, .reg (nN 3 []), .reg (nN 4 (.v (vi ((a1.getD x6.toNat default).Kind)) :: .n :: [])), .br false, .reg (nN 3 [])]) (c := ⟨[(1, none), (2, none), (5, none), (6, none)], [none], []⟩) (e := .normal) (s1 := (nspeculumref08_state_l0_0_h a0 a1 (w64 (x5 - 1)) (w64 (x6 + 1)))) (an (an (an (ti (ti (ti (ti trivial)))) (an (decide_eq_true h1083) trivial)) (an (an (an (ti (ti (an h1084 (ti (an e1085 (ti trivial)))))) (an (decide_eq_false h1086) trivial)) (an (an (ti (ti (an h1084 (ti (an e1093 (ti trivial)))))) (an (decide_eq_true h1094) (ti (ti (ti trivial))))) (an (ti (ti (an h1084 (ti (an e1095 (ti trivial)))))) (an (decide_eq_false h1096) trivial)))) (ti (ti (ti trivial))))) (ti trivial)) (by kernel_rfl)
      exact round_next pm pn hv hq h2
    ·have e1097 := (show loadL Go.Proofs.Try.prog 3 (x6.toNat * 3 + 2) (List.flatMap c_SCoatEvent a1) = some (vi ((a1.getD x6.toNat default).Kind)) from (ld_flat ag3 c_SCoatEvent 3 2 len_c_SCoatEvent (by omega) a1 default h1084 (by omega)).trans rfl)
     rcases ifs h with ⟨h1098, h⟩ | ⟨h1098, h⟩
     ·have h2 := ih _ _ _ h
      obtain ⟨q, hv, hq⟩ := pkR (rd := none) (P := Go.Proofs.Try.prog) (fn := Go.Proofs.Try.f23) (k := 0) (s := (nspeculumref08_state_l0_0_h a0 a1 x5 x6)) (ans := [.reg (nN 4 []), .br true, .reg (nN 4 (.v (vi ((a1.getD x6.toNat default).Kind)) :: .n :: [])), .br false, .reg (nN 4 (.v (vi ((a1.getD x6.toNat default).Kind)) :: .n :: [])), .br false, .reg (nN 4 (.v (vi ((a1.getD x6.toNat default).Kind)) :: .n :: [])), .br true, .reg (.n :: []), .reg (nN 3 [])]) (c := ⟨[(1, none), (2, none), (5, none), (6, none)], [none], []⟩) (e := .normal) (s1 := (nspeculumref08_state_l0_0_h a0 a1 (-1) (w64 (x6 + 1)))) (an (an (an (ti (ti (ti (ti trivial)))) (an (decide_eq_true h1083) trivial)) (an (an (an (ti (ti (an h1084 (ti (an e1085 (ti trivial)))))) (an (decide_eq_false h1086) trivial)) (an (an (ti (ti (an h1084 (ti (an e1093 (ti trivial)))))) (an (decide_eq_false h1094) trivial)) (an (ti (ti (an h1084 (ti (an e1097 (ti trivial)))))) (an (decide_eq_true h1098) (ti trivial))))) (ti (ti (ti trivial))))) (ti trivial)) (by kernel_rfl)
      exact round_next pm pn hv hq h2
     ·have h2 := ih _ _ _ h
      obtain ⟨q, hv, hq⟩ := pkR (rd := none) (P := Go.Proofs.Try.prog) (fn := Go.Proofs.Try.f23) (k := 0) (s := (nspeculumref08_state_l0_0_h a0 a1 x5 x6)) (ans := [.reg (nN 4 []), .br true, .reg (nN 4 (.v (vi ((a1.getD x6.toNat default).Kind)) :: .n :: [])), .br false, .reg (nN 4 (.v (vi ((a1.getD x6.toNat default).Kind)) :: .n :: [])), .br false, .reg (nN 4 (.v (vi ((a1.getD x6.toNat default).Kind)) :: .n :: [])), .br false, .reg (nN 3 [])]) (c := ⟨[(1, none), (2, none), (5, none), (6, none)], [none], []⟩) (e := .normal) (s1 := (nspeculumref08_state_l0_0_h a0 a1 x5 (w64 (x6 + 1)))) (an (an (an (ti (ti (ti (ti trivial)))) (an (decide_eq_true h1083) trivial)) (an (an (an (ti (ti (an h1084 (ti (an e1085 (ti trivial)))))) (an (decide_eq_false h1086) trivial)) (an (an (ti (ti (an h1084 (ti (an e1093 (ti trivial)))))) (an (decide_eq_false h1094) trivial)) (an (ti (ti (an h1084 (ti (an e1097 (ti trivial)))))) (an (decide_eq_false h1098) trivial)))) (ti (ti (ti trivial))))) (ti trivial)) (by kernel_rfl)
      exact round_next pm pn hv hq h2
  ·injection h with h; subst h
   exact round_stop (c := ⟨[(5, none)], [], []⟩) (s1 := (nspeculumref08_state_l0_0_e0 a0 a1 x5)) pm pn (ans := [.reg (nN 4 []), .br false]) (by kernel_rfl) (by intro e; cases e) (an (an (ti (ti (ti (ti trivial)))) (an (decide_eq_false h1083) trivial)) (ti trivial))
def nspeculumref08_state (k : Nat) (a0 : SAging) (a1 : (List SCoatEvent)) : Option Int :=
  (nspeculumref08_state_l0_0 k a0 a1 k (-1) 0).bind fun r1100 => (some r1100)
theorem nspeculumref08_state_ok (k : Nat) (a0 : SAging) (a1 : (List SCoatEvent)) (r : Int) (h : nspeculumref08_state k a0 a1 = some r) : VC Go.Proofs.Try.prog 23 [VV.ag (c_SAging a0), VV.tr (List.flatMap c_SCoatEvent a1) a1.length] (vi r) := by
 unfold nspeculumref08_state at h
 obtain ⟨r1100, h1099, h⟩ := bs h
 have hph1099 := nspeculumref08_state_l0_0_ok k a0 a1 _ _ _ _ h1099
 have e1101 := (an (ti trivial) (VRun.loop hph1099))
 injection h with h; subst h
 exact fun_ok pm pn Go.Proofs.Try.func23 (r0 := vi r1100) (ans := [.reg (.n :: .n :: []), .reg (.n :: []), .reg (.n :: []), .sub ⟨[(1, none), (2, none), (5, none), (6, none)], [none], []⟩ (.exit 0) (nspeculumref08_state_l0_0_e0 a0 a1 r1100), .reg (.n :: .n :: [])]) (fr := true) (by kernel_rfl) (an (an (ti (ti trivial)) (an (ti trivial) (an (an (ti trivial) e1101) (an (ti (ti trivial)) trivial)))) (ti trivial)) (Wv.refl _)
def arZ1_11 (z0 : (List SCoatEvent)) (z1 : Int) (z2 : Int) : List Ans := (nN 3 (.v (VV.ag (c_SCoatEvent (z0.getD z1.toNat default))) :: .call (vi z2) :: .n :: []))
def arZ1_12 (z0 : (List SCoatEvent)) (z1 : Int) : List Ans := (nN 4 (.v (vs ((z0.getD z1.toNat default).Mirror)) :: nN 3 (.v (vs ((z0.getD ((0 : Int)).toNat default).Mirror)) :: .n :: [])))
def arZ1_13 (z0 : (List SCoatEvent)) (z1 : Int) : List Ans := (nN 7 (.v (vi ((z0.getD z1.toNat default).Day)) :: nN 5 (.v (vi ((z0.getD (w64 (z1 - 1)).toNat default).Day)) :: .n :: .b true :: [])))
def arZ1_14 (z0 : (List SCoatEvent)) (z1 : Int) (z2 : Int) : List Ans := (nN 3 (.v (VV.tr (List.flatMap c_SCoatEvent (sl z0 0 ((z1).toNat))) ((sl z0 0 ((z1).toNat)).length)) :: .call (vi z2) :: .n :: []))
def arZ1_15 (z0 : (List SCoatEvent)) (z1 : Int) : List Ans := (nN 4 (.v (vi ((z0.getD z1.toNat default).Kind)) :: .n :: .n :: .skip :: .skip :: .b false :: []))
def nspeculumref08_CheckHistory_l0_0_h (a0 : SAging) (a1 : (List SCoatEvent)) (x6 : Int) : VS := ⟨mkA [(1, VV.tr (List.flatMap c_SCoatEvent a1) a1.length), (2, VV.pt 0 0), (6, vi x6)], [some ⟨true, 1, c_SAging a0⟩], .nil⟩
def nspeculumref08_CheckHistory_l0_0_e0 (a0 : SAging) (a1 : (List SCoatEvent)) (r : Int × Int) : VS := ⟨mkA [(4, vi r.1), (5, vi r.2)], [], .nil⟩
def nspeculumref08_CheckHistory_l0_0_e1 (a0 : SAging) (a1 : (List SCoatEvent)) (r : Unit) : VS := ⟨mkA [], [], .nil⟩
def nspeculumref08_CheckHistory_l0_0 (k : Nat) (a0 : SAging) (a1 : (List SCoatEvent)) : Nat → Int → Option (Sum (Int × Int) Unit)
  | 0, _ => none
  | fuel + 1, x6 => if x6 < (a1.length : Int) then (if 0 ≤ x6 ∧ x6 < (a1.length : Int) then ((nspeculumref08_CheckEvent k (a1.getD x6.toNat default)).bind fun r1288 => (if r1288 = 0 then (if (0 : Int) ≤ 0 ∧ 0 < (a1.length : Int) then (if ((a1.getD x6.toNat default).Mirror) = ((a1.getD ((0 : Int)).toNat default).Mirror) then (if 0 < x6 then (if 0 ≤ w64 (x6 - 1) ∧ w64 (x6 - 1) < (a1.length : Int) then (if ((a1.getD x6.toNat default).Day) < ((a1.getD (w64 (x6 - 1)).toNat default).Day) then (some (.inl (x6, 9))) else (if 0 ≤ (0 : Int) ∧ (0 : Int) ≤ x6 ∧ x6 ≤ (a1.length : Int) then ((nspeculumref08_state k a0 (sl a1 0 ((x6).toNat))).bind fun r1306 => (if ((decide (((a1.getD x6.toNat default).Kind) = 0)) == (decide (r1306 < 0))) = true then (if ((a1.getD x6.toNat default).Kind) = 1 then (if r1306 = 0 then (some (.inl (x6, 16))) else (nspeculumref08_CheckHistory_l0_0 k a0 a1 fuel (w64 (x6 + 1)))) else (nspeculumref08_CheckHistory_l0_0 k a0 a1 fuel (w64 (x6 + 1)))) else (some (.inl (x6, 24))))) else none)) else none) else (if 0 ≤ (0 : Int) ∧ (0 : Int) ≤ x6 ∧ x6 ≤ (a1.length : Int) then ((nspeculumref08_state k a0 (sl a1 0 ((x6).toNat))).bind fun r1320 => (if ((decide (((a1.getD x6.toNat default).Kind) = 0)) == (decide (r1320 < 0))) = true then (if ((a1.getD x6.toNat default).Kind) = 1 then (if r1320 = 0 then (some (.inl (x6, 16))) else (nspeculumref08_CheckHistory_l0_0 k a0 a1 fuel (w64 (x6 + 1)))) else (nspeculumref08_CheckHistory_l0_0 k a0 a1 fuel (w64 (x6 + 1)))) else (some (.inl (x6, 24))))) else none)) else (some (.inl (x6, 13)))) else none) else (some (.inl (x6, r1288))))) else none) else (some (.inr ()))
theorem nspeculumref08_CheckHistory_l0_0_ok (k : Nat) (a0 : SAging) (a1 : (List SCoatEvent)) : ∀ (fuel : Nat) (x6 : Int) (r : Sum (Int × Int) Unit), nspeculumref08_CheckHistory_l0_0 k a0 a1 fuel x6 = some r → (match r with | .inl r => VLoop none Go.Proofs.Try.prog (szF Go.Proofs.Try.f22) (bodyOf Go.Proofs.Try.f22 0) (nspeculumref08_CheckHistory_l0_0_h a0 a1 x6) .ret (nspeculumref08_CheckHistory_l0_0_e0 a0 a1 r) | .inr r => VLoop none Go.Proofs.Try.prog (szF Go.Proofs.Try.f22) (bodyOf Go.Proofs.Try.f22 0) (nspeculumref08_CheckHistory_l0_0_h a0 a1 x6) (.exit 0) (nspeculumref08_CheckHistory_l0_0_e1 a0 a1 r)) := by
 intro fuel
 induction fuel with
 | zero => intro x6 r h; rw [nspeculumref08_CheckHistory_l0_0.eq_1] at h; cases h
 | succ fuel ih =>
  intro x6 r h
  rw [nspeculumref08_CheckHistory_l0_0.eq_2] at h
  rcases ifs h with ⟨h1285, h⟩ | ⟨h1285, h⟩
  ·obtain ⟨h1286, h⟩ := ifn h
   have e1287 := (show loadL Go.Proofs.Try.prog 38 (x6.toNat * 3) (List.flatMap c_SCoatEvent a1) = some (VV.ag (c_SCoatEvent (a1.getD x6.toNat default))) from ld_whole ag38 c_SCoatEvent 3 sz38 len_c_SCoatEvent a1 default h1286 (by omega))
   obtain ⟨r1288, h1289, h⟩ := bs h
   have e1290 := (nspeculumref08_CheckEvent_ok k (a1.getD x6.toNat default) _ h1289)
   have e1291 := (ti (ti (an h1286 (an e1287 (an e1290 (ti trivial))))))
   rcases ifs h with ⟨h1292, h⟩ | ⟨h1292, h⟩
   ·have e1293 := (show loadL Go.Proofs.Try.prog 9 (x6.toNat * 3 + 0) (List.flatMap c_SCoatEvent a1) = some (vs ((a1.getD x6.toNat default).Mirror)) from (ld_flat ag9 c_SCoatEvent 3 0 len_c_SCoatEvent (by omega) a1 default h1286 (by omega)).trans rfl)
    obtain ⟨h1294, h⟩ := ifn h
    have e1295 := (show loadL Go.Proofs.Try.prog 9 (((0 : Int)).toNat * 3 + 0) (List.flatMap c_SCoatEvent a1) = some (vs ((a1.getD ((0 : Int)).toNat default).Mirror)) from (ld_flat ag9 c_SCoatEvent 3 0 len_c_SCoatEvent (by omega) a1 default h1294 (by omega)).trans rfl)
    have e1296 := (ti (ti (an h1286 (ti (an e1293 (ti (an h1294 (ti (an e1295 (ti trivial))))))))))
    rcases ifs h with ⟨h1297, h⟩ | ⟨h1297, h⟩
    ·rcases ifs h with ⟨h1298, h⟩ | ⟨h1298, h⟩
     ·have e1299 := (an (decide_eq_true h1298) (show loadL Go.Proofs.Try.prog 3 (x6.toNat * 3 + 1) (List.flatMap c_SCoatEvent a1) = some (vi ((a1.getD x6.toNat default).Day)) from (ld_flat ag3 c_SCoatEvent 3 1 len_c_SCoatEvent (by omega) a1 default h1286 (by omega)).trans rfl))
      obtain ⟨h1300, h⟩ := ifn h
      have e1301 := (an (decide_eq_true h1298) (show loadL Go.Proofs.Try.prog 3 ((w64 (x6 - 1)).toNat * 3 + 1) (List.flatMap c_SCoatEvent a1) = some (vi ((a1.getD (w64 (x6 - 1)).toNat default).Day)) from (ld_flat ag3 c_SCoatEvent 3 1 len_c_SCoatEvent (by omega) a1 default h1300 (by omega)).trans rfl))
      have e1302 := (ti (ti (ti (an (an (decide_eq_true h1298) trivial) (an (an (decide_eq_true h1298) trivial) (an (an (decide_eq_true h1298) h1286) (an (an (decide_eq_true h1298) trivial) (an e1299 (an (an (decide_eq_true h1298) trivial) (an (an (decide_eq_true h1298) trivial) (an (an (decide_eq_true h1298) trivial) (an (an (decide_eq_true h1298) h1300) (an (an (decide_eq_true h1298) trivial) (an e1301 (an (an (decide_eq_true h1298) trivial) (an (decide_eq_true h1298) trivial))))))))))))))))
      rcases ifs h with ⟨h1303, h⟩ | ⟨h1303, h⟩
      ·injection h with h; subst h
       exact round_stop (c := ⟨[(4, none), (5, none)], [], []⟩) (s1 := (nspeculumref08_CheckHistory_l0_0_e0 a0 a1 (x6, 9))) pm pn (ans := [.reg (nN 4 []), .br true, .reg (arZ1_11 a1 x6 r1288), .reg (.n :: .n :: []), .br false, .reg (arZ1_12 a1 x6), .br false, .reg (arZ1_13 a1 x6), .br true, .reg (nN 3 [])]) (by kernel_rfl) (by intro e; cases e) (an (an (an (ti (ti (ti (ti trivial)))) (an (decide_eq_true h1285) trivial)) (an (an e1291 (an (ti (ti trivial)) (an (not_f (decide_eq_true h1292)) trivial))) (an (an e1296 (an (not_f (decide_eq_true h1297)) trivial)) (an e1302 (an (decide_eq_true h1303) (an (ti (ti (ti trivial))) trivial)))))) (ti trivial))
      ·obtain ⟨h1304, h⟩ := ifn h
       have e1305 := (show (True ∧ 0 ≤ x6 ∧ 0 ≤ (x6).toNat ∧ (x6).toNat ≤ a1.length ∧ (x6).toNat * 3 ≤ List.length (List.flatMap c_SCoatEvent a1)) ∧ VV.tr (List.take (((x6).toNat - 0) * 3) (List.drop (0 * 3) (List.flatMap c_SCoatEvent a1))) ((x6).toNat - 0) = VV.tr (List.flatMap c_SCoatEvent (sl a1 0 ((x6).toNat))) ((sl a1 0 ((x6).toNat)).length) from ⟨⟨trivial, (by have := h1304; omega), (by have := h1304; omega), (by have := h1304; omega), (by rw [flatMap_len len_c_SCoatEvent]; have := h1304; omega)⟩, (by exact sl_flat len_c_SCoatEvent a1 0 ((x6).toNat) (by have := h1304; omega) (by have := h1304; omega))⟩)
       obtain ⟨r1306, h1307, h⟩ := bs h
       have e1308 := (nspeculumref08_state_ok k a0 (sl a1 0 ((x6).toNat)) _ h1307)
       have e1309 := (show loadL Go.Proofs.Try.prog 3 (x6.toNat * 3 + 2) (List.flatMap c_SCoatEvent a1) = some (vi ((a1.getD x6.toNat default).Kind)) from (ld_flat ag3 c_SCoatEvent 3 2 len_c_SCoatEvent (by omega) a1 default h1286 (by omega)).trans rfl)
       have e1310 := (ti (ti (an h1286 (ti (an e1309 (ti (ti (ti (ti trivial)))))))))
       rcases ifs h with ⟨h1311, h⟩ | ⟨h1311, h⟩
       ·have e1312 := (show loadL Go.Proofs.Try.prog 3 (x6.toNat * 3 + 2) (List.flatMap c_SCoatEvent a1) = some (vi ((a1.getD x6.toNat default).Kind)) from (ld_flat ag3 c_SCoatEvent 3 2 len_c_SCoatEvent (by omega) a1 default h1286 (by omega)).trans rfl)
        rcases ifs h with ⟨h1313, h⟩ | ⟨h1313, h⟩
        ·have e1314 := (ti (ti (an h1286 (ti (an e1312 (ti (ti (an (an (decide_eq_true h1313) trivial) (an (an (decide_eq_true h1313) trivial) (an (decide_eq_true h1313) trivial))))))))))
         rcases ifs h with ⟨h1315, h⟩ | ⟨h1315, h⟩
         ·injection h with h; subst h
          exact round_stop (c := ⟨[(4, none), (5, none)], [], []⟩) (s1 := (nspeculumref08_CheckHistory_l0_0_e0 a0 a1 (x6, 16))) pm pn (ans := [.reg (nN 4 []), .br true, .reg (arZ1_11 a1 x6 r1288), .reg (.n :: .n :: []), .br false, .reg (arZ1_12 a1 x6), .br false, .reg (arZ1_13 a1 x6), .br false, .reg (arZ1_14 a1 x6 r1306), .reg (nN 4 (.v (vi ((a1.getD x6.toNat default).Kind)) :: nN 4 [])), .br false, .reg (nN 4 (.v (vi ((a1.getD x6.toNat default).Kind)) :: nN 4 (.b true :: []))), .br true, .reg (nN 3 [])]) (by kernel_rfl) (by intro e; cases e) (an (an (an (ti (ti (ti (ti trivial)))) (an (decide_eq_true h1285) trivial)) (an (an e1291 (an (ti (ti trivial)) (an (not_f (decide_eq_true h1292)) trivial))) (an (an e1296 (an (not_f (decide_eq_true h1297)) trivial)) (an (an e1302 (an (decide_eq_false h1303) trivial)) (an (ti (ti (ti (an e1305 (an e1308 (ti trivial)))))) (an (an e1310 (an (not_f h1311) trivial)) (an e1314 (an (decide_eq_true h1315) (an (ti (ti (ti trivial))) trivial))))))))) (ti trivial))
         ·have h2 := ih _ _ h
          obtain ⟨q, hv, hq⟩ := pkR (rd := none) (P := Go.Proofs.Try.prog) (fn := Go.Proofs.Try.f22) (k := 0) (s := (nspeculumref08_CheckHistory_l0_0_h a0 a1 x6)) (ans := [.reg (nN 4 []), .br true, .reg (arZ1_11 a1 x6 r1288), .reg (.n :: .n :: []), .br false, .reg (arZ1_12 a1 x6), .br false, .reg (arZ1_13 a1 x6), .br false, .reg (arZ1_14 a1 x6 r1306), .reg (nN 4 (.v (vi ((a1.getD x6.toNat default).Kind)) :: nN 4 [])), .br false, .reg (nN 4 (.v (vi ((a1.getD x6.toNat default).Kind)) :: nN 4 (.b true :: []))), .br false, .reg (nN 3 [])]) (c := ⟨[(1, none), (2, none), (6, none)], [none], []⟩) (e := .normal) (s1 := (nspeculumref08_CheckHistory_l0_0_h a0 a1 (w64 (x6 + 1)))) (an (an (an (ti (ti (ti (ti trivial)))) (an (decide_eq_true h1285) trivial)) (an (an (an e1291 (an (ti (ti trivial)) (an (not_f (decide_eq_true h1292)) trivial))) (an (an e1296 (an (not_f (decide_eq_true h1297)) trivial)) (an (an e1302 (an (decide_eq_false h1303) trivial)) (an (ti (ti (ti (an e1305 (an e1308 (ti trivial)))))) (an (an e1310 (an (not_f h1311) trivial)) (an e1314 (an (decide_eq_false h1315) trivial))))))) (ti (ti (ti trivial))))) (ti trivial)) (by kernel_rfl)
          cases r with
          | inl r => exact round_next pm pn hv hq h2
          | inr r =>
           exact round_next pm pn hv hq h2
        ·have e1316 := (ti (ti (an h1286 (ti (an e1312 (ti (ti (an (decide_eq_false h1313) (an (decide_eq_false h1313) (an (decide_eq_false h1313) trivial))))))))))
         have h2 := ih _ _ h
         obtain ⟨q, hv, hq⟩ := pkR (rd := none) (P := Go.Proofs.Try.prog) (fn := Go.Proofs.Try.f22) (k := 0) (s := (nspeculumref08_CheckHistory_l0_0_h a0 a1 x6)) (ans := [.reg (nN 4 []), .br true, .reg (arZ1_11 a1 x6 r1288), .reg (.n :: .n :: []), .br false, .reg (arZ1_12 a1 x6), .br false, .reg (arZ1_13 a1 x6), .br false, .reg (arZ1_14 a1 x6 r1306), .reg (nN 4 (.v (vi ((a1.getD x6.toNat default).Kind)) :: nN 4 [])), .br false, .reg (arZ1_15 a1 x6), .br false, .reg (nN 3 [])]) (c := ⟨[(1, none), (2, none), (6, none)], [none], []⟩) (e := .normal) (s1 := (nspeculumref08_CheckHistory_l0_0_h a0 a1 (w64 (x6 + 1)))) (an (an (an (ti (ti (ti (ti trivial)))) (an (decide_eq_true h1285) trivial)) (an (an (an e1291 (an (ti (ti trivial)) (an (not_f (decide_eq_true h1292)) trivial))) (an (an e1296 (an (not_f (decide_eq_true h1297)) trivial)) (an (an e1302 (an (decide_eq_false h1303) trivial)) (an (ti (ti (ti (an e1305 (an e1308 (ti trivial)))))) (an (an e1310 (an (not_f h1311) trivial)) (an e1316 (an rf trivial))))))) (ti (ti (ti trivial))))) (ti trivial)) (by kernel_rfl)
         cases r with
         | inl r => exact round_next pm pn hv hq h2
         | inr r =>
          exact round_next pm pn hv hq h2
       ·injection h with h; subst h
        exact round_stop (c := ⟨[(4, none), (5, none)], [], []⟩) (s1 := (nspeculumref08_CheckHistory_l0_0_e0 a0 a1 (x6, 24))) pm pn (ans := [.reg (nN 4 []), .br true, .reg (arZ1_11 a1 x6 r1288), .reg (.n :: .n :: []), .br false, .reg (arZ1_12 a1 x6), .br false, .reg (arZ1_13 a1 x6), .br false, .reg (arZ1_14 a1 x6 r1306), .reg (nN 4 (.v (vi ((a1.getD x6.toNat default).Kind)) :: nN 4 [])), .br true, .reg (nN 3 [])]) (by kernel_rfl) (by intro e; cases e) (an (an (an (ti (ti (ti (ti trivial)))) (an (decide_eq_true h1285) trivial)) (an (an e1291 (an (ti (ti trivial)) (an (not_f (decide_eq_true h1292)) trivial))) (an (an e1296 (an (not_f (decide_eq_true h1297)) trivial)) (an (an e1302 (an (decide_eq_false h1303) trivial)) (an (ti (ti (ti (an e1305 (an e1308 (ti trivial)))))) (an e1310 (an (not_t (bool_f h1311)) (an (ti (ti (ti trivial))) trivial)))))))) (ti trivial))
     ·have e1317 := (ti (ti (ti (an (decide_eq_false h1298) (an (decide_eq_false h1298) (an (decide_eq_false h1298) (an (decide_eq_false h1298) (an (decide_eq_false h1298) (an (decide_eq_false h1298) (an (decide_eq_false h1298) (an (decide_eq_false h1298) (an (decide_eq_false h1298) (an (decide_eq_false h1298) (an (decide_eq_false h1298) (an (decide_eq_false h1298) (an (decide_eq_false h1298) trivial))))))))))))))))
      obtain ⟨h1318, h⟩ := ifn h
      have e1319 := (show (True ∧ 0 ≤ x6 ∧ 0 ≤ (x6).toNat ∧ (x6).toNat ≤ a1.length ∧ (x6).toNat * 3 ≤ List.length (List.flatMap c_SCoatEvent a1)) ∧ VV.tr (List.take (((x6).toNat - 0) * 3) (List.drop (0 * 3) (List.flatMap c_SCoatEvent a1))) ((x6).toNat - 0) = VV.tr (List.flatMap c_SCoatEvent (sl a1 0 ((x6).toNat))) ((sl a1 0 ((x6).toNat)).length) from ⟨⟨trivial, (by have := h1318; omega), (by have := h1318; omega), (by have := h1318; omega), (by rw [flatMap_len len_c_SCoatEvent]; have := h1318; omega)⟩, (by exact sl_flat len_c_SCoatEvent a1 0 ((x6).toNat) (by have := h1318; omega) (by have := h1318; omega))⟩)
      obtain ⟨r1320, h1321, h⟩ := bs h
      have e1322 := (nspeculumref08_state_ok k a0 (sl a1 0 ((x6).toNat)) _ h1321)
      have e1323 := (show loadL Go.Proofs.Try.prog 3 (x6.toNat * 3 + 2) (List.flatMap c_SCoatEvent a1) = some (vi ((a1.getD x6.toNat default).Kind)) from (ld_flat ag3 c_SCoatEvent 3 2 len_c_SCoatEvent (by omega) a1 default h1286 (by omega)).trans rfl)
      have e1324 := (ti (ti (an h1286 (ti (an e1323 (ti (ti (ti (ti trivial)))))))))
      rcases ifs h with ⟨h1325, h⟩ | ⟨h1325, h⟩
      ·have e1326 := (show loadL Go.Proofs.Try.prog 3 (x6.toNat * 3 + 2) (List.flatMap c_SCoatEvent a1) = some (vi ((a1.getD x6.toNat default).Kind)) from (ld_flat ag3 c_SCoatEvent 3 2 len_c_SCoatEvent (by omega) a1 default h1286 (by omega)).trans rfl)
       rcases ifs h with ⟨h1327, h⟩ | ⟨h1327, h⟩
       ·have e1328 := (ti (ti (an h1286 (ti (an e1326 (ti (ti (an (an (decide_eq_true h1327) trivial) (an (an (decide_eq_true h1327) trivial) (an (decide_eq_true h1327) trivial))))))))))
        rcases ifs h with ⟨h1329, h⟩ | ⟨h1329, h⟩
        ·injection h with h; subst h
         exact round_stop (c := ⟨[(4, none), (5, none)], [], []⟩) (s1 := (nspeculumref08_CheckHistory_l0_0_e0 a0 a1 (x6, 16))) pm pn (ans := [.reg (nN 4 []), .br true, .reg (arZ1_11 a1 x6 r1288), .reg (.n :: .n :: []), .br false, .reg (arZ1_12 a1 x6), .br false, .reg (nN 3 (nS 12 (.b false :: []))), .br false, .reg (arZ1_14 a1 x6 r1320), .reg (nN 4 (.v (vi ((a1.getD x6.toNat default).Kind)) :: nN 4 [])), .br false, .reg (nN 4 (.v (vi ((a1.getD x6.toNat default).Kind)) :: nN 4 (.b true :: []))), .br true, .reg (nN 3 [])]) (by kernel_rfl) (by intro e; cases e) (an (an (an (ti (ti (ti (ti trivial)))) (an (decide_eq_true h1285) trivial)) (an (an e1291 (an (ti (ti trivial)) (an (not_f (decide_eq_true h1292)) trivial))) (an (an e1296 (an (not_f (decide_eq_true h1297)) trivial)) (an (an e1317 (an rf trivial)) (an (ti (ti (ti (an e1319 (an e1322 (ti trivial)))))) (an (an e1324 (an (not_f h1325) trivial)) (an e1328 (an (decide_eq_true h1329) (an (ti (ti (ti trivial))) trivial))))))))) (ti trivial))
        ·have h2 := ih _ _ h
         obtain ⟨q, hv, hq⟩ := pkR (rd := none) (P := Go.Proofs.Try.prog) (fn := Go.Proofs.Try.f22) (k := 0) (s := (nspeculumref08_CheckHistory_l0_0_h a0 a1 x6)) (ans := [.reg (nN 4 []), .br true, .reg (arZ1_11 a1 x6 r1288), .reg (.n :: .n :: []), .br false, .reg (arZ1_12 a1 x6), .br false, .reg (nN 3 (nS 12 (.b false :: []))), .br false, .reg (arZ1_14 a1 x6 r1320), .reg (nN 4 (.v (vi ((a1.getD x6.toNat default).Kind)) :: nN 4 [])), .br false, .reg (nN 4 (.v (vi ((a1.getD x6.toNat default).Kind)) :: nN 4 (.b true :: []))), .br false, .reg (nN 3 [])]) (c := ⟨[(1, none), (2, none), (6, none)], [none], []⟩) (e := .normal) (s1 := (nspeculumref08_CheckHistory_l0_0_h a0 a1 (w64 (x6 + 1)))) (an (an (an (ti (ti (ti (ti trivial)))) (an (decide_eq_true h1285) trivial)) (an (an (an e1291 (an (ti (ti trivial)) (an (not_f (decide_eq_true h1292)) trivial))) (an (an e1296 (an (not_f (decide_eq_true h1297)) trivial)) (an (an e1317 (an rf trivial)) (an (ti (ti (ti (an e1319 (an e1322 (ti trivial)))))) (an (an e1324 (an (not_f h1325) trivial)) (an e1328 (an (decide_eq_false h1329) trivial))))))) (ti (ti (ti trivial))))) (ti trivial)) (by kernel_rfl)
         cases r with
         | inl r => exact round_next pm pn hv hq h2
         | inr r =>
          exact round_next pm pn hv hq h2
       ·have e1330 := (ti (ti (an h1286 (ti (an e1326 (ti (ti (an (decide_eq_false h1327) (an (decide_eq_false h1327) (an (decide_eq_false h1327) trivial))))))))))
        have h2 := ih _ _ h
        obtain ⟨q, hv, hq⟩ := pkR (rd := none) (P := Go.Proofs.Try.prog) (fn := Go.Proofs.Try.f22) (k := 0) (s := (nspeculumref08_CheckHistory_l0_0_h a0 a1 x6)) (ans := [.reg (nN 4 []), .br true, .reg (arZ1_11 a1 x6 r1288), .reg (.n :: .n :: []), .br false, .reg (arZ1_12 a1 x6), .br false, .reg (nN 3 (nS 12 (.b false :: []))), .br false, .reg (arZ1_14 a1 x6 r1320), .reg (nN 4 (.v (vi ((a1.getD x6.toNat default).Kind)) :: nN 4 [])), .br false, .reg (arZ1_15 a1 x6), .br false, .reg (nN 3 [])]) (c := ⟨[(1, none), (2, none), (6, none)], [none], []⟩) (e := .normal) (s1 := (nspeculumref08_CheckHistory_l0_0_h a0 a1 (w64 (x6 + 1)))) (an (an (an (ti (ti (ti (ti trivial)))) (an (decide_eq_true h1285) trivial)) (an (an (an e1291 (an (ti (ti trivial)) (an (not_f (decide_eq_true h1292)) trivial))) (an (an e1296 (an (not_f (decide_eq_true h1297)) trivial)) (an (an e1317 (an rf trivial)) (an (ti (ti (ti (an e1319 (an e1322 (ti trivial)))))) (an (an e1324 (an (not_f h1325) trivial)) (an e1330 (an rf trivial))))))) (ti (ti (ti trivial))))) (ti trivial)) (by kernel_rfl)
        cases r with
        | inl r => exact round_next pm pn hv hq h2
        | inr r =>
         exact round_next pm pn hv hq h2
      ·injection h with h; subst h
       exact round_stop (c := ⟨[(4, none), (5, none)], [], []⟩) (s1 := (nspeculumref08_CheckHistory_l0_0_e0 a0 a1 (x6, 24))) pm pn (ans := [.reg (nN 4 []), .br true, .reg (arZ1_11 a1 x6 r1288), .reg (.n :: .n :: []), .br false, .reg (arZ1_12 a1 x6), .br false, .reg (nN 3 (nS 12 (.b false :: []))), .br false, .reg (arZ1_14 a1 x6 r1320), .reg (nN 4 (.v (vi ((a1.getD x6.toNat default).Kind)) :: nN 4 [])), .br true, .reg (nN 3 [])]) (by kernel_rfl) (by intro e; cases e) (an (an (an (ti (ti (ti (ti trivial)))) (an (decide_eq_true h1285) trivial)) (an (an e1291 (an (ti (ti trivial)) (an (not_f (decide_eq_true h1292)) trivial))) (an (an e1296 (an (not_f (decide_eq_true h1297)) trivial)) (an (an e1317 (an rf trivial)) (an (ti (ti (ti (an e1319 (an e1322 (ti trivial)))))) (an e1324 (an (not_t (bool_f h1325)) (an (ti (ti (ti trivial))) trivial)))))))) (ti trivial))
    ·injection h with h; subst h
     exact round_stop (c := ⟨[(4, none), (5, none)], [], []⟩) (s1 := (nspeculumref08_CheckHistory_l0_0_e0 a0 a1 (x6, 13))) pm pn (ans := [.reg (nN 4 []), .br true, .reg (arZ1_11 a1 x6 r1288), .reg (.n :: .n :: []), .br false, .reg (arZ1_12 a1 x6), .br true, .reg (nN 3 [])]) (by kernel_rfl) (by intro e; cases e) (an (an (an (ti (ti (ti (ti trivial)))) (an (decide_eq_true h1285) trivial)) (an (an e1291 (an (ti (ti trivial)) (an (not_f (decide_eq_true h1292)) trivial))) (an e1296 (an (not_t (decide_eq_false h1297)) (an (ti (ti (ti trivial))) trivial))))) (ti trivial))
   ·injection h with h; subst h
    exact round_stop (c := ⟨[(4, none), (5, none)], [], []⟩) (s1 := (nspeculumref08_CheckHistory_l0_0_e0 a0 a1 (x6, r1288))) pm pn (ans := [.reg (nN 4 []), .br true, .reg (arZ1_11 a1 x6 r1288), .reg (.n :: .n :: []), .br true, .reg (nN 4 [])]) (by kernel_rfl) (by intro e; cases e) (an (an (an (ti (ti (ti (ti trivial)))) (an (decide_eq_true h1285) trivial)) (an e1291 (an (ti (ti trivial)) (an (not_t (decide_eq_false h1292)) (an (ti (ti (ti (ti trivial)))) trivial))))) (ti trivial))
  ·injection h with h; subst h
   exact round_stop (c := ⟨[], [], []⟩) (s1 := (nspeculumref08_CheckHistory_l0_0_e1 a0 a1 ())) pm pn (ans := [.reg (nN 4 []), .br false]) (by kernel_rfl) (by intro e; cases e) (an (an (ti (ti (ti (ti trivial)))) (an (decide_eq_false h1285) trivial)) (ti trivial))
def nspeculumref08_CheckHistory (k : Nat) (a0 : SAging) (a1 : (List SCoatEvent)) : Option (Int × Int) :=
  if 40 < (a1.length : Int) then (some (0, 8)) else ((nspeculumref08_CheckHistory_l0_0 k a0 a1 k 0).bind fun r1332 => (match r1332 with | .inl r1333 => (some (r1333.1, r1333.2)) | .inr r1334 => (some (0, 0))))
theorem nspeculumref08_CheckHistory_ok (k : Nat) (a0 : SAging) (a1 : (List SCoatEvent)) (r : (Int × Int)) (h : nspeculumref08_CheckHistory k a0 a1 = some r) : VC Go.Proofs.Try.prog 22 [VV.ag (c_SAging a0), VV.tr (List.flatMap c_SCoatEvent a1) a1.length] (VV.tu [vi r.1, vi r.2]) := by
 unfold nspeculumref08_CheckHistory at h
 rcases ifs h with ⟨h1211, h⟩ | ⟨h1211, h⟩
 ·injection h with h; subst h
  exact fun_ok pm pn Go.Proofs.Try.func22 (r0 := VV.tu [vi 0, vi 8]) (ans := [.reg (nN 3 []), .reg (nN 3 []), .br true, .reg (.n :: .n :: [])]) (fr := true) (by kernel_rfl) (an (an (ti (ti (ti trivial))) (an (ti (ti (ti trivial))) (an (decide_eq_true h1211) (an (ti (ti trivial)) trivial)))) (ti (ti trivial))) (Wv.refl _)
 ·obtain ⟨r1332, h1331, h⟩ := bs h
  have hph1331 := nspeculumref08_CheckHistory_l0_0_ok k a0 a1 _ _ _ h1331
  cases r1332 with
  | inl r1333 =>
   dsimp only at h
   have e1335 := (an (ti trivial) (VRun.loop hph1331))
   injection h with h; subst h
   exact fun_ok pm pn Go.Proofs.Try.func22 (r0 := VV.tu [vi r1333.1, vi r1333.2]) (ans := [.reg (nN 3 []), .reg (nN 3 []), .br false, .reg (.n :: []), .sub ⟨[(1, none), (2, none), (6, none)], [none], []⟩ .ret (nspeculumref08_CheckHistory_l0_0_e0 a0 a1 r1333)]) (fr := true) (by kernel_rfl) (an (an (ti (ti (ti trivial))) (an (an (ti (ti (ti trivial))) (an (decide_eq_false h1211) trivial)) (an (ti trivial) e1335))) (ti (ti trivial))) (Wv.refl _)
  | inr r1334 =>
   dsimp only at h
   have e1336 := (an (ti trivial) (VRun.loop hph1331))
   injection h with h; subst h
   exact fun_ok pm pn Go.Proofs.Try.func22 (r0 := VV.tu [vi 0, vi 0]) (ans := [.reg (nN 3 []), .reg (nN 3 []), .br false, .reg (.n :: []), .sub ⟨[(1, none), (2, none), (6, none)], [none], []⟩ (.exit 0) (nspeculumref08_CheckHistory_l0_0_e1 a0 a1 r1334), .reg (.n :: .n :: [])]) (fr := true) (by kernel_rfl) (an (an (ti (ti (ti trivial))) (an (an (ti (ti (ti trivial))) (an (decide_eq_false h1211) trivial)) (an (an (ti trivial) e1336) (an (ti (ti trivial)) trivial)))) (ti (ti trivial))) (Wv.refl _)
def nspeculumlaw08_Past_l0_0_h (a0 : (List SCoatEvent)) (x3 : Int) : VS := ⟨mkA [(0, VV.tr (List.flatMap c_SCoatEvent a0) a0.length), (3, vi x3)], [], .nil⟩
def nspeculumlaw08_Past_l0_0_e0 (a0 : (List SCoatEvent)) (r : Unit) : VS := ⟨mkA [(2, vb false)], [], .nil⟩
def nspeculumlaw08_Past_l0_0_e1 (a0 : (List SCoatEvent)) (r : Unit) : VS := ⟨mkA [], [], .nil⟩
def nspeculumlaw08_Past_l0_0 (k : Nat) (a0 : (List SCoatEvent)) : Nat → Int → Option (Sum Unit Unit)
  | 0, _ => none
  | fuel + 1, x3 => if x3 < (a0.length : Int) then (if 0 ≤ x3 ∧ x3 < (a0.length : Int) then (if 20 < (((a0.getD x3.toNat default).Mirror).size : Int) then (some (.inl ())) else (nspeculumlaw08_Past_l0_0 k a0 fuel (w64 (x3 + 1)))) else none) else (some (.inr ()))
theorem nspeculumlaw08_Past_l0_0_ok (k : Nat) (a0 : (List SCoatEvent)) : ∀ (fuel : Nat) (x3 : Int) (r : Sum Unit Unit), nspeculumlaw08_Past_l0_0 k a0 fuel x3 = some r → (match r with | .inl r => VLoop none Go.Proofs.Try.prog (szF Go.Proofs.Try.f5) (bodyOf Go.Proofs.Try.f5 0) (nspeculumlaw08_Past_l0_0_h a0 x3) .ret (nspeculumlaw08_Past_l0_0_e0 a0 r) | .inr r => VLoop none Go.Proofs.Try.prog (szF Go.Proofs.Try.f5) (bodyOf Go.Proofs.Try.f5 0) (nspeculumlaw08_Past_l0_0_h a0 x3) (.exit 0) (nspeculumlaw08_Past_l0_0_e1 a0 r)) := by
 intro fuel
 induction fuel with
 | zero => intro x3 r h; rw [nspeculumlaw08_Past_l0_0.eq_1] at h; cases h
 | succ fuel ih =>
  intro x3 r h
  rw [nspeculumlaw08_Past_l0_0.eq_2] at h
  rcases ifs h with ⟨h1401, h⟩ | ⟨h1401, h⟩
  ·obtain ⟨h1402, h⟩ := ifn h
   have e1403 := (show loadL Go.Proofs.Try.prog 9 (x3.toNat * 3 + 0) (List.flatMap c_SCoatEvent a0) = some (vs ((a0.getD x3.toNat default).Mirror)) from (ld_flat ag9 c_SCoatEvent 3 0 len_c_SCoatEvent (by omega) a0 default h1402 (by omega)).trans rfl)
   have e1404 := (ti (ti (an h1402 (ti (an e1403 (ti (ti trivial)))))))
   rcases ifs h with ⟨h1405, h⟩ | ⟨h1405, h⟩
   ·injection h with h; subst h
    exact round_stop (c := ⟨[(2, none)], [], []⟩) (s1 := (nspeculumlaw08_Past_l0_0_e0 a0 ())) pm pn (ans := [.reg (nN 4 []), .br true, .reg (nN 4 (.v (vs ((a0.getD x3.toNat default).Mirror)) :: .n :: .n :: [])), .br true, .reg (.n :: [])]) (by kernel_rfl) (by intro e; cases e) (an (an (an (ti (ti (ti (ti trivial)))) (an (decide_eq_true h1401) trivial)) (an e1404 (an (decide_eq_true h1405) (an (ti trivial) trivial)))) (ti trivial))
   ·have h2 := ih _ _ h
    obtain ⟨q, hv, hq⟩ := pkR (rd := none) (P := Go.Proofs.Try.prog) (fn := Go.Proofs.Try.f5) (k := 0) (s := (nspeculumlaw08_Past_l0_0_h a0 x3)) (ans := [.reg (nN 4 []), .br true, .reg (nN 4 (.v (vs ((a0.getD x3.toNat default).Mirror)) :: .n :: .n :: [])), .br false, .reg (nN 3 [])]) (c := ⟨[(0, none), (3, none)], [], []⟩) (e := .normal) (s1 := (nspeculumlaw08_Past_l0_0_h a0 (w64 (x3 + 1)))) (an (an (an (ti (ti (ti (ti trivial)))) (an (decide_eq_true h1401) trivial)) (an (an e1404 (an (decide_eq_false h1405) trivial)) (ti (ti (ti trivial))))) (ti trivial)) (by kernel_rfl)
    cases r with
    | inl r => exact round_next pm pn hv hq h2
    | inr r =>
     exact round_next pm pn hv hq h2
  ·injection h with h; subst h
   exact round_stop (c := ⟨[], [], []⟩) (s1 := (nspeculumlaw08_Past_l0_0_e1 a0 ())) pm pn (ans := [.reg (nN 4 []), .br false]) (by kernel_rfl) (by intro e; cases e) (an (an (ti (ti (ti (ti trivial)))) (an (decide_eq_false h1401) trivial)) (ti trivial))
def nspeculumlaw08_Past_l0_1_h (a0 : (List SCoatEvent)) (x3 : Int) : VS := ⟨mkA [(0, VV.tr (List.flatMap c_SCoatEvent a0) a0.length), (3, vi x3)], [], .nil⟩
def nspeculumlaw08_Past_l0_1_e0 (a0 : (List SCoatEvent)) (r : Unit) : VS := ⟨mkA [(2, vb false)], [], .nil⟩
def nspeculumlaw08_Past_l0_1_e1 (a0 : (List SCoatEvent)) (r : Unit) : VS := ⟨mkA [], [], .nil⟩
def nspeculumlaw08_Past_l0_1 (k : Nat) (a0 : (List SCoatEvent)) : Nat → Int → Option (Sum Unit Unit)
  | 0, _ => none
  | fuel + 1, x3 => if x3 < (a0.length : Int) then (if 0 ≤ x3 ∧ x3 < (a0.length : Int) then (if 20 < (((a0.getD x3.toNat default).Mirror).size : Int) then (some (.inl ())) else (nspeculumlaw08_Past_l0_1 k a0 fuel (w64 (x3 + 1)))) else none) else (some (.inr ()))
theorem nspeculumlaw08_Past_l0_1_ok (k : Nat) (a0 : (List SCoatEvent)) : ∀ (fuel : Nat) (x3 : Int) (r : Sum Unit Unit), nspeculumlaw08_Past_l0_1 k a0 fuel x3 = some r → (match r with | .inl r => VLoop none Go.Proofs.Try.prog (szF Go.Proofs.Try.f5) (bodyOf Go.Proofs.Try.f5 0) (nspeculumlaw08_Past_l0_1_h a0 x3) .ret (nspeculumlaw08_Past_l0_1_e0 a0 r) | .inr r => VLoop none Go.Proofs.Try.prog (szF Go.Proofs.Try.f5) (bodyOf Go.Proofs.Try.f5 0) (nspeculumlaw08_Past_l0_1_h a0 x3) (.exit 0) (nspeculumlaw08_Past_l0_1_e1 a0 r)) := by
 intro fuel
 induction fuel with
 | zero => intro x3 r h; rw [nspeculumlaw08_Past_l0_1.eq_1] at h; cases h
 | succ fuel ih =>
  intro x3 r h
  rw [nspeculumlaw08_Past_l0_1.eq_2] at h
  rcases ifs h with ⟨h1424, h⟩ | ⟨h1424, h⟩
  ·obtain ⟨h1425, h⟩ := ifn h
   have e1426 := (show loadL Go.Proofs.Try.prog 9 (x3.toNat * 3 + 0) (List.flatMap c_SCoatEvent a0) = some (vs ((a0.getD x3.toNat default).Mirror)) from (ld_flat ag9 c_SCoatEvent 3 0 len_c_SCoatEvent (by omega) a0 default h1425 (by omega)).trans rfl)
   have e1427 := (ti (ti (an h1425 (ti (an e1426 (ti (ti trivial)))))))
   rcases ifs h with ⟨h1428, h⟩ | ⟨h1428, h⟩
   ·injection h with h; subst h
    exact round_stop (c := ⟨[(2, none)], [], []⟩) (s1 := (nspeculumlaw08_Past_l0_1_e0 a0 ())) pm pn (ans := [.reg (nN 4 []), .br true, .reg (nN 4 (.v (vs ((a0.getD x3.toNat default).Mirror)) :: .n :: .n :: [])), .br true, .reg (.n :: [])]) (by kernel_rfl) (by intro e; cases e) (an (an (an (ti (ti (ti (ti trivial)))) (an (decide_eq_true h1424) trivial)) (an e1427 (an (decide_eq_true h1428) (an (ti trivial) trivial)))) (ti trivial))
   ·have h2 := ih _ _ h
    obtain ⟨q, hv, hq⟩ := pkR (rd := none) (P := Go.Proofs.Try.prog) (fn := Go.Proofs.Try.f5) (k := 0) (s := (nspeculumlaw08_Past_l0_1_h a0 x3)) (ans := [.reg (nN 4 []), .br true, .reg (nN 4 (.v (vs ((a0.getD x3.toNat default).Mirror)) :: .n :: .n :: [])), .br false, .reg (nN 3 [])]) (c := ⟨[(0, none), (3, none)], [], []⟩) (e := .normal) (s1 := (nspeculumlaw08_Past_l0_1_h a0 (w64 (x3 + 1)))) (an (an (an (ti (ti (ti (ti trivial)))) (an (decide_eq_true h1424) trivial)) (an (an e1427 (an (decide_eq_false h1428) trivial)) (ti (ti (ti trivial))))) (ti trivial)) (by kernel_rfl)
    cases r with
    | inl r => exact round_next pm pn hv hq h2
    | inr r =>
     exact round_next pm pn hv hq h2
  ·injection h with h; subst h
   exact round_stop (c := ⟨[], [], []⟩) (s1 := (nspeculumlaw08_Past_l0_1_e1 a0 ())) pm pn (ans := [.reg (nN 4 []), .br false]) (by kernel_rfl) (by intro e; cases e) (an (an (ti (ti (ti (ti trivial)))) (an (decide_eq_false h1424) trivial)) (ti trivial))
def nspeculumlaw08_Past (k : Nat) (a0 : (List SCoatEvent)) : Option Bool :=
  if 10 < (a0.length : Int) then (if (a0.length : Int) ≤ 40 then (some false) else (if 43 < (a0.length : Int) then (some false) else ((nspeculumlaw08_Past_l0_0 k a0 k 0).bind fun r1407 => (match r1407 with | .inl r1408 => (some false) | .inr r1409 => (some true))))) else (if 43 < (a0.length : Int) then (some false) else ((nspeculumlaw08_Past_l0_1 k a0 k 0).bind fun r1430 => (match r1430 with | .inl r1431 => (some false) | .inr r1432 => (some true))))
theorem nspeculumlaw08_Past_ok (k : Nat) (a0 : (List SCoatEvent)) (r : Bool) (h : nspeculumlaw08_Past k a0 = some r) : VC Go.Proofs.Try.prog 5 [VV.tr (List.flatMap c_SCoatEvent a0) a0.length] (vb r) := by
 unfold nspeculumlaw08_Past at h
 rcases ifs h with ⟨h1386, h⟩ | ⟨h1386, h⟩
 ·rcases ifs h with ⟨h1387, h⟩ | ⟨h1387, h⟩
  ·have e1388 := (ti (ti (ti (ti (an (an (decide_eq_true h1386) trivial) (an (an (decide_eq_true h1386) trivial) (an (an (decide_eq_true h1386) trivial) (an (decide_eq_true h1386) (ti (an (decide_eq_true h1387) (an (decide_eq_true h1387) (an (decide_eq_true h1387) (an (decide_eq_true h1387) trivial)))))))))))))
   injection h with h; subst h
   exact fun_ok pm pn Go.Proofs.Try.func5 (r0 := vb false) (ans := [.reg (.n :: []), .reg (nN 7 (.b true :: .n :: nS 3 (.b true :: []))), .br true, .reg (.n :: [])]) (fr := true) (by kernel_rfl) (an (an (ti trivial) (an e1388 (an rt (an (ti trivial) trivial)))) (ti trivial)) (Wv.refl _)
  ·have e1389 := (ti (ti (ti (ti (an (an (decide_eq_true h1386) trivial) (an (an (decide_eq_true h1386) trivial) (an (an (decide_eq_true h1386) trivial) (an (decide_eq_true h1386) (ti (an (an (decide_eq_false h1387) trivial) (an (an (decide_eq_false h1387) trivial) (an (an (decide_eq_false h1387) trivial) (an (decide_eq_false h1387) trivial)))))))))))))
   rcases ifs h with ⟨h1390, h⟩ | ⟨h1390, h⟩
   ·injection h with h; subst h
    exact fun_ok pm pn Go.Proofs.Try.func5 (r0 := vb false) (ans := [.reg (.n :: []), .reg (nN 7 (.b true :: nN 4 (.b false :: []))), .br true, .reg (.n :: [])]) (fr := true) (by kernel_rfl) (an (an (ti trivial) (an e1389 (an (decide_eq_true h1390) (an (ti trivial) trivial)))) (ti trivial)) (Wv.refl _)
   ·obtain ⟨r1407, h1406, h⟩ := bs h
    have hph1406 := nspeculumlaw08_Past_l0_0_ok k a0 _ _ _ h1406
    cases r1407 with
    | inl r1408 =>
     dsimp only at h
     have e1410 := (an (ti trivial) (VRun.loop hph1406))
     injection h with h; subst h
     exact fun_ok pm pn Go.Proofs.Try.func5 (r0 := vb false) (ans := [.reg (.n :: []), .reg (nN 7 (.b true :: nN 4 (.b false :: []))), .br false, .reg (.n :: []), .sub ⟨[(0, none), (3, none)], [], []⟩ .ret (nspeculumlaw08_Past_l0_0_e0 a0 r1408)]) (fr := true) (by kernel_rfl) (an (an (ti trivial) (an (an e1389 (an (decide_eq_false h1390) trivial)) (an (ti trivial) e1410))) (ti trivial)) (Wv.refl _)
    | inr r1409 =>
     dsimp only at h
     have e1411 := (an (ti trivial) (VRun.loop hph1406))
     injection h with h; subst h
     exact fun_ok pm pn Go.Proofs.Try.func5 (r0 := vb true) (ans := [.reg (.n :: []), .reg (nN 7 (.b true :: nN 4 (.b false :: []))), .br false, .reg (.n :: []), .sub ⟨[(0, none), (3, none)], [], []⟩ (.exit 0) (nspeculumlaw08_Past_l0_0_e1 a0 r1409), .reg (.n :: [])]) (fr := true) (by kernel_rfl) (an (an (ti trivial) (an (an e1389 (an (decide_eq_false h1390) trivial)) (an (an (ti trivial) e1411) (an (ti trivial) trivial)))) (ti trivial)) (Wv.refl _)
 ·have e1412 := (ti (ti (ti (ti (an (decide_eq_false h1386) (an (decide_eq_false h1386) (an (decide_eq_false h1386) (an (decide_eq_false h1386) (ti (an (an rf trivial) (an (an rf trivial) (an (an rf trivial) (an rf trivial)))))))))))))
  rcases ifs h with ⟨h1413, h⟩ | ⟨h1413, h⟩
  ·injection h with h; subst h
   exact fun_ok pm pn Go.Proofs.Try.func5 (r0 := vb false) (ans := [.reg (.n :: []), .reg (nN 4 (nS 3 (.b false :: nN 4 (.b false :: [])))), .br true, .reg (.n :: [])]) (fr := true) (by kernel_rfl) (an (an (ti trivial) (an e1412 (an (decide_eq_true h1413) (an (ti trivial) trivial)))) (ti trivial)) (Wv.refl _)
  ·obtain ⟨r1430, h1429, h⟩ := bs h
   have hph1429 := nspeculumlaw08_Past_l0_1_ok k a0 _ _ _ h1429
   cases r1430 with
   | inl r1431 =>
    dsimp only at h
    have e1433 := (an (ti trivial) (VRun.loop hph1429))
    injection h with h; subst h
    exact fun_ok pm pn Go.Proofs.Try.func5 (r0 := vb false) (ans := [.reg (.n :: []), .reg (nN 4 (nS 3 (.b false :: nN 4 (.b false :: [])))), .br false, .reg (.n :: []), .sub ⟨[(0, none), (3, none)], [], []⟩ .ret (nspeculumlaw08_Past_l0_1_e0 a0 r1431)]) (fr := true) (by kernel_rfl) (an (an (ti trivial) (an (an e1412 (an (decide_eq_false h1413) trivial)) (an (ti trivial) e1433))) (ti trivial)) (Wv.refl _)
   | inr r1432 =>
    dsimp only at h
    have e1434 := (an (ti trivial) (VRun.loop hph1429))
    injection h with h; subst h
    exact fun_ok pm pn Go.Proofs.Try.func5 (r0 := vb true) (ans := [.reg (.n :: []), .reg (nN 4 (nS 3 (.b false :: nN 4 (.b false :: [])))), .br false, .reg (.n :: []), .sub ⟨[(0, none), (3, none)], [], []⟩ (.exit 0) (nspeculumlaw08_Past_l0_1_e1 a0 r1432), .reg (.n :: [])]) (fr := true) (by kernel_rfl) (an (an (ti trivial) (an (an e1412 (an (decide_eq_false h1413) trivial)) (an (an (ti trivial) e1434) (an (ti trivial) trivial)))) (ti trivial)) (Wv.refl _)
def nspeculumlaw08_events (k : Nat) (a0 : (List SCoatEvent)) : Option (List SCoatEvent) :=
  if ([] : List SCoatEvent).length + a0.length ≤ 1000000000 then (some (([] : List SCoatEvent) ++ a0)) else none
theorem nspeculumlaw08_events_ok (k : Nat) (a0 : (List SCoatEvent)) (r : (List SCoatEvent)) (h : nspeculumlaw08_events k a0 = some r) : VC Go.Proofs.Try.prog 7 [VV.tr (List.flatMap c_SCoatEvent a0) a0.length] (VV.fw 3 (List.flatMap c_SCoatEvent r) r.length) := by
 unfold nspeculumlaw08_events at h
 obtain ⟨h1437, h⟩ := ifn h
 have e1438 := (show List.length [] = 0 * 3 ∧ List.length (List.flatMap c_SCoatEvent a0) = a0.length * 3 ∧ (0 + a0.length) * 32 ≤ 140737488355328 ∧ 0 + a0.length < 1099511627776 ∧ List.all (List.flatMap c_SCoatEvent a0) VV.still = true from ⟨(by rw [show [] = List.flatMap c_SCoatEvent ([] : List SCoatEvent) from rfl]; rw [flatMap_len len_c_SCoatEvent] <;> simp), (by rw [flatMap_len len_c_SCoatEvent] <;> simp), (by first | omega | (simp at h1437 ⊢; omega)), (by first | omega | (simp at h1437 ⊢; omega)), (by exact still_c_SCoatEvent _)⟩)
 injection h with h; subst h
 exact fun_ok pm pn Go.Proofs.Try.func7 (r0 := VV.fw 3 (List.drop 0 (List.map unfr ([] ++ (List.flatMap c_SCoatEvent a0)))) (0 + a0.length)) (ans := [.reg (.n :: []), .reg (nN 4 [])]) (fr := true) (by kernel_rfl) (an (an (ti trivial) (an (ti (ti (an e1438 (ti trivial)))) trivial)) (an (show List.all ([] ++ (List.flatMap c_SCoatEvent a0)) new0 = true from (by rw [show [] ++ (List.flatMap c_SCoatEvent a0) = List.flatMap c_SCoatEvent (([] : List SCoatEvent) ++ a0) from (by rw [show [] = List.flatMap c_SCoatEvent ([] : List SCoatEvent) from rfl]; exact List.flatMap_append.symm)]; exact new0_c_SCoatEvent _)) trivial)) (Wv.of_eq (by simp only [show [] ++ (List.flatMap c_SCoatEvent a0) = List.flatMap c_SCoatEvent (([] : List SCoatEvent) ++ a0) from (by rw [show [] = List.flatMap c_SCoatEvent ([] : List SCoatEvent) from rfl]; exact List.flatMap_append.symm), drop0, unfr_vi, unfr_vb, unfr_vs, List.map_cons, List.map_nil, un_i, un_k, un_b, un_s, un_tr, un_fr, List.length_map, List.length_replicate, List.length_append, List.length_set, List.length_cons, List.length_nil, unfr_c_SAging, unfr_c_SRange, unfr_c_SCoatEvent, unfr_c_Sfilm]))
end Go.Proofs.Ytjblkmdfjadboaa.Vg

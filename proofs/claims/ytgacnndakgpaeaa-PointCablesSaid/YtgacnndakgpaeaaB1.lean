/- Written by a program out of the program: what Go functions do, as plain functions, and their contracts. -/
import Derived.Test.YtgacnndakgpaeaaWa
namespace Go.Proofs.Ytgacnndakgpaeaa.Vg
set_option maxRecDepth 100000
set_option maxHeartbeats 4000000
set_option linter.unusedVariables false
set_option linter.unusedSimpArgs false
open Go Go.Proofs.Ytgacnndakgpaeaa.Ev Go.Proofs.Ytgacnndakgpaeaa.Vv
structure SSkyRow where
  At : Int
  Value : Int
  deriving Inhabited
def c_SSkyRow (x : SSkyRow) : List VV := [vi x.At, vi x.Value]
theorem len_c_SSkyRow (x : SSkyRow) : (c_SSkyRow x).length = 2 := rfl
theorem still_c_SSkyRow (xs : List SSkyRow) : (xs.flatMap c_SSkyRow).all VV.still = true := all_flat (fun _ => rfl) xs
theorem isC_c_SSkyRow (xs : List SSkyRow) : (xs.flatMap c_SSkyRow).all VV.isC = true := all_flat (fun _ => rfl) xs
theorem new0_c_SSkyRow (xs : List SSkyRow) : (xs.flatMap c_SSkyRow).all new0 = true := all_flat (fun _ => rfl) xs
theorem unfr_c_SSkyRow (xs : List SSkyRow) : (xs.flatMap c_SSkyRow).map unfr = xs.flatMap c_SSkyRow := unfr_flat (fun _ => rfl) xs
theorem ag3 : isAggT Go.Proofs.Try.prog 3 = some false := by kernel_rfl
theorem ag39 : isAggT Go.Proofs.Try.prog 39 = some true := by kernel_rfl
theorem sz39 : szOf Go.Proofs.Try.prog 39 = some 2 := by kernel_rfl
def nspeculumbase_Within (k : Nat) (a0 : Int) (a1 : Int) (a2 : Int) : Option Bool :=
  if a1 ≤ a0 then (some (decide (a0 ≤ a2))) else (some false)
theorem nspeculumbase_Within_ok (k : Nat) (a0 : Int) (a1 : Int) (a2 : Int) (r : Bool) (h : nspeculumbase_Within k a0 a1 a2 = some r) : VC Go.Proofs.Try.prog 9 [vi a0, vi a1, vi a2] (vb r) := by
 unfold nspeculumbase_Within at h
 rcases ifs h with ⟨h104, h⟩ | ⟨h104, h⟩
 ·have e105 := (ti (ti (ti (ti (an (an (decide_eq_true h104) trivial) (an (an (decide_eq_true h104) trivial) (an (an (decide_eq_true h104) trivial) (an (decide_eq_true h104) (ti trivial)))))))))
  injection h with h; subst h
  exact fun_ok pm pn Go.Proofs.Try.func9 (r0 := vb (decide (a0 ≤ a2))) (ans := [.reg (.n :: []), .reg (nN 7 (.b true :: .n :: []))]) (fr := true) (by kernel_rfl) (an (an (ti trivial) (an e105 trivial)) (ti trivial)) (Wv.refl _)
 ·have e106 := (ti (ti (ti (ti (an (decide_eq_false h104) (an (decide_eq_false h104) (an (decide_eq_false h104) (an (decide_eq_false h104) (ti trivial)))))))))
  injection h with h; subst h
  exact fun_ok pm pn Go.Proofs.Try.func9 (r0 := vb false) (ans := [.reg (.n :: []), .reg (nN 4 (nS 3 (.b false :: .n :: [])))]) (fr := true) (by kernel_rfl) (an (an (ti trivial) (an e106 trivial)) (ti trivial)) (Wv.refl _)
def nspeculumbase_Mod (k : Nat) (a0 : Int) (a1 : Int) : Option Int :=
  if a1 ≠ 0 then (if (a0.tmod a1) < 0 then (some (w64 ((a0.tmod a1) + a1))) else (some (a0.tmod a1))) else none
theorem nspeculumbase_Mod_ok (k : Nat) (a0 : Int) (a1 : Int) (r : Int) (h : nspeculumbase_Mod k a0 a1 = some r) : VC Go.Proofs.Try.prog 10 [vi a0, vi a1] (vi r) := by
 unfold nspeculumbase_Mod at h
 obtain ⟨h109, h⟩ := ifn h
 rcases ifs h with ⟨h110, h⟩ | ⟨h110, h⟩
 ·injection h with h; subst h
  exact fun_ok pm pn Go.Proofs.Try.func10 (r0 := vi (w64 ((a0.tmod a1) + a1))) (ans := [.reg (.n :: []), .reg (nN 4 []), .reg (.n :: .n :: []), .br true, .reg (nN 4 [])]) (fr := true) (by kernel_rfl) (an (an (ti trivial) (an (ti (ti (an h109 (ti trivial)))) (an (ti (ti trivial)) (an (decide_eq_true h110) (an (ti (ti (ti (ti trivial)))) trivial))))) (ti trivial)) (Wv.refl _)
 ·injection h with h; subst h
  exact fun_ok pm pn Go.Proofs.Try.func10 (r0 := vi (a0.tmod a1)) (ans := [.reg (.n :: []), .reg (nN 4 []), .reg (.n :: .n :: []), .br false, .reg (.n :: .n :: [])]) (fr := true) (by kernel_rfl) (an (an (ti trivial) (an (ti (ti (an h109 (ti trivial)))) (an (an (ti (ti trivial)) (an (decide_eq_false h110) trivial)) (an (ti (ti trivial)) trivial)))) (ti trivial)) (Wv.refl _)
def nspeculumlaw09_rows (k : Nat) (a0 : (List SSkyRow)) : Option Bool :=
  if (a0.length : Int) ≤ 6 then (some true) else (if 40 < (a0.length : Int) then (some (decide ((a0.length : Int) ≤ 43))) else (some false))
theorem nspeculumlaw09_rows_ok (k : Nat) (a0 : (List SSkyRow)) (r : Bool) (h : nspeculumlaw09_rows k a0 = some r) : VC Go.Proofs.Try.prog 18 [VV.tr (List.flatMap c_SSkyRow a0) a0.length] (vb r) := by
 unfold nspeculumlaw09_rows at h
 rcases ifs h with ⟨h118, h⟩ | ⟨h118, h⟩
 ·have e119 := (ti (ti (ti (ti (an (decide_eq_true h118) (an (decide_eq_true h118) (an (decide_eq_true h118) (an (decide_eq_true h118) (ti (ti (ti (an (decide_eq_true h118) (an (decide_eq_true h118) (ti trivial))))))))))))))
  injection h with h; subst h
  exact fun_ok pm pn Go.Proofs.Try.func18 (r0 := vb true) (ans := [.reg (.n :: []), .reg (nN 4 (nS 8 (.b true :: .n :: [])))]) (fr := true) (by kernel_rfl) (an (an (ti trivial) (an e119 trivial)) (ti trivial)) (Wv.refl _)
 ·rcases ifs h with ⟨h120, h⟩ | ⟨h120, h⟩
  ·have e121 := (an (decide_eq_false h118) (decide_eq_true h120))
   have e122 := (ti (ti (ti (ti (an (an (decide_eq_false h118) trivial) (an (an (decide_eq_false h118) trivial) (an (an (decide_eq_false h118) trivial) (an (an (decide_eq_false h118) trivial) (an (an (decide_eq_true h120) trivial) (an (an (decide_eq_true h120) trivial) (an (an (decide_eq_true h120) trivial) (an e121 (an (decide_eq_false h118) (ti trivial))))))))))))))
   injection h with h; subst h
   exact fun_ok pm pn Go.Proofs.Try.func18 (r0 := vb (decide ((a0.length : Int) ≤ 43))) (ans := [.reg (.n :: []), .reg (nN 11 (.b true :: .b false :: .n :: []))]) (fr := true) (by kernel_rfl) (an (an (ti trivial) (an e122 trivial)) (ti trivial)) (Wv.refl _)
  ·have e123 := (an (decide_eq_false h118) (decide_eq_false h120))
   have e124 := (ti (ti (ti (ti (an (an (decide_eq_false h118) trivial) (an (an (decide_eq_false h118) trivial) (an (an (decide_eq_false h118) trivial) (an (an (decide_eq_false h118) trivial) (an (decide_eq_false h120) (an (decide_eq_false h120) (an (decide_eq_false h120) (an e123 (an (decide_eq_false h118) (ti trivial))))))))))))))
   injection h with h; subst h
   exact fun_ok pm pn Go.Proofs.Try.func18 (r0 := vb false) (ans := [.reg (.n :: []), .reg (nN 8 (nS 3 (.b false :: .b false :: .n :: [])))]) (fr := true) (by kernel_rfl) (an (an (ti trivial) (an e124 trivial)) (ti trivial)) (Wv.refl _)
def npoint_areWithin_l0_0_h (a0 : Int) (a1 : Int) (a2 : (List Int)) (x11 : Int) : VS := ⟨mkA [(0, vi a0), (1, vi a1), (9, VV.tr (List.map vi a2) a2.length), (10, vi (a2.length : Int)), (11, vi x11)], [], .nil⟩
def npoint_areWithin_l0_0_e0 (a0 : Int) (a1 : Int) (a2 : (List Int)) (r : Unit) : VS := ⟨mkA [(6, vb false)], [], .nil⟩
def npoint_areWithin_l0_0_e1 (a0 : Int) (a1 : Int) (a2 : (List Int)) (r : Unit) : VS := ⟨mkA [], [], .nil⟩
def npoint_areWithin_l0_0 (k : Nat) (a0 : Int) (a1 : Int) (a2 : (List Int)) : Nat → Int → Option (Sum Unit Unit)
  | 0, _ => none
  | fuel + 1, x11 => if x11 < (a2.length : Int) then (if 0 ≤ x11 ∧ x11 < (a2.length : Int) then (if (a2.getD x11.toNat 0) < a0 then (some (.inl ())) else (if a1 < (a2.getD x11.toNat 0) then (some (.inl ())) else (npoint_areWithin_l0_0 k a0 a1 a2 fuel (w64 (x11 + 1))))) else none) else (some (.inr ()))
theorem npoint_areWithin_l0_0_ok (k : Nat) (a0 : Int) (a1 : Int) (a2 : (List Int)) : ∀ (fuel : Nat) (x11 : Int) (r : Sum Unit Unit), npoint_areWithin_l0_0 k a0 a1 a2 fuel x11 = some r → (match r with | .inl r => VLoop none Go.Proofs.Try.prog (szF Go.Proofs.Try.f24) (bodyOf Go.Proofs.Try.f24 0) (npoint_areWithin_l0_0_h a0 a1 a2 x11) .ret (npoint_areWithin_l0_0_e0 a0 a1 a2 r) | .inr r => VLoop none Go.Proofs.Try.prog (szF Go.Proofs.Try.f24) (bodyOf Go.Proofs.Try.f24 0) (npoint_areWithin_l0_0_h a0 a1 a2 x11) (.exit 0) (npoint_areWithin_l0_0_e1 a0 a1 a2 r)) := by
 intro fuel
 induction fuel with
 | zero => intro x11 r h; rw [npoint_areWithin_l0_0.eq_1] at h; cases h
 | succ fuel ih =>
  intro x11 r h
  rw [npoint_areWithin_l0_0.eq_2] at h
  rcases ifs h with ⟨h166, h⟩ | ⟨h166, h⟩
  ·obtain ⟨h167, h⟩ := ifn h
   have e168 := (show loadL Go.Proofs.Try.prog 3 (x11.toNat * 1) (List.map vi a2) = some (vi (a2.getD x11.toNat 0)) from ld_map ag3 vi a2 0 h167 (by omega))
   rcases ifs h with ⟨h169, h⟩ | ⟨h169, h⟩
   ·have e170 := (ti (ti (ti (ti (an (decide_eq_true h169) (an (decide_eq_true h169) (an (decide_eq_true h169) (an (decide_eq_true h169) trivial))))))))
    injection h with h; subst h
    exact round_stop (c := ⟨[(6, none)], [], []⟩) (s1 := (npoint_areWithin_l0_0_e0 a0 a1 a2 ())) pm pn (ans := [.reg (.n :: []), .br true, .reg (.n :: .v (vi (a2.getD x11.toNat 0)) :: .n :: []), .reg (nN 4 (nS 3 (.b true :: []))), .br true, .reg (.n :: [])]) (by kernel_rfl) (by intro e; cases e) (an (an (ti trivial) (an (an (decide_eq_true h166) trivial) (an (an h167 (an e168 (ti trivial))) (an e170 (an rt (an (ti trivial) trivial)))))) (ti trivial))
   ·have e171 := (ti (ti (ti (ti (an (an (decide_eq_false h169) trivial) (an (an (decide_eq_false h169) trivial) (an (an (decide_eq_false h169) trivial) (an (decide_eq_false h169) trivial))))))))
    rcases ifs h with ⟨h172, h⟩ | ⟨h172, h⟩
    ·injection h with h; subst h
     exact round_stop (c := ⟨[(6, none)], [], []⟩) (s1 := (npoint_areWithin_l0_0_e0 a0 a1 a2 ())) pm pn (ans := [.reg (.n :: []), .br true, .reg (.n :: .v (vi (a2.getD x11.toNat 0)) :: .n :: []), .reg (nN 7 (.b false :: [])), .br true, .reg (.n :: [])]) (by kernel_rfl) (by intro e; cases e) (an (an (ti trivial) (an (an (decide_eq_true h166) trivial) (an (an h167 (an e168 (ti trivial))) (an e171 (an (decide_eq_true h172) (an (ti trivial) trivial)))))) (ti trivial))
    ·have h2 := ih _ _ h
     obtain ⟨q, hv, hq⟩ := pkR (rd := none) (P := Go.Proofs.Try.prog) (fn := Go.Proofs.Try.f24) (k := 0) (s := (npoint_areWithin_l0_0_h a0 a1 a2 x11)) (ans := [.reg (.n :: []), .br true, .reg (.n :: .v (vi (a2.getD x11.toNat 0)) :: .n :: []), .reg (nN 7 (.b false :: [])), .br false, .reg (.n :: .n :: [])]) (c := ⟨[(0, none), (1, none), (9, none), (10, none), (11, none)], [], []⟩) (e := .normal) (s1 := (npoint_areWithin_l0_0_h a0 a1 a2 (w64 (x11 + 1)))) (an (an (ti trivial) (an (an (decide_eq_true h166) trivial) (an (an (an h167 (an e168 (ti trivial))) (an e171 (an (decide_eq_false h172) trivial))) (ti (ti trivial))))) (ti trivial)) (by kernel_rfl)
     cases r with
     | inl r => exact round_next pm pn hv hq h2
     | inr r =>
      exact round_next pm pn hv hq h2
  ·injection h with h; subst h
   exact round_stop (c := ⟨[], [], []⟩) (s1 := (npoint_areWithin_l0_0_e1 a0 a1 a2 ())) pm pn (ans := [.reg (.n :: []), .br false]) (by kernel_rfl) (by intro e; cases e) (an (an (ti trivial) (an (decide_eq_false h166) trivial)) (ti trivial))
def npoint_areWithin (k : Nat) (a0 : Int) (a1 : Int) (a2 : (List Int)) : Option Bool :=
  (npoint_areWithin_l0_0 k a0 a1 a2 k 0).bind fun r174 => (match r174 with | .inl r175 => (some false) | .inr r176 => (some true))
theorem npoint_areWithin_ok (k : Nat) (a0 : Int) (a1 : Int) (a2 : (List Int)) (r : Bool) (h : npoint_areWithin k a0 a1 a2 = some r) : VC Go.Proofs.Try.prog 24 [vi a0, vi a1, VV.tr (List.map vi a2) a2.length] (vb r) := by
 unfold npoint_areWithin at h
 obtain ⟨r174, h173, h⟩ := bs h
 have hph173 := npoint_areWithin_l0_0_ok k a0 a1 a2 _ _ _ h173
 cases r174 with
 | inl r175 =>
  dsimp only at h
  have e177 := (an (ti trivial) (VRun.loop hph173))
  injection h with h; subst h
  exact fun_ok pm pn Go.Proofs.Try.func24 (r0 := vb false) (ans := [.reg (.n :: []), .reg (nN 3 []), .sub ⟨[(0, none), (1, none), (9, none), (10, none), (11, none)], [], []⟩ .ret (npoint_areWithin_l0_0_e0 a0 a1 a2 r175)]) (fr := true) (by kernel_rfl) (an (an (ti trivial) (an (ti (ti (ti trivial))) e177)) (ti trivial)) (Wv.refl _)
 | inr r176 =>
  dsimp only at h
  have e178 := (an (ti trivial) (VRun.loop hph173))
  injection h with h; subst h
  exact fun_ok pm pn Go.Proofs.Try.func24 (r0 := vb true) (ans := [.reg (.n :: []), .reg (nN 3 []), .sub ⟨[(0, none), (1, none), (9, none), (10, none), (11, none)], [], []⟩ (.exit 0) (npoint_areWithin_l0_0_e1 a0 a1 a2 r176), .reg (.n :: [])]) (fr := true) (by kernel_rfl) (an (an (ti trivial) (an (an (ti (ti (ti trivial))) e178) (an (ti trivial) trivial))) (ti trivial)) (Wv.refl _)
theorem eqB1_0 (z0 : (List SSkyRow)) : [vi 1, vi 40, VV.tr (List.map vi ([(z0.length : Int)] : List Int)) (([(z0.length : Int)] : List Int).length)] = [vi 1, vi 40, VV.tr [vi (z0.length : Int)] 1] := by first | rfl | (simp only [unfr_vi, List.map_cons, List.map_nil, un_i, un_tr, List.length_map, List.length_cons, List.length_nil]; done) | (simp only [unfr_vi, List.map_cons, List.map_nil, un_i, un_tr, List.length_map, List.length_cons, List.length_nil]; rfl) | (simp only [unfr_vi, List.map_cons, List.map_nil, un_i, un_tr, List.length_map, List.length_cons, List.length_nil, List.length_cons, List.length_nil, List.length_append]; done)
def npoint_areSmall (k : Nat) (a0 : Int) (a1 : (List Int)) : Option Bool :=
  (npoint_areWithin k (w64 (0 - a0)) a0 a1).bind fun r189 => (some r189)
theorem npoint_areSmall_ok (k : Nat) (a0 : Int) (a1 : (List Int)) (r : Bool) (h : npoint_areSmall k a0 a1 = some r) : VC Go.Proofs.Try.prog 23 [vi a0, VV.tr (List.map vi a1) a1.length] (vb r) := by
 unfold npoint_areSmall at h
 obtain ⟨r189, h190, h⟩ := bs h
 have e191 := (npoint_areWithin_ok k (w64 (0 - a0)) a0 a1 _ h190)
 injection h with h; subst h
 exact fun_ok pm pn Go.Proofs.Try.func23 (r0 := vb r189) (ans := [.reg (.n :: []), .reg (nN 4 (.call (vb r189) :: .n :: []))]) (fr := true) (by kernel_rfl) (an (an (ti trivial) (an (ti (ti (ti (ti (an e191 (ti trivial)))))) trivial)) (ti trivial)) (Wv.refl _)
theorem eqB1_1 (z0 : (List SSkyRow)) : [vi 1000000, VV.tr (List.map vi ([(z0.getD ((0 : Int)).toNat default).At, (z0.getD ((0 : Int)).toNat default).Value] : List Int)) (([(z0.getD ((0 : Int)).toNat default).At, (z0.getD ((0 : Int)).toNat default).Value] : List Int).length)] = [vi 1000000, VV.tr [vi ((z0.getD ((0 : Int)).toNat default).At), vi ((z0.getD ((0 : Int)).toNat default).Value)] 2] := by first | rfl | (simp only [unfr_vi, List.map_cons, List.map_nil, un_i, un_tr, List.length_map, List.length_cons, List.length_nil]; done) | (simp only [unfr_vi, List.map_cons, List.map_nil, un_i, un_tr, List.length_map, List.length_cons, List.length_nil]; rfl) | (simp only [unfr_vi, List.map_cons, List.map_nil, un_i, un_tr, List.length_map, List.length_cons, List.length_nil, List.length_cons, List.length_nil, List.length_append]; done)
theorem eqB1_2 (z0 : (List SSkyRow)) (z1 : Int) : [vi 1000000, VV.tr (List.map vi ([(z0.getD z1.toNat default).At, (z0.getD z1.toNat default).Value] : List Int)) (([(z0.getD z1.toNat default).At, (z0.getD z1.toNat default).Value] : List Int).length)] = [vi 1000000, VV.tr [vi ((z0.getD z1.toNat default).At), vi ((z0.getD z1.toNat default).Value)] 2] := by first | rfl | (simp only [unfr_vi, List.map_cons, List.map_nil, un_i, un_tr, List.length_map, List.length_cons, List.length_nil]; done) | (simp only [unfr_vi, List.map_cons, List.map_nil, un_i, un_tr, List.length_map, List.length_cons, List.length_nil]; rfl) | (simp only [unfr_vi, List.map_cons, List.map_nil, un_i, un_tr, List.length_map, List.length_cons, List.length_nil, List.length_cons, List.length_nil, List.length_append]; done)
def arB1_0 (z0 : (List SSkyRow)) (z1 : Int) : List Ans := (nN 10 (.v (vi ((z0.getD (w64 (z1 - 1)).toNat default).At)) :: .n :: .b true :: .n :: []))
def npoint_CheckTable_l0_0_h (a0 : (List SSkyRow)) (x12 : Int) : VS := ⟨mkA [(0, VV.tr (List.flatMap c_SSkyRow a0) a0.length), (10, VV.tr (List.flatMap c_SSkyRow a0) a0.length), (11, vi (a0.length : Int)), (12, vi x12)], [], .nil⟩
def npoint_CheckTable_l0_0_e0 (a0 : (List SSkyRow)) (r : Int) : VS := ⟨mkA [(2, vi r)], [], .nil⟩
def npoint_CheckTable_l0_0_e1 (a0 : (List SSkyRow)) (r : Unit) : VS := ⟨mkA [], [], .nil⟩
def npoint_CheckTable_l0_0 (k : Nat) (a0 : (List SSkyRow)) : Nat → Int → Option (Sum Int Unit)
  | 0, _ => none
  | fuel + 1, x12 => if x12 < (a0.length : Int) then (if 0 ≤ x12 ∧ x12 < (a0.length : Int) then ((npoint_areSmall k 1000000 ([(a0.getD x12.toNat default).At, (a0.getD x12.toNat default).Value] : List Int)).bind fun r264 => (if r264 = true then (if 0 < x12 then (if 0 ≤ w64 (x12 - 1) ∧ w64 (x12 - 1) < (a0.length : Int) then (if ((a0.getD x12.toNat default).At) ≤ ((a0.getD (w64 (x12 - 1)).toNat default).At) then (some (.inl 9)) else (npoint_CheckTable_l0_0 k a0 fuel (w64 (x12 + 1)))) else none) else (npoint_CheckTable_l0_0 k a0 fuel (w64 (x12 + 1)))) else (some (.inl 2)))) else none) else (some (.inr ()))
theorem npoint_CheckTable_l0_0_ok (k : Nat) (a0 : (List SSkyRow)) : ∀ (fuel : Nat) (x12 : Int) (r : Sum Int Unit), npoint_CheckTable_l0_0 k a0 fuel x12 = some r → (match r with | .inl r => VLoop none Go.Proofs.Try.prog (szF Go.Proofs.Try.f25) (bodyOf Go.Proofs.Try.f25 0) (npoint_CheckTable_l0_0_h a0 x12) .ret (npoint_CheckTable_l0_0_e0 a0 r) | .inr r => VLoop none Go.Proofs.Try.prog (szF Go.Proofs.Try.f25) (bodyOf Go.Proofs.Try.f25 0) (npoint_CheckTable_l0_0_h a0 x12) (.exit 0) (npoint_CheckTable_l0_0_e1 a0 r)) := by
 intro fuel
 induction fuel with
 | zero => intro x12 r h; rw [npoint_CheckTable_l0_0.eq_1] at h; cases h
 | succ fuel ih =>
  intro x12 r h
  rw [npoint_CheckTable_l0_0.eq_2] at h
  rcases ifs h with ⟨h261, h⟩ | ⟨h261, h⟩
  ·obtain ⟨h262, h⟩ := ifn h
   have e263 := (show loadL Go.Proofs.Try.prog 39 (x12.toNat * 2) (List.flatMap c_SSkyRow a0) = some (VV.ag (c_SSkyRow (a0.getD x12.toNat default))) from ld_whole ag39 c_SSkyRow 2 sz39 len_c_SSkyRow a0 default h262 (by omega))
   obtain ⟨r264, h265, h⟩ := bs h
   have e266 := (VC.args (npoint_areSmall_ok k 1000000 ([(a0.getD x12.toNat default).At, (a0.getD x12.toNat default).Value] : List Int) _ h265) (eqB1_2 a0 x12))
   have e267 := (ti (ti (ti (ti (ti (an e266 (ti (ti trivial))))))))
   rcases ifs h with ⟨h268, h⟩ | ⟨h268, h⟩
   ·rcases ifs h with ⟨h269, h⟩ | ⟨h269, h⟩
    ·obtain ⟨h270, h⟩ := ifn h
     have e271 := (an (decide_eq_true h269) (show loadL Go.Proofs.Try.prog 3 ((w64 (x12 - 1)).toNat * 2 + 0) (List.flatMap c_SSkyRow a0) = some (vi ((a0.getD (w64 (x12 - 1)).toNat default).At)) from (ld_flat ag3 c_SSkyRow 2 0 len_c_SSkyRow (by omega) a0 default h270 (by omega)).trans rfl))
     have e272 := (ti (ti (ti (an (an (decide_eq_true h269) trivial) (an (an (decide_eq_true h269) trivial) (an (an (decide_eq_true h269) trivial) (an (an (decide_eq_true h269) trivial) (an (an (decide_eq_true h269) trivial) (an (an (decide_eq_true h269) h270) (an (an (decide_eq_true h269) trivial) (an e271 (an (an (decide_eq_true h269) trivial) (an (decide_eq_true h269) (ti trivial))))))))))))))
     rcases ifs h with ⟨h273, h⟩ | ⟨h273, h⟩
     ·injection h with h; subst h
      exact round_stop (c := ⟨[(2, none)], [], []⟩) (s1 := (npoint_CheckTable_l0_0_e0 a0 9)) pm pn (ans := [.reg (.n :: []), .br true, .reg (.n :: .n :: .v (VV.ag (c_SSkyRow (a0.getD x12.toNat default))) :: nN 3 []), .reg (nN 4 (.v VV.any :: .call (vb r264) :: .n :: .n :: [])), .br false, .reg (arB1_0 a0 x12), .br true, .reg (.n :: [])]) (by kernel_rfl) (by intro e; cases e) (an (an (ti trivial) (an (an (decide_eq_true h261) trivial) (an (ti (an h262 (an e263 (ti (ti (ti trivial)))))) (an e267 (an (not_f h268) (an e272 (an (decide_eq_true h273) (an (ti trivial) trivial)))))))) (ti trivial))
     ·have h2 := ih _ _ h
      obtain ⟨q, hv, hq⟩ := pkR (rd := none) (P := Go.Proofs.Try.prog) (fn := Go.Proofs.Try.f25) (k := 0) (s := (npoint_CheckTable_l0_0_h a0 x12)) (ans := [.reg (.n :: []), .br true, .reg (.n :: .n :: .v (VV.ag (c_SSkyRow (a0.getD x12.toNat default))) :: nN 3 []), .reg (nN 4 (.v VV.any :: .call (vb r264) :: .n :: .n :: [])), .br false, .reg (arB1_0 a0 x12), .br false, .reg (.n :: .n :: [])]) (c := ⟨[(0, none), (10, none), (11, none), (12, none)], [], []⟩) (e := .normal) (s1 := (npoint_CheckTable_l0_0_h a0 (w64 (x12 + 1)))) (an (an (ti trivial) (an (an (decide_eq_true h261) trivial) (an (an (ti (an h262 (an e263 (ti (ti (ti trivial)))))) (an e267 (an (not_f h268) (an e272 (an (decide_eq_false h273) trivial))))) (ti (ti trivial))))) (ti trivial)) (by kernel_rfl)
      cases r with
      | inl r => exact round_next pm pn hv hq h2
      | inr r =>
       exact round_next pm pn hv hq h2
    ·have e274 := (ti (ti (ti (an (decide_eq_false h269) (an (decide_eq_false h269) (an (decide_eq_false h269) (an (decide_eq_false h269) (an (decide_eq_false h269) (an (decide_eq_false h269) (an (decide_eq_false h269) (an (decide_eq_false h269) (an (decide_eq_false h269) (an (decide_eq_false h269) (ti trivial))))))))))))))
     have h2 := ih _ _ h
     obtain ⟨q, hv, hq⟩ := pkR (rd := none) (P := Go.Proofs.Try.prog) (fn := Go.Proofs.Try.f25) (k := 0) (s := (npoint_CheckTable_l0_0_h a0 x12)) (ans := [.reg (.n :: []), .br true, .reg (.n :: .n :: .v (VV.ag (c_SSkyRow (a0.getD x12.toNat default))) :: nN 3 []), .reg (nN 4 (.v VV.any :: .call (vb r264) :: .n :: .n :: [])), .br false, .reg (nN 3 (nS 9 (.b false :: .n :: []))), .br false, .reg (.n :: .n :: [])]) (c := ⟨[(0, none), (10, none), (11, none), (12, none)], [], []⟩) (e := .normal) (s1 := (npoint_CheckTable_l0_0_h a0 (w64 (x12 + 1)))) (an (an (ti trivial) (an (an (decide_eq_true h261) trivial) (an (an (ti (an h262 (an e263 (ti (ti (ti trivial)))))) (an e267 (an (not_f h268) (an e274 (an rf trivial))))) (ti (ti trivial))))) (ti trivial)) (by kernel_rfl)
     cases r with
     | inl r => exact round_next pm pn hv hq h2
     | inr r =>
      exact round_next pm pn hv hq h2
   ·injection h with h; subst h
    exact round_stop (c := ⟨[(2, none)], [], []⟩) (s1 := (npoint_CheckTable_l0_0_e0 a0 2)) pm pn (ans := [.reg (.n :: []), .br true, .reg (.n :: .n :: .v (VV.ag (c_SSkyRow (a0.getD x12.toNat default))) :: nN 3 []), .reg (nN 4 (.v VV.any :: .call (vb r264) :: .n :: .n :: [])), .br true, .reg (.n :: [])]) (by kernel_rfl) (by intro e; cases e) (an (an (ti trivial) (an (an (decide_eq_true h261) trivial) (an (ti (an h262 (an e263 (ti (ti (ti trivial)))))) (an e267 (an (not_t (bool_f h268)) (an (ti trivial) trivial)))))) (ti trivial))
  ·injection h with h; subst h
   exact round_stop (c := ⟨[], [], []⟩) (s1 := (npoint_CheckTable_l0_0_e1 a0 ())) pm pn (ans := [.reg (.n :: []), .br false]) (by kernel_rfl) (by intro e; cases e) (an (an (ti trivial) (an (decide_eq_false h261) trivial)) (ti trivial))
def npoint_CheckTable (k : Nat) (a0 : (List SSkyRow)) : Option Int :=
  (npoint_areWithin k 1 40 ([(a0.length : Int)] : List Int)).bind fun r233 => (if r233 = true then ((npoint_CheckTable_l0_0 k a0 k 0).bind fun r276 => (match r276 with | .inl r277 => (some r277) | .inr r278 => (some 0))) else (some 10))
theorem npoint_CheckTable_ok (k : Nat) (a0 : (List SSkyRow)) (r : Int) (h : npoint_CheckTable k a0 = some r) : VC Go.Proofs.Try.prog 25 [VV.tr (List.flatMap c_SSkyRow a0) a0.length] (vi r) := by
 unfold npoint_CheckTable at h
 obtain ⟨r233, h234, h⟩ := bs h
 have e235 := (VC.args (npoint_areWithin_ok k 1 40 ([(a0.length : Int)] : List Int) _ h234) (eqB1_0 a0))
 rcases ifs h with ⟨h236, h⟩ | ⟨h236, h⟩
 ·obtain ⟨r276, h275, h⟩ := bs h
  have hph275 := npoint_CheckTable_l0_0_ok k a0 _ _ _ h275
  cases r276 with
  | inl r277 =>
   dsimp only at h
   have e279 := (an (ti trivial) (VRun.loop hph275))
   injection h with h; subst h
   exact fun_ok pm pn Go.Proofs.Try.func25 (r0 := vi r277) (ans := [.reg (.n :: []), .reg (.n :: .n :: .v VV.any :: .call (vb r233) :: .n :: []), .br false, .reg (nN 3 []), .sub ⟨[(0, none), (10, none), (11, none), (12, none)], [], []⟩ .ret (npoint_CheckTable_l0_0_e0 a0 r277)]) (fr := true) (by kernel_rfl) (an (an (ti trivial) (an (an (ti (ti (ti (an e235 (ti trivial))))) (an (not_f h236) trivial)) (an (ti (ti (ti trivial))) e279))) (ti trivial)) (Wv.refl _)
  | inr r278 =>
   dsimp only at h
   have e280 := (an (ti trivial) (VRun.loop hph275))
   injection h with h; subst h
   exact fun_ok pm pn Go.Proofs.Try.func25 (r0 := vi 0) (ans := [.reg (.n :: []), .reg (.n :: .n :: .v VV.any :: .call (vb r233) :: .n :: []), .br false, .reg (nN 3 []), .sub ⟨[(0, none), (10, none), (11, none), (12, none)], [], []⟩ (.exit 0) (npoint_CheckTable_l0_0_e1 a0 r278), .reg (.n :: [])]) (fr := true) (by kernel_rfl) (an (an (ti trivial) (an (an (ti (ti (ti (an e235 (ti trivial))))) (an (not_f h236) trivial)) (an (an (ti (ti (ti trivial))) e280) (an (ti trivial) trivial)))) (ti trivial)) (Wv.refl _)
 ·injection h with h; subst h
  exact fun_ok pm pn Go.Proofs.Try.func25 (r0 := vi 10) (ans := [.reg (.n :: []), .reg (.n :: .n :: .v VV.any :: .call (vb r233) :: .n :: []), .br true, .reg (.n :: [])]) (fr := true) (by kernel_rfl) (an (an (ti trivial) (an (ti (ti (ti (an e235 (ti trivial))))) (an (not_t (bool_f h236)) (an (ti trivial) trivial)))) (ti trivial)) (Wv.refl _)
def npoint_valueAt_1 (k : Nat) (a0 : SSkyRow) (q0_0 : Int) : Option Bool :=
  some (decide (q0_0 < a0.At))
theorem npoint_valueAt_1_ok (k : Nat) (a0 : SSkyRow) (q0_0 : Int) (r : Bool) (h : npoint_valueAt_1 k a0 q0_0 = some r) : VC Go.Proofs.Try.prog 44 [VV.ag (c_SSkyRow a0), VV.tp [vi q0_0] 0] (vb r) := by
 unfold npoint_valueAt_1 at h
 have e285 := (show loadL Go.Proofs.Try.prog 3 0 [vi q0_0] = some (vi q0_0) from (ld_one ag3 rfl))
 injection h with h; subst h
 exact fun_ok pm pn Go.Proofs.Try.func44 (r0 := vb (decide (q0_0 < a0.At))) (ans := [.reg (.n :: .n :: []), .reg (.n :: .n :: .v (vi q0_0) :: .n :: .n :: [])]) (fr := true) (by kernel_rfl) (an (an (ti (ti trivial)) (an (ti (ti (an e285 (ti (ti trivial))))) trivial)) (ti trivial)) (Wv.refl _)
def nslices_IndexFunc_api_SkyRow_api_SkyRow__c1_point_valueAt_1_l0_0_h (a0 : (List SSkyRow)) (a1 : Int) (x8 : Int) : VS := ⟨mkA [(0, VV.tr (List.flatMap c_SSkyRow a0) a0.length), (1, VV.fn 44 [VV.tp [vi a1] 0]), (7, vi (a0.length : Int)), (8, vi x8)], [], .nil⟩
def nslices_IndexFunc_api_SkyRow_api_SkyRow__c1_point_valueAt_1_l0_0_e0 (a0 : (List SSkyRow)) (a1 : Int) (r : Int) : VS := ⟨mkA [(4, vi r)], [], .nil⟩
def nslices_IndexFunc_api_SkyRow_api_SkyRow__c1_point_valueAt_1_l0_0_e1 (a0 : (List SSkyRow)) (a1 : Int) (r : Unit) : VS := ⟨mkA [], [], .nil⟩
def nslices_IndexFunc_api_SkyRow_api_SkyRow__c1_point_valueAt_1_l0_0 (k : Nat) (a0 : (List SSkyRow)) (a1 : Int) : Nat → Int → Option (Sum Int Unit)
  | 0, _ => none
  | fuel + 1, x8 => if x8 < (a0.length : Int) then (if 0 ≤ x8 ∧ x8 < (a0.length : Int) then ((npoint_valueAt_1 k (a0.getD x8.toNat default) a1).bind fun r332 => (if r332 = true then (some (.inl x8)) else (nslices_IndexFunc_api_SkyRow_api_SkyRow__c1_point_valueAt_1_l0_0 k a0 a1 fuel (w64 (x8 + 1))))) else none) else (some (.inr ()))
theorem nslices_IndexFunc_api_SkyRow_api_SkyRow__c1_point_valueAt_1_l0_0_ok (k : Nat) (a0 : (List SSkyRow)) (a1 : Int) : ∀ (fuel : Nat) (x8 : Int) (r : Sum Int Unit), nslices_IndexFunc_api_SkyRow_api_SkyRow__c1_point_valueAt_1_l0_0 k a0 a1 fuel x8 = some r → (match r with | .inl r => VLoop none Go.Proofs.Try.prog (szF Go.Proofs.Try.f43) (bodyOf Go.Proofs.Try.f43 0) (nslices_IndexFunc_api_SkyRow_api_SkyRow__c1_point_valueAt_1_l0_0_h a0 a1 x8) .ret (nslices_IndexFunc_api_SkyRow_api_SkyRow__c1_point_valueAt_1_l0_0_e0 a0 a1 r) | .inr r => VLoop none Go.Proofs.Try.prog (szF Go.Proofs.Try.f43) (bodyOf Go.Proofs.Try.f43 0) (nslices_IndexFunc_api_SkyRow_api_SkyRow__c1_point_valueAt_1_l0_0_h a0 a1 x8) (.exit 0) (nslices_IndexFunc_api_SkyRow_api_SkyRow__c1_point_valueAt_1_l0_0_e1 a0 a1 r)) := by
 intro fuel
 induction fuel with
 | zero => intro x8 r h; rw [nslices_IndexFunc_api_SkyRow_api_SkyRow__c1_point_valueAt_1_l0_0.eq_1] at h; cases h
 | succ fuel ih =>
  intro x8 r h
  rw [nslices_IndexFunc_api_SkyRow_api_SkyRow__c1_point_valueAt_1_l0_0.eq_2] at h
  rcases ifs h with ⟨h329, h⟩ | ⟨h329, h⟩
  ·obtain ⟨h330, h⟩ := ifn h
   have e331 := (show loadL Go.Proofs.Try.prog 39 (x8.toNat * 2) (List.flatMap c_SSkyRow a0) = some (VV.ag (c_SSkyRow (a0.getD x8.toNat default))) from ld_whole ag39 c_SSkyRow 2 sz39 len_c_SSkyRow a0 default h330 (by omega))
   obtain ⟨r332, h333, h⟩ := bs h
   have e334 := (npoint_valueAt_1_ok k (a0.getD x8.toNat default) a1 _ h333)
   have e335 := (ti (ti (ti (an h330 (an e331 (an e334 trivial))))))
   rcases ifs h with ⟨h336, h⟩ | ⟨h336, h⟩
   ·injection h with h; subst h
    exact round_stop (c := ⟨[(4, none)], [], []⟩) (s1 := (nslices_IndexFunc_api_SkyRow_api_SkyRow__c1_point_valueAt_1_l0_0_e0 a0 a1 x8)) pm pn (ans := [.reg (.n :: []), .br true, .reg (.n :: .n :: []), .reg (nN 4 (.v (VV.ag (c_SSkyRow (a0.getD x8.toNat default))) :: .call (vb r332) :: [])), .br true, .reg (.n :: .n :: [])]) (by kernel_rfl) (by intro e; cases e) (an (an (ti trivial) (an (an (decide_eq_true h329) trivial) (an (ti (ti trivial)) (an e335 (an h336 (an (ti (ti trivial)) trivial)))))) (ti trivial))
   ·have h2 := ih _ _ h
    obtain ⟨q, hv, hq⟩ := pkR (rd := none) (P := Go.Proofs.Try.prog) (fn := Go.Proofs.Try.f43) (k := 0) (s := (nslices_IndexFunc_api_SkyRow_api_SkyRow__c1_point_valueAt_1_l0_0_h a0 a1 x8)) (ans := [.reg (.n :: []), .br true, .reg (.n :: .n :: []), .reg (nN 4 (.v (VV.ag (c_SSkyRow (a0.getD x8.toNat default))) :: .call (vb r332) :: [])), .br false, .reg (.n :: .n :: [])]) (c := ⟨[(0, none), (1, none), (7, none), (8, none)], [], []⟩) (e := .normal) (s1 := (nslices_IndexFunc_api_SkyRow_api_SkyRow__c1_point_valueAt_1_l0_0_h a0 a1 (w64 (x8 + 1)))) (an (an (ti trivial) (an (an (decide_eq_true h329) trivial) (an (an (ti (ti trivial)) (an e335 (an (bool_f h336) trivial))) (ti (ti trivial))))) (ti trivial)) (by kernel_rfl)
    cases r with
    | inl r => exact round_next pm pn hv hq h2
    | inr r =>
     exact round_next pm pn hv hq h2
  ·injection h with h; subst h
   exact round_stop (c := ⟨[], [], []⟩) (s1 := (nslices_IndexFunc_api_SkyRow_api_SkyRow__c1_point_valueAt_1_l0_0_e1 a0 a1 ())) pm pn (ans := [.reg (.n :: []), .br false]) (by kernel_rfl) (by intro e; cases e) (an (an (ti trivial) (an (decide_eq_false h329) trivial)) (ti trivial))
def nslices_IndexFunc_api_SkyRow_api_SkyRow__c1_point_valueAt_1 (k : Nat) (a0 : (List SSkyRow)) (a1 : Int) : Option Int :=
  (nslices_IndexFunc_api_SkyRow_api_SkyRow__c1_point_valueAt_1_l0_0 k a0 a1 k 0).bind fun r338 => (match r338 with | .inl r339 => (some r339) | .inr r340 => (some (-1)))
theorem nslices_IndexFunc_api_SkyRow_api_SkyRow__c1_point_valueAt_1_ok (k : Nat) (a0 : (List SSkyRow)) (a1 : Int) (r : Int) (h : nslices_IndexFunc_api_SkyRow_api_SkyRow__c1_point_valueAt_1 k a0 a1 = some r) : VC Go.Proofs.Try.prog 43 [VV.tr (List.flatMap c_SSkyRow a0) a0.length, VV.fn 44 [VV.tp [vi a1] 0]] (vi r) := by
 unfold nslices_IndexFunc_api_SkyRow_api_SkyRow__c1_point_valueAt_1 at h
 obtain ⟨r338, h337, h⟩ := bs h
 have hph337 := nslices_IndexFunc_api_SkyRow_api_SkyRow__c1_point_valueAt_1_l0_0_ok k a0 a1 _ _ _ h337
 cases r338 with
 | inl r339 =>
  dsimp only at h
  have e341 := (an (ti trivial) (VRun.loop hph337))
  injection h with h; subst h
  exact fun_ok pm pn Go.Proofs.Try.func43 (r0 := vi r339) (ans := [.reg (.n :: []), .reg (nN 3 []), .sub ⟨[(0, none), (1, none), (7, none), (8, none)], [], []⟩ .ret (nslices_IndexFunc_api_SkyRow_api_SkyRow__c1_point_valueAt_1_l0_0_e0 a0 a1 r339)]) (fr := true) (by kernel_rfl) (an (an (ti trivial) (an (ti (ti (ti trivial))) e341)) (ti trivial)) (Wv.refl _)
 | inr r340 =>
  dsimp only at h
  have e342 := (an (ti trivial) (VRun.loop hph337))
  injection h with h; subst h
  exact fun_ok pm pn Go.Proofs.Try.func43 (r0 := vi (-1)) (ans := [.reg (.n :: []), .reg (nN 3 []), .sub ⟨[(0, none), (1, none), (7, none), (8, none)], [], []⟩ (.exit 0) (nslices_IndexFunc_api_SkyRow_api_SkyRow__c1_point_valueAt_1_l0_0_e1 a0 a1 r340), .reg (.n :: [])]) (fr := true) (by kernel_rfl) (an (an (ti trivial) (an (an (ti (ti (ti trivial))) e342) (an (ti trivial) trivial))) (ti trivial)) (Wv.refl _)
def npoint_down (k : Nat) (a0 : Int) (a1 : Int) : Option Int :=
  if a1 ≠ 0 then (if (a0.tmod a1) < 0 then (some (w64 ((w64 (a0.tdiv a1)) - 1))) else (some (w64 (a0.tdiv a1)))) else none
theorem npoint_down_ok (k : Nat) (a0 : Int) (a1 : Int) (r : Int) (h : npoint_down k a0 a1 = some r) : VC Go.Proofs.Try.prog 38 [vi a0, vi a1] (vi r) := by
 unfold npoint_down at h
 obtain ⟨h361, h⟩ := ifn h
 rcases ifs h with ⟨h362, h⟩ | ⟨h362, h⟩
 ·injection h with h; subst h
  exact fun_ok pm pn Go.Proofs.Try.func38 (r0 := vi (w64 ((w64 (a0.tdiv a1)) - 1))) (ans := [.reg (.n :: []), .reg (nN 4 []), .br true, .reg (nN 5 [])]) (fr := true) (by kernel_rfl) (an (an (ti trivial) (an (ti (ti (an h361 (ti trivial)))) (an (decide_eq_true h362) (an (ti (ti (an h361 (ti (ti trivial))))) trivial)))) (ti trivial)) (Wv.refl _)
 ·injection h with h; subst h
  exact fun_ok pm pn Go.Proofs.Try.func38 (r0 := vi (w64 (a0.tdiv a1))) (ans := [.reg (.n :: []), .reg (nN 4 []), .br false, .reg (nN 4 [])]) (fr := true) (by kernel_rfl) (an (an (ti trivial) (an (an (ti (ti (an h361 (ti trivial)))) (an (decide_eq_false h362) trivial)) (an (ti (ti (an h361 (ti trivial)))) trivial))) (ti trivial)) (Wv.refl _)
def arB1_1 (z0 : (List SSkyRow)) : List Ans := (nN 6 (.v (vi ((z0.getD (w64 ((z0.length : Int) - 1)).toNat default).Value)) :: .n :: []))
def arB1_2 (z0 : (List SSkyRow)) (z1 : Int) : List Ans := (nN 4 (.v (VV.ag (c_SSkyRow (z0.getD (w64 (z1 - 1)).toNat default))) :: nN 3 (.v (VV.ag (c_SSkyRow (z0.getD z1.toNat default))) :: nN 4 [])))
def npoint_valueAt (k : Nat) (a0 : (List SSkyRow)) (a1 : Int) : Option Int :=
  (nslices_IndexFunc_api_SkyRow_api_SkyRow__c1_point_valueAt_1 k a0 a1).bind fun r367 => (if r367 = (-1) then (if 0 ≤ w64 ((a0.length : Int) - 1) ∧ w64 ((a0.length : Int) - 1) < (a0.length : Int) then (some ((a0.getD (w64 ((a0.length : Int) - 1)).toNat default).Value)) else none) else (if r367 = 0 then (if (0 : Int) ≤ 0 ∧ 0 < (a0.length : Int) then (some ((a0.getD ((0 : Int)).toNat default).Value)) else none) else (if 0 ≤ w64 (r367 - 1) ∧ w64 (r367 - 1) < (a0.length : Int) then (if 0 ≤ r367 ∧ r367 < (a0.length : Int) then ((npoint_down k (w64 ((w64 (((a0.getD r367.toNat default).Value) - ((a0.getD (w64 (r367 - 1)).toNat default).Value))) * (w64 (a1 - ((a0.getD (w64 (r367 - 1)).toNat default).At))))) (w64 (((a0.getD r367.toNat default).At) - ((a0.getD (w64 (r367 - 1)).toNat default).At)))).bind fun r383 => (some (w64 (((a0.getD (w64 (r367 - 1)).toNat default).Value) + r383)))) else none) else none)))
theorem npoint_valueAt_ok (k : Nat) (a0 : (List SSkyRow)) (a1 : Int) (r : Int) (h : npoint_valueAt k a0 a1 = some r) : VC Go.Proofs.Try.prog 35 [VV.tr (List.flatMap c_SSkyRow a0) a0.length, vi a1] (vi r) := by
 unfold npoint_valueAt at h
 obtain ⟨r367, h368, h⟩ := bs h
 have e369 := (nslices_IndexFunc_api_SkyRow_api_SkyRow__c1_point_valueAt_1_ok k a0 a1 _ h368)
 rcases ifs h with ⟨h370, h⟩ | ⟨h370, h⟩
 ·obtain ⟨h371, h⟩ := ifn h
  have e372 := (show loadL Go.Proofs.Try.prog 3 ((w64 ((a0.length : Int) - 1)).toNat * 2 + 1) (List.flatMap c_SSkyRow a0) = some (vi ((a0.getD (w64 ((a0.length : Int) - 1)).toNat default).Value)) from (ld_flat ag3 c_SSkyRow 2 1 len_c_SSkyRow (by omega) a0 default h371 (by omega)).trans rfl)
  have e373 := (ti (ti (ti (ti (an h371 (ti (an e372 (ti trivial))))))))
  injection h with h; subst h
  exact fun_ok pm pn Go.Proofs.Try.func35 (r0 := vi ((a0.getD (w64 ((a0.length : Int) - 1)).toNat default).Value)) (ans := [.reg (.n :: .n :: []), .frz 0, .reg (.n :: .n :: .call (vi r367) :: .n :: []), .reg (.n :: []), .reg (.n :: .n :: []), .br true, .reg (arB1_1 a0)]) (fr := true) (by kernel_rfl) (an (an (ti (ti trivial)) (an (ti (ti (an e369 (ti trivial)))) (an (ti trivial) (an (ti (ti trivial)) (an (decide_eq_true h370) (an e373 trivial)))))) (ti trivial)) (Wv.refl _)
 ·rcases ifs h with ⟨h374, h⟩ | ⟨h374, h⟩
  ·obtain ⟨h375, h⟩ := ifn h
   have e376 := (show loadL Go.Proofs.Try.prog 3 (((0 : Int)).toNat * 2 + 1) (List.flatMap c_SSkyRow a0) = some (vi ((a0.getD ((0 : Int)).toNat default).Value)) from (ld_flat ag3 c_SSkyRow 2 1 len_c_SSkyRow (by omega) a0 default h375 (by omega)).trans rfl)
   injection h with h; subst h
   exact fun_ok pm pn Go.Proofs.Try.func35 (r0 := vi ((a0.getD ((0 : Int)).toNat default).Value)) (ans := [.reg (.n :: .n :: []), .frz 0, .reg (.n :: .n :: .call (vi r367) :: .n :: []), .reg (.n :: []), .reg (.n :: .n :: []), .br false, .reg (.n :: .n :: []), .br true, .reg (nN 3 (.v (vi ((a0.getD ((0 : Int)).toNat default).Value)) :: .n :: []))]) (fr := true) (by kernel_rfl) (an (an (ti (ti trivial)) (an (ti (ti (an e369 (ti trivial)))) (an (ti trivial) (an (ti (ti trivial)) (an (decide_eq_false h370) (an (ti (ti trivial)) (an (decide_eq_true h374) (an (ti (an h375 (ti (an e376 (ti trivial))))) trivial)))))))) (ti trivial)) (Wv.refl _)
  ·obtain ⟨h377, h⟩ := ifn h
   have e378 := (show loadL Go.Proofs.Try.prog 39 ((w64 (r367 - 1)).toNat * 2) (List.flatMap c_SSkyRow a0) = some (VV.ag (c_SSkyRow (a0.getD (w64 (r367 - 1)).toNat default))) from ld_whole ag39 c_SSkyRow 2 sz39 len_c_SSkyRow a0 default h377 (by omega))
   obtain ⟨h379, h⟩ := ifn h
   have e380 := (show loadL Go.Proofs.Try.prog 39 (r367.toNat * 2) (List.flatMap c_SSkyRow a0) = some (VV.ag (c_SSkyRow (a0.getD r367.toNat default))) from ld_whole ag39 c_SSkyRow 2 sz39 len_c_SSkyRow a0 default h379 (by omega))
   have e381 := (ti (ti (ti (an h377 (an e378 (ti (ti (an h379 (an e380 (ti (ti (ti (ti trivial)))))))))))))
   have e382 := (show loadL Go.Proofs.Try.prog 3 0 [vi a1] = some (vi a1) from (ld_one ag3 rfl))
   obtain ⟨r383, h384, h⟩ := bs h
   have e385 := (npoint_down_ok k (w64 ((w64 (((a0.getD r367.toNat default).Value) - ((a0.getD (w64 (r367 - 1)).toNat default).Value))) * (w64 (a1 - ((a0.getD (w64 (r367 - 1)).toNat default).At))))) (w64 (((a0.getD r367.toNat default).At) - ((a0.getD (w64 (r367 - 1)).toNat default).At))) _ h384)
   have e386 := (ti (ti (ti (ti (ti (ti (ti (an e382 (ti (ti (ti (ti (ti (ti (ti (ti (ti (an e385 (ti (ti trivial))))))))))))))))))))
   injection h with h; subst h
   exact fun_ok pm pn Go.Proofs.Try.func35 (r0 := vi (w64 (((a0.getD (w64 (r367 - 1)).toNat default).Value) + r383))) (ans := [.reg (.n :: .n :: []), .frz 0, .reg (.n :: .n :: .call (vi r367) :: .n :: []), .reg (.n :: []), .reg (.n :: .n :: []), .br false, .reg (.n :: .n :: []), .br false, .reg (arB1_2 a0 r367), .reg (nN 7 (.v (vi a1) :: nN 9 (.call (vi r383) :: .n :: .n :: [])))]) (fr := true) (by kernel_rfl) (an (an (ti (ti trivial)) (an (ti (ti (an e369 (ti trivial)))) (an (an (ti trivial) (an (ti (ti trivial)) (an (decide_eq_false h370) (an (ti (ti trivial)) (an (decide_eq_false h374) trivial))))) (an e381 (an e386 trivial))))) (ti trivial)) (Wv.refl _)
theorem eqB1_3 (z0 : Int) : [vi 1000000, VV.tr (List.map vi ([z0] : List Int)) (([z0] : List Int).length)] = [vi 1000000, VV.tr [vi z0] 1] := by first | rfl | (simp only [unfr_vi, List.map_cons, List.map_nil, un_i, un_tr, List.length_map, List.length_cons, List.length_nil]; done) | (simp only [unfr_vi, List.map_cons, List.map_nil, un_i, un_tr, List.length_map, List.length_cons, List.length_nil]; rfl) | (simp only [unfr_vi, List.map_cons, List.map_nil, un_i, un_tr, List.length_map, List.length_cons, List.length_nil, List.length_cons, List.length_nil, List.length_append]; done)
def npoint_TableAt (k : Nat) (a0 : (List SSkyRow)) (a1 : Int) : Option (Int × Int) :=
  (npoint_CheckTable k a0).bind fun r398 => (if r398 = 0 then ((npoint_areSmall k 1000000 ([a1] : List Int)).bind fun r402 => (if r402 = true then ((npoint_valueAt k a0 a1).bind fun r406 => (some (r406, 0))) else (some (0, 2)))) else (some (0, r398)))
theorem npoint_TableAt_ok (k : Nat) (a0 : (List SSkyRow)) (a1 : Int) (r : (Int × Int)) (h : npoint_TableAt k a0 a1 = some r) : VC Go.Proofs.Try.prog 16 [VV.tr (List.flatMap c_SSkyRow a0) a0.length, vi a1] (VV.tu [vi r.1, vi r.2]) := by
 unfold npoint_TableAt at h
 obtain ⟨r398, h399, h⟩ := bs h
 have e400 := (ti (an (npoint_CheckTable_ok k a0 _ h399) (ti trivial)))
 rcases ifs h with ⟨h401, h⟩ | ⟨h401, h⟩
 ·obtain ⟨r402, h403, h⟩ := bs h
  have e404 := (VC.args (npoint_areSmall_ok k 1000000 ([a1] : List Int) _ h403) (eqB1_3 a1))
  rcases ifs h with ⟨h405, h⟩ | ⟨h405, h⟩
  ·obtain ⟨r406, h407, h⟩ := bs h
   have e408 := (ti (ti (an (npoint_valueAt_ok k a0 a1 _ h407) (ti (ti trivial)))))
   injection h with h; subst h
   exact fun_ok pm pn Go.Proofs.Try.func16 (r0 := VV.tu [vi r406, vi 0]) (ans := [.reg (.n :: .n :: []), .reg (.n :: .call (vi r398) :: .n :: []), .reg (.n :: .n :: []), .br false, .reg (.n :: .v VV.any :: .call (vb r402) :: .n :: []), .br false, .reg (.n :: .n :: .call (vi r406) :: .n :: .n :: [])]) (fr := true) (by kernel_rfl) (an (an (ti (ti trivial)) (an (an e400 (an (ti (ti trivial)) (an (not_f (decide_eq_true h401)) trivial))) (an (an (ti (ti (an e404 (ti trivial)))) (an (not_f h405) trivial)) (an e408 trivial)))) (ti (ti trivial))) (Wv.refl _)
  ·injection h with h; subst h
   exact fun_ok pm pn Go.Proofs.Try.func16 (r0 := VV.tu [vi 0, vi 2]) (ans := [.reg (.n :: .n :: []), .reg (.n :: .call (vi r398) :: .n :: []), .reg (.n :: .n :: []), .br false, .reg (.n :: .v VV.any :: .call (vb r402) :: .n :: []), .br true, .reg (.n :: .n :: [])]) (fr := true) (by kernel_rfl) (an (an (ti (ti trivial)) (an (an e400 (an (ti (ti trivial)) (an (not_f (decide_eq_true h401)) trivial))) (an (ti (ti (an e404 (ti trivial)))) (an (not_t (bool_f h405)) (an (ti (ti trivial)) trivial))))) (ti (ti trivial))) (Wv.refl _)
 ·injection h with h; subst h
  exact fun_ok pm pn Go.Proofs.Try.func16 (r0 := VV.tu [vi 0, vi r398]) (ans := [.reg (.n :: .n :: []), .reg (.n :: .call (vi r398) :: .n :: []), .reg (.n :: .n :: []), .br true, .reg (nN 3 [])]) (fr := true) (by kernel_rfl) (an (an (ti (ti trivial)) (an e400 (an (ti (ti trivial)) (an (not_t (decide_eq_false h401)) (an (ti (ti (ti trivial))) trivial))))) (ti (ti trivial))) (Wv.refl _)
end Go.Proofs.Ytgacnndakgpaeaa.Vg

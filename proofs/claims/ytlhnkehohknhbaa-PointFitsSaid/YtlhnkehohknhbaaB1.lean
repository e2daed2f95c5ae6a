/- Written by a program out of the program: what Go functions do, as plain functions, and their contracts. -/
import Derived.Test.YtlhnkehohknhbaaWa
namespace Go.Proofs.Ytlhnkehohknhbaa.Vg
set_option maxRecDepth 100000
set_option maxHeartbeats 4000000
set_option linter.unusedVariables false
set_option linter.unusedSimpArgs false
open Go Go.Proofs.Ytlhnkehohknhbaa.Ev Go.Proofs.Ytlhnkehohknhbaa.Vv
structure SSkyRow where
  At : Int
  Value : Int
  deriving Inhabited
def c_SSkyRow (x : SSkyRow) : List VV := [vi x.At, vi x.Value]
theorem len_c_SSkyRow (x : SSkyRow) : (c_SSkyRow x).length = 2 := rfl
theorem still_c_SSkyRow (xs : List SSkyRow) : (xs.flatMap c_SSkyRow).all VV.still = true := all_flat (fun _ => rfl) xs
theorem isC_c_SSkyRow (xs : List SSkyRow) : (xs.flatMap c_SSkyRow).all VV.isC = true := all_flat (fun _ => rfl) xs
theorem new0_c_SSkyRow (xs : List SSkyRow) : (xs.flatMap c_SSkyRow).all new0 = true := all_flat (fun _ => rfl) xs
theorem unfr_c_SSkyRow (xs : List SSkyRow) : (xs.flatMap c_SSkyRow).map unfr = xs.flatMap c_SSkyRow := unfr_flat (fun _ => rfl) xs
theorem ag3 : isAggT Go.Proofs.Try.prog 3 = some false := by kernel_rfl
theorem ag77 : isAggT Go.Proofs.Try.prog 77 = some true := by kernel_rfl
theorem sz77 : szOf Go.Proofs.Try.prog 77 = some 2 := by kernel_rfl
def nspeculumlaw09_rows (k : Nat) (a0 : (List SSkyRow)) : Option Bool :=
  if (a0.length : Int) ≤ 6 then (some true) else (if 40 < (a0.length : Int) then (some (decide ((a0.length : Int) ≤ 43))) else (some false))
theorem nspeculumlaw09_rows_ok (k : Nat) (a0 : (List SSkyRow)) (r : Bool) (h : nspeculumlaw09_rows k a0 = some r) : VC Go.Proofs.Try.prog 43 [VV.tr (List.flatMap c_SSkyRow a0) a0.length] (vb r) := by
 unfold nspeculumlaw09_rows at h
 rcases ifs h with ⟨h8, h⟩ | ⟨h8, h⟩
 ·have e9 := (ti (ti (ti (ti (an (decide_eq_true h8) (an (decide_eq_true h8) (an (decide_eq_true h8) (an (decide_eq_true h8) (ti (ti (ti (an (decide_eq_true h8) (an (decide_eq_true h8) (ti trivial))))))))))))))
  injection h with h; subst h
  exact fun_ok pm pn Go.Proofs.Try.func43 (r0 := vb true) (ans := [.reg (.n :: []), .reg (nN 4 (nS 8 (.b true :: .n :: [])))]) (fr := true) (by kernel_rfl) (an (an (ti trivial) (an e9 trivial)) (ti trivial)) (Wv.refl _)
 ·rcases ifs h with ⟨h10, h⟩ | ⟨h10, h⟩
  ·have e11 := (an (decide_eq_false h8) (decide_eq_true h10))
   have e12 := (ti (ti (ti (ti (an (an (decide_eq_false h8) trivial) (an (an (decide_eq_false h8) trivial) (an (an (decide_eq_false h8) trivial) (an (an (decide_eq_false h8) trivial) (an (an (decide_eq_true h10) trivial) (an (an (decide_eq_true h10) trivial) (an (an (decide_eq_true h10) trivial) (an e11 (an (decide_eq_false h8) (ti trivial))))))))))))))
   injection h with h; subst h
   exact fun_ok pm pn Go.Proofs.Try.func43 (r0 := vb (decide ((a0.length : Int) ≤ 43))) (ans := [.reg (.n :: []), .reg (nN 11 (.b true :: .b false :: .n :: []))]) (fr := true) (by kernel_rfl) (an (an (ti trivial) (an e12 trivial)) (ti trivial)) (Wv.refl _)
  ·have e13 := (an (decide_eq_false h8) (decide_eq_false h10))
   have e14 := (ti (ti (ti (ti (an (an (decide_eq_false h8) trivial) (an (an (decide_eq_false h8) trivial) (an (an (decide_eq_false h8) trivial) (an (an (decide_eq_false h8) trivial) (an (decide_eq_false h10) (an (decide_eq_false h10) (an (decide_eq_false h10) (an e13 (an (decide_eq_false h8) (ti trivial))))))))))))))
   injection h with h; subst h
   exact fun_ok pm pn Go.Proofs.Try.func43 (r0 := vb false) (ans := [.reg (.n :: []), .reg (nN 8 (nS 3 (.b false :: .b false :: .n :: [])))]) (fr := true) (by kernel_rfl) (an (an (ti trivial) (an e14 trivial)) (ti trivial)) (Wv.refl _)
def nspeculumlaw09_table (k : Nat) (a0 : (List SSkyRow)) : Option (List SSkyRow) :=
  if ([] : List SSkyRow).length + a0.length ≤ 1000000000 then (some (([] : List SSkyRow) ++ a0)) else none
theorem nspeculumlaw09_table_ok (k : Nat) (a0 : (List SSkyRow)) (r : (List SSkyRow)) (h : nspeculumlaw09_table k a0 = some r) : VC Go.Proofs.Try.prog 45 [VV.tr (List.flatMap c_SSkyRow a0) a0.length] (VV.fw 2 (List.flatMap c_SSkyRow r) r.length) := by
 unfold nspeculumlaw09_table at h
 obtain ⟨h17, h⟩ := ifn h
 have e18 := (show List.length [] = 0 * 2 ∧ List.length (List.flatMap c_SSkyRow a0) = a0.length * 2 ∧ (0 + a0.length) * 16 ≤ 140737488355328 ∧ 0 + a0.length < 1099511627776 ∧ List.all (List.flatMap c_SSkyRow a0) VV.still = true from ⟨(by rw [show [] = List.flatMap c_SSkyRow ([] : List SSkyRow) from rfl]; rw [flatMap_len len_c_SSkyRow] <;> simp), (by rw [flatMap_len len_c_SSkyRow] <;> simp), by simp at h17 ⊢; omega, by simp at h17 ⊢; omega, (by exact still_c_SSkyRow _)⟩)
 injection h with h; subst h
 exact fun_ok pm pn Go.Proofs.Try.func45 (r0 := VV.fw 2 (List.drop 0 (List.map unfr ([] ++ (List.flatMap c_SSkyRow a0)))) (0 + a0.length)) (ans := [.reg (.n :: []), .reg (nN 4 [])]) (fr := true) (by kernel_rfl) (an (an (ti trivial) (an (ti (ti (an e18 (ti trivial)))) trivial)) (an (show List.all ([] ++ (List.flatMap c_SSkyRow a0)) new0 = true from (by rw [show [] ++ (List.flatMap c_SSkyRow a0) = List.flatMap c_SSkyRow (([] : List SSkyRow) ++ a0) from (by rw [show [] = List.flatMap c_SSkyRow ([] : List SSkyRow) from rfl]; exact List.flatMap_append.symm)]; exact new0_c_SSkyRow _)) trivial)) (Wv.of_eq (by simp only [show [] ++ (List.flatMap c_SSkyRow a0) = List.flatMap c_SSkyRow (([] : List SSkyRow) ++ a0) from (by rw [show [] = List.flatMap c_SSkyRow ([] : List SSkyRow) from rfl]; exact List.flatMap_append.symm), drop0, unfr_vi, unfr_vb, unfr_vs, List.map_cons, List.map_nil, un_i, un_k, un_b, un_s, un_tr, un_fr, List.length_map, List.length_replicate, List.length_append, List.length_set, List.length_cons, List.length_nil, unfr_c_SSkyRow]))
def npoint_areWithin_l0_0_h (a0 : Int) (a1 : Int) (a2 : (List Int)) (x11 : Int) : VS := ⟨mkA [(0, vi a0), (1, vi a1), (9, VV.tr (List.map vi a2) a2.length), (10, vi (a2.length : Int)), (11, vi x11)], [], .nil⟩
def npoint_areWithin_l0_0_e0 (a0 : Int) (a1 : Int) (a2 : (List Int)) (r : Unit) : VS := ⟨mkA [(6, vb false)], [], .nil⟩
def npoint_areWithin_l0_0_e1 (a0 : Int) (a1 : Int) (a2 : (List Int)) (r : Unit) : VS := ⟨mkA [], [], .nil⟩
def npoint_areWithin_l0_0 (k : Nat) (a0 : Int) (a1 : Int) (a2 : (List Int)) : Nat → Int → Option (Sum Unit Unit)
  | 0, _ => none
  | fuel + 1, x11 => if x11 < (a2.length : Int) then (if 0 ≤ x11 ∧ x11 < (a2.length : Int) then (if (a2.getD x11.toNat 0) < a0 then (some (.inl ())) else (if a1 < (a2.getD x11.toNat 0) then (some (.inl ())) else (npoint_areWithin_l0_0 k a0 a1 a2 fuel (w64 (x11 + 1))))) else none) else (some (.inr ()))
theorem npoint_areWithin_l0_0_ok (k : Nat) (a0 : Int) (a1 : Int) (a2 : (List Int)) : ∀ (fuel : Nat) (x11 : Int) (r : Sum Unit Unit), npoint_areWithin_l0_0 k a0 a1 a2 fuel x11 = some r → (match r with | .inl r => VLoop none Go.Proofs.Try.prog (szF Go.Proofs.Try.f90) (bodyOf Go.Proofs.Try.f90 0) (npoint_areWithin_l0_0_h a0 a1 a2 x11) .ret (npoint_areWithin_l0_0_e0 a0 a1 a2 r) | .inr r => VLoop none Go.Proofs.Try.prog (szF Go.Proofs.Try.f90) (bodyOf Go.Proofs.Try.f90 0) (npoint_areWithin_l0_0_h a0 a1 a2 x11) (.exit 0) (npoint_areWithin_l0_0_e1 a0 a1 a2 r)) := by
 intro fuel
 induction fuel with
 | zero => intro x11 r h; rw [npoint_areWithin_l0_0.eq_1] at h; cases h
 | succ fuel ih =>
  intro x11 r h
  rw [npoint_areWithin_l0_0.eq_2] at h
  rcases ifs h with ⟨h60, h⟩ | ⟨h60, h⟩
  ·obtain ⟨h61, h⟩ := ifn h
   have e62 := (show loadL Go.Proofs.Try.prog 3 (x11.toNat * 1) (List.map vi a2) = some (vi (a2.getD x11.toNat 0)) from ld_map ag3 vi a2 0 h61 (by omega))
   rcases ifs h with ⟨h63, h⟩ | ⟨h63, h⟩
   ·have e64 := (ti (ti (ti (ti (an (decide_eq_true h63) (an (decide_eq_true h63) (an (decide_eq_true h63) (an (decide_eq_true h63) trivial))))))))
    injection h with h; subst h
    exact round_stop (c := ⟨[(6, none)], [], []⟩) (s1 := (npoint_areWithin_l0_0_e0 a0 a1 a2 ())) pm pn (ans := [.reg (.n :: []), .br true, .reg (.n :: .v (vi (a2.getD x11.toNat 0)) :: .n :: []), .reg (nN 4 (nS 3 (.b true :: []))), .br true, .reg (.n :: [])]) (by kernel_rfl) (by intro e; cases e) (an (an (ti trivial) (an (an (decide_eq_true h60) trivial) (an (an h61 (an e62 (ti trivial))) (an e64 (an rt (an (ti trivial) trivial)))))) (ti trivial))
   ·have e65 := (ti (ti (ti (ti (an (an (decide_eq_false h63) trivial) (an (an (decide_eq_false h63) trivial) (an (an (decide_eq_false h63) trivial) (an (decide_eq_false h63) trivial))))))))
    rcases ifs h with ⟨h66, h⟩ | ⟨h66, h⟩
    ·injection h with h; subst h
     exact round_stop (c := ⟨[(6, none)], [], []⟩) (s1 := (npoint_areWithin_l0_0_e0 a0 a1 a2 ())) pm pn (ans := [.reg (.n :: []), .br true, .reg (.n :: .v (vi (a2.getD x11.toNat 0)) :: .n :: []), .reg (nN 7 (.b false :: [])), .br true, .reg (.n :: [])]) (by kernel_rfl) (by intro e; cases e) (an (an (ti trivial) (an (an (decide_eq_true h60) trivial) (an (an h61 (an e62 (ti trivial))) (an e65 (an (decide_eq_true h66) (an (ti trivial) trivial)))))) (ti trivial))
    ·have h2 := ih _ _ h
     obtain ⟨q, hv, hq⟩ := pkR (rd := none) (P := Go.Proofs.Try.prog) (fn := Go.Proofs.Try.f90) (k := 0) (s := (npoint_areWithin_l0_0_h a0 a1 a2 x11)) (ans := [.reg (.n :: []), .br true, .reg (.n :: .v (vi (a2.getD x11.toNat 0)) :: .n :: []), .reg (nN 7 (.b false :: [])), .br false, .reg (.n :: .n :: [])]) (c := ⟨[(0, none), (1, none), (9, none), (10, none), (11, none)], [], []⟩) (e := .normal) (s1 := (npoint_areWithin_l0_0_h a0 a1 a2 (w64 (x11 + 1)))) (an (an (ti trivial) (an (an (decide_eq_true h60) trivial) (an (an (an h61 (an e62 (ti trivial))) (an e65 (an (decide_eq_false h66) trivial))) (ti (ti trivial))))) (ti trivial)) (by kernel_rfl)
     cases r with
     | inl r => exact round_next pm pn hv hq h2
     | inr r =>
      exact round_next pm pn hv hq h2
  ·injection h with h; subst h
   exact round_stop (c := ⟨[], [], []⟩) (s1 := (npoint_areWithin_l0_0_e1 a0 a1 a2 ())) pm pn (ans := [.reg (.n :: []), .br false]) (by kernel_rfl) (by intro e; cases e) (an (an (ti trivial) (an (decide_eq_false h60) trivial)) (ti trivial))
def npoint_areWithin (k : Nat) (a0 : Int) (a1 : Int) (a2 : (List Int)) : Option Bool :=
  (npoint_areWithin_l0_0 k a0 a1 a2 k 0).bind fun r68 => (match r68 with | .inl r69 => (some false) | .inr r70 => (some true))
theorem npoint_areWithin_ok (k : Nat) (a0 : Int) (a1 : Int) (a2 : (List Int)) (r : Bool) (h : npoint_areWithin k a0 a1 a2 = some r) : VC Go.Proofs.Try.prog 90 [vi a0, vi a1, VV.tr (List.map vi a2) a2.length] (vb r) := by
 unfold npoint_areWithin at h
 obtain ⟨r68, h67, h⟩ := bs h
 have hph67 := npoint_areWithin_l0_0_ok k a0 a1 a2 _ _ _ h67
 cases r68 with
 | inl r69 =>
  dsimp only at h
  have e71 := (an (ti trivial) (VRun.loop hph67))
  injection h with h; subst h
  exact fun_ok pm pn Go.Proofs.Try.func90 (r0 := vb false) (ans := [.reg (.n :: []), .reg (nN 3 []), .sub ⟨[(0, none), (1, none), (9, none), (10, none), (11, none)], [], []⟩ .ret (npoint_areWithin_l0_0_e0 a0 a1 a2 r69)]) (fr := true) (by kernel_rfl) (an (an (ti trivial) (an (ti (ti (ti trivial))) e71)) (ti trivial)) (Wv.refl _)
 | inr r70 =>
  dsimp only at h
  have e72 := (an (ti trivial) (VRun.loop hph67))
  injection h with h; subst h
  exact fun_ok pm pn Go.Proofs.Try.func90 (r0 := vb true) (ans := [.reg (.n :: []), .reg (nN 3 []), .sub ⟨[(0, none), (1, none), (9, none), (10, none), (11, none)], [], []⟩ (.exit 0) (npoint_areWithin_l0_0_e1 a0 a1 a2 r70), .reg (.n :: [])]) (fr := true) (by kernel_rfl) (an (an (ti trivial) (an (an (ti (ti (ti trivial))) e72) (an (ti trivial) trivial))) (ti trivial)) (Wv.refl _)
theorem eqB1_0 (z0 : (List SSkyRow)) : [vi 1, vi 40, VV.tr (List.map vi ([(z0.length : Int)] : List Int)) (([(z0.length : Int)] : List Int).length)] = [vi 1, vi 40, VV.tr (List.drop 0 (List.map unfr [vi (z0.length : Int)])) 1] := by first | rfl | simp only [drop0, unfr_vi, List.map_cons, List.map_nil, un_i, un_tr, List.length_map, List.length_cons, List.length_nil]
def npoint_areSmall (k : Nat) (a0 : Int) (a1 : (List Int)) : Option Bool :=
  (npoint_areWithin k (w64 (0 - a0)) a0 a1).bind fun r83 => (some r83)
theorem npoint_areSmall_ok (k : Nat) (a0 : Int) (a1 : (List Int)) (r : Bool) (h : npoint_areSmall k a0 a1 = some r) : VC Go.Proofs.Try.prog 85 [vi a0, VV.tr (List.map vi a1) a1.length] (vb r) := by
 unfold npoint_areSmall at h
 obtain ⟨r83, h84, h⟩ := bs h
 have e85 := (npoint_areWithin_ok k (w64 (0 - a0)) a0 a1 _ h84)
 injection h with h; subst h
 exact fun_ok pm pn Go.Proofs.Try.func85 (r0 := vb r83) (ans := [.reg (.n :: []), .reg (nN 4 (.call (vb r83) :: .n :: []))]) (fr := true) (by kernel_rfl) (an (an (ti trivial) (an (ti (ti (ti (ti (an e85 (ti trivial)))))) trivial)) (ti trivial)) (Wv.refl _)
theorem eqB1_1 (z0 : (List SSkyRow)) : [vi 1000000, VV.tr (List.map vi ([(z0.getD ((0 : Int)).toNat default).At, (z0.getD ((0 : Int)).toNat default).Value] : List Int)) (([(z0.getD ((0 : Int)).toNat default).At, (z0.getD ((0 : Int)).toNat default).Value] : List Int).length)] = [vi 1000000, VV.tr (List.drop 0 (List.map unfr [vi ((z0.getD ((0 : Int)).toNat default).At), vi ((z0.getD ((0 : Int)).toNat default).Value)])) 2] := by first | rfl | simp only [drop0, unfr_vi, List.map_cons, List.map_nil, un_i, un_tr, List.length_map, List.length_cons, List.length_nil]
theorem eqB1_2 (z0 : (List SSkyRow)) (z1 : Int) : [vi 1000000, VV.tr (List.map vi ([(z0.getD z1.toNat default).At, (z0.getD z1.toNat default).Value] : List Int)) (([(z0.getD z1.toNat default).At, (z0.getD z1.toNat default).Value] : List Int).length)] = [vi 1000000, VV.tr (List.drop 0 (List.map unfr [vi ((z0.getD z1.toNat default).At), vi ((z0.getD z1.toNat default).Value)])) 2] := by first | rfl | simp only [drop0, unfr_vi, List.map_cons, List.map_nil, un_i, un_tr, List.length_map, List.length_cons, List.length_nil]
def arB1_0 (z0 : (List SSkyRow)) (z1 : Int) : List Ans := (nN 10 (.v (vi ((z0.getD (w64 (z1 - 1)).toNat default).At)) :: .n :: .b true :: .n :: []))
def npoint_CheckTable_l0_0_h (a0 : (List SSkyRow)) (x12 : Int) : VS := ⟨mkA [(0, VV.tr (List.flatMap c_SSkyRow a0) a0.length), (10, VV.tr (List.flatMap c_SSkyRow a0) a0.length), (11, vi (a0.length : Int)), (12, vi x12)], [], .nil⟩
def npoint_CheckTable_l0_0_e0 (a0 : (List SSkyRow)) (r : Int) : VS := ⟨mkA [(2, vi r)], [], .nil⟩
def npoint_CheckTable_l0_0_e1 (a0 : (List SSkyRow)) (r : Unit) : VS := ⟨mkA [], [], .nil⟩
def npoint_CheckTable_l0_0 (k : Nat) (a0 : (List SSkyRow)) : Nat → Int → Option (Sum Int Unit)
  | 0, _ => none
  | fuel + 1, x12 => if x12 < (a0.length : Int) then (if 0 ≤ x12 ∧ x12 < (a0.length : Int) then ((npoint_areSmall k 1000000 ([(a0.getD x12.toNat default).At, (a0.getD x12.toNat default).Value] : List Int)).bind fun r158 => (if r158 = true then (if 0 < x12 then (if 0 ≤ w64 (x12 - 1) ∧ w64 (x12 - 1) < (a0.length : Int) then (if ((a0.getD x12.toNat default).At) ≤ ((a0.getD (w64 (x12 - 1)).toNat default).At) then (some (.inl 9)) else (npoint_CheckTable_l0_0 k a0 fuel (w64 (x12 + 1)))) else none) else (npoint_CheckTable_l0_0 k a0 fuel (w64 (x12 + 1)))) else (some (.inl 2)))) else none) else (some (.inr ()))
theorem npoint_CheckTable_l0_0_ok (k : Nat) (a0 : (List SSkyRow)) : ∀ (fuel : Nat) (x12 : Int) (r : Sum Int Unit), npoint_CheckTable_l0_0 k a0 fuel x12 = some r → (match r with | .inl r => VLoop none Go.Proofs.Try.prog (szF Go.Proofs.Try.f47) (bodyOf Go.Proofs.Try.f47 0) (npoint_CheckTable_l0_0_h a0 x12) .ret (npoint_CheckTable_l0_0_e0 a0 r) | .inr r => VLoop none Go.Proofs.Try.prog (szF Go.Proofs.Try.f47) (bodyOf Go.Proofs.Try.f47 0) (npoint_CheckTable_l0_0_h a0 x12) (.exit 0) (npoint_CheckTable_l0_0_e1 a0 r)) := by
 intro fuel
 induction fuel with
 | zero => intro x12 r h; rw [npoint_CheckTable_l0_0.eq_1] at h; cases h
 | succ fuel ih =>
  intro x12 r h
  rw [npoint_CheckTable_l0_0.eq_2] at h
  rcases ifs h with ⟨h155, h⟩ | ⟨h155, h⟩
  ·obtain ⟨h156, h⟩ := ifn h
   have e157 := (show loadL Go.Proofs.Try.prog 77 (x12.toNat * 2) (List.flatMap c_SSkyRow a0) = some (VV.ag (c_SSkyRow (a0.getD x12.toNat default))) from ld_whole ag77 c_SSkyRow 2 sz77 len_c_SSkyRow a0 default h156 (by omega))
   obtain ⟨r158, h159, h⟩ := bs h
   have e160 := (VC.args (npoint_areSmall_ok k 1000000 ([(a0.getD x12.toNat default).At, (a0.getD x12.toNat default).Value] : List Int) _ h159) (eqB1_2 a0 x12))
   have e161 := (ti (ti (ti (ti (ti (an e160 (ti (ti trivial))))))))
   rcases ifs h with ⟨h162, h⟩ | ⟨h162, h⟩
   ·rcases ifs h with ⟨h163, h⟩ | ⟨h163, h⟩
    ·obtain ⟨h164, h⟩ := ifn h
     have e165 := (an (decide_eq_true h163) (show loadL Go.Proofs.Try.prog 3 ((w64 (x12 - 1)).toNat * 2 + 0) (List.flatMap c_SSkyRow a0) = some (vi ((a0.getD (w64 (x12 - 1)).toNat default).At)) from (ld_flat ag3 c_SSkyRow 2 0 len_c_SSkyRow (by omega) a0 default h164 (by omega)).trans rfl))
     have e166 := (ti (ti (ti (an (an (decide_eq_true h163) trivial) (an (an (decide_eq_true h163) trivial) (an (an (decide_eq_true h163) trivial) (an (an (decide_eq_true h163) trivial) (an (an (decide_eq_true h163) trivial) (an (an (decide_eq_true h163) h164) (an (an (decide_eq_true h163) trivial) (an e165 (an (an (decide_eq_true h163) trivial) (an (decide_eq_true h163) (ti trivial))))))))))))))
     rcases ifs h with ⟨h167, h⟩ | ⟨h167, h⟩
     ·injection h with h; subst h
      exact round_stop (c := ⟨[(2, none)], [], []⟩) (s1 := (npoint_CheckTable_l0_0_e0 a0 9)) pm pn (ans := [.reg (.n :: []), .br true, .reg (.n :: .n :: .v (VV.ag (c_SSkyRow (a0.getD x12.toNat default))) :: nN 3 []), .reg (nN 5 (.call (vb r158) :: .n :: .n :: [])), .br false, .reg (arB1_0 a0 x12), .br true, .reg (.n :: [])]) (by kernel_rfl) (by intro e; cases e) (an (an (ti trivial) (an (an (decide_eq_true h155) trivial) (an (ti (an h156 (an e157 (ti (ti (ti trivial)))))) (an e161 (an (not_f h162) (an e166 (an (decide_eq_true h167) (an (ti trivial) trivial)))))))) (ti trivial))
     ·have h2 := ih _ _ h
      obtain ⟨q, hv, hq⟩ := pkR (rd := none) (P := Go.Proofs.Try.prog) (fn := Go.Proofs.Try.f47) (k := 0) (s := (npoint_CheckTable_l0_0_h a0 x12)) (ans := [.reg (.n :: []), .br true, .reg (.n :: .n :: .v (VV.ag (c_SSkyRow (a0.getD x12.toNat default))) :: nN 3 []), .reg (nN 5 (.call (vb r158) :: .n :: .n :: [])), .br false, .reg (arB1_0 a0 x12), .br false, .reg (.n :: .n :: [])]) (c := ⟨[(0, none), (10, none), (11, none), (12, none)], [], []⟩) (e := .normal) (s1 := (npoint_CheckTable_l0_0_h a0 (w64 (x12 + 1)))) (an (an (ti trivial) (an (an (decide_eq_true h155) trivial) (an (an (ti (an h156 (an e157 (ti (ti (ti trivial)))))) (an e161 (an (not_f h162) (an e166 (an (decide_eq_false h167) trivial))))) (ti (ti trivial))))) (ti trivial)) (by kernel_rfl)
      cases r with
      | inl r => exact round_next pm pn hv hq h2
      | inr r =>
       exact round_next pm pn hv hq h2
    ·have e168 := (ti (ti (ti (an (decide_eq_false h163) (an (decide_eq_false h163) (an (decide_eq_false h163) (an (decide_eq_false h163) (an (decide_eq_false h163) (an (decide_eq_false h163) (an (decide_eq_false h163) (an (decide_eq_false h163) (an (decide_eq_false h163) (an (decide_eq_false h163) (ti trivial))))))))))))))
     have h2 := ih _ _ h
     obtain ⟨q, hv, hq⟩ := pkR (rd := none) (P := Go.Proofs.Try.prog) (fn := Go.Proofs.Try.f47) (k := 0) (s := (npoint_CheckTable_l0_0_h a0 x12)) (ans := [.reg (.n :: []), .br true, .reg (.n :: .n :: .v (VV.ag (c_SSkyRow (a0.getD x12.toNat default))) :: nN 3 []), .reg (nN 5 (.call (vb r158) :: .n :: .n :: [])), .br false, .reg (nN 3 (nS 9 (.b false :: .n :: []))), .br false, .reg (.n :: .n :: [])]) (c := ⟨[(0, none), (10, none), (11, none), (12, none)], [], []⟩) (e := .normal) (s1 := (npoint_CheckTable_l0_0_h a0 (w64 (x12 + 1)))) (an (an (ti trivial) (an (an (decide_eq_true h155) trivial) (an (an (ti (an h156 (an e157 (ti (ti (ti trivial)))))) (an e161 (an (not_f h162) (an e168 (an rf trivial))))) (ti (ti trivial))))) (ti trivial)) (by kernel_rfl)
     cases r with
     | inl r => exact round_next pm pn hv hq h2
     | inr r =>
      exact round_next pm pn hv hq h2
   ·injection h with h; subst h
    exact round_stop (c := ⟨[(2, none)], [], []⟩) (s1 := (npoint_CheckTable_l0_0_e0 a0 2)) pm pn (ans := [.reg (.n :: []), .br true, .reg (.n :: .n :: .v (VV.ag (c_SSkyRow (a0.getD x12.toNat default))) :: nN 3 []), .reg (nN 5 (.call (vb r158) :: .n :: .n :: [])), .br true, .reg (.n :: [])]) (by kernel_rfl) (by intro e; cases e) (an (an (ti trivial) (an (an (decide_eq_true h155) trivial) (an (ti (an h156 (an e157 (ti (ti (ti trivial)))))) (an e161 (an (not_t (bool_f h162)) (an (ti trivial) trivial)))))) (ti trivial))
  ·injection h with h; subst h
   exact round_stop (c := ⟨[], [], []⟩) (s1 := (npoint_CheckTable_l0_0_e1 a0 ())) pm pn (ans := [.reg (.n :: []), .br false]) (by kernel_rfl) (by intro e; cases e) (an (an (ti trivial) (an (decide_eq_false h155) trivial)) (ti trivial))
def npoint_CheckTable (k : Nat) (a0 : (List SSkyRow)) : Option Int :=
  (npoint_areWithin k 1 40 ([(a0.length : Int)] : List Int)).bind fun r127 => (if r127 = true then ((npoint_CheckTable_l0_0 k a0 k 0).bind fun r170 => (match r170 with | .inl r171 => (some r171) | .inr r172 => (some 0))) else (some 10))
theorem npoint_CheckTable_ok (k : Nat) (a0 : (List SSkyRow)) (r : Int) (h : npoint_CheckTable k a0 = some r) : VC Go.Proofs.Try.prog 47 [VV.tr (List.flatMap c_SSkyRow a0) a0.length] (vi r) := by
 unfold npoint_CheckTable at h
 obtain ⟨r127, h128, h⟩ := bs h
 have e129 := (VC.args (npoint_areWithin_ok k 1 40 ([(a0.length : Int)] : List Int) _ h128) (eqB1_0 a0))
 rcases ifs h with ⟨h130, h⟩ | ⟨h130, h⟩
 ·obtain ⟨r170, h169, h⟩ := bs h
  have hph169 := npoint_CheckTable_l0_0_ok k a0 _ _ _ h169
  cases r170 with
  | inl r171 =>
   dsimp only at h
   have e173 := (an (ti trivial) (VRun.loop hph169))
   injection h with h; subst h
   exact fun_ok pm pn Go.Proofs.Try.func47 (r0 := vi r171) (ans := [.reg (.n :: []), .reg (nN 3 (.call (vb r127) :: .n :: [])), .br false, .reg (nN 3 []), .sub ⟨[(0, none), (10, none), (11, none), (12, none)], [], []⟩ .ret (npoint_CheckTable_l0_0_e0 a0 r171)]) (fr := true) (by kernel_rfl) (an (an (ti trivial) (an (an (ti (ti (ti (an e129 (ti trivial))))) (an (not_f h130) trivial)) (an (ti (ti (ti trivial))) e173))) (ti trivial)) (Wv.refl _)
  | inr r172 =>
   dsimp only at h
   have e174 := (an (ti trivial) (VRun.loop hph169))
   injection h with h; subst h
   exact fun_ok pm pn Go.Proofs.Try.func47 (r0 := vi 0) (ans := [.reg (.n :: []), .reg (nN 3 (.call (vb r127) :: .n :: [])), .br false, .reg (nN 3 []), .sub ⟨[(0, none), (10, none), (11, none), (12, none)], [], []⟩ (.exit 0) (npoint_CheckTable_l0_0_e1 a0 r172), .reg (.n :: [])]) (fr := true) (by kernel_rfl) (an (an (ti trivial) (an (an (ti (ti (ti (an e129 (ti trivial))))) (an (not_f h130) trivial)) (an (an (ti (ti (ti trivial))) e174) (an (ti trivial) trivial)))) (ti trivial)) (Wv.refl _)
 ·injection h with h; subst h
  exact fun_ok pm pn Go.Proofs.Try.func47 (r0 := vi 10) (ans := [.reg (.n :: []), .reg (nN 3 (.call (vb r127) :: .n :: [])), .br true, .reg (.n :: [])]) (fr := true) (by kernel_rfl) (an (an (ti trivial) (an (ti (ti (ti (an e129 (ti trivial))))) (an (not_t (bool_f h130)) (an (ti trivial) trivial)))) (ti trivial)) (Wv.refl _)
def npoint_valueAt_1 (k : Nat) (a0 : SSkyRow) (q0_0 : Int) : Option Bool :=
  some (decide (q0_0 < a0.At))
theorem npoint_valueAt_1_ok (k : Nat) (a0 : SSkyRow) (q0_0 : Int) (r : Bool) (h : npoint_valueAt_1 k a0 q0_0 = some r) : VC Go.Proofs.Try.prog 131 [VV.ag (c_SSkyRow a0), VV.tp [vi q0_0] 0] (vb r) := by
 unfold npoint_valueAt_1 at h
 have e179 := (show loadL Go.Proofs.Try.prog 3 0 [vi q0_0] = some (vi q0_0) from (ld_one ag3 rfl))
 injection h with h; subst h
 exact fun_ok pm pn Go.Proofs.Try.func131 (r0 := vb (decide (q0_0 < a0.At))) (ans := [.reg (.n :: .n :: []), .reg (.n :: .n :: .v (vi q0_0) :: .n :: .n :: [])]) (fr := true) (by kernel_rfl) (an (an (ti (ti trivial)) (an (ti (ti (an e179 (ti (ti trivial))))) trivial)) (ti trivial)) (Wv.refl _)
def nslices_IndexFunc_api_SkyRow_api_SkyRow__c1_131_l0_0_h (a0 : (List SSkyRow)) (a1_0_0 : Int) (x8 : Int) : VS := ⟨mkA [(0, VV.tr (List.flatMap c_SSkyRow a0) a0.length), (1, VV.fn 131 [VV.tp [vi a1_0_0] 0]), (7, vi (a0.length : Int)), (8, vi x8)], [], .nil⟩
def nslices_IndexFunc_api_SkyRow_api_SkyRow__c1_131_l0_0_e0 (a0 : (List SSkyRow)) (a1_0_0 : Int) (r : Int) : VS := ⟨mkA [(4, vi r)], [], .nil⟩
def nslices_IndexFunc_api_SkyRow_api_SkyRow__c1_131_l0_0_e1 (a0 : (List SSkyRow)) (a1_0_0 : Int) (r : Unit) : VS := ⟨mkA [], [], .nil⟩
def nslices_IndexFunc_api_SkyRow_api_SkyRow__c1_131_l0_0 (k : Nat) (a0 : (List SSkyRow)) (a1_0_0 : Int) : Nat → Int → Option (Sum Int Unit)
  | 0, _ => none
  | fuel + 1, x8 => if x8 < (a0.length : Int) then (if 0 ≤ x8 ∧ x8 < (a0.length : Int) then ((npoint_valueAt_1 k (a0.getD x8.toNat default) a1_0_0).bind fun r226 => (if r226 = true then (some (.inl x8)) else (nslices_IndexFunc_api_SkyRow_api_SkyRow__c1_131_l0_0 k a0 a1_0_0 fuel (w64 (x8 + 1))))) else none) else (some (.inr ()))
theorem nslices_IndexFunc_api_SkyRow_api_SkyRow__c1_131_l0_0_ok (k : Nat) (a0 : (List SSkyRow)) (a1_0_0 : Int) : ∀ (fuel : Nat) (x8 : Int) (r : Sum Int Unit), nslices_IndexFunc_api_SkyRow_api_SkyRow__c1_131_l0_0 k a0 a1_0_0 fuel x8 = some r → (match r with | .inl r => VLoop none Go.Proofs.Try.prog (szF Go.Proofs.Try.f130) (bodyOf Go.Proofs.Try.f130 0) (nslices_IndexFunc_api_SkyRow_api_SkyRow__c1_131_l0_0_h a0 a1_0_0 x8) .ret (nslices_IndexFunc_api_SkyRow_api_SkyRow__c1_131_l0_0_e0 a0 a1_0_0 r) | .inr r => VLoop none Go.Proofs.Try.prog (szF Go.Proofs.Try.f130) (bodyOf Go.Proofs.Try.f130 0) (nslices_IndexFunc_api_SkyRow_api_SkyRow__c1_131_l0_0_h a0 a1_0_0 x8) (.exit 0) (nslices_IndexFunc_api_SkyRow_api_SkyRow__c1_131_l0_0_e1 a0 a1_0_0 r)) := by
 intro fuel
 induction fuel with
 | zero => intro x8 r h; rw [nslices_IndexFunc_api_SkyRow_api_SkyRow__c1_131_l0_0.eq_1] at h; cases h
 | succ fuel ih =>
  intro x8 r h
  rw [nslices_IndexFunc_api_SkyRow_api_SkyRow__c1_131_l0_0.eq_2] at h
  rcases ifs h with ⟨h223, h⟩ | ⟨h223, h⟩
  ·obtain ⟨h224, h⟩ := ifn h
   have e225 := (show loadL Go.Proofs.Try.prog 77 (x8.toNat * 2) (List.flatMap c_SSkyRow a0) = some (VV.ag (c_SSkyRow (a0.getD x8.toNat default))) from ld_whole ag77 c_SSkyRow 2 sz77 len_c_SSkyRow a0 default h224 (by omega))
   obtain ⟨r226, h227, h⟩ := bs h
   have e228 := (npoint_valueAt_1_ok k (a0.getD x8.toNat default) a1_0_0 _ h227)
   have e229 := (ti (ti (ti (an h224 (an e225 (an e228 trivial))))))
   rcases ifs h with ⟨h230, h⟩ | ⟨h230, h⟩
   ·injection h with h; subst h
    exact round_stop (c := ⟨[(4, none)], [], []⟩) (s1 := (nslices_IndexFunc_api_SkyRow_api_SkyRow__c1_131_l0_0_e0 a0 a1_0_0 x8)) pm pn (ans := [.reg (.n :: []), .br true, .reg (.n :: .n :: []), .reg (nN 4 (.v (VV.ag (c_SSkyRow (a0.getD x8.toNat default))) :: .call (vb r226) :: [])), .br true, .reg (.n :: .n :: [])]) (by kernel_rfl) (by intro e; cases e) (an (an (ti trivial) (an (an (decide_eq_true h223) trivial) (an (ti (ti trivial)) (an e229 (an h230 (an (ti (ti trivial)) trivial)))))) (ti trivial))
   ·have h2 := ih _ _ h
    obtain ⟨q, hv, hq⟩ := pkR (rd := none) (P := Go.Proofs.Try.prog) (fn := Go.Proofs.Try.f130) (k := 0) (s := (nslices_IndexFunc_api_SkyRow_api_SkyRow__c1_131_l0_0_h a0 a1_0_0 x8)) (ans := [.reg (.n :: []), .br true, .reg (.n :: .n :: []), .reg (nN 4 (.v (VV.ag (c_SSkyRow (a0.getD x8.toNat default))) :: .call (vb r226) :: [])), .br false, .reg (.n :: .n :: [])]) (c := ⟨[(0, none), (1, none), (7, none), (8, none)], [], []⟩) (e := .normal) (s1 := (nslices_IndexFunc_api_SkyRow_api_SkyRow__c1_131_l0_0_h a0 a1_0_0 (w64 (x8 + 1)))) (an (an (ti trivial) (an (an (decide_eq_true h223) trivial) (an (an (ti (ti trivial)) (an e229 (an (bool_f h230) trivial))) (ti (ti trivial))))) (ti trivial)) (by kernel_rfl)
    cases r with
    | inl r => exact round_next pm pn hv hq h2
    | inr r =>
     exact round_next pm pn hv hq h2
  ·injection h with h; subst h
   exact round_stop (c := ⟨[], [], []⟩) (s1 := (nslices_IndexFunc_api_SkyRow_api_SkyRow__c1_131_l0_0_e1 a0 a1_0_0 ())) pm pn (ans := [.reg (.n :: []), .br false]) (by kernel_rfl) (by intro e; cases e) (an (an (ti trivial) (an (decide_eq_false h223) trivial)) (ti trivial))
def nslices_IndexFunc_api_SkyRow_api_SkyRow__c1_131 (k : Nat) (a0 : (List SSkyRow)) (a1_0_0 : Int) : Option Int :=
  (nslices_IndexFunc_api_SkyRow_api_SkyRow__c1_131_l0_0 k a0 a1_0_0 k 0).bind fun r232 => (match r232 with | .inl r233 => (some r233) | .inr r234 => (some (-1)))
theorem nslices_IndexFunc_api_SkyRow_api_SkyRow__c1_131_ok (k : Nat) (a0 : (List SSkyRow)) (a1_0_0 : Int) (r : Int) (h : nslices_IndexFunc_api_SkyRow_api_SkyRow__c1_131 k a0 a1_0_0 = some r) : VC Go.Proofs.Try.prog 130 [VV.tr (List.flatMap c_SSkyRow a0) a0.length, VV.fn 131 [VV.tp [vi a1_0_0] 0]] (vi r) := by
 unfold nslices_IndexFunc_api_SkyRow_api_SkyRow__c1_131 at h
 obtain ⟨r232, h231, h⟩ := bs h
 have hph231 := nslices_IndexFunc_api_SkyRow_api_SkyRow__c1_131_l0_0_ok k a0 a1_0_0 _ _ _ h231
 cases r232 with
 | inl r233 =>
  dsimp only at h
  have e235 := (an (ti trivial) (VRun.loop hph231))
  injection h with h; subst h
  exact fun_ok pm pn Go.Proofs.Try.func130 (r0 := vi r233) (ans := [.reg (.n :: []), .reg (nN 3 []), .sub ⟨[(0, none), (1, none), (7, none), (8, none)], [], []⟩ .ret (nslices_IndexFunc_api_SkyRow_api_SkyRow__c1_131_l0_0_e0 a0 a1_0_0 r233)]) (fr := true) (by kernel_rfl) (an (an (ti trivial) (an (ti (ti (ti trivial))) e235)) (ti trivial)) (Wv.refl _)
 | inr r234 =>
  dsimp only at h
  have e236 := (an (ti trivial) (VRun.loop hph231))
  injection h with h; subst h
  exact fun_ok pm pn Go.Proofs.Try.func130 (r0 := vi (-1)) (ans := [.reg (.n :: []), .reg (nN 3 []), .sub ⟨[(0, none), (1, none), (7, none), (8, none)], [], []⟩ (.exit 0) (nslices_IndexFunc_api_SkyRow_api_SkyRow__c1_131_l0_0_e1 a0 a1_0_0 r234), .reg (.n :: [])]) (fr := true) (by kernel_rfl) (an (an (ti trivial) (an (an (ti (ti (ti trivial))) e236) (an (ti trivial) trivial))) (ti trivial)) (Wv.refl _)
theorem eqB1_3 (z0 : (List SSkyRow)) (z1 : Int) : [VV.tr (List.flatMap c_SSkyRow z0) z0.length, VV.fn 131 [VV.tp [vi z1] 0]] = [VV.tr (List.flatMap c_SSkyRow z0) z0.length, VV.fn 131 [VV.tp (List.map unfr [vi z1]) 0]] := by first | rfl | simp only [unfr_vi, List.map_cons, List.map_nil, un_i, un_tr, List.length_map, List.length_cons, List.length_nil, unfr_c_SSkyRow]
def npoint_down (k : Nat) (a0 : Int) (a1 : Int) : Option Int :=
  if a1 ≠ 0 then (if (a0.tmod a1) < 0 then (some (w64 ((w64 (a0.tdiv a1)) - 1))) else (some (w64 (a0.tdiv a1)))) else none
theorem npoint_down_ok (k : Nat) (a0 : Int) (a1 : Int) (r : Int) (h : npoint_down k a0 a1 = some r) : VC Go.Proofs.Try.prog 101 [vi a0, vi a1] (vi r) := by
 unfold npoint_down at h
 obtain ⟨h254, h⟩ := ifn h
 rcases ifs h with ⟨h255, h⟩ | ⟨h255, h⟩
 ·injection h with h; subst h
  exact fun_ok pm pn Go.Proofs.Try.func101 (r0 := vi (w64 ((w64 (a0.tdiv a1)) - 1))) (ans := [.reg (.n :: []), .reg (nN 4 []), .br true, .reg (nN 5 [])]) (fr := true) (by kernel_rfl) (an (an (ti trivial) (an (ti (ti (an h254 (ti trivial)))) (an (decide_eq_true h255) (an (ti (ti (an h254 (ti (ti trivial))))) trivial)))) (ti trivial)) (Wv.refl _)
 ·injection h with h; subst h
  exact fun_ok pm pn Go.Proofs.Try.func101 (r0 := vi (w64 (a0.tdiv a1))) (ans := [.reg (.n :: []), .reg (nN 4 []), .br false, .reg (nN 4 [])]) (fr := true) (by kernel_rfl) (an (an (ti trivial) (an (an (ti (ti (an h254 (ti trivial)))) (an (decide_eq_false h255) trivial)) (an (ti (ti (an h254 (ti trivial)))) trivial))) (ti trivial)) (Wv.refl _)
def arB1_1 (z0 : (List SSkyRow)) : List Ans := (nN 6 (.v (vi ((z0.getD (w64 ((z0.length : Int) - 1)).toNat default).Value)) :: .n :: []))
def arB1_2 (z0 : (List SSkyRow)) (z1 : Int) : List Ans := (nN 4 (.v (VV.ag (c_SSkyRow (z0.getD (w64 (z1 - 1)).toNat default))) :: nN 3 (.v (VV.ag (c_SSkyRow (z0.getD z1.toNat default))) :: nN 4 [])))
def npoint_valueAt (k : Nat) (a0 : (List SSkyRow)) (a1 : Int) : Option Int :=
  (nslices_IndexFunc_api_SkyRow_api_SkyRow__c1_131 k a0 a1).bind fun r260 => (if r260 = (-1) then (if 0 ≤ w64 ((a0.length : Int) - 1) ∧ w64 ((a0.length : Int) - 1) < (a0.length : Int) then (some ((a0.getD (w64 ((a0.length : Int) - 1)).toNat default).Value)) else none) else (if r260 = 0 then (if (0 : Int) ≤ 0 ∧ 0 < (a0.length : Int) then (some ((a0.getD ((0 : Int)).toNat default).Value)) else none) else (if 0 ≤ w64 (r260 - 1) ∧ w64 (r260 - 1) < (a0.length : Int) then (if 0 ≤ r260 ∧ r260 < (a0.length : Int) then ((npoint_down k (w64 ((w64 (((a0.getD r260.toNat default).Value) - ((a0.getD (w64 (r260 - 1)).toNat default).Value))) * (w64 (a1 - ((a0.getD (w64 (r260 - 1)).toNat default).At))))) (w64 (((a0.getD r260.toNat default).At) - ((a0.getD (w64 (r260 - 1)).toNat default).At)))).bind fun r275 => (some (w64 (((a0.getD (w64 (r260 - 1)).toNat default).Value) + r275)))) else none) else none)))
theorem npoint_valueAt_ok (k : Nat) (a0 : (List SSkyRow)) (a1 : Int) (r : Int) (h : npoint_valueAt k a0 a1 = some r) : VC Go.Proofs.Try.prog 104 [VV.tr (List.flatMap c_SSkyRow a0) a0.length, vi a1] (vi r) := by
 unfold npoint_valueAt at h
 obtain ⟨r260, h261, h⟩ := bs h
 have e262 := (VC.args (nslices_IndexFunc_api_SkyRow_api_SkyRow__c1_131_ok k a0 a1 _ h261) (eqB1_3 a0 a1))
 rcases ifs h with ⟨h263, h⟩ | ⟨h263, h⟩
 ·obtain ⟨h264, h⟩ := ifn h
  have e265 := (show loadL Go.Proofs.Try.prog 3 ((w64 ((a0.length : Int) - 1)).toNat * 2 + 1) (List.flatMap c_SSkyRow a0) = some (vi ((a0.getD (w64 ((a0.length : Int) - 1)).toNat default).Value)) from (ld_flat ag3 c_SSkyRow 2 1 len_c_SSkyRow (by omega) a0 default h264 (by omega)).trans rfl)
  have e266 := (ti (ti (ti (ti (an h264 (ti (an e265 (ti trivial))))))))
  injection h with h; subst h
  exact fun_ok pm pn Go.Proofs.Try.func104 (r0 := vi ((a0.getD (w64 ((a0.length : Int) - 1)).toNat default).Value)) (ans := [.reg (.n :: .n :: []), .reg (.n :: .n :: .call (vi r260) :: .n :: []), .reg (.n :: []), .reg (.n :: .n :: []), .br true, .reg (arB1_1 a0)]) (fr := true) (by kernel_rfl) (an (an (ti (ti trivial)) (an (ti (ti (an e262 (ti trivial)))) (an (ti trivial) (an (ti (ti trivial)) (an (decide_eq_true h263) (an e266 trivial)))))) (ti trivial)) (Wv.refl _)
 ·rcases ifs h with ⟨h267, h⟩ | ⟨h267, h⟩
  ·obtain ⟨h268, h⟩ := ifn h
   have e269 := (show loadL Go.Proofs.Try.prog 3 (((0 : Int)).toNat * 2 + 1) (List.flatMap c_SSkyRow a0) = some (vi ((a0.getD ((0 : Int)).toNat default).Value)) from (ld_flat ag3 c_SSkyRow 2 1 len_c_SSkyRow (by omega) a0 default h268 (by omega)).trans rfl)
   injection h with h; subst h
   exact fun_ok pm pn Go.Proofs.Try.func104 (r0 := vi ((a0.getD ((0 : Int)).toNat default).Value)) (ans := [.reg (.n :: .n :: []), .reg (.n :: .n :: .call (vi r260) :: .n :: []), .reg (.n :: []), .reg (.n :: .n :: []), .br false, .reg (.n :: .n :: []), .br true, .reg (nN 3 (.v (vi ((a0.getD ((0 : Int)).toNat default).Value)) :: .n :: []))]) (fr := true) (by kernel_rfl) (an (an (ti (ti trivial)) (an (ti (ti (an e262 (ti trivial)))) (an (ti trivial) (an (ti (ti trivial)) (an (decide_eq_false h263) (an (ti (ti trivial)) (an (decide_eq_true h267) (an (ti (an h268 (ti (an e269 (ti trivial))))) trivial)))))))) (ti trivial)) (Wv.refl _)
  ·obtain ⟨h270, h⟩ := ifn h
   have e271 := (show loadL Go.Proofs.Try.prog 77 ((w64 (r260 - 1)).toNat * 2) (List.flatMap c_SSkyRow a0) = some (VV.ag (c_SSkyRow (a0.getD (w64 (r260 - 1)).toNat default))) from ld_whole ag77 c_SSkyRow 2 sz77 len_c_SSkyRow a0 default h270 (by omega))
   obtain ⟨h272, h⟩ := ifn h
   have e273 := (show loadL Go.Proofs.Try.prog 77 (r260.toNat * 2) (List.flatMap c_SSkyRow a0) = some (VV.ag (c_SSkyRow (a0.getD r260.toNat default))) from ld_whole ag77 c_SSkyRow 2 sz77 len_c_SSkyRow a0 default h272 (by omega))
   have e274 := (ti (ti (ti (an h270 (an e271 (ti (ti (an h272 (an e273 (ti (ti (ti (ti trivial)))))))))))))
   obtain ⟨r275, h276, h⟩ := bs h
   have e277 := (npoint_down_ok k (w64 ((w64 (((a0.getD r260.toNat default).Value) - ((a0.getD (w64 (r260 - 1)).toNat default).Value))) * (w64 (a1 - ((a0.getD (w64 (r260 - 1)).toNat default).At))))) (w64 (((a0.getD r260.toNat default).At) - ((a0.getD (w64 (r260 - 1)).toNat default).At))) _ h276)
   have e278 := (ti (ti (ti (ti (ti (ti (ti (ti (ti (ti (ti (ti (ti (ti (ti (ti (ti (an e277 (ti (ti trivial))))))))))))))))))))
   injection h with h; subst h
   exact fun_ok pm pn Go.Proofs.Try.func104 (r0 := vi (w64 (((a0.getD (w64 (r260 - 1)).toNat default).Value) + r275))) (ans := [.reg (.n :: .n :: []), .reg (.n :: .n :: .call (vi r260) :: .n :: []), .reg (.n :: []), .reg (.n :: .n :: []), .br false, .reg (.n :: .n :: []), .br false, .reg (arB1_2 a0 r260), .reg (nN 17 (.call (vi r275) :: .n :: .n :: []))]) (fr := true) (by kernel_rfl) (an (an (ti (ti trivial)) (an (ti (ti (an e262 (ti trivial)))) (an (an (ti trivial) (an (ti (ti trivial)) (an (decide_eq_false h263) (an (ti (ti trivial)) (an (decide_eq_false h267) trivial))))) (an e274 (an e278 trivial))))) (ti trivial)) (Wv.refl _)
theorem eqB1_4 (z0 : Int) : [vi 1000000, VV.tr (List.map vi ([z0] : List Int)) (([z0] : List Int).length)] = [vi 1000000, VV.tr (List.drop 0 (List.map unfr [vi z0])) 1] := by first | rfl | simp only [drop0, unfr_vi, List.map_cons, List.map_nil, un_i, un_tr, List.length_map, List.length_cons, List.length_nil]
def npoint_TableAt (k : Nat) (a0 : (List SSkyRow)) (a1 : Int) : Option (Int × Int) :=
  (npoint_CheckTable k a0).bind fun r290 => (if r290 = 0 then ((npoint_areSmall k 1000000 ([a1] : List Int)).bind fun r294 => (if r294 = true then ((npoint_valueAt k a0 a1).bind fun r298 => (some (r298, 0))) else (some (0, 2)))) else (some (0, r290)))
theorem npoint_TableAt_ok (k : Nat) (a0 : (List SSkyRow)) (a1 : Int) (r : (Int × Int)) (h : npoint_TableAt k a0 a1 = some r) : VC Go.Proofs.Try.prog 44 [VV.tr (List.flatMap c_SSkyRow a0) a0.length, vi a1] (VV.tu [vi r.1, vi r.2]) := by
 unfold npoint_TableAt at h
 obtain ⟨r290, h291, h⟩ := bs h
 have e292 := (ti (an (npoint_CheckTable_ok k a0 _ h291) (ti trivial)))
 rcases ifs h with ⟨h293, h⟩ | ⟨h293, h⟩
 ·obtain ⟨r294, h295, h⟩ := bs h
  have e296 := (VC.args (npoint_areSmall_ok k 1000000 ([a1] : List Int) _ h295) (eqB1_4 a1))
  rcases ifs h with ⟨h297, h⟩ | ⟨h297, h⟩
  ·obtain ⟨r298, h299, h⟩ := bs h
   have e300 := (ti (ti (an (npoint_valueAt_ok k a0 a1 _ h299) (ti (ti trivial)))))
   injection h with h; subst h
   exact fun_ok pm pn Go.Proofs.Try.func44 (r0 := VV.tu [vi r298, vi 0]) (ans := [.reg (.n :: .n :: []), .reg (.n :: .call (vi r290) :: .n :: []), .reg (.n :: .n :: []), .br false, .reg (.n :: .n :: .call (vb r294) :: .n :: []), .br false, .reg (.n :: .n :: .call (vi r298) :: .n :: .n :: [])]) (fr := true) (by kernel_rfl) (an (an (ti (ti trivial)) (an (an e292 (an (ti (ti trivial)) (an (not_f (decide_eq_true h293)) trivial))) (an (an (ti (ti (an e296 (ti trivial)))) (an (not_f h297) trivial)) (an e300 trivial)))) (ti (ti trivial))) (Wv.refl _)
  ·injection h with h; subst h
   exact fun_ok pm pn Go.Proofs.Try.func44 (r0 := VV.tu [vi 0, vi 2]) (ans := [.reg (.n :: .n :: []), .reg (.n :: .call (vi r290) :: .n :: []), .reg (.n :: .n :: []), .br false, .reg (.n :: .n :: .call (vb r294) :: .n :: []), .br true, .reg (.n :: .n :: [])]) (fr := true) (by kernel_rfl) (an (an (ti (ti trivial)) (an (an e292 (an (ti (ti trivial)) (an (not_f (decide_eq_true h293)) trivial))) (an (ti (ti (an e296 (ti trivial)))) (an (not_t (bool_f h297)) (an (ti (ti trivial)) trivial))))) (ti (ti trivial))) (Wv.refl _)
 ·injection h with h; subst h
  exact fun_ok pm pn Go.Proofs.Try.func44 (r0 := VV.tu [vi 0, vi r290]) (ans := [.reg (.n :: .n :: []), .reg (.n :: .call (vi r290) :: .n :: []), .reg (.n :: .n :: []), .br true, .reg (nN 3 [])]) (fr := true) (by kernel_rfl) (an (an (ti (ti trivial)) (an e292 (an (ti (ti trivial)) (an (not_t (decide_eq_false h293)) (an (ti (ti (ti trivial))) trivial))))) (ti (ti trivial))) (Wv.refl _)
def nspeculumbase_Within (k : Nat) (a0 : Int) (a1 : Int) (a2 : Int) : Option Bool :=
  if a1 ≤ a0 then (some (decide (a0 ≤ a2))) else (some false)
theorem nspeculumbase_Within_ok (k : Nat) (a0 : Int) (a1 : Int) (a2 : Int) (r : Bool) (h : nspeculumbase_Within k a0 a1 a2 = some r) : VC Go.Proofs.Try.prog 41 [vi a0, vi a1, vi a2] (vb r) := by
 unfold nspeculumbase_Within at h
 rcases ifs h with ⟨h304, h⟩ | ⟨h304, h⟩
 ·have e305 := (ti (ti (ti (ti (an (an (decide_eq_true h304) trivial) (an (an (decide_eq_true h304) trivial) (an (an (decide_eq_true h304) trivial) (an (decide_eq_true h304) (ti trivial)))))))))
  injection h with h; subst h
  exact fun_ok pm pn Go.Proofs.Try.func41 (r0 := vb (decide (a0 ≤ a2))) (ans := [.reg (.n :: []), .reg (nN 7 (.b true :: .n :: []))]) (fr := true) (by kernel_rfl) (an (an (ti trivial) (an e305 trivial)) (ti trivial)) (Wv.refl _)
 ·have e306 := (ti (ti (ti (ti (an (decide_eq_false h304) (an (decide_eq_false h304) (an (decide_eq_false h304) (an (decide_eq_false h304) (ti trivial)))))))))
  injection h with h; subst h
  exact fun_ok pm pn Go.Proofs.Try.func41 (r0 := vb false) (ans := [.reg (.n :: []), .reg (nN 4 (nS 3 (.b false :: .n :: [])))]) (fr := true) (by kernel_rfl) (an (an (ti trivial) (an e306 trivial)) (ti trivial)) (Wv.refl _)
def nspeculumref09_million (k : Nat) (a0 : Int) : Option Bool :=
  (nspeculumbase_Within k a0 (-1000000) 1000000).bind fun r317 => (some r317)
theorem nspeculumref09_million_ok (k : Nat) (a0 : Int) (r : Bool) (h : nspeculumref09_million k a0 = some r) : VC Go.Proofs.Try.prog 105 [vi a0] (vb r) := by
 unfold nspeculumref09_million at h
 obtain ⟨r317, h318, h⟩ := bs h
 have e319 := (nspeculumbase_Within_ok k a0 (-1000000) 1000000 _ h318)
 injection h with h; subst h
 exact fun_ok pm pn Go.Proofs.Try.func105 (r0 := vb r317) (ans := [.reg (.n :: []), .reg (.n :: .call (vb r317) :: .n :: [])]) (fr := true) (by kernel_rfl) (an (an (ti trivial) (an (ti (an e319 (ti trivial))) trivial)) (ti trivial)) (Wv.refl _)
def arB1_3 (z0 : (List SSkyRow)) (z1 : Int) (z2 : Bool) (z3 : Bool) : List Ans := (nN 4 (.v (vi ((z0.getD z1.toNat default).At)) :: .call (vb z2) :: nN 6 (.v (vi ((z0.getD z1.toNat default).Value)) :: .call (vb z3) :: .n :: .b false :: [])))
def arB1_4 (z0 : (List SSkyRow)) (z1 : Int) : List Ans := (nN 7 (.v (vi ((z0.getD z1.toNat default).At)) :: nN 5 (.v (vi ((z0.getD (w64 (z1 - 1)).toNat default).At)) :: .n :: .b true :: [])))
def arB1_5 (z0 : (List SSkyRow)) (z1 : Int) (z2 : Bool) : List Ans := (nN 4 (.v (vi ((z0.getD z1.toNat default).At)) :: .call (vb z2) :: .n :: .n :: nS 7 (.b true :: [])))
def nspeculumref09_CheckTable_l0_0_h (a0 : (List SSkyRow)) (x3 : Int) : VS := ⟨mkA [(0, VV.tr (List.flatMap c_SSkyRow a0) a0.length), (3, vi x3)], [], .nil⟩
def nspeculumref09_CheckTable_l0_0_e0 (a0 : (List SSkyRow)) (r : Int) : VS := ⟨mkA [(2, vi r)], [], .nil⟩
def nspeculumref09_CheckTable_l0_0_e1 (a0 : (List SSkyRow)) (r : Unit) : VS := ⟨mkA [], [], .nil⟩
def nspeculumref09_CheckTable_l0_0 (k : Nat) (a0 : (List SSkyRow)) : Nat → Int → Option (Sum Int Unit)
  | 0, _ => none
  | fuel + 1, x3 => if x3 < (a0.length : Int) then (if 0 ≤ x3 ∧ x3 < (a0.length : Int) then ((nspeculumref09_million k ((a0.getD x3.toNat default).At)).bind fun r425 => (if r425 = true then ((nspeculumref09_million k ((a0.getD x3.toNat default).Value)).bind fun r430 => (if r430 = true then (if 0 < x3 then (if 0 ≤ w64 (x3 - 1) ∧ w64 (x3 - 1) < (a0.length : Int) then (if ((a0.getD x3.toNat default).At) ≤ ((a0.getD (w64 (x3 - 1)).toNat default).At) then (some (.inl 9)) else (nspeculumref09_CheckTable_l0_0 k a0 fuel (w64 (x3 + 1)))) else none) else (nspeculumref09_CheckTable_l0_0 k a0 fuel (w64 (x3 + 1)))) else (some (.inl 2)))) else (some (.inl 2)))) else none) else (some (.inr ()))
theorem nspeculumref09_CheckTable_l0_0_ok (k : Nat) (a0 : (List SSkyRow)) : ∀ (fuel : Nat) (x3 : Int) (r : Sum Int Unit), nspeculumref09_CheckTable_l0_0 k a0 fuel x3 = some r → (match r with | .inl r => VLoop none Go.Proofs.Try.prog (szF Go.Proofs.Try.f46) (bodyOf Go.Proofs.Try.f46 0) (nspeculumref09_CheckTable_l0_0_h a0 x3) .ret (nspeculumref09_CheckTable_l0_0_e0 a0 r) | .inr r => VLoop none Go.Proofs.Try.prog (szF Go.Proofs.Try.f46) (bodyOf Go.Proofs.Try.f46 0) (nspeculumref09_CheckTable_l0_0_h a0 x3) (.exit 0) (nspeculumref09_CheckTable_l0_0_e1 a0 r)) := by
 intro fuel
 induction fuel with
 | zero => intro x3 r h; rw [nspeculumref09_CheckTable_l0_0.eq_1] at h; cases h
 | succ fuel ih =>
  intro x3 r h
  rw [nspeculumref09_CheckTable_l0_0.eq_2] at h
  rcases ifs h with ⟨h422, h⟩ | ⟨h422, h⟩
  ·obtain ⟨h423, h⟩ := ifn h
   have e424 := (show loadL Go.Proofs.Try.prog 3 (x3.toNat * 2 + 0) (List.flatMap c_SSkyRow a0) = some (vi ((a0.getD x3.toNat default).At)) from (ld_flat ag3 c_SSkyRow 2 0 len_c_SSkyRow (by omega) a0 default h423 (by omega)).trans rfl)
   obtain ⟨r425, h426, h⟩ := bs h
   have e427 := (nspeculumref09_million_ok k ((a0.getD x3.toNat default).At) _ h426)
   rcases ifs h with ⟨h428, h⟩ | ⟨h428, h⟩
   ·have e429 := (an (not_f h428) (show loadL Go.Proofs.Try.prog 3 (x3.toNat * 2 + 1) (List.flatMap c_SSkyRow a0) = some (vi ((a0.getD x3.toNat default).Value)) from (ld_flat ag3 c_SSkyRow 2 1 len_c_SSkyRow (by omega) a0 default h423 (by omega)).trans rfl))
    obtain ⟨r430, h431, h⟩ := bs h
    have e432 := (an (not_f h428) (nspeculumref09_million_ok k ((a0.getD x3.toNat default).Value) _ h431))
    have e433 := (ti (ti (an h423 (ti (an e424 (an e427 (ti (ti (an (an (not_f h428) trivial) (an (an (not_f h428) trivial) (an (an (not_f h428) h423) (an (an (not_f h428) trivial) (an e429 (an e432 (an (an (not_f h428) trivial) (an (not_f h428) trivial))))))))))))))))
    rcases ifs h with ⟨h434, h⟩ | ⟨h434, h⟩
    ·rcases ifs h with ⟨h435, h⟩ | ⟨h435, h⟩
     ·have e436 := (an (decide_eq_true h435) (show loadL Go.Proofs.Try.prog 3 (x3.toNat * 2 + 0) (List.flatMap c_SSkyRow a0) = some (vi ((a0.getD x3.toNat default).At)) from (ld_flat ag3 c_SSkyRow 2 0 len_c_SSkyRow (by omega) a0 default h423 (by omega)).trans rfl))
      obtain ⟨h437, h⟩ := ifn h
      have e438 := (an (decide_eq_true h435) (show loadL Go.Proofs.Try.prog 3 ((w64 (x3 - 1)).toNat * 2 + 0) (List.flatMap c_SSkyRow a0) = some (vi ((a0.getD (w64 (x3 - 1)).toNat default).At)) from (ld_flat ag3 c_SSkyRow 2 0 len_c_SSkyRow (by omega) a0 default h437 (by omega)).trans rfl))
      have e439 := (ti (ti (ti (an (an (decide_eq_true h435) trivial) (an (an (decide_eq_true h435) trivial) (an (an (decide_eq_true h435) h423) (an (an (decide_eq_true h435) trivial) (an e436 (an (an (decide_eq_true h435) trivial) (an (an (decide_eq_true h435) trivial) (an (an (decide_eq_true h435) trivial) (an (an (decide_eq_true h435) h437) (an (an (decide_eq_true h435) trivial) (an e438 (an (an (decide_eq_true h435) trivial) (an (decide_eq_true h435) trivial))))))))))))))))
      rcases ifs h with ⟨h440, h⟩ | ⟨h440, h⟩
      ·injection h with h; subst h
       exact round_stop (c := ⟨[(2, none)], [], []⟩) (s1 := (nspeculumref09_CheckTable_l0_0_e0 a0 9)) pm pn (ans := [.reg (nN 4 []), .br true, .reg (arB1_3 a0 x3 r425 r430), .br false, .reg (arB1_4 a0 x3), .br true, .reg (.n :: [])]) (by kernel_rfl) (by intro e; cases e) (an (an (an (ti (ti (ti (ti trivial)))) (an (decide_eq_true h422) trivial)) (an (an e433 (an (not_f h434) trivial)) (an e439 (an (decide_eq_true h440) (an (ti trivial) trivial))))) (ti trivial))
      ·have h2 := ih _ _ h
       obtain ⟨q, hv, hq⟩ := pkR (rd := none) (P := Go.Proofs.Try.prog) (fn := Go.Proofs.Try.f46) (k := 0) (s := (nspeculumref09_CheckTable_l0_0_h a0 x3)) (ans := [.reg (nN 4 []), .br true, .reg (arB1_3 a0 x3 r425 r430), .br false, .reg (arB1_4 a0 x3), .br false, .reg (nN 3 [])]) (c := ⟨[(0, none), (3, none)], [], []⟩) (e := .normal) (s1 := (nspeculumref09_CheckTable_l0_0_h a0 (w64 (x3 + 1)))) (an (an (an (ti (ti (ti (ti trivial)))) (an (decide_eq_true h422) trivial)) (an (an (an e433 (an (not_f h434) trivial)) (an e439 (an (decide_eq_false h440) trivial))) (ti (ti (ti trivial))))) (ti trivial)) (by kernel_rfl)
       cases r with
       | inl r => exact round_next pm pn hv hq h2
       | inr r =>
        exact round_next pm pn hv hq h2
     ·have e441 := (ti (ti (ti (an (decide_eq_false h435) (an (decide_eq_false h435) (an (decide_eq_false h435) (an (decide_eq_false h435) (an (decide_eq_false h435) (an (decide_eq_false h435) (an (decide_eq_false h435) (an (decide_eq_false h435) (an (decide_eq_false h435) (an (decide_eq_false h435) (an (decide_eq_false h435) (an (decide_eq_false h435) (an (decide_eq_false h435) trivial))))))))))))))))
      have h2 := ih _ _ h
      obtain ⟨q, hv, hq⟩ := pkR (rd := none) (P := Go.Proofs.Try.prog) (fn := Go.Proofs.Try.f46) (k := 0) (s := (nspeculumref09_CheckTable_l0_0_h a0 x3)) (ans := [.reg (nN 4 []), .br true, .reg (arB1_3 a0 x3 r425 r430), .br false, .reg (nN 3 (nS 12 (.b false :: []))), .br false, .reg (nN 3 [])]) (c := ⟨[(0, none), (3, none)], [], []⟩) (e := .normal) (s1 := (nspeculumref09_CheckTable_l0_0_h a0 (w64 (x3 + 1)))) (an (an (an (ti (ti (ti (ti trivial)))) (an (decide_eq_true h422) trivial)) (an (an (an e433 (an (not_f h434) trivial)) (an e441 (an rf trivial))) (ti (ti (ti trivial))))) (ti trivial)) (by kernel_rfl)
      cases r with
      | inl r => exact round_next pm pn hv hq h2
      | inr r =>
       exact round_next pm pn hv hq h2
    ·injection h with h; subst h
     exact round_stop (c := ⟨[(2, none)], [], []⟩) (s1 := (nspeculumref09_CheckTable_l0_0_e0 a0 2)) pm pn (ans := [.reg (nN 4 []), .br true, .reg (arB1_3 a0 x3 r425 r430), .br true, .reg (.n :: [])]) (by kernel_rfl) (by intro e; cases e) (an (an (an (ti (ti (ti (ti trivial)))) (an (decide_eq_true h422) trivial)) (an e433 (an (not_t (bool_f h434)) (an (ti trivial) trivial)))) (ti trivial))
   ·have e442 := (ti (ti (an h423 (ti (an e424 (an e427 (ti (ti (an (not_t (bool_f h428)) (an (not_t (bool_f h428)) (an (not_t (bool_f h428)) (an (not_t (bool_f h428)) (an (not_t (bool_f h428)) (an (not_t (bool_f h428)) (an (not_t (bool_f h428)) (an (not_t (bool_f h428)) trivial))))))))))))))))
    injection h with h; subst h
    exact round_stop (c := ⟨[(2, none)], [], []⟩) (s1 := (nspeculumref09_CheckTable_l0_0_e0 a0 2)) pm pn (ans := [.reg (nN 4 []), .br true, .reg (arB1_5 a0 x3 r425), .br true, .reg (.n :: [])]) (by kernel_rfl) (by intro e; cases e) (an (an (an (ti (ti (ti (ti trivial)))) (an (decide_eq_true h422) trivial)) (an e442 (an rt (an (ti trivial) trivial)))) (ti trivial))
  ·injection h with h; subst h
   exact round_stop (c := ⟨[], [], []⟩) (s1 := (nspeculumref09_CheckTable_l0_0_e1 a0 ())) pm pn (ans := [.reg (nN 4 []), .br false]) (by kernel_rfl) (by intro e; cases e) (an (an (ti (ti (ti (ti trivial)))) (an (decide_eq_false h422) trivial)) (ti trivial))
def nspeculumref09_CheckTable (k : Nat) (a0 : (List SSkyRow)) : Option Int :=
  (nspeculumbase_Within k (a0.length : Int) 1 40).bind fun r381 => (if r381 = true then ((nspeculumref09_CheckTable_l0_0 k a0 k 0).bind fun r444 => (match r444 with | .inl r445 => (some r445) | .inr r446 => (some 0))) else (some 10))
theorem nspeculumref09_CheckTable_ok (k : Nat) (a0 : (List SSkyRow)) (r : Int) (h : nspeculumref09_CheckTable k a0 = some r) : VC Go.Proofs.Try.prog 46 [VV.tr (List.flatMap c_SSkyRow a0) a0.length] (vi r) := by
 unfold nspeculumref09_CheckTable at h
 obtain ⟨r381, h382, h⟩ := bs h
 have e383 := (nspeculumbase_Within_ok k (a0.length : Int) 1 40 _ h382)
 rcases ifs h with ⟨h384, h⟩ | ⟨h384, h⟩
 ·obtain ⟨r444, h443, h⟩ := bs h
  have hph443 := nspeculumref09_CheckTable_l0_0_ok k a0 _ _ _ h443
  cases r444 with
  | inl r445 =>
   dsimp only at h
   have e447 := (an (ti trivial) (VRun.loop hph443))
   injection h with h; subst h
   exact fun_ok pm pn Go.Proofs.Try.func46 (r0 := vi r445) (ans := [.reg (.n :: []), .reg (.n :: .n :: .call (vb r381) :: .n :: []), .br false, .reg (.n :: []), .sub ⟨[(0, none), (3, none)], [], []⟩ .ret (nspeculumref09_CheckTable_l0_0_e0 a0 r445)]) (fr := true) (by kernel_rfl) (an (an (ti trivial) (an (an (ti (ti (an e383 (ti trivial)))) (an (not_f h384) trivial)) (an (ti trivial) e447))) (ti trivial)) (Wv.refl _)
  | inr r446 =>
   dsimp only at h
   have e448 := (an (ti trivial) (VRun.loop hph443))
   injection h with h; subst h
   exact fun_ok pm pn Go.Proofs.Try.func46 (r0 := vi 0) (ans := [.reg (.n :: []), .reg (.n :: .n :: .call (vb r381) :: .n :: []), .br false, .reg (.n :: []), .sub ⟨[(0, none), (3, none)], [], []⟩ (.exit 0) (nspeculumref09_CheckTable_l0_0_e1 a0 r446), .reg (.n :: [])]) (fr := true) (by kernel_rfl) (an (an (ti trivial) (an (an (ti (ti (an e383 (ti trivial)))) (an (not_f h384) trivial)) (an (an (ti trivial) e448) (an (ti trivial) trivial)))) (ti trivial)) (Wv.refl _)
 ·injection h with h; subst h
  exact fun_ok pm pn Go.Proofs.Try.func46 (r0 := vi 10) (ans := [.reg (.n :: []), .reg (.n :: .n :: .call (vb r381) :: .n :: []), .br true, .reg (.n :: [])]) (fr := true) (by kernel_rfl) (an (an (ti trivial) (an (ti (ti (an e383 (ti trivial)))) (an (not_t (bool_f h384)) (an (ti trivial) trivial)))) (ti trivial)) (Wv.refl _)
def nspeculumref09_IsPlace (k : Nat) (a0 : Int) : Option Bool :=
  (nspeculumref09_million k a0).bind fun r452 => (some r452)
theorem nspeculumref09_IsPlace_ok (k : Nat) (a0 : Int) (r : Bool) (h : nspeculumref09_IsPlace k a0 = some r) : VC Go.Proofs.Try.prog 48 [vi a0] (vb r) := by
 unfold nspeculumref09_IsPlace at h
 obtain ⟨r452, h453, h⟩ := bs h
 have e454 := (ti (an (nspeculumref09_million_ok k a0 _ h453) (ti trivial)))
 injection h with h; subst h
 exact fun_ok pm pn Go.Proofs.Try.func48 (r0 := vb r452) (ans := [.reg (.n :: []), .reg (.n :: .call (vb r452) :: .n :: [])]) (fr := true) (by kernel_rfl) (an (an (ti trivial) (an e454 trivial)) (ti trivial)) (Wv.refl _)
def nspeculumbase_Floor (k : Nat) (a0 : Int) (a1 : Int) : Option Int :=
  if a1 ≠ 0 then (if (a0.tmod a1) < 0 then (some (w64 ((w64 (a0.tdiv a1)) - 1))) else (some (w64 (a0.tdiv a1)))) else none
theorem nspeculumbase_Floor_ok (k : Nat) (a0 : Int) (a1 : Int) (r : Int) (h : nspeculumbase_Floor k a0 a1 = some r) : VC Go.Proofs.Try.prog 79 [vi a0, vi a1] (vi r) := by
 unfold nspeculumbase_Floor at h
 obtain ⟨h468, h⟩ := ifn h
 rcases ifs h with ⟨h469, h⟩ | ⟨h469, h⟩
 ·injection h with h; subst h
  exact fun_ok pm pn Go.Proofs.Try.func79 (r0 := vi (w64 ((w64 (a0.tdiv a1)) - 1))) (ans := [.reg (.n :: []), .reg (nN 4 []), .reg (nN 4 []), .br true, .reg (nN 3 []), .reg (.n :: .n :: [])]) (fr := true) (by kernel_rfl) (an (an (ti trivial) (an (ti (ti (an h468 (ti trivial)))) (an (an (ti (ti (an h468 (ti trivial)))) (an (decide_eq_true h469) (ti (ti (ti trivial))))) (an (ti (ti trivial)) trivial)))) (ti trivial)) (Wv.refl _)
 ·injection h with h; subst h
  exact fun_ok pm pn Go.Proofs.Try.func79 (r0 := vi (w64 (a0.tdiv a1))) (ans := [.reg (.n :: []), .reg (nN 4 []), .reg (nN 4 []), .br false, .reg (.n :: .n :: [])]) (fr := true) (by kernel_rfl) (an (an (ti trivial) (an (ti (ti (an h468 (ti trivial)))) (an (an (ti (ti (an h468 (ti trivial)))) (an (decide_eq_false h469) trivial)) (an (ti (ti trivial)) trivial)))) (ti trivial)) (Wv.refl _)
def nspeculumref09_TableAt_l0_0_h (a0 : (List SSkyRow)) (a1 : Int) (x5 : Int) : VS := ⟨mkA [(0, VV.tr (List.flatMap c_SSkyRow a0) a0.length), (1, vi a1), (5, vi x5)], [], .nil⟩
def nspeculumref09_TableAt_l0_0_e0 (a0 : (List SSkyRow)) (a1 : Int) (r : Int) : VS := ⟨mkA [(4, vi r)], [], .nil⟩
def nspeculumref09_TableAt_l0_0_e1 (a0 : (List SSkyRow)) (a1 : Int) (r : Unit) : VS := ⟨mkA [(0, VV.tr (List.flatMap c_SSkyRow a0) a0.length)], [], .nil⟩
def nspeculumref09_TableAt_l0_0 (k : Nat) (a0 : (List SSkyRow)) (a1 : Int) : Nat → Int → Option (Sum Int Unit)
  | 0, _ => none
  | fuel + 1, x5 => if x5 < (a0.length : Int) then (if 0 ≤ w64 (x5 - 1) ∧ w64 (x5 - 1) < (a0.length : Int) then (if 0 ≤ x5 ∧ x5 < (a0.length : Int) then (if a1 < ((a0.getD x5.toNat default).At) then ((nspeculumbase_Floor k (w64 ((w64 (((a0.getD x5.toNat default).Value) - ((a0.getD (w64 (x5 - 1)).toNat default).Value))) * (w64 (a1 - ((a0.getD (w64 (x5 - 1)).toNat default).At))))) (w64 (((a0.getD x5.toNat default).At) - ((a0.getD (w64 (x5 - 1)).toNat default).At)))).bind fun r538 => (some (.inl (w64 (((a0.getD (w64 (x5 - 1)).toNat default).Value) + r538))))) else (nspeculumref09_TableAt_l0_0 k a0 a1 fuel (w64 (x5 + 1)))) else none) else none) else (some (.inr ()))
theorem nspeculumref09_TableAt_l0_0_ok (k : Nat) (a0 : (List SSkyRow)) (a1 : Int) : ∀ (fuel : Nat) (x5 : Int) (r : Sum Int Unit), nspeculumref09_TableAt_l0_0 k a0 a1 fuel x5 = some r → (match r with | .inl r => VLoop none Go.Proofs.Try.prog (szF Go.Proofs.Try.f49) (bodyOf Go.Proofs.Try.f49 0) (nspeculumref09_TableAt_l0_0_h a0 a1 x5) .ret (nspeculumref09_TableAt_l0_0_e0 a0 a1 r) | .inr r => VLoop none Go.Proofs.Try.prog (szF Go.Proofs.Try.f49) (bodyOf Go.Proofs.Try.f49 0) (nspeculumref09_TableAt_l0_0_h a0 a1 x5) (.exit 0) (nspeculumref09_TableAt_l0_0_e1 a0 a1 r)) := by
 intro fuel
 induction fuel with
 | zero => intro x5 r h; rw [nspeculumref09_TableAt_l0_0.eq_1] at h; cases h
 | succ fuel ih =>
  intro x5 r h
  rw [nspeculumref09_TableAt_l0_0.eq_2] at h
  rcases ifs h with ⟨h531, h⟩ | ⟨h531, h⟩
  ·obtain ⟨h532, h⟩ := ifn h
   have e533 := (show loadL Go.Proofs.Try.prog 77 ((w64 (x5 - 1)).toNat * 2) (List.flatMap c_SSkyRow a0) = some (VV.ag (c_SSkyRow (a0.getD (w64 (x5 - 1)).toNat default))) from ld_whole ag77 c_SSkyRow 2 sz77 len_c_SSkyRow a0 default h532 (by omega))
   obtain ⟨h534, h⟩ := ifn h
   have e535 := (show loadL Go.Proofs.Try.prog 77 (x5.toNat * 2) (List.flatMap c_SSkyRow a0) = some (VV.ag (c_SSkyRow (a0.getD x5.toNat default))) from ld_whole ag77 c_SSkyRow 2 sz77 len_c_SSkyRow a0 default h534 (by omega))
   have e536 := (ti (ti (ti (an h532 (an e533 (ti (ti (an h534 (an e535 (ti (ti (ti (ti trivial)))))))))))))
   rcases ifs h with ⟨h537, h⟩ | ⟨h537, h⟩
   ·obtain ⟨r538, h539, h⟩ := bs h
    have e540 := (nspeculumbase_Floor_ok k (w64 ((w64 (((a0.getD x5.toNat default).Value) - ((a0.getD (w64 (x5 - 1)).toNat default).Value))) * (w64 (a1 - ((a0.getD (w64 (x5 - 1)).toNat default).At))))) (w64 (((a0.getD x5.toNat default).At) - ((a0.getD (w64 (x5 - 1)).toNat default).At))) _ h539)
    have e541 := (ti (ti (ti (ti (ti (ti (ti (ti (ti (ti (ti (ti (ti (ti (ti (ti (ti (an e540 (ti (ti trivial))))))))))))))))))))
    injection h with h; subst h
    exact round_stop (c := ⟨[(4, none)], [], []⟩) (s1 := (nspeculumref09_TableAt_l0_0_e0 a0 a1 (w64 (((a0.getD (w64 (x5 - 1)).toNat default).Value) + r538)))) pm pn (ans := [.reg (nN 4 []), .br true, .reg (arB1_2 a0 x5), .reg (nN 4 []), .br true, .reg (nN 17 (.call (vi r538) :: .n :: .n :: []))]) (by kernel_rfl) (by intro e; cases e) (an (an (an (ti (ti (ti (ti trivial)))) (an (decide_eq_true h531) trivial)) (an e536 (an (ti (ti (ti (ti trivial)))) (an (decide_eq_true h537) (an e541 trivial))))) (ti trivial))
   ·have h2 := ih _ _ h
    obtain ⟨q, hv, hq⟩ := pkR (rd := none) (P := Go.Proofs.Try.prog) (fn := Go.Proofs.Try.f49) (k := 0) (s := (nspeculumref09_TableAt_l0_0_h a0 a1 x5)) (ans := [.reg (nN 4 []), .br true, .reg (arB1_2 a0 x5), .reg (nN 4 []), .br false, .reg (nN 3 [])]) (c := ⟨[(0, none), (1, none), (5, none)], [], []⟩) (e := .normal) (s1 := (nspeculumref09_TableAt_l0_0_h a0 a1 (w64 (x5 + 1)))) (an (an (an (ti (ti (ti (ti trivial)))) (an (decide_eq_true h531) trivial)) (an (an e536 (an (ti (ti (ti (ti trivial)))) (an (decide_eq_false h537) trivial))) (ti (ti (ti trivial))))) (ti trivial)) (by kernel_rfl)
    cases r with
    | inl r => exact round_next pm pn hv hq h2
    | inr r =>
     exact round_next pm pn hv hq h2
  ·injection h with h; subst h
   exact round_stop (c := ⟨[(0, none)], [], []⟩) (s1 := (nspeculumref09_TableAt_l0_0_e1 a0 a1 ())) pm pn (ans := [.reg (nN 4 []), .br false]) (by kernel_rfl) (by intro e; cases e) (an (an (ti (ti (ti (ti trivial)))) (an (decide_eq_false h531) trivial)) (ti trivial))
def nspeculumref09_TableAt (k : Nat) (a0 : (List SSkyRow)) (a1 : Int) : Option Int :=
  if (0 : Int) ≤ 0 ∧ 0 < (a0.length : Int) then (if a1 ≤ ((a0.getD ((0 : Int)).toNat default).At) then (some ((a0.getD ((0 : Int)).toNat default).Value)) else ((nspeculumref09_TableAt_l0_0 k a0 a1 k 1).bind fun r543 => (match r543 with | .inl r544 => (some r544) | .inr r545 => (if 0 ≤ w64 ((a0.length : Int) - 1) ∧ w64 ((a0.length : Int) - 1) < (a0.length : Int) then (some ((a0.getD (w64 ((a0.length : Int) - 1)).toNat default).Value)) else none)))) else none
theorem nspeculumref09_TableAt_ok (k : Nat) (a0 : (List SSkyRow)) (a1 : Int) (r : Int) (h : nspeculumref09_TableAt k a0 a1 = some r) : VC Go.Proofs.Try.prog 49 [VV.tr (List.flatMap c_SSkyRow a0) a0.length, vi a1] (vi r) := by
 unfold nspeculumref09_TableAt at h
 obtain ⟨h505, h⟩ := ifn h
 have e506 := (show loadL Go.Proofs.Try.prog 3 (((0 : Int)).toNat * 2 + 0) (List.flatMap c_SSkyRow a0) = some (vi ((a0.getD ((0 : Int)).toNat default).At)) from (ld_flat ag3 c_SSkyRow 2 0 len_c_SSkyRow (by omega) a0 default h505 (by omega)).trans rfl)
 rcases ifs h with ⟨h507, h⟩ | ⟨h507, h⟩
 ·have e508 := (show loadL Go.Proofs.Try.prog 3 (((0 : Int)).toNat * 2 + 1) (List.flatMap c_SSkyRow a0) = some (vi ((a0.getD ((0 : Int)).toNat default).Value)) from (ld_flat ag3 c_SSkyRow 2 1 len_c_SSkyRow (by omega) a0 default h505 (by omega)).trans rfl)
  injection h with h; subst h
  exact fun_ok pm pn Go.Proofs.Try.func49 (r0 := vi ((a0.getD ((0 : Int)).toNat default).Value)) (ans := [.reg (.n :: []), .reg (nN 4 (.v (vi ((a0.getD ((0 : Int)).toNat default).At)) :: .n :: [])), .br true, .reg (nN 3 (.v (vi ((a0.getD ((0 : Int)).toNat default).Value)) :: .n :: []))]) (fr := true) (by kernel_rfl) (an (an (ti trivial) (an (ti (ti (an h505 (ti (an e506 (ti trivial)))))) (an (decide_eq_true h507) (an (ti (an h505 (ti (an e508 (ti trivial))))) trivial)))) (ti trivial)) (Wv.refl _)
 ·obtain ⟨r543, h542, h⟩ := bs h
  have hph542 := nspeculumref09_TableAt_l0_0_ok k a0 a1 _ _ _ h542
  cases r543 with
  | inl r544 =>
   dsimp only at h
   have e546 := (an (ti trivial) (VRun.loop hph542))
   injection h with h; subst h
   exact fun_ok pm pn Go.Proofs.Try.func49 (r0 := vi r544) (ans := [.reg (.n :: []), .reg (nN 4 (.v (vi ((a0.getD ((0 : Int)).toNat default).At)) :: .n :: [])), .br false, .reg (.n :: []), .sub ⟨[(0, none), (1, none), (5, none)], [], []⟩ .ret (nspeculumref09_TableAt_l0_0_e0 a0 a1 r544)]) (fr := true) (by kernel_rfl) (an (an (ti trivial) (an (an (ti (ti (an h505 (ti (an e506 (ti trivial)))))) (an (decide_eq_false h507) trivial)) (an (ti trivial) e546))) (ti trivial)) (Wv.refl _)
  | inr r545 =>
   dsimp only at h
   have e547 := (an (ti trivial) (VRun.loop hph542))
   obtain ⟨h548, h⟩ := ifn h
   have e549 := (show loadL Go.Proofs.Try.prog 3 ((w64 ((a0.length : Int) - 1)).toNat * 2 + 1) (List.flatMap c_SSkyRow a0) = some (vi ((a0.getD (w64 ((a0.length : Int) - 1)).toNat default).Value)) from (ld_flat ag3 c_SSkyRow 2 1 len_c_SSkyRow (by omega) a0 default h548 (by omega)).trans rfl)
   have e550 := (ti (ti (ti (ti (an h548 (ti (an e549 (ti trivial))))))))
   injection h with h; subst h
   exact fun_ok pm pn Go.Proofs.Try.func49 (r0 := vi ((a0.getD (w64 ((a0.length : Int) - 1)).toNat default).Value)) (ans := [.reg (.n :: []), .reg (nN 4 (.v (vi ((a0.getD ((0 : Int)).toNat default).At)) :: .n :: [])), .br false, .reg (.n :: []), .sub ⟨[(0, none), (1, none), (5, none)], [], []⟩ (.exit 0) (nspeculumref09_TableAt_l0_0_e1 a0 a1 r545), .reg (arB1_1 a0)]) (fr := true) (by kernel_rfl) (an (an (ti trivial) (an (an (ti (ti (an h505 (ti (an e506 (ti trivial)))))) (an (decide_eq_false h507) trivial)) (an (an (ti trivial) e547) (an e550 trivial)))) (ti trivial)) (Wv.refl _)
end Go.Proofs.Ytlhnkehohknhbaa.Vg

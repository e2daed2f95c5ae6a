/- Written by a program out of the program: what Go functions do, as plain functions, and their contracts. -/
import Derived.Test.YteicfenmfnpmgaaVv19
namespace Go.Proofs.Yteicfenmfnpmgaa.Vg
set_option linter.unusedVariables false
set_option linter.unusedSimpArgs false
open Go Go.Proofs.Yteicfenmfnpmgaa.Ev Go.Proofs.Yteicfenmfnpmgaa.Vv
def v_22 (x : List Int) : VV := VV.tr (List.map vi x) x.length
def f_22 (x : List Int) : VV := VV.fr (List.map vi x) x.length
theorem still_v_22 (xs : List (List Int)) : (xs.map v_22).all VV.still = true := all_map (fun _ => rfl) xs
theorem unfr_v_22 (xs : List (List Int)) : (xs.map v_22).map unfr = xs.map v_22 := unfr_map (fun _ => rfl) xs
theorem still_f_22 (xs : List (List Int)) : (xs.map f_22).all VV.still = true := all_map (fun _ => rfl) xs
theorem unfr_f_22 (xs : List (List Int)) : (xs.map f_22).map unfr = xs.map v_22 := unfr_map (fun _ => rfl) xs
theorem new0_f_22 (xs : List (List Int)) : (xs.map f_22).all new0 = true := all_map (fun _ => rfl) xs
theorem ag3 : isAggT Go.Proofs.Try.prog 3 = some false := by kernel_rfl
theorem ag22 : isAggT Go.Proofs.Try.prog 22 = some false := by kernel_rfl
def nawake (k : Nat) : Option Bool := some true
theorem nawake_ok (k : Nat) (r : Bool) (h : nawake k = some r) : VC Go.Proofs.Try.prog 13 [] (vb r) := by
  injection h with h; subst h
  exact vc_awake
def nspeculumlaw06_lists_l0_0 (k : Nat) (a0 : (List (List Int))) : Nat → Int → Option (Sum Unit Unit)
  | 0, _ => none
  | fuel + 1, x5 => if x5 < (a0.length : Int) then (if 0 ≤ x5 ∧ x5 < (a0.length : Int) then (if 45 < ((a0.getD x5.toNat default).length : Int) then (some (.inl ())) else (nspeculumlaw06_lists_l0_0 k a0 fuel (w64 (x5 + 1)))) else none) else (some (.inr ()))
set_option maxRecDepth 100000 in
theorem nspeculumlaw06_lists_l0_0_ok (k : Nat) (a0 : (List (List Int))) : ∀ (fuel : Nat) (x5 : Int) (r : Sum Unit Unit), nspeculumlaw06_lists_l0_0 k a0 fuel x5 = some r → (match r with | .inl r => VLoop Go.Proofs.Try.prog (szF Go.Proofs.Try.f20) (bodyOf Go.Proofs.Try.f20 0) ⟨mkA [(0, VV.tr (List.map v_22 a0) a0.length), (5, vi x5)], []⟩ .ret ⟨mkA [(4, vb false)], []⟩ | .inr r => VLoop Go.Proofs.Try.prog (szF Go.Proofs.Try.f20) (bodyOf Go.Proofs.Try.f20 0) ⟨mkA [(0, VV.tr (List.map v_22 a0) a0.length), (5, vi x5)], []⟩ (.exit 0) ⟨mkA [], []⟩) := by
  intro fuel
  induction fuel with
  | zero => intro x5 r h; rw [nspeculumlaw06_lists_l0_0.eq_1] at h; cases h
  | succ fuel ih =>
    intro x5 r h
    rw [nspeculumlaw06_lists_l0_0.eq_2] at h
    by_cases h44 : x5 < (a0.length : Int)
    · rw [if_pos h44] at h
      by_cases h45 : 0 ≤ x5 ∧ x5 < (a0.length : Int)
      · rw [if_pos h45] at h
        by_cases h46 : 45 < ((a0.getD x5.toNat default).length : Int)
        · rw [if_pos h46] at h
          injection h with h; subst h
          exact round_stop (c := ⟨[(4, none)], [], []⟩) (q := ((((True) ∧ (True) ∧ (True) ∧ (True) ∧ True) ∧ (((decide (x5 < (a0.length : Int))) = true) ∧ (True))) ∧ (((True) ∧ (True) ∧ (0 ≤ x5 ∧ x5 < ((a0.length : Nat) : Int)) ∧ (loadL Go.Proofs.Try.prog 22 (x5.toNat * 1) (List.map v_22 a0) = some (VV.tr (List.map vi (a0.getD x5.toNat default)) ((a0.getD x5.toNat default).length))) ∧ (True) ∧ (True) ∧ True) ∧ (((decide (45 < ((a0.getD x5.toNat default).length : Int))) = true) ∧ (((True) ∧ True) ∧ (True))))) ∧ (((True)) ∧ ((True)))) (s1 := ⟨mkA [(4, vb false)], []⟩) pm pn (ans := [.reg [.n, .n, .n, .n], .br true, .reg [.n, .n, .n, .v (VV.tr (List.map vi (a0.getD x5.toNat default)) ((a0.getD x5.toNat default).length)), .n, .n], .br true, .reg [.n]]) (by kernel_rfl) (by intro e; cases e) ⟨⟨⟨⟨trivial, ⟨trivial, ⟨trivial, ⟨trivial, trivial⟩⟩⟩⟩, ⟨(decide_eq_true h44), trivial⟩⟩, ⟨⟨trivial, ⟨trivial, ⟨h45, ⟨ld_map ag22 v_22 a0 default h45 (by omega), ⟨trivial, ⟨trivial, trivial⟩⟩⟩⟩⟩⟩, ⟨(decide_eq_true h46), ⟨⟨trivial, trivial⟩, trivial⟩⟩⟩⟩, ⟨trivial, trivial⟩⟩
        · rw [if_neg h46] at h
          have h2 := ih _ _ h
          have hv : vRound Go.Proofs.Try.prog Go.Proofs.Try.f20 0 ⟨mkA [(0, VV.tr (List.map v_22 a0) a0.length), (5, vi x5)], []⟩ [.reg [.n, .n, .n, .n], .br true, .reg [.n, .n, .n, .v (VV.tr (List.map vi (a0.getD x5.toNat default)) ((a0.getD x5.toNat default).length)), .n, .n], .br false, .reg [.n, .n, .n]] ⟨[(0, none), (5, none)], [], []⟩ = some (.normal, ⟨mkA [(0, VV.tr (List.map v_22 a0) a0.length), (5, vi (w64 (x5 + 1)))], []⟩, ((((True) ∧ (True) ∧ (True) ∧ (True) ∧ True) ∧ (((decide (x5 < (a0.length : Int))) = true) ∧ (True))) ∧ ((((True) ∧ (True) ∧ (0 ≤ x5 ∧ x5 < ((a0.length : Nat) : Int)) ∧ (loadL Go.Proofs.Try.prog 22 (x5.toNat * 1) (List.map v_22 a0) = some (VV.tr (List.map vi (a0.getD x5.toNat default)) ((a0.getD x5.toNat default).length))) ∧ (True) ∧ (True) ∧ True) ∧ (((decide (45 < ((a0.getD x5.toNat default).length : Int))) = false) ∧ (True))) ∧ ((True) ∧ (True) ∧ (True) ∧ True))) ∧ (((True)) ∧ ((True)))) := by kernel_rfl
          have hq : ((((True) ∧ (True) ∧ (True) ∧ (True) ∧ True) ∧ (((decide (x5 < (a0.length : Int))) = true) ∧ (True))) ∧ ((((True) ∧ (True) ∧ (0 ≤ x5 ∧ x5 < ((a0.length : Nat) : Int)) ∧ (loadL Go.Proofs.Try.prog 22 (x5.toNat * 1) (List.map v_22 a0) = some (VV.tr (List.map vi (a0.getD x5.toNat default)) ((a0.getD x5.toNat default).length))) ∧ (True) ∧ (True) ∧ True) ∧ (((decide (45 < ((a0.getD x5.toNat default).length : Int))) = false) ∧ (True))) ∧ ((True) ∧ (True) ∧ (True) ∧ True))) ∧ (((True)) ∧ ((True))) := ⟨⟨⟨⟨trivial, ⟨trivial, ⟨trivial, ⟨trivial, trivial⟩⟩⟩⟩, ⟨(decide_eq_true h44), trivial⟩⟩, ⟨⟨⟨trivial, ⟨trivial, ⟨h45, ⟨ld_map ag22 v_22 a0 default h45 (by omega), ⟨trivial, ⟨trivial, trivial⟩⟩⟩⟩⟩⟩, ⟨(decide_eq_false h46), trivial⟩⟩, ⟨trivial, ⟨trivial, ⟨trivial, trivial⟩⟩⟩⟩⟩, ⟨trivial, trivial⟩⟩
          cases r with
          | inl r => exact round_next pm pn hv hq h2
          | inr r =>
            exact round_next pm pn hv hq h2
      · rw [if_neg h45] at h; cases h
    · rw [if_neg h44] at h
      injection h with h; subst h
      exact round_stop (c := ⟨[], [], []⟩) (q := (((True) ∧ (True) ∧ (True) ∧ (True) ∧ True) ∧ (((decide (x5 < (a0.length : Int))) = false) ∧ (True))) ∧ (((True)) ∧ ((True)))) (s1 := ⟨mkA [], []⟩) pm pn (ans := [.reg [.n, .n, .n, .n], .br false]) (by kernel_rfl) (by intro e; cases e) ⟨⟨⟨trivial, ⟨trivial, ⟨trivial, ⟨trivial, trivial⟩⟩⟩⟩, ⟨(decide_eq_false h44), trivial⟩⟩, ⟨trivial, trivial⟩⟩
def nspeculumlaw06_lists_l0_1 (k : Nat) (a0 : (List (List Int))) : Nat → Int → Option (Sum Unit Unit)
  | 0, _ => none
  | fuel + 1, x5 => if x5 < (a0.length : Int) then (if 0 ≤ x5 ∧ x5 < (a0.length : Int) then (if 45 < ((a0.getD x5.toNat default).length : Int) then (some (.inl ())) else (nspeculumlaw06_lists_l0_1 k a0 fuel (w64 (x5 + 1)))) else none) else (some (.inr ()))
set_option maxRecDepth 100000 in
theorem nspeculumlaw06_lists_l0_1_ok (k : Nat) (a0 : (List (List Int))) : ∀ (fuel : Nat) (x5 : Int) (r : Sum Unit Unit), nspeculumlaw06_lists_l0_1 k a0 fuel x5 = some r → (match r with | .inl r => VLoop Go.Proofs.Try.prog (szF Go.Proofs.Try.f20) (bodyOf Go.Proofs.Try.f20 0) ⟨mkA [(0, VV.tr (List.map v_22 a0) a0.length), (5, vi x5)], []⟩ .ret ⟨mkA [(4, vb false)], []⟩ | .inr r => VLoop Go.Proofs.Try.prog (szF Go.Proofs.Try.f20) (bodyOf Go.Proofs.Try.f20 0) ⟨mkA [(0, VV.tr (List.map v_22 a0) a0.length), (5, vi x5)], []⟩ (.exit 0) ⟨mkA [], []⟩) := by
  intro fuel
  induction fuel with
  | zero => intro x5 r h; rw [nspeculumlaw06_lists_l0_1.eq_1] at h; cases h
  | succ fuel ih =>
    intro x5 r h
    rw [nspeculumlaw06_lists_l0_1.eq_2] at h
    by_cases h58 : x5 < (a0.length : Int)
    · rw [if_pos h58] at h
      by_cases h59 : 0 ≤ x5 ∧ x5 < (a0.length : Int)
      · rw [if_pos h59] at h
        by_cases h60 : 45 < ((a0.getD x5.toNat default).length : Int)
        · rw [if_pos h60] at h
          injection h with h; subst h
          exact round_stop (c := ⟨[(4, none)], [], []⟩) (q := ((((True) ∧ (True) ∧ (True) ∧ (True) ∧ True) ∧ (((decide (x5 < (a0.length : Int))) = true) ∧ (True))) ∧ (((True) ∧ (True) ∧ (0 ≤ x5 ∧ x5 < ((a0.length : Nat) : Int)) ∧ (loadL Go.Proofs.Try.prog 22 (x5.toNat * 1) (List.map v_22 a0) = some (VV.tr (List.map vi (a0.getD x5.toNat default)) ((a0.getD x5.toNat default).length))) ∧ (True) ∧ (True) ∧ True) ∧ (((decide (45 < ((a0.getD x5.toNat default).length : Int))) = true) ∧ (((True) ∧ True) ∧ (True))))) ∧ (((True)) ∧ ((True)))) (s1 := ⟨mkA [(4, vb false)], []⟩) pm pn (ans := [.reg [.n, .n, .n, .n], .br true, .reg [.n, .n, .n, .v (VV.tr (List.map vi (a0.getD x5.toNat default)) ((a0.getD x5.toNat default).length)), .n, .n], .br true, .reg [.n]]) (by kernel_rfl) (by intro e; cases e) ⟨⟨⟨⟨trivial, ⟨trivial, ⟨trivial, ⟨trivial, trivial⟩⟩⟩⟩, ⟨(decide_eq_true h58), trivial⟩⟩, ⟨⟨trivial, ⟨trivial, ⟨h59, ⟨ld_map ag22 v_22 a0 default h59 (by omega), ⟨trivial, ⟨trivial, trivial⟩⟩⟩⟩⟩⟩, ⟨(decide_eq_true h60), ⟨⟨trivial, trivial⟩, trivial⟩⟩⟩⟩, ⟨trivial, trivial⟩⟩
        · rw [if_neg h60] at h
          have h2 := ih _ _ h
          have hv : vRound Go.Proofs.Try.prog Go.Proofs.Try.f20 0 ⟨mkA [(0, VV.tr (List.map v_22 a0) a0.length), (5, vi x5)], []⟩ [.reg [.n, .n, .n, .n], .br true, .reg [.n, .n, .n, .v (VV.tr (List.map vi (a0.getD x5.toNat default)) ((a0.getD x5.toNat default).length)), .n, .n], .br false, .reg [.n, .n, .n]] ⟨[(0, none), (5, none)], [], []⟩ = some (.normal, ⟨mkA [(0, VV.tr (List.map v_22 a0) a0.length), (5, vi (w64 (x5 + 1)))], []⟩, ((((True) ∧ (True) ∧ (True) ∧ (True) ∧ True) ∧ (((decide (x5 < (a0.length : Int))) = true) ∧ (True))) ∧ ((((True) ∧ (True) ∧ (0 ≤ x5 ∧ x5 < ((a0.length : Nat) : Int)) ∧ (loadL Go.Proofs.Try.prog 22 (x5.toNat * 1) (List.map v_22 a0) = some (VV.tr (List.map vi (a0.getD x5.toNat default)) ((a0.getD x5.toNat default).length))) ∧ (True) ∧ (True) ∧ True) ∧ (((decide (45 < ((a0.getD x5.toNat default).length : Int))) = false) ∧ (True))) ∧ ((True) ∧ (True) ∧ (True) ∧ True))) ∧ (((True)) ∧ ((True)))) := by kernel_rfl
          have hq : ((((True) ∧ (True) ∧ (True) ∧ (True) ∧ True) ∧ (((decide (x5 < (a0.length : Int))) = true) ∧ (True))) ∧ ((((True) ∧ (True) ∧ (0 ≤ x5 ∧ x5 < ((a0.length : Nat) : Int)) ∧ (loadL Go.Proofs.Try.prog 22 (x5.toNat * 1) (List.map v_22 a0) = some (VV.tr (List.map vi (a0.getD x5.toNat default)) ((a0.getD x5.toNat default).length))) ∧ (True) ∧ (True) ∧ True) ∧ (((decide (45 < ((a0.getD x5.toNat default).length : Int))) = false) ∧ (True))) ∧ ((True) ∧ (True) ∧ (True) ∧ True))) ∧ (((True)) ∧ ((True))) := ⟨⟨⟨⟨trivial, ⟨trivial, ⟨trivial, ⟨trivial, trivial⟩⟩⟩⟩, ⟨(decide_eq_true h58), trivial⟩⟩, ⟨⟨⟨trivial, ⟨trivial, ⟨h59, ⟨ld_map ag22 v_22 a0 default h59 (by omega), ⟨trivial, ⟨trivial, trivial⟩⟩⟩⟩⟩⟩, ⟨(decide_eq_false h60), trivial⟩⟩, ⟨trivial, ⟨trivial, ⟨trivial, trivial⟩⟩⟩⟩⟩, ⟨trivial, trivial⟩⟩
          cases r with
          | inl r => exact round_next pm pn hv hq h2
          | inr r =>
            exact round_next pm pn hv hq h2
      · rw [if_neg h59] at h; cases h
    · rw [if_neg h58] at h
      injection h with h; subst h
      exact round_stop (c := ⟨[], [], []⟩) (q := (((True) ∧ (True) ∧ (True) ∧ (True) ∧ True) ∧ (((decide (x5 < (a0.length : Int))) = false) ∧ (True))) ∧ (((True)) ∧ ((True)))) (s1 := ⟨mkA [], []⟩) pm pn (ans := [.reg [.n, .n, .n, .n], .br false]) (by kernel_rfl) (by intro e; cases e) ⟨⟨⟨trivial, ⟨trivial, ⟨trivial, ⟨trivial, trivial⟩⟩⟩⟩, ⟨(decide_eq_false h58), trivial⟩⟩, ⟨trivial, trivial⟩⟩
def nspeculumlaw06_lists (k : Nat) (a0 : (List (List Int))) (a1 : Int) : Option Bool :=
  if a1 < (a0.length : Int) then (if (a0.length : Int) ≤ 100 then (some false) else (if 102 < (a0.length : Int) then (some false) else ((nspeculumlaw06_lists_l0_0 k a0 k 0).bind fun r48 => (match r48 with | .inl r49 => (some false) | .inr r50 => (some true))))) else (if 102 < (a0.length : Int) then (some false) else ((nspeculumlaw06_lists_l0_1 k a0 k 0).bind fun r62 => (match r62 with | .inl r63 => (some false) | .inr r64 => (some true))))
set_option maxRecDepth 100000 in
theorem nspeculumlaw06_lists_ok (k : Nat) (a0 : (List (List Int))) (a1 : Int) (r : Bool) (h : nspeculumlaw06_lists k a0 a1 = some r) : VC Go.Proofs.Try.prog 20 [VV.tr (List.map v_22 a0) a0.length, vi a1] (vb r) := by
  unfold nspeculumlaw06_lists at h
  by_cases h35 : a1 < (a0.length : Int)
  · rw [if_pos h35] at h
    by_cases h36 : (a0.length : Int) ≤ 100
    · rw [if_pos h36] at h
      injection h with h; subst h
      exact fun_ok pm pn Go.Proofs.Try.func20 (q := ((((True) ∧ True) ∧ (((True) ∧ (True) ∧ (True) ∧ (True) ∧ (True) ∧ (((decide (a1 < (a0.length : Int))) = true ∧ True)) ∧ (((decide (a1 < (a0.length : Int))) = true ∧ True)) ∧ (((decide (a1 < (a0.length : Int))) = true ∧ True)) ∧ ((decide (a1 < (a0.length : Int))) = true) ∧ (True) ∧ ((decide ((a0.length : Int) ≤ 100)) = !false) ∧ ((decide ((a0.length : Int) ≤ 100)) = !false) ∧ ((decide ((a0.length : Int) ≤ 100)) = !false) ∧ ((decide ((a0.length : Int) ≤ 100)) = true) ∧ True) ∧ ((true = true) ∧ (((True) ∧ True) ∧ (True))))) ∧ ((True) ∧ (True)))) (r0 := vb false) (ans := [.reg [.n], .reg [.n, .n, .n, .n, .n, .n, .n, .n, .b true, .n, .skip, .skip, .skip, .b true], .br true, .reg [.n]]) (fr := true) (by kernel_rfl) ⟨⟨⟨trivial, trivial⟩, ⟨⟨trivial, ⟨trivial, ⟨trivial, ⟨trivial, ⟨trivial, ⟨⟨(decide_eq_true h35), trivial⟩, ⟨⟨(decide_eq_true h35), trivial⟩, ⟨⟨(decide_eq_true h35), trivial⟩, ⟨(decide_eq_true h35), ⟨trivial, ⟨(decide_eq_true h36), ⟨(decide_eq_true h36), ⟨(decide_eq_true h36), ⟨(decide_eq_true h36), trivial⟩⟩⟩⟩⟩⟩⟩⟩⟩⟩⟩⟩⟩⟩, ⟨rfl, ⟨⟨trivial, trivial⟩, trivial⟩⟩⟩⟩, ⟨trivial, trivial⟩⟩ (Wv.refl _)
    · rw [if_neg h36] at h
      by_cases h37 : 102 < (a0.length : Int)
      · rw [if_pos h37] at h
        injection h with h; subst h
        exact fun_ok pm pn Go.Proofs.Try.func20 (q := ((((True) ∧ True) ∧ (((True) ∧ (True) ∧ (True) ∧ (True) ∧ (True) ∧ (((decide (a1 < (a0.length : Int))) = true ∧ True)) ∧ (((decide (a1 < (a0.length : Int))) = true ∧ True)) ∧ (((decide (a1 < (a0.length : Int))) = true ∧ True)) ∧ ((decide (a1 < (a0.length : Int))) = true) ∧ (True) ∧ (((decide ((a0.length : Int) ≤ 100)) = false ∧ True)) ∧ (((decide ((a0.length : Int) ≤ 100)) = false ∧ True)) ∧ (((decide ((a0.length : Int) ≤ 100)) = false ∧ True)) ∧ ((decide ((a0.length : Int) ≤ 100)) = false) ∧ True) ∧ (((decide (102 < (a0.length : Int))) = true) ∧ (((True) ∧ True) ∧ (True))))) ∧ ((True) ∧ (True)))) (r0 := vb false) (ans := [.reg [.n], .reg [.n, .n, .n, .n, .n, .n, .n, .n, .b true, .n, .n, .n, .n, .b false], .br true, .reg [.n]]) (fr := true) (by kernel_rfl) ⟨⟨⟨trivial, trivial⟩, ⟨⟨trivial, ⟨trivial, ⟨trivial, ⟨trivial, ⟨trivial, ⟨⟨(decide_eq_true h35), trivial⟩, ⟨⟨(decide_eq_true h35), trivial⟩, ⟨⟨(decide_eq_true h35), trivial⟩, ⟨(decide_eq_true h35), ⟨trivial, ⟨⟨(decide_eq_false h36), trivial⟩, ⟨⟨(decide_eq_false h36), trivial⟩, ⟨⟨(decide_eq_false h36), trivial⟩, ⟨(decide_eq_false h36), trivial⟩⟩⟩⟩⟩⟩⟩⟩⟩⟩⟩⟩⟩⟩, ⟨(decide_eq_true h37), ⟨⟨trivial, trivial⟩, trivial⟩⟩⟩⟩, ⟨trivial, trivial⟩⟩ (Wv.refl _)
      · rw [if_neg h37] at h
        cases h47 : nspeculumlaw06_lists_l0_0 k a0 k 0 with
        | none => rw [h47] at h; cases h
        | some r48 =>
          rw [h47, Option.bind_some] at h
          have hph47 := nspeculumlaw06_lists_l0_0_ok k a0 _ _ _ h47
          cases r48 with
          | inl r49 =>
            dsimp only at h
            injection h with h; subst h
            exact fun_ok pm pn Go.Proofs.Try.func20 (q := ((((True) ∧ True) ∧ ((((True) ∧ (True) ∧ (True) ∧ (True) ∧ (True) ∧ (((decide (a1 < (a0.length : Int))) = true ∧ True)) ∧ (((decide (a1 < (a0.length : Int))) = true ∧ True)) ∧ (((decide (a1 < (a0.length : Int))) = true ∧ True)) ∧ ((decide (a1 < (a0.length : Int))) = true) ∧ (True) ∧ (((decide ((a0.length : Int) ≤ 100)) = false ∧ True)) ∧ (((decide ((a0.length : Int) ≤ 100)) = false ∧ True)) ∧ (((decide ((a0.length : Int) ≤ 100)) = false ∧ True)) ∧ ((decide ((a0.length : Int) ≤ 100)) = false) ∧ True) ∧ (((decide (102 < (a0.length : Int))) = false) ∧ (True))) ∧ (((True) ∧ True) ∧ (((((True)) ∧ ((True))) ∧ VRun Go.Proofs.Try.prog (szF Go.Proofs.Try.f20) (.loop (bodyOf Go.Proofs.Try.f20 0)) ⟨mkA [(0, VV.tr (List.map v_22 a0) a0.length), (5, vi 0)], []⟩ .ret ⟨mkA [(4, vb false)], []⟩))))) ∧ ((True) ∧ (True)))) (r0 := vb false) (ans := [.reg [.n], .reg [.n, .n, .n, .n, .n, .n, .n, .n, .b true, .n, .n, .n, .n, .b false], .br false, .reg [.n], .sub ⟨[(0, none), (5, none)], [], []⟩ .ret ⟨mkA [(4, vb false)], []⟩]) (fr := true) (by kernel_rfl) ⟨⟨⟨trivial, trivial⟩, ⟨⟨⟨trivial, ⟨trivial, ⟨trivial, ⟨trivial, ⟨trivial, ⟨⟨(decide_eq_true h35), trivial⟩, ⟨⟨(decide_eq_true h35), trivial⟩, ⟨⟨(decide_eq_true h35), trivial⟩, ⟨(decide_eq_true h35), ⟨trivial, ⟨⟨(decide_eq_false h36), trivial⟩, ⟨⟨(decide_eq_false h36), trivial⟩, ⟨⟨(decide_eq_false h36), trivial⟩, ⟨(decide_eq_false h36), trivial⟩⟩⟩⟩⟩⟩⟩⟩⟩⟩⟩⟩⟩⟩, ⟨(decide_eq_false h37), trivial⟩⟩, ⟨⟨trivial, trivial⟩, ⟨⟨trivial, trivial⟩, VRun.loop hph47⟩⟩⟩⟩, ⟨trivial, trivial⟩⟩ (Wv.refl _)
          | inr r50 =>
            dsimp only at h
            injection h with h; subst h
            exact fun_ok pm pn Go.Proofs.Try.func20 (q := ((((True) ∧ True) ∧ ((((True) ∧ (True) ∧ (True) ∧ (True) ∧ (True) ∧ (((decide (a1 < (a0.length : Int))) = true ∧ True)) ∧ (((decide (a1 < (a0.length : Int))) = true ∧ True)) ∧ (((decide (a1 < (a0.length : Int))) = true ∧ True)) ∧ ((decide (a1 < (a0.length : Int))) = true) ∧ (True) ∧ (((decide ((a0.length : Int) ≤ 100)) = false ∧ True)) ∧ (((decide ((a0.length : Int) ≤ 100)) = false ∧ True)) ∧ (((decide ((a0.length : Int) ≤ 100)) = false ∧ True)) ∧ ((decide ((a0.length : Int) ≤ 100)) = false) ∧ True) ∧ (((decide (102 < (a0.length : Int))) = false) ∧ (True))) ∧ ((((True) ∧ True) ∧ (((((True)) ∧ ((True))) ∧ VRun Go.Proofs.Try.prog (szF Go.Proofs.Try.f20) (.loop (bodyOf Go.Proofs.Try.f20 0)) ⟨mkA [(0, VV.tr (List.map v_22 a0) a0.length), (5, vi 0)], []⟩ (.exit 0) ⟨mkA [], []⟩))) ∧ (((True) ∧ True) ∧ (True))))) ∧ ((True) ∧ (True)))) (r0 := vb true) (ans := [.reg [.n], .reg [.n, .n, .n, .n, .n, .n, .n, .n, .b true, .n, .n, .n, .n, .b false], .br false, .reg [.n], .sub ⟨[(0, none), (5, none)], [], []⟩ (.exit 0) ⟨mkA [], []⟩, .reg [.n]]) (fr := true) (by kernel_rfl) ⟨⟨⟨trivial, trivial⟩, ⟨⟨⟨trivial, ⟨trivial, ⟨trivial, ⟨trivial, ⟨trivial, ⟨⟨(decide_eq_true h35), trivial⟩, ⟨⟨(decide_eq_true h35), trivial⟩, ⟨⟨(decide_eq_true h35), trivial⟩, ⟨(decide_eq_true h35), ⟨trivial, ⟨⟨(decide_eq_false h36), trivial⟩, ⟨⟨(decide_eq_false h36), trivial⟩, ⟨⟨(decide_eq_false h36), trivial⟩, ⟨(decide_eq_false h36), trivial⟩⟩⟩⟩⟩⟩⟩⟩⟩⟩⟩⟩⟩⟩, ⟨(decide_eq_false h37), trivial⟩⟩, ⟨⟨⟨trivial, trivial⟩, ⟨⟨trivial, trivial⟩, VRun.loop hph47⟩⟩, ⟨⟨trivial, trivial⟩, trivial⟩⟩⟩⟩, ⟨trivial, trivial⟩⟩ (Wv.refl _)
  · rw [if_neg h35] at h
    by_cases h51 : 102 < (a0.length : Int)
    · rw [if_pos h51] at h
      injection h with h; subst h
      exact fun_ok pm pn Go.Proofs.Try.func20 (q := ((((True) ∧ True) ∧ (((True) ∧ (True) ∧ (True) ∧ (True) ∧ (True) ∧ ((decide (a1 < (a0.length : Int))) = !true) ∧ ((decide (a1 < (a0.length : Int))) = !true) ∧ ((decide (a1 < (a0.length : Int))) = !true) ∧ ((decide (a1 < (a0.length : Int))) = false) ∧ (True) ∧ ((false = false ∧ True)) ∧ ((false = false ∧ True)) ∧ ((false = false ∧ True)) ∧ (false = false) ∧ True) ∧ (((decide (102 < (a0.length : Int))) = true) ∧ (((True) ∧ True) ∧ (True))))) ∧ ((True) ∧ (True)))) (r0 := vb false) (ans := [.reg [.n], .reg [.n, .n, .n, .n, .n, .skip, .skip, .skip, .b false, .n, .n, .n, .n, .b false], .br true, .reg [.n]]) (fr := true) (by kernel_rfl) ⟨⟨⟨trivial, trivial⟩, ⟨⟨trivial, ⟨trivial, ⟨trivial, ⟨trivial, ⟨trivial, ⟨(decide_eq_false h35), ⟨(decide_eq_false h35), ⟨(decide_eq_false h35), ⟨(decide_eq_false h35), ⟨trivial, ⟨⟨rfl, trivial⟩, ⟨⟨rfl, trivial⟩, ⟨⟨rfl, trivial⟩, ⟨rfl, trivial⟩⟩⟩⟩⟩⟩⟩⟩⟩⟩⟩⟩⟩⟩, ⟨(decide_eq_true h51), ⟨⟨trivial, trivial⟩, trivial⟩⟩⟩⟩, ⟨trivial, trivial⟩⟩ (Wv.refl _)
    · rw [if_neg h51] at h
      cases h61 : nspeculumlaw06_lists_l0_1 k a0 k 0 with
      | none => rw [h61] at h; cases h
      | some r62 =>
        rw [h61, Option.bind_some] at h
        have hph61 := nspeculumlaw06_lists_l0_1_ok k a0 _ _ _ h61
        cases r62 with
        | inl r63 =>
          dsimp only at h
          injection h with h; subst h
          exact fun_ok pm pn Go.Proofs.Try.func20 (q := ((((True) ∧ True) ∧ ((((True) ∧ (True) ∧ (True) ∧ (True) ∧ (True) ∧ ((decide (a1 < (a0.length : Int))) = !true) ∧ ((decide (a1 < (a0.length : Int))) = !true) ∧ ((decide (a1 < (a0.length : Int))) = !true) ∧ ((decide (a1 < (a0.length : Int))) = false) ∧ (True) ∧ ((false = false ∧ True)) ∧ ((false = false ∧ True)) ∧ ((false = false ∧ True)) ∧ (false = false) ∧ True) ∧ (((decide (102 < (a0.length : Int))) = false) ∧ (True))) ∧ (((True) ∧ True) ∧ (((((True)) ∧ ((True))) ∧ VRun Go.Proofs.Try.prog (szF Go.Proofs.Try.f20) (.loop (bodyOf Go.Proofs.Try.f20 0)) ⟨mkA [(0, VV.tr (List.map v_22 a0) a0.length), (5, vi 0)], []⟩ .ret ⟨mkA [(4, vb false)], []⟩))))) ∧ ((True) ∧ (True)))) (r0 := vb false) (ans := [.reg [.n], .reg [.n, .n, .n, .n, .n, .skip, .skip, .skip, .b false, .n, .n, .n, .n, .b false], .br false, .reg [.n], .sub ⟨[(0, none), (5, none)], [], []⟩ .ret ⟨mkA [(4, vb false)], []⟩]) (fr := true) (by kernel_rfl) ⟨⟨⟨trivial, trivial⟩, ⟨⟨⟨trivial, ⟨trivial, ⟨trivial, ⟨trivial, ⟨trivial, ⟨(decide_eq_false h35), ⟨(decide_eq_false h35), ⟨(decide_eq_false h35), ⟨(decide_eq_false h35), ⟨trivial, ⟨⟨rfl, trivial⟩, ⟨⟨rfl, trivial⟩, ⟨⟨rfl, trivial⟩, ⟨rfl, trivial⟩⟩⟩⟩⟩⟩⟩⟩⟩⟩⟩⟩⟩⟩, ⟨(decide_eq_false h51), trivial⟩⟩, ⟨⟨trivial, trivial⟩, ⟨⟨trivial, trivial⟩, VRun.loop hph61⟩⟩⟩⟩, ⟨trivial, trivial⟩⟩ (Wv.refl _)
        | inr r64 =>
          dsimp only at h
          injection h with h; subst h
          exact fun_ok pm pn Go.Proofs.Try.func20 (q := ((((True) ∧ True) ∧ ((((True) ∧ (True) ∧ (True) ∧ (True) ∧ (True) ∧ ((decide (a1 < (a0.length : Int))) = !true) ∧ ((decide (a1 < (a0.length : Int))) = !true) ∧ ((decide (a1 < (a0.length : Int))) = !true) ∧ ((decide (a1 < (a0.length : Int))) = false) ∧ (True) ∧ ((false = false ∧ True)) ∧ ((false = false ∧ True)) ∧ ((false = false ∧ True)) ∧ (false = false) ∧ True) ∧ (((decide (102 < (a0.length : Int))) = false) ∧ (True))) ∧ ((((True) ∧ True) ∧ (((((True)) ∧ ((True))) ∧ VRun Go.Proofs.Try.prog (szF Go.Proofs.Try.f20) (.loop (bodyOf Go.Proofs.Try.f20 0)) ⟨mkA [(0, VV.tr (List.map v_22 a0) a0.length), (5, vi 0)], []⟩ (.exit 0) ⟨mkA [], []⟩))) ∧ (((True) ∧ True) ∧ (True))))) ∧ ((True) ∧ (True)))) (r0 := vb true) (ans := [.reg [.n], .reg [.n, .n, .n, .n, .n, .skip, .skip, .skip, .b false, .n, .n, .n, .n, .b false], .br false, .reg [.n], .sub ⟨[(0, none), (5, none)], [], []⟩ (.exit 0) ⟨mkA [], []⟩, .reg [.n]]) (fr := true) (by kernel_rfl) ⟨⟨⟨trivial, trivial⟩, ⟨⟨⟨trivial, ⟨trivial, ⟨trivial, ⟨trivial, ⟨trivial, ⟨(decide_eq_false h35), ⟨(decide_eq_false h35), ⟨(decide_eq_false h35), ⟨(decide_eq_false h35), ⟨trivial, ⟨⟨rfl, trivial⟩, ⟨⟨rfl, trivial⟩, ⟨⟨rfl, trivial⟩, ⟨rfl, trivial⟩⟩⟩⟩⟩⟩⟩⟩⟩⟩⟩⟩⟩⟩, ⟨(decide_eq_false h51), trivial⟩⟩, ⟨⟨⟨trivial, trivial⟩, ⟨⟨trivial, trivial⟩, VRun.loop hph61⟩⟩, ⟨⟨trivial, trivial⟩, trivial⟩⟩⟩⟩, ⟨trivial, trivial⟩⟩ (Wv.refl _)
def nspeculumbase_CopyInts (k : Nat) (a0 : (List Int)) : Option (List Int) :=
  if ([] : List Int).length + a0.length ≤ 1000000000 then (some (([] : List Int) ++ a0)) else none
set_option maxRecDepth 100000 in
theorem nspeculumbase_CopyInts_ok (k : Nat) (a0 : (List Int)) (r : (List Int)) (h : nspeculumbase_CopyInts k a0 = some r) : VC Go.Proofs.Try.prog 22 [VV.tr (List.map vi a0) a0.length] (VV.fr (List.map vi r) r.length) := by
  unfold nspeculumbase_CopyInts at h
  by_cases h69 : ([] : List Int).length + a0.length ≤ 1000000000
  · rw [if_pos h69] at h
    injection h with h; subst h
    exact fun_ok pm pn Go.Proofs.Try.func22 (q := ((((True) ∧ True) ∧ (((True) ∧ (True) ∧ (List.length [] = 0 * 1 ∧ List.length (List.map vi a0) = a0.length * 1 ∧ (0 + a0.length) * 8 ≤ 140737488355328 ∧ 0 + a0.length < 1099511627776 ∧ List.all (List.map vi a0) VV.still = true) ∧ (True) ∧ True) ∧ (True))) ∧ ((List.all ([] ++ (List.map vi a0)) new0 = true) ∧ (True)))) (r0 := VV.fr (List.drop 0 (List.map unfr ([] ++ (List.map vi a0)))) (0 + a0.length)) (ans := [.reg [.n], .reg [.n, .n, .n, .n]]) (fr := true) (by kernel_rfl) ⟨⟨⟨trivial, trivial⟩, ⟨⟨trivial, ⟨trivial, ⟨⟨(by rw [show [] = List.map vi ([] : List Int) from rfl]; simp), (by simp), by simp at h69 ⊢; omega, by simp at h69 ⊢; omega, (by exact still_vi _)⟩, ⟨trivial, trivial⟩⟩⟩⟩, trivial⟩⟩, ⟨(by rw [show [] ++ (List.map vi a0) = List.map vi (([] : List Int) ++ a0) from (by rw [show [] = List.map vi ([] : List Int) from rfl]; exact List.map_append.symm)]; exact new0_vi _), trivial⟩⟩ (Wv.of_eq (by simp only [show [] ++ (List.map vi a0) = List.map vi (([] : List Int) ++ a0) from (by rw [show [] = List.map vi ([] : List Int) from rfl]; exact List.map_append.symm), drop0, unfr_vi, List.length_map, List.length_replicate, List.length_append, List.length_set, List.length_cons, List.length_nil, unfr_v_22, unfr_f_22]))
  · rw [if_neg h69] at h; cases h
def nspeculumbase_CopyLists_l0_0 (k : Nat) (a0 : (List (List Int))) : Nat → (List (List Int)) → Int → Option ((List (List Int)))
  | 0, _, _ => none
  | fuel + 1, y0, x4 => if x4 < (a0.length : Int) then (if 0 ≤ x4 ∧ x4 < (a0.length : Int) then ((nspeculumbase_CopyInts k (a0.getD x4.toNat default)).bind fun r111 => (if y0.length + ([r111] : List (List Int)).length ≤ 1000000000 then (nspeculumbase_CopyLists_l0_0 k a0 fuel (y0 ++ ([r111] : List (List Int))) (w64 (x4 + 1))) else none)) else none) else (some y0)
set_option maxRecDepth 100000 in
theorem nspeculumbase_CopyLists_l0_0_ok (k : Nat) (a0 : (List (List Int))) : ∀ (fuel : Nat) (y0 : List (List Int)) (x4 : Int) (r : (List (List Int))), nspeculumbase_CopyLists_l0_0 k a0 fuel y0 x4 = some r → (VLoop Go.Proofs.Try.prog (szF Go.Proofs.Try.f23) (bodyOf Go.Proofs.Try.f23 0) ⟨mkA [(0, VV.tr (List.map v_22 a0) a0.length), (3, VV.rf 0 0 y0.length), (4, vi x4)], [some ⟨false, 1, List.map f_22 y0⟩]⟩ (.exit 0) ⟨mkA [(3, VV.rf 0 0 r.length)], [some ⟨false, 1, List.map f_22 r⟩]⟩) := by
  intro fuel
  induction fuel with
  | zero => intro y0 x4 r h; rw [nspeculumbase_CopyLists_l0_0.eq_1] at h; cases h
  | succ fuel ih =>
    intro y0 x4 r h
    rw [nspeculumbase_CopyLists_l0_0.eq_2] at h
    by_cases h109 : x4 < (a0.length : Int)
    · rw [if_pos h109] at h
      by_cases h110 : 0 ≤ x4 ∧ x4 < (a0.length : Int)
      · rw [if_pos h110] at h
        cases h112 : nspeculumbase_CopyInts k (a0.getD x4.toNat default) with
        | none => rw [h112] at h; cases h
        | some r111 =>
          rw [h112, Option.bind_some] at h
          by_cases h113 : y0.length + ([r111] : List (List Int)).length ≤ 1000000000
          · rw [if_pos h113] at h
            have h2 := ih _ _ _ h
            have hv : vRound Go.Proofs.Try.prog Go.Proofs.Try.f23 0 ⟨mkA [(0, VV.tr (List.map v_22 a0) a0.length), (3, VV.rf 0 0 y0.length), (4, vi x4)], [some ⟨false, 1, List.map f_22 y0⟩]⟩ [.reg [.n, .n, .n, .n], .br true, .reg [.n, .n, .n, .n, .v (VV.tr (List.map vi (a0.getD x4.toNat default)) ((a0.getD x4.toNat default).length)), .call (VV.fr (List.map vi r111) r111.length), .n, .n, .n], .reg [.n, .n, .n]] ⟨[(0, none), (3, some (VV.rf 0 0 ((y0 ++ ([r111] : List (List Int))).length))), (4, none)], [some (List.map f_22 (y0 ++ ([r111] : List (List Int))))], []⟩ = some (.normal, ⟨mkA [(0, VV.tr (List.map v_22 a0) a0.length), (3, VV.rf 0 0 ((y0 ++ ([r111] : List (List Int))).length)), (4, vi (w64 (x4 + 1)))], [some ⟨false, 1, List.map f_22 (y0 ++ ([r111] : List (List Int)))⟩]⟩, ((((True) ∧ (True) ∧ (True) ∧ (True) ∧ True) ∧ (((decide (x4 < (a0.length : Int))) = true) ∧ (True))) ∧ (((True) ∧ (True) ∧ (True) ∧ (0 ≤ x4 ∧ x4 < ((a0.length : Nat) : Int)) ∧ (loadL Go.Proofs.Try.prog 22 (x4.toNat * 1) (List.map v_22 a0) = some (VV.tr (List.map vi (a0.getD x4.toNat default)) ((a0.getD x4.toNat default).length))) ∧ (VC Go.Proofs.Try.prog 22 [VV.tr (List.map vi (a0.getD x4.toNat default)) ((a0.getD x4.toNat default).length)] (VV.fr (List.map vi r111) r111.length)) ∧ (True) ∧ (List.length (List.map f_22 y0) = y0.length * 1 ∧ List.length [VV.fr (List.map vi r111) r111.length] = 1 * 1 ∧ (y0.length + 1) * 24 ≤ 140737488355328 ∧ y0.length + 1 < 1099511627776 ∧ List.all [VV.fr (List.map vi r111) r111.length] VV.still = true) ∧ (True) ∧ True) ∧ ((True) ∧ (True) ∧ (True) ∧ True))) ∧ (((Wv (VV.rf 0 0 (y0.length + 1)) (VV.rf 0 0 ((y0 ++ ([r111] : List (List Int))).length))) ∧ (True)) ∧ (((List.map f_22 y0) ++ [VV.fr (List.map vi r111) r111.length] = List.map f_22 (y0 ++ ([r111] : List (List Int)))) ∧ (True)))) := by kernel_rfl
            have hq : ((((True) ∧ (True) ∧ (True) ∧ (True) ∧ True) ∧ (((decide (x4 < (a0.length : Int))) = true) ∧ (True))) ∧ (((True) ∧ (True) ∧ (True) ∧ (0 ≤ x4 ∧ x4 < ((a0.length : Nat) : Int)) ∧ (loadL Go.Proofs.Try.prog 22 (x4.toNat * 1) (List.map v_22 a0) = some (VV.tr (List.map vi (a0.getD x4.toNat default)) ((a0.getD x4.toNat default).length))) ∧ (VC Go.Proofs.Try.prog 22 [VV.tr (List.map vi (a0.getD x4.toNat default)) ((a0.getD x4.toNat default).length)] (VV.fr (List.map vi r111) r111.length)) ∧ (True) ∧ (List.length (List.map f_22 y0) = y0.length * 1 ∧ List.length [VV.fr (List.map vi r111) r111.length] = 1 * 1 ∧ (y0.length + 1) * 24 ≤ 140737488355328 ∧ y0.length + 1 < 1099511627776 ∧ List.all [VV.fr (List.map vi r111) r111.length] VV.still = true) ∧ (True) ∧ True) ∧ ((True) ∧ (True) ∧ (True) ∧ True))) ∧ (((Wv (VV.rf 0 0 (y0.length + 1)) (VV.rf 0 0 ((y0 ++ ([r111] : List (List Int))).length))) ∧ (True)) ∧ (((List.map f_22 y0) ++ [VV.fr (List.map vi r111) r111.length] = List.map f_22 (y0 ++ ([r111] : List (List Int)))) ∧ (True))) := ⟨⟨⟨⟨trivial, ⟨trivial, ⟨trivial, ⟨trivial, trivial⟩⟩⟩⟩, ⟨(decide_eq_true h109), trivial⟩⟩, ⟨⟨trivial, ⟨trivial, ⟨trivial, ⟨h110, ⟨ld_map ag22 v_22 a0 default h110 (by omega), ⟨nspeculumbase_CopyInts_ok k (a0.getD x4.toNat default) _ h112, ⟨trivial, ⟨⟨(by simp), (by rw [show [VV.fr (List.map vi r111) r111.length] = List.map f_22 ([r111] : List (List Int)) from rfl]; simp), by simp at h113 ⊢; omega, by simp at h113 ⊢; omega, (by rw [show [VV.fr (List.map vi r111) r111.length] = List.map f_22 ([r111] : List (List Int)) from rfl]; exact still_f_22 _)⟩, ⟨trivial, trivial⟩⟩⟩⟩⟩⟩⟩⟩⟩, ⟨trivial, ⟨trivial, ⟨trivial, trivial⟩⟩⟩⟩⟩, ⟨⟨(Wv.of_eq (by simp)), trivial⟩, ⟨(by rw [show [VV.fr (List.map vi r111) r111.length] = List.map f_22 ([r111] : List (List Int)) from rfl]; exact List.map_append.symm), trivial⟩⟩⟩
            exact round_next pm pn hv hq h2
          · rw [if_neg h113] at h; cases h
      · rw [if_neg h110] at h; cases h
    · rw [if_neg h109] at h
      injection h with h; subst h
      exact round_stop (c := ⟨[(3, none)], [none], []⟩) (q := (((True) ∧ (True) ∧ (True) ∧ (True) ∧ True) ∧ (((decide (x4 < (a0.length : Int))) = false) ∧ (True))) ∧ (((True)) ∧ ((True)))) (s1 := ⟨mkA [(3, VV.rf 0 0 y0.length)], [some ⟨false, 1, List.map f_22 y0⟩]⟩) pm pn (ans := [.reg [.n, .n, .n, .n], .br false]) (by kernel_rfl) (by intro e; cases e) ⟨⟨⟨trivial, ⟨trivial, ⟨trivial, ⟨trivial, trivial⟩⟩⟩⟩, ⟨(decide_eq_false h109), trivial⟩⟩, ⟨trivial, trivial⟩⟩
def nspeculumbase_CopyLists (k : Nat) (a0 : (List (List Int))) : Option (List (List Int)) :=
  (nspeculumbase_CopyLists_l0_0 k a0 k ([] : List (List Int)) 0).bind fun r115 => (some r115)
set_option maxRecDepth 100000 in
theorem nspeculumbase_CopyLists_ok (k : Nat) (a0 : (List (List Int))) (r : (List (List Int))) (h : nspeculumbase_CopyLists k a0 = some r) : VC Go.Proofs.Try.prog 23 [VV.tr (List.map v_22 a0) a0.length] (VV.fr (List.map v_22 r) r.length) := by
  unfold nspeculumbase_CopyLists at h
  cases h114 : nspeculumbase_CopyLists_l0_0 k a0 k ([] : List (List Int)) 0 with
  | none => rw [h114] at h; cases h
  | some r115 =>
    rw [h114, Option.bind_some] at h
    have hph114 := nspeculumbase_CopyLists_l0_0_ok k a0 _ _ _ _ h114
    injection h with h; subst h
    exact fun_ok pm pn Go.Proofs.Try.func23 (q := ((((True) ∧ True) ∧ (((True) ∧ True) ∧ ((((True) ∧ True) ∧ (((((True)) ∧ ((True))) ∧ VRun Go.Proofs.Try.prog (szF Go.Proofs.Try.f23) (.loop (bodyOf Go.Proofs.Try.f23 0)) ⟨mkA [(0, VV.tr (List.map v_22 a0) a0.length), (3, VV.rf 0 0 (([] : List (List Int)).length)), (4, vi 0)], [some ⟨false, 1, List.map f_22 ([] : List (List Int))⟩]⟩ (.exit 0) ⟨mkA [(3, VV.rf 0 0 r115.length)], [some ⟨false, 1, List.map f_22 r115⟩]⟩))) ∧ (((True) ∧ (True) ∧ True) ∧ (True))))) ∧ ((List.all (List.map f_22 r115) new0 = true) ∧ (True)))) (r0 := VV.fr (List.drop 0 (List.map unfr (List.map f_22 r115))) r115.length) (ans := [.reg [.n], .reg [.n], .reg [.n], .sub ⟨[(0, none), (3, none), (4, none)], [], [(3, 1)]⟩ (.exit 0) ⟨mkA [(3, VV.rf 0 0 r115.length)], [some ⟨false, 1, List.map f_22 r115⟩]⟩, .reg [.n, .n]]) (fr := true) (by kernel_rfl) ⟨⟨⟨trivial, trivial⟩, ⟨⟨trivial, trivial⟩, ⟨⟨⟨trivial, trivial⟩, ⟨⟨trivial, trivial⟩, VRun.loop hph114⟩⟩, ⟨⟨trivial, ⟨trivial, trivial⟩⟩, trivial⟩⟩⟩⟩, ⟨(by exact new0_f_22 _), trivial⟩⟩ (Wv.of_eq (by simp only [drop0, unfr_vi, List.length_map, List.length_replicate, List.length_append, List.length_set, List.length_cons, List.length_nil, unfr_v_22, unfr_f_22]))
def nfigure_isWithin (k : Nat) (a0 : Int) (a1 : Int) (a2 : Int) : Option Bool :=
  if a1 ≤ a0 then (some (decide (a0 ≤ a2))) else (some false)
set_option maxRecDepth 100000 in
theorem nfigure_isWithin_ok (k : Nat) (a0 : Int) (a1 : Int) (a2 : Int) (r : Bool) (h : nfigure_isWithin k a0 a1 a2 = some r) : VC Go.Proofs.Try.prog 61 [vi a0, vi a1, vi a2] (vb r) := by
  unfold nfigure_isWithin at h
  by_cases h119 : a1 ≤ a0
  · rw [if_pos h119] at h
    injection h with h; subst h
    exact fun_ok pm pn Go.Proofs.Try.func61 (q := ((((True) ∧ True) ∧ (((True) ∧ (True) ∧ (True) ∧ (True) ∧ (((decide (a1 ≤ a0)) = true ∧ True)) ∧ (((decide (a1 ≤ a0)) = true ∧ True)) ∧ (((decide (a1 ≤ a0)) = true ∧ True)) ∧ ((decide (a1 ≤ a0)) = true) ∧ (True) ∧ True) ∧ (True))) ∧ ((True) ∧ (True)))) (r0 := vb (decide (a0 ≤ a2))) (ans := [.reg [.n], .reg [.n, .n, .n, .n, .n, .n, .n, .b true, .n]]) (fr := true) (by kernel_rfl) ⟨⟨⟨trivial, trivial⟩, ⟨⟨trivial, ⟨trivial, ⟨trivial, ⟨trivial, ⟨⟨(decide_eq_true h119), trivial⟩, ⟨⟨(decide_eq_true h119), trivial⟩, ⟨⟨(decide_eq_true h119), trivial⟩, ⟨(decide_eq_true h119), ⟨trivial, trivial⟩⟩⟩⟩⟩⟩⟩⟩⟩, trivial⟩⟩, ⟨trivial, trivial⟩⟩ (Wv.refl _)
  · rw [if_neg h119] at h
    injection h with h; subst h
    exact fun_ok pm pn Go.Proofs.Try.func61 (q := ((((True) ∧ True) ∧ (((True) ∧ (True) ∧ (True) ∧ (True) ∧ ((decide (a1 ≤ a0)) = !true) ∧ ((decide (a1 ≤ a0)) = !true) ∧ ((decide (a1 ≤ a0)) = !true) ∧ ((decide (a1 ≤ a0)) = false) ∧ (True) ∧ True) ∧ (True))) ∧ ((True) ∧ (True)))) (r0 := vb false) (ans := [.reg [.n], .reg [.n, .n, .n, .n, .skip, .skip, .skip, .b false, .n]]) (fr := true) (by kernel_rfl) ⟨⟨⟨trivial, trivial⟩, ⟨⟨trivial, ⟨trivial, ⟨trivial, ⟨trivial, ⟨(decide_eq_false h119), ⟨(decide_eq_false h119), ⟨(decide_eq_false h119), ⟨(decide_eq_false h119), ⟨trivial, trivial⟩⟩⟩⟩⟩⟩⟩⟩⟩, trivial⟩⟩, ⟨trivial, trivial⟩⟩ (Wv.refl _)
def nfigure_areHeights_l0_0 (k : Nat) (a0 : (List Int)) : Nat → Int → Option (Sum Unit Unit)
  | 0, _ => none
  | fuel + 1, x7 => if x7 < (a0.length : Int) then (if 0 ≤ x7 ∧ x7 < (a0.length : Int) then ((nfigure_isWithin k (a0.getD x7.toNat 0) (-100000) 100000).bind fun r154 => (if r154 = true then (nfigure_areHeights_l0_0 k a0 fuel (w64 (x7 + 1))) else (some (.inl ())))) else none) else (some (.inr ()))
set_option maxRecDepth 100000 in
theorem nfigure_areHeights_l0_0_ok (k : Nat) (a0 : (List Int)) : ∀ (fuel : Nat) (x7 : Int) (r : Sum Unit Unit), nfigure_areHeights_l0_0 k a0 fuel x7 = some r → (match r with | .inl r => VLoop Go.Proofs.Try.prog (szF Go.Proofs.Try.f62) (bodyOf Go.Proofs.Try.f62 0) ⟨mkA [(5, VV.tr (List.map vi a0) a0.length), (6, vi (a0.length : Int)), (7, vi x7)], []⟩ .ret ⟨mkA [(2, vb false)], []⟩ | .inr r => VLoop Go.Proofs.Try.prog (szF Go.Proofs.Try.f62) (bodyOf Go.Proofs.Try.f62 0) ⟨mkA [(5, VV.tr (List.map vi a0) a0.length), (6, vi (a0.length : Int)), (7, vi x7)], []⟩ (.exit 0) ⟨mkA [], []⟩) := by
  intro fuel
  induction fuel with
  | zero => intro x7 r h; rw [nfigure_areHeights_l0_0.eq_1] at h; cases h
  | succ fuel ih =>
    intro x7 r h
    rw [nfigure_areHeights_l0_0.eq_2] at h
    by_cases h152 : x7 < (a0.length : Int)
    · rw [if_pos h152] at h
      by_cases h153 : 0 ≤ x7 ∧ x7 < (a0.length : Int)
      · rw [if_pos h153] at h
        cases h155 : nfigure_isWithin k (a0.getD x7.toNat 0) (-100000) 100000 with
        | none => rw [h155] at h; cases h
        | some r154 =>
          rw [h155, Option.bind_some] at h
          by_cases h156 : r154 = true
          · rw [if_pos h156] at h
            have h2 := ih _ _ h
            have hv : vRound Go.Proofs.Try.prog Go.Proofs.Try.f62 0 ⟨mkA [(5, VV.tr (List.map vi a0) a0.length), (6, vi (a0.length : Int)), (7, vi x7)], []⟩ [.reg [.n], .br true, .reg [.n, .v (vi (a0.getD x7.toNat 0)), .n], .reg [.n, .call (vb r154), .n], .br false, .reg [.n, .n]] ⟨[(5, none), (6, none), (7, none)], [], []⟩ = some (.normal, ⟨mkA [(5, VV.tr (List.map vi a0) a0.length), (6, vi (a0.length : Int)), (7, vi (w64 (x7 + 1)))], []⟩, (((True) ∧ True) ∧ ((((decide (x7 < (a0.length : Int))) = true) ∧ (True)) ∧ ((((0 ≤ x7 ∧ x7 < ((a0.length : Nat) : Int)) ∧ (loadL Go.Proofs.Try.prog 3 (x7.toNat * 1) (List.map vi a0) = some (vi (a0.getD x7.toNat 0))) ∧ (True) ∧ True) ∧ (((True) ∧ (VC Go.Proofs.Try.prog 61 [vi (a0.getD x7.toNat 0), vi (-100000), vi 100000] (vb r154)) ∧ (True) ∧ True) ∧ (((!r154) = false) ∧ (True)))) ∧ ((True) ∧ (True) ∧ True)))) ∧ (((True)) ∧ ((True)))) := by kernel_rfl
            have hq : (((True) ∧ True) ∧ ((((decide (x7 < (a0.length : Int))) = true) ∧ (True)) ∧ ((((0 ≤ x7 ∧ x7 < ((a0.length : Nat) : Int)) ∧ (loadL Go.Proofs.Try.prog 3 (x7.toNat * 1) (List.map vi a0) = some (vi (a0.getD x7.toNat 0))) ∧ (True) ∧ True) ∧ (((True) ∧ (VC Go.Proofs.Try.prog 61 [vi (a0.getD x7.toNat 0), vi (-100000), vi 100000] (vb r154)) ∧ (True) ∧ True) ∧ (((!r154) = false) ∧ (True)))) ∧ ((True) ∧ (True) ∧ True)))) ∧ (((True)) ∧ ((True))) := ⟨⟨⟨trivial, trivial⟩, ⟨⟨(decide_eq_true h152), trivial⟩, ⟨⟨⟨h153, ⟨ld_map ag3 vi a0 0 h153 (by omega), ⟨trivial, trivial⟩⟩⟩, ⟨⟨trivial, ⟨nfigure_isWithin_ok k (a0.getD x7.toNat 0) (-100000) 100000 _ h155, ⟨trivial, trivial⟩⟩⟩, ⟨(not_f h156), trivial⟩⟩⟩, ⟨trivial, ⟨trivial, trivial⟩⟩⟩⟩⟩, ⟨trivial, trivial⟩⟩
            cases r with
            | inl r => exact round_next pm pn hv hq h2
            | inr r =>
              exact round_next pm pn hv hq h2
          · rw [if_neg h156] at h
            injection h with h; subst h
            exact round_stop (c := ⟨[(2, none)], [], []⟩) (q := (((True) ∧ True) ∧ ((((decide (x7 < (a0.length : Int))) = true) ∧ (True)) ∧ (((0 ≤ x7 ∧ x7 < ((a0.length : Nat) : Int)) ∧ (loadL Go.Proofs.Try.prog 3 (x7.toNat * 1) (List.map vi a0) = some (vi (a0.getD x7.toNat 0))) ∧ (True) ∧ True) ∧ (((True) ∧ (VC Go.Proofs.Try.prog 61 [vi (a0.getD x7.toNat 0), vi (-100000), vi 100000] (vb r154)) ∧ (True) ∧ True) ∧ (((!r154) = true) ∧ (((True) ∧ True) ∧ (True))))))) ∧ (((True)) ∧ ((True)))) (s1 := ⟨mkA [(2, vb false)], []⟩) pm pn (ans := [.reg [.n], .br true, .reg [.n, .v (vi (a0.getD x7.toNat 0)), .n], .reg [.n, .call (vb r154), .n], .br true, .reg [.n]]) (by kernel_rfl) (by intro e; cases e) ⟨⟨⟨trivial, trivial⟩, ⟨⟨(decide_eq_true h152), trivial⟩, ⟨⟨h153, ⟨ld_map ag3 vi a0 0 h153 (by omega), ⟨trivial, trivial⟩⟩⟩, ⟨⟨trivial, ⟨nfigure_isWithin_ok k (a0.getD x7.toNat 0) (-100000) 100000 _ h155, ⟨trivial, trivial⟩⟩⟩, ⟨(not_t (bool_f h156)), ⟨⟨trivial, trivial⟩, trivial⟩⟩⟩⟩⟩⟩, ⟨trivial, trivial⟩⟩
      · rw [if_neg h153] at h; cases h
    · rw [if_neg h152] at h
      injection h with h; subst h
      exact round_stop (c := ⟨[], [], []⟩) (q := (((True) ∧ True) ∧ (((decide (x7 < (a0.length : Int))) = false) ∧ (True))) ∧ (((True)) ∧ ((True)))) (s1 := ⟨mkA [], []⟩) pm pn (ans := [.reg [.n], .br false]) (by kernel_rfl) (by intro e; cases e) ⟨⟨⟨trivial, trivial⟩, ⟨(decide_eq_false h152), trivial⟩⟩, ⟨trivial, trivial⟩⟩
def nfigure_areHeights (k : Nat) (a0 : (List Int)) : Option Bool :=
  (nfigure_areHeights_l0_0 k a0 k 0).bind fun r158 => (match r158 with | .inl r159 => (some false) | .inr r160 => (some true))
set_option maxRecDepth 100000 in
theorem nfigure_areHeights_ok (k : Nat) (a0 : (List Int)) (r : Bool) (h : nfigure_areHeights k a0 = some r) : VC Go.Proofs.Try.prog 62 [VV.tr (List.map vi a0) a0.length] (vb r) := by
  unfold nfigure_areHeights at h
  cases h157 : nfigure_areHeights_l0_0 k a0 k 0 with
  | none => rw [h157] at h; cases h
  | some r158 =>
    rw [h157, Option.bind_some] at h
    have hph157 := nfigure_areHeights_l0_0_ok k a0 _ _ _ h157
    cases r158 with
    | inl r159 =>
      dsimp only at h
      injection h with h; subst h
      exact fun_ok pm pn Go.Proofs.Try.func62 (q := ((((True) ∧ True) ∧ (((True) ∧ (True) ∧ (True) ∧ True) ∧ (((((True)) ∧ ((True))) ∧ VRun Go.Proofs.Try.prog (szF Go.Proofs.Try.f62) (.loop (bodyOf Go.Proofs.Try.f62 0)) ⟨mkA [(5, VV.tr (List.map vi a0) a0.length), (6, vi (a0.length : Int)), (7, vi 0)], []⟩ .ret ⟨mkA [(2, vb false)], []⟩)))) ∧ ((True) ∧ (True)))) (r0 := vb false) (ans := [.reg [.n], .reg [.n, .n, .n], .sub ⟨[(5, none), (6, none), (7, none)], [], []⟩ .ret ⟨mkA [(2, vb false)], []⟩]) (fr := true) (by kernel_rfl) ⟨⟨⟨trivial, trivial⟩, ⟨⟨trivial, ⟨trivial, ⟨trivial, trivial⟩⟩⟩, ⟨⟨trivial, trivial⟩, VRun.loop hph157⟩⟩⟩, ⟨trivial, trivial⟩⟩ (Wv.refl _)
    | inr r160 =>
      dsimp only at h
      injection h with h; subst h
      exact fun_ok pm pn Go.Proofs.Try.func62 (q := ((((True) ∧ True) ∧ ((((True) ∧ (True) ∧ (True) ∧ True) ∧ (((((True)) ∧ ((True))) ∧ VRun Go.Proofs.Try.prog (szF Go.Proofs.Try.f62) (.loop (bodyOf Go.Proofs.Try.f62 0)) ⟨mkA [(5, VV.tr (List.map vi a0) a0.length), (6, vi (a0.length : Int)), (7, vi 0)], []⟩ (.exit 0) ⟨mkA [], []⟩))) ∧ (((True) ∧ True) ∧ (True)))) ∧ ((True) ∧ (True)))) (r0 := vb true) (ans := [.reg [.n], .reg [.n, .n, .n], .sub ⟨[(5, none), (6, none), (7, none)], [], []⟩ (.exit 0) ⟨mkA [], []⟩, .reg [.n]]) (fr := true) (by kernel_rfl) ⟨⟨⟨trivial, trivial⟩, ⟨⟨⟨trivial, ⟨trivial, ⟨trivial, trivial⟩⟩⟩, ⟨⟨trivial, trivial⟩, VRun.loop hph157⟩⟩, ⟨⟨trivial, trivial⟩, trivial⟩⟩⟩, ⟨trivial, trivial⟩⟩ (Wv.refl _)
def nfigure_checkHeights (k : Nat) (a0 : (List Int)) : Option Int :=
  (nfigure_isWithin k (a0.length : Int) 1 40).bind fun r164 => (if r164 = true then ((nfigure_areHeights k a0).bind fun r167 => (if r167 = true then (some 0) else (some 2))) else (some 10))
set_option maxRecDepth 100000 in
theorem nfigure_checkHeights_ok (k : Nat) (a0 : (List Int)) (r : Int) (h : nfigure_checkHeights k a0 = some r) : VC Go.Proofs.Try.prog 65 [VV.tr (List.map vi a0) a0.length] (vi r) := by
  unfold nfigure_checkHeights at h
  cases h165 : nfigure_isWithin k (a0.length : Int) 1 40 with
  | none => rw [h165] at h; cases h
  | some r164 =>
    rw [h165, Option.bind_some] at h
    by_cases h166 : r164 = true
    · rw [if_pos h166] at h
      cases h168 : nfigure_areHeights k a0 with
      | none => rw [h168] at h; cases h
      | some r167 =>
        rw [h168, Option.bind_some] at h
        by_cases h169 : r167 = true
        · rw [if_pos h169] at h
          injection h with h; subst h
          exact fun_ok pm pn Go.Proofs.Try.func65 (q := ((((True) ∧ True) ∧ ((((True) ∧ (True) ∧ (VC Go.Proofs.Try.prog 61 [vi (a0.length : Int), vi 1, vi 40] (vb r164)) ∧ (True) ∧ True) ∧ (((!r164) = false) ∧ (True))) ∧ ((((True) ∧ (VC Go.Proofs.Try.prog 62 [VV.tr (List.map vi a0) a0.length] (vb r167)) ∧ (True) ∧ True) ∧ (((!r167) = false) ∧ (True))) ∧ (((True) ∧ True) ∧ (True))))) ∧ ((True) ∧ (True)))) (r0 := vi 0) (ans := [.reg [.n], .reg [.n, .n, .call (vb r164), .n], .br false, .reg [.n, .call (vb r167), .n], .br false, .reg [.n]]) (fr := true) (by kernel_rfl) ⟨⟨⟨trivial, trivial⟩, ⟨⟨⟨trivial, ⟨trivial, ⟨nfigure_isWithin_ok k (a0.length : Int) 1 40 _ h165, ⟨trivial, trivial⟩⟩⟩⟩, ⟨(not_f h166), trivial⟩⟩, ⟨⟨⟨trivial, ⟨nfigure_areHeights_ok k a0 _ h168, ⟨trivial, trivial⟩⟩⟩, ⟨(not_f h169), trivial⟩⟩, ⟨⟨trivial, trivial⟩, trivial⟩⟩⟩⟩, ⟨trivial, trivial⟩⟩ (Wv.refl _)
        · rw [if_neg h169] at h
          injection h with h; subst h
          exact fun_ok pm pn Go.Proofs.Try.func65 (q := ((((True) ∧ True) ∧ ((((True) ∧ (True) ∧ (VC Go.Proofs.Try.prog 61 [vi (a0.length : Int), vi 1, vi 40] (vb r164)) ∧ (True) ∧ True) ∧ (((!r164) = false) ∧ (True))) ∧ (((True) ∧ (VC Go.Proofs.Try.prog 62 [VV.tr (List.map vi a0) a0.length] (vb r167)) ∧ (True) ∧ True) ∧ (((!r167) = true) ∧ (((True) ∧ True) ∧ (True)))))) ∧ ((True) ∧ (True)))) (r0 := vi 2) (ans := [.reg [.n], .reg [.n, .n, .call (vb r164), .n], .br false, .reg [.n, .call (vb r167), .n], .br true, .reg [.n]]) (fr := true) (by kernel_rfl) ⟨⟨⟨trivial, trivial⟩, ⟨⟨⟨trivial, ⟨trivial, ⟨nfigure_isWithin_ok k (a0.length : Int) 1 40 _ h165, ⟨trivial, trivial⟩⟩⟩⟩, ⟨(not_f h166), trivial⟩⟩, ⟨⟨trivial, ⟨nfigure_areHeights_ok k a0 _ h168, ⟨trivial, trivial⟩⟩⟩, ⟨(not_t (bool_f h169)), ⟨⟨trivial, trivial⟩, trivial⟩⟩⟩⟩⟩, ⟨trivial, trivial⟩⟩ (Wv.refl _)
    · rw [if_neg h166] at h
      injection h with h; subst h
      exact fun_ok pm pn Go.Proofs.Try.func65 (q := ((((True) ∧ True) ∧ (((True) ∧ (True) ∧ (VC Go.Proofs.Try.prog 61 [vi (a0.length : Int), vi 1, vi 40] (vb r164)) ∧ (True) ∧ True) ∧ (((!r164) = true) ∧ (((True) ∧ True) ∧ (True))))) ∧ ((True) ∧ (True)))) (r0 := vi 10) (ans := [.reg [.n], .reg [.n, .n, .call (vb r164), .n], .br true, .reg [.n]]) (fr := true) (by kernel_rfl) ⟨⟨⟨trivial, trivial⟩, ⟨⟨trivial, ⟨trivial, ⟨nfigure_isWithin_ok k (a0.length : Int) 1 40 _ h165, ⟨trivial, trivial⟩⟩⟩⟩, ⟨(not_t (bool_f h166)), ⟨⟨trivial, trivial⟩, trivial⟩⟩⟩⟩, ⟨trivial, trivial⟩⟩ (Wv.refl _)
def nslices_Clone_int_int_ (k : Nat) (a0 : (List Int)) : Option (List Int) :=
  if 0 < a0.length then (if ([] : List Int).length + a0.length ≤ 1000000000 then (some (([] : List Int) ++ a0)) else none) else none
set_option maxRecDepth 100000 in
theorem nslices_Clone_int_int__ok (k : Nat) (a0 : (List Int)) (r : (List Int)) (h : nslices_Clone_int_int_ k a0 = some r) : VC Go.Proofs.Try.prog 66 [VV.tr (List.map vi a0) a0.length] (VV.fr (List.map vi r) r.length) := by
  unfold nslices_Clone_int_int_ at h
  by_cases h176 : 0 < a0.length
  · rw [if_pos h176] at h
    by_cases h177 : ([] : List Int).length + a0.length ≤ 1000000000
    · rw [if_pos h177] at h
      injection h with h; subst h
      exact fun_ok pm pn Go.Proofs.Try.func66 (q := ((((True) ∧ True) ∧ ((((True) ∧ (0 < a0.length) ∧ True) ∧ ((false = false) ∧ (True))) ∧ (((True) ∧ (True) ∧ (List.length [] = 0 * 1 ∧ List.length (List.map vi a0) = a0.length * 1 ∧ (0 + a0.length) * 8 ≤ 140737488355328 ∧ 0 + a0.length < 1099511627776 ∧ List.all (List.map vi a0) VV.still = true) ∧ (True) ∧ True) ∧ (True)))) ∧ ((List.all ([] ++ (List.map vi a0)) new0 = true) ∧ (True)))) (r0 := VV.fr (List.drop 0 (List.map unfr ([] ++ (List.map vi a0)))) (0 + a0.length)) (ans := [.reg [.n], .reg [.n, .n], .br false, .reg [.n, .n, .n, .n]]) (fr := true) (by kernel_rfl) ⟨⟨⟨trivial, trivial⟩, ⟨⟨⟨trivial, ⟨h176, trivial⟩⟩, ⟨rfl, trivial⟩⟩, ⟨⟨trivial, ⟨trivial, ⟨⟨(by rw [show [] = List.map vi ([] : List Int) from rfl]; simp), (by simp), by simp at h177 ⊢; omega, by simp at h177 ⊢; omega, (by exact still_vi _)⟩, ⟨trivial, trivial⟩⟩⟩⟩, trivial⟩⟩⟩, ⟨(by rw [show [] ++ (List.map vi a0) = List.map vi (([] : List Int) ++ a0) from (by rw [show [] = List.map vi ([] : List Int) from rfl]; exact List.map_append.symm)]; exact new0_vi _), trivial⟩⟩ (Wv.of_eq (by simp only [show [] ++ (List.map vi a0) = List.map vi (([] : List Int) ++ a0) from (by rw [show [] = List.map vi ([] : List Int) from rfl]; exact List.map_append.symm), drop0, unfr_vi, List.length_map, List.length_replicate, List.length_append, List.length_set, List.length_cons, List.length_nil, unfr_v_22, unfr_f_22]))
    · rw [if_neg h177] at h; cases h
  · rw [if_neg h176] at h; cases h
def nfigure_checkWear_l0_0 (k : Nat) (a1 : (List Int)) : Nat → Int → Option (Sum Unit Unit)
  | 0, _ => none
  | fuel + 1, x14 => if x14 < (a1.length : Int) then (if 0 ≤ x14 ∧ x14 < (a1.length : Int) then ((nfigure_isWithin k (a1.getD x14.toNat 0) 0 100000).bind fun r215 => (if r215 = true then (nfigure_checkWear_l0_0 k a1 fuel (w64 (x14 + 1))) else (some (.inl ())))) else none) else (some (.inr ()))
set_option maxRecDepth 100000 in
theorem nfigure_checkWear_l0_0_ok (k : Nat) (a1 : (List Int)) : ∀ (fuel : Nat) (x14 : Int) (r : Sum Unit Unit), nfigure_checkWear_l0_0 k a1 fuel x14 = some r → (match r with | .inl r => VLoop Go.Proofs.Try.prog (szF Go.Proofs.Try.f67) (bodyOf Go.Proofs.Try.f67 0) ⟨mkA [(12, VV.tr (List.map vi a1) a1.length), (13, vi (a1.length : Int)), (14, vi x14)], []⟩ .ret ⟨mkA [(4, vi 2)], []⟩ | .inr r => VLoop Go.Proofs.Try.prog (szF Go.Proofs.Try.f67) (bodyOf Go.Proofs.Try.f67 0) ⟨mkA [(12, VV.tr (List.map vi a1) a1.length), (13, vi (a1.length : Int)), (14, vi x14)], []⟩ (.exit 0) ⟨mkA [], []⟩) := by
  intro fuel
  induction fuel with
  | zero => intro x14 r h; rw [nfigure_checkWear_l0_0.eq_1] at h; cases h
  | succ fuel ih =>
    intro x14 r h
    rw [nfigure_checkWear_l0_0.eq_2] at h
    by_cases h213 : x14 < (a1.length : Int)
    · rw [if_pos h213] at h
      by_cases h214 : 0 ≤ x14 ∧ x14 < (a1.length : Int)
      · rw [if_pos h214] at h
        cases h216 : nfigure_isWithin k (a1.getD x14.toNat 0) 0 100000 with
        | none => rw [h216] at h; cases h
        | some r215 =>
          rw [h216, Option.bind_some] at h
          by_cases h217 : r215 = true
          · rw [if_pos h217] at h
            have h2 := ih _ _ h
            have hv : vRound Go.Proofs.Try.prog Go.Proofs.Try.f67 0 ⟨mkA [(12, VV.tr (List.map vi a1) a1.length), (13, vi (a1.length : Int)), (14, vi x14)], []⟩ [.reg [.n], .br true, .reg [.n, .v (vi (a1.getD x14.toNat 0)), .n], .reg [.n, .call (vb r215), .n], .br false, .reg [.n, .n]] ⟨[(12, none), (13, none), (14, none)], [], []⟩ = some (.normal, ⟨mkA [(12, VV.tr (List.map vi a1) a1.length), (13, vi (a1.length : Int)), (14, vi (w64 (x14 + 1)))], []⟩, (((True) ∧ True) ∧ ((((decide (x14 < (a1.length : Int))) = true) ∧ (True)) ∧ ((((0 ≤ x14 ∧ x14 < ((a1.length : Nat) : Int)) ∧ (loadL Go.Proofs.Try.prog 3 (x14.toNat * 1) (List.map vi a1) = some (vi (a1.getD x14.toNat 0))) ∧ (True) ∧ True) ∧ (((True) ∧ (VC Go.Proofs.Try.prog 61 [vi (a1.getD x14.toNat 0), vi 0, vi 100000] (vb r215)) ∧ (True) ∧ True) ∧ (((!r215) = false) ∧ (True)))) ∧ ((True) ∧ (True) ∧ True)))) ∧ (((True)) ∧ ((True)))) := by kernel_rfl
            have hq : (((True) ∧ True) ∧ ((((decide (x14 < (a1.length : Int))) = true) ∧ (True)) ∧ ((((0 ≤ x14 ∧ x14 < ((a1.length : Nat) : Int)) ∧ (loadL Go.Proofs.Try.prog 3 (x14.toNat * 1) (List.map vi a1) = some (vi (a1.getD x14.toNat 0))) ∧ (True) ∧ True) ∧ (((True) ∧ (VC Go.Proofs.Try.prog 61 [vi (a1.getD x14.toNat 0), vi 0, vi 100000] (vb r215)) ∧ (True) ∧ True) ∧ (((!r215) = false) ∧ (True)))) ∧ ((True) ∧ (True) ∧ True)))) ∧ (((True)) ∧ ((True))) := ⟨⟨⟨trivial, trivial⟩, ⟨⟨(decide_eq_true h213), trivial⟩, ⟨⟨⟨h214, ⟨ld_map ag3 vi a1 0 h214 (by omega), ⟨trivial, trivial⟩⟩⟩, ⟨⟨trivial, ⟨nfigure_isWithin_ok k (a1.getD x14.toNat 0) 0 100000 _ h216, ⟨trivial, trivial⟩⟩⟩, ⟨(not_f h217), trivial⟩⟩⟩, ⟨trivial, ⟨trivial, trivial⟩⟩⟩⟩⟩, ⟨trivial, trivial⟩⟩
            cases r with
            | inl r => exact round_next pm pn hv hq h2
            | inr r =>
              exact round_next pm pn hv hq h2
          · rw [if_neg h217] at h
            injection h with h; subst h
            exact round_stop (c := ⟨[(4, none)], [], []⟩) (q := (((True) ∧ True) ∧ ((((decide (x14 < (a1.length : Int))) = true) ∧ (True)) ∧ (((0 ≤ x14 ∧ x14 < ((a1.length : Nat) : Int)) ∧ (loadL Go.Proofs.Try.prog 3 (x14.toNat * 1) (List.map vi a1) = some (vi (a1.getD x14.toNat 0))) ∧ (True) ∧ True) ∧ (((True) ∧ (VC Go.Proofs.Try.prog 61 [vi (a1.getD x14.toNat 0), vi 0, vi 100000] (vb r215)) ∧ (True) ∧ True) ∧ (((!r215) = true) ∧ (((True) ∧ True) ∧ (True))))))) ∧ (((True)) ∧ ((True)))) (s1 := ⟨mkA [(4, vi 2)], []⟩) pm pn (ans := [.reg [.n], .br true, .reg [.n, .v (vi (a1.getD x14.toNat 0)), .n], .reg [.n, .call (vb r215), .n], .br true, .reg [.n]]) (by kernel_rfl) (by intro e; cases e) ⟨⟨⟨trivial, trivial⟩, ⟨⟨(decide_eq_true h213), trivial⟩, ⟨⟨h214, ⟨ld_map ag3 vi a1 0 h214 (by omega), ⟨trivial, trivial⟩⟩⟩, ⟨⟨trivial, ⟨nfigure_isWithin_ok k (a1.getD x14.toNat 0) 0 100000 _ h216, ⟨trivial, trivial⟩⟩⟩, ⟨(not_t (bool_f h217)), ⟨⟨trivial, trivial⟩, trivial⟩⟩⟩⟩⟩⟩, ⟨trivial, trivial⟩⟩
      · rw [if_neg h214] at h; cases h
    · rw [if_neg h213] at h
      injection h with h; subst h
      exact round_stop (c := ⟨[], [], []⟩) (q := (((True) ∧ True) ∧ (((decide (x14 < (a1.length : Int))) = false) ∧ (True))) ∧ (((True)) ∧ ((True)))) (s1 := ⟨mkA [], []⟩) pm pn (ans := [.reg [.n], .br false]) (by kernel_rfl) (by intro e; cases e) ⟨⟨⟨trivial, trivial⟩, ⟨(decide_eq_false h213), trivial⟩⟩, ⟨trivial, trivial⟩⟩
def nfigure_checkWear (k : Nat) (a0 : (List Int)) (a1 : (List Int)) : Option Int :=
  if (a1.length : Int) = (a0.length : Int) then ((nfigure_checkWear_l0_0 k a1 k 0).bind fun r219 => (match r219 with | .inl r220 => (some 2) | .inr r221 => (some 0))) else (some 10)
set_option maxRecDepth 100000 in
theorem nfigure_checkWear_ok (k : Nat) (a0 : (List Int)) (a1 : (List Int)) (r : Int) (h : nfigure_checkWear k a0 a1 = some r) : VC Go.Proofs.Try.prog 67 [VV.tr (List.map vi a0) a0.length, VV.tr (List.map vi a1) a1.length] (vi r) := by
  unfold nfigure_checkWear at h
  by_cases h202 : (a1.length : Int) = (a0.length : Int)
  · rw [if_pos h202] at h
    cases h218 : nfigure_checkWear_l0_0 k a1 k 0 with
    | none => rw [h218] at h; cases h
    | some r219 =>
      rw [h218, Option.bind_some] at h
      have hph218 := nfigure_checkWear_l0_0_ok k a1 _ _ _ h218
      cases r219 with
      | inl r220 =>
        dsimp only at h
        injection h with h; subst h
        exact fun_ok pm pn Go.Proofs.Try.func67 (q := ((((True) ∧ True) ∧ ((((True) ∧ (True) ∧ (True) ∧ (True) ∧ (True) ∧ True) ∧ (((!(decide ((a1.length : Int) = (a0.length : Int)))) = false) ∧ (True))) ∧ (((True) ∧ (True) ∧ (True) ∧ True) ∧ (((((True)) ∧ ((True))) ∧ VRun Go.Proofs.Try.prog (szF Go.Proofs.Try.f67) (.loop (bodyOf Go.Proofs.Try.f67 0)) ⟨mkA [(12, VV.tr (List.map vi a1) a1.length), (13, vi (a1.length : Int)), (14, vi 0)], []⟩ .ret ⟨mkA [(4, vi 2)], []⟩))))) ∧ ((True) ∧ (True)))) (r0 := vi 2) (ans := [.reg [.n], .reg [.n, .n, .n, .n, .n], .br false, .reg [.n, .n, .n], .sub ⟨[(12, none), (13, none), (14, none)], [], []⟩ .ret ⟨mkA [(4, vi 2)], []⟩]) (fr := true) (by kernel_rfl) ⟨⟨⟨trivial, trivial⟩, ⟨⟨⟨trivial, ⟨trivial, ⟨trivial, ⟨trivial, ⟨trivial, trivial⟩⟩⟩⟩⟩, ⟨(not_f (decide_eq_true h202)), trivial⟩⟩, ⟨⟨trivial, ⟨trivial, ⟨trivial, trivial⟩⟩⟩, ⟨⟨trivial, trivial⟩, VRun.loop hph218⟩⟩⟩⟩, ⟨trivial, trivial⟩⟩ (Wv.refl _)
      | inr r221 =>
        dsimp only at h
        injection h with h; subst h
        exact fun_ok pm pn Go.Proofs.Try.func67 (q := ((((True) ∧ True) ∧ ((((True) ∧ (True) ∧ (True) ∧ (True) ∧ (True) ∧ True) ∧ (((!(decide ((a1.length : Int) = (a0.length : Int)))) = false) ∧ (True))) ∧ ((((True) ∧ (True) ∧ (True) ∧ True) ∧ (((((True)) ∧ ((True))) ∧ VRun Go.Proofs.Try.prog (szF Go.Proofs.Try.f67) (.loop (bodyOf Go.Proofs.Try.f67 0)) ⟨mkA [(12, VV.tr (List.map vi a1) a1.length), (13, vi (a1.length : Int)), (14, vi 0)], []⟩ (.exit 0) ⟨mkA [], []⟩))) ∧ (((True) ∧ True) ∧ (True))))) ∧ ((True) ∧ (True)))) (r0 := vi 0) (ans := [.reg [.n], .reg [.n, .n, .n, .n, .n], .br false, .reg [.n, .n, .n], .sub ⟨[(12, none), (13, none), (14, none)], [], []⟩ (.exit 0) ⟨mkA [], []⟩, .reg [.n]]) (fr := true) (by kernel_rfl) ⟨⟨⟨trivial, trivial⟩, ⟨⟨⟨trivial, ⟨trivial, ⟨trivial, ⟨trivial, ⟨trivial, trivial⟩⟩⟩⟩⟩, ⟨(not_f (decide_eq_true h202)), trivial⟩⟩, ⟨⟨⟨trivial, ⟨trivial, ⟨trivial, trivial⟩⟩⟩, ⟨⟨trivial, trivial⟩, VRun.loop hph218⟩⟩, ⟨⟨trivial, trivial⟩, trivial⟩⟩⟩⟩, ⟨trivial, trivial⟩⟩ (Wv.refl _)
  · rw [if_neg h202] at h
    injection h with h; subst h
    exact fun_ok pm pn Go.Proofs.Try.func67 (q := ((((True) ∧ True) ∧ (((True) ∧ (True) ∧ (True) ∧ (True) ∧ (True) ∧ True) ∧ (((!(decide ((a1.length : Int) = (a0.length : Int)))) = true) ∧ (((True) ∧ True) ∧ (True))))) ∧ ((True) ∧ (True)))) (r0 := vi 10) (ans := [.reg [.n], .reg [.n, .n, .n, .n, .n], .br true, .reg [.n]]) (fr := true) (by kernel_rfl) ⟨⟨⟨trivial, trivial⟩, ⟨⟨trivial, ⟨trivial, ⟨trivial, ⟨trivial, ⟨trivial, trivial⟩⟩⟩⟩⟩, ⟨(not_t (decide_eq_false h202)), ⟨⟨trivial, trivial⟩, trivial⟩⟩⟩⟩, ⟨trivial, trivial⟩⟩ (Wv.refl _)
def nfigure_worn_l0_0 (k : Nat) (a0 : (List Int)) (a1 : (List Int)) : Nat → (List Int) → Int → Option ((List Int))
  | 0, _, _ => none
  | fuel + 1, y0, x13 => if x13 < (a0.length : Int) then (if 0 ≤ x13 ∧ x13 < (a0.length : Int) then (if 0 ≤ x13 ∧ x13 < (a1.length : Int) then (if 0 ≤ x13 ∧ x13 < (y0.length : Int) then (nfigure_worn_l0_0 k a0 a1 fuel (y0.set x13.toNat (w64 ((a0.getD x13.toNat 0) - (a1.getD x13.toNat 0)))) (w64 (x13 + 1))) else none) else none) else none) else (some y0)
set_option maxRecDepth 100000 in
theorem nfigure_worn_l0_0_ok (k : Nat) (a0 : (List Int)) (a1 : (List Int)) : ∀ (fuel : Nat) (y0 : List Int) (x13 : Int) (r : (List Int)), nfigure_worn_l0_0 k a0 a1 fuel y0 x13 = some r → (VLoop Go.Proofs.Try.prog (szF Go.Proofs.Try.f68) (bodyOf Go.Proofs.Try.f68 0) ⟨mkA [(1, VV.tr (List.map vi a1) a1.length), (5, VV.rf 0 0 y0.length), (11, VV.tr (List.map vi a0) a0.length), (12, vi (a0.length : Int)), (13, vi x13)], [some ⟨false, 1, List.map vi y0⟩]⟩ (.exit 0) ⟨mkA [(5, VV.rf 0 0 r.length)], [some ⟨false, 1, List.map vi r⟩]⟩) := by
  intro fuel
  induction fuel with
  | zero => intro y0 x13 r h; rw [nfigure_worn_l0_0.eq_1] at h; cases h
  | succ fuel ih =>
    intro y0 x13 r h
    rw [nfigure_worn_l0_0.eq_2] at h
    by_cases h249 : x13 < (a0.length : Int)
    · rw [if_pos h249] at h
      by_cases h250 : 0 ≤ x13 ∧ x13 < (a0.length : Int)
      · rw [if_pos h250] at h
        by_cases h251 : 0 ≤ x13 ∧ x13 < (a1.length : Int)
        · rw [if_pos h251] at h
          by_cases h252 : 0 ≤ x13 ∧ x13 < (y0.length : Int)
          · rw [if_pos h252] at h
            have h2 := ih _ _ _ h
            have hv : vRound Go.Proofs.Try.prog Go.Proofs.Try.f68 0 ⟨mkA [(1, VV.tr (List.map vi a1) a1.length), (5, VV.rf 0 0 y0.length), (11, VV.tr (List.map vi a0) a0.length), (12, vi (a0.length : Int)), (13, vi x13)], [some ⟨false, 1, List.map vi y0⟩]⟩ [.reg [.n], .br true, .reg [.n, .n, .v (vi (a0.getD x13.toNat 0)), .n, .n], .reg [.n, .n, .n, .n, .n, .n, .v (vi (a1.getD x13.toNat 0)), .n, .n, .n], .reg [.n, .n]] ⟨[(1, none), (5, some (VV.rf 0 0 ((y0.set x13.toNat (w64 ((a0.getD x13.toNat 0) - (a1.getD x13.toNat 0)))).length))), (11, none), (12, none), (13, none)], [some (List.map vi (y0.set x13.toNat (w64 ((a0.getD x13.toNat 0) - (a1.getD x13.toNat 0)))))], []⟩ = some (.normal, ⟨mkA [(1, VV.tr (List.map vi a1) a1.length), (5, VV.rf 0 0 ((y0.set x13.toNat (w64 ((a0.getD x13.toNat 0) - (a1.getD x13.toNat 0)))).length)), (11, VV.tr (List.map vi a0) a0.length), (12, vi (a0.length : Int)), (13, vi (w64 (x13 + 1)))], [some ⟨false, 1, List.map vi (y0.set x13.toNat (w64 ((a0.getD x13.toNat 0) - (a1.getD x13.toNat 0))))⟩]⟩, (((True) ∧ True) ∧ ((((decide (x13 < (a0.length : Int))) = true) ∧ (True)) ∧ ((((True) ∧ (0 ≤ x13 ∧ x13 < ((a0.length : Nat) : Int)) ∧ (loadL Go.Proofs.Try.prog 3 (x13.toNat * 1) (List.map vi a0) = some (vi (a0.getD x13.toNat 0))) ∧ (True) ∧ (True) ∧ True) ∧ ((True) ∧ (True) ∧ (True) ∧ (True) ∧ (True) ∧ (0 ≤ x13 ∧ x13 < ((a1.length : Nat) : Int)) ∧ (loadL Go.Proofs.Try.prog 3 (x13.toNat * 1) (List.map vi a1) = some (vi (a1.getD x13.toNat 0))) ∧ (True) ∧ (0 ≤ x13 ∧ x13 < ((y0.length : Nat) : Int)) ∧ ((0 + x13.toNat * 1) + 1 ≤ List.length (List.map vi y0)) ∧ True)) ∧ ((True) ∧ (True) ∧ True)))) ∧ (((Wv (VV.rf 0 0 y0.length) (VV.rf 0 0 ((y0.set x13.toNat (w64 ((a0.getD x13.toNat 0) - (a1.getD x13.toNat 0)))).length))) ∧ (True)) ∧ ((putT (0 + x13.toNat * 1) (List.map vi y0) [vi (w64 ((a0.getD x13.toNat 0) - (a1.getD x13.toNat 0)))] = List.map vi (y0.set x13.toNat (w64 ((a0.getD x13.toNat 0) - (a1.getD x13.toNat 0))))) ∧ (True)))) := by kernel_rfl
            have hq : (((True) ∧ True) ∧ ((((decide (x13 < (a0.length : Int))) = true) ∧ (True)) ∧ ((((True) ∧ (0 ≤ x13 ∧ x13 < ((a0.length : Nat) : Int)) ∧ (loadL Go.Proofs.Try.prog 3 (x13.toNat * 1) (List.map vi a0) = some (vi (a0.getD x13.toNat 0))) ∧ (True) ∧ (True) ∧ True) ∧ ((True) ∧ (True) ∧ (True) ∧ (True) ∧ (True) ∧ (0 ≤ x13 ∧ x13 < ((a1.length : Nat) : Int)) ∧ (loadL Go.Proofs.Try.prog 3 (x13.toNat * 1) (List.map vi a1) = some (vi (a1.getD x13.toNat 0))) ∧ (True) ∧ (0 ≤ x13 ∧ x13 < ((y0.length : Nat) : Int)) ∧ ((0 + x13.toNat * 1) + 1 ≤ List.length (List.map vi y0)) ∧ True)) ∧ ((True) ∧ (True) ∧ True)))) ∧ (((Wv (VV.rf 0 0 y0.length) (VV.rf 0 0 ((y0.set x13.toNat (w64 ((a0.getD x13.toNat 0) - (a1.getD x13.toNat 0)))).length))) ∧ (True)) ∧ ((putT (0 + x13.toNat * 1) (List.map vi y0) [vi (w64 ((a0.getD x13.toNat 0) - (a1.getD x13.toNat 0)))] = List.map vi (y0.set x13.toNat (w64 ((a0.getD x13.toNat 0) - (a1.getD x13.toNat 0))))) ∧ (True))) := ⟨⟨⟨trivial, trivial⟩, ⟨⟨(decide_eq_true h249), trivial⟩, ⟨⟨⟨trivial, ⟨h250, ⟨ld_map ag3 vi a0 0 h250 (by omega), ⟨trivial, ⟨trivial, trivial⟩⟩⟩⟩⟩, ⟨trivial, ⟨trivial, ⟨trivial, ⟨trivial, ⟨trivial, ⟨h251, ⟨ld_map ag3 vi a1 0 h251 (by omega), ⟨trivial, ⟨h252, ⟨(by simp only [List.length_map]; omega), trivial⟩⟩⟩⟩⟩⟩⟩⟩⟩⟩⟩, ⟨trivial, ⟨trivial, trivial⟩⟩⟩⟩⟩, ⟨⟨(Wv.of_eq (by simp)), trivial⟩, ⟨(by exact putT_vi y0 h252 (w64 ((a0.getD x13.toNat 0) - (a1.getD x13.toNat 0))) (by omega)), trivial⟩⟩⟩
            exact round_next pm pn hv hq h2
          · rw [if_neg h252] at h; cases h
        · rw [if_neg h251] at h; cases h
      · rw [if_neg h250] at h; cases h
    · rw [if_neg h249] at h
      injection h with h; subst h
      exact round_stop (c := ⟨[(5, none)], [none], []⟩) (q := (((True) ∧ True) ∧ (((decide (x13 < (a0.length : Int))) = false) ∧ (True))) ∧ (((True)) ∧ ((True)))) (s1 := ⟨mkA [(5, VV.rf 0 0 y0.length)], [some ⟨false, 1, List.map vi y0⟩]⟩) pm pn (ans := [.reg [.n], .br false]) (by kernel_rfl) (by intro e; cases e) ⟨⟨⟨trivial, trivial⟩, ⟨(decide_eq_false h249), trivial⟩⟩, ⟨trivial, trivial⟩⟩
def nfigure_worn (k : Nat) (a0 : (List Int)) (a1 : (List Int)) : Option (List Int) :=
  if 0 ≤ (a0.length : Int) ∧ (a0.length : Int) ≤ 1000000000 then ((nfigure_worn_l0_0 k a0 a1 k (List.replicate (a0.length : Int).toNat (0 : Int)) 0).bind fun r254 => (some r254)) else none
set_option maxRecDepth 100000 in
theorem nfigure_worn_ok (k : Nat) (a0 : (List Int)) (a1 : (List Int)) (r : (List Int)) (h : nfigure_worn k a0 a1 = some r) : VC Go.Proofs.Try.prog 68 [VV.tr (List.map vi a0) a0.length, VV.tr (List.map vi a1) a1.length] (VV.fr (List.map vi r) r.length) := by
  unfold nfigure_worn at h
  by_cases h240 : 0 ≤ (a0.length : Int) ∧ (a0.length : Int) ≤ 1000000000
  · rw [if_pos h240] at h
    cases h253 : nfigure_worn_l0_0 k a0 a1 k (List.replicate (a0.length : Int).toNat (0 : Int)) 0 with
    | none => rw [h253] at h; cases h
    | some r254 =>
      rw [h253, Option.bind_some] at h
      have hph253 := nfigure_worn_l0_0_ok k a0 a1 _ _ _ _ h253
      injection h with h; subst h
      exact fun_ok pm pn Go.Proofs.Try.func68 (q := ((((True) ∧ True) ∧ (((True) ∧ (True) ∧ (0 ≤ (a0.length : Int) ∧ (a0.length : Int) = (a0.length : Int) ∧ (8 * (a0.length : Int).toNat) ≤ 281474976710656 ∧ (a0.length : Int) < 1099511627776) ∧ (True) ∧ True) ∧ ((((True) ∧ (True) ∧ (True) ∧ True) ∧ (((((Wv (VV.rf 0 0 ((a0.length : Int).toNat)) (VV.rf 0 0 ((List.replicate (a0.length : Int).toNat (0 : Int)).length))) ∧ (True)) ∧ ((List.replicate (a0.length : Int).toNat (VV.c (.int .i64 0)) = List.map vi (List.replicate (a0.length : Int).toNat (0 : Int))) ∧ (True))) ∧ VRun Go.Proofs.Try.prog (szF Go.Proofs.Try.f68) (.loop (bodyOf Go.Proofs.Try.f68 0)) ⟨mkA [(1, VV.tr (List.map vi a1) a1.length), (5, VV.rf 0 0 ((List.replicate (a0.length : Int).toNat (0 : Int)).length)), (11, VV.tr (List.map vi a0) a0.length), (12, vi (a0.length : Int)), (13, vi 0)], [some ⟨false, 1, List.map vi (List.replicate (a0.length : Int).toNat (0 : Int))⟩]⟩ (.exit 0) ⟨mkA [(5, VV.rf 0 0 r254.length)], [some ⟨false, 1, List.map vi r254⟩]⟩))) ∧ (((True) ∧ (True) ∧ True) ∧ (True))))) ∧ ((List.all (List.map vi r254) new0 = true) ∧ (True)))) (r0 := VV.fr (List.drop 0 (List.map unfr (List.map vi r254))) r254.length) (ans := [.reg [.n], .reg [.n, .n, .n, .n], .reg [.n, .n, .n], .sub ⟨[(1, none), (5, some (VV.rf 0 0 ((List.replicate (a0.length : Int).toNat (0 : Int)).length))), (11, none), (12, none), (13, none)], [some (List.map vi (List.replicate (a0.length : Int).toNat (0 : Int)))], []⟩ (.exit 0) ⟨mkA [(5, VV.rf 0 0 r254.length)], [some ⟨false, 1, List.map vi r254⟩]⟩, .reg [.n, .n]]) (fr := true) (by kernel_rfl) ⟨⟨⟨trivial, trivial⟩, ⟨⟨trivial, ⟨trivial, ⟨⟨by omega, rfl, by omega, by omega⟩, ⟨trivial, trivial⟩⟩⟩⟩, ⟨⟨⟨trivial, ⟨trivial, ⟨trivial, trivial⟩⟩⟩, ⟨⟨⟨(Wv.of_eq (by simp)), trivial⟩, ⟨replicate_vi _, trivial⟩⟩, VRun.loop hph253⟩⟩, ⟨⟨trivial, ⟨trivial, trivial⟩⟩, trivial⟩⟩⟩⟩, ⟨(by exact new0_vi _), trivial⟩⟩ (Wv.of_eq (by simp only [drop0, unfr_vi, List.length_map, List.length_replicate, List.length_append, List.length_set, List.length_cons, List.length_nil, unfr_v_22, unfr_f_22]))
  · rw [if_neg h240] at h; cases h
def nfigure_Remaining_l0_0 (k : Nat) (a0 : (List Int)) (a1 : (List (List Int))) : Nat → Int → (List Int) → Option (Sum Int (List Int))
  | 0, _, _ => none
  | fuel + 1, x23, x7 => if x23 < (a1.length : Int) then (if 0 ≤ x23 ∧ x23 < (a1.length : Int) then ((nfigure_checkWear k a0 (a1.getD x23.toNat default)).bind fun r297 => (if r297 = 0 then ((nfigure_worn k x7 (a1.getD x23.toNat default)).bind fun r300 => (nfigure_Remaining_l0_0 k a0 a1 fuel (w64 (x23 + 1)) r300)) else (some (.inl r297)))) else none) else (some (.inr x7))
set_option maxRecDepth 100000 in
theorem nfigure_Remaining_l0_0_ok (k : Nat) (a0 : (List Int)) (a1 : (List (List Int))) : ∀ (fuel : Nat) (x23 : Int) (x7 : (List Int)) (r : Sum Int (List Int)), nfigure_Remaining_l0_0 k a0 a1 fuel x23 x7 = some r → (match r with | .inl r => VLoop Go.Proofs.Try.prog (szF Go.Proofs.Try.f21) (bodyOf Go.Proofs.Try.f21 0) ⟨mkA [(0, VV.tr (List.map vi a0) a0.length), (7, VV.tr (List.map vi x7) x7.length), (21, VV.tr (List.map v_22 a1) a1.length), (22, vi (a1.length : Int)), (23, vi x23)], []⟩ .ret ⟨mkA [(4, VV.c (.slice none 0 0)), (5, vi r)], []⟩ | .inr r => VLoop Go.Proofs.Try.prog (szF Go.Proofs.Try.f21) (bodyOf Go.Proofs.Try.f21 0) ⟨mkA [(0, VV.tr (List.map vi a0) a0.length), (7, VV.tr (List.map vi x7) x7.length), (21, VV.tr (List.map v_22 a1) a1.length), (22, vi (a1.length : Int)), (23, vi x23)], []⟩ (.exit 0) ⟨mkA [(7, VV.tr (List.map vi r) r.length)], []⟩) := by
  intro fuel
  induction fuel with
  | zero => intro x23 x7 r h; rw [nfigure_Remaining_l0_0.eq_1] at h; cases h
  | succ fuel ih =>
    intro x23 x7 r h
    rw [nfigure_Remaining_l0_0.eq_2] at h
    by_cases h295 : x23 < (a1.length : Int)
    · rw [if_pos h295] at h
      by_cases h296 : 0 ≤ x23 ∧ x23 < (a1.length : Int)
      · rw [if_pos h296] at h
        cases h298 : nfigure_checkWear k a0 (a1.getD x23.toNat default) with
        | none => rw [h298] at h; cases h
        | some r297 =>
          rw [h298, Option.bind_some] at h
          by_cases h299 : r297 = 0
          · rw [if_pos h299] at h
            cases h301 : nfigure_worn k x7 (a1.getD x23.toNat default) with
            | none => rw [h301] at h; cases h
            | some r300 =>
              rw [h301, Option.bind_some] at h
              have h2 := ih _ _ _ h
              have hv : vRound Go.Proofs.Try.prog Go.Proofs.Try.f21 0 ⟨mkA [(0, VV.tr (List.map vi a0) a0.length), (7, VV.tr (List.map vi x7) x7.length), (21, VV.tr (List.map v_22 a1) a1.length), (22, vi (a1.length : Int)), (23, vi x23)], []⟩ [.reg [.n], .br true, .reg [.n, .v (VV.tr (List.map vi (a1.getD x23.toNat default)) ((a1.getD x23.toNat default).length)), .n], .reg [.n, .n, .call (vi r297), .n], .reg [.n, .n], .br false, .reg [.n, .n, .call (VV.fr (List.map vi r300) r300.length), .n], .reg [.n, .n]] ⟨[(0, none), (7, some (VV.tr (List.map vi r300) r300.length)), (21, none), (22, none), (23, none)], [], []⟩ = some (.normal, ⟨mkA [(0, VV.tr (List.map vi a0) a0.length), (7, VV.tr (List.map vi r300) r300.length), (21, VV.tr (List.map v_22 a1) a1.length), (22, vi (a1.length : Int)), (23, vi (w64 (x23 + 1)))], []⟩, (((True) ∧ True) ∧ ((((decide (x23 < (a1.length : Int))) = true) ∧ (True)) ∧ ((((0 ≤ x23 ∧ x23 < ((a1.length : Nat) : Int)) ∧ (loadL Go.Proofs.Try.prog 22 (x23.toNat * 1) (List.map v_22 a1) = some (VV.tr (List.map vi (a1.getD x23.toNat default)) ((a1.getD x23.toNat default).length))) ∧ (True) ∧ True) ∧ ((((True) ∧ (True) ∧ (VC Go.Proofs.Try.prog 67 [VV.tr (List.map vi a0) a0.length, VV.tr (List.map vi (a1.getD x23.toNat default)) ((a1.getD x23.toNat default).length)] (vi r297)) ∧ (True) ∧ True) ∧ (((True) ∧ (True) ∧ True) ∧ (((!(decide (r297 = 0))) = false) ∧ (True)))) ∧ ((True) ∧ (True) ∧ (VC Go.Proofs.Try.prog 68 [VV.tr (List.map vi x7) x7.length, VV.tr (List.map vi (a1.getD x23.toNat default)) ((a1.getD x23.toNat default).length)] (VV.fr (List.map vi r300) r300.length)) ∧ (True) ∧ True))) ∧ ((True) ∧ (True) ∧ True)))) ∧ (((Wv (VV.fr (List.map vi r300) r300.length) (VV.tr (List.map vi r300) r300.length)) ∧ (True)) ∧ ((True)))) := by kernel_rfl
              have hq : (((True) ∧ True) ∧ ((((decide (x23 < (a1.length : Int))) = true) ∧ (True)) ∧ ((((0 ≤ x23 ∧ x23 < ((a1.length : Nat) : Int)) ∧ (loadL Go.Proofs.Try.prog 22 (x23.toNat * 1) (List.map v_22 a1) = some (VV.tr (List.map vi (a1.getD x23.toNat default)) ((a1.getD x23.toNat default).length))) ∧ (True) ∧ True) ∧ ((((True) ∧ (True) ∧ (VC Go.Proofs.Try.prog 67 [VV.tr (List.map vi a0) a0.length, VV.tr (List.map vi (a1.getD x23.toNat default)) ((a1.getD x23.toNat default).length)] (vi r297)) ∧ (True) ∧ True) ∧ (((True) ∧ (True) ∧ True) ∧ (((!(decide (r297 = 0))) = false) ∧ (True)))) ∧ ((True) ∧ (True) ∧ (VC Go.Proofs.Try.prog 68 [VV.tr (List.map vi x7) x7.length, VV.tr (List.map vi (a1.getD x23.toNat default)) ((a1.getD x23.toNat default).length)] (VV.fr (List.map vi r300) r300.length)) ∧ (True) ∧ True))) ∧ ((True) ∧ (True) ∧ True)))) ∧ (((Wv (VV.fr (List.map vi r300) r300.length) (VV.tr (List.map vi r300) r300.length)) ∧ (True)) ∧ ((True))) := ⟨⟨⟨trivial, trivial⟩, ⟨⟨(decide_eq_true h295), trivial⟩, ⟨⟨⟨h296, ⟨ld_map ag22 v_22 a1 default h296 (by omega), ⟨trivial, trivial⟩⟩⟩, ⟨⟨⟨trivial, ⟨trivial, ⟨nfigure_checkWear_ok k a0 (a1.getD x23.toNat default) _ h298, ⟨trivial, trivial⟩⟩⟩⟩, ⟨⟨trivial, ⟨trivial, trivial⟩⟩, ⟨(not_f (decide_eq_true h299)), trivial⟩⟩⟩, ⟨trivial, ⟨trivial, ⟨nfigure_worn_ok k x7 (a1.getD x23.toNat default) _ h301, ⟨trivial, trivial⟩⟩⟩⟩⟩⟩, ⟨trivial, ⟨trivial, trivial⟩⟩⟩⟩⟩, ⟨⟨(Wv.fr (rfl) (by simp)), trivial⟩, trivial⟩⟩
              cases r with
              | inl r => exact round_next pm pn hv hq h2
              | inr r =>
                exact round_next pm pn hv hq h2
          · rw [if_neg h299] at h
            injection h with h; subst h
            exact round_stop (c := ⟨[(4, none), (5, none)], [], []⟩) (q := (((True) ∧ True) ∧ ((((decide (x23 < (a1.length : Int))) = true) ∧ (True)) ∧ (((0 ≤ x23 ∧ x23 < ((a1.length : Nat) : Int)) ∧ (loadL Go.Proofs.Try.prog 22 (x23.toNat * 1) (List.map v_22 a1) = some (VV.tr (List.map vi (a1.getD x23.toNat default)) ((a1.getD x23.toNat default).length))) ∧ (True) ∧ True) ∧ (((True) ∧ (True) ∧ (VC Go.Proofs.Try.prog 67 [VV.tr (List.map vi a0) a0.length, VV.tr (List.map vi (a1.getD x23.toNat default)) ((a1.getD x23.toNat default).length)] (vi r297)) ∧ (True) ∧ True) ∧ (((True) ∧ (True) ∧ True) ∧ (((!(decide (r297 = 0))) = true) ∧ (((True) ∧ (True) ∧ (True) ∧ True) ∧ (True)))))))) ∧ (((True)) ∧ ((True)))) (s1 := ⟨mkA [(4, VV.c (.slice none 0 0)), (5, vi r297)], []⟩) pm pn (ans := [.reg [.n], .br true, .reg [.n, .v (VV.tr (List.map vi (a1.getD x23.toNat default)) ((a1.getD x23.toNat default).length)), .n], .reg [.n, .n, .call (vi r297), .n], .reg [.n, .n], .br true, .reg [.n, .n, .n]]) (by kernel_rfl) (by intro e; cases e) ⟨⟨⟨trivial, trivial⟩, ⟨⟨(decide_eq_true h295), trivial⟩, ⟨⟨h296, ⟨ld_map ag22 v_22 a1 default h296 (by omega), ⟨trivial, trivial⟩⟩⟩, ⟨⟨trivial, ⟨trivial, ⟨nfigure_checkWear_ok k a0 (a1.getD x23.toNat default) _ h298, ⟨trivial, trivial⟩⟩⟩⟩, ⟨⟨trivial, ⟨trivial, trivial⟩⟩, ⟨(not_t (decide_eq_false h299)), ⟨⟨trivial, ⟨trivial, ⟨trivial, trivial⟩⟩⟩, trivial⟩⟩⟩⟩⟩⟩⟩, ⟨trivial, trivial⟩⟩
      · rw [if_neg h296] at h; cases h
    · rw [if_neg h295] at h
      injection h with h; subst h
      exact round_stop (c := ⟨[(7, none)], [], []⟩) (q := (((True) ∧ True) ∧ (((decide (x23 < (a1.length : Int))) = false) ∧ (True))) ∧ (((True)) ∧ ((True)))) (s1 := ⟨mkA [(7, VV.tr (List.map vi x7) x7.length)], []⟩) pm pn (ans := [.reg [.n], .br false]) (by kernel_rfl) (by intro e; cases e) ⟨⟨⟨trivial, trivial⟩, ⟨(decide_eq_false h295), trivial⟩⟩, ⟨trivial, trivial⟩⟩
def nfigure_Remaining (k : Nat) (a0 : (List Int)) (a1 : (List (List Int))) : Option ((List Int) × Int) :=
  (nfigure_checkHeights k a0).bind fun r275 => (if r275 = 0 then (if 100 < (a1.length : Int) then (some ([], 8)) else ((nslices_Clone_int_int_ k a0).bind fun r279 => ((nfigure_Remaining_l0_0 k a0 a1 k 0 r279).bind fun r303 => (match r303 with | .inl r304 => (some ([], r304)) | .inr r305 => (some (r305, 0)))))) else (some ([], r275)))
set_option maxRecDepth 100000 in
theorem nfigure_Remaining_ok (k : Nat) (a0 : (List Int)) (a1 : (List (List Int))) (r : ((List Int) × Int)) (h : nfigure_Remaining k a0 a1 = some r) : VC Go.Proofs.Try.prog 21 [VV.tr (List.map vi a0) a0.length, VV.tr (List.map v_22 a1) a1.length] (VV.tu [VV.tr (List.map vi r.1) r.1.length, vi r.2]) := by
  unfold nfigure_Remaining at h
  cases h276 : nfigure_checkHeights k a0 with
  | none => rw [h276] at h; cases h
  | some r275 =>
    rw [h276, Option.bind_some] at h
    by_cases h277 : r275 = 0
    · rw [if_pos h277] at h
      by_cases h278 : 100 < (a1.length : Int)
      · rw [if_pos h278] at h
        injection h with h; subst h
        exact fun_ok pm pn Go.Proofs.Try.func21 (q := ((((True) ∧ (True) ∧ True) ∧ ((((True) ∧ (VC Go.Proofs.Try.prog 65 [VV.tr (List.map vi a0) a0.length] (vi r275)) ∧ (True) ∧ True) ∧ (((True) ∧ (True) ∧ True) ∧ (((!(decide (r275 = 0))) = false) ∧ (True)))) ∧ (((True) ∧ (True) ∧ (True) ∧ True) ∧ (((decide (100 < (a1.length : Int))) = true) ∧ (((True) ∧ (True) ∧ True) ∧ (True)))))) ∧ ((True) ∧ ((True) ∧ (True))))) (r0 := VV.tu [VV.c (.slice none 0 0), vi 8]) (ans := [.reg [.n, .n], .reg [.n, .call (vi r275), .n], .reg [.n, .n], .br false, .reg [.n, .n, .n], .br true, .reg [.n, .n]]) (fr := false) (by kernel_rfl) ⟨⟨⟨trivial, ⟨trivial, trivial⟩⟩, ⟨⟨⟨trivial, ⟨nfigure_checkHeights_ok k a0 _ h276, ⟨trivial, trivial⟩⟩⟩, ⟨⟨trivial, ⟨trivial, trivial⟩⟩, ⟨(not_f (decide_eq_true h277)), trivial⟩⟩⟩, ⟨⟨trivial, ⟨trivial, ⟨trivial, trivial⟩⟩⟩, ⟨(decide_eq_true h278), ⟨⟨trivial, ⟨trivial, trivial⟩⟩, trivial⟩⟩⟩⟩⟩, ⟨trivial, ⟨trivial, trivial⟩⟩⟩ (Wv.tuL (.cons (Wv.nil (k := 0)) (.cons (Wv.refl _) .nil)))
      · rw [if_neg h278] at h
        cases h280 : nslices_Clone_int_int_ k a0 with
        | none => rw [h280] at h; cases h
        | some r279 =>
          rw [h280, Option.bind_some] at h
          cases h302 : nfigure_Remaining_l0_0 k a0 a1 k 0 r279 with
          | none => rw [h302] at h; cases h
          | some r303 =>
            rw [h302, Option.bind_some] at h
            have hph302 := nfigure_Remaining_l0_0_ok k a0 a1 _ _ _ _ h302
            cases r303 with
            | inl r304 =>
              dsimp only at h
              injection h with h; subst h
              exact fun_ok pm pn Go.Proofs.Try.func21 (q := ((((True) ∧ (True) ∧ True) ∧ ((((True) ∧ (VC Go.Proofs.Try.prog 65 [VV.tr (List.map vi a0) a0.length] (vi r275)) ∧ (True) ∧ True) ∧ (((True) ∧ (True) ∧ True) ∧ (((!(decide (r275 = 0))) = false) ∧ (True)))) ∧ ((((True) ∧ (True) ∧ (True) ∧ True) ∧ (((decide (100 < (a1.length : Int))) = false) ∧ (True))) ∧ (((True) ∧ (VC Go.Proofs.Try.prog 66 [VV.tr (List.map vi a0) a0.length] (VV.fr (List.map vi r279) r279.length)) ∧ (True) ∧ True) ∧ (((True) ∧ (True) ∧ (True) ∧ True) ∧ (((((Wv (VV.fr (List.map vi r279) r279.length) (VV.tr (List.map vi r279) r279.length)) ∧ (True)) ∧ ((True))) ∧ VRun Go.Proofs.Try.prog (szF Go.Proofs.Try.f21) (.loop (bodyOf Go.Proofs.Try.f21 0)) ⟨mkA [(0, VV.tr (List.map vi a0) a0.length), (7, VV.tr (List.map vi r279) r279.length), (21, VV.tr (List.map v_22 a1) a1.length), (22, vi (a1.length : Int)), (23, vi 0)], []⟩ .ret ⟨mkA [(4, VV.c (.slice none 0 0)), (5, vi r304)], []⟩))))))) ∧ ((True) ∧ ((True) ∧ (True))))) (r0 := VV.tu [VV.c (.slice none 0 0), vi r304]) (ans := [.reg [.n, .n], .reg [.n, .call (vi r275), .n], .reg [.n, .n], .br false, .reg [.n, .n, .n], .br false, .reg [.n, .call (VV.fr (List.map vi r279) r279.length), .n], .reg [.n, .n, .n], .sub ⟨[(0, none), (7, some (VV.tr (List.map vi r279) r279.length)), (21, none), (22, none), (23, none)], [], []⟩ .ret ⟨mkA [(4, VV.c (.slice none 0 0)), (5, vi r304)], []⟩]) (fr := false) (by kernel_rfl) ⟨⟨⟨trivial, ⟨trivial, trivial⟩⟩, ⟨⟨⟨trivial, ⟨nfigure_checkHeights_ok k a0 _ h276, ⟨trivial, trivial⟩⟩⟩, ⟨⟨trivial, ⟨trivial, trivial⟩⟩, ⟨(not_f (decide_eq_true h277)), trivial⟩⟩⟩, ⟨⟨⟨trivial, ⟨trivial, ⟨trivial, trivial⟩⟩⟩, ⟨(decide_eq_false h278), trivial⟩⟩, ⟨⟨trivial, ⟨nslices_Clone_int_int__ok k a0 _ h280, ⟨trivial, trivial⟩⟩⟩, ⟨⟨trivial, ⟨trivial, ⟨trivial, trivial⟩⟩⟩, ⟨⟨⟨(Wv.fr (rfl) (by simp)), trivial⟩, trivial⟩, VRun.loop hph302⟩⟩⟩⟩⟩⟩, ⟨trivial, ⟨trivial, trivial⟩⟩⟩ (Wv.tuL (.cons (Wv.nil (k := 0)) (.cons (Wv.refl _) .nil)))
            | inr r305 =>
              dsimp only at h
              injection h with h; subst h
              exact fun_ok pm pn Go.Proofs.Try.func21 (q := ((((True) ∧ (True) ∧ True) ∧ ((((True) ∧ (VC Go.Proofs.Try.prog 65 [VV.tr (List.map vi a0) a0.length] (vi r275)) ∧ (True) ∧ True) ∧ (((True) ∧ (True) ∧ True) ∧ (((!(decide (r275 = 0))) = false) ∧ (True)))) ∧ ((((True) ∧ (True) ∧ (True) ∧ True) ∧ (((decide (100 < (a1.length : Int))) = false) ∧ (True))) ∧ (((True) ∧ (VC Go.Proofs.Try.prog 66 [VV.tr (List.map vi a0) a0.length] (VV.fr (List.map vi r279) r279.length)) ∧ (True) ∧ True) ∧ ((((True) ∧ (True) ∧ (True) ∧ True) ∧ (((((Wv (VV.fr (List.map vi r279) r279.length) (VV.tr (List.map vi r279) r279.length)) ∧ (True)) ∧ ((True))) ∧ VRun Go.Proofs.Try.prog (szF Go.Proofs.Try.f21) (.loop (bodyOf Go.Proofs.Try.f21 0)) ⟨mkA [(0, VV.tr (List.map vi a0) a0.length), (7, VV.tr (List.map vi r279) r279.length), (21, VV.tr (List.map v_22 a1) a1.length), (22, vi (a1.length : Int)), (23, vi 0)], []⟩ (.exit 0) ⟨mkA [(7, VV.tr (List.map vi r305) r305.length)], []⟩))) ∧ (((True) ∧ (True) ∧ (True) ∧ True) ∧ (True))))))) ∧ ((True) ∧ ((True) ∧ (True))))) (r0 := VV.tu [VV.tr (List.map vi r305) r305.length, vi 0]) (ans := [.reg [.n, .n], .reg [.n, .call (vi r275), .n], .reg [.n, .n], .br false, .reg [.n, .n, .n], .br false, .reg [.n, .call (VV.fr (List.map vi r279) r279.length), .n], .reg [.n, .n, .n], .sub ⟨[(0, none), (7, some (VV.tr (List.map vi r279) r279.length)), (21, none), (22, none), (23, none)], [], []⟩ (.exit 0) ⟨mkA [(7, VV.tr (List.map vi r305) r305.length)], []⟩, .reg [.n, .n, .n]]) (fr := false) (by kernel_rfl) ⟨⟨⟨trivial, ⟨trivial, trivial⟩⟩, ⟨⟨⟨trivial, ⟨nfigure_checkHeights_ok k a0 _ h276, ⟨trivial, trivial⟩⟩⟩, ⟨⟨trivial, ⟨trivial, trivial⟩⟩, ⟨(not_f (decide_eq_true h277)), trivial⟩⟩⟩, ⟨⟨⟨trivial, ⟨trivial, ⟨trivial, trivial⟩⟩⟩, ⟨(decide_eq_false h278), trivial⟩⟩, ⟨⟨trivial, ⟨nslices_Clone_int_int__ok k a0 _ h280, ⟨trivial, trivial⟩⟩⟩, ⟨⟨⟨trivial, ⟨trivial, ⟨trivial, trivial⟩⟩⟩, ⟨⟨⟨(Wv.fr (rfl) (by simp)), trivial⟩, trivial⟩, VRun.loop hph302⟩⟩, ⟨⟨trivial, ⟨trivial, ⟨trivial, trivial⟩⟩⟩, trivial⟩⟩⟩⟩⟩⟩, ⟨trivial, ⟨trivial, trivial⟩⟩⟩ (Wv.refl _)
    · rw [if_neg h277] at h
      injection h with h; subst h
      exact fun_ok pm pn Go.Proofs.Try.func21 (q := ((((True) ∧ (True) ∧ True) ∧ (((True) ∧ (VC Go.Proofs.Try.prog 65 [VV.tr (List.map vi a0) a0.length] (vi r275)) ∧ (True) ∧ True) ∧ (((True) ∧ (True) ∧ True) ∧ (((!(decide (r275 = 0))) = true) ∧ (((True) ∧ (True) ∧ (True) ∧ True) ∧ (True)))))) ∧ ((True) ∧ ((True) ∧ (True))))) (r0 := VV.tu [VV.c (.slice none 0 0), vi r275]) (ans := [.reg [.n, .n], .reg [.n, .call (vi r275), .n], .reg [.n, .n], .br true, .reg [.n, .n, .n]]) (fr := false) (by kernel_rfl) ⟨⟨⟨trivial, ⟨trivial, trivial⟩⟩, ⟨⟨trivial, ⟨nfigure_checkHeights_ok k a0 _ h276, ⟨trivial, trivial⟩⟩⟩, ⟨⟨trivial, ⟨trivial, trivial⟩⟩, ⟨(not_t (decide_eq_false h277)), ⟨⟨trivial, ⟨trivial, ⟨trivial, trivial⟩⟩⟩, trivial⟩⟩⟩⟩⟩, ⟨trivial, ⟨trivial, trivial⟩⟩⟩ (Wv.tuL (.cons (Wv.nil (k := 0)) (.cons (Wv.refl _) .nil)))
def nspeculumbase_Within (k : Nat) (a0 : Int) (a1 : Int) (a2 : Int) : Option Bool :=
  if a1 ≤ a0 then (some (decide (a0 ≤ a2))) else (some false)
set_option maxRecDepth 100000 in
theorem nspeculumbase_Within_ok (k : Nat) (a0 : Int) (a1 : Int) (a2 : Int) (r : Bool) (h : nspeculumbase_Within k a0 a1 a2 = some r) : VC Go.Proofs.Try.prog 42 [vi a0, vi a1, vi a2] (vb r) := by
  unfold nspeculumbase_Within at h
  by_cases h309 : a1 ≤ a0
  · rw [if_pos h309] at h
    injection h with h; subst h
    exact fun_ok pm pn Go.Proofs.Try.func42 (q := ((((True) ∧ True) ∧ (((True) ∧ (True) ∧ (True) ∧ (True) ∧ (((decide (a1 ≤ a0)) = true ∧ True)) ∧ (((decide (a1 ≤ a0)) = true ∧ True)) ∧ (((decide (a1 ≤ a0)) = true ∧ True)) ∧ ((decide (a1 ≤ a0)) = true) ∧ (True) ∧ True) ∧ (True))) ∧ ((True) ∧ (True)))) (r0 := vb (decide (a0 ≤ a2))) (ans := [.reg [.n], .reg [.n, .n, .n, .n, .n, .n, .n, .b true, .n]]) (fr := true) (by kernel_rfl) ⟨⟨⟨trivial, trivial⟩, ⟨⟨trivial, ⟨trivial, ⟨trivial, ⟨trivial, ⟨⟨(decide_eq_true h309), trivial⟩, ⟨⟨(decide_eq_true h309), trivial⟩, ⟨⟨(decide_eq_true h309), trivial⟩, ⟨(decide_eq_true h309), ⟨trivial, trivial⟩⟩⟩⟩⟩⟩⟩⟩⟩, trivial⟩⟩, ⟨trivial, trivial⟩⟩ (Wv.refl _)
  · rw [if_neg h309] at h
    injection h with h; subst h
    exact fun_ok pm pn Go.Proofs.Try.func42 (q := ((((True) ∧ True) ∧ (((True) ∧ (True) ∧ (True) ∧ (True) ∧ ((decide (a1 ≤ a0)) = !true) ∧ ((decide (a1 ≤ a0)) = !true) ∧ ((decide (a1 ≤ a0)) = !true) ∧ ((decide (a1 ≤ a0)) = false) ∧ (True) ∧ True) ∧ (True))) ∧ ((True) ∧ (True)))) (r0 := vb false) (ans := [.reg [.n], .reg [.n, .n, .n, .n, .skip, .skip, .skip, .b false, .n]]) (fr := true) (by kernel_rfl) ⟨⟨⟨trivial, trivial⟩, ⟨⟨trivial, ⟨trivial, ⟨trivial, ⟨trivial, ⟨(decide_eq_false h309), ⟨(decide_eq_false h309), ⟨(decide_eq_false h309), ⟨(decide_eq_false h309), ⟨trivial, trivial⟩⟩⟩⟩⟩⟩⟩⟩⟩, trivial⟩⟩, ⟨trivial, trivial⟩⟩ (Wv.refl _)
def nspeculumref06_isHeight (k : Nat) (a0 : Int) : Option Bool :=
  (nspeculumbase_Within k a0 (-100000) 100000).bind fun r317 => (some r317)
set_option maxRecDepth 100000 in
theorem nspeculumref06_isHeight_ok (k : Nat) (a0 : Int) (r : Bool) (h : nspeculumref06_isHeight k a0 = some r) : VC Go.Proofs.Try.prog 60 [vi a0] (vb r) := by
  unfold nspeculumref06_isHeight at h
  cases h318 : nspeculumbase_Within k a0 (-100000) 100000 with
  | none => rw [h318] at h; cases h
  | some r317 =>
    rw [h318, Option.bind_some] at h
    injection h with h; subst h
    exact fun_ok pm pn Go.Proofs.Try.func60 (q := ((((True) ∧ True) ∧ (((True) ∧ (VC Go.Proofs.Try.prog 42 [vi a0, vi (-100000), vi 100000] (vb r317)) ∧ (True) ∧ True) ∧ (True))) ∧ ((True) ∧ (True)))) (r0 := vb r317) (ans := [.reg [.n], .reg [.n, .call (vb r317), .n]]) (fr := true) (by kernel_rfl) ⟨⟨⟨trivial, trivial⟩, ⟨⟨trivial, ⟨nspeculumbase_Within_ok k a0 (-100000) 100000 _ h318, ⟨trivial, trivial⟩⟩⟩, trivial⟩⟩, ⟨trivial, trivial⟩⟩ (Wv.refl _)
def nspeculumref06_HeightsErr_l0_0 (k : Nat) (a0 : (List Int)) : Nat → Int → Option (Sum Unit Unit)
  | 0, _ => none
  | fuel + 1, x3 => if x3 < (a0.length : Int) then (if 0 ≤ x3 ∧ x3 < (a0.length : Int) then ((nspeculumref06_isHeight k (a0.getD x3.toNat 0)).bind fun r351 => (if r351 = true then (nspeculumref06_HeightsErr_l0_0 k a0 fuel (w64 (x3 + 1))) else (some (.inl ())))) else none) else (some (.inr ()))
set_option maxRecDepth 100000 in
theorem nspeculumref06_HeightsErr_l0_0_ok (k : Nat) (a0 : (List Int)) : ∀ (fuel : Nat) (x3 : Int) (r : Sum Unit Unit), nspeculumref06_HeightsErr_l0_0 k a0 fuel x3 = some r → (match r with | .inl r => VLoop Go.Proofs.Try.prog (szF Go.Proofs.Try.f33) (bodyOf Go.Proofs.Try.f33 0) ⟨mkA [(0, VV.tr (List.map vi a0) a0.length), (3, vi x3)], []⟩ .ret ⟨mkA [(2, vi 2)], []⟩ | .inr r => VLoop Go.Proofs.Try.prog (szF Go.Proofs.Try.f33) (bodyOf Go.Proofs.Try.f33 0) ⟨mkA [(0, VV.tr (List.map vi a0) a0.length), (3, vi x3)], []⟩ (.exit 0) ⟨mkA [], []⟩) := by
  intro fuel
  induction fuel with
  | zero => intro x3 r h; rw [nspeculumref06_HeightsErr_l0_0.eq_1] at h; cases h
  | succ fuel ih =>
    intro x3 r h
    rw [nspeculumref06_HeightsErr_l0_0.eq_2] at h
    by_cases h349 : x3 < (a0.length : Int)
    · rw [if_pos h349] at h
      by_cases h350 : 0 ≤ x3 ∧ x3 < (a0.length : Int)
      · rw [if_pos h350] at h
        cases h352 : nspeculumref06_isHeight k (a0.getD x3.toNat 0) with
        | none => rw [h352] at h; cases h
        | some r351 =>
          rw [h352, Option.bind_some] at h
          by_cases h353 : r351 = true
          · rw [if_pos h353] at h
            have h2 := ih _ _ h
            have hv : vRound Go.Proofs.Try.prog Go.Proofs.Try.f33 0 ⟨mkA [(0, VV.tr (List.map vi a0) a0.length), (3, vi x3)], []⟩ [.reg [.n, .n, .n, .n], .br true, .reg [.n, .n, .n, .v (vi (a0.getD x3.toNat 0)), .call (vb r351), .n], .br false, .reg [.n, .n, .n]] ⟨[(0, none), (3, none)], [], []⟩ = some (.normal, ⟨mkA [(0, VV.tr (List.map vi a0) a0.length), (3, vi (w64 (x3 + 1)))], []⟩, ((((True) ∧ (True) ∧ (True) ∧ (True) ∧ True) ∧ (((decide (x3 < (a0.length : Int))) = true) ∧ (True))) ∧ ((((True) ∧ (True) ∧ (0 ≤ x3 ∧ x3 < ((a0.length : Nat) : Int)) ∧ (loadL Go.Proofs.Try.prog 3 (x3.toNat * 1) (List.map vi a0) = some (vi (a0.getD x3.toNat 0))) ∧ (VC Go.Proofs.Try.prog 60 [vi (a0.getD x3.toNat 0)] (vb r351)) ∧ (True) ∧ True) ∧ (((!r351) = false) ∧ (True))) ∧ ((True) ∧ (True) ∧ (True) ∧ True))) ∧ (((True)) ∧ ((True)))) := by kernel_rfl
            have hq : ((((True) ∧ (True) ∧ (True) ∧ (True) ∧ True) ∧ (((decide (x3 < (a0.length : Int))) = true) ∧ (True))) ∧ ((((True) ∧ (True) ∧ (0 ≤ x3 ∧ x3 < ((a0.length : Nat) : Int)) ∧ (loadL Go.Proofs.Try.prog 3 (x3.toNat * 1) (List.map vi a0) = some (vi (a0.getD x3.toNat 0))) ∧ (VC Go.Proofs.Try.prog 60 [vi (a0.getD x3.toNat 0)] (vb r351)) ∧ (True) ∧ True) ∧ (((!r351) = false) ∧ (True))) ∧ ((True) ∧ (True) ∧ (True) ∧ True))) ∧ (((True)) ∧ ((True))) := ⟨⟨⟨⟨trivial, ⟨trivial, ⟨trivial, ⟨trivial, trivial⟩⟩⟩⟩, ⟨(decide_eq_true h349), trivial⟩⟩, ⟨⟨⟨trivial, ⟨trivial, ⟨h350, ⟨ld_map ag3 vi a0 0 h350 (by omega), ⟨nspeculumref06_isHeight_ok k (a0.getD x3.toNat 0) _ h352, ⟨trivial, trivial⟩⟩⟩⟩⟩⟩, ⟨(not_f h353), trivial⟩⟩, ⟨trivial, ⟨trivial, ⟨trivial, trivial⟩⟩⟩⟩⟩, ⟨trivial, trivial⟩⟩
            cases r with
            | inl r => exact round_next pm pn hv hq h2
            | inr r =>
              exact round_next pm pn hv hq h2
          · rw [if_neg h353] at h
            injection h with h; subst h
            exact round_stop (c := ⟨[(2, none)], [], []⟩) (q := ((((True) ∧ (True) ∧ (True) ∧ (True) ∧ True) ∧ (((decide (x3 < (a0.length : Int))) = true) ∧ (True))) ∧ (((True) ∧ (True) ∧ (0 ≤ x3 ∧ x3 < ((a0.length : Nat) : Int)) ∧ (loadL Go.Proofs.Try.prog 3 (x3.toNat * 1) (List.map vi a0) = some (vi (a0.getD x3.toNat 0))) ∧ (VC Go.Proofs.Try.prog 60 [vi (a0.getD x3.toNat 0)] (vb r351)) ∧ (True) ∧ True) ∧ (((!r351) = true) ∧ (((True) ∧ True) ∧ (True))))) ∧ (((True)) ∧ ((True)))) (s1 := ⟨mkA [(2, vi 2)], []⟩) pm pn (ans := [.reg [.n, .n, .n, .n], .br true, .reg [.n, .n, .n, .v (vi (a0.getD x3.toNat 0)), .call (vb r351), .n], .br true, .reg [.n]]) (by kernel_rfl) (by intro e; cases e) ⟨⟨⟨⟨trivial, ⟨trivial, ⟨trivial, ⟨trivial, trivial⟩⟩⟩⟩, ⟨(decide_eq_true h349), trivial⟩⟩, ⟨⟨trivial, ⟨trivial, ⟨h350, ⟨ld_map ag3 vi a0 0 h350 (by omega), ⟨nspeculumref06_isHeight_ok k (a0.getD x3.toNat 0) _ h352, ⟨trivial, trivial⟩⟩⟩⟩⟩⟩, ⟨(not_t (bool_f h353)), ⟨⟨trivial, trivial⟩, trivial⟩⟩⟩⟩, ⟨trivial, trivial⟩⟩
      · rw [if_neg h350] at h; cases h
    · rw [if_neg h349] at h
      injection h with h; subst h
      exact round_stop (c := ⟨[], [], []⟩) (q := (((True) ∧ (True) ∧ (True) ∧ (True) ∧ True) ∧ (((decide (x3 < (a0.length : Int))) = false) ∧ (True))) ∧ (((True)) ∧ ((True)))) (s1 := ⟨mkA [], []⟩) pm pn (ans := [.reg [.n, .n, .n, .n], .br false]) (by kernel_rfl) (by intro e; cases e) ⟨⟨⟨trivial, ⟨trivial, ⟨trivial, ⟨trivial, trivial⟩⟩⟩⟩, ⟨(decide_eq_false h349), trivial⟩⟩, ⟨trivial, trivial⟩⟩
def nspeculumref06_HeightsErr (k : Nat) (a0 : (List Int)) : Option Int :=
  (nspeculumbase_Within k (a0.length : Int) 1 40).bind fun r336 => (if r336 = true then ((nspeculumref06_HeightsErr_l0_0 k a0 k 0).bind fun r355 => (match r355 with | .inl r356 => (some 2) | .inr r357 => (some 0))) else (some 10))
set_option maxRecDepth 100000 in
theorem nspeculumref06_HeightsErr_ok (k : Nat) (a0 : (List Int)) (r : Int) (h : nspeculumref06_HeightsErr k a0 = some r) : VC Go.Proofs.Try.prog 33 [VV.tr (List.map vi a0) a0.length] (vi r) := by
  unfold nspeculumref06_HeightsErr at h
  cases h337 : nspeculumbase_Within k (a0.length : Int) 1 40 with
  | none => rw [h337] at h; cases h
  | some r336 =>
    rw [h337, Option.bind_some] at h
    by_cases h338 : r336 = true
    · rw [if_pos h338] at h
      cases h354 : nspeculumref06_HeightsErr_l0_0 k a0 k 0 with
      | none => rw [h354] at h; cases h
      | some r355 =>
        rw [h354, Option.bind_some] at h
        have hph354 := nspeculumref06_HeightsErr_l0_0_ok k a0 _ _ _ h354
        cases r355 with
        | inl r356 =>
          dsimp only at h
          injection h with h; subst h
          exact fun_ok pm pn Go.Proofs.Try.func33 (q := ((((True) ∧ True) ∧ ((((True) ∧ (True) ∧ (VC Go.Proofs.Try.prog 42 [vi (a0.length : Int), vi 1, vi 40] (vb r336)) ∧ (True) ∧ True) ∧ (((!r336) = false) ∧ (True))) ∧ (((True) ∧ True) ∧ (((((True)) ∧ ((True))) ∧ VRun Go.Proofs.Try.prog (szF Go.Proofs.Try.f33) (.loop (bodyOf Go.Proofs.Try.f33 0)) ⟨mkA [(0, VV.tr (List.map vi a0) a0.length), (3, vi 0)], []⟩ .ret ⟨mkA [(2, vi 2)], []⟩))))) ∧ ((True) ∧ (True)))) (r0 := vi 2) (ans := [.reg [.n], .reg [.n, .n, .call (vb r336), .n], .br false, .reg [.n], .sub ⟨[(0, none), (3, none)], [], []⟩ .ret ⟨mkA [(2, vi 2)], []⟩]) (fr := true) (by kernel_rfl) ⟨⟨⟨trivial, trivial⟩, ⟨⟨⟨trivial, ⟨trivial, ⟨nspeculumbase_Within_ok k (a0.length : Int) 1 40 _ h337, ⟨trivial, trivial⟩⟩⟩⟩, ⟨(not_f h338), trivial⟩⟩, ⟨⟨trivial, trivial⟩, ⟨⟨trivial, trivial⟩, VRun.loop hph354⟩⟩⟩⟩, ⟨trivial, trivial⟩⟩ (Wv.refl _)
        | inr r357 =>
          dsimp only at h
          injection h with h; subst h
          exact fun_ok pm pn Go.Proofs.Try.func33 (q := ((((True) ∧ True) ∧ ((((True) ∧ (True) ∧ (VC Go.Proofs.Try.prog 42 [vi (a0.length : Int), vi 1, vi 40] (vb r336)) ∧ (True) ∧ True) ∧ (((!r336) = false) ∧ (True))) ∧ ((((True) ∧ True) ∧ (((((True)) ∧ ((True))) ∧ VRun Go.Proofs.Try.prog (szF Go.Proofs.Try.f33) (.loop (bodyOf Go.Proofs.Try.f33 0)) ⟨mkA [(0, VV.tr (List.map vi a0) a0.length), (3, vi 0)], []⟩ (.exit 0) ⟨mkA [], []⟩))) ∧ (((True) ∧ True) ∧ (True))))) ∧ ((True) ∧ (True)))) (r0 := vi 0) (ans := [.reg [.n], .reg [.n, .n, .call (vb r336), .n], .br false, .reg [.n], .sub ⟨[(0, none), (3, none)], [], []⟩ (.exit 0) ⟨mkA [], []⟩, .reg [.n]]) (fr := true) (by kernel_rfl) ⟨⟨⟨trivial, trivial⟩, ⟨⟨⟨trivial, ⟨trivial, ⟨nspeculumbase_Within_ok k (a0.length : Int) 1 40 _ h337, ⟨trivial, trivial⟩⟩⟩⟩, ⟨(not_f h338), trivial⟩⟩, ⟨⟨⟨trivial, trivial⟩, ⟨⟨trivial, trivial⟩, VRun.loop hph354⟩⟩, ⟨⟨trivial, trivial⟩, trivial⟩⟩⟩⟩, ⟨trivial, trivial⟩⟩ (Wv.refl _)
    · rw [if_neg h338] at h
      injection h with h; subst h
      exact fun_ok pm pn Go.Proofs.Try.func33 (q := ((((True) ∧ True) ∧ (((True) ∧ (True) ∧ (VC Go.Proofs.Try.prog 42 [vi (a0.length : Int), vi 1, vi 40] (vb r336)) ∧ (True) ∧ True) ∧ (((!r336) = true) ∧ (((True) ∧ True) ∧ (True))))) ∧ ((True) ∧ (True)))) (r0 := vi 10) (ans := [.reg [.n], .reg [.n, .n, .call (vb r336), .n], .br true, .reg [.n]]) (fr := true) (by kernel_rfl) ⟨⟨⟨trivial, trivial⟩, ⟨⟨trivial, ⟨trivial, ⟨nspeculumbase_Within_ok k (a0.length : Int) 1 40 _ h337, ⟨trivial, trivial⟩⟩⟩⟩, ⟨(not_t (bool_f h338)), ⟨⟨trivial, trivial⟩, trivial⟩⟩⟩⟩, ⟨trivial, trivial⟩⟩ (Wv.refl _)
def nspeculumref06_WearErr_l0_0 (k : Nat) (a0 : Int) (a1 : (List Int)) : Nat → Int → Option (Sum Unit Unit)
  | 0, _ => none
  | fuel + 1, x5 => if x5 < a0 then (if 0 ≤ x5 ∧ x5 < (a1.length : Int) then ((nspeculumbase_Within k (a1.getD x5.toNat 0) 0 100000).bind fun r399 => (if r399 = true then (nspeculumref06_WearErr_l0_0 k a0 a1 fuel (w64 (x5 + 1))) else (some (.inl ())))) else none) else (some (.inr ()))
set_option maxRecDepth 100000 in
theorem nspeculumref06_WearErr_l0_0_ok (k : Nat) (a0 : Int) (a1 : (List Int)) : ∀ (fuel : Nat) (x5 : Int) (r : Sum Unit Unit), nspeculumref06_WearErr_l0_0 k a0 a1 fuel x5 = some r → (match r with | .inl r => VLoop Go.Proofs.Try.prog (szF Go.Proofs.Try.f69) (bodyOf Go.Proofs.Try.f69 0) ⟨mkA [(0, vi a0), (1, VV.tr (List.map vi a1) a1.length), (5, vi x5)], []⟩ .ret ⟨mkA [(4, vi 2)], []⟩ | .inr r => VLoop Go.Proofs.Try.prog (szF Go.Proofs.Try.f69) (bodyOf Go.Proofs.Try.f69 0) ⟨mkA [(0, vi a0), (1, VV.tr (List.map vi a1) a1.length), (5, vi x5)], []⟩ (.exit 0) ⟨mkA [], []⟩) := by
  intro fuel
  induction fuel with
  | zero => intro x5 r h; rw [nspeculumref06_WearErr_l0_0.eq_1] at h; cases h
  | succ fuel ih =>
    intro x5 r h
    rw [nspeculumref06_WearErr_l0_0.eq_2] at h
    by_cases h397 : x5 < a0
    · rw [if_pos h397] at h
      by_cases h398 : 0 ≤ x5 ∧ x5 < (a1.length : Int)
      · rw [if_pos h398] at h
        cases h400 : nspeculumbase_Within k (a1.getD x5.toNat 0) 0 100000 with
        | none => rw [h400] at h; cases h
        | some r399 =>
          rw [h400, Option.bind_some] at h
          by_cases h401 : r399 = true
          · rw [if_pos h401] at h
            have h2 := ih _ _ h
            have hv : vRound Go.Proofs.Try.prog Go.Proofs.Try.f69 0 ⟨mkA [(0, vi a0), (1, VV.tr (List.map vi a1) a1.length), (5, vi x5)], []⟩ [.reg [.n, .n, .n], .br true, .reg [.n, .n, .n, .v (vi (a1.getD x5.toNat 0)), .call (vb r399), .n], .br false, .reg [.n, .n, .n]] ⟨[(0, none), (1, none), (5, none)], [], []⟩ = some (.normal, ⟨mkA [(0, vi a0), (1, VV.tr (List.map vi a1) a1.length), (5, vi (w64 (x5 + 1)))], []⟩, ((((True) ∧ (True) ∧ (True) ∧ True) ∧ (((decide (x5 < a0)) = true) ∧ (True))) ∧ ((((True) ∧ (True) ∧ (0 ≤ x5 ∧ x5 < ((a1.length : Nat) : Int)) ∧ (loadL Go.Proofs.Try.prog 3 (x5.toNat * 1) (List.map vi a1) = some (vi (a1.getD x5.toNat 0))) ∧ (VC Go.Proofs.Try.prog 42 [vi (a1.getD x5.toNat 0), vi 0, vi 100000] (vb r399)) ∧ (True) ∧ True) ∧ (((!r399) = false) ∧ (True))) ∧ ((True) ∧ (True) ∧ (True) ∧ True))) ∧ (((True)) ∧ ((True)))) := by kernel_rfl
            have hq : ((((True) ∧ (True) ∧ (True) ∧ True) ∧ (((decide (x5 < a0)) = true) ∧ (True))) ∧ ((((True) ∧ (True) ∧ (0 ≤ x5 ∧ x5 < ((a1.length : Nat) : Int)) ∧ (loadL Go.Proofs.Try.prog 3 (x5.toNat * 1) (List.map vi a1) = some (vi (a1.getD x5.toNat 0))) ∧ (VC Go.Proofs.Try.prog 42 [vi (a1.getD x5.toNat 0), vi 0, vi 100000] (vb r399)) ∧ (True) ∧ True) ∧ (((!r399) = false) ∧ (True))) ∧ ((True) ∧ (True) ∧ (True) ∧ True))) ∧ (((True)) ∧ ((True))) := ⟨⟨⟨⟨trivial, ⟨trivial, ⟨trivial, trivial⟩⟩⟩, ⟨(decide_eq_true h397), trivial⟩⟩, ⟨⟨⟨trivial, ⟨trivial, ⟨h398, ⟨ld_map ag3 vi a1 0 h398 (by omega), ⟨nspeculumbase_Within_ok k (a1.getD x5.toNat 0) 0 100000 _ h400, ⟨trivial, trivial⟩⟩⟩⟩⟩⟩, ⟨(not_f h401), trivial⟩⟩, ⟨trivial, ⟨trivial, ⟨trivial, trivial⟩⟩⟩⟩⟩, ⟨trivial, trivial⟩⟩
            cases r with
            | inl r => exact round_next pm pn hv hq h2
            | inr r =>
              exact round_next pm pn hv hq h2
          · rw [if_neg h401] at h
            injection h with h; subst h
            exact round_stop (c := ⟨[(4, none)], [], []⟩) (q := ((((True) ∧ (True) ∧ (True) ∧ True) ∧ (((decide (x5 < a0)) = true) ∧ (True))) ∧ (((True) ∧ (True) ∧ (0 ≤ x5 ∧ x5 < ((a1.length : Nat) : Int)) ∧ (loadL Go.Proofs.Try.prog 3 (x5.toNat * 1) (List.map vi a1) = some (vi (a1.getD x5.toNat 0))) ∧ (VC Go.Proofs.Try.prog 42 [vi (a1.getD x5.toNat 0), vi 0, vi 100000] (vb r399)) ∧ (True) ∧ True) ∧ (((!r399) = true) ∧ (((True) ∧ True) ∧ (True))))) ∧ (((True)) ∧ ((True)))) (s1 := ⟨mkA [(4, vi 2)], []⟩) pm pn (ans := [.reg [.n, .n, .n], .br true, .reg [.n, .n, .n, .v (vi (a1.getD x5.toNat 0)), .call (vb r399), .n], .br true, .reg [.n]]) (by kernel_rfl) (by intro e; cases e) ⟨⟨⟨⟨trivial, ⟨trivial, ⟨trivial, trivial⟩⟩⟩, ⟨(decide_eq_true h397), trivial⟩⟩, ⟨⟨trivial, ⟨trivial, ⟨h398, ⟨ld_map ag3 vi a1 0 h398 (by omega), ⟨nspeculumbase_Within_ok k (a1.getD x5.toNat 0) 0 100000 _ h400, ⟨trivial, trivial⟩⟩⟩⟩⟩⟩, ⟨(not_t (bool_f h401)), ⟨⟨trivial, trivial⟩, trivial⟩⟩⟩⟩, ⟨trivial, trivial⟩⟩
      · rw [if_neg h398] at h; cases h
    · rw [if_neg h397] at h
      injection h with h; subst h
      exact round_stop (c := ⟨[], [], []⟩) (q := (((True) ∧ (True) ∧ (True) ∧ True) ∧ (((decide (x5 < a0)) = false) ∧ (True))) ∧ (((True)) ∧ ((True)))) (s1 := ⟨mkA [], []⟩) pm pn (ans := [.reg [.n, .n, .n], .br false]) (by kernel_rfl) (by intro e; cases e) ⟨⟨⟨trivial, ⟨trivial, ⟨trivial, trivial⟩⟩⟩, ⟨(decide_eq_false h397), trivial⟩⟩, ⟨trivial, trivial⟩⟩
def nspeculumref06_WearErr (k : Nat) (a0 : Int) (a1 : (List Int)) : Option Int :=
  if (a1.length : Int) = a0 then ((nspeculumref06_WearErr_l0_0 k a0 a1 k 0).bind fun r403 => (match r403 with | .inl r404 => (some 2) | .inr r405 => (some 0))) else (some 10)
set_option maxRecDepth 100000 in
theorem nspeculumref06_WearErr_ok (k : Nat) (a0 : Int) (a1 : (List Int)) (r : Int) (h : nspeculumref06_WearErr k a0 a1 = some r) : VC Go.Proofs.Try.prog 69 [vi a0, VV.tr (List.map vi a1) a1.length] (vi r) := by
  unfold nspeculumref06_WearErr at h
  by_cases h386 : (a1.length : Int) = a0
  · rw [if_pos h386] at h
    cases h402 : nspeculumref06_WearErr_l0_0 k a0 a1 k 0 with
    | none => rw [h402] at h; cases h
    | some r403 =>
      rw [h402, Option.bind_some] at h
      have hph402 := nspeculumref06_WearErr_l0_0_ok k a0 a1 _ _ _ h402
      cases r403 with
      | inl r404 =>
        dsimp only at h
        injection h with h; subst h
        exact fun_ok pm pn Go.Proofs.Try.func69 (q := ((((True) ∧ True) ∧ ((((True) ∧ (True) ∧ (True) ∧ (True) ∧ True) ∧ (((!(decide ((a1.length : Int) = a0))) = false) ∧ (True))) ∧ (((True) ∧ True) ∧ (((((True)) ∧ ((True))) ∧ VRun Go.Proofs.Try.prog (szF Go.Proofs.Try.f69) (.loop (bodyOf Go.Proofs.Try.f69 0)) ⟨mkA [(0, vi a0), (1, VV.tr (List.map vi a1) a1.length), (5, vi 0)], []⟩ .ret ⟨mkA [(4, vi 2)], []⟩))))) ∧ ((True) ∧ (True)))) (r0 := vi 2) (ans := [.reg [.n], .reg [.n, .n, .n, .n], .br false, .reg [.n], .sub ⟨[(0, none), (1, none), (5, none)], [], []⟩ .ret ⟨mkA [(4, vi 2)], []⟩]) (fr := true) (by kernel_rfl) ⟨⟨⟨trivial, trivial⟩, ⟨⟨⟨trivial, ⟨trivial, ⟨trivial, ⟨trivial, trivial⟩⟩⟩⟩, ⟨(not_f (decide_eq_true h386)), trivial⟩⟩, ⟨⟨trivial, trivial⟩, ⟨⟨trivial, trivial⟩, VRun.loop hph402⟩⟩⟩⟩, ⟨trivial, trivial⟩⟩ (Wv.refl _)
      | inr r405 =>
        dsimp only at h
        injection h with h; subst h
        exact fun_ok pm pn Go.Proofs.Try.func69 (q := ((((True) ∧ True) ∧ ((((True) ∧ (True) ∧ (True) ∧ (True) ∧ True) ∧ (((!(decide ((a1.length : Int) = a0))) = false) ∧ (True))) ∧ ((((True) ∧ True) ∧ (((((True)) ∧ ((True))) ∧ VRun Go.Proofs.Try.prog (szF Go.Proofs.Try.f69) (.loop (bodyOf Go.Proofs.Try.f69 0)) ⟨mkA [(0, vi a0), (1, VV.tr (List.map vi a1) a1.length), (5, vi 0)], []⟩ (.exit 0) ⟨mkA [], []⟩))) ∧ (((True) ∧ True) ∧ (True))))) ∧ ((True) ∧ (True)))) (r0 := vi 0) (ans := [.reg [.n], .reg [.n, .n, .n, .n], .br false, .reg [.n], .sub ⟨[(0, none), (1, none), (5, none)], [], []⟩ (.exit 0) ⟨mkA [], []⟩, .reg [.n]]) (fr := true) (by kernel_rfl) ⟨⟨⟨trivial, trivial⟩, ⟨⟨⟨trivial, ⟨trivial, ⟨trivial, ⟨trivial, trivial⟩⟩⟩⟩, ⟨(not_f (decide_eq_true h386)), trivial⟩⟩, ⟨⟨⟨trivial, trivial⟩, ⟨⟨trivial, trivial⟩, VRun.loop hph402⟩⟩, ⟨⟨trivial, trivial⟩, trivial⟩⟩⟩⟩, ⟨trivial, trivial⟩⟩ (Wv.refl _)
  · rw [if_neg h386] at h
    injection h with h; subst h
    exact fun_ok pm pn Go.Proofs.Try.func69 (q := ((((True) ∧ True) ∧ (((True) ∧ (True) ∧ (True) ∧ (True) ∧ True) ∧ (((!(decide ((a1.length : Int) = a0))) = true) ∧ (((True) ∧ True) ∧ (True))))) ∧ ((True) ∧ (True)))) (r0 := vi 10) (ans := [.reg [.n], .reg [.n, .n, .n, .n], .br true, .reg [.n]]) (fr := true) (by kernel_rfl) ⟨⟨⟨trivial, trivial⟩, ⟨⟨trivial, ⟨trivial, ⟨trivial, ⟨trivial, trivial⟩⟩⟩⟩, ⟨(not_t (decide_eq_false h386)), ⟨⟨trivial, trivial⟩, trivial⟩⟩⟩⟩, ⟨trivial, trivial⟩⟩ (Wv.refl _)
def nspeculumref06_less_l0_0 (k : Nat) (a1 : (List Int)) (a2 : Int) : Nat → (List Int) → Int → Option ((List Int))
  | 0, _, _ => none
  | fuel + 1, y0, x8 => if x8 < ((y0.length : Nat) : Int) then (if 0 ≤ x8 ∧ x8 < (y0.length : Int) then (if 0 ≤ x8 ∧ x8 < (a1.length : Int) then (nspeculumref06_less_l0_0 k a1 a2 fuel (y0.set x8.toNat (w64 ((y0.getD x8.toNat 0) - (w64 (a2 * (a1.getD x8.toNat 0)))))) (w64 (x8 + 1))) else none) else none) else (some y0)
set_option maxRecDepth 100000 in
theorem nspeculumref06_less_l0_0_ok (k : Nat) (a1 : (List Int)) (a2 : Int) : ∀ (fuel : Nat) (y0 : List Int) (x8 : Int) (r : (List Int)), nspeculumref06_less_l0_0 k a1 a2 fuel y0 x8 = some r → (VLoop Go.Proofs.Try.prog (szF Go.Proofs.Try.f70) (bodyOf Go.Proofs.Try.f70 0) ⟨mkA [(1, VV.tr (List.map vi a1) a1.length), (2, vi a2), (7, VV.rf 0 0 y0.length), (8, vi x8)], [some ⟨false, 0, List.map vi y0⟩]⟩ (.exit 0) ⟨mkA [(7, VV.rf 0 0 r.length)], [some ⟨false, 0, List.map vi r⟩]⟩) := by
  intro fuel
  induction fuel with
  | zero => intro y0 x8 r h; rw [nspeculumref06_less_l0_0.eq_1] at h; cases h
  | succ fuel ih =>
    intro y0 x8 r h
    rw [nspeculumref06_less_l0_0.eq_2] at h
    by_cases h430 : x8 < ((y0.length : Nat) : Int)
    · rw [if_pos h430] at h
      by_cases h431 : 0 ≤ x8 ∧ x8 < (y0.length : Int)
      · rw [if_pos h431] at h
        by_cases h432 : 0 ≤ x8 ∧ x8 < (a1.length : Int)
        · rw [if_pos h432] at h
          have h2 := ih _ _ _ h
          have hv : vRound Go.Proofs.Try.prog Go.Proofs.Try.f70 0 ⟨mkA [(1, VV.tr (List.map vi a1) a1.length), (2, vi a2), (7, VV.rf 0 0 y0.length), (8, vi x8)], [some ⟨false, 0, List.map vi y0⟩]⟩ [.reg [.n, .n, .n, .n], .br true, .reg [.n, .n, .n, .n, .n, .v (vi (y0.getD x8.toNat 0)), .n, .n, .n, .n, .v (vi (a1.getD x8.toNat 0)), .n, .n, .n, .n], .reg [.n, .n, .n]] ⟨[(1, none), (2, none), (7, some (VV.rf 0 0 ((y0.set x8.toNat (w64 ((y0.getD x8.toNat 0) - (w64 (a2 * (a1.getD x8.toNat 0)))))).length))), (8, none)], [some (List.map vi (y0.set x8.toNat (w64 ((y0.getD x8.toNat 0) - (w64 (a2 * (a1.getD x8.toNat 0)))))))], []⟩ = some (.normal, ⟨mkA [(1, VV.tr (List.map vi a1) a1.length), (2, vi a2), (7, VV.rf 0 0 ((y0.set x8.toNat (w64 ((y0.getD x8.toNat 0) - (w64 (a2 * (a1.getD x8.toNat 0)))))).length)), (8, vi (w64 (x8 + 1)))], [some ⟨false, 0, List.map vi (y0.set x8.toNat (w64 ((y0.getD x8.toNat 0) - (w64 (a2 * (a1.getD x8.toNat 0))))))⟩]⟩, ((((True) ∧ (True) ∧ (True) ∧ (True) ∧ True) ∧ (((decide (x8 < ((y0.length : Nat) : Int))) = true) ∧ (True))) ∧ (((True) ∧ (True) ∧ (True) ∧ (True) ∧ (0 ≤ x8 ∧ x8 < ((y0.length : Nat) : Int)) ∧ (loadL Go.Proofs.Try.prog 3 (0 + x8.toNat * 1) (List.map vi y0) = some (vi (y0.getD x8.toNat 0))) ∧ (True) ∧ (True) ∧ (True) ∧ (0 ≤ x8 ∧ x8 < ((a1.length : Nat) : Int)) ∧ (loadL Go.Proofs.Try.prog 3 (x8.toNat * 1) (List.map vi a1) = some (vi (a1.getD x8.toNat 0))) ∧ (True) ∧ (True) ∧ (0 ≤ x8 ∧ x8 < ((y0.length : Nat) : Int)) ∧ ((0 + x8.toNat * 1) + 1 ≤ List.length (List.map vi y0)) ∧ True) ∧ ((True) ∧ (True) ∧ (True) ∧ True))) ∧ (((Wv (VV.rf 0 0 y0.length) (VV.rf 0 0 ((y0.set x8.toNat (w64 ((y0.getD x8.toNat 0) - (w64 (a2 * (a1.getD x8.toNat 0)))))).length))) ∧ (True)) ∧ ((putT (0 + x8.toNat * 1) (List.map vi y0) [vi (w64 ((y0.getD x8.toNat 0) - (w64 (a2 * (a1.getD x8.toNat 0)))))] = List.map vi (y0.set x8.toNat (w64 ((y0.getD x8.toNat 0) - (w64 (a2 * (a1.getD x8.toNat 0))))))) ∧ (True)))) := by kernel_rfl
          have hq : ((((True) ∧ (True) ∧ (True) ∧ (True) ∧ True) ∧ (((decide (x8 < ((y0.length : Nat) : Int))) = true) ∧ (True))) ∧ (((True) ∧ (True) ∧ (True) ∧ (True) ∧ (0 ≤ x8 ∧ x8 < ((y0.length : Nat) : Int)) ∧ (loadL Go.Proofs.Try.prog 3 (0 + x8.toNat * 1) (List.map vi y0) = some (vi (y0.getD x8.toNat 0))) ∧ (True) ∧ (True) ∧ (True) ∧ (0 ≤ x8 ∧ x8 < ((a1.length : Nat) : Int)) ∧ (loadL Go.Proofs.Try.prog 3 (x8.toNat * 1) (List.map vi a1) = some (vi (a1.getD x8.toNat 0))) ∧ (True) ∧ (True) ∧ (0 ≤ x8 ∧ x8 < ((y0.length : Nat) : Int)) ∧ ((0 + x8.toNat * 1) + 1 ≤ List.length (List.map vi y0)) ∧ True) ∧ ((True) ∧ (True) ∧ (True) ∧ True))) ∧ (((Wv (VV.rf 0 0 y0.length) (VV.rf 0 0 ((y0.set x8.toNat (w64 ((y0.getD x8.toNat 0) - (w64 (a2 * (a1.getD x8.toNat 0)))))).length))) ∧ (True)) ∧ ((putT (0 + x8.toNat * 1) (List.map vi y0) [vi (w64 ((y0.getD x8.toNat 0) - (w64 (a2 * (a1.getD x8.toNat 0)))))] = List.map vi (y0.set x8.toNat (w64 ((y0.getD x8.toNat 0) - (w64 (a2 * (a1.getD x8.toNat 0))))))) ∧ (True))) := ⟨⟨⟨⟨trivial, ⟨trivial, ⟨trivial, ⟨trivial, trivial⟩⟩⟩⟩, ⟨(decide_eq_true h430), trivial⟩⟩, ⟨⟨trivial, ⟨trivial, ⟨trivial, ⟨trivial, ⟨h431, ⟨ld_map ag3 vi y0 0 h431 (by omega), ⟨trivial, ⟨trivial, ⟨trivial, ⟨h432, ⟨ld_map ag3 vi a1 0 h432 (by omega), ⟨trivial, ⟨trivial, ⟨h431, ⟨(by simp only [List.length_map]; omega), trivial⟩⟩⟩⟩⟩⟩⟩⟩⟩⟩⟩⟩⟩⟩⟩, ⟨trivial, ⟨trivial, ⟨trivial, trivial⟩⟩⟩⟩⟩, ⟨⟨(Wv.of_eq (by simp)), trivial⟩, ⟨(by exact putT_vi y0 h431 (w64 ((y0.getD x8.toNat 0) - (w64 (a2 * (a1.getD x8.toNat 0))))) (by omega)), trivial⟩⟩⟩
          exact round_next pm pn hv hq h2
        · rw [if_neg h432] at h; cases h
      · rw [if_neg h431] at h; cases h
    · rw [if_neg h430] at h
      injection h with h; subst h
      exact round_stop (c := ⟨[(7, none)], [none], []⟩) (q := (((True) ∧ (True) ∧ (True) ∧ (True) ∧ True) ∧ (((decide (x8 < ((y0.length : Nat) : Int))) = false) ∧ (True))) ∧ (((True)) ∧ ((True)))) (s1 := ⟨mkA [(7, VV.rf 0 0 y0.length)], [some ⟨false, 0, List.map vi y0⟩]⟩) pm pn (ans := [.reg [.n, .n, .n, .n], .br false]) (by kernel_rfl) (by intro e; cases e) ⟨⟨⟨trivial, ⟨trivial, ⟨trivial, ⟨trivial, trivial⟩⟩⟩⟩, ⟨(decide_eq_false h430), trivial⟩⟩, ⟨trivial, trivial⟩⟩
def nspeculumref06_less (k : Nat) (a0 : (List Int)) (a1 : (List Int)) (a2 : Int) : Option (List Int) :=
  (nspeculumbase_CopyInts k a0).bind fun r422 => ((nspeculumref06_less_l0_0 k a1 a2 k r422 0).bind fun r434 => (some r434))
set_option maxRecDepth 100000 in
theorem nspeculumref06_less_ok (k : Nat) (a0 : (List Int)) (a1 : (List Int)) (a2 : Int) (r : (List Int)) (h : nspeculumref06_less k a0 a1 a2 = some r) : VC Go.Proofs.Try.prog 70 [VV.tr (List.map vi a0) a0.length, VV.tr (List.map vi a1) a1.length, vi a2] (VV.fr (List.map vi r) r.length) := by
  unfold nspeculumref06_less at h
  cases h423 : nspeculumbase_CopyInts k a0 with
  | none => rw [h423] at h; cases h
  | some r422 =>
    rw [h423, Option.bind_some] at h
    cases h433 : nspeculumref06_less_l0_0 k a1 a2 k r422 0 with
    | none => rw [h433] at h; cases h
    | some r434 =>
      rw [h433, Option.bind_some] at h
      have hph433 := nspeculumref06_less_l0_0_ok k a1 a2 _ _ _ _ h433
      injection h with h; subst h
      exact fun_ok pm pn Go.Proofs.Try.func70 (q := ((((True) ∧ True) ∧ (((True) ∧ (VC Go.Proofs.Try.prog 22 [VV.tr (List.map vi a0) a0.length] (VV.fr (List.map vi r422) r422.length) ∧ (List.map vi r422 = List.map vi r422 ∧ r422.length = r422.length) ∧ List.all (List.map vi r422) VV.isC = true ∧ (r422.length = 0 → List.map vi r422 = [])) ∧ (True) ∧ True) ∧ ((((True) ∧ True) ∧ (((((True)) ∧ ((True))) ∧ VRun Go.Proofs.Try.prog (szF Go.Proofs.Try.f70) (.loop (bodyOf Go.Proofs.Try.f70 0)) ⟨mkA [(1, VV.tr (List.map vi a1) a1.length), (2, vi a2), (7, VV.rf 0 0 r422.length), (8, vi 0)], [some ⟨false, 0, List.map vi r422⟩]⟩ (.exit 0) ⟨mkA [(7, VV.rf 0 0 r434.length)], [some ⟨false, 0, List.map vi r434⟩]⟩))) ∧ (((True) ∧ (True) ∧ True) ∧ (True))))) ∧ ((List.all (List.map vi r434) new0 = true) ∧ (True)))) (r0 := VV.fr (List.drop 0 (List.map unfr (List.map vi r434))) r434.length) (ans := [.reg [.n], .reg [.n, .own (List.map vi r422) r422.length none (VV.fr (List.map vi r422) r422.length), .n], .reg [.n], .sub ⟨[(1, none), (2, none), (7, none), (8, none)], [none], []⟩ (.exit 0) ⟨mkA [(7, VV.rf 0 0 r434.length)], [some ⟨false, 0, List.map vi r434⟩]⟩, .reg [.n, .n]]) (fr := true) (by kernel_rfl) ⟨⟨⟨trivial, trivial⟩, ⟨⟨trivial, ⟨⟨nspeculumbase_CopyInts_ok k a0 _ h423, ⟨rfl, rfl⟩, isC_vi _, fun h => by rw [List.length_eq_zero_iff.1 h]; rfl⟩, ⟨trivial, trivial⟩⟩⟩, ⟨⟨⟨trivial, trivial⟩, ⟨⟨trivial, trivial⟩, VRun.loop hph433⟩⟩, ⟨⟨trivial, ⟨trivial, trivial⟩⟩, trivial⟩⟩⟩⟩, ⟨(by exact new0_vi _), trivial⟩⟩ (Wv.of_eq (by simp only [drop0, unfr_vi, List.length_map, List.length_replicate, List.length_append, List.length_set, List.length_cons, List.length_nil, unfr_v_22, unfr_f_22]))
def nspeculumref06_Remaining_l0_0 (k : Nat) (a0 : (List Int)) (a1 : (List (List Int))) : Nat → (List Int) → Int → Option (Sum Int (List Int))
  | 0, _, _ => none
  | fuel + 1, x7, x8 => if x8 < (a1.length : Int) then (if 0 ≤ x8 ∧ x8 < (a1.length : Int) then ((nspeculumref06_WearErr k (a0.length : Int) (a1.getD x8.toNat default)).bind fun r477 => (if r477 = 0 then ((nspeculumref06_less k x7 (a1.getD x8.toNat default) 1).bind fun r480 => (nspeculumref06_Remaining_l0_0 k a0 a1 fuel r480 (w64 (x8 + 1)))) else (some (.inl r477)))) else none) else (some (.inr x7))
set_option maxRecDepth 100000 in
theorem nspeculumref06_Remaining_l0_0_ok (k : Nat) (a0 : (List Int)) (a1 : (List (List Int))) : ∀ (fuel : Nat) (x7 : (List Int)) (x8 : Int) (r : Sum Int (List Int)), nspeculumref06_Remaining_l0_0 k a0 a1 fuel x7 x8 = some r → (match r with | .inl r => VLoop Go.Proofs.Try.prog (szF Go.Proofs.Try.f24) (bodyOf Go.Proofs.Try.f24 0) ⟨mkA [(0, VV.tr (List.map vi a0) a0.length), (1, VV.tr (List.map v_22 a1) a1.length), (7, VV.tr (List.map vi x7) x7.length), (8, vi x8)], []⟩ .ret ⟨mkA [(4, VV.c (.slice none 0 0)), (5, vi r)], []⟩ | .inr r => VLoop Go.Proofs.Try.prog (szF Go.Proofs.Try.f24) (bodyOf Go.Proofs.Try.f24 0) ⟨mkA [(0, VV.tr (List.map vi a0) a0.length), (1, VV.tr (List.map v_22 a1) a1.length), (7, VV.tr (List.map vi x7) x7.length), (8, vi x8)], []⟩ (.exit 0) ⟨mkA [(7, VV.tr (List.map vi r) r.length)], []⟩) := by
  intro fuel
  induction fuel with
  | zero => intro x7 x8 r h; rw [nspeculumref06_Remaining_l0_0.eq_1] at h; cases h
  | succ fuel ih =>
    intro x7 x8 r h
    rw [nspeculumref06_Remaining_l0_0.eq_2] at h
    by_cases h475 : x8 < (a1.length : Int)
    · rw [if_pos h475] at h
      by_cases h476 : 0 ≤ x8 ∧ x8 < (a1.length : Int)
      · rw [if_pos h476] at h
        cases h478 : nspeculumref06_WearErr k (a0.length : Int) (a1.getD x8.toNat default) with
        | none => rw [h478] at h; cases h
        | some r477 =>
          rw [h478, Option.bind_some] at h
          by_cases h479 : r477 = 0
          · rw [if_pos h479] at h
            cases h481 : nspeculumref06_less k x7 (a1.getD x8.toNat default) 1 with
            | none => rw [h481] at h; cases h
            | some r480 =>
              rw [h481, Option.bind_some] at h
              have h2 := ih _ _ _ h
              have hv : vRound Go.Proofs.Try.prog Go.Proofs.Try.f24 0 ⟨mkA [(0, VV.tr (List.map vi a0) a0.length), (1, VV.tr (List.map v_22 a1) a1.length), (7, VV.tr (List.map vi x7) x7.length), (8, vi x8)], []⟩ [.reg [.n, .n, .n, .n], .br true, .reg [.n, .n, .n, .n, .n, .v (VV.tr (List.map vi (a1.getD x8.toNat default)) ((a1.getD x8.toNat default).length)), .call (vi r477), .n], .reg [.n, .n], .br false, .reg [.n, .n, .n, .n, .v (VV.tr (List.map vi (a1.getD x8.toNat default)) ((a1.getD x8.toNat default).length)), .call (VV.fr (List.map vi r480) r480.length), .n], .reg [.n, .n, .n]] ⟨[(0, none), (1, none), (7, some (VV.tr (List.map vi r480) r480.length)), (8, none)], [], []⟩ = some (.normal, ⟨mkA [(0, VV.tr (List.map vi a0) a0.length), (1, VV.tr (List.map v_22 a1) a1.length), (7, VV.tr (List.map vi r480) r480.length), (8, vi (w64 (x8 + 1)))], []⟩, ((((True) ∧ (True) ∧ (True) ∧ (True) ∧ True) ∧ (((decide (x8 < (a1.length : Int))) = true) ∧ (True))) ∧ (((((True) ∧ (True) ∧ (True) ∧ (True) ∧ (0 ≤ x8 ∧ x8 < ((a1.length : Nat) : Int)) ∧ (loadL Go.Proofs.Try.prog 22 (x8.toNat * 1) (List.map v_22 a1) = some (VV.tr (List.map vi (a1.getD x8.toNat default)) ((a1.getD x8.toNat default).length))) ∧ (VC Go.Proofs.Try.prog 69 [vi (a0.length : Int), VV.tr (List.map vi (a1.getD x8.toNat default)) ((a1.getD x8.toNat default).length)] (vi r477)) ∧ (True) ∧ True) ∧ (((True) ∧ (True) ∧ True) ∧ (((!(decide (r477 = 0))) = false) ∧ (True)))) ∧ ((True) ∧ (True) ∧ (True) ∧ (0 ≤ x8 ∧ x8 < ((a1.length : Nat) : Int)) ∧ (loadL Go.Proofs.Try.prog 22 (x8.toNat * 1) (List.map v_22 a1) = some (VV.tr (List.map vi (a1.getD x8.toNat default)) ((a1.getD x8.toNat default).length))) ∧ (VC Go.Proofs.Try.prog 70 [VV.tr (List.map vi x7) x7.length, VV.tr (List.map vi (a1.getD x8.toNat default)) ((a1.getD x8.toNat default).length), vi 1] (VV.fr (List.map vi r480) r480.length)) ∧ (True) ∧ True)) ∧ ((True) ∧ (True) ∧ (True) ∧ True))) ∧ (((Wv (VV.fr (List.map vi r480) r480.length) (VV.tr (List.map vi r480) r480.length)) ∧ (True)) ∧ ((True)))) := by kernel_rfl
              have hq : ((((True) ∧ (True) ∧ (True) ∧ (True) ∧ True) ∧ (((decide (x8 < (a1.length : Int))) = true) ∧ (True))) ∧ (((((True) ∧ (True) ∧ (True) ∧ (True) ∧ (0 ≤ x8 ∧ x8 < ((a1.length : Nat) : Int)) ∧ (loadL Go.Proofs.Try.prog 22 (x8.toNat * 1) (List.map v_22 a1) = some (VV.tr (List.map vi (a1.getD x8.toNat default)) ((a1.getD x8.toNat default).length))) ∧ (VC Go.Proofs.Try.prog 69 [vi (a0.length : Int), VV.tr (List.map vi (a1.getD x8.toNat default)) ((a1.getD x8.toNat default).length)] (vi r477)) ∧ (True) ∧ True) ∧ (((True) ∧ (True) ∧ True) ∧ (((!(decide (r477 = 0))) = false) ∧ (True)))) ∧ ((True) ∧ (True) ∧ (True) ∧ (0 ≤ x8 ∧ x8 < ((a1.length : Nat) : Int)) ∧ (loadL Go.Proofs.Try.prog 22 (x8.toNat * 1) (List.map v_22 a1) = some (VV.tr (List.map vi (a1.getD x8.toNat default)) ((a1.getD x8.toNat default).length))) ∧ (VC Go.Proofs.Try.prog 70 [VV.tr (List.map vi x7) x7.length, VV.tr (List.map vi (a1.getD x8.toNat default)) ((a1.getD x8.toNat default).length), vi 1] (VV.fr (List.map vi r480) r480.length)) ∧ (True) ∧ True)) ∧ ((True) ∧ (True) ∧ (True) ∧ True))) ∧ (((Wv (VV.fr (List.map vi r480) r480.length) (VV.tr (List.map vi r480) r480.length)) ∧ (True)) ∧ ((True))) := ⟨⟨⟨⟨trivial, ⟨trivial, ⟨trivial, ⟨trivial, trivial⟩⟩⟩⟩, ⟨(decide_eq_true h475), trivial⟩⟩, ⟨⟨⟨⟨trivial, ⟨trivial, ⟨trivial, ⟨trivial, ⟨h476, ⟨ld_map ag22 v_22 a1 default h476 (by omega), ⟨nspeculumref06_WearErr_ok k (a0.length : Int) (a1.getD x8.toNat default) _ h478, ⟨trivial, trivial⟩⟩⟩⟩⟩⟩⟩⟩, ⟨⟨trivial, ⟨trivial, trivial⟩⟩, ⟨(not_f (decide_eq_true h479)), trivial⟩⟩⟩, ⟨trivial, ⟨trivial, ⟨trivial, ⟨h476, ⟨ld_map ag22 v_22 a1 default h476 (by omega), ⟨nspeculumref06_less_ok k x7 (a1.getD x8.toNat default) 1 _ h481, ⟨trivial, trivial⟩⟩⟩⟩⟩⟩⟩⟩, ⟨trivial, ⟨trivial, ⟨trivial, trivial⟩⟩⟩⟩⟩, ⟨⟨(Wv.fr (rfl) (by simp)), trivial⟩, trivial⟩⟩
              cases r with
              | inl r => exact round_next pm pn hv hq h2
              | inr r =>
                exact round_next pm pn hv hq h2
          · rw [if_neg h479] at h
            injection h with h; subst h
            exact round_stop (c := ⟨[(4, none), (5, none)], [], []⟩) (q := ((((True) ∧ (True) ∧ (True) ∧ (True) ∧ True) ∧ (((decide (x8 < (a1.length : Int))) = true) ∧ (True))) ∧ (((True) ∧ (True) ∧ (True) ∧ (True) ∧ (0 ≤ x8 ∧ x8 < ((a1.length : Nat) : Int)) ∧ (loadL Go.Proofs.Try.prog 22 (x8.toNat * 1) (List.map v_22 a1) = some (VV.tr (List.map vi (a1.getD x8.toNat default)) ((a1.getD x8.toNat default).length))) ∧ (VC Go.Proofs.Try.prog 69 [vi (a0.length : Int), VV.tr (List.map vi (a1.getD x8.toNat default)) ((a1.getD x8.toNat default).length)] (vi r477)) ∧ (True) ∧ True) ∧ (((True) ∧ (True) ∧ True) ∧ (((!(decide (r477 = 0))) = true) ∧ (((True) ∧ (True) ∧ (True) ∧ True) ∧ (True)))))) ∧ (((True)) ∧ ((True)))) (s1 := ⟨mkA [(4, VV.c (.slice none 0 0)), (5, vi r477)], []⟩) pm pn (ans := [.reg [.n, .n, .n, .n], .br true, .reg [.n, .n, .n, .n, .n, .v (VV.tr (List.map vi (a1.getD x8.toNat default)) ((a1.getD x8.toNat default).length)), .call (vi r477), .n], .reg [.n, .n], .br true, .reg [.n, .n, .n]]) (by kernel_rfl) (by intro e; cases e) ⟨⟨⟨⟨trivial, ⟨trivial, ⟨trivial, ⟨trivial, trivial⟩⟩⟩⟩, ⟨(decide_eq_true h475), trivial⟩⟩, ⟨⟨trivial, ⟨trivial, ⟨trivial, ⟨trivial, ⟨h476, ⟨ld_map ag22 v_22 a1 default h476 (by omega), ⟨nspeculumref06_WearErr_ok k (a0.length : Int) (a1.getD x8.toNat default) _ h478, ⟨trivial, trivial⟩⟩⟩⟩⟩⟩⟩⟩, ⟨⟨trivial, ⟨trivial, trivial⟩⟩, ⟨(not_t (decide_eq_false h479)), ⟨⟨trivial, ⟨trivial, ⟨trivial, trivial⟩⟩⟩, trivial⟩⟩⟩⟩⟩, ⟨trivial, trivial⟩⟩
      · rw [if_neg h476] at h; cases h
    · rw [if_neg h475] at h
      injection h with h; subst h
      exact round_stop (c := ⟨[(7, none)], [], []⟩) (q := (((True) ∧ (True) ∧ (True) ∧ (True) ∧ True) ∧ (((decide (x8 < (a1.length : Int))) = false) ∧ (True))) ∧ (((True)) ∧ ((True)))) (s1 := ⟨mkA [(7, VV.tr (List.map vi x7) x7.length)], []⟩) pm pn (ans := [.reg [.n, .n, .n, .n], .br false]) (by kernel_rfl) (by intro e; cases e) ⟨⟨⟨trivial, ⟨trivial, ⟨trivial, ⟨trivial, trivial⟩⟩⟩⟩, ⟨(decide_eq_false h475), trivial⟩⟩, ⟨trivial, trivial⟩⟩
def nspeculumref06_Remaining (k : Nat) (a0 : (List Int)) (a1 : (List (List Int))) : Option ((List Int) × Int) :=
  (nspeculumref06_HeightsErr k a0).bind fun r455 => (if r455 = 0 then (if 100 < (a1.length : Int) then (some ([], 8)) else ((nspeculumbase_CopyInts k a0).bind fun r459 => ((nspeculumref06_Remaining_l0_0 k a0 a1 k r459 0).bind fun r483 => (match r483 with | .inl r484 => (some ([], r484)) | .inr r485 => (some (r485, 0)))))) else (some ([], r455)))
set_option maxRecDepth 100000 in
theorem nspeculumref06_Remaining_ok (k : Nat) (a0 : (List Int)) (a1 : (List (List Int))) (r : ((List Int) × Int)) (h : nspeculumref06_Remaining k a0 a1 = some r) : VC Go.Proofs.Try.prog 24 [VV.tr (List.map vi a0) a0.length, VV.tr (List.map v_22 a1) a1.length] (VV.tu [VV.tr (List.map vi r.1) r.1.length, vi r.2]) := by
  unfold nspeculumref06_Remaining at h
  cases h456 : nspeculumref06_HeightsErr k a0 with
  | none => rw [h456] at h; cases h
  | some r455 =>
    rw [h456, Option.bind_some] at h
    by_cases h457 : r455 = 0
    · rw [if_pos h457] at h
      by_cases h458 : 100 < (a1.length : Int)
      · rw [if_pos h458] at h
        injection h with h; subst h
        exact fun_ok pm pn Go.Proofs.Try.func24 (q := ((((True) ∧ (True) ∧ True) ∧ ((((True) ∧ (VC Go.Proofs.Try.prog 33 [VV.tr (List.map vi a0) a0.length] (vi r455)) ∧ (True) ∧ True) ∧ (((True) ∧ (True) ∧ True) ∧ (((!(decide (r455 = 0))) = false) ∧ (True)))) ∧ (((True) ∧ (True) ∧ (True) ∧ True) ∧ (((decide (100 < (a1.length : Int))) = true) ∧ (((True) ∧ (True) ∧ True) ∧ (True)))))) ∧ ((True) ∧ ((True) ∧ (True))))) (r0 := VV.tu [VV.c (.slice none 0 0), vi 8]) (ans := [.reg [.n, .n], .reg [.n, .call (vi r455), .n], .reg [.n, .n], .br false, .reg [.n, .n, .n], .br true, .reg [.n, .n]]) (fr := false) (by kernel_rfl) ⟨⟨⟨trivial, ⟨trivial, trivial⟩⟩, ⟨⟨⟨trivial, ⟨nspeculumref06_HeightsErr_ok k a0 _ h456, ⟨trivial, trivial⟩⟩⟩, ⟨⟨trivial, ⟨trivial, trivial⟩⟩, ⟨(not_f (decide_eq_true h457)), trivial⟩⟩⟩, ⟨⟨trivial, ⟨trivial, ⟨trivial, trivial⟩⟩⟩, ⟨(decide_eq_true h458), ⟨⟨trivial, ⟨trivial, trivial⟩⟩, trivial⟩⟩⟩⟩⟩, ⟨trivial, ⟨trivial, trivial⟩⟩⟩ (Wv.tuL (.cons (Wv.nil (k := 0)) (.cons (Wv.refl _) .nil)))
      · rw [if_neg h458] at h
        cases h460 : nspeculumbase_CopyInts k a0 with
        | none => rw [h460] at h; cases h
        | some r459 =>
          rw [h460, Option.bind_some] at h
          cases h482 : nspeculumref06_Remaining_l0_0 k a0 a1 k r459 0 with
          | none => rw [h482] at h; cases h
          | some r483 =>
            rw [h482, Option.bind_some] at h
            have hph482 := nspeculumref06_Remaining_l0_0_ok k a0 a1 _ _ _ _ h482
            cases r483 with
            | inl r484 =>
              dsimp only at h
              injection h with h; subst h
              exact fun_ok pm pn Go.Proofs.Try.func24 (q := ((((True) ∧ (True) ∧ True) ∧ ((((True) ∧ (VC Go.Proofs.Try.prog 33 [VV.tr (List.map vi a0) a0.length] (vi r455)) ∧ (True) ∧ True) ∧ (((True) ∧ (True) ∧ True) ∧ (((!(decide (r455 = 0))) = false) ∧ (True)))) ∧ ((((True) ∧ (True) ∧ (True) ∧ True) ∧ (((decide (100 < (a1.length : Int))) = false) ∧ (True))) ∧ (((True) ∧ (VC Go.Proofs.Try.prog 22 [VV.tr (List.map vi a0) a0.length] (VV.fr (List.map vi r459) r459.length)) ∧ (True) ∧ True) ∧ (((True) ∧ True) ∧ (((((Wv (VV.fr (List.map vi r459) r459.length) (VV.tr (List.map vi r459) r459.length)) ∧ (True)) ∧ ((True))) ∧ VRun Go.Proofs.Try.prog (szF Go.Proofs.Try.f24) (.loop (bodyOf Go.Proofs.Try.f24 0)) ⟨mkA [(0, VV.tr (List.map vi a0) a0.length), (1, VV.tr (List.map v_22 a1) a1.length), (7, VV.tr (List.map vi r459) r459.length), (8, vi 0)], []⟩ .ret ⟨mkA [(4, VV.c (.slice none 0 0)), (5, vi r484)], []⟩))))))) ∧ ((True) ∧ ((True) ∧ (True))))) (r0 := VV.tu [VV.c (.slice none 0 0), vi r484]) (ans := [.reg [.n, .n], .reg [.n, .call (vi r455), .n], .reg [.n, .n], .br false, .reg [.n, .n, .n], .br false, .reg [.n, .call (VV.fr (List.map vi r459) r459.length), .n], .reg [.n], .sub ⟨[(0, none), (1, none), (7, some (VV.tr (List.map vi r459) r459.length)), (8, none)], [], []⟩ .ret ⟨mkA [(4, VV.c (.slice none 0 0)), (5, vi r484)], []⟩]) (fr := false) (by kernel_rfl) ⟨⟨⟨trivial, ⟨trivial, trivial⟩⟩, ⟨⟨⟨trivial, ⟨nspeculumref06_HeightsErr_ok k a0 _ h456, ⟨trivial, trivial⟩⟩⟩, ⟨⟨trivial, ⟨trivial, trivial⟩⟩, ⟨(not_f (decide_eq_true h457)), trivial⟩⟩⟩, ⟨⟨⟨trivial, ⟨trivial, ⟨trivial, trivial⟩⟩⟩, ⟨(decide_eq_false h458), trivial⟩⟩, ⟨⟨trivial, ⟨nspeculumbase_CopyInts_ok k a0 _ h460, ⟨trivial, trivial⟩⟩⟩, ⟨⟨trivial, trivial⟩, ⟨⟨⟨(Wv.fr (rfl) (by simp)), trivial⟩, trivial⟩, VRun.loop hph482⟩⟩⟩⟩⟩⟩, ⟨trivial, ⟨trivial, trivial⟩⟩⟩ (Wv.tuL (.cons (Wv.nil (k := 0)) (.cons (Wv.refl _) .nil)))
            | inr r485 =>
              dsimp only at h
              injection h with h; subst h
              exact fun_ok pm pn Go.Proofs.Try.func24 (q := ((((True) ∧ (True) ∧ True) ∧ ((((True) ∧ (VC Go.Proofs.Try.prog 33 [VV.tr (List.map vi a0) a0.length] (vi r455)) ∧ (True) ∧ True) ∧ (((True) ∧ (True) ∧ True) ∧ (((!(decide (r455 = 0))) = false) ∧ (True)))) ∧ ((((True) ∧ (True) ∧ (True) ∧ True) ∧ (((decide (100 < (a1.length : Int))) = false) ∧ (True))) ∧ (((True) ∧ (VC Go.Proofs.Try.prog 22 [VV.tr (List.map vi a0) a0.length] (VV.fr (List.map vi r459) r459.length)) ∧ (True) ∧ True) ∧ ((((True) ∧ True) ∧ (((((Wv (VV.fr (List.map vi r459) r459.length) (VV.tr (List.map vi r459) r459.length)) ∧ (True)) ∧ ((True))) ∧ VRun Go.Proofs.Try.prog (szF Go.Proofs.Try.f24) (.loop (bodyOf Go.Proofs.Try.f24 0)) ⟨mkA [(0, VV.tr (List.map vi a0) a0.length), (1, VV.tr (List.map v_22 a1) a1.length), (7, VV.tr (List.map vi r459) r459.length), (8, vi 0)], []⟩ (.exit 0) ⟨mkA [(7, VV.tr (List.map vi r485) r485.length)], []⟩))) ∧ (((True) ∧ (True) ∧ (True) ∧ True) ∧ (True))))))) ∧ ((True) ∧ ((True) ∧ (True))))) (r0 := VV.tu [VV.tr (List.map vi r485) r485.length, vi 0]) (ans := [.reg [.n, .n], .reg [.n, .call (vi r455), .n], .reg [.n, .n], .br false, .reg [.n, .n, .n], .br false, .reg [.n, .call (VV.fr (List.map vi r459) r459.length), .n], .reg [.n], .sub ⟨[(0, none), (1, none), (7, some (VV.tr (List.map vi r459) r459.length)), (8, none)], [], []⟩ (.exit 0) ⟨mkA [(7, VV.tr (List.map vi r485) r485.length)], []⟩, .reg [.n, .n, .n]]) (fr := false) (by kernel_rfl) ⟨⟨⟨trivial, ⟨trivial, trivial⟩⟩, ⟨⟨⟨trivial, ⟨nspeculumref06_HeightsErr_ok k a0 _ h456, ⟨trivial, trivial⟩⟩⟩, ⟨⟨trivial, ⟨trivial, trivial⟩⟩, ⟨(not_f (decide_eq_true h457)), trivial⟩⟩⟩, ⟨⟨⟨trivial, ⟨trivial, ⟨trivial, trivial⟩⟩⟩, ⟨(decide_eq_false h458), trivial⟩⟩, ⟨⟨trivial, ⟨nspeculumbase_CopyInts_ok k a0 _ h460, ⟨trivial, trivial⟩⟩⟩, ⟨⟨⟨trivial, trivial⟩, ⟨⟨⟨(Wv.fr (rfl) (by simp)), trivial⟩, trivial⟩, VRun.loop hph482⟩⟩, ⟨⟨trivial, ⟨trivial, ⟨trivial, trivial⟩⟩⟩, trivial⟩⟩⟩⟩⟩⟩, ⟨trivial, ⟨trivial, trivial⟩⟩⟩ (Wv.refl _)
    · rw [if_neg h457] at h
      injection h with h; subst h
      exact fun_ok pm pn Go.Proofs.Try.func24 (q := ((((True) ∧ (True) ∧ True) ∧ (((True) ∧ (VC Go.Proofs.Try.prog 33 [VV.tr (List.map vi a0) a0.length] (vi r455)) ∧ (True) ∧ True) ∧ (((True) ∧ (True) ∧ True) ∧ (((!(decide (r455 = 0))) = true) ∧ (((True) ∧ (True) ∧ (True) ∧ True) ∧ (True)))))) ∧ ((True) ∧ ((True) ∧ (True))))) (r0 := VV.tu [VV.c (.slice none 0 0), vi r455]) (ans := [.reg [.n, .n], .reg [.n, .call (vi r455), .n], .reg [.n, .n], .br true, .reg [.n, .n, .n]]) (fr := false) (by kernel_rfl) ⟨⟨⟨trivial, ⟨trivial, trivial⟩⟩, ⟨⟨trivial, ⟨nspeculumref06_HeightsErr_ok k a0 _ h456, ⟨trivial, trivial⟩⟩⟩, ⟨⟨trivial, ⟨trivial, trivial⟩⟩, ⟨(not_t (decide_eq_false h457)), ⟨⟨trivial, ⟨trivial, ⟨trivial, trivial⟩⟩⟩, trivial⟩⟩⟩⟩⟩, ⟨trivial, ⟨trivial, trivial⟩⟩⟩ (Wv.tuL (.cons (Wv.nil (k := 0)) (.cons (Wv.refl _) .nil)))
def nspeculumbase_Ints_l0_0 (k : Nat) (a0 : (List Int)) (a1 : (List Int)) : Nat → Int → Option (Sum Unit Unit)
  | 0, _ => none
  | fuel + 1, x5 => if x5 < (a0.length : Int) then (if 0 ≤ x5 ∧ x5 < (a0.length : Int) then (if 0 ≤ x5 ∧ x5 < (a1.length : Int) then (if (a0.getD x5.toNat 0) = (a1.getD x5.toNat 0) then (nspeculumbase_Ints_l0_0 k a0 a1 fuel (w64 (x5 + 1))) else (some (.inl ()))) else none) else none) else (some (.inr ()))
set_option maxRecDepth 100000 in
theorem nspeculumbase_Ints_l0_0_ok (k : Nat) (a0 : (List Int)) (a1 : (List Int)) : ∀ (fuel : Nat) (x5 : Int) (r : Sum Unit Unit), nspeculumbase_Ints_l0_0 k a0 a1 fuel x5 = some r → (match r with | .inl r => VLoop Go.Proofs.Try.prog (szF Go.Proofs.Try.f25) (bodyOf Go.Proofs.Try.f25 0) ⟨mkA [(0, VV.tr (List.map vi a0) a0.length), (1, VV.tr (List.map vi a1) a1.length), (5, vi x5)], []⟩ .ret ⟨mkA [(4, vb false)], []⟩ | .inr r => VLoop Go.Proofs.Try.prog (szF Go.Proofs.Try.f25) (bodyOf Go.Proofs.Try.f25 0) ⟨mkA [(0, VV.tr (List.map vi a0) a0.length), (1, VV.tr (List.map vi a1) a1.length), (5, vi x5)], []⟩ (.exit 0) ⟨mkA [], []⟩) := by
  intro fuel
  induction fuel with
  | zero => intro x5 r h; rw [nspeculumbase_Ints_l0_0.eq_1] at h; cases h
  | succ fuel ih =>
    intro x5 r h
    rw [nspeculumbase_Ints_l0_0.eq_2] at h
    by_cases h515 : x5 < (a0.length : Int)
    · rw [if_pos h515] at h
      by_cases h516 : 0 ≤ x5 ∧ x5 < (a0.length : Int)
      · rw [if_pos h516] at h
        by_cases h517 : 0 ≤ x5 ∧ x5 < (a1.length : Int)
        · rw [if_pos h517] at h
          by_cases h518 : (a0.getD x5.toNat 0) = (a1.getD x5.toNat 0)
          · rw [if_pos h518] at h
            have h2 := ih _ _ h
            have hv : vRound Go.Proofs.Try.prog Go.Proofs.Try.f25 0 ⟨mkA [(0, VV.tr (List.map vi a0) a0.length), (1, VV.tr (List.map vi a1) a1.length), (5, vi x5)], []⟩ [.reg [.n, .n, .n, .n], .br true, .reg [.n, .n, .n, .v (vi (a0.getD x5.toNat 0)), .n, .n, .n, .v (vi (a1.getD x5.toNat 0)), .n], .br false, .reg [.n, .n, .n]] ⟨[(0, none), (1, none), (5, none)], [], []⟩ = some (.normal, ⟨mkA [(0, VV.tr (List.map vi a0) a0.length), (1, VV.tr (List.map vi a1) a1.length), (5, vi (w64 (x5 + 1)))], []⟩, ((((True) ∧ (True) ∧ (True) ∧ (True) ∧ True) ∧ (((decide (x5 < (a0.length : Int))) = true) ∧ (True))) ∧ ((((True) ∧ (True) ∧ (0 ≤ x5 ∧ x5 < ((a0.length : Nat) : Int)) ∧ (loadL Go.Proofs.Try.prog 3 (x5.toNat * 1) (List.map vi a0) = some (vi (a0.getD x5.toNat 0))) ∧ (True) ∧ (True) ∧ (0 ≤ x5 ∧ x5 < ((a1.length : Nat) : Int)) ∧ (loadL Go.Proofs.Try.prog 3 (x5.toNat * 1) (List.map vi a1) = some (vi (a1.getD x5.toNat 0))) ∧ (True) ∧ True) ∧ (((!(decide ((a0.getD x5.toNat 0) = (a1.getD x5.toNat 0)))) = false) ∧ (True))) ∧ ((True) ∧ (True) ∧ (True) ∧ True))) ∧ (((True)) ∧ ((True)))) := by kernel_rfl
            have hq : ((((True) ∧ (True) ∧ (True) ∧ (True) ∧ True) ∧ (((decide (x5 < (a0.length : Int))) = true) ∧ (True))) ∧ ((((True) ∧ (True) ∧ (0 ≤ x5 ∧ x5 < ((a0.length : Nat) : Int)) ∧ (loadL Go.Proofs.Try.prog 3 (x5.toNat * 1) (List.map vi a0) = some (vi (a0.getD x5.toNat 0))) ∧ (True) ∧ (True) ∧ (0 ≤ x5 ∧ x5 < ((a1.length : Nat) : Int)) ∧ (loadL Go.Proofs.Try.prog 3 (x5.toNat * 1) (List.map vi a1) = some (vi (a1.getD x5.toNat 0))) ∧ (True) ∧ True) ∧ (((!(decide ((a0.getD x5.toNat 0) = (a1.getD x5.toNat 0)))) = false) ∧ (True))) ∧ ((True) ∧ (True) ∧ (True) ∧ True))) ∧ (((True)) ∧ ((True))) := ⟨⟨⟨⟨trivial, ⟨trivial, ⟨trivial, ⟨trivial, trivial⟩⟩⟩⟩, ⟨(decide_eq_true h515), trivial⟩⟩, ⟨⟨⟨trivial, ⟨trivial, ⟨h516, ⟨ld_map ag3 vi a0 0 h516 (by omega), ⟨trivial, ⟨trivial, ⟨h517, ⟨ld_map ag3 vi a1 0 h517 (by omega), ⟨trivial, trivial⟩⟩⟩⟩⟩⟩⟩⟩⟩, ⟨(not_f (decide_eq_true h518)), trivial⟩⟩, ⟨trivial, ⟨trivial, ⟨trivial, trivial⟩⟩⟩⟩⟩, ⟨trivial, trivial⟩⟩
            cases r with
            | inl r => exact round_next pm pn hv hq h2
            | inr r =>
              exact round_next pm pn hv hq h2
          · rw [if_neg h518] at h
            injection h with h; subst h
            exact round_stop (c := ⟨[(4, none)], [], []⟩) (q := ((((True) ∧ (True) ∧ (True) ∧ (True) ∧ True) ∧ (((decide (x5 < (a0.length : Int))) = true) ∧ (True))) ∧ (((True) ∧ (True) ∧ (0 ≤ x5 ∧ x5 < ((a0.length : Nat) : Int)) ∧ (loadL Go.Proofs.Try.prog 3 (x5.toNat * 1) (List.map vi a0) = some (vi (a0.getD x5.toNat 0))) ∧ (True) ∧ (True) ∧ (0 ≤ x5 ∧ x5 < ((a1.length : Nat) : Int)) ∧ (loadL Go.Proofs.Try.prog 3 (x5.toNat * 1) (List.map vi a1) = some (vi (a1.getD x5.toNat 0))) ∧ (True) ∧ True) ∧ (((!(decide ((a0.getD x5.toNat 0) = (a1.getD x5.toNat 0)))) = true) ∧ (((True) ∧ True) ∧ (True))))) ∧ (((True)) ∧ ((True)))) (s1 := ⟨mkA [(4, vb false)], []⟩) pm pn (ans := [.reg [.n, .n, .n, .n], .br true, .reg [.n, .n, .n, .v (vi (a0.getD x5.toNat 0)), .n, .n, .n, .v (vi (a1.getD x5.toNat 0)), .n], .br true, .reg [.n]]) (by kernel_rfl) (by intro e; cases e) ⟨⟨⟨⟨trivial, ⟨trivial, ⟨trivial, ⟨trivial, trivial⟩⟩⟩⟩, ⟨(decide_eq_true h515), trivial⟩⟩, ⟨⟨trivial, ⟨trivial, ⟨h516, ⟨ld_map ag3 vi a0 0 h516 (by omega), ⟨trivial, ⟨trivial, ⟨h517, ⟨ld_map ag3 vi a1 0 h517 (by omega), ⟨trivial, trivial⟩⟩⟩⟩⟩⟩⟩⟩⟩, ⟨(not_t (decide_eq_false h518)), ⟨⟨trivial, trivial⟩, trivial⟩⟩⟩⟩, ⟨trivial, trivial⟩⟩
        · rw [if_neg h517] at h; cases h
      · rw [if_neg h516] at h; cases h
    · rw [if_neg h515] at h
      injection h with h; subst h
      exact round_stop (c := ⟨[], [], []⟩) (q := (((True) ∧ (True) ∧ (True) ∧ (True) ∧ True) ∧ (((decide (x5 < (a0.length : Int))) = false) ∧ (True))) ∧ (((True)) ∧ ((True)))) (s1 := ⟨mkA [], []⟩) pm pn (ans := [.reg [.n, .n, .n, .n], .br false]) (by kernel_rfl) (by intro e; cases e) ⟨⟨⟨trivial, ⟨trivial, ⟨trivial, ⟨trivial, trivial⟩⟩⟩⟩, ⟨(decide_eq_false h515), trivial⟩⟩, ⟨trivial, trivial⟩⟩
def nspeculumbase_Ints (k : Nat) (a0 : (List Int)) (a1 : (List Int)) : Option Bool :=
  if (a0.length : Int) = (a1.length : Int) then ((nspeculumbase_Ints_l0_0 k a0 a1 k 0).bind fun r520 => (match r520 with | .inl r521 => (some false) | .inr r522 => (some true))) else (some false)
set_option maxRecDepth 100000 in
theorem nspeculumbase_Ints_ok (k : Nat) (a0 : (List Int)) (a1 : (List Int)) (r : Bool) (h : nspeculumbase_Ints k a0 a1 = some r) : VC Go.Proofs.Try.prog 25 [VV.tr (List.map vi a0) a0.length, VV.tr (List.map vi a1) a1.length] (vb r) := by
  unfold nspeculumbase_Ints at h
  by_cases h506 : (a0.length : Int) = (a1.length : Int)
  · rw [if_pos h506] at h
    cases h519 : nspeculumbase_Ints_l0_0 k a0 a1 k 0 with
    | none => rw [h519] at h; cases h
    | some r520 =>
      rw [h519, Option.bind_some] at h
      have hph519 := nspeculumbase_Ints_l0_0_ok k a0 a1 _ _ _ h519
      cases r520 with
      | inl r521 =>
        dsimp only at h
        injection h with h; subst h
        exact fun_ok pm pn Go.Proofs.Try.func25 (q := ((((True) ∧ True) ∧ ((((True) ∧ (True) ∧ (True) ∧ (True) ∧ (True) ∧ True) ∧ (((!(decide ((a0.length : Int) = (a1.length : Int)))) = false) ∧ (True))) ∧ (((True) ∧ True) ∧ (((((True)) ∧ ((True))) ∧ VRun Go.Proofs.Try.prog (szF Go.Proofs.Try.f25) (.loop (bodyOf Go.Proofs.Try.f25 0)) ⟨mkA [(0, VV.tr (List.map vi a0) a0.length), (1, VV.tr (List.map vi a1) a1.length), (5, vi 0)], []⟩ .ret ⟨mkA [(4, vb false)], []⟩))))) ∧ ((True) ∧ (True)))) (r0 := vb false) (ans := [.reg [.n], .reg [.n, .n, .n, .n, .n], .br false, .reg [.n], .sub ⟨[(0, none), (1, none), (5, none)], [], []⟩ .ret ⟨mkA [(4, vb false)], []⟩]) (fr := true) (by kernel_rfl) ⟨⟨⟨trivial, trivial⟩, ⟨⟨⟨trivial, ⟨trivial, ⟨trivial, ⟨trivial, ⟨trivial, trivial⟩⟩⟩⟩⟩, ⟨(not_f (decide_eq_true h506)), trivial⟩⟩, ⟨⟨trivial, trivial⟩, ⟨⟨trivial, trivial⟩, VRun.loop hph519⟩⟩⟩⟩, ⟨trivial, trivial⟩⟩ (Wv.refl _)
      | inr r522 =>
        dsimp only at h
        injection h with h; subst h
        exact fun_ok pm pn Go.Proofs.Try.func25 (q := ((((True) ∧ True) ∧ ((((True) ∧ (True) ∧ (True) ∧ (True) ∧ (True) ∧ True) ∧ (((!(decide ((a0.length : Int) = (a1.length : Int)))) = false) ∧ (True))) ∧ ((((True) ∧ True) ∧ (((((True)) ∧ ((True))) ∧ VRun Go.Proofs.Try.prog (szF Go.Proofs.Try.f25) (.loop (bodyOf Go.Proofs.Try.f25 0)) ⟨mkA [(0, VV.tr (List.map vi a0) a0.length), (1, VV.tr (List.map vi a1) a1.length), (5, vi 0)], []⟩ (.exit 0) ⟨mkA [], []⟩))) ∧ (((True) ∧ True) ∧ (True))))) ∧ ((True) ∧ (True)))) (r0 := vb true) (ans := [.reg [.n], .reg [.n, .n, .n, .n, .n], .br false, .reg [.n], .sub ⟨[(0, none), (1, none), (5, none)], [], []⟩ (.exit 0) ⟨mkA [], []⟩, .reg [.n]]) (fr := true) (by kernel_rfl) ⟨⟨⟨trivial, trivial⟩, ⟨⟨⟨trivial, ⟨trivial, ⟨trivial, ⟨trivial, ⟨trivial, trivial⟩⟩⟩⟩⟩, ⟨(not_f (decide_eq_true h506)), trivial⟩⟩, ⟨⟨⟨trivial, trivial⟩, ⟨⟨trivial, trivial⟩, VRun.loop hph519⟩⟩, ⟨⟨trivial, trivial⟩, trivial⟩⟩⟩⟩, ⟨trivial, trivial⟩⟩ (Wv.refl _)
  · rw [if_neg h506] at h
    injection h with h; subst h
    exact fun_ok pm pn Go.Proofs.Try.func25 (q := ((((True) ∧ True) ∧ (((True) ∧ (True) ∧ (True) ∧ (True) ∧ (True) ∧ True) ∧ (((!(decide ((a0.length : Int) = (a1.length : Int)))) = true) ∧ (((True) ∧ True) ∧ (True))))) ∧ ((True) ∧ (True)))) (r0 := vb false) (ans := [.reg [.n], .reg [.n, .n, .n, .n, .n], .br true, .reg [.n]]) (fr := true) (by kernel_rfl) ⟨⟨⟨trivial, trivial⟩, ⟨⟨trivial, ⟨trivial, ⟨trivial, ⟨trivial, ⟨trivial, trivial⟩⟩⟩⟩⟩, ⟨(not_t (decide_eq_false h506)), ⟨⟨trivial, trivial⟩, trivial⟩⟩⟩⟩, ⟨trivial, trivial⟩⟩ (Wv.refl _)
def nspeculumlaw06_FigureRemains (k : Nat) (a0 : (List Int)) (a1 : (List (List Int))) : Option Bool :=
  (nawake k).bind fun r525 => (if r525 = true then (if 45 < (a0.length : Int) then (some true) else ((nspeculumlaw06_lists k a1 6).bind fun r529 => (if r529 = true then ((nspeculumbase_CopyInts k a0).bind fun r532 => ((nspeculumbase_CopyLists k a1).bind fun r534 => ((nfigure_Remaining k r532 r534).bind fun r536 => ((nspeculumref06_Remaining k a0 a1).bind fun r538 => (if r536.2 = r538.2 then ((nspeculumbase_Ints k r536.1 r538.1).bind fun r541 => (some r541)) else (some false)))))) else (some true)))) else (some false))
set_option maxRecDepth 100000 in
theorem nspeculumlaw06_FigureRemains_ok (k : Nat) (a0 : (List Int)) (a1 : (List (List Int))) (r : Bool) (h : nspeculumlaw06_FigureRemains k a0 a1 = some r) : VC Go.Proofs.Try.prog 4 [VV.tr (List.map vi a0) a0.length, VV.tr (List.map v_22 a1) a1.length] (vb r) := by
  unfold nspeculumlaw06_FigureRemains at h
  cases h526 : nawake k with
  | none => rw [h526] at h; cases h
  | some r525 =>
    rw [h526, Option.bind_some] at h
    by_cases h527 : r525 = true
    · rw [if_pos h527] at h
      by_cases h528 : 45 < (a0.length : Int)
      · rw [if_pos h528] at h
        injection h with h; subst h
        exact fun_ok pm pn Go.Proofs.Try.func4 (q := ((((True) ∧ True) ∧ ((((VC Go.Proofs.Try.prog 13 [] (vb r525)) ∧ (True) ∧ True) ∧ (((!r525) = false) ∧ (True))) ∧ (((True) ∧ (True) ∧ (True) ∧ (True) ∧ ((decide (45 < (a0.length : Int))) = !false) ∧ ((decide (45 < (a0.length : Int))) = !false) ∧ ((decide (45 < (a0.length : Int))) = !false) ∧ ((decide (45 < (a0.length : Int))) = true) ∧ True) ∧ ((true = true) ∧ (((True) ∧ True) ∧ (True)))))) ∧ ((True) ∧ (True)))) (r0 := vb true) (ans := [.reg [.n], .reg [.call (vb r525), .n], .br false, .reg [.n, .n, .n, .n, .skip, .skip, .skip, .b true], .br true, .reg [.n]]) (fr := true) (by kernel_rfl) ⟨⟨⟨trivial, trivial⟩, ⟨⟨⟨nawake_ok k _ h526, ⟨trivial, trivial⟩⟩, ⟨(not_f h527), trivial⟩⟩, ⟨⟨trivial, ⟨trivial, ⟨trivial, ⟨trivial, ⟨(decide_eq_true h528), ⟨(decide_eq_true h528), ⟨(decide_eq_true h528), ⟨(decide_eq_true h528), trivial⟩⟩⟩⟩⟩⟩⟩⟩, ⟨rfl, ⟨⟨trivial, trivial⟩, trivial⟩⟩⟩⟩⟩, ⟨trivial, trivial⟩⟩ (Wv.refl _)
      · rw [if_neg h528] at h
        cases h530 : nspeculumlaw06_lists k a1 6 with
        | none => rw [h530] at h; cases h
        | some r529 =>
          rw [h530, Option.bind_some] at h
          by_cases h531 : r529 = true
          · rw [if_pos h531] at h
            cases h533 : nspeculumbase_CopyInts k a0 with
            | none => rw [h533] at h; cases h
            | some r532 =>
              rw [h533, Option.bind_some] at h
              cases h535 : nspeculumbase_CopyLists k a1 with
              | none => rw [h535] at h; cases h
              | some r534 =>
                rw [h535, Option.bind_some] at h
                cases h537 : nfigure_Remaining k r532 r534 with
                | none => rw [h537] at h; cases h
                | some r536 =>
                  rw [h537, Option.bind_some] at h
                  cases h539 : nspeculumref06_Remaining k a0 a1 with
                  | none => rw [h539] at h; cases h
                  | some r538 =>
                    rw [h539, Option.bind_some] at h
                    by_cases h540 : r536.2 = r538.2
                    · rw [if_pos h540] at h
                      cases h542 : nspeculumbase_Ints k r536.1 r538.1 with
                      | none => rw [h542] at h; cases h
                      | some r541 =>
                        rw [h542, Option.bind_some] at h
                        injection h with h; subst h
                        exact fun_ok pm pn Go.Proofs.Try.func4 (q := ((((True) ∧ True) ∧ ((((VC Go.Proofs.Try.prog 13 [] (vb r525)) ∧ (True) ∧ True) ∧ (((!r525) = false) ∧ (True))) ∧ ((((True) ∧ (True) ∧ (True) ∧ (True) ∧ (((decide (45 < (a0.length : Int))) = false ∧ True)) ∧ (((decide (45 < (a0.length : Int))) = false ∧ VC Go.Proofs.Try.prog 20 [VV.tr (List.map v_22 a1) a1.length, vi 6] (vb r529))) ∧ (((decide (45 < (a0.length : Int))) = false ∧ True)) ∧ ((decide (45 < (a0.length : Int))) = false) ∧ True) ∧ (((!r529) = false) ∧ (True))) ∧ (((True) ∧ (VC Go.Proofs.Try.prog 22 [VV.tr (List.map vi a0) a0.length] (VV.fr (List.map vi r532) r532.length)) ∧ (True) ∧ (VC Go.Proofs.Try.prog 23 [VV.tr (List.map v_22 a1) a1.length] (VV.fr (List.map v_22 r534) r534.length)) ∧ (VC Go.Proofs.Try.prog 21 [VV.tr (List.map vi r532) r532.length, VV.tr (List.map v_22 r534) r534.length] (VV.tu [VV.tr (List.map vi r536.1) r536.1.length, vi r536.2])) ∧ (True) ∧ (True) ∧ (True) ∧ (True) ∧ (True) ∧ True) ∧ (((True) ∧ (True) ∧ (VC Go.Proofs.Try.prog 24 [VV.tr (List.map vi a0) a0.length, VV.tr (List.map v_22 a1) a1.length] (VV.tu [VV.tr (List.map vi r538.1) r538.1.length, vi r538.2])) ∧ (True) ∧ (True) ∧ (True) ∧ (True) ∧ (True) ∧ True) ∧ (((True) ∧ (True) ∧ (True) ∧ (True) ∧ (((decide (r536.2 = r538.2)) = true ∧ True)) ∧ (((decide (r536.2 = r538.2)) = true ∧ True)) ∧ (((decide (r536.2 = r538.2)) = true ∧ VC Go.Proofs.Try.prog 25 [VV.tr (List.map vi r536.1) r536.1.length, VV.tr (List.map vi r538.1) r538.1.length] (vb r541))) ∧ ((decide (r536.2 = r538.2)) = true) ∧ (True) ∧ True) ∧ (True))))))) ∧ ((True) ∧ (True)))) (r0 := vb r541) (ans := [.reg [.n], .reg [.call (vb r525), .n], .br false, .reg [.n, .n, .n, .n, .n, .call (vb r529), .n, .b false], .br false, .reg [.n, .call (VV.fr (List.map vi r532) r532.length), .n, .call (VV.fr (List.map v_22 r534) r534.length), .call (VV.tu [VV.tr (List.map vi r536.1) r536.1.length, vi r536.2]), .n, .n, .n, .n, .n], .reg [.n, .n, .call (VV.tu [VV.tr (List.map vi r538.1) r538.1.length, vi r538.2]), .n, .n, .n, .n, .n], .reg [.n, .n, .n, .n, .n, .n, .call (vb r541), .b true, .n]]) (fr := true) (by kernel_rfl) ⟨⟨⟨trivial, trivial⟩, ⟨⟨⟨nawake_ok k _ h526, ⟨trivial, trivial⟩⟩, ⟨(not_f h527), trivial⟩⟩, ⟨⟨⟨trivial, ⟨trivial, ⟨trivial, ⟨trivial, ⟨⟨(decide_eq_false h528), trivial⟩, ⟨⟨(decide_eq_false h528), nspeculumlaw06_lists_ok k a1 6 _ h530⟩, ⟨⟨(decide_eq_false h528), trivial⟩, ⟨(decide_eq_false h528), trivial⟩⟩⟩⟩⟩⟩⟩⟩, ⟨(not_f h531), trivial⟩⟩, ⟨⟨trivial, ⟨nspeculumbase_CopyInts_ok k a0 _ h533, ⟨trivial, ⟨nspeculumbase_CopyLists_ok k a1 _ h535, ⟨nfigure_Remaining_ok k r532 r534 _ h537, ⟨trivial, ⟨trivial, ⟨trivial, ⟨trivial, ⟨trivial, trivial⟩⟩⟩⟩⟩⟩⟩⟩⟩⟩, ⟨⟨trivial, ⟨trivial, ⟨nspeculumref06_Remaining_ok k a0 a1 _ h539, ⟨trivial, ⟨trivial, ⟨trivial, ⟨trivial, ⟨trivial, trivial⟩⟩⟩⟩⟩⟩⟩⟩, ⟨⟨trivial, ⟨trivial, ⟨trivial, ⟨trivial, ⟨⟨(decide_eq_true h540), trivial⟩, ⟨⟨(decide_eq_true h540), trivial⟩, ⟨⟨(decide_eq_true h540), nspeculumbase_Ints_ok k r536.1 r538.1 _ h542⟩, ⟨(decide_eq_true h540), ⟨trivial, trivial⟩⟩⟩⟩⟩⟩⟩⟩⟩, trivial⟩⟩⟩⟩⟩⟩, ⟨trivial, trivial⟩⟩ (Wv.refl _)
                    · rw [if_neg h540] at h
                      injection h with h; subst h
                      exact fun_ok pm pn Go.Proofs.Try.func4 (q := ((((True) ∧ True) ∧ ((((VC Go.Proofs.Try.prog 13 [] (vb r525)) ∧ (True) ∧ True) ∧ (((!r525) = false) ∧ (True))) ∧ ((((True) ∧ (True) ∧ (True) ∧ (True) ∧ (((decide (45 < (a0.length : Int))) = false ∧ True)) ∧ (((decide (45 < (a0.length : Int))) = false ∧ VC Go.Proofs.Try.prog 20 [VV.tr (List.map v_22 a1) a1.length, vi 6] (vb r529))) ∧ (((decide (45 < (a0.length : Int))) = false ∧ True)) ∧ ((decide (45 < (a0.length : Int))) = false) ∧ True) ∧ (((!r529) = false) ∧ (True))) ∧ (((True) ∧ (VC Go.Proofs.Try.prog 22 [VV.tr (List.map vi a0) a0.length] (VV.fr (List.map vi r532) r532.length)) ∧ (True) ∧ (VC Go.Proofs.Try.prog 23 [VV.tr (List.map v_22 a1) a1.length] (VV.fr (List.map v_22 r534) r534.length)) ∧ (VC Go.Proofs.Try.prog 21 [VV.tr (List.map vi r532) r532.length, VV.tr (List.map v_22 r534) r534.length] (VV.tu [VV.tr (List.map vi r536.1) r536.1.length, vi r536.2])) ∧ (True) ∧ (True) ∧ (True) ∧ (True) ∧ (True) ∧ True) ∧ (((True) ∧ (True) ∧ (VC Go.Proofs.Try.prog 24 [VV.tr (List.map vi a0) a0.length, VV.tr (List.map v_22 a1) a1.length] (VV.tu [VV.tr (List.map vi r538.1) r538.1.length, vi r538.2])) ∧ (True) ∧ (True) ∧ (True) ∧ (True) ∧ (True) ∧ True) ∧ (((True) ∧ (True) ∧ (True) ∧ (True) ∧ ((decide (r536.2 = r538.2)) = !true) ∧ ((decide (r536.2 = r538.2)) = !true) ∧ ((decide (r536.2 = r538.2)) = !true) ∧ ((decide (r536.2 = r538.2)) = false) ∧ (True) ∧ True) ∧ (True))))))) ∧ ((True) ∧ (True)))) (r0 := vb false) (ans := [.reg [.n], .reg [.call (vb r525), .n], .br false, .reg [.n, .n, .n, .n, .n, .call (vb r529), .n, .b false], .br false, .reg [.n, .call (VV.fr (List.map vi r532) r532.length), .n, .call (VV.fr (List.map v_22 r534) r534.length), .call (VV.tu [VV.tr (List.map vi r536.1) r536.1.length, vi r536.2]), .n, .n, .n, .n, .n], .reg [.n, .n, .call (VV.tu [VV.tr (List.map vi r538.1) r538.1.length, vi r538.2]), .n, .n, .n, .n, .n], .reg [.n, .n, .n, .n, .skip, .skip, .skip, .b false, .n]]) (fr := true) (by kernel_rfl) ⟨⟨⟨trivial, trivial⟩, ⟨⟨⟨nawake_ok k _ h526, ⟨trivial, trivial⟩⟩, ⟨(not_f h527), trivial⟩⟩, ⟨⟨⟨trivial, ⟨trivial, ⟨trivial, ⟨trivial, ⟨⟨(decide_eq_false h528), trivial⟩, ⟨⟨(decide_eq_false h528), nspeculumlaw06_lists_ok k a1 6 _ h530⟩, ⟨⟨(decide_eq_false h528), trivial⟩, ⟨(decide_eq_false h528), trivial⟩⟩⟩⟩⟩⟩⟩⟩, ⟨(not_f h531), trivial⟩⟩, ⟨⟨trivial, ⟨nspeculumbase_CopyInts_ok k a0 _ h533, ⟨trivial, ⟨nspeculumbase_CopyLists_ok k a1 _ h535, ⟨nfigure_Remaining_ok k r532 r534 _ h537, ⟨trivial, ⟨trivial, ⟨trivial, ⟨trivial, ⟨trivial, trivial⟩⟩⟩⟩⟩⟩⟩⟩⟩⟩, ⟨⟨trivial, ⟨trivial, ⟨nspeculumref06_Remaining_ok k a0 a1 _ h539, ⟨trivial, ⟨trivial, ⟨trivial, ⟨trivial, ⟨trivial, trivial⟩⟩⟩⟩⟩⟩⟩⟩, ⟨⟨trivial, ⟨trivial, ⟨trivial, ⟨trivial, ⟨(decide_eq_false h540), ⟨(decide_eq_false h540), ⟨(decide_eq_false h540), ⟨(decide_eq_false h540), ⟨trivial, trivial⟩⟩⟩⟩⟩⟩⟩⟩⟩, trivial⟩⟩⟩⟩⟩⟩, ⟨trivial, trivial⟩⟩ (Wv.refl _)
          · rw [if_neg h531] at h
            injection h with h; subst h
            exact fun_ok pm pn Go.Proofs.Try.func4 (q := ((((True) ∧ True) ∧ ((((VC Go.Proofs.Try.prog 13 [] (vb r525)) ∧ (True) ∧ True) ∧ (((!r525) = false) ∧ (True))) ∧ (((True) ∧ (True) ∧ (True) ∧ (True) ∧ (((decide (45 < (a0.length : Int))) = false ∧ True)) ∧ (((decide (45 < (a0.length : Int))) = false ∧ VC Go.Proofs.Try.prog 20 [VV.tr (List.map v_22 a1) a1.length, vi 6] (vb r529))) ∧ (((decide (45 < (a0.length : Int))) = false ∧ True)) ∧ ((decide (45 < (a0.length : Int))) = false) ∧ True) ∧ (((!r529) = true) ∧ (((True) ∧ True) ∧ (True)))))) ∧ ((True) ∧ (True)))) (r0 := vb true) (ans := [.reg [.n], .reg [.call (vb r525), .n], .br false, .reg [.n, .n, .n, .n, .n, .call (vb r529), .n, .b false], .br true, .reg [.n]]) (fr := true) (by kernel_rfl) ⟨⟨⟨trivial, trivial⟩, ⟨⟨⟨nawake_ok k _ h526, ⟨trivial, trivial⟩⟩, ⟨(not_f h527), trivial⟩⟩, ⟨⟨trivial, ⟨trivial, ⟨trivial, ⟨trivial, ⟨⟨(decide_eq_false h528), trivial⟩, ⟨⟨(decide_eq_false h528), nspeculumlaw06_lists_ok k a1 6 _ h530⟩, ⟨⟨(decide_eq_false h528), trivial⟩, ⟨(decide_eq_false h528), trivial⟩⟩⟩⟩⟩⟩⟩⟩, ⟨(not_t (bool_f h531)), ⟨⟨trivial, trivial⟩, trivial⟩⟩⟩⟩⟩, ⟨trivial, trivial⟩⟩ (Wv.refl _)
    · rw [if_neg h527] at h
      injection h with h; subst h
      exact fun_ok pm pn Go.Proofs.Try.func4 (q := ((((True) ∧ True) ∧ (((VC Go.Proofs.Try.prog 13 [] (vb r525)) ∧ (True) ∧ True) ∧ (((!r525) = true) ∧ (((True) ∧ True) ∧ (True))))) ∧ ((True) ∧ (True)))) (r0 := vb false) (ans := [.reg [.n], .reg [.call (vb r525), .n], .br true, .reg [.n]]) (fr := true) (by kernel_rfl) ⟨⟨⟨trivial, trivial⟩, ⟨⟨nawake_ok k _ h526, ⟨trivial, trivial⟩⟩, ⟨(not_t (bool_f h527)), ⟨⟨trivial, trivial⟩, trivial⟩⟩⟩⟩, ⟨trivial, trivial⟩⟩ (Wv.refl _)
end Go.Proofs.Yteicfenmfnpmgaa.Vg

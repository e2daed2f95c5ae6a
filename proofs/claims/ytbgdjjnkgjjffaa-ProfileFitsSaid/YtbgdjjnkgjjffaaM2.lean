/- Written by a program out of the program: what Go functions do, as plain functions, and their contracts. -/
import Derived.Test.YtbgdjjnkgjjffaaM1
namespace Go.Proofs.Ytbgdjjnkgjjffaa.Vg
set_option linter.unusedVariables false
set_option linter.unusedSimpArgs false
open Go Go.Proofs.Ytbgdjjnkgjjffaa.Ev Go.Proofs.Ytbgdjjnkgjjffaa.Vv
def nspeculumbase_Within (k : Nat) (a0 : Int) (a1 : Int) (a2 : Int) : Option Bool :=
  if a1 ≤ a0 then (some (decide (a0 ≤ a2))) else (some false)
set_option maxRecDepth 100000 in
set_option maxHeartbeats 4000000 in
theorem nspeculumbase_Within_ok (k : Nat) (a0 : Int) (a1 : Int) (a2 : Int) (r : Bool) (h : nspeculumbase_Within k a0 a1 a2 = some r) : VC Go.Proofs.Try.prog 37 [vi a0, vi a1, vi a2] (vb r) := by
  unfold nspeculumbase_Within at h
  by_cases h486 : a1 ≤ a0
  · rw [if_pos h486] at h
    injection h with h; subst h
    exact fun_ok pm pn Go.Proofs.Try.func37 (q := ((((True) ∧ True) ∧ (((True) ∧ (True) ∧ (True) ∧ (True) ∧ (((decide (a1 ≤ a0)) = true ∧ True)) ∧ (((decide (a1 ≤ a0)) = true ∧ True)) ∧ (((decide (a1 ≤ a0)) = true ∧ True)) ∧ ((decide (a1 ≤ a0)) = true) ∧ (True) ∧ True) ∧ (True))) ∧ ((True) ∧ (True)))) (r0 := vb (decide (a0 ≤ a2))) (ans := [.reg [.n], .reg [.n, .n, .n, .n, .n, .n, .n, .b true, .n]]) (fr := true) (by kernel_rfl) ⟨⟨⟨trivial, trivial⟩, ⟨⟨trivial, ⟨trivial, ⟨trivial, ⟨trivial, ⟨⟨(decide_eq_true h486), trivial⟩, ⟨⟨(decide_eq_true h486), trivial⟩, ⟨⟨(decide_eq_true h486), trivial⟩, ⟨(decide_eq_true h486), ⟨trivial, trivial⟩⟩⟩⟩⟩⟩⟩⟩⟩, trivial⟩⟩, ⟨trivial, trivial⟩⟩ (Wv.refl _)
  · rw [if_neg h486] at h
    injection h with h; subst h
    exact fun_ok pm pn Go.Proofs.Try.func37 (q := ((((True) ∧ True) ∧ (((True) ∧ (True) ∧ (True) ∧ (True) ∧ ((decide (a1 ≤ a0)) = !true) ∧ ((decide (a1 ≤ a0)) = !true) ∧ ((decide (a1 ≤ a0)) = !true) ∧ ((decide (a1 ≤ a0)) = false) ∧ (True) ∧ True) ∧ (True))) ∧ ((True) ∧ (True)))) (r0 := vb false) (ans := [.reg [.n], .reg [.n, .n, .n, .n, .skip, .skip, .skip, .b false, .n]]) (fr := true) (by kernel_rfl) ⟨⟨⟨trivial, trivial⟩, ⟨⟨trivial, ⟨trivial, ⟨trivial, ⟨trivial, ⟨(decide_eq_false h486), ⟨(decide_eq_false h486), ⟨(decide_eq_false h486), ⟨(decide_eq_false h486), ⟨trivial, trivial⟩⟩⟩⟩⟩⟩⟩⟩⟩, trivial⟩⟩, ⟨trivial, trivial⟩⟩ (Wv.refl _)
def nspeculumref05_FitErr_l0_0 (k : Nat) (a0 : (List (List Int))) (a1 : (List Int)) : Nat → Int → Option (Sum Unit Unit)
  | 0, _ => none
  | fuel + 1, x5 => if x5 < (a0.length : Int) then (if 0 ≤ x5 ∧ x5 < (a0.length : Int) then (if ((a0.getD x5.toNat default).length : Int) = (a1.length : Int) then (nspeculumref05_FitErr_l0_0 k a0 a1 fuel (w64 (x5 + 1))) else (some (.inl ()))) else none) else (some (.inr ()))
set_option maxRecDepth 100000 in
set_option maxHeartbeats 4000000 in
theorem nspeculumref05_FitErr_l0_0_ok (k : Nat) (a0 : (List (List Int))) (a1 : (List Int)) : ∀ (fuel : Nat) (x5 : Int) (r : Sum Unit Unit), nspeculumref05_FitErr_l0_0 k a0 a1 fuel x5 = some r → (match r with | .inl r => VLoop none Go.Proofs.Try.prog (szF Go.Proofs.Try.f24) (bodyOf Go.Proofs.Try.f24 0) ⟨mkA [(0, VV.tr (List.map v_41 a0) a0.length), (1, VV.tr (List.map vi a1) a1.length), (5, vi x5)], [], .nil⟩ .ret ⟨mkA [(4, vi 10)], [], .nil⟩ | .inr r => VLoop none Go.Proofs.Try.prog (szF Go.Proofs.Try.f24) (bodyOf Go.Proofs.Try.f24 0) ⟨mkA [(0, VV.tr (List.map v_41 a0) a0.length), (1, VV.tr (List.map vi a1) a1.length), (5, vi x5)], [], .nil⟩ (.exit 0) ⟨mkA [(0, VV.tr (List.map v_41 a0) a0.length), (1, VV.tr (List.map vi a1) a1.length)], [], .nil⟩) := by
  intro fuel
  induction fuel with
  | zero => intro x5 r h; rw [nspeculumref05_FitErr_l0_0.eq_1] at h; cases h
  | succ fuel ih =>
    intro x5 r h
    rw [nspeculumref05_FitErr_l0_0.eq_2] at h
    by_cases h610 : x5 < (a0.length : Int)
    · rw [if_pos h610] at h
      by_cases h611 : 0 ≤ x5 ∧ x5 < (a0.length : Int)
      · rw [if_pos h611] at h
        by_cases h612 : ((a0.getD x5.toNat default).length : Int) = (a1.length : Int)
        · rw [if_pos h612] at h
          have h2 := ih _ _ h
          have hv : vRound none Go.Proofs.Try.prog Go.Proofs.Try.f24 0 ⟨mkA [(0, VV.tr (List.map v_41 a0) a0.length), (1, VV.tr (List.map vi a1) a1.length), (5, vi x5)], [], .nil⟩ [.reg [.n, .n, .n, .n], .br true, .reg [.n, .n, .n, .v (VV.tr (List.map vi (a0.getD x5.toNat default)) ((a0.getD x5.toNat default).length)), .n, .n, .n, .n], .br false, .reg [.n, .n, .n]] ⟨[(0, none), (1, none), (5, none)], [], []⟩ = some (.normal, ⟨mkA [(0, VV.tr (List.map v_41 a0) a0.length), (1, VV.tr (List.map vi a1) a1.length), (5, vi (w64 (x5 + 1)))], [], .nil⟩, ((((True) ∧ (True) ∧ (True) ∧ (True) ∧ True) ∧ (((decide (x5 < (a0.length : Int))) = true) ∧ (True))) ∧ ((((True) ∧ (True) ∧ (0 ≤ x5 ∧ x5 < ((a0.length : Nat) : Int)) ∧ (loadL Go.Proofs.Try.prog 41 (x5.toNat * 1) (List.map v_41 a0) = some (VV.tr (List.map vi (a0.getD x5.toNat default)) ((a0.getD x5.toNat default).length))) ∧ (True) ∧ (True) ∧ (True) ∧ (True) ∧ True) ∧ (((!(decide (((a0.getD x5.toNat default).length : Int) = (a1.length : Int)))) = false) ∧ (True))) ∧ ((True) ∧ (True) ∧ (True) ∧ True))) ∧ (((True)) ∧ ((True)))) := by kernel_rfl
          have hq : ((((True) ∧ (True) ∧ (True) ∧ (True) ∧ True) ∧ (((decide (x5 < (a0.length : Int))) = true) ∧ (True))) ∧ ((((True) ∧ (True) ∧ (0 ≤ x5 ∧ x5 < ((a0.length : Nat) : Int)) ∧ (loadL Go.Proofs.Try.prog 41 (x5.toNat * 1) (List.map v_41 a0) = some (VV.tr (List.map vi (a0.getD x5.toNat default)) ((a0.getD x5.toNat default).length))) ∧ (True) ∧ (True) ∧ (True) ∧ (True) ∧ True) ∧ (((!(decide (((a0.getD x5.toNat default).length : Int) = (a1.length : Int)))) = false) ∧ (True))) ∧ ((True) ∧ (True) ∧ (True) ∧ True))) ∧ (((True)) ∧ ((True))) := ⟨⟨⟨⟨trivial, ⟨trivial, ⟨trivial, ⟨trivial, trivial⟩⟩⟩⟩, ⟨(decide_eq_true h610), trivial⟩⟩, ⟨⟨⟨trivial, ⟨trivial, ⟨h611, ⟨ld_map ag41 v_41 a0 default h611 (by omega), ⟨trivial, ⟨trivial, ⟨trivial, ⟨trivial, trivial⟩⟩⟩⟩⟩⟩⟩⟩, ⟨(not_f (decide_eq_true h612)), trivial⟩⟩, ⟨trivial, ⟨trivial, ⟨trivial, trivial⟩⟩⟩⟩⟩, ⟨trivial, trivial⟩⟩
          cases r with
          | inl r => exact round_next pm pn hv hq h2
          | inr r =>
            exact round_next pm pn hv hq h2
        · rw [if_neg h612] at h
          injection h with h; subst h
          exact round_stop (c := ⟨[(4, none)], [], []⟩) (q := ((((True) ∧ (True) ∧ (True) ∧ (True) ∧ True) ∧ (((decide (x5 < (a0.length : Int))) = true) ∧ (True))) ∧ (((True) ∧ (True) ∧ (0 ≤ x5 ∧ x5 < ((a0.length : Nat) : Int)) ∧ (loadL Go.Proofs.Try.prog 41 (x5.toNat * 1) (List.map v_41 a0) = some (VV.tr (List.map vi (a0.getD x5.toNat default)) ((a0.getD x5.toNat default).length))) ∧ (True) ∧ (True) ∧ (True) ∧ (True) ∧ True) ∧ (((!(decide (((a0.getD x5.toNat default).length : Int) = (a1.length : Int)))) = true) ∧ (((True) ∧ True) ∧ (True))))) ∧ (((True)) ∧ ((True)))) (s1 := ⟨mkA [(4, vi 10)], [], .nil⟩) pm pn (ans := [.reg [.n, .n, .n, .n], .br true, .reg [.n, .n, .n, .v (VV.tr (List.map vi (a0.getD x5.toNat default)) ((a0.getD x5.toNat default).length)), .n, .n, .n, .n], .br true, .reg [.n]]) (by kernel_rfl) (by intro e; cases e) ⟨⟨⟨⟨trivial, ⟨trivial, ⟨trivial, ⟨trivial, trivial⟩⟩⟩⟩, ⟨(decide_eq_true h610), trivial⟩⟩, ⟨⟨trivial, ⟨trivial, ⟨h611, ⟨ld_map ag41 v_41 a0 default h611 (by omega), ⟨trivial, ⟨trivial, ⟨trivial, ⟨trivial, trivial⟩⟩⟩⟩⟩⟩⟩⟩, ⟨(not_t (decide_eq_false h612)), ⟨⟨trivial, trivial⟩, trivial⟩⟩⟩⟩, ⟨trivial, trivial⟩⟩
      · rw [if_neg h611] at h; cases h
    · rw [if_neg h610] at h
      injection h with h; subst h
      exact round_stop (c := ⟨[(0, none), (1, none)], [], []⟩) (q := (((True) ∧ (True) ∧ (True) ∧ (True) ∧ True) ∧ (((decide (x5 < (a0.length : Int))) = false) ∧ (True))) ∧ (((True)) ∧ ((True)))) (s1 := ⟨mkA [(0, VV.tr (List.map v_41 a0) a0.length), (1, VV.tr (List.map vi a1) a1.length)], [], .nil⟩) pm pn (ans := [.reg [.n, .n, .n, .n], .br false]) (by kernel_rfl) (by intro e; cases e) ⟨⟨⟨trivial, ⟨trivial, ⟨trivial, ⟨trivial, trivial⟩⟩⟩⟩, ⟨(decide_eq_false h610), trivial⟩⟩, ⟨trivial, trivial⟩⟩
def nspeculumref05_FitErr_l2_0 (k : Nat) (a0 : (List (List Int))) (a1 : (List Int)) (x6 : Int) : Nat → Int → Option (Sum Unit Unit)
  | 0, _ => none
  | fuel + 1, x7 => if x7 < (a1.length : Int) then (if 0 ≤ x6 ∧ x6 < (a0.length : Int) then (if 0 ≤ x7 ∧ x7 < ((a0.getD x6.toNat default).length : Int) then ((nspeculumbase_Within k ((a0.getD x6.toNat default).getD x7.toNat 0) (-100) 100).bind fun r679 => (if r679 = true then (nspeculumref05_FitErr_l2_0 k a0 a1 x6 fuel (w64 (x7 + 1))) else (some (.inl ())))) else none) else none) else (some (.inr ()))
set_option maxRecDepth 100000 in
set_option maxHeartbeats 4000000 in
theorem nspeculumref05_FitErr_l2_0_ok (k : Nat) (a0 : (List (List Int))) (a1 : (List Int)) (x6 : Int) : ∀ (fuel : Nat) (x7 : Int) (r : Sum Unit Unit), nspeculumref05_FitErr_l2_0 k a0 a1 x6 fuel x7 = some r → (match r with | .inl r => VLoop none Go.Proofs.Try.prog (szF Go.Proofs.Try.f24) (bodyOf Go.Proofs.Try.f24 2) ⟨mkA [(0, VV.tr (List.map v_41 a0) a0.length), (1, VV.tr (List.map vi a1) a1.length), (6, vi x6), (7, vi x7)], [], .nil⟩ .ret ⟨mkA [(4, vi 2)], [], .nil⟩ | .inr r => VLoop none Go.Proofs.Try.prog (szF Go.Proofs.Try.f24) (bodyOf Go.Proofs.Try.f24 2) ⟨mkA [(0, VV.tr (List.map v_41 a0) a0.length), (1, VV.tr (List.map vi a1) a1.length), (6, vi x6), (7, vi x7)], [], .nil⟩ (.exit 4) ⟨mkA [(0, VV.tr (List.map v_41 a0) a0.length), (1, VV.tr (List.map vi a1) a1.length), (6, vi x6)], [], .nil⟩) := by
  intro fuel
  induction fuel with
  | zero => intro x7 r h; rw [nspeculumref05_FitErr_l2_0.eq_1] at h; cases h
  | succ fuel ih =>
    intro x7 r h
    rw [nspeculumref05_FitErr_l2_0.eq_2] at h
    by_cases h676 : x7 < (a1.length : Int)
    · rw [if_pos h676] at h
      by_cases h677 : 0 ≤ x6 ∧ x6 < (a0.length : Int)
      · rw [if_pos h677] at h
        by_cases h678 : 0 ≤ x7 ∧ x7 < ((a0.getD x6.toNat default).length : Int)
        · rw [if_pos h678] at h
          cases h680 : nspeculumbase_Within k ((a0.getD x6.toNat default).getD x7.toNat 0) (-100) 100 with
          | none => rw [h680] at h; cases h
          | some r679 =>
            rw [h680, Option.bind_some] at h
            by_cases h681 : r679 = true
            · rw [if_pos h681] at h
              have h2 := ih _ _ h
              have hv : vRound none Go.Proofs.Try.prog Go.Proofs.Try.f24 2 ⟨mkA [(0, VV.tr (List.map v_41 a0) a0.length), (1, VV.tr (List.map vi a1) a1.length), (6, vi x6), (7, vi x7)], [], .nil⟩ [.reg [.n, .n, .n, .n], .br true, .reg [.n, .n, .n, .v (VV.tr (List.map vi (a0.getD x6.toNat default)) ((a0.getD x6.toNat default).length)), .n, .n, .v (vi ((a0.getD x6.toNat default).getD x7.toNat 0)), .call (vb r679), .n], .br false, .reg [.n, .n, .n]] ⟨[(0, none), (1, none), (6, none), (7, none)], [], []⟩ = some (.normal, ⟨mkA [(0, VV.tr (List.map v_41 a0) a0.length), (1, VV.tr (List.map vi a1) a1.length), (6, vi x6), (7, vi (w64 (x7 + 1)))], [], .nil⟩, ((((True) ∧ (True) ∧ (True) ∧ (True) ∧ True) ∧ (((decide (x7 < (a1.length : Int))) = true) ∧ (True))) ∧ ((((True) ∧ (True) ∧ (0 ≤ x6 ∧ x6 < ((a0.length : Nat) : Int)) ∧ (loadL Go.Proofs.Try.prog 41 (x6.toNat * 1) (List.map v_41 a0) = some (VV.tr (List.map vi (a0.getD x6.toNat default)) ((a0.getD x6.toNat default).length))) ∧ (True) ∧ (0 ≤ x7 ∧ x7 < (((a0.getD x6.toNat default).length : Nat) : Int)) ∧ (loadL Go.Proofs.Try.prog 3 (x7.toNat * 1) (List.map vi (a0.getD x6.toNat default)) = some (vi ((a0.getD x6.toNat default).getD x7.toNat 0))) ∧ (VC Go.Proofs.Try.prog 37 [vi ((a0.getD x6.toNat default).getD x7.toNat 0), vi (-100), vi 100] (vb r679)) ∧ (True) ∧ True) ∧ (((!r679) = false) ∧ (True))) ∧ ((True) ∧ (True) ∧ (True) ∧ True))) ∧ (((True)) ∧ ((True)))) := by kernel_rfl
              have hq : ((((True) ∧ (True) ∧ (True) ∧ (True) ∧ True) ∧ (((decide (x7 < (a1.length : Int))) = true) ∧ (True))) ∧ ((((True) ∧ (True) ∧ (0 ≤ x6 ∧ x6 < ((a0.length : Nat) : Int)) ∧ (loadL Go.Proofs.Try.prog 41 (x6.toNat * 1) (List.map v_41 a0) = some (VV.tr (List.map vi (a0.getD x6.toNat default)) ((a0.getD x6.toNat default).length))) ∧ (True) ∧ (0 ≤ x7 ∧ x7 < (((a0.getD x6.toNat default).length : Nat) : Int)) ∧ (loadL Go.Proofs.Try.prog 3 (x7.toNat * 1) (List.map vi (a0.getD x6.toNat default)) = some (vi ((a0.getD x6.toNat default).getD x7.toNat 0))) ∧ (VC Go.Proofs.Try.prog 37 [vi ((a0.getD x6.toNat default).getD x7.toNat 0), vi (-100), vi 100] (vb r679)) ∧ (True) ∧ True) ∧ (((!r679) = false) ∧ (True))) ∧ ((True) ∧ (True) ∧ (True) ∧ True))) ∧ (((True)) ∧ ((True))) := ⟨⟨⟨⟨trivial, ⟨trivial, ⟨trivial, ⟨trivial, trivial⟩⟩⟩⟩, ⟨(decide_eq_true h676), trivial⟩⟩, ⟨⟨⟨trivial, ⟨trivial, ⟨h677, ⟨ld_map ag41 v_41 a0 default h677 (by omega), ⟨trivial, ⟨h678, ⟨ld_map ag3 vi (a0.getD x6.toNat default) 0 h678 (by omega), ⟨nspeculumbase_Within_ok k ((a0.getD x6.toNat default).getD x7.toNat 0) (-100) 100 _ h680, ⟨trivial, trivial⟩⟩⟩⟩⟩⟩⟩⟩⟩, ⟨(not_f h681), trivial⟩⟩, ⟨trivial, ⟨trivial, ⟨trivial, trivial⟩⟩⟩⟩⟩, ⟨trivial, trivial⟩⟩
              cases r with
              | inl r => exact round_next pm pn hv hq h2
              | inr r =>
                exact round_next pm pn hv hq h2
            · rw [if_neg h681] at h
              injection h with h; subst h
              exact round_stop (c := ⟨[(4, none)], [], []⟩) (q := ((((True) ∧ (True) ∧ (True) ∧ (True) ∧ True) ∧ (((decide (x7 < (a1.length : Int))) = true) ∧ (True))) ∧ (((True) ∧ (True) ∧ (0 ≤ x6 ∧ x6 < ((a0.length : Nat) : Int)) ∧ (loadL Go.Proofs.Try.prog 41 (x6.toNat * 1) (List.map v_41 a0) = some (VV.tr (List.map vi (a0.getD x6.toNat default)) ((a0.getD x6.toNat default).length))) ∧ (True) ∧ (0 ≤ x7 ∧ x7 < (((a0.getD x6.toNat default).length : Nat) : Int)) ∧ (loadL Go.Proofs.Try.prog 3 (x7.toNat * 1) (List.map vi (a0.getD x6.toNat default)) = some (vi ((a0.getD x6.toNat default).getD x7.toNat 0))) ∧ (VC Go.Proofs.Try.prog 37 [vi ((a0.getD x6.toNat default).getD x7.toNat 0), vi (-100), vi 100] (vb r679)) ∧ (True) ∧ True) ∧ (((!r679) = true) ∧ (((True) ∧ True) ∧ (True))))) ∧ (((True)) ∧ ((True)))) (s1 := ⟨mkA [(4, vi 2)], [], .nil⟩) pm pn (ans := [.reg [.n, .n, .n, .n], .br true, .reg [.n, .n, .n, .v (VV.tr (List.map vi (a0.getD x6.toNat default)) ((a0.getD x6.toNat default).length)), .n, .n, .v (vi ((a0.getD x6.toNat default).getD x7.toNat 0)), .call (vb r679), .n], .br true, .reg [.n]]) (by kernel_rfl) (by intro e; cases e) ⟨⟨⟨⟨trivial, ⟨trivial, ⟨trivial, ⟨trivial, trivial⟩⟩⟩⟩, ⟨(decide_eq_true h676), trivial⟩⟩, ⟨⟨trivial, ⟨trivial, ⟨h677, ⟨ld_map ag41 v_41 a0 default h677 (by omega), ⟨trivial, ⟨h678, ⟨ld_map ag3 vi (a0.getD x6.toNat default) 0 h678 (by omega), ⟨nspeculumbase_Within_ok k ((a0.getD x6.toNat default).getD x7.toNat 0) (-100) 100 _ h680, ⟨trivial, trivial⟩⟩⟩⟩⟩⟩⟩⟩⟩, ⟨(not_t (bool_f h681)), ⟨⟨trivial, trivial⟩, trivial⟩⟩⟩⟩, ⟨trivial, trivial⟩⟩
        · rw [if_neg h678] at h; cases h
      · rw [if_neg h677] at h; cases h
    · rw [if_neg h676] at h
      injection h with h; subst h
      exact round_stop (c := ⟨[(0, none), (1, none), (6, none)], [], []⟩) (q := (((True) ∧ (True) ∧ (True) ∧ (True) ∧ True) ∧ (((decide (x7 < (a1.length : Int))) = false) ∧ (True))) ∧ (((True)) ∧ ((True)))) (s1 := ⟨mkA [(0, VV.tr (List.map v_41 a0) a0.length), (1, VV.tr (List.map vi a1) a1.length), (6, vi x6)], [], .nil⟩) pm pn (ans := [.reg [.n, .n, .n, .n], .br false]) (by kernel_rfl) (by intro e; cases e) ⟨⟨⟨trivial, ⟨trivial, ⟨trivial, ⟨trivial, trivial⟩⟩⟩⟩, ⟨(decide_eq_false h676), trivial⟩⟩, ⟨trivial, trivial⟩⟩
def nspeculumref05_FitErr_l1_0 (k : Nat) (a0 : (List (List Int))) (a1 : (List Int)) : Nat → Int → Option (Sum Unit Unit)
  | 0, _ => none
  | fuel + 1, x6 => if x6 < (a0.length : Int) then ((nspeculumref05_FitErr_l2_0 k a0 a1 x6 k 0).bind fun r683 => (match r683 with | .inl r684 => (some (.inl ())) | .inr r685 => (nspeculumref05_FitErr_l1_0 k a0 a1 fuel (w64 (x6 + 1))))) else (some (.inr ()))
set_option maxRecDepth 100000 in
set_option maxHeartbeats 4000000 in
theorem nspeculumref05_FitErr_l1_0_ok (k : Nat) (a0 : (List (List Int))) (a1 : (List Int)) : ∀ (fuel : Nat) (x6 : Int) (r : Sum Unit Unit), nspeculumref05_FitErr_l1_0 k a0 a1 fuel x6 = some r → (match r with | .inl r => VLoop none Go.Proofs.Try.prog (szF Go.Proofs.Try.f24) (bodyOf Go.Proofs.Try.f24 1) ⟨mkA [(0, VV.tr (List.map v_41 a0) a0.length), (1, VV.tr (List.map vi a1) a1.length), (6, vi x6)], [], .nil⟩ .ret ⟨mkA [(4, vi 2)], [], .nil⟩ | .inr r => VLoop none Go.Proofs.Try.prog (szF Go.Proofs.Try.f24) (bodyOf Go.Proofs.Try.f24 1) ⟨mkA [(0, VV.tr (List.map v_41 a0) a0.length), (1, VV.tr (List.map vi a1) a1.length), (6, vi x6)], [], .nil⟩ (.exit 2) ⟨mkA [(1, VV.tr (List.map vi a1) a1.length)], [], .nil⟩) := by
  intro fuel
  induction fuel with
  | zero => intro x6 r h; rw [nspeculumref05_FitErr_l1_0.eq_1] at h; cases h
  | succ fuel ih =>
    intro x6 r h
    rw [nspeculumref05_FitErr_l1_0.eq_2] at h
    by_cases h663 : x6 < (a0.length : Int)
    · rw [if_pos h663] at h
      cases h682 : nspeculumref05_FitErr_l2_0 k a0 a1 x6 k 0 with
      | none => rw [h682] at h; cases h
      | some r683 =>
        rw [h682, Option.bind_some] at h
        have hph682 := nspeculumref05_FitErr_l2_0_ok k a0 a1 x6 _ _ _ h682
        cases r683 with
        | inl r684 =>
          dsimp only at h
          injection h with h; subst h
          exact round_stop (c := ⟨[(4, none)], [], []⟩) (q := ((((True) ∧ (True) ∧ (True) ∧ (True) ∧ True) ∧ (((decide (x6 < (a0.length : Int))) = true) ∧ (True))) ∧ (((True) ∧ True) ∧ (((((True)) ∧ ((True))) ∧ VRun none Go.Proofs.Try.prog (szF Go.Proofs.Try.f24) (.loop (bodyOf Go.Proofs.Try.f24 2)) ⟨mkA [(0, VV.tr (List.map v_41 a0) a0.length), (1, VV.tr (List.map vi a1) a1.length), (6, vi x6), (7, vi 0)], [], .nil⟩ .ret ⟨mkA [(4, vi 2)], [], .nil⟩)))) ∧ (((True)) ∧ ((True)))) (s1 := ⟨mkA [(4, vi 2)], [], .nil⟩) pm pn (ans := [.reg [.n, .n, .n, .n], .br true, .reg [.n], .sub ⟨[(0, none), (1, none), (6, none), (7, none)], [], []⟩ .ret ⟨mkA [(4, vi 2)], [], .nil⟩]) (by kernel_rfl) (by intro e; cases e) ⟨⟨⟨⟨trivial, ⟨trivial, ⟨trivial, ⟨trivial, trivial⟩⟩⟩⟩, ⟨(decide_eq_true h663), trivial⟩⟩, ⟨⟨trivial, trivial⟩, ⟨⟨trivial, trivial⟩, VRun.loop hph682⟩⟩⟩, ⟨trivial, trivial⟩⟩
        | inr r685 =>
          dsimp only at h
          have h2 := ih _ _ h
          have hv : vRound none Go.Proofs.Try.prog Go.Proofs.Try.f24 1 ⟨mkA [(0, VV.tr (List.map v_41 a0) a0.length), (1, VV.tr (List.map vi a1) a1.length), (6, vi x6)], [], .nil⟩ [.reg [.n, .n, .n, .n], .br true, .reg [.n], .sub ⟨[(0, none), (1, none), (6, none), (7, none)], [], []⟩ (.exit 4) ⟨mkA [(0, VV.tr (List.map v_41 a0) a0.length), (1, VV.tr (List.map vi a1) a1.length), (6, vi x6)], [], .nil⟩, .reg [.n, .n, .n]] ⟨[(0, none), (1, none), (6, none)], [], []⟩ = some (.normal, ⟨mkA [(0, VV.tr (List.map v_41 a0) a0.length), (1, VV.tr (List.map vi a1) a1.length), (6, vi (w64 (x6 + 1)))], [], .nil⟩, ((((True) ∧ (True) ∧ (True) ∧ (True) ∧ True) ∧ (((decide (x6 < (a0.length : Int))) = true) ∧ (True))) ∧ ((((True) ∧ True) ∧ (((((True)) ∧ ((True))) ∧ VRun none Go.Proofs.Try.prog (szF Go.Proofs.Try.f24) (.loop (bodyOf Go.Proofs.Try.f24 2)) ⟨mkA [(0, VV.tr (List.map v_41 a0) a0.length), (1, VV.tr (List.map vi a1) a1.length), (6, vi x6), (7, vi 0)], [], .nil⟩ (.exit 4) ⟨mkA [(0, VV.tr (List.map v_41 a0) a0.length), (1, VV.tr (List.map vi a1) a1.length), (6, vi x6)], [], .nil⟩))) ∧ ((True) ∧ (True) ∧ (True) ∧ True))) ∧ (((True)) ∧ ((True)))) := by kernel_rfl
          have hq : ((((True) ∧ (True) ∧ (True) ∧ (True) ∧ True) ∧ (((decide (x6 < (a0.length : Int))) = true) ∧ (True))) ∧ ((((True) ∧ True) ∧ (((((True)) ∧ ((True))) ∧ VRun none Go.Proofs.Try.prog (szF Go.Proofs.Try.f24) (.loop (bodyOf Go.Proofs.Try.f24 2)) ⟨mkA [(0, VV.tr (List.map v_41 a0) a0.length), (1, VV.tr (List.map vi a1) a1.length), (6, vi x6), (7, vi 0)], [], .nil⟩ (.exit 4) ⟨mkA [(0, VV.tr (List.map v_41 a0) a0.length), (1, VV.tr (List.map vi a1) a1.length), (6, vi x6)], [], .nil⟩))) ∧ ((True) ∧ (True) ∧ (True) ∧ True))) ∧ (((True)) ∧ ((True))) := ⟨⟨⟨⟨trivial, ⟨trivial, ⟨trivial, ⟨trivial, trivial⟩⟩⟩⟩, ⟨(decide_eq_true h663), trivial⟩⟩, ⟨⟨⟨trivial, trivial⟩, ⟨⟨trivial, trivial⟩, VRun.loop hph682⟩⟩, ⟨trivial, ⟨trivial, ⟨trivial, trivial⟩⟩⟩⟩⟩, ⟨trivial, trivial⟩⟩
          cases r with
          | inl r => exact round_next pm pn hv hq h2
          | inr r =>
            exact round_next pm pn hv hq h2
    · rw [if_neg h663] at h
      injection h with h; subst h
      exact round_stop (c := ⟨[(1, none)], [], []⟩) (q := (((True) ∧ (True) ∧ (True) ∧ (True) ∧ True) ∧ (((decide (x6 < (a0.length : Int))) = false) ∧ (True))) ∧ (((True)) ∧ ((True)))) (s1 := ⟨mkA [(1, VV.tr (List.map vi a1) a1.length)], [], .nil⟩) pm pn (ans := [.reg [.n, .n, .n, .n], .br false]) (by kernel_rfl) (by intro e; cases e) ⟨⟨⟨trivial, ⟨trivial, ⟨trivial, ⟨trivial, trivial⟩⟩⟩⟩, ⟨(decide_eq_false h663), trivial⟩⟩, ⟨trivial, trivial⟩⟩
def nspeculumref05_FitErr_l3_0 (k : Nat) (a1 : (List Int)) : Nat → Int → Option (Sum Unit Unit)
  | 0, _ => none
  | fuel + 1, x8 => if x8 < (a1.length : Int) then (if 0 ≤ x8 ∧ x8 < (a1.length : Int) then ((nspeculumbase_Within k (a1.getD x8.toNat 0) (-5000) 5000).bind fun r702 => (if r702 = true then (nspeculumref05_FitErr_l3_0 k a1 fuel (w64 (x8 + 1))) else (some (.inl ())))) else none) else (some (.inr ()))
set_option maxRecDepth 100000 in
set_option maxHeartbeats 4000000 in
theorem nspeculumref05_FitErr_l3_0_ok (k : Nat) (a1 : (List Int)) : ∀ (fuel : Nat) (x8 : Int) (r : Sum Unit Unit), nspeculumref05_FitErr_l3_0 k a1 fuel x8 = some r → (match r with | .inl r => VLoop none Go.Proofs.Try.prog (szF Go.Proofs.Try.f24) (bodyOf Go.Proofs.Try.f24 3) ⟨mkA [(1, VV.tr (List.map vi a1) a1.length), (8, vi x8)], [], .nil⟩ .ret ⟨mkA [(4, vi 2)], [], .nil⟩ | .inr r => VLoop none Go.Proofs.Try.prog (szF Go.Proofs.Try.f24) (bodyOf Go.Proofs.Try.f24 3) ⟨mkA [(1, VV.tr (List.map vi a1) a1.length), (8, vi x8)], [], .nil⟩ (.exit 6) ⟨mkA [], [], .nil⟩) := by
  intro fuel
  induction fuel with
  | zero => intro x8 r h; rw [nspeculumref05_FitErr_l3_0.eq_1] at h; cases h
  | succ fuel ih =>
    intro x8 r h
    rw [nspeculumref05_FitErr_l3_0.eq_2] at h
    by_cases h700 : x8 < (a1.length : Int)
    · rw [if_pos h700] at h
      by_cases h701 : 0 ≤ x8 ∧ x8 < (a1.length : Int)
      · rw [if_pos h701] at h
        cases h703 : nspeculumbase_Within k (a1.getD x8.toNat 0) (-5000) 5000 with
        | none => rw [h703] at h; cases h
        | some r702 =>
          rw [h703, Option.bind_some] at h
          by_cases h704 : r702 = true
          · rw [if_pos h704] at h
            have h2 := ih _ _ h
            have hv : vRound none Go.Proofs.Try.prog Go.Proofs.Try.f24 3 ⟨mkA [(1, VV.tr (List.map vi a1) a1.length), (8, vi x8)], [], .nil⟩ [.reg [.n, .n, .n, .n], .br true, .reg [.n, .n, .n, .v (vi (a1.getD x8.toNat 0)), .call (vb r702), .n], .br false, .reg [.n, .n, .n]] ⟨[(1, none), (8, none)], [], []⟩ = some (.normal, ⟨mkA [(1, VV.tr (List.map vi a1) a1.length), (8, vi (w64 (x8 + 1)))], [], .nil⟩, ((((True) ∧ (True) ∧ (True) ∧ (True) ∧ True) ∧ (((decide (x8 < (a1.length : Int))) = true) ∧ (True))) ∧ ((((True) ∧ (True) ∧ (0 ≤ x8 ∧ x8 < ((a1.length : Nat) : Int)) ∧ (loadL Go.Proofs.Try.prog 3 (x8.toNat * 1) (List.map vi a1) = some (vi (a1.getD x8.toNat 0))) ∧ (VC Go.Proofs.Try.prog 37 [vi (a1.getD x8.toNat 0), vi (-5000), vi 5000] (vb r702)) ∧ (True) ∧ True) ∧ (((!r702) = false) ∧ (True))) ∧ ((True) ∧ (True) ∧ (True) ∧ True))) ∧ (((True)) ∧ ((True)))) := by kernel_rfl
            have hq : ((((True) ∧ (True) ∧ (True) ∧ (True) ∧ True) ∧ (((decide (x8 < (a1.length : Int))) = true) ∧ (True))) ∧ ((((True) ∧ (True) ∧ (0 ≤ x8 ∧ x8 < ((a1.length : Nat) : Int)) ∧ (loadL Go.Proofs.Try.prog 3 (x8.toNat * 1) (List.map vi a1) = some (vi (a1.getD x8.toNat 0))) ∧ (VC Go.Proofs.Try.prog 37 [vi (a1.getD x8.toNat 0), vi (-5000), vi 5000] (vb r702)) ∧ (True) ∧ True) ∧ (((!r702) = false) ∧ (True))) ∧ ((True) ∧ (True) ∧ (True) ∧ True))) ∧ (((True)) ∧ ((True))) := ⟨⟨⟨⟨trivial, ⟨trivial, ⟨trivial, ⟨trivial, trivial⟩⟩⟩⟩, ⟨(decide_eq_true h700), trivial⟩⟩, ⟨⟨⟨trivial, ⟨trivial, ⟨h701, ⟨ld_map ag3 vi a1 0 h701 (by omega), ⟨nspeculumbase_Within_ok k (a1.getD x8.toNat 0) (-5000) 5000 _ h703, ⟨trivial, trivial⟩⟩⟩⟩⟩⟩, ⟨(not_f h704), trivial⟩⟩, ⟨trivial, ⟨trivial, ⟨trivial, trivial⟩⟩⟩⟩⟩, ⟨trivial, trivial⟩⟩
            cases r with
            | inl r => exact round_next pm pn hv hq h2
            | inr r =>
              exact round_next pm pn hv hq h2
          · rw [if_neg h704] at h
            injection h with h; subst h
            exact round_stop (c := ⟨[(4, none)], [], []⟩) (q := ((((True) ∧ (True) ∧ (True) ∧ (True) ∧ True) ∧ (((decide (x8 < (a1.length : Int))) = true) ∧ (True))) ∧ (((True) ∧ (True) ∧ (0 ≤ x8 ∧ x8 < ((a1.length : Nat) : Int)) ∧ (loadL Go.Proofs.Try.prog 3 (x8.toNat * 1) (List.map vi a1) = some (vi (a1.getD x8.toNat 0))) ∧ (VC Go.Proofs.Try.prog 37 [vi (a1.getD x8.toNat 0), vi (-5000), vi 5000] (vb r702)) ∧ (True) ∧ True) ∧ (((!r702) = true) ∧ (((True) ∧ True) ∧ (True))))) ∧ (((True)) ∧ ((True)))) (s1 := ⟨mkA [(4, vi 2)], [], .nil⟩) pm pn (ans := [.reg [.n, .n, .n, .n], .br true, .reg [.n, .n, .n, .v (vi (a1.getD x8.toNat 0)), .call (vb r702), .n], .br true, .reg [.n]]) (by kernel_rfl) (by intro e; cases e) ⟨⟨⟨⟨trivial, ⟨trivial, ⟨trivial, ⟨trivial, trivial⟩⟩⟩⟩, ⟨(decide_eq_true h700), trivial⟩⟩, ⟨⟨trivial, ⟨trivial, ⟨h701, ⟨ld_map ag3 vi a1 0 h701 (by omega), ⟨nspeculumbase_Within_ok k (a1.getD x8.toNat 0) (-5000) 5000 _ h703, ⟨trivial, trivial⟩⟩⟩⟩⟩⟩, ⟨(not_t (bool_f h704)), ⟨⟨trivial, trivial⟩, trivial⟩⟩⟩⟩, ⟨trivial, trivial⟩⟩
      · rw [if_neg h701] at h; cases h
    · rw [if_neg h700] at h
      injection h with h; subst h
      exact round_stop (c := ⟨[], [], []⟩) (q := (((True) ∧ (True) ∧ (True) ∧ (True) ∧ True) ∧ (((decide (x8 < (a1.length : Int))) = false) ∧ (True))) ∧ (((True)) ∧ ((True)))) (s1 := ⟨mkA [], [], .nil⟩) pm pn (ans := [.reg [.n, .n, .n, .n], .br false]) (by kernel_rfl) (by intro e; cases e) ⟨⟨⟨trivial, ⟨trivial, ⟨trivial, ⟨trivial, trivial⟩⟩⟩⟩, ⟨(decide_eq_false h700), trivial⟩⟩, ⟨trivial, trivial⟩⟩
def nspeculumref05_FitErr (k : Nat) (a0 : (List (List Int))) (a1 : (List Int)) : Option Int :=
  (nspeculumbase_Within k (a1.length : Int) 1 20).bind fun r598 => (if r598 = true then ((nspeculumbase_Within k (a0.length : Int) 1 2).bind fun r601 => (if r601 = true then ((nspeculumref05_FitErr_l0_0 k a0 a1 k 0).bind fun r614 => (match r614 with | .inl r615 => (some 10) | .inr r616 => ((nspeculumref05_FitErr_l1_0 k a0 a1 k 0).bind fun r687 => (match r687 with | .inl r688 => (some 2) | .inr r689 => ((nspeculumref05_FitErr_l3_0 k a1 k 0).bind fun r706 => (match r706 with | .inl r707 => (some 2) | .inr r708 => (some 0))))))) else (some 10))) else (some 10))
set_option maxRecDepth 100000 in
set_option maxHeartbeats 4000000 in
theorem nspeculumref05_FitErr_ok (k : Nat) (a0 : (List (List Int))) (a1 : (List Int)) (r : Int) (h : nspeculumref05_FitErr k a0 a1 = some r) : VC Go.Proofs.Try.prog 24 [VV.tr (List.map v_41 a0) a0.length, VV.tr (List.map vi a1) a1.length] (vi r) := by
  unfold nspeculumref05_FitErr at h
  cases h599 : nspeculumbase_Within k (a1.length : Int) 1 20 with
  | none => rw [h599] at h; cases h
  | some r598 =>
    rw [h599, Option.bind_some] at h
    by_cases h600 : r598 = true
    · rw [if_pos h600] at h
      cases h602 : nspeculumbase_Within k (a0.length : Int) 1 2 with
      | none => rw [h602] at h; cases h
      | some r601 =>
        rw [h602, Option.bind_some] at h
        by_cases h603 : r601 = true
        · rw [if_pos h603] at h
          cases h613 : nspeculumref05_FitErr_l0_0 k a0 a1 k 0 with
          | none => rw [h613] at h; cases h
          | some r614 =>
            rw [h613, Option.bind_some] at h
            have hph613 := nspeculumref05_FitErr_l0_0_ok k a0 a1 _ _ _ h613
            cases r614 with
            | inl r615 =>
              dsimp only at h
              injection h with h; subst h
              exact fun_ok pm pn Go.Proofs.Try.func24 (q := ((((True) ∧ True) ∧ ((((True) ∧ (True) ∧ (VC Go.Proofs.Try.prog 37 [vi (a1.length : Int), vi 1, vi 20] (vb r598)) ∧ (True) ∧ (True) ∧ (((!r598) = false ∧ True)) ∧ (((!r598) = false ∧ True)) ∧ (((!r598) = false ∧ VC Go.Proofs.Try.prog 37 [vi (a0.length : Int), vi 1, vi 2] (vb r601))) ∧ (((!r598) = false ∧ True)) ∧ ((!r598) = false) ∧ True) ∧ (((!r601) = false) ∧ (True))) ∧ (((True) ∧ True) ∧ (((((True)) ∧ ((True))) ∧ VRun none Go.Proofs.Try.prog (szF Go.Proofs.Try.f24) (.loop (bodyOf Go.Proofs.Try.f24 0)) ⟨mkA [(0, VV.tr (List.map v_41 a0) a0.length), (1, VV.tr (List.map vi a1) a1.length), (5, vi 0)], [], .nil⟩ .ret ⟨mkA [(4, vi 10)], [], .nil⟩))))) ∧ ((True) ∧ (True)))) (r0 := vi 10) (ans := [.reg [.n], .reg [.n, .n, .call (vb r598), .n, .n, .n, .n, .call (vb r601), .n, .b false], .br false, .reg [.n], .sub ⟨[(0, none), (1, none), (5, none)], [], []⟩ .ret ⟨mkA [(4, vi 10)], [], .nil⟩]) (fr := true) (by kernel_rfl) ⟨⟨⟨trivial, trivial⟩, ⟨⟨⟨trivial, ⟨trivial, ⟨nspeculumbase_Within_ok k (a1.length : Int) 1 20 _ h599, ⟨trivial, ⟨trivial, ⟨⟨(not_f h600), trivial⟩, ⟨⟨(not_f h600), trivial⟩, ⟨⟨(not_f h600), nspeculumbase_Within_ok k (a0.length : Int) 1 2 _ h602⟩, ⟨⟨(not_f h600), trivial⟩, ⟨(not_f h600), trivial⟩⟩⟩⟩⟩⟩⟩⟩⟩⟩, ⟨(not_f h603), trivial⟩⟩, ⟨⟨trivial, trivial⟩, ⟨⟨trivial, trivial⟩, VRun.loop hph613⟩⟩⟩⟩, ⟨trivial, trivial⟩⟩ (Wv.refl _)
            | inr r616 =>
              dsimp only at h
              cases h686 : nspeculumref05_FitErr_l1_0 k a0 a1 k 0 with
              | none => rw [h686] at h; cases h
              | some r687 =>
                rw [h686, Option.bind_some] at h
                have hph686 := nspeculumref05_FitErr_l1_0_ok k a0 a1 _ _ _ h686
                cases r687 with
                | inl r688 =>
                  dsimp only at h
                  injection h with h; subst h
                  exact fun_ok pm pn Go.Proofs.Try.func24 (q := ((((True) ∧ True) ∧ ((((True) ∧ (True) ∧ (VC Go.Proofs.Try.prog 37 [vi (a1.length : Int), vi 1, vi 20] (vb r598)) ∧ (True) ∧ (True) ∧ (((!r598) = false ∧ True)) ∧ (((!r598) = false ∧ True)) ∧ (((!r598) = false ∧ VC Go.Proofs.Try.prog 37 [vi (a0.length : Int), vi 1, vi 2] (vb r601))) ∧ (((!r598) = false ∧ True)) ∧ ((!r598) = false) ∧ True) ∧ (((!r601) = false) ∧ (True))) ∧ ((((True) ∧ True) ∧ (((((True)) ∧ ((True))) ∧ VRun none Go.Proofs.Try.prog (szF Go.Proofs.Try.f24) (.loop (bodyOf Go.Proofs.Try.f24 0)) ⟨mkA [(0, VV.tr (List.map v_41 a0) a0.length), (1, VV.tr (List.map vi a1) a1.length), (5, vi 0)], [], .nil⟩ (.exit 0) ⟨mkA [(0, VV.tr (List.map v_41 a0) a0.length), (1, VV.tr (List.map vi a1) a1.length)], [], .nil⟩))) ∧ (((True) ∧ True) ∧ (((((True)) ∧ ((True))) ∧ VRun none Go.Proofs.Try.prog (szF Go.Proofs.Try.f24) (.loop (bodyOf Go.Proofs.Try.f24 1)) ⟨mkA [(0, VV.tr (List.map v_41 a0) a0.length), (1, VV.tr (List.map vi a1) a1.length), (6, vi 0)], [], .nil⟩ .ret ⟨mkA [(4, vi 2)], [], .nil⟩)))))) ∧ ((True) ∧ (True)))) (r0 := vi 2) (ans := [.reg [.n], .reg [.n, .n, .call (vb r598), .n, .n, .n, .n, .call (vb r601), .n, .b false], .br false, .reg [.n], .sub ⟨[(0, none), (1, none), (5, none)], [], []⟩ (.exit 0) ⟨mkA [(0, VV.tr (List.map v_41 a0) a0.length), (1, VV.tr (List.map vi a1) a1.length)], [], .nil⟩, .reg [.n], .sub ⟨[(0, none), (1, none), (6, none)], [], []⟩ .ret ⟨mkA [(4, vi 2)], [], .nil⟩]) (fr := true) (by kernel_rfl) ⟨⟨⟨trivial, trivial⟩, ⟨⟨⟨trivial, ⟨trivial, ⟨nspeculumbase_Within_ok k (a1.length : Int) 1 20 _ h599, ⟨trivial, ⟨trivial, ⟨⟨(not_f h600), trivial⟩, ⟨⟨(not_f h600), trivial⟩, ⟨⟨(not_f h600), nspeculumbase_Within_ok k (a0.length : Int) 1 2 _ h602⟩, ⟨⟨(not_f h600), trivial⟩, ⟨(not_f h600), trivial⟩⟩⟩⟩⟩⟩⟩⟩⟩⟩, ⟨(not_f h603), trivial⟩⟩, ⟨⟨⟨trivial, trivial⟩, ⟨⟨trivial, trivial⟩, VRun.loop hph613⟩⟩, ⟨⟨trivial, trivial⟩, ⟨⟨trivial, trivial⟩, VRun.loop hph686⟩⟩⟩⟩⟩, ⟨trivial, trivial⟩⟩ (Wv.refl _)
                | inr r689 =>
                  dsimp only at h
                  cases h705 : nspeculumref05_FitErr_l3_0 k a1 k 0 with
                  | none => rw [h705] at h; cases h
                  | some r706 =>
                    rw [h705, Option.bind_some] at h
                    have hph705 := nspeculumref05_FitErr_l3_0_ok k a1 _ _ _ h705
                    cases r706 with
                    | inl r707 =>
                      dsimp only at h
                      injection h with h; subst h
                      exact fun_ok pm pn Go.Proofs.Try.func24 (q := ((((True) ∧ True) ∧ ((((True) ∧ (True) ∧ (VC Go.Proofs.Try.prog 37 [vi (a1.length : Int), vi 1, vi 20] (vb r598)) ∧ (True) ∧ (True) ∧ (((!r598) = false ∧ True)) ∧ (((!r598) = false ∧ True)) ∧ (((!r598) = false ∧ VC Go.Proofs.Try.prog 37 [vi (a0.length : Int), vi 1, vi 2] (vb r601))) ∧ (((!r598) = false ∧ True)) ∧ ((!r598) = false) ∧ True) ∧ (((!r601) = false) ∧ (True))) ∧ ((((True) ∧ True) ∧ (((((True)) ∧ ((True))) ∧ VRun none Go.Proofs.Try.prog (szF Go.Proofs.Try.f24) (.loop (bodyOf Go.Proofs.Try.f24 0)) ⟨mkA [(0, VV.tr (List.map v_41 a0) a0.length), (1, VV.tr (List.map vi a1) a1.length), (5, vi 0)], [], .nil⟩ (.exit 0) ⟨mkA [(0, VV.tr (List.map v_41 a0) a0.length), (1, VV.tr (List.map vi a1) a1.length)], [], .nil⟩))) ∧ ((((True) ∧ True) ∧ (((((True)) ∧ ((True))) ∧ VRun none Go.Proofs.Try.prog (szF Go.Proofs.Try.f24) (.loop (bodyOf Go.Proofs.Try.f24 1)) ⟨mkA [(0, VV.tr (List.map v_41 a0) a0.length), (1, VV.tr (List.map vi a1) a1.length), (6, vi 0)], [], .nil⟩ (.exit 2) ⟨mkA [(1, VV.tr (List.map vi a1) a1.length)], [], .nil⟩))) ∧ (((True) ∧ True) ∧ (((((True)) ∧ ((True))) ∧ VRun none Go.Proofs.Try.prog (szF Go.Proofs.Try.f24) (.loop (bodyOf Go.Proofs.Try.f24 3)) ⟨mkA [(1, VV.tr (List.map vi a1) a1.length), (8, vi 0)], [], .nil⟩ .ret ⟨mkA [(4, vi 2)], [], .nil⟩))))))) ∧ ((True) ∧ (True)))) (r0 := vi 2) (ans := [.reg [.n], .reg [.n, .n, .call (vb r598), .n, .n, .n, .n, .call (vb r601), .n, .b false], .br false, .reg [.n], .sub ⟨[(0, none), (1, none), (5, none)], [], []⟩ (.exit 0) ⟨mkA [(0, VV.tr (List.map v_41 a0) a0.length), (1, VV.tr (List.map vi a1) a1.length)], [], .nil⟩, .reg [.n], .sub ⟨[(0, none), (1, none), (6, none)], [], []⟩ (.exit 2) ⟨mkA [(1, VV.tr (List.map vi a1) a1.length)], [], .nil⟩, .reg [.n], .sub ⟨[(1, none), (8, none)], [], []⟩ .ret ⟨mkA [(4, vi 2)], [], .nil⟩]) (fr := true) (by kernel_rfl) ⟨⟨⟨trivial, trivial⟩, ⟨⟨⟨trivial, ⟨trivial, ⟨nspeculumbase_Within_ok k (a1.length : Int) 1 20 _ h599, ⟨trivial, ⟨trivial, ⟨⟨(not_f h600), trivial⟩, ⟨⟨(not_f h600), trivial⟩, ⟨⟨(not_f h600), nspeculumbase_Within_ok k (a0.length : Int) 1 2 _ h602⟩, ⟨⟨(not_f h600), trivial⟩, ⟨(not_f h600), trivial⟩⟩⟩⟩⟩⟩⟩⟩⟩⟩, ⟨(not_f h603), trivial⟩⟩, ⟨⟨⟨trivial, trivial⟩, ⟨⟨trivial, trivial⟩, VRun.loop hph613⟩⟩, ⟨⟨⟨trivial, trivial⟩, ⟨⟨trivial, trivial⟩, VRun.loop hph686⟩⟩, ⟨⟨trivial, trivial⟩, ⟨⟨trivial, trivial⟩, VRun.loop hph705⟩⟩⟩⟩⟩⟩, ⟨trivial, trivial⟩⟩ (Wv.refl _)
                    | inr r708 =>
                      dsimp only at h
                      injection h with h; subst h
                      exact fun_ok pm pn Go.Proofs.Try.func24 (q := ((((True) ∧ True) ∧ ((((True) ∧ (True) ∧ (VC Go.Proofs.Try.prog 37 [vi (a1.length : Int), vi 1, vi 20] (vb r598)) ∧ (True) ∧ (True) ∧ (((!r598) = false ∧ True)) ∧ (((!r598) = false ∧ True)) ∧ (((!r598) = false ∧ VC Go.Proofs.Try.prog 37 [vi (a0.length : Int), vi 1, vi 2] (vb r601))) ∧ (((!r598) = false ∧ True)) ∧ ((!r598) = false) ∧ True) ∧ (((!r601) = false) ∧ (True))) ∧ ((((True) ∧ True) ∧ (((((True)) ∧ ((True))) ∧ VRun none Go.Proofs.Try.prog (szF Go.Proofs.Try.f24) (.loop (bodyOf Go.Proofs.Try.f24 0)) ⟨mkA [(0, VV.tr (List.map v_41 a0) a0.length), (1, VV.tr (List.map vi a1) a1.length), (5, vi 0)], [], .nil⟩ (.exit 0) ⟨mkA [(0, VV.tr (List.map v_41 a0) a0.length), (1, VV.tr (List.map vi a1) a1.length)], [], .nil⟩))) ∧ ((((True) ∧ True) ∧ (((((True)) ∧ ((True))) ∧ VRun none Go.Proofs.Try.prog (szF Go.Proofs.Try.f24) (.loop (bodyOf Go.Proofs.Try.f24 1)) ⟨mkA [(0, VV.tr (List.map v_41 a0) a0.length), (1, VV.tr (List.map vi a1) a1.length), (6, vi 0)], [], .nil⟩ (.exit 2) ⟨mkA [(1, VV.tr (List.map vi a1) a1.length)], [], .nil⟩))) ∧ ((((True) ∧ True) ∧ (((((True)) ∧ ((True))) ∧ VRun none Go.Proofs.Try.prog (szF Go.Proofs.Try.f24) (.loop (bodyOf Go.Proofs.Try.f24 3)) ⟨mkA [(1, VV.tr (List.map vi a1) a1.length), (8, vi 0)], [], .nil⟩ (.exit 6) ⟨mkA [], [], .nil⟩))) ∧ (((True) ∧ True) ∧ (True))))))) ∧ ((True) ∧ (True)))) (r0 := vi 0) (ans := [.reg [.n], .reg [.n, .n, .call (vb r598), .n, .n, .n, .n, .call (vb r601), .n, .b false], .br false, .reg [.n], .sub ⟨[(0, none), (1, none), (5, none)], [], []⟩ (.exit 0) ⟨mkA [(0, VV.tr (List.map v_41 a0) a0.length), (1, VV.tr (List.map vi a1) a1.length)], [], .nil⟩, .reg [.n], .sub ⟨[(0, none), (1, none), (6, none)], [], []⟩ (.exit 2) ⟨mkA [(1, VV.tr (List.map vi a1) a1.length)], [], .nil⟩, .reg [.n], .sub ⟨[(1, none), (8, none)], [], []⟩ (.exit 6) ⟨mkA [], [], .nil⟩, .reg [.n]]) (fr := true) (by kernel_rfl) ⟨⟨⟨trivial, trivial⟩, ⟨⟨⟨trivial, ⟨trivial, ⟨nspeculumbase_Within_ok k (a1.length : Int) 1 20 _ h599, ⟨trivial, ⟨trivial, ⟨⟨(not_f h600), trivial⟩, ⟨⟨(not_f h600), trivial⟩, ⟨⟨(not_f h600), nspeculumbase_Within_ok k (a0.length : Int) 1 2 _ h602⟩, ⟨⟨(not_f h600), trivial⟩, ⟨(not_f h600), trivial⟩⟩⟩⟩⟩⟩⟩⟩⟩⟩, ⟨(not_f h603), trivial⟩⟩, ⟨⟨⟨trivial, trivial⟩, ⟨⟨trivial, trivial⟩, VRun.loop hph613⟩⟩, ⟨⟨⟨trivial, trivial⟩, ⟨⟨trivial, trivial⟩, VRun.loop hph686⟩⟩, ⟨⟨⟨trivial, trivial⟩, ⟨⟨trivial, trivial⟩, VRun.loop hph705⟩⟩, ⟨⟨trivial, trivial⟩, trivial⟩⟩⟩⟩⟩⟩, ⟨trivial, trivial⟩⟩ (Wv.refl _)
        · rw [if_neg h603] at h
          injection h with h; subst h
          exact fun_ok pm pn Go.Proofs.Try.func24 (q := ((((True) ∧ True) ∧ (((True) ∧ (True) ∧ (VC Go.Proofs.Try.prog 37 [vi (a1.length : Int), vi 1, vi 20] (vb r598)) ∧ (True) ∧ (True) ∧ (((!r598) = false ∧ True)) ∧ (((!r598) = false ∧ True)) ∧ (((!r598) = false ∧ VC Go.Proofs.Try.prog 37 [vi (a0.length : Int), vi 1, vi 2] (vb r601))) ∧ (((!r598) = false ∧ True)) ∧ ((!r598) = false) ∧ True) ∧ (((!r601) = true) ∧ (((True) ∧ True) ∧ (True))))) ∧ ((True) ∧ (True)))) (r0 := vi 10) (ans := [.reg [.n], .reg [.n, .n, .call (vb r598), .n, .n, .n, .n, .call (vb r601), .n, .b false], .br true, .reg [.n]]) (fr := true) (by kernel_rfl) ⟨⟨⟨trivial, trivial⟩, ⟨⟨trivial, ⟨trivial, ⟨nspeculumbase_Within_ok k (a1.length : Int) 1 20 _ h599, ⟨trivial, ⟨trivial, ⟨⟨(not_f h600), trivial⟩, ⟨⟨(not_f h600), trivial⟩, ⟨⟨(not_f h600), nspeculumbase_Within_ok k (a0.length : Int) 1 2 _ h602⟩, ⟨⟨(not_f h600), trivial⟩, ⟨(not_f h600), trivial⟩⟩⟩⟩⟩⟩⟩⟩⟩⟩, ⟨(not_t (bool_f h603)), ⟨⟨trivial, trivial⟩, trivial⟩⟩⟩⟩, ⟨trivial, trivial⟩⟩ (Wv.refl _)
    · rw [if_neg h600] at h
      injection h with h; subst h
      exact fun_ok pm pn Go.Proofs.Try.func24 (q := ((((True) ∧ True) ∧ (((True) ∧ (True) ∧ (VC Go.Proofs.Try.prog 37 [vi (a1.length : Int), vi 1, vi 20] (vb r598)) ∧ (True) ∧ (True) ∧ ((!r598) = !false) ∧ ((!r598) = !false) ∧ ((!r598) = !false) ∧ ((!r598) = !false) ∧ ((!r598) = true) ∧ True) ∧ ((true = true) ∧ (((True) ∧ True) ∧ (True))))) ∧ ((True) ∧ (True)))) (r0 := vi 10) (ans := [.reg [.n], .reg [.n, .n, .call (vb r598), .n, .n, .skip, .skip, .skip, .skip, .b true], .br true, .reg [.n]]) (fr := true) (by kernel_rfl) ⟨⟨⟨trivial, trivial⟩, ⟨⟨trivial, ⟨trivial, ⟨nspeculumbase_Within_ok k (a1.length : Int) 1 20 _ h599, ⟨trivial, ⟨trivial, ⟨(not_t (bool_f h600)), ⟨(not_t (bool_f h600)), ⟨(not_t (bool_f h600)), ⟨(not_t (bool_f h600)), ⟨(not_t (bool_f h600)), trivial⟩⟩⟩⟩⟩⟩⟩⟩⟩⟩, ⟨rfl, ⟨⟨trivial, trivial⟩, trivial⟩⟩⟩⟩, ⟨trivial, trivial⟩⟩ (Wv.refl _)
def nspeculumbase_Abs (k : Nat) (a0 : Int) : Option Int :=
  if a0 < 0 then (some (w64 (0 - a0))) else (some a0)
set_option maxRecDepth 100000 in
set_option maxHeartbeats 4000000 in
theorem nspeculumbase_Abs_ok (k : Nat) (a0 : Int) (r : Int) (h : nspeculumbase_Abs k a0 = some r) : VC Go.Proofs.Try.prog 43 [vi a0] (vi r) := by
  unfold nspeculumbase_Abs at h
  by_cases h727 : a0 < 0
  · rw [if_pos h727] at h
    injection h with h; subst h
    exact fun_ok pm pn Go.Proofs.Try.func43 (q := ((((True) ∧ True) ∧ (((True) ∧ (True) ∧ True) ∧ (((decide (a0 < 0)) = true) ∧ (((True) ∧ (True) ∧ (True) ∧ True) ∧ (True))))) ∧ ((True) ∧ (True)))) (r0 := vi (w64 (0 - a0))) (ans := [.reg [.n], .reg [.n, .n], .br true, .reg [.n, .n, .n]]) (fr := true) (by kernel_rfl) ⟨⟨⟨trivial, trivial⟩, ⟨⟨trivial, ⟨trivial, trivial⟩⟩, ⟨(decide_eq_true h727), ⟨⟨trivial, ⟨trivial, ⟨trivial, trivial⟩⟩⟩, trivial⟩⟩⟩⟩, ⟨trivial, trivial⟩⟩ (Wv.refl _)
  · rw [if_neg h727] at h
    injection h with h; subst h
    exact fun_ok pm pn Go.Proofs.Try.func43 (q := ((((True) ∧ True) ∧ ((((True) ∧ (True) ∧ True) ∧ (((decide (a0 < 0)) = false) ∧ (True))) ∧ (((True) ∧ (True) ∧ True) ∧ (True)))) ∧ ((True) ∧ (True)))) (r0 := vi a0) (ans := [.reg [.n], .reg [.n, .n], .br false, .reg [.n, .n]]) (fr := true) (by kernel_rfl) ⟨⟨⟨trivial, trivial⟩, ⟨⟨⟨trivial, ⟨trivial, trivial⟩⟩, ⟨(decide_eq_false h727), trivial⟩⟩, ⟨⟨trivial, ⟨trivial, trivial⟩⟩, trivial⟩⟩⟩, ⟨trivial, trivial⟩⟩ (Wv.refl _)
def nspeculumbase_Gcd_l0_0 (k : Nat)  : Nat → Int → Int → Option (Int)
  | 0, _, _ => none
  | fuel + 1, x0, x1 => if x1 = 0 then (some x0) else (if x1 ≠ 0 then (nspeculumbase_Gcd_l0_0 k  fuel x1 (x0.tmod x1)) else none)
set_option maxRecDepth 100000 in
set_option maxHeartbeats 4000000 in
theorem nspeculumbase_Gcd_l0_0_ok (k : Nat)  : ∀ (fuel : Nat) (x0 : Int) (x1 : Int) (r : Int), nspeculumbase_Gcd_l0_0 k  fuel x0 x1 = some r → (VLoop none Go.Proofs.Try.prog (szF Go.Proofs.Try.f48) (bodyOf Go.Proofs.Try.f48 0) ⟨mkA [(0, vi x0), (1, vi x1)], [], .nil⟩ (.exit 0) ⟨mkA [(0, vi r)], [], .nil⟩) := by
  intro fuel
  induction fuel with
  | zero => intro x0 x1 r h; rw [nspeculumbase_Gcd_l0_0.eq_1] at h; cases h
  | succ fuel ih =>
    intro x0 x1 r h
    rw [nspeculumbase_Gcd_l0_0.eq_2] at h
    by_cases h734 : x1 = 0
    · rw [if_pos h734] at h
      injection h with h; subst h
      exact round_stop (c := ⟨[(0, none)], [], []⟩) (q := (((True) ∧ (True) ∧ True) ∧ (((!(decide (x1 = 0))) = false) ∧ (True))) ∧ (((True)) ∧ ((True)))) (s1 := ⟨mkA [(0, vi x0)], [], .nil⟩) pm pn (ans := [.reg [.n, .n], .br false]) (by kernel_rfl) (by intro e; cases e) ⟨⟨⟨trivial, ⟨trivial, trivial⟩⟩, ⟨(not_f (decide_eq_true h734)), trivial⟩⟩, ⟨trivial, trivial⟩⟩
    · rw [if_neg h734] at h
      by_cases h735 : x1 ≠ 0
      · rw [if_pos h735] at h
        have h2 := ih _ _ _ h
        have hv : vRound none Go.Proofs.Try.prog Go.Proofs.Try.f48 0 ⟨mkA [(0, vi x0), (1, vi x1)], [], .nil⟩ [.reg [.n, .n], .br true, .reg [.n, .n, .n, .n, .n, .n]] ⟨[(0, none), (1, none)], [], []⟩ = some (.normal, ⟨mkA [(0, vi x1), (1, vi (x0.tmod x1))], [], .nil⟩, ((((True) ∧ (True) ∧ True) ∧ (((!(decide (x1 = 0))) = true) ∧ (True))) ∧ ((True) ∧ (True) ∧ (True) ∧ (x1 ≠ 0) ∧ (True) ∧ (True) ∧ True)) ∧ (((True)) ∧ ((True)))) := by kernel_rfl
        have hq : ((((True) ∧ (True) ∧ True) ∧ (((!(decide (x1 = 0))) = true) ∧ (True))) ∧ ((True) ∧ (True) ∧ (True) ∧ (x1 ≠ 0) ∧ (True) ∧ (True) ∧ True)) ∧ (((True)) ∧ ((True))) := ⟨⟨⟨⟨trivial, ⟨trivial, trivial⟩⟩, ⟨(not_t (decide_eq_false h734)), trivial⟩⟩, ⟨trivial, ⟨trivial, ⟨trivial, ⟨h735, ⟨trivial, ⟨trivial, trivial⟩⟩⟩⟩⟩⟩⟩, ⟨trivial, trivial⟩⟩
        exact round_next pm pn hv hq h2
      · rw [if_neg h735] at h; cases h
def nspeculumbase_Gcd (k : Nat) (a0 : Int) (a1 : Int) : Option Int :=
  (nspeculumbase_Gcd_l0_0 k k a0 a1).bind fun r737 => ((nspeculumbase_Abs k r737).bind fun r738 => (some r738))
set_option maxRecDepth 100000 in
set_option maxHeartbeats 4000000 in
theorem nspeculumbase_Gcd_ok (k : Nat) (a0 : Int) (a1 : Int) (r : Int) (h : nspeculumbase_Gcd k a0 a1 = some r) : VC Go.Proofs.Try.prog 48 [vi a0, vi a1] (vi r) := by
  unfold nspeculumbase_Gcd at h
  cases h736 : nspeculumbase_Gcd_l0_0 k k a0 a1 with
  | none => rw [h736] at h; cases h
  | some r737 =>
    rw [h736, Option.bind_some] at h
    have hph736 := nspeculumbase_Gcd_l0_0_ok k  _ _ _ _ h736
    cases h739 : nspeculumbase_Abs k r737 with
    | none => rw [h739] at h; cases h
    | some r738 =>
      rw [h739, Option.bind_some] at h
      injection h with h; subst h
      exact fun_ok pm pn Go.Proofs.Try.func48 (q := ((((True) ∧ True) ∧ ((((((True)) ∧ ((True))) ∧ VRun none Go.Proofs.Try.prog (szF Go.Proofs.Try.f48) (.loop (bodyOf Go.Proofs.Try.f48 0)) ⟨mkA [(0, vi a0), (1, vi a1)], [], .nil⟩ (.exit 0) ⟨mkA [(0, vi r737)], [], .nil⟩)) ∧ (((True) ∧ (VC Go.Proofs.Try.prog 43 [vi r737] (vi r738)) ∧ (True) ∧ True) ∧ (True)))) ∧ ((True) ∧ (True)))) (r0 := vi r738) (ans := [.reg [.n], .sub ⟨[(0, none), (1, none)], [], []⟩ (.exit 0) ⟨mkA [(0, vi r737)], [], .nil⟩, .reg [.n, .call (vi r738), .n]]) (fr := true) (by kernel_rfl) ⟨⟨⟨trivial, trivial⟩, ⟨⟨⟨trivial, trivial⟩, VRun.loop hph736⟩, ⟨⟨trivial, ⟨nspeculumbase_Abs_ok k r737 _ h739, ⟨trivial, trivial⟩⟩⟩, trivial⟩⟩⟩, ⟨trivial, trivial⟩⟩ (Wv.refl _)
def nspeculumref05_CheckFit_l0_0 (k : Nat) (a0 : (List (List Int))) (a1 : (List Int)) (a2 : STermFit) : Nat → Int → Int → Option (Sum Unit Int)
  | 0, _, _ => none
  | fuel + 1, x7, x8 => if x8 < (a2.Nums.length : Int) then (if 0 ≤ x8 ∧ x8 < (a2.Nums.length : Int) then ((nspeculumbase_Within k (a2.Nums.getD x8.toNat 0) (-10000000000000) 10000000000000).bind fun r959 => (if r959 = true then ((nspeculumbase_Gcd k x7 (a2.Nums.getD x8.toNat 0)).bind fun r962 => (nspeculumref05_CheckFit_l0_0 k a0 a1 a2 fuel r962 (w64 (x8 + 1)))) else (some (.inl ())))) else none) else (some (.inr x7))
set_option maxRecDepth 100000 in
set_option maxHeartbeats 4000000 in
theorem nspeculumref05_CheckFit_l0_0_ok (k : Nat) (a0 : (List (List Int))) (a1 : (List Int)) (a2 : STermFit) : ∀ (fuel : Nat) (x7 : Int) (x8 : Int) (r : Sum Unit Int), nspeculumref05_CheckFit_l0_0 k a0 a1 a2 fuel x7 x8 = some r → (match r with | .inl r => VLoop none Go.Proofs.Try.prog (szF Go.Proofs.Try.f25) (bodyOf Go.Proofs.Try.f25 0) ⟨mkA [(0, VV.tr (List.map v_41 a0) a0.length), (1, VV.tr (List.map vi a1) a1.length), (5, VV.pt 0 0), (7, vi x7), (8, vi x8)], [some ⟨true, 1, [VV.tr (List.map vi a2.Nums) a2.Nums.length, vi a2.Den]⟩], .nil⟩ .ret ⟨mkA [(6, vi 2)], [], .nil⟩ | .inr r => VLoop none Go.Proofs.Try.prog (szF Go.Proofs.Try.f25) (bodyOf Go.Proofs.Try.f25 0) ⟨mkA [(0, VV.tr (List.map v_41 a0) a0.length), (1, VV.tr (List.map vi a1) a1.length), (5, VV.pt 0 0), (7, vi x7), (8, vi x8)], [some ⟨true, 1, [VV.tr (List.map vi a2.Nums) a2.Nums.length, vi a2.Den]⟩], .nil⟩ (.exit 0) ⟨mkA [(0, VV.tr (List.map v_41 a0) a0.length), (1, VV.tr (List.map vi a1) a1.length), (5, VV.pt 0 0), (7, vi r)], [some ⟨true, 1, [VV.tr (List.map vi a2.Nums) a2.Nums.length, vi a2.Den]⟩], .nil⟩) := by
  intro fuel
  induction fuel with
  | zero => intro x7 x8 r h; rw [nspeculumref05_CheckFit_l0_0.eq_1] at h; cases h
  | succ fuel ih =>
    intro x7 x8 r h
    rw [nspeculumref05_CheckFit_l0_0.eq_2] at h
    by_cases h957 : x8 < (a2.Nums.length : Int)
    · rw [if_pos h957] at h
      by_cases h958 : 0 ≤ x8 ∧ x8 < (a2.Nums.length : Int)
      · rw [if_pos h958] at h
        cases h960 : nspeculumbase_Within k (a2.Nums.getD x8.toNat 0) (-10000000000000) 10000000000000 with
        | none => rw [h960] at h; cases h
        | some r959 =>
          rw [h960, Option.bind_some] at h
          by_cases h961 : r959 = true
          · rw [if_pos h961] at h
            cases h963 : nspeculumbase_Gcd k x7 (a2.Nums.getD x8.toNat 0) with
            | none => rw [h963] at h; cases h
            | some r962 =>
              rw [h963, Option.bind_some] at h
              have h2 := ih _ _ _ h
              have hv : vRound none Go.Proofs.Try.prog Go.Proofs.Try.f25 0 ⟨mkA [(0, VV.tr (List.map v_41 a0) a0.length), (1, VV.tr (List.map vi a1) a1.length), (5, VV.pt 0 0), (7, vi x7), (8, vi x8)], [some ⟨true, 1, [VV.tr (List.map vi a2.Nums) a2.Nums.length, vi a2.Den]⟩], .nil⟩ [.reg [.n, .n, .n, .n, .n], .br true, .reg [.n, .n, .n, .n, .v (vi (a2.Nums.getD x8.toNat 0)), .call (vb r959), .n], .br false, .reg [.n, .n, .n, .n, .n, .v (vi (a2.Nums.getD x8.toNat 0)), .call (vi r962), .n], .reg [.n, .n, .n]] ⟨[(0, none), (1, none), (5, none), (7, none), (8, none)], [none], []⟩ = some (.normal, ⟨mkA [(0, VV.tr (List.map v_41 a0) a0.length), (1, VV.tr (List.map vi a1) a1.length), (5, VV.pt 0 0), (7, vi r962), (8, vi (w64 (x8 + 1)))], [some ⟨true, 1, [VV.tr (List.map vi a2.Nums) a2.Nums.length, vi a2.Den]⟩], .nil⟩, ((((True) ∧ (True) ∧ (True) ∧ (True) ∧ (True) ∧ True) ∧ (((decide (x8 < (a2.Nums.length : Int))) = true) ∧ (True))) ∧ (((((True) ∧ (True) ∧ (True) ∧ (0 ≤ x8 ∧ x8 < ((a2.Nums.length : Nat) : Int)) ∧ (loadL Go.Proofs.Try.prog 3 (x8.toNat * 1) (List.map vi a2.Nums) = some (vi (a2.Nums.getD x8.toNat 0))) ∧ (VC Go.Proofs.Try.prog 37 [vi (a2.Nums.getD x8.toNat 0), vi (-10000000000000), vi 10000000000000] (vb r959)) ∧ (True) ∧ True) ∧ (((!r959) = false) ∧ (True))) ∧ ((True) ∧ (True) ∧ (True) ∧ (True) ∧ (0 ≤ x8 ∧ x8 < ((a2.Nums.length : Nat) : Int)) ∧ (loadL Go.Proofs.Try.prog 3 (x8.toNat * 1) (List.map vi a2.Nums) = some (vi (a2.Nums.getD x8.toNat 0))) ∧ (VC Go.Proofs.Try.prog 48 [vi x7, vi (a2.Nums.getD x8.toNat 0)] (vi r962)) ∧ (True) ∧ True)) ∧ ((True) ∧ (True) ∧ (True) ∧ True))) ∧ (((True)) ∧ ((True)))) := by kernel_rfl
              have hq : ((((True) ∧ (True) ∧ (True) ∧ (True) ∧ (True) ∧ True) ∧ (((decide (x8 < (a2.Nums.length : Int))) = true) ∧ (True))) ∧ (((((True) ∧ (True) ∧ (True) ∧ (0 ≤ x8 ∧ x8 < ((a2.Nums.length : Nat) : Int)) ∧ (loadL Go.Proofs.Try.prog 3 (x8.toNat * 1) (List.map vi a2.Nums) = some (vi (a2.Nums.getD x8.toNat 0))) ∧ (VC Go.Proofs.Try.prog 37 [vi (a2.Nums.getD x8.toNat 0), vi (-10000000000000), vi 10000000000000] (vb r959)) ∧ (True) ∧ True) ∧ (((!r959) = false) ∧ (True))) ∧ ((True) ∧ (True) ∧ (True) ∧ (True) ∧ (0 ≤ x8 ∧ x8 < ((a2.Nums.length : Nat) : Int)) ∧ (loadL Go.Proofs.Try.prog 3 (x8.toNat * 1) (List.map vi a2.Nums) = some (vi (a2.Nums.getD x8.toNat 0))) ∧ (VC Go.Proofs.Try.prog 48 [vi x7, vi (a2.Nums.getD x8.toNat 0)] (vi r962)) ∧ (True) ∧ True)) ∧ ((True) ∧ (True) ∧ (True) ∧ True))) ∧ (((True)) ∧ ((True))) := ⟨⟨⟨⟨trivial, ⟨trivial, ⟨trivial, ⟨trivial, ⟨trivial, trivial⟩⟩⟩⟩⟩, ⟨(decide_eq_true h957), trivial⟩⟩, ⟨⟨⟨⟨trivial, ⟨trivial, ⟨trivial, ⟨h958, ⟨ld_map ag3 vi a2.Nums 0 h958 (by omega), ⟨nspeculumbase_Within_ok k (a2.Nums.getD x8.toNat 0) (-10000000000000) 10000000000000 _ h960, ⟨trivial, trivial⟩⟩⟩⟩⟩⟩⟩, ⟨(not_f h961), trivial⟩⟩, ⟨trivial, ⟨trivial, ⟨trivial, ⟨trivial, ⟨h958, ⟨ld_map ag3 vi a2.Nums 0 h958 (by omega), ⟨nspeculumbase_Gcd_ok k x7 (a2.Nums.getD x8.toNat 0) _ h963, ⟨trivial, trivial⟩⟩⟩⟩⟩⟩⟩⟩⟩, ⟨trivial, ⟨trivial, ⟨trivial, trivial⟩⟩⟩⟩⟩, ⟨trivial, trivial⟩⟩
              cases r with
              | inl r => exact round_next pm pn hv hq h2
              | inr r =>
                exact round_next pm pn hv hq h2
          · rw [if_neg h961] at h
            injection h with h; subst h
            exact round_stop (c := ⟨[(6, none)], [], []⟩) (q := ((((True) ∧ (True) ∧ (True) ∧ (True) ∧ (True) ∧ True) ∧ (((decide (x8 < (a2.Nums.length : Int))) = true) ∧ (True))) ∧ (((True) ∧ (True) ∧ (True) ∧ (0 ≤ x8 ∧ x8 < ((a2.Nums.length : Nat) : Int)) ∧ (loadL Go.Proofs.Try.prog 3 (x8.toNat * 1) (List.map vi a2.Nums) = some (vi (a2.Nums.getD x8.toNat 0))) ∧ (VC Go.Proofs.Try.prog 37 [vi (a2.Nums.getD x8.toNat 0), vi (-10000000000000), vi 10000000000000] (vb r959)) ∧ (True) ∧ True) ∧ (((!r959) = true) ∧ (((True) ∧ True) ∧ (True))))) ∧ (((True)) ∧ ((True)))) (s1 := ⟨mkA [(6, vi 2)], [], .nil⟩) pm pn (ans := [.reg [.n, .n, .n, .n, .n], .br true, .reg [.n, .n, .n, .n, .v (vi (a2.Nums.getD x8.toNat 0)), .call (vb r959), .n], .br true, .reg [.n]]) (by kernel_rfl) (by intro e; cases e) ⟨⟨⟨⟨trivial, ⟨trivial, ⟨trivial, ⟨trivial, ⟨trivial, trivial⟩⟩⟩⟩⟩, ⟨(decide_eq_true h957), trivial⟩⟩, ⟨⟨trivial, ⟨trivial, ⟨trivial, ⟨h958, ⟨ld_map ag3 vi a2.Nums 0 h958 (by omega), ⟨nspeculumbase_Within_ok k (a2.Nums.getD x8.toNat 0) (-10000000000000) 10000000000000 _ h960, ⟨trivial, trivial⟩⟩⟩⟩⟩⟩⟩, ⟨(not_t (bool_f h961)), ⟨⟨trivial, trivial⟩, trivial⟩⟩⟩⟩, ⟨trivial, trivial⟩⟩
      · rw [if_neg h958] at h; cases h
    · rw [if_neg h957] at h
      injection h with h; subst h
      exact round_stop (c := ⟨[(0, none), (1, none), (5, none), (7, none)], [none], []⟩) (q := (((True) ∧ (True) ∧ (True) ∧ (True) ∧ (True) ∧ True) ∧ (((decide (x8 < (a2.Nums.length : Int))) = false) ∧ (True))) ∧ (((True)) ∧ ((True)))) (s1 := ⟨mkA [(0, VV.tr (List.map v_41 a0) a0.length), (1, VV.tr (List.map vi a1) a1.length), (5, VV.pt 0 0), (7, vi x7)], [some ⟨true, 1, [VV.tr (List.map vi a2.Nums) a2.Nums.length, vi a2.Den]⟩], .nil⟩) pm pn (ans := [.reg [.n, .n, .n, .n, .n], .br false]) (by kernel_rfl) (by intro e; cases e) ⟨⟨⟨trivial, ⟨trivial, ⟨trivial, ⟨trivial, ⟨trivial, trivial⟩⟩⟩⟩⟩, ⟨(decide_eq_false h957), trivial⟩⟩, ⟨trivial, trivial⟩⟩
def nspeculumref05_CheckFit_l3_0 (k : Nat) (a0 : (List (List Int))) (a1 : (List Int)) (a2 : STermFit) (x9 : Int) (x10 : Int) (x11 : Int) : Nat → Int → Int → Option (Int)
  | 0, _, _ => none
  | fuel + 1, x12, x13 => if x13 < (a0.length : Int) then (if 0 ≤ x13 ∧ x13 < (a2.Nums.length : Int) then (if 0 ≤ x13 ∧ x13 < (a0.length : Int) then (if 0 ≤ x11 ∧ x11 < ((a0.getD x13.toNat default).length : Int) then (nspeculumref05_CheckFit_l3_0 k a0 a1 a2 x9 x10 x11 fuel (w64 (x12 - (w64 ((a2.Nums.getD x13.toNat 0) * ((a0.getD x13.toNat default).getD x11.toNat 0))))) (w64 (x13 + 1))) else none) else none) else none) else (some x12)
set_option maxRecDepth 100000 in
set_option maxHeartbeats 4000000 in
theorem nspeculumref05_CheckFit_l3_0_ok (k : Nat) (a0 : (List (List Int))) (a1 : (List Int)) (a2 : STermFit) (x9 : Int) (x10 : Int) (x11 : Int) : ∀ (fuel : Nat) (x12 : Int) (x13 : Int) (r : Int), nspeculumref05_CheckFit_l3_0 k a0 a1 a2 x9 x10 x11 fuel x12 x13 = some r → (VLoop none Go.Proofs.Try.prog (szF Go.Proofs.Try.f25) (bodyOf Go.Proofs.Try.f25 3) ⟨mkA [(0, VV.tr (List.map v_41 a0) a0.length), (1, VV.tr (List.map vi a1) a1.length), (5, VV.pt 0 0), (9, vi x9), (10, vi x10), (11, vi x11), (12, vi x12), (13, vi x13)], [some ⟨true, 1, [VV.tr (List.map vi a2.Nums) a2.Nums.length, vi a2.Den]⟩], .nil⟩ (.exit 6) ⟨mkA [(0, VV.tr (List.map v_41 a0) a0.length), (1, VV.tr (List.map vi a1) a1.length), (5, VV.pt 0 0), (9, vi x9), (10, vi x10), (11, vi x11), (12, vi r)], [some ⟨true, 1, [VV.tr (List.map vi a2.Nums) a2.Nums.length, vi a2.Den]⟩], .nil⟩) := by
  intro fuel
  induction fuel with
  | zero => intro x12 x13 r h; rw [nspeculumref05_CheckFit_l3_0.eq_1] at h; cases h
  | succ fuel ih =>
    intro x12 x13 r h
    rw [nspeculumref05_CheckFit_l3_0.eq_2] at h
    by_cases h1132 : x13 < (a0.length : Int)
    · rw [if_pos h1132] at h
      by_cases h1133 : 0 ≤ x13 ∧ x13 < (a2.Nums.length : Int)
      · rw [if_pos h1133] at h
        by_cases h1134 : 0 ≤ x13 ∧ x13 < (a0.length : Int)
        · rw [if_pos h1134] at h
          by_cases h1135 : 0 ≤ x11 ∧ x11 < ((a0.getD x13.toNat default).length : Int)
          · rw [if_pos h1135] at h
            have h2 := ih _ _ _ h
            have hv : vRound none Go.Proofs.Try.prog Go.Proofs.Try.f25 3 ⟨mkA [(0, VV.tr (List.map v_41 a0) a0.length), (1, VV.tr (List.map vi a1) a1.length), (5, VV.pt 0 0), (9, vi x9), (10, vi x10), (11, vi x11), (12, vi x12), (13, vi x13)], [some ⟨true, 1, [VV.tr (List.map vi a2.Nums) a2.Nums.length, vi a2.Den]⟩], .nil⟩ [.reg [.n, .n, .n, .n], .br true, .reg [.n, .n, .n, .n, .n, .v (vi (a2.Nums.getD x13.toNat 0)), .n, .n, .n, .v (VV.tr (List.map vi (a0.getD x13.toNat default)) ((a0.getD x13.toNat default).length)), .n, .n, .v (vi ((a0.getD x13.toNat default).getD x11.toNat 0)), .n, .n, .n], .reg [.n, .n, .n]] ⟨[(0, none), (1, none), (5, none), (9, none), (10, none), (11, none), (12, none), (13, none)], [none], []⟩ = some (.normal, ⟨mkA [(0, VV.tr (List.map v_41 a0) a0.length), (1, VV.tr (List.map vi a1) a1.length), (5, VV.pt 0 0), (9, vi x9), (10, vi x10), (11, vi x11), (12, vi (w64 (x12 - (w64 ((a2.Nums.getD x13.toNat 0) * ((a0.getD x13.toNat default).getD x11.toNat 0)))))), (13, vi (w64 (x13 + 1)))], [some ⟨true, 1, [VV.tr (List.map vi a2.Nums) a2.Nums.length, vi a2.Den]⟩], .nil⟩, ((((True) ∧ (True) ∧ (True) ∧ (True) ∧ True) ∧ (((decide (x13 < (a0.length : Int))) = true) ∧ (True))) ∧ (((True) ∧ (True) ∧ (True) ∧ (True) ∧ (0 ≤ x13 ∧ x13 < ((a2.Nums.length : Nat) : Int)) ∧ (loadL Go.Proofs.Try.prog 3 (x13.toNat * 1) (List.map vi a2.Nums) = some (vi (a2.Nums.getD x13.toNat 0))) ∧ (True) ∧ (True) ∧ (0 ≤ x13 ∧ x13 < ((a0.length : Nat) : Int)) ∧ (loadL Go.Proofs.Try.prog 41 (x13.toNat * 1) (List.map v_41 a0) = some (VV.tr (List.map vi (a0.getD x13.toNat default)) ((a0.getD x13.toNat default).length))) ∧ (True) ∧ (0 ≤ x11 ∧ x11 < (((a0.getD x13.toNat default).length : Nat) : Int)) ∧ (loadL Go.Proofs.Try.prog 3 (x11.toNat * 1) (List.map vi (a0.getD x13.toNat default)) = some (vi ((a0.getD x13.toNat default).getD x11.toNat 0))) ∧ (True) ∧ (True) ∧ (True) ∧ True) ∧ ((True) ∧ (True) ∧ (True) ∧ True))) ∧ (((True)) ∧ ((True)))) := by kernel_rfl
            have hq : ((((True) ∧ (True) ∧ (True) ∧ (True) ∧ True) ∧ (((decide (x13 < (a0.length : Int))) = true) ∧ (True))) ∧ (((True) ∧ (True) ∧ (True) ∧ (True) ∧ (0 ≤ x13 ∧ x13 < ((a2.Nums.length : Nat) : Int)) ∧ (loadL Go.Proofs.Try.prog 3 (x13.toNat * 1) (List.map vi a2.Nums) = some (vi (a2.Nums.getD x13.toNat 0))) ∧ (True) ∧ (True) ∧ (0 ≤ x13 ∧ x13 < ((a0.length : Nat) : Int)) ∧ (loadL Go.Proofs.Try.prog 41 (x13.toNat * 1) (List.map v_41 a0) = some (VV.tr (List.map vi (a0.getD x13.toNat default)) ((a0.getD x13.toNat default).length))) ∧ (True) ∧ (0 ≤ x11 ∧ x11 < (((a0.getD x13.toNat default).length : Nat) : Int)) ∧ (loadL Go.Proofs.Try.prog 3 (x11.toNat * 1) (List.map vi (a0.getD x13.toNat default)) = some (vi ((a0.getD x13.toNat default).getD x11.toNat 0))) ∧ (True) ∧ (True) ∧ (True) ∧ True) ∧ ((True) ∧ (True) ∧ (True) ∧ True))) ∧ (((True)) ∧ ((True))) := ⟨⟨⟨⟨trivial, ⟨trivial, ⟨trivial, ⟨trivial, trivial⟩⟩⟩⟩, ⟨(decide_eq_true h1132), trivial⟩⟩, ⟨⟨trivial, ⟨trivial, ⟨trivial, ⟨trivial, ⟨h1133, ⟨ld_map ag3 vi a2.Nums 0 h1133 (by omega), ⟨trivial, ⟨trivial, ⟨h1134, ⟨ld_map ag41 v_41 a0 default h1134 (by omega), ⟨trivial, ⟨h1135, ⟨ld_map ag3 vi (a0.getD x13.toNat default) 0 h1135 (by omega), ⟨trivial, ⟨trivial, ⟨trivial, trivial⟩⟩⟩⟩⟩⟩⟩⟩⟩⟩⟩⟩⟩⟩⟩⟩, ⟨trivial, ⟨trivial, ⟨trivial, trivial⟩⟩⟩⟩⟩, ⟨trivial, trivial⟩⟩
            exact round_next pm pn hv hq h2
          · rw [if_neg h1135] at h; cases h
        · rw [if_neg h1134] at h; cases h
      · rw [if_neg h1133] at h; cases h
    · rw [if_neg h1132] at h
      injection h with h; subst h
      exact round_stop (c := ⟨[(0, none), (1, none), (5, none), (9, none), (10, none), (11, none), (12, none)], [none], []⟩) (q := (((True) ∧ (True) ∧ (True) ∧ (True) ∧ True) ∧ (((decide (x13 < (a0.length : Int))) = false) ∧ (True))) ∧ (((True)) ∧ ((True)))) (s1 := ⟨mkA [(0, VV.tr (List.map v_41 a0) a0.length), (1, VV.tr (List.map vi a1) a1.length), (5, VV.pt 0 0), (9, vi x9), (10, vi x10), (11, vi x11), (12, vi x12)], [some ⟨true, 1, [VV.tr (List.map vi a2.Nums) a2.Nums.length, vi a2.Den]⟩], .nil⟩) pm pn (ans := [.reg [.n, .n, .n, .n], .br false]) (by kernel_rfl) (by intro e; cases e) ⟨⟨⟨trivial, ⟨trivial, ⟨trivial, ⟨trivial, trivial⟩⟩⟩⟩, ⟨(decide_eq_false h1132), trivial⟩⟩, ⟨trivial, trivial⟩⟩
def nspeculumref05_CheckFit_l2_0 (k : Nat) (a0 : (List (List Int))) (a1 : (List Int)) (a2 : STermFit) (x9 : Int) : Nat → Int → Int → Option (Int)
  | 0, _, _ => none
  | fuel + 1, x10, x11 => if x11 < (a1.length : Int) then (if 0 ≤ x11 ∧ x11 < (a1.length : Int) then ((nspeculumref05_CheckFit_l3_0 k a0 a1 a2 x9 x10 x11 k (w64 ((a1.getD x11.toNat 0) * a2.Den)) 0).bind fun r1137 => (if 0 ≤ x9 ∧ x9 < (a0.length : Int) then (if 0 ≤ x11 ∧ x11 < ((a0.getD x9.toNat default).length : Int) then (nspeculumref05_CheckFit_l2_0 k a0 a1 a2 x9 fuel (w64 (x10 + (w64 (((a0.getD x9.toNat default).getD x11.toNat 0) * r1137)))) (w64 (x11 + 1))) else none) else none)) else none) else (some x10)
set_option maxRecDepth 100000 in
set_option maxHeartbeats 4000000 in
theorem nspeculumref05_CheckFit_l2_0_ok (k : Nat) (a0 : (List (List Int))) (a1 : (List Int)) (a2 : STermFit) (x9 : Int) : ∀ (fuel : Nat) (x10 : Int) (x11 : Int) (r : Int), nspeculumref05_CheckFit_l2_0 k a0 a1 a2 x9 fuel x10 x11 = some r → (VLoop none Go.Proofs.Try.prog (szF Go.Proofs.Try.f25) (bodyOf Go.Proofs.Try.f25 2) ⟨mkA [(0, VV.tr (List.map v_41 a0) a0.length), (1, VV.tr (List.map vi a1) a1.length), (5, VV.pt 0 0), (9, vi x9), (10, vi x10), (11, vi x11)], [some ⟨true, 1, [VV.tr (List.map vi a2.Nums) a2.Nums.length, vi a2.Den]⟩], .nil⟩ (.exit 4) ⟨mkA [(0, VV.tr (List.map v_41 a0) a0.length), (1, VV.tr (List.map vi a1) a1.length), (5, VV.pt 0 0), (9, vi x9), (10, vi r)], [some ⟨true, 1, [VV.tr (List.map vi a2.Nums) a2.Nums.length, vi a2.Den]⟩], .nil⟩) := by
  intro fuel
  induction fuel with
  | zero => intro x10 x11 r h; rw [nspeculumref05_CheckFit_l2_0.eq_1] at h; cases h
  | succ fuel ih =>
    intro x10 x11 r h
    rw [nspeculumref05_CheckFit_l2_0.eq_2] at h
    by_cases h1122 : x11 < (a1.length : Int)
    · rw [if_pos h1122] at h
      by_cases h1123 : 0 ≤ x11 ∧ x11 < (a1.length : Int)
      · rw [if_pos h1123] at h
        cases h1136 : nspeculumref05_CheckFit_l3_0 k a0 a1 a2 x9 x10 x11 k (w64 ((a1.getD x11.toNat 0) * a2.Den)) 0 with
        | none => rw [h1136] at h; cases h
        | some r1137 =>
          rw [h1136, Option.bind_some] at h
          have hph1136 := nspeculumref05_CheckFit_l3_0_ok k a0 a1 a2 x9 x10 x11 _ _ _ _ h1136
          by_cases h1138 : 0 ≤ x9 ∧ x9 < (a0.length : Int)
          · rw [if_pos h1138] at h
            by_cases h1139 : 0 ≤ x11 ∧ x11 < ((a0.getD x9.toNat default).length : Int)
            · rw [if_pos h1139] at h
              have h2 := ih _ _ _ h
              have hv : vRound none Go.Proofs.Try.prog Go.Proofs.Try.f25 2 ⟨mkA [(0, VV.tr (List.map v_41 a0) a0.length), (1, VV.tr (List.map vi a1) a1.length), (5, VV.pt 0 0), (9, vi x9), (10, vi x10), (11, vi x11)], [some ⟨true, 1, [VV.tr (List.map vi a2.Nums) a2.Nums.length, vi a2.Den]⟩], .nil⟩ [.reg [.n, .n, .n, .n], .br true, .reg [.n, .n, .n, .v (vi (a1.getD x11.toNat 0)), .n, .n, .n, .n], .reg [.n], .sub ⟨[(0, none), (1, none), (5, none), (9, none), (10, none), (11, none), (12, none), (13, none)], [none], []⟩ (.exit 6) ⟨mkA [(0, VV.tr (List.map v_41 a0) a0.length), (1, VV.tr (List.map vi a1) a1.length), (5, VV.pt 0 0), (9, vi x9), (10, vi x10), (11, vi x11), (12, vi r1137)], [some ⟨true, 1, [VV.tr (List.map vi a2.Nums) a2.Nums.length, vi a2.Den]⟩], .nil⟩, .reg [.n, .n, .n, .n, .v (VV.tr (List.map vi (a0.getD x9.toNat default)) ((a0.getD x9.toNat default).length)), .n, .n, .v (vi ((a0.getD x9.toNat default).getD x11.toNat 0)), .n, .n, .n, .n], .reg [.n, .n, .n]] ⟨[(0, none), (1, none), (5, none), (9, none), (10, none), (11, none)], [none], []⟩ = some (.normal, ⟨mkA [(0, VV.tr (List.map v_41 a0) a0.length), (1, VV.tr (List.map vi a1) a1.length), (5, VV.pt 0 0), (9, vi x9), (10, vi (w64 (x10 + (w64 (((a0.getD x9.toNat default).getD x11.toNat 0) * r1137))))), (11, vi (w64 (x11 + 1)))], [some ⟨true, 1, [VV.tr (List.map vi a2.Nums) a2.Nums.length, vi a2.Den]⟩], .nil⟩, ((((True) ∧ (True) ∧ (True) ∧ (True) ∧ True) ∧ (((decide (x11 < (a1.length : Int))) = true) ∧ (True))) ∧ ((((True) ∧ (True) ∧ (0 ≤ x11 ∧ x11 < ((a1.length : Nat) : Int)) ∧ (loadL Go.Proofs.Try.prog 3 (x11.toNat * 1) (List.map vi a1) = some (vi (a1.getD x11.toNat 0))) ∧ (True) ∧ (True) ∧ (True) ∧ (True) ∧ True) ∧ ((((True) ∧ True) ∧ (((((True)) ∧ ((True))) ∧ VRun none Go.Proofs.Try.prog (szF Go.Proofs.Try.f25) (.loop (bodyOf Go.Proofs.Try.f25 3)) ⟨mkA [(0, VV.tr (List.map v_41 a0) a0.length), (1, VV.tr (List.map vi a1) a1.length), (5, VV.pt 0 0), (9, vi x9), (10, vi x10), (11, vi x11), (12, vi (w64 ((a1.getD x11.toNat 0) * a2.Den))), (13, vi 0)], [some ⟨true, 1, [VV.tr (List.map vi a2.Nums) a2.Nums.length, vi a2.Den]⟩], .nil⟩ (.exit 6) ⟨mkA [(0, VV.tr (List.map v_41 a0) a0.length), (1, VV.tr (List.map vi a1) a1.length), (5, VV.pt 0 0), (9, vi x9), (10, vi x10), (11, vi x11), (12, vi r1137)], [some ⟨true, 1, [VV.tr (List.map vi a2.Nums) a2.Nums.length, vi a2.Den]⟩], .nil⟩))) ∧ ((True) ∧ (True) ∧ (True) ∧ (0 ≤ x9 ∧ x9 < ((a0.length : Nat) : Int)) ∧ (loadL Go.Proofs.Try.prog 41 (x9.toNat * 1) (List.map v_41 a0) = some (VV.tr (List.map vi (a0.getD x9.toNat default)) ((a0.getD x9.toNat default).length))) ∧ (True) ∧ (0 ≤ x11 ∧ x11 < (((a0.getD x9.toNat default).length : Nat) : Int)) ∧ (loadL Go.Proofs.Try.prog 3 (x11.toNat * 1) (List.map vi (a0.getD x9.toNat default)) = some (vi ((a0.getD x9.toNat default).getD x11.toNat 0))) ∧ (True) ∧ (True) ∧ (True) ∧ (True) ∧ True))) ∧ ((True) ∧ (True) ∧ (True) ∧ True))) ∧ (((True)) ∧ ((True)))) := by kernel_rfl
              have hq : ((((True) ∧ (True) ∧ (True) ∧ (True) ∧ True) ∧ (((decide (x11 < (a1.length : Int))) = true) ∧ (True))) ∧ ((((True) ∧ (True) ∧ (0 ≤ x11 ∧ x11 < ((a1.length : Nat) : Int)) ∧ (loadL Go.Proofs.Try.prog 3 (x11.toNat * 1) (List.map vi a1) = some (vi (a1.getD x11.toNat 0))) ∧ (True) ∧ (True) ∧ (True) ∧ (True) ∧ True) ∧ ((((True) ∧ True) ∧ (((((True)) ∧ ((True))) ∧ VRun none Go.Proofs.Try.prog (szF Go.Proofs.Try.f25) (.loop (bodyOf Go.Proofs.Try.f25 3)) ⟨mkA [(0, VV.tr (List.map v_41 a0) a0.length), (1, VV.tr (List.map vi a1) a1.length), (5, VV.pt 0 0), (9, vi x9), (10, vi x10), (11, vi x11), (12, vi (w64 ((a1.getD x11.toNat 0) * a2.Den))), (13, vi 0)], [some ⟨true, 1, [VV.tr (List.map vi a2.Nums) a2.Nums.length, vi a2.Den]⟩], .nil⟩ (.exit 6) ⟨mkA [(0, VV.tr (List.map v_41 a0) a0.length), (1, VV.tr (List.map vi a1) a1.length), (5, VV.pt 0 0), (9, vi x9), (10, vi x10), (11, vi x11), (12, vi r1137)], [some ⟨true, 1, [VV.tr (List.map vi a2.Nums) a2.Nums.length, vi a2.Den]⟩], .nil⟩))) ∧ ((True) ∧ (True) ∧ (True) ∧ (0 ≤ x9 ∧ x9 < ((a0.length : Nat) : Int)) ∧ (loadL Go.Proofs.Try.prog 41 (x9.toNat * 1) (List.map v_41 a0) = some (VV.tr (List.map vi (a0.getD x9.toNat default)) ((a0.getD x9.toNat default).length))) ∧ (True) ∧ (0 ≤ x11 ∧ x11 < (((a0.getD x9.toNat default).length : Nat) : Int)) ∧ (loadL Go.Proofs.Try.prog 3 (x11.toNat * 1) (List.map vi (a0.getD x9.toNat default)) = some (vi ((a0.getD x9.toNat default).getD x11.toNat 0))) ∧ (True) ∧ (True) ∧ (True) ∧ (True) ∧ True))) ∧ ((True) ∧ (True) ∧ (True) ∧ True))) ∧ (((True)) ∧ ((True))) := ⟨⟨⟨⟨trivial, ⟨trivial, ⟨trivial, ⟨trivial, trivial⟩⟩⟩⟩, ⟨(decide_eq_true h1122), trivial⟩⟩, ⟨⟨⟨trivial, ⟨trivial, ⟨h1123, ⟨ld_map ag3 vi a1 0 h1123 (by omega), ⟨trivial, ⟨trivial, ⟨trivial, ⟨trivial, trivial⟩⟩⟩⟩⟩⟩⟩⟩, ⟨⟨⟨trivial, trivial⟩, ⟨⟨trivial, trivial⟩, VRun.loop hph1136⟩⟩, ⟨trivial, ⟨trivial, ⟨trivial, ⟨h1138, ⟨ld_map ag41 v_41 a0 default h1138 (by omega), ⟨trivial, ⟨h1139, ⟨ld_map ag3 vi (a0.getD x9.toNat default) 0 h1139 (by omega), ⟨trivial, ⟨trivial, ⟨trivial, ⟨trivial, trivial⟩⟩⟩⟩⟩⟩⟩⟩⟩⟩⟩⟩⟩⟩, ⟨trivial, ⟨trivial, ⟨trivial, trivial⟩⟩⟩⟩⟩, ⟨trivial, trivial⟩⟩
              exact round_next pm pn hv hq h2
            · rw [if_neg h1139] at h; cases h
          · rw [if_neg h1138] at h; cases h
      · rw [if_neg h1123] at h; cases h
    · rw [if_neg h1122] at h
      injection h with h; subst h
      exact round_stop (c := ⟨[(0, none), (1, none), (5, none), (9, none), (10, none)], [none], []⟩) (q := (((True) ∧ (True) ∧ (True) ∧ (True) ∧ True) ∧ (((decide (x11 < (a1.length : Int))) = false) ∧ (True))) ∧ (((True)) ∧ ((True)))) (s1 := ⟨mkA [(0, VV.tr (List.map v_41 a0) a0.length), (1, VV.tr (List.map vi a1) a1.length), (5, VV.pt 0 0), (9, vi x9), (10, vi x10)], [some ⟨true, 1, [VV.tr (List.map vi a2.Nums) a2.Nums.length, vi a2.Den]⟩], .nil⟩) pm pn (ans := [.reg [.n, .n, .n, .n], .br false]) (by kernel_rfl) (by intro e; cases e) ⟨⟨⟨trivial, ⟨trivial, ⟨trivial, ⟨trivial, trivial⟩⟩⟩⟩, ⟨(decide_eq_false h1122), trivial⟩⟩, ⟨trivial, trivial⟩⟩
def nspeculumref05_CheckFit_l1_0 (k : Nat) (a0 : (List (List Int))) (a1 : (List Int)) (a2 : STermFit) : Nat → Int → Option (Sum Unit Unit)
  | 0, _ => none
  | fuel + 1, x9 => if x9 < (a0.length : Int) then ((nspeculumref05_CheckFit_l2_0 k a0 a1 a2 x9 k 0 0).bind fun r1141 => (if r1141 = 0 then (nspeculumref05_CheckFit_l1_0 k a0 a1 a2 fuel (w64 (x9 + 1))) else (some (.inl ())))) else (some (.inr ()))
set_option maxRecDepth 100000 in
set_option maxHeartbeats 4000000 in
theorem nspeculumref05_CheckFit_l1_0_ok (k : Nat) (a0 : (List (List Int))) (a1 : (List Int)) (a2 : STermFit) : ∀ (fuel : Nat) (x9 : Int) (r : Sum Unit Unit), nspeculumref05_CheckFit_l1_0 k a0 a1 a2 fuel x9 = some r → (match r with | .inl r => VLoop none Go.Proofs.Try.prog (szF Go.Proofs.Try.f25) (bodyOf Go.Proofs.Try.f25 1) ⟨mkA [(0, VV.tr (List.map v_41 a0) a0.length), (1, VV.tr (List.map vi a1) a1.length), (5, VV.pt 0 0), (9, vi x9)], [some ⟨true, 1, [VV.tr (List.map vi a2.Nums) a2.Nums.length, vi a2.Den]⟩], .nil⟩ .ret ⟨mkA [(6, vi 22)], [], .nil⟩ | .inr r => VLoop none Go.Proofs.Try.prog (szF Go.Proofs.Try.f25) (bodyOf Go.Proofs.Try.f25 1) ⟨mkA [(0, VV.tr (List.map v_41 a0) a0.length), (1, VV.tr (List.map vi a1) a1.length), (5, VV.pt 0 0), (9, vi x9)], [some ⟨true, 1, [VV.tr (List.map vi a2.Nums) a2.Nums.length, vi a2.Den]⟩], .nil⟩ (.exit 2) ⟨mkA [], [], .nil⟩) := by
  intro fuel
  induction fuel with
  | zero => intro x9 r h; rw [nspeculumref05_CheckFit_l1_0.eq_1] at h; cases h
  | succ fuel ih =>
    intro x9 r h
    rw [nspeculumref05_CheckFit_l1_0.eq_2] at h
    by_cases h1085 : x9 < (a0.length : Int)
    · rw [if_pos h1085] at h
      cases h1140 : nspeculumref05_CheckFit_l2_0 k a0 a1 a2 x9 k 0 0 with
      | none => rw [h1140] at h; cases h
      | some r1141 =>
        rw [h1140, Option.bind_some] at h
        have hph1140 := nspeculumref05_CheckFit_l2_0_ok k a0 a1 a2 x9 _ _ _ _ h1140
        by_cases h1142 : r1141 = 0
        · rw [if_pos h1142] at h
          have h2 := ih _ _ h
          have hv : vRound none Go.Proofs.Try.prog Go.Proofs.Try.f25 1 ⟨mkA [(0, VV.tr (List.map v_41 a0) a0.length), (1, VV.tr (List.map vi a1) a1.length), (5, VV.pt 0 0), (9, vi x9)], [some ⟨true, 1, [VV.tr (List.map vi a2.Nums) a2.Nums.length, vi a2.Den]⟩], .nil⟩ [.reg [.n, .n, .n, .n], .br true, .reg [.n], .reg [.n], .sub ⟨[(0, none), (1, none), (5, none), (9, none), (10, none), (11, none)], [none], []⟩ (.exit 4) ⟨mkA [(0, VV.tr (List.map v_41 a0) a0.length), (1, VV.tr (List.map vi a1) a1.length), (5, VV.pt 0 0), (9, vi x9), (10, vi r1141)], [some ⟨true, 1, [VV.tr (List.map vi a2.Nums) a2.Nums.length, vi a2.Den]⟩], .nil⟩, .reg [.n, .n], .br false, .reg [.n, .n, .n]] ⟨[(0, none), (1, none), (5, none), (9, none)], [none], []⟩ = some (.normal, ⟨mkA [(0, VV.tr (List.map v_41 a0) a0.length), (1, VV.tr (List.map vi a1) a1.length), (5, VV.pt 0 0), (9, vi (w64 (x9 + 1)))], [some ⟨true, 1, [VV.tr (List.map vi a2.Nums) a2.Nums.length, vi a2.Den]⟩], .nil⟩, ((((True) ∧ (True) ∧ (True) ∧ (True) ∧ True) ∧ (((decide (x9 < (a0.length : Int))) = true) ∧ (True))) ∧ ((((True) ∧ True) ∧ ((((True) ∧ True) ∧ (((((True)) ∧ ((True))) ∧ VRun none Go.Proofs.Try.prog (szF Go.Proofs.Try.f25) (.loop (bodyOf Go.Proofs.Try.f25 2)) ⟨mkA [(0, VV.tr (List.map v_41 a0) a0.length), (1, VV.tr (List.map vi a1) a1.length), (5, VV.pt 0 0), (9, vi x9), (10, vi 0), (11, vi 0)], [some ⟨true, 1, [VV.tr (List.map vi a2.Nums) a2.Nums.length, vi a2.Den]⟩], .nil⟩ (.exit 4) ⟨mkA [(0, VV.tr (List.map v_41 a0) a0.length), (1, VV.tr (List.map vi a1) a1.length), (5, VV.pt 0 0), (9, vi x9), (10, vi r1141)], [some ⟨true, 1, [VV.tr (List.map vi a2.Nums) a2.Nums.length, vi a2.Den]⟩], .nil⟩))) ∧ (((True) ∧ (True) ∧ True) ∧ (((!(decide (r1141 = 0))) = false) ∧ (True))))) ∧ ((True) ∧ (True) ∧ (True) ∧ True))) ∧ (((True)) ∧ ((True)))) := by kernel_rfl
          have hq : ((((True) ∧ (True) ∧ (True) ∧ (True) ∧ True) ∧ (((decide (x9 < (a0.length : Int))) = true) ∧ (True))) ∧ ((((True) ∧ True) ∧ ((((True) ∧ True) ∧ (((((True)) ∧ ((True))) ∧ VRun none Go.Proofs.Try.prog (szF Go.Proofs.Try.f25) (.loop (bodyOf Go.Proofs.Try.f25 2)) ⟨mkA [(0, VV.tr (List.map v_41 a0) a0.length), (1, VV.tr (List.map vi a1) a1.length), (5, VV.pt 0 0), (9, vi x9), (10, vi 0), (11, vi 0)], [some ⟨true, 1, [VV.tr (List.map vi a2.Nums) a2.Nums.length, vi a2.Den]⟩], .nil⟩ (.exit 4) ⟨mkA [(0, VV.tr (List.map v_41 a0) a0.length), (1, VV.tr (List.map vi a1) a1.length), (5, VV.pt 0 0), (9, vi x9), (10, vi r1141)], [some ⟨true, 1, [VV.tr (List.map vi a2.Nums) a2.Nums.length, vi a2.Den]⟩], .nil⟩))) ∧ (((True) ∧ (True) ∧ True) ∧ (((!(decide (r1141 = 0))) = false) ∧ (True))))) ∧ ((True) ∧ (True) ∧ (True) ∧ True))) ∧ (((True)) ∧ ((True))) := ⟨⟨⟨⟨trivial, ⟨trivial, ⟨trivial, ⟨trivial, trivial⟩⟩⟩⟩, ⟨(decide_eq_true h1085), trivial⟩⟩, ⟨⟨⟨trivial, trivial⟩, ⟨⟨⟨trivial, trivial⟩, ⟨⟨trivial, trivial⟩, VRun.loop hph1140⟩⟩, ⟨⟨trivial, ⟨trivial, trivial⟩⟩, ⟨(not_f (decide_eq_true h1142)), trivial⟩⟩⟩⟩, ⟨trivial, ⟨trivial, ⟨trivial, trivial⟩⟩⟩⟩⟩, ⟨trivial, trivial⟩⟩
          cases r with
          | inl r => exact round_next pm pn hv hq h2
          | inr r =>
            exact round_next pm pn hv hq h2
        · rw [if_neg h1142] at h
          injection h with h; subst h
          exact round_stop (c := ⟨[(6, none)], [], []⟩) (q := ((((True) ∧ (True) ∧ (True) ∧ (True) ∧ True) ∧ (((decide (x9 < (a0.length : Int))) = true) ∧ (True))) ∧ (((True) ∧ True) ∧ ((((True) ∧ True) ∧ (((((True)) ∧ ((True))) ∧ VRun none Go.Proofs.Try.prog (szF Go.Proofs.Try.f25) (.loop (bodyOf Go.Proofs.Try.f25 2)) ⟨mkA [(0, VV.tr (List.map v_41 a0) a0.length), (1, VV.tr (List.map vi a1) a1.length), (5, VV.pt 0 0), (9, vi x9), (10, vi 0), (11, vi 0)], [some ⟨true, 1, [VV.tr (List.map vi a2.Nums) a2.Nums.length, vi a2.Den]⟩], .nil⟩ (.exit 4) ⟨mkA [(0, VV.tr (List.map v_41 a0) a0.length), (1, VV.tr (List.map vi a1) a1.length), (5, VV.pt 0 0), (9, vi x9), (10, vi r1141)], [some ⟨true, 1, [VV.tr (List.map vi a2.Nums) a2.Nums.length, vi a2.Den]⟩], .nil⟩))) ∧ (((True) ∧ (True) ∧ True) ∧ (((!(decide (r1141 = 0))) = true) ∧ (((True) ∧ True) ∧ (True))))))) ∧ (((True)) ∧ ((True)))) (s1 := ⟨mkA [(6, vi 22)], [], .nil⟩) pm pn (ans := [.reg [.n, .n, .n, .n], .br true, .reg [.n], .reg [.n], .sub ⟨[(0, none), (1, none), (5, none), (9, none), (10, none), (11, none)], [none], []⟩ (.exit 4) ⟨mkA [(0, VV.tr (List.map v_41 a0) a0.length), (1, VV.tr (List.map vi a1) a1.length), (5, VV.pt 0 0), (9, vi x9), (10, vi r1141)], [some ⟨true, 1, [VV.tr (List.map vi a2.Nums) a2.Nums.length, vi a2.Den]⟩], .nil⟩, .reg [.n, .n], .br true, .reg [.n]]) (by kernel_rfl) (by intro e; cases e) ⟨⟨⟨⟨trivial, ⟨trivial, ⟨trivial, ⟨trivial, trivial⟩⟩⟩⟩, ⟨(decide_eq_true h1085), trivial⟩⟩, ⟨⟨trivial, trivial⟩, ⟨⟨⟨trivial, trivial⟩, ⟨⟨trivial, trivial⟩, VRun.loop hph1140⟩⟩, ⟨⟨trivial, ⟨trivial, trivial⟩⟩, ⟨(not_t (decide_eq_false h1142)), ⟨⟨trivial, trivial⟩, trivial⟩⟩⟩⟩⟩⟩, ⟨trivial, trivial⟩⟩
    · rw [if_neg h1085] at h
      injection h with h; subst h
      exact round_stop (c := ⟨[], [], []⟩) (q := (((True) ∧ (True) ∧ (True) ∧ (True) ∧ True) ∧ (((decide (x9 < (a0.length : Int))) = false) ∧ (True))) ∧ (((True)) ∧ ((True)))) (s1 := ⟨mkA [], [], .nil⟩) pm pn (ans := [.reg [.n, .n, .n, .n], .br false]) (by kernel_rfl) (by intro e; cases e) ⟨⟨⟨trivial, ⟨trivial, ⟨trivial, ⟨trivial, trivial⟩⟩⟩⟩, ⟨(decide_eq_false h1085), trivial⟩⟩, ⟨trivial, trivial⟩⟩
def nspeculumref05_CheckFit (k : Nat) (a0 : (List (List Int))) (a1 : (List Int)) (a2 : STermFit) : Option Int :=
  if (a2.Nums.length : Int) = (a0.length : Int) then ((nspeculumbase_Within k a2.Den 1 100000000000).bind fun r940 => (if r940 = true then ((nspeculumref05_CheckFit_l0_0 k a0 a1 a2 k a2.Den 0).bind fun r965 => (match r965 with | .inl r966 => (some 2) | .inr r967 => (if r967 = 1 then ((nspeculumref05_CheckFit_l1_0 k a0 a1 a2 k 0).bind fun r1144 => (match r1144 with | .inl r1145 => (some 22) | .inr r1146 => (some 0))) else (some 3)))) else (some 2))) else (some 10)
set_option maxRecDepth 100000 in
set_option maxHeartbeats 4000000 in
theorem nspeculumref05_CheckFit_ok (k : Nat) (a0 : (List (List Int))) (a1 : (List Int)) (a2 : STermFit) (r : Int) (h : nspeculumref05_CheckFit k a0 a1 a2 = some r) : VC Go.Proofs.Try.prog 25 [VV.tr (List.map v_41 a0) a0.length, VV.tr (List.map vi a1) a1.length, VV.ag [VV.tr (List.map vi a2.Nums) a2.Nums.length, vi a2.Den]] (vi r) := by
  unfold nspeculumref05_CheckFit at h
  by_cases h939 : (a2.Nums.length : Int) = (a0.length : Int)
  · rw [if_pos h939] at h
    cases h941 : nspeculumbase_Within k a2.Den 1 100000000000 with
    | none => rw [h941] at h; cases h
    | some r940 =>
      rw [h941, Option.bind_some] at h
      by_cases h942 : r940 = true
      · rw [if_pos h942] at h
        cases h964 : nspeculumref05_CheckFit_l0_0 k a0 a1 a2 k a2.Den 0 with
        | none => rw [h964] at h; cases h
        | some r965 =>
          rw [h964, Option.bind_some] at h
          have hph964 := nspeculumref05_CheckFit_l0_0_ok k a0 a1 a2 _ _ _ _ h964
          cases r965 with
          | inl r966 =>
            dsimp only at h
            injection h with h; subst h
            exact fun_ok pm pn Go.Proofs.Try.func25 (q := ((((True) ∧ (True) ∧ True) ∧ ((((True) ∧ (True) ∧ (True) ∧ (True) ∧ (True) ∧ (True) ∧ True) ∧ (((!(decide ((a2.Nums.length : Int) = (a0.length : Int)))) = false) ∧ (True))) ∧ ((((True) ∧ (True) ∧ (VC Go.Proofs.Try.prog 37 [vi a2.Den, vi 1, vi 100000000000] (vb r940)) ∧ (True) ∧ True) ∧ (((!r940) = false) ∧ (True))) ∧ (((True) ∧ (True) ∧ (True) ∧ True) ∧ (((True) ∧ True) ∧ (((((True)) ∧ ((True))) ∧ VRun none Go.Proofs.Try.prog (szF Go.Proofs.Try.f25) (.loop (bodyOf Go.Proofs.Try.f25 0)) ⟨mkA [(0, VV.tr (List.map v_41 a0) a0.length), (1, VV.tr (List.map vi a1) a1.length), (5, VV.pt 0 0), (7, vi a2.Den), (8, vi 0)], [some ⟨true, 1, [VV.tr (List.map vi a2.Nums) a2.Nums.length, vi a2.Den]⟩], .nil⟩ .ret ⟨mkA [(6, vi 2)], [], .nil⟩))))))) ∧ ((True) ∧ (True)))) (r0 := vi 2) (ans := [.reg [.n, .n], .reg [.n, .n, .n, .n, .n, .n], .br false, .reg [.n, .n, .call (vb r940), .n], .br false, .reg [.n, .n, .n], .reg [.n], .sub ⟨[(0, none), (1, none), (5, none), (7, none), (8, none)], [none], []⟩ .ret ⟨mkA [(6, vi 2)], [], .nil⟩]) (fr := true) (by kernel_rfl) ⟨⟨⟨trivial, ⟨trivial, trivial⟩⟩, ⟨⟨⟨trivial, ⟨trivial, ⟨trivial, ⟨trivial, ⟨trivial, ⟨trivial, trivial⟩⟩⟩⟩⟩⟩, ⟨(not_f (decide_eq_true h939)), trivial⟩⟩, ⟨⟨⟨trivial, ⟨trivial, ⟨nspeculumbase_Within_ok k a2.Den 1 100000000000 _ h941, ⟨trivial, trivial⟩⟩⟩⟩, ⟨(not_f h942), trivial⟩⟩, ⟨⟨trivial, ⟨trivial, ⟨trivial, trivial⟩⟩⟩, ⟨⟨trivial, trivial⟩, ⟨⟨trivial, trivial⟩, VRun.loop hph964⟩⟩⟩⟩⟩⟩, ⟨trivial, trivial⟩⟩ (Wv.refl _)
          | inr r967 =>
            dsimp only at h
            by_cases h968 : r967 = 1
            · rw [if_pos h968] at h
              cases h1143 : nspeculumref05_CheckFit_l1_0 k a0 a1 a2 k 0 with
              | none => rw [h1143] at h; cases h
              | some r1144 =>
                rw [h1143, Option.bind_some] at h
                have hph1143 := nspeculumref05_CheckFit_l1_0_ok k a0 a1 a2 _ _ _ h1143
                cases r1144 with
                | inl r1145 =>
                  dsimp only at h
                  injection h with h; subst h
                  exact fun_ok pm pn Go.Proofs.Try.func25 (q := ((((True) ∧ (True) ∧ True) ∧ ((((True) ∧ (True) ∧ (True) ∧ (True) ∧ (True) ∧ (True) ∧ True) ∧ (((!(decide ((a2.Nums.length : Int) = (a0.length : Int)))) = false) ∧ (True))) ∧ ((((True) ∧ (True) ∧ (VC Go.Proofs.Try.prog 37 [vi a2.Den, vi 1, vi 100000000000] (vb r940)) ∧ (True) ∧ True) ∧ (((!r940) = false) ∧ (True))) ∧ (((True) ∧ (True) ∧ (True) ∧ True) ∧ ((((True) ∧ True) ∧ (((((True)) ∧ ((True))) ∧ VRun none Go.Proofs.Try.prog (szF Go.Proofs.Try.f25) (.loop (bodyOf Go.Proofs.Try.f25 0)) ⟨mkA [(0, VV.tr (List.map v_41 a0) a0.length), (1, VV.tr (List.map vi a1) a1.length), (5, VV.pt 0 0), (7, vi a2.Den), (8, vi 0)], [some ⟨true, 1, [VV.tr (List.map vi a2.Nums) a2.Nums.length, vi a2.Den]⟩], .nil⟩ (.exit 0) ⟨mkA [(0, VV.tr (List.map v_41 a0) a0.length), (1, VV.tr (List.map vi a1) a1.length), (5, VV.pt 0 0), (7, vi r967)], [some ⟨true, 1, [VV.tr (List.map vi a2.Nums) a2.Nums.length, vi a2.Den]⟩], .nil⟩))) ∧ ((((True) ∧ (True) ∧ True) ∧ (((!(decide (r967 = 1))) = false) ∧ (True))) ∧ (((True) ∧ True) ∧ (((((True)) ∧ ((True))) ∧ VRun none Go.Proofs.Try.prog (szF Go.Proofs.Try.f25) (.loop (bodyOf Go.Proofs.Try.f25 1)) ⟨mkA [(0, VV.tr (List.map v_41 a0) a0.length), (1, VV.tr (List.map vi a1) a1.length), (5, VV.pt 0 0), (9, vi 0)], [some ⟨true, 1, [VV.tr (List.map vi a2.Nums) a2.Nums.length, vi a2.Den]⟩], .nil⟩ .ret ⟨mkA [(6, vi 22)], [], .nil⟩))))))))) ∧ ((True) ∧ (True)))) (r0 := vi 22) (ans := [.reg [.n, .n], .reg [.n, .n, .n, .n, .n, .n], .br false, .reg [.n, .n, .call (vb r940), .n], .br false, .reg [.n, .n, .n], .reg [.n], .sub ⟨[(0, none), (1, none), (5, none), (7, none), (8, none)], [none], []⟩ (.exit 0) ⟨mkA [(0, VV.tr (List.map v_41 a0) a0.length), (1, VV.tr (List.map vi a1) a1.length), (5, VV.pt 0 0), (7, vi r967)], [some ⟨true, 1, [VV.tr (List.map vi a2.Nums) a2.Nums.length, vi a2.Den]⟩], .nil⟩, .reg [.n, .n], .br false, .reg [.n], .sub ⟨[(0, none), (1, none), (5, none), (9, none)], [none], []⟩ .ret ⟨mkA [(6, vi 22)], [], .nil⟩]) (fr := true) (by kernel_rfl) ⟨⟨⟨trivial, ⟨trivial, trivial⟩⟩, ⟨⟨⟨trivial, ⟨trivial, ⟨trivial, ⟨trivial, ⟨trivial, ⟨trivial, trivial⟩⟩⟩⟩⟩⟩, ⟨(not_f (decide_eq_true h939)), trivial⟩⟩, ⟨⟨⟨trivial, ⟨trivial, ⟨nspeculumbase_Within_ok k a2.Den 1 100000000000 _ h941, ⟨trivial, trivial⟩⟩⟩⟩, ⟨(not_f h942), trivial⟩⟩, ⟨⟨trivial, ⟨trivial, ⟨trivial, trivial⟩⟩⟩, ⟨⟨⟨trivial, trivial⟩, ⟨⟨trivial, trivial⟩, VRun.loop hph964⟩⟩, ⟨⟨⟨trivial, ⟨trivial, trivial⟩⟩, ⟨(not_f (decide_eq_true h968)), trivial⟩⟩, ⟨⟨trivial, trivial⟩, ⟨⟨trivial, trivial⟩, VRun.loop hph1143⟩⟩⟩⟩⟩⟩⟩⟩, ⟨trivial, trivial⟩⟩ (Wv.refl _)
                | inr r1146 =>
                  dsimp only at h
                  injection h with h; subst h
                  exact fun_ok pm pn Go.Proofs.Try.func25 (q := ((((True) ∧ (True) ∧ True) ∧ ((((True) ∧ (True) ∧ (True) ∧ (True) ∧ (True) ∧ (True) ∧ True) ∧ (((!(decide ((a2.Nums.length : Int) = (a0.length : Int)))) = false) ∧ (True))) ∧ ((((True) ∧ (True) ∧ (VC Go.Proofs.Try.prog 37 [vi a2.Den, vi 1, vi 100000000000] (vb r940)) ∧ (True) ∧ True) ∧ (((!r940) = false) ∧ (True))) ∧ (((True) ∧ (True) ∧ (True) ∧ True) ∧ ((((True) ∧ True) ∧ (((((True)) ∧ ((True))) ∧ VRun none Go.Proofs.Try.prog (szF Go.Proofs.Try.f25) (.loop (bodyOf Go.Proofs.Try.f25 0)) ⟨mkA [(0, VV.tr (List.map v_41 a0) a0.length), (1, VV.tr (List.map vi a1) a1.length), (5, VV.pt 0 0), (7, vi a2.Den), (8, vi 0)], [some ⟨true, 1, [VV.tr (List.map vi a2.Nums) a2.Nums.length, vi a2.Den]⟩], .nil⟩ (.exit 0) ⟨mkA [(0, VV.tr (List.map v_41 a0) a0.length), (1, VV.tr (List.map vi a1) a1.length), (5, VV.pt 0 0), (7, vi r967)], [some ⟨true, 1, [VV.tr (List.map vi a2.Nums) a2.Nums.length, vi a2.Den]⟩], .nil⟩))) ∧ ((((True) ∧ (True) ∧ True) ∧ (((!(decide (r967 = 1))) = false) ∧ (True))) ∧ ((((True) ∧ True) ∧ (((((True)) ∧ ((True))) ∧ VRun none Go.Proofs.Try.prog (szF Go.Proofs.Try.f25) (.loop (bodyOf Go.Proofs.Try.f25 1)) ⟨mkA [(0, VV.tr (List.map v_41 a0) a0.length), (1, VV.tr (List.map vi a1) a1.length), (5, VV.pt 0 0), (9, vi 0)], [some ⟨true, 1, [VV.tr (List.map vi a2.Nums) a2.Nums.length, vi a2.Den]⟩], .nil⟩ (.exit 2) ⟨mkA [], [], .nil⟩))) ∧ (((True) ∧ True) ∧ (True))))))))) ∧ ((True) ∧ (True)))) (r0 := vi 0) (ans := [.reg [.n, .n], .reg [.n, .n, .n, .n, .n, .n], .br false, .reg [.n, .n, .call (vb r940), .n], .br false, .reg [.n, .n, .n], .reg [.n], .sub ⟨[(0, none), (1, none), (5, none), (7, none), (8, none)], [none], []⟩ (.exit 0) ⟨mkA [(0, VV.tr (List.map v_41 a0) a0.length), (1, VV.tr (List.map vi a1) a1.length), (5, VV.pt 0 0), (7, vi r967)], [some ⟨true, 1, [VV.tr (List.map vi a2.Nums) a2.Nums.length, vi a2.Den]⟩], .nil⟩, .reg [.n, .n], .br false, .reg [.n], .sub ⟨[(0, none), (1, none), (5, none), (9, none)], [none], []⟩ (.exit 2) ⟨mkA [], [], .nil⟩, .reg [.n]]) (fr := true) (by kernel_rfl) ⟨⟨⟨trivial, ⟨trivial, trivial⟩⟩, ⟨⟨⟨trivial, ⟨trivial, ⟨trivial, ⟨trivial, ⟨trivial, ⟨trivial, trivial⟩⟩⟩⟩⟩⟩, ⟨(not_f (decide_eq_true h939)), trivial⟩⟩, ⟨⟨⟨trivial, ⟨trivial, ⟨nspeculumbase_Within_ok k a2.Den 1 100000000000 _ h941, ⟨trivial, trivial⟩⟩⟩⟩, ⟨(not_f h942), trivial⟩⟩, ⟨⟨trivial, ⟨trivial, ⟨trivial, trivial⟩⟩⟩, ⟨⟨⟨trivial, trivial⟩, ⟨⟨trivial, trivial⟩, VRun.loop hph964⟩⟩, ⟨⟨⟨trivial, ⟨trivial, trivial⟩⟩, ⟨(not_f (decide_eq_true h968)), trivial⟩⟩, ⟨⟨⟨trivial, trivial⟩, ⟨⟨trivial, trivial⟩, VRun.loop hph1143⟩⟩, ⟨⟨trivial, trivial⟩, trivial⟩⟩⟩⟩⟩⟩⟩⟩, ⟨trivial, trivial⟩⟩ (Wv.refl _)
            · rw [if_neg h968] at h
              injection h with h; subst h
              exact fun_ok pm pn Go.Proofs.Try.func25 (q := ((((True) ∧ (True) ∧ True) ∧ ((((True) ∧ (True) ∧ (True) ∧ (True) ∧ (True) ∧ (True) ∧ True) ∧ (((!(decide ((a2.Nums.length : Int) = (a0.length : Int)))) = false) ∧ (True))) ∧ ((((True) ∧ (True) ∧ (VC Go.Proofs.Try.prog 37 [vi a2.Den, vi 1, vi 100000000000] (vb r940)) ∧ (True) ∧ True) ∧ (((!r940) = false) ∧ (True))) ∧ (((True) ∧ (True) ∧ (True) ∧ True) ∧ ((((True) ∧ True) ∧ (((((True)) ∧ ((True))) ∧ VRun none Go.Proofs.Try.prog (szF Go.Proofs.Try.f25) (.loop (bodyOf Go.Proofs.Try.f25 0)) ⟨mkA [(0, VV.tr (List.map v_41 a0) a0.length), (1, VV.tr (List.map vi a1) a1.length), (5, VV.pt 0 0), (7, vi a2.Den), (8, vi 0)], [some ⟨true, 1, [VV.tr (List.map vi a2.Nums) a2.Nums.length, vi a2.Den]⟩], .nil⟩ (.exit 0) ⟨mkA [(0, VV.tr (List.map v_41 a0) a0.length), (1, VV.tr (List.map vi a1) a1.length), (5, VV.pt 0 0), (7, vi r967)], [some ⟨true, 1, [VV.tr (List.map vi a2.Nums) a2.Nums.length, vi a2.Den]⟩], .nil⟩))) ∧ (((True) ∧ (True) ∧ True) ∧ (((!(decide (r967 = 1))) = true) ∧ (((True) ∧ True) ∧ (True))))))))) ∧ ((True) ∧ (True)))) (r0 := vi 3) (ans := [.reg [.n, .n], .reg [.n, .n, .n, .n, .n, .n], .br false, .reg [.n, .n, .call (vb r940), .n], .br false, .reg [.n, .n, .n], .reg [.n], .sub ⟨[(0, none), (1, none), (5, none), (7, none), (8, none)], [none], []⟩ (.exit 0) ⟨mkA [(0, VV.tr (List.map v_41 a0) a0.length), (1, VV.tr (List.map vi a1) a1.length), (5, VV.pt 0 0), (7, vi r967)], [some ⟨true, 1, [VV.tr (List.map vi a2.Nums) a2.Nums.length, vi a2.Den]⟩], .nil⟩, .reg [.n, .n], .br true, .reg [.n]]) (fr := true) (by kernel_rfl) ⟨⟨⟨trivial, ⟨trivial, trivial⟩⟩, ⟨⟨⟨trivial, ⟨trivial, ⟨trivial, ⟨trivial, ⟨trivial, ⟨trivial, trivial⟩⟩⟩⟩⟩⟩, ⟨(not_f (decide_eq_true h939)), trivial⟩⟩, ⟨⟨⟨trivial, ⟨trivial, ⟨nspeculumbase_Within_ok k a2.Den 1 100000000000 _ h941, ⟨trivial, trivial⟩⟩⟩⟩, ⟨(not_f h942), trivial⟩⟩, ⟨⟨trivial, ⟨trivial, ⟨trivial, trivial⟩⟩⟩, ⟨⟨⟨trivial, trivial⟩, ⟨⟨trivial, trivial⟩, VRun.loop hph964⟩⟩, ⟨⟨trivial, ⟨trivial, trivial⟩⟩, ⟨(not_t (decide_eq_false h968)), ⟨⟨trivial, trivial⟩, trivial⟩⟩⟩⟩⟩⟩⟩⟩, ⟨trivial, trivial⟩⟩ (Wv.refl _)
      · rw [if_neg h942] at h
        injection h with h; subst h
        exact fun_ok pm pn Go.Proofs.Try.func25 (q := ((((True) ∧ (True) ∧ True) ∧ ((((True) ∧ (True) ∧ (True) ∧ (True) ∧ (True) ∧ (True) ∧ True) ∧ (((!(decide ((a2.Nums.length : Int) = (a0.length : Int)))) = false) ∧ (True))) ∧ (((True) ∧ (True) ∧ (VC Go.Proofs.Try.prog 37 [vi a2.Den, vi 1, vi 100000000000] (vb r940)) ∧ (True) ∧ True) ∧ (((!r940) = true) ∧ (((True) ∧ True) ∧ (True)))))) ∧ ((True) ∧ (True)))) (r0 := vi 2) (ans := [.reg [.n, .n], .reg [.n, .n, .n, .n, .n, .n], .br false, .reg [.n, .n, .call (vb r940), .n], .br true, .reg [.n]]) (fr := true) (by kernel_rfl) ⟨⟨⟨trivial, ⟨trivial, trivial⟩⟩, ⟨⟨⟨trivial, ⟨trivial, ⟨trivial, ⟨trivial, ⟨trivial, ⟨trivial, trivial⟩⟩⟩⟩⟩⟩, ⟨(not_f (decide_eq_true h939)), trivial⟩⟩, ⟨⟨trivial, ⟨trivial, ⟨nspeculumbase_Within_ok k a2.Den 1 100000000000 _ h941, ⟨trivial, trivial⟩⟩⟩⟩, ⟨(not_t (bool_f h942)), ⟨⟨trivial, trivial⟩, trivial⟩⟩⟩⟩⟩, ⟨trivial, trivial⟩⟩ (Wv.refl _)
  · rw [if_neg h939] at h
    injection h with h; subst h
    exact fun_ok pm pn Go.Proofs.Try.func25 (q := ((((True) ∧ (True) ∧ True) ∧ (((True) ∧ (True) ∧ (True) ∧ (True) ∧ (True) ∧ (True) ∧ True) ∧ (((!(decide ((a2.Nums.length : Int) = (a0.length : Int)))) = true) ∧ (((True) ∧ True) ∧ (True))))) ∧ ((True) ∧ (True)))) (r0 := vi 10) (ans := [.reg [.n, .n], .reg [.n, .n, .n, .n, .n, .n], .br true, .reg [.n]]) (fr := true) (by kernel_rfl) ⟨⟨⟨trivial, ⟨trivial, trivial⟩⟩, ⟨⟨trivial, ⟨trivial, ⟨trivial, ⟨trivial, ⟨trivial, ⟨trivial, trivial⟩⟩⟩⟩⟩⟩, ⟨(not_t (decide_eq_false h939)), ⟨⟨trivial, trivial⟩, trivial⟩⟩⟩⟩, ⟨trivial, trivial⟩⟩ (Wv.refl _)
def nspeculumbase_CopyInts (k : Nat) (a0 : (List Int)) : Option (List Int) :=
  if ([] : List Int).length + a0.length ≤ 1000000000 then (some (([] : List Int) ++ a0)) else none
set_option maxRecDepth 100000 in
set_option maxHeartbeats 4000000 in
theorem nspeculumbase_CopyInts_ok (k : Nat) (a0 : (List Int)) (r : (List Int)) (h : nspeculumbase_CopyInts k a0 = some r) : VC Go.Proofs.Try.prog 22 [VV.tr (List.map vi a0) a0.length] (VV.fr (List.map vi r) r.length) := by
  unfold nspeculumbase_CopyInts at h
  by_cases h1150 : ([] : List Int).length + a0.length ≤ 1000000000
  · rw [if_pos h1150] at h
    injection h with h; subst h
    exact fun_ok pm pn Go.Proofs.Try.func22 (q := ((((True) ∧ True) ∧ (((True) ∧ (True) ∧ (List.length [] = 0 * 1 ∧ List.length (List.map vi a0) = a0.length * 1 ∧ (0 + a0.length) * 8 ≤ 140737488355328 ∧ 0 + a0.length < 1099511627776 ∧ List.all (List.map vi a0) VV.still = true) ∧ (True) ∧ True) ∧ (True))) ∧ ((List.all ([] ++ (List.map vi a0)) new0 = true) ∧ (True)))) (r0 := VV.fr (List.drop 0 (List.map unfr ([] ++ (List.map vi a0)))) (0 + a0.length)) (ans := [.reg [.n], .reg [.n, .n, .n, .n]]) (fr := true) (by kernel_rfl) ⟨⟨⟨trivial, trivial⟩, ⟨⟨trivial, ⟨trivial, ⟨⟨(by rw [show [] = List.map vi ([] : List Int) from rfl]; simp), (by simp), by simp at h1150 ⊢; omega, by simp at h1150 ⊢; omega, (by exact still_vi _)⟩, ⟨trivial, trivial⟩⟩⟩⟩, trivial⟩⟩, ⟨(by rw [show [] ++ (List.map vi a0) = List.map vi (([] : List Int) ++ a0) from (by rw [show [] = List.map vi ([] : List Int) from rfl]; exact List.map_append.symm)]; exact new0_vi _), trivial⟩⟩ (Wv.of_eq (by simp only [show [] ++ (List.map vi a0) = List.map vi (([] : List Int) ++ a0) from (by rw [show [] = List.map vi ([] : List Int) from rfl]; exact List.map_append.symm), drop0, unfr_vi, List.length_map, List.length_replicate, List.length_append, List.length_set, List.length_cons, List.length_nil, unfr_v_41, unfr_f_41]))
  · rw [if_neg h1150] at h; cases h
def nspeculumbase_CopyLists_l0_0 (k : Nat) (a0 : (List (List Int))) : Nat → (List (List Int)) → Int → Option ((List (List Int)))
  | 0, _, _ => none
  | fuel + 1, y0, x4 => if x4 < (a0.length : Int) then (if 0 ≤ x4 ∧ x4 < (a0.length : Int) then ((nspeculumbase_CopyInts k (a0.getD x4.toNat default)).bind fun r1188 => (if y0.length + ([r1188] : List (List Int)).length ≤ 1000000000 then (nspeculumbase_CopyLists_l0_0 k a0 fuel (y0 ++ ([r1188] : List (List Int))) (w64 (x4 + 1))) else none)) else none) else (some y0)
set_option maxRecDepth 100000 in
set_option maxHeartbeats 4000000 in
theorem nspeculumbase_CopyLists_l0_0_ok (k : Nat) (a0 : (List (List Int))) : ∀ (fuel : Nat) (y0 : List (List Int)) (x4 : Int) (r : (List (List Int))), nspeculumbase_CopyLists_l0_0 k a0 fuel y0 x4 = some r → (VLoop none Go.Proofs.Try.prog (szF Go.Proofs.Try.f21) (bodyOf Go.Proofs.Try.f21 0) ⟨mkA [(0, VV.tr (List.map v_41 a0) a0.length), (3, VV.rf 0 0 y0.length), (4, vi x4)], [some ⟨false, 1, List.map f_41 y0⟩], .nil⟩ (.exit 0) ⟨mkA [(3, VV.rf 0 0 r.length)], [some ⟨false, 1, List.map f_41 r⟩], .nil⟩) := by
  intro fuel
  induction fuel with
  | zero => intro y0 x4 r h; rw [nspeculumbase_CopyLists_l0_0.eq_1] at h; cases h
  | succ fuel ih =>
    intro y0 x4 r h
    rw [nspeculumbase_CopyLists_l0_0.eq_2] at h
    by_cases h1186 : x4 < (a0.length : Int)
    · rw [if_pos h1186] at h
      by_cases h1187 : 0 ≤ x4 ∧ x4 < (a0.length : Int)
      · rw [if_pos h1187] at h
        cases h1189 : nspeculumbase_CopyInts k (a0.getD x4.toNat default) with
        | none => rw [h1189] at h; cases h
        | some r1188 =>
          rw [h1189, Option.bind_some] at h
          by_cases h1190 : y0.length + ([r1188] : List (List Int)).length ≤ 1000000000
          · rw [if_pos h1190] at h
            have h2 := ih _ _ _ h
            have hv : vRound none Go.Proofs.Try.prog Go.Proofs.Try.f21 0 ⟨mkA [(0, VV.tr (List.map v_41 a0) a0.length), (3, VV.rf 0 0 y0.length), (4, vi x4)], [some ⟨false, 1, List.map f_41 y0⟩], .nil⟩ [.reg [.n, .n, .n, .n], .br true, .reg [.n, .n, .n, .n, .v (VV.tr (List.map vi (a0.getD x4.toNat default)) ((a0.getD x4.toNat default).length)), .call (VV.fr (List.map vi r1188) r1188.length), .n, .n, .n], .reg [.n, .n, .n]] ⟨[(0, none), (3, some (VV.rf 0 0 ((y0 ++ ([r1188] : List (List Int))).length))), (4, none)], [some (List.map f_41 (y0 ++ ([r1188] : List (List Int))))], []⟩ = some (.normal, ⟨mkA [(0, VV.tr (List.map v_41 a0) a0.length), (3, VV.rf 0 0 ((y0 ++ ([r1188] : List (List Int))).length)), (4, vi (w64 (x4 + 1)))], [some ⟨false, 1, List.map f_41 (y0 ++ ([r1188] : List (List Int)))⟩], .nil⟩, ((((True) ∧ (True) ∧ (True) ∧ (True) ∧ True) ∧ (((decide (x4 < (a0.length : Int))) = true) ∧ (True))) ∧ (((True) ∧ (True) ∧ (True) ∧ (0 ≤ x4 ∧ x4 < ((a0.length : Nat) : Int)) ∧ (loadL Go.Proofs.Try.prog 41 (x4.toNat * 1) (List.map v_41 a0) = some (VV.tr (List.map vi (a0.getD x4.toNat default)) ((a0.getD x4.toNat default).length))) ∧ (VC Go.Proofs.Try.prog 22 [VV.tr (List.map vi (a0.getD x4.toNat default)) ((a0.getD x4.toNat default).length)] (VV.fr (List.map vi r1188) r1188.length)) ∧ (True) ∧ (List.length (List.map f_41 y0) = y0.length * 1 ∧ List.length [VV.fr (List.map vi r1188) r1188.length] = 1 * 1 ∧ (y0.length + 1) * 24 ≤ 140737488355328 ∧ y0.length + 1 < 1099511627776 ∧ List.all [VV.fr (List.map vi r1188) r1188.length] VV.still = true) ∧ (True) ∧ True) ∧ ((True) ∧ (True) ∧ (True) ∧ True))) ∧ (((Wv (VV.rf 0 0 (y0.length + 1)) (VV.rf 0 0 ((y0 ++ ([r1188] : List (List Int))).length))) ∧ (True)) ∧ (((List.map f_41 y0) ++ [VV.fr (List.map vi r1188) r1188.length] = List.map f_41 (y0 ++ ([r1188] : List (List Int)))) ∧ (True)))) := by kernel_rfl
            have hq : ((((True) ∧ (True) ∧ (True) ∧ (True) ∧ True) ∧ (((decide (x4 < (a0.length : Int))) = true) ∧ (True))) ∧ (((True) ∧ (True) ∧ (True) ∧ (0 ≤ x4 ∧ x4 < ((a0.length : Nat) : Int)) ∧ (loadL Go.Proofs.Try.prog 41 (x4.toNat * 1) (List.map v_41 a0) = some (VV.tr (List.map vi (a0.getD x4.toNat default)) ((a0.getD x4.toNat default).length))) ∧ (VC Go.Proofs.Try.prog 22 [VV.tr (List.map vi (a0.getD x4.toNat default)) ((a0.getD x4.toNat default).length)] (VV.fr (List.map vi r1188) r1188.length)) ∧ (True) ∧ (List.length (List.map f_41 y0) = y0.length * 1 ∧ List.length [VV.fr (List.map vi r1188) r1188.length] = 1 * 1 ∧ (y0.length + 1) * 24 ≤ 140737488355328 ∧ y0.length + 1 < 1099511627776 ∧ List.all [VV.fr (List.map vi r1188) r1188.length] VV.still = true) ∧ (True) ∧ True) ∧ ((True) ∧ (True) ∧ (True) ∧ True))) ∧ (((Wv (VV.rf 0 0 (y0.length + 1)) (VV.rf 0 0 ((y0 ++ ([r1188] : List (List Int))).length))) ∧ (True)) ∧ (((List.map f_41 y0) ++ [VV.fr (List.map vi r1188) r1188.length] = List.map f_41 (y0 ++ ([r1188] : List (List Int)))) ∧ (True))) := ⟨⟨⟨⟨trivial, ⟨trivial, ⟨trivial, ⟨trivial, trivial⟩⟩⟩⟩, ⟨(decide_eq_true h1186), trivial⟩⟩, ⟨⟨trivial, ⟨trivial, ⟨trivial, ⟨h1187, ⟨ld_map ag41 v_41 a0 default h1187 (by omega), ⟨nspeculumbase_CopyInts_ok k (a0.getD x4.toNat default) _ h1189, ⟨trivial, ⟨⟨(by simp), (by rw [show [VV.fr (List.map vi r1188) r1188.length] = List.map f_41 ([r1188] : List (List Int)) from rfl]; simp), by simp at h1190 ⊢; omega, by simp at h1190 ⊢; omega, (by rw [show [VV.fr (List.map vi r1188) r1188.length] = List.map f_41 ([r1188] : List (List Int)) from rfl]; exact still_f_41 _)⟩, ⟨trivial, trivial⟩⟩⟩⟩⟩⟩⟩⟩⟩, ⟨trivial, ⟨trivial, ⟨trivial, trivial⟩⟩⟩⟩⟩, ⟨⟨(Wv.of_eq (by simp)), trivial⟩, ⟨(by rw [show [VV.fr (List.map vi r1188) r1188.length] = List.map f_41 ([r1188] : List (List Int)) from rfl]; exact List.map_append.symm), trivial⟩⟩⟩
            exact round_next pm pn hv hq h2
          · rw [if_neg h1190] at h; cases h
      · rw [if_neg h1187] at h; cases h
    · rw [if_neg h1186] at h
      injection h with h; subst h
      exact round_stop (c := ⟨[(3, none)], [none], []⟩) (q := (((True) ∧ (True) ∧ (True) ∧ (True) ∧ True) ∧ (((decide (x4 < (a0.length : Int))) = false) ∧ (True))) ∧ (((True)) ∧ ((True)))) (s1 := ⟨mkA [(3, VV.rf 0 0 y0.length)], [some ⟨false, 1, List.map f_41 y0⟩], .nil⟩) pm pn (ans := [.reg [.n, .n, .n, .n], .br false]) (by kernel_rfl) (by intro e; cases e) ⟨⟨⟨trivial, ⟨trivial, ⟨trivial, ⟨trivial, trivial⟩⟩⟩⟩, ⟨(decide_eq_false h1186), trivial⟩⟩, ⟨trivial, trivial⟩⟩
def nspeculumbase_CopyLists (k : Nat) (a0 : (List (List Int))) : Option (List (List Int)) :=
  (nspeculumbase_CopyLists_l0_0 k a0 k ([] : List (List Int)) 0).bind fun r1192 => (some r1192)
set_option maxRecDepth 100000 in
set_option maxHeartbeats 4000000 in
theorem nspeculumbase_CopyLists_ok (k : Nat) (a0 : (List (List Int))) (r : (List (List Int))) (h : nspeculumbase_CopyLists k a0 = some r) : VC Go.Proofs.Try.prog 21 [VV.tr (List.map v_41 a0) a0.length] (VV.fr (List.map v_41 r) r.length) := by
  unfold nspeculumbase_CopyLists at h
  cases h1191 : nspeculumbase_CopyLists_l0_0 k a0 k ([] : List (List Int)) 0 with
  | none => rw [h1191] at h; cases h
  | some r1192 =>
    rw [h1191, Option.bind_some] at h
    have hph1191 := nspeculumbase_CopyLists_l0_0_ok k a0 _ _ _ _ h1191
    injection h with h; subst h
    exact fun_ok pm pn Go.Proofs.Try.func21 (q := ((((True) ∧ True) ∧ (((True) ∧ True) ∧ ((((True) ∧ True) ∧ (((((True)) ∧ ((True))) ∧ VRun none Go.Proofs.Try.prog (szF Go.Proofs.Try.f21) (.loop (bodyOf Go.Proofs.Try.f21 0)) ⟨mkA [(0, VV.tr (List.map v_41 a0) a0.length), (3, VV.rf 0 0 (([] : List (List Int)).length)), (4, vi 0)], [some ⟨false, 1, List.map f_41 ([] : List (List Int))⟩], .nil⟩ (.exit 0) ⟨mkA [(3, VV.rf 0 0 r1192.length)], [some ⟨false, 1, List.map f_41 r1192⟩], .nil⟩))) ∧ (((True) ∧ (True) ∧ True) ∧ (True))))) ∧ ((List.all (List.map f_41 r1192) new0 = true) ∧ (True)))) (r0 := VV.fr (List.drop 0 (List.map unfr (List.map f_41 r1192))) r1192.length) (ans := [.reg [.n], .reg [.n], .reg [.n], .sub ⟨[(0, none), (3, none), (4, none)], [], [(3, 1)]⟩ (.exit 0) ⟨mkA [(3, VV.rf 0 0 r1192.length)], [some ⟨false, 1, List.map f_41 r1192⟩], .nil⟩, .reg [.n, .n]]) (fr := true) (by kernel_rfl) ⟨⟨⟨trivial, trivial⟩, ⟨⟨trivial, trivial⟩, ⟨⟨⟨trivial, trivial⟩, ⟨⟨trivial, trivial⟩, VRun.loop hph1191⟩⟩, ⟨⟨trivial, ⟨trivial, trivial⟩⟩, trivial⟩⟩⟩⟩, ⟨(by exact new0_f_41 _), trivial⟩⟩ (Wv.of_eq (by simp only [drop0, unfr_vi, List.length_map, List.length_replicate, List.length_append, List.length_set, List.length_cons, List.length_nil, unfr_v_41, unfr_f_41]))
end Go.Proofs.Ytbgdjjnkgjjffaa.Vg

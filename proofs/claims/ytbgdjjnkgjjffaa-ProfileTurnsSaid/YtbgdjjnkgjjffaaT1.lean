/- Written by a program out of the program: what Go functions do, as plain functions, and their contracts. -/
import Derived.Test.YtbgdjjnkgjjffaaVx
namespace Go.Proofs.Ytbgdjjnkgjjffaa.Vg
set_option linter.unusedVariables false
set_option linter.unusedSimpArgs false
open Go Go.Proofs.Ytbgdjjnkgjjffaa.Ev Go.Proofs.Ytbgdjjnkgjjffaa.Vv
def v_41 (x : List Int) : VV := VV.tr (List.map vi x) x.length
def f_41 (x : List Int) : VV := VV.fr (List.map vi x) x.length
theorem still_v_41 (xs : List (List Int)) : (xs.map v_41).all VV.still = true := all_map (fun _ => rfl) xs
theorem unfr_v_41 (xs : List (List Int)) : (xs.map v_41).map unfr = xs.map v_41 := unfr_map (fun _ => rfl) xs
theorem still_f_41 (xs : List (List Int)) : (xs.map f_41).all VV.still = true := all_map (fun _ => rfl) xs
theorem unfr_f_41 (xs : List (List Int)) : (xs.map f_41).map unfr = xs.map v_41 := unfr_map (fun _ => rfl) xs
theorem new0_f_41 (xs : List (List Int)) : (xs.map f_41).all new0 = true := all_map (fun _ => rfl) xs
structure STurnedMaps where
  Sectors : Int
  Values : (List (List Int))
  deriving Inhabited
def c_STurnedMaps (x : STurnedMaps) : List VV := [vi x.Sectors, VV.tr (List.map v_41 x.Values) x.Values.length]
theorem len_c_STurnedMaps (x : STurnedMaps) : (c_STurnedMaps x).length = 2 := rfl
structure SFrac where
  Num : Int
  Den : Int
  deriving Inhabited
def c_SFrac (x : SFrac) : List VV := [vi x.Num, vi x.Den]
theorem len_c_SFrac (x : SFrac) : (c_SFrac x).length = 2 := rfl
theorem still_c_SFrac (xs : List SFrac) : (xs.flatMap c_SFrac).all VV.still = true := all_flat (fun _ => rfl) xs
theorem isC_c_SFrac (xs : List SFrac) : (xs.flatMap c_SFrac).all VV.isC = true := all_flat (fun _ => rfl) xs
theorem new0_c_SFrac (xs : List SFrac) : (xs.flatMap c_SFrac).all new0 = true := all_flat (fun _ => rfl) xs
theorem unfr_c_SFrac (xs : List SFrac) : (xs.flatMap c_SFrac).map unfr = xs.flatMap c_SFrac := unfr_flat (fun _ => rfl) xs
theorem ag3 : isAggT Go.Proofs.Try.prog 3 = some false := by kernel_rfl
theorem ag41 : isAggT Go.Proofs.Try.prog 41 = some false := by kernel_rfl
def nprofile_isWithin (k : Nat) (a0 : Int) (a1 : Int) (a2 : Int) : Option Bool :=
  if a1 ≤ a0 then (some (decide (a0 ≤ a2))) else (some false)
set_option maxRecDepth 100000 in
set_option maxHeartbeats 4000000 in
theorem nprofile_isWithin_ok (k : Nat) (a0 : Int) (a1 : Int) (a2 : Int) (r : Bool) (h : nprofile_isWithin k a0 a1 a2 = some r) : VC Go.Proofs.Try.prog 38 [vi a0, vi a1, vi a2] (vb r) := by
  unfold nprofile_isWithin at h
  by_cases h2 : a1 ≤ a0
  · rw [if_pos h2] at h
    injection h with h; subst h
    exact fun_ok pm pn Go.Proofs.Try.func38 (q := ((((True) ∧ True) ∧ (((True) ∧ (True) ∧ (True) ∧ (True) ∧ (((decide (a1 ≤ a0)) = true ∧ True)) ∧ (((decide (a1 ≤ a0)) = true ∧ True)) ∧ (((decide (a1 ≤ a0)) = true ∧ True)) ∧ ((decide (a1 ≤ a0)) = true) ∧ (True) ∧ True) ∧ (True))) ∧ ((True) ∧ (True)))) (r0 := vb (decide (a0 ≤ a2))) (ans := [.reg [.n], .reg [.n, .n, .n, .n, .n, .n, .n, .b true, .n]]) (fr := true) (by kernel_rfl) ⟨⟨⟨trivial, trivial⟩, ⟨⟨trivial, ⟨trivial, ⟨trivial, ⟨trivial, ⟨⟨(decide_eq_true h2), trivial⟩, ⟨⟨(decide_eq_true h2), trivial⟩, ⟨⟨(decide_eq_true h2), trivial⟩, ⟨(decide_eq_true h2), ⟨trivial, trivial⟩⟩⟩⟩⟩⟩⟩⟩⟩, trivial⟩⟩, ⟨trivial, trivial⟩⟩ (Wv.refl _)
  · rw [if_neg h2] at h
    injection h with h; subst h
    exact fun_ok pm pn Go.Proofs.Try.func38 (q := ((((True) ∧ True) ∧ (((True) ∧ (True) ∧ (True) ∧ (True) ∧ ((decide (a1 ≤ a0)) = !true) ∧ ((decide (a1 ≤ a0)) = !true) ∧ ((decide (a1 ≤ a0)) = !true) ∧ ((decide (a1 ≤ a0)) = false) ∧ (True) ∧ True) ∧ (True))) ∧ ((True) ∧ (True)))) (r0 := vb false) (ans := [.reg [.n], .reg [.n, .n, .n, .n, .skip, .skip, .skip, .b false, .n]]) (fr := true) (by kernel_rfl) ⟨⟨⟨trivial, trivial⟩, ⟨⟨trivial, ⟨trivial, ⟨trivial, ⟨trivial, ⟨(decide_eq_false h2), ⟨(decide_eq_false h2), ⟨(decide_eq_false h2), ⟨(decide_eq_false h2), ⟨trivial, trivial⟩⟩⟩⟩⟩⟩⟩⟩⟩, trivial⟩⟩, ⟨trivial, trivial⟩⟩ (Wv.refl _)
def nprofile_areSmall_l0_0 (k : Nat) (a0 : Int) (a1 : (List Int)) : Nat → Int → Option (Sum Unit Unit)
  | 0, _ => none
  | fuel + 1, x9 => if x9 < (a1.length : Int) then (if 0 ≤ x9 ∧ x9 < (a1.length : Int) then ((nprofile_isWithin k (a1.getD x9.toNat 0) (w64 (0 - a0)) a0).bind fun r57 => (if r57 = true then (nprofile_areSmall_l0_0 k a0 a1 fuel (w64 (x9 + 1))) else (some (.inl ())))) else none) else (some (.inr ()))
set_option maxRecDepth 100000 in
set_option maxHeartbeats 4000000 in
theorem nprofile_areSmall_l0_0_ok (k : Nat) (a0 : Int) (a1 : (List Int)) : ∀ (fuel : Nat) (x9 : Int) (r : Sum Unit Unit), nprofile_areSmall_l0_0 k a0 a1 fuel x9 = some r → (match r with | .inl r => VLoop none Go.Proofs.Try.prog (szF Go.Proofs.Try.f39) (bodyOf Go.Proofs.Try.f39 0) ⟨mkA [(0, vi a0), (7, VV.tr (List.map vi a1) a1.length), (8, vi (a1.length : Int)), (9, vi x9)], [], .nil⟩ .ret ⟨mkA [(4, vb false)], [], .nil⟩ | .inr r => VLoop none Go.Proofs.Try.prog (szF Go.Proofs.Try.f39) (bodyOf Go.Proofs.Try.f39 0) ⟨mkA [(0, vi a0), (7, VV.tr (List.map vi a1) a1.length), (8, vi (a1.length : Int)), (9, vi x9)], [], .nil⟩ (.exit 0) ⟨mkA [], [], .nil⟩) := by
  intro fuel
  induction fuel with
  | zero => intro x9 r h; rw [nprofile_areSmall_l0_0.eq_1] at h; cases h
  | succ fuel ih =>
    intro x9 r h
    rw [nprofile_areSmall_l0_0.eq_2] at h
    by_cases h55 : x9 < (a1.length : Int)
    · rw [if_pos h55] at h
      by_cases h56 : 0 ≤ x9 ∧ x9 < (a1.length : Int)
      · rw [if_pos h56] at h
        cases h58 : nprofile_isWithin k (a1.getD x9.toNat 0) (w64 (0 - a0)) a0 with
        | none => rw [h58] at h; cases h
        | some r57 =>
          rw [h58, Option.bind_some] at h
          by_cases h59 : r57 = true
          · rw [if_pos h59] at h
            have h2 := ih _ _ h
            have hv : vRound none Go.Proofs.Try.prog Go.Proofs.Try.f39 0 ⟨mkA [(0, vi a0), (7, VV.tr (List.map vi a1) a1.length), (8, vi (a1.length : Int)), (9, vi x9)], [], .nil⟩ [.reg [.n], .br true, .reg [.n, .v (vi (a1.getD x9.toNat 0)), .n], .reg [.n, .n, .n, .n, .call (vb r57), .n], .br false, .reg [.n, .n]] ⟨[(0, none), (7, none), (8, none), (9, none)], [], []⟩ = some (.normal, ⟨mkA [(0, vi a0), (7, VV.tr (List.map vi a1) a1.length), (8, vi (a1.length : Int)), (9, vi (w64 (x9 + 1)))], [], .nil⟩, (((True) ∧ True) ∧ ((((decide (x9 < (a1.length : Int))) = true) ∧ (True)) ∧ ((((0 ≤ x9 ∧ x9 < ((a1.length : Nat) : Int)) ∧ (loadL Go.Proofs.Try.prog 3 (x9.toNat * 1) (List.map vi a1) = some (vi (a1.getD x9.toNat 0))) ∧ (True) ∧ True) ∧ (((True) ∧ (True) ∧ (True) ∧ (True) ∧ (VC Go.Proofs.Try.prog 38 [vi (a1.getD x9.toNat 0), vi (w64 (0 - a0)), vi a0] (vb r57)) ∧ (True) ∧ True) ∧ (((!r57) = false) ∧ (True)))) ∧ ((True) ∧ (True) ∧ True)))) ∧ (((True)) ∧ ((True)))) := by kernel_rfl
            have hq : (((True) ∧ True) ∧ ((((decide (x9 < (a1.length : Int))) = true) ∧ (True)) ∧ ((((0 ≤ x9 ∧ x9 < ((a1.length : Nat) : Int)) ∧ (loadL Go.Proofs.Try.prog 3 (x9.toNat * 1) (List.map vi a1) = some (vi (a1.getD x9.toNat 0))) ∧ (True) ∧ True) ∧ (((True) ∧ (True) ∧ (True) ∧ (True) ∧ (VC Go.Proofs.Try.prog 38 [vi (a1.getD x9.toNat 0), vi (w64 (0 - a0)), vi a0] (vb r57)) ∧ (True) ∧ True) ∧ (((!r57) = false) ∧ (True)))) ∧ ((True) ∧ (True) ∧ True)))) ∧ (((True)) ∧ ((True))) := ⟨⟨⟨trivial, trivial⟩, ⟨⟨(decide_eq_true h55), trivial⟩, ⟨⟨⟨h56, ⟨ld_map ag3 vi a1 0 h56 (by omega), ⟨trivial, trivial⟩⟩⟩, ⟨⟨trivial, ⟨trivial, ⟨trivial, ⟨trivial, ⟨nprofile_isWithin_ok k (a1.getD x9.toNat 0) (w64 (0 - a0)) a0 _ h58, ⟨trivial, trivial⟩⟩⟩⟩⟩⟩, ⟨(not_f h59), trivial⟩⟩⟩, ⟨trivial, ⟨trivial, trivial⟩⟩⟩⟩⟩, ⟨trivial, trivial⟩⟩
            cases r with
            | inl r => exact round_next pm pn hv hq h2
            | inr r =>
              exact round_next pm pn hv hq h2
          · rw [if_neg h59] at h
            injection h with h; subst h
            exact round_stop (c := ⟨[(4, none)], [], []⟩) (q := (((True) ∧ True) ∧ ((((decide (x9 < (a1.length : Int))) = true) ∧ (True)) ∧ (((0 ≤ x9 ∧ x9 < ((a1.length : Nat) : Int)) ∧ (loadL Go.Proofs.Try.prog 3 (x9.toNat * 1) (List.map vi a1) = some (vi (a1.getD x9.toNat 0))) ∧ (True) ∧ True) ∧ (((True) ∧ (True) ∧ (True) ∧ (True) ∧ (VC Go.Proofs.Try.prog 38 [vi (a1.getD x9.toNat 0), vi (w64 (0 - a0)), vi a0] (vb r57)) ∧ (True) ∧ True) ∧ (((!r57) = true) ∧ (((True) ∧ True) ∧ (True))))))) ∧ (((True)) ∧ ((True)))) (s1 := ⟨mkA [(4, vb false)], [], .nil⟩) pm pn (ans := [.reg [.n], .br true, .reg [.n, .v (vi (a1.getD x9.toNat 0)), .n], .reg [.n, .n, .n, .n, .call (vb r57), .n], .br true, .reg [.n]]) (by kernel_rfl) (by intro e; cases e) ⟨⟨⟨trivial, trivial⟩, ⟨⟨(decide_eq_true h55), trivial⟩, ⟨⟨h56, ⟨ld_map ag3 vi a1 0 h56 (by omega), ⟨trivial, trivial⟩⟩⟩, ⟨⟨trivial, ⟨trivial, ⟨trivial, ⟨trivial, ⟨nprofile_isWithin_ok k (a1.getD x9.toNat 0) (w64 (0 - a0)) a0 _ h58, ⟨trivial, trivial⟩⟩⟩⟩⟩⟩, ⟨(not_t (bool_f h59)), ⟨⟨trivial, trivial⟩, trivial⟩⟩⟩⟩⟩⟩, ⟨trivial, trivial⟩⟩
      · rw [if_neg h56] at h; cases h
    · rw [if_neg h55] at h
      injection h with h; subst h
      exact round_stop (c := ⟨[], [], []⟩) (q := (((True) ∧ True) ∧ (((decide (x9 < (a1.length : Int))) = false) ∧ (True))) ∧ (((True)) ∧ ((True)))) (s1 := ⟨mkA [], [], .nil⟩) pm pn (ans := [.reg [.n], .br false]) (by kernel_rfl) (by intro e; cases e) ⟨⟨⟨trivial, trivial⟩, ⟨(decide_eq_false h55), trivial⟩⟩, ⟨trivial, trivial⟩⟩
def nprofile_areSmall (k : Nat) (a0 : Int) (a1 : (List Int)) : Option Bool :=
  (nprofile_areSmall_l0_0 k a0 a1 k 0).bind fun r61 => (match r61 with | .inl r62 => (some false) | .inr r63 => (some true))
set_option maxRecDepth 100000 in
set_option maxHeartbeats 4000000 in
theorem nprofile_areSmall_ok (k : Nat) (a0 : Int) (a1 : (List Int)) (r : Bool) (h : nprofile_areSmall k a0 a1 = some r) : VC Go.Proofs.Try.prog 39 [vi a0, VV.tr (List.map vi a1) a1.length] (vb r) := by
  unfold nprofile_areSmall at h
  cases h60 : nprofile_areSmall_l0_0 k a0 a1 k 0 with
  | none => rw [h60] at h; cases h
  | some r61 =>
    rw [h60, Option.bind_some] at h
    have hph60 := nprofile_areSmall_l0_0_ok k a0 a1 _ _ _ h60
    cases r61 with
    | inl r62 =>
      dsimp only at h
      injection h with h; subst h
      exact fun_ok pm pn Go.Proofs.Try.func39 (q := ((((True) ∧ True) ∧ (((True) ∧ (True) ∧ (True) ∧ True) ∧ (((((True)) ∧ ((True))) ∧ VRun none Go.Proofs.Try.prog (szF Go.Proofs.Try.f39) (.loop (bodyOf Go.Proofs.Try.f39 0)) ⟨mkA [(0, vi a0), (7, VV.tr (List.map vi a1) a1.length), (8, vi (a1.length : Int)), (9, vi 0)], [], .nil⟩ .ret ⟨mkA [(4, vb false)], [], .nil⟩)))) ∧ ((True) ∧ (True)))) (r0 := vb false) (ans := [.reg [.n], .reg [.n, .n, .n], .sub ⟨[(0, none), (7, none), (8, none), (9, none)], [], []⟩ .ret ⟨mkA [(4, vb false)], [], .nil⟩]) (fr := true) (by kernel_rfl) ⟨⟨⟨trivial, trivial⟩, ⟨⟨trivial, ⟨trivial, ⟨trivial, trivial⟩⟩⟩, ⟨⟨trivial, trivial⟩, VRun.loop hph60⟩⟩⟩, ⟨trivial, trivial⟩⟩ (Wv.refl _)
    | inr r63 =>
      dsimp only at h
      injection h with h; subst h
      exact fun_ok pm pn Go.Proofs.Try.func39 (q := ((((True) ∧ True) ∧ ((((True) ∧ (True) ∧ (True) ∧ True) ∧ (((((True)) ∧ ((True))) ∧ VRun none Go.Proofs.Try.prog (szF Go.Proofs.Try.f39) (.loop (bodyOf Go.Proofs.Try.f39 0)) ⟨mkA [(0, vi a0), (7, VV.tr (List.map vi a1) a1.length), (8, vi (a1.length : Int)), (9, vi 0)], [], .nil⟩ (.exit 0) ⟨mkA [], [], .nil⟩))) ∧ (((True) ∧ True) ∧ (True)))) ∧ ((True) ∧ (True)))) (r0 := vb true) (ans := [.reg [.n], .reg [.n, .n, .n], .sub ⟨[(0, none), (7, none), (8, none), (9, none)], [], []⟩ (.exit 0) ⟨mkA [], [], .nil⟩, .reg [.n]]) (fr := true) (by kernel_rfl) ⟨⟨⟨trivial, trivial⟩, ⟨⟨⟨trivial, ⟨trivial, ⟨trivial, trivial⟩⟩⟩, ⟨⟨trivial, trivial⟩, VRun.loop hph60⟩⟩, ⟨⟨trivial, trivial⟩, trivial⟩⟩⟩, ⟨trivial, trivial⟩⟩ (Wv.refl _)
def nprofile_CheckTurned_l0_0 (k : Nat) (a0 : STurnedMaps) : Nat → Int → Option (Sum Unit Unit)
  | 0, _ => none
  | fuel + 1, x28 => if x28 < (a0.Values.length : Int) then (if 0 ≤ x28 ∧ x28 < (a0.Values.length : Int) then (if ((a0.Values.getD x28.toNat default).length : Int) = a0.Sectors then (nprofile_CheckTurned_l0_0 k a0 fuel (w64 (x28 + 1))) else (some (.inl ()))) else none) else (some (.inr ()))
set_option maxRecDepth 100000 in
set_option maxHeartbeats 4000000 in
theorem nprofile_CheckTurned_l0_0_ok (k : Nat) (a0 : STurnedMaps) : ∀ (fuel : Nat) (x28 : Int) (r : Sum Unit Unit), nprofile_CheckTurned_l0_0 k a0 fuel x28 = some r → (match r with | .inl r => VLoop none Go.Proofs.Try.prog (szF Go.Proofs.Try.f13) (bodyOf Go.Proofs.Try.f13 0) ⟨mkA [(1, VV.pt 0 0), (26, VV.tr (List.map v_41 a0.Values) a0.Values.length), (27, vi (a0.Values.length : Int)), (28, vi x28)], [some ⟨true, 1, [vi a0.Sectors, VV.tr (List.map v_41 a0.Values) a0.Values.length]⟩], .nil⟩ .ret ⟨mkA [(2, vi 10)], [], .nil⟩ | .inr r => VLoop none Go.Proofs.Try.prog (szF Go.Proofs.Try.f13) (bodyOf Go.Proofs.Try.f13 0) ⟨mkA [(1, VV.pt 0 0), (26, VV.tr (List.map v_41 a0.Values) a0.Values.length), (27, vi (a0.Values.length : Int)), (28, vi x28)], [some ⟨true, 1, [vi a0.Sectors, VV.tr (List.map v_41 a0.Values) a0.Values.length]⟩], .nil⟩ (.exit 0) ⟨mkA [(1, VV.pt 0 0)], [some ⟨true, 1, [vi a0.Sectors, VV.tr (List.map v_41 a0.Values) a0.Values.length]⟩], .nil⟩) := by
  intro fuel
  induction fuel with
  | zero => intro x28 r h; rw [nprofile_CheckTurned_l0_0.eq_1] at h; cases h
  | succ fuel ih =>
    intro x28 r h
    rw [nprofile_CheckTurned_l0_0.eq_2] at h
    by_cases h95 : x28 < (a0.Values.length : Int)
    · rw [if_pos h95] at h
      by_cases h96 : 0 ≤ x28 ∧ x28 < (a0.Values.length : Int)
      · rw [if_pos h96] at h
        by_cases h97 : ((a0.Values.getD x28.toNat default).length : Int) = a0.Sectors
        · rw [if_pos h97] at h
          have h2 := ih _ _ h
          have hv : vRound none Go.Proofs.Try.prog Go.Proofs.Try.f13 0 ⟨mkA [(1, VV.pt 0 0), (26, VV.tr (List.map v_41 a0.Values) a0.Values.length), (27, vi (a0.Values.length : Int)), (28, vi x28)], [some ⟨true, 1, [vi a0.Sectors, VV.tr (List.map v_41 a0.Values) a0.Values.length]⟩], .nil⟩ [.reg [.n], .br true, .reg [.n, .v (VV.tr (List.map vi (a0.Values.getD x28.toNat default)) ((a0.Values.getD x28.toNat default).length)), .n], .reg [.n, .n, .n, .n, .n], .br false, .reg [.n, .n]] ⟨[(1, none), (26, none), (27, none), (28, none)], [none], []⟩ = some (.normal, ⟨mkA [(1, VV.pt 0 0), (26, VV.tr (List.map v_41 a0.Values) a0.Values.length), (27, vi (a0.Values.length : Int)), (28, vi (w64 (x28 + 1)))], [some ⟨true, 1, [vi a0.Sectors, VV.tr (List.map v_41 a0.Values) a0.Values.length]⟩], .nil⟩, (((True) ∧ True) ∧ ((((decide (x28 < (a0.Values.length : Int))) = true) ∧ (True)) ∧ ((((0 ≤ x28 ∧ x28 < ((a0.Values.length : Nat) : Int)) ∧ (loadL Go.Proofs.Try.prog 41 (x28.toNat * 1) (List.map v_41 a0.Values) = some (VV.tr (List.map vi (a0.Values.getD x28.toNat default)) ((a0.Values.getD x28.toNat default).length))) ∧ (True) ∧ True) ∧ (((True) ∧ (True) ∧ (True) ∧ (True) ∧ (True) ∧ True) ∧ (((!(decide (((a0.Values.getD x28.toNat default).length : Int) = a0.Sectors))) = false) ∧ (True)))) ∧ ((True) ∧ (True) ∧ True)))) ∧ (((True)) ∧ ((True)))) := by kernel_rfl
          have hq : (((True) ∧ True) ∧ ((((decide (x28 < (a0.Values.length : Int))) = true) ∧ (True)) ∧ ((((0 ≤ x28 ∧ x28 < ((a0.Values.length : Nat) : Int)) ∧ (loadL Go.Proofs.Try.prog 41 (x28.toNat * 1) (List.map v_41 a0.Values) = some (VV.tr (List.map vi (a0.Values.getD x28.toNat default)) ((a0.Values.getD x28.toNat default).length))) ∧ (True) ∧ True) ∧ (((True) ∧ (True) ∧ (True) ∧ (True) ∧ (True) ∧ True) ∧ (((!(decide (((a0.Values.getD x28.toNat default).length : Int) = a0.Sectors))) = false) ∧ (True)))) ∧ ((True) ∧ (True) ∧ True)))) ∧ (((True)) ∧ ((True))) := ⟨⟨⟨trivial, trivial⟩, ⟨⟨(decide_eq_true h95), trivial⟩, ⟨⟨⟨h96, ⟨ld_map ag41 v_41 a0.Values default h96 (by omega), ⟨trivial, trivial⟩⟩⟩, ⟨⟨trivial, ⟨trivial, ⟨trivial, ⟨trivial, ⟨trivial, trivial⟩⟩⟩⟩⟩, ⟨(not_f (decide_eq_true h97)), trivial⟩⟩⟩, ⟨trivial, ⟨trivial, trivial⟩⟩⟩⟩⟩, ⟨trivial, trivial⟩⟩
          cases r with
          | inl r => exact round_next pm pn hv hq h2
          | inr r =>
            exact round_next pm pn hv hq h2
        · rw [if_neg h97] at h
          injection h with h; subst h
          exact round_stop (c := ⟨[(2, none)], [], []⟩) (q := (((True) ∧ True) ∧ ((((decide (x28 < (a0.Values.length : Int))) = true) ∧ (True)) ∧ (((0 ≤ x28 ∧ x28 < ((a0.Values.length : Nat) : Int)) ∧ (loadL Go.Proofs.Try.prog 41 (x28.toNat * 1) (List.map v_41 a0.Values) = some (VV.tr (List.map vi (a0.Values.getD x28.toNat default)) ((a0.Values.getD x28.toNat default).length))) ∧ (True) ∧ True) ∧ (((True) ∧ (True) ∧ (True) ∧ (True) ∧ (True) ∧ True) ∧ (((!(decide (((a0.Values.getD x28.toNat default).length : Int) = a0.Sectors))) = true) ∧ (((True) ∧ True) ∧ (True))))))) ∧ (((True)) ∧ ((True)))) (s1 := ⟨mkA [(2, vi 10)], [], .nil⟩) pm pn (ans := [.reg [.n], .br true, .reg [.n, .v (VV.tr (List.map vi (a0.Values.getD x28.toNat default)) ((a0.Values.getD x28.toNat default).length)), .n], .reg [.n, .n, .n, .n, .n], .br true, .reg [.n]]) (by kernel_rfl) (by intro e; cases e) ⟨⟨⟨trivial, trivial⟩, ⟨⟨(decide_eq_true h95), trivial⟩, ⟨⟨h96, ⟨ld_map ag41 v_41 a0.Values default h96 (by omega), ⟨trivial, trivial⟩⟩⟩, ⟨⟨trivial, ⟨trivial, ⟨trivial, ⟨trivial, ⟨trivial, trivial⟩⟩⟩⟩⟩, ⟨(not_t (decide_eq_false h97)), ⟨⟨trivial, trivial⟩, trivial⟩⟩⟩⟩⟩⟩, ⟨trivial, trivial⟩⟩
      · rw [if_neg h96] at h; cases h
    · rw [if_neg h95] at h
      injection h with h; subst h
      exact round_stop (c := ⟨[(1, none)], [none], []⟩) (q := (((True) ∧ True) ∧ (((decide (x28 < (a0.Values.length : Int))) = false) ∧ (True))) ∧ (((True)) ∧ ((True)))) (s1 := ⟨mkA [(1, VV.pt 0 0)], [some ⟨true, 1, [vi a0.Sectors, VV.tr (List.map v_41 a0.Values) a0.Values.length]⟩], .nil⟩) pm pn (ans := [.reg [.n], .br false]) (by kernel_rfl) (by intro e; cases e) ⟨⟨⟨trivial, trivial⟩, ⟨(decide_eq_false h95), trivial⟩⟩, ⟨trivial, trivial⟩⟩
def nprofile_CheckTurned_l1_0 (k : Nat) (a0 : STurnedMaps) : Nat → Int → Option (Sum Unit Unit)
  | 0, _ => none
  | fuel + 1, x41 => if x41 < (a0.Values.length : Int) then (if 0 ≤ x41 ∧ x41 < (a0.Values.length : Int) then ((nprofile_areSmall k 100000 (a0.Values.getD x41.toNat default)).bind fun r114 => (if r114 = true then (nprofile_CheckTurned_l1_0 k a0 fuel (w64 (x41 + 1))) else (some (.inl ())))) else none) else (some (.inr ()))
set_option maxRecDepth 100000 in
set_option maxHeartbeats 4000000 in
theorem nprofile_CheckTurned_l1_0_ok (k : Nat) (a0 : STurnedMaps) : ∀ (fuel : Nat) (x41 : Int) (r : Sum Unit Unit), nprofile_CheckTurned_l1_0 k a0 fuel x41 = some r → (match r with | .inl r => VLoop none Go.Proofs.Try.prog (szF Go.Proofs.Try.f13) (bodyOf Go.Proofs.Try.f13 1) ⟨mkA [(39, VV.tr (List.map v_41 a0.Values) a0.Values.length), (40, vi (a0.Values.length : Int)), (41, vi x41)], [], .nil⟩ .ret ⟨mkA [(2, vi 2)], [], .nil⟩ | .inr r => VLoop none Go.Proofs.Try.prog (szF Go.Proofs.Try.f13) (bodyOf Go.Proofs.Try.f13 1) ⟨mkA [(39, VV.tr (List.map v_41 a0.Values) a0.Values.length), (40, vi (a0.Values.length : Int)), (41, vi x41)], [], .nil⟩ (.exit 2) ⟨mkA [], [], .nil⟩) := by
  intro fuel
  induction fuel with
  | zero => intro x41 r h; rw [nprofile_CheckTurned_l1_0.eq_1] at h; cases h
  | succ fuel ih =>
    intro x41 r h
    rw [nprofile_CheckTurned_l1_0.eq_2] at h
    by_cases h112 : x41 < (a0.Values.length : Int)
    · rw [if_pos h112] at h
      by_cases h113 : 0 ≤ x41 ∧ x41 < (a0.Values.length : Int)
      · rw [if_pos h113] at h
        cases h115 : nprofile_areSmall k 100000 (a0.Values.getD x41.toNat default) with
        | none => rw [h115] at h; cases h
        | some r114 =>
          rw [h115, Option.bind_some] at h
          by_cases h116 : r114 = true
          · rw [if_pos h116] at h
            have h2 := ih _ _ h
            have hv : vRound none Go.Proofs.Try.prog Go.Proofs.Try.f13 1 ⟨mkA [(39, VV.tr (List.map v_41 a0.Values) a0.Values.length), (40, vi (a0.Values.length : Int)), (41, vi x41)], [], .nil⟩ [.reg [.n], .br true, .reg [.n, .v (VV.tr (List.map vi (a0.Values.getD x41.toNat default)) ((a0.Values.getD x41.toNat default).length)), .n], .reg [.n, .call (vb r114), .n], .br false, .reg [.n, .n]] ⟨[(39, none), (40, none), (41, none)], [], []⟩ = some (.normal, ⟨mkA [(39, VV.tr (List.map v_41 a0.Values) a0.Values.length), (40, vi (a0.Values.length : Int)), (41, vi (w64 (x41 + 1)))], [], .nil⟩, (((True) ∧ True) ∧ ((((decide (x41 < (a0.Values.length : Int))) = true) ∧ (True)) ∧ ((((0 ≤ x41 ∧ x41 < ((a0.Values.length : Nat) : Int)) ∧ (loadL Go.Proofs.Try.prog 41 (x41.toNat * 1) (List.map v_41 a0.Values) = some (VV.tr (List.map vi (a0.Values.getD x41.toNat default)) ((a0.Values.getD x41.toNat default).length))) ∧ (True) ∧ True) ∧ (((True) ∧ (VC Go.Proofs.Try.prog 39 [vi 100000, VV.tr (List.map vi (a0.Values.getD x41.toNat default)) ((a0.Values.getD x41.toNat default).length)] (vb r114)) ∧ (True) ∧ True) ∧ (((!r114) = false) ∧ (True)))) ∧ ((True) ∧ (True) ∧ True)))) ∧ (((True)) ∧ ((True)))) := by kernel_rfl
            have hq : (((True) ∧ True) ∧ ((((decide (x41 < (a0.Values.length : Int))) = true) ∧ (True)) ∧ ((((0 ≤ x41 ∧ x41 < ((a0.Values.length : Nat) : Int)) ∧ (loadL Go.Proofs.Try.prog 41 (x41.toNat * 1) (List.map v_41 a0.Values) = some (VV.tr (List.map vi (a0.Values.getD x41.toNat default)) ((a0.Values.getD x41.toNat default).length))) ∧ (True) ∧ True) ∧ (((True) ∧ (VC Go.Proofs.Try.prog 39 [vi 100000, VV.tr (List.map vi (a0.Values.getD x41.toNat default)) ((a0.Values.getD x41.toNat default).length)] (vb r114)) ∧ (True) ∧ True) ∧ (((!r114) = false) ∧ (True)))) ∧ ((True) ∧ (True) ∧ True)))) ∧ (((True)) ∧ ((True))) := ⟨⟨⟨trivial, trivial⟩, ⟨⟨(decide_eq_true h112), trivial⟩, ⟨⟨⟨h113, ⟨ld_map ag41 v_41 a0.Values default h113 (by omega), ⟨trivial, trivial⟩⟩⟩, ⟨⟨trivial, ⟨nprofile_areSmall_ok k 100000 (a0.Values.getD x41.toNat default) _ h115, ⟨trivial, trivial⟩⟩⟩, ⟨(not_f h116), trivial⟩⟩⟩, ⟨trivial, ⟨trivial, trivial⟩⟩⟩⟩⟩, ⟨trivial, trivial⟩⟩
            cases r with
            | inl r => exact round_next pm pn hv hq h2
            | inr r =>
              exact round_next pm pn hv hq h2
          · rw [if_neg h116] at h
            injection h with h; subst h
            exact round_stop (c := ⟨[(2, none)], [], []⟩) (q := (((True) ∧ True) ∧ ((((decide (x41 < (a0.Values.length : Int))) = true) ∧ (True)) ∧ (((0 ≤ x41 ∧ x41 < ((a0.Values.length : Nat) : Int)) ∧ (loadL Go.Proofs.Try.prog 41 (x41.toNat * 1) (List.map v_41 a0.Values) = some (VV.tr (List.map vi (a0.Values.getD x41.toNat default)) ((a0.Values.getD x41.toNat default).length))) ∧ (True) ∧ True) ∧ (((True) ∧ (VC Go.Proofs.Try.prog 39 [vi 100000, VV.tr (List.map vi (a0.Values.getD x41.toNat default)) ((a0.Values.getD x41.toNat default).length)] (vb r114)) ∧ (True) ∧ True) ∧ (((!r114) = true) ∧ (((True) ∧ True) ∧ (True))))))) ∧ (((True)) ∧ ((True)))) (s1 := ⟨mkA [(2, vi 2)], [], .nil⟩) pm pn (ans := [.reg [.n], .br true, .reg [.n, .v (VV.tr (List.map vi (a0.Values.getD x41.toNat default)) ((a0.Values.getD x41.toNat default).length)), .n], .reg [.n, .call (vb r114), .n], .br true, .reg [.n]]) (by kernel_rfl) (by intro e; cases e) ⟨⟨⟨trivial, trivial⟩, ⟨⟨(decide_eq_true h112), trivial⟩, ⟨⟨h113, ⟨ld_map ag41 v_41 a0.Values default h113 (by omega), ⟨trivial, trivial⟩⟩⟩, ⟨⟨trivial, ⟨nprofile_areSmall_ok k 100000 (a0.Values.getD x41.toNat default) _ h115, ⟨trivial, trivial⟩⟩⟩, ⟨(not_t (bool_f h116)), ⟨⟨trivial, trivial⟩, trivial⟩⟩⟩⟩⟩⟩, ⟨trivial, trivial⟩⟩
      · rw [if_neg h113] at h; cases h
    · rw [if_neg h112] at h
      injection h with h; subst h
      exact round_stop (c := ⟨[], [], []⟩) (q := (((True) ∧ True) ∧ (((decide (x41 < (a0.Values.length : Int))) = false) ∧ (True))) ∧ (((True)) ∧ ((True)))) (s1 := ⟨mkA [], [], .nil⟩) pm pn (ans := [.reg [.n], .br false]) (by kernel_rfl) (by intro e; cases e) ⟨⟨⟨trivial, trivial⟩, ⟨(decide_eq_false h112), trivial⟩⟩, ⟨trivial, trivial⟩⟩
def nprofile_CheckTurned (k : Nat) (a0 : STurnedMaps) : Option Int :=
  (nprofile_isWithin k a0.Sectors 1 24).bind fun r81 => (if r81 = true then ((nprofile_isWithin k (a0.Values.length : Int) 1 12).bind fun r84 => (if r84 = true then (if (a0.Values.length : Int) ≠ 0 then (if (a0.Sectors.tmod (a0.Values.length : Int)) = 0 then ((nprofile_CheckTurned_l0_0 k a0 k 0).bind fun r99 => (match r99 with | .inl r100 => (some 10) | .inr r101 => ((nprofile_CheckTurned_l1_0 k a0 k 0).bind fun r118 => (match r118 with | .inl r119 => (some 2) | .inr r120 => (some 0))))) else (some 10)) else none) else (some 10))) else (some 2))
set_option maxRecDepth 100000 in
set_option maxHeartbeats 4000000 in
theorem nprofile_CheckTurned_ok (k : Nat) (a0 : STurnedMaps) (r : Int) (h : nprofile_CheckTurned k a0 = some r) : VC Go.Proofs.Try.prog 13 [VV.ag [vi a0.Sectors, VV.tr (List.map v_41 a0.Values) a0.Values.length]] (vi r) := by
  unfold nprofile_CheckTurned at h
  cases h82 : nprofile_isWithin k a0.Sectors 1 24 with
  | none => rw [h82] at h; cases h
  | some r81 =>
    rw [h82, Option.bind_some] at h
    by_cases h83 : r81 = true
    · rw [if_pos h83] at h
      cases h85 : nprofile_isWithin k (a0.Values.length : Int) 1 12 with
      | none => rw [h85] at h; cases h
      | some r84 =>
        rw [h85, Option.bind_some] at h
        by_cases h86 : r84 = true
        · rw [if_pos h86] at h
          by_cases h87 : (a0.Values.length : Int) ≠ 0
          · rw [if_pos h87] at h
            by_cases h88 : (a0.Sectors.tmod (a0.Values.length : Int)) = 0
            · rw [if_pos h88] at h
              cases h98 : nprofile_CheckTurned_l0_0 k a0 k 0 with
              | none => rw [h98] at h; cases h
              | some r99 =>
                rw [h98, Option.bind_some] at h
                have hph98 := nprofile_CheckTurned_l0_0_ok k a0 _ _ _ h98
                cases r99 with
                | inl r100 =>
                  dsimp only at h
                  injection h with h; subst h
                  exact fun_ok pm pn Go.Proofs.Try.func13 (q := ((((True) ∧ (True) ∧ True) ∧ ((((True) ∧ (True) ∧ (VC Go.Proofs.Try.prog 38 [vi a0.Sectors, vi 1, vi 24] (vb r81)) ∧ (True) ∧ True) ∧ (((!r81) = false) ∧ (True))) ∧ ((((True) ∧ (True) ∧ (True) ∧ (VC Go.Proofs.Try.prog 38 [vi (a0.Values.length : Int), vi 1, vi 12] (vb r84)) ∧ (True) ∧ (True) ∧ (((!r84) = false ∧ True)) ∧ (((!r84) = false ∧ True)) ∧ (((!r84) = false ∧ True)) ∧ (((!r84) = false ∧ True)) ∧ (((!r84) = false ∧ True)) ∧ (((!r84) = false ∧ (a0.Values.length : Int) ≠ 0)) ∧ (((!r84) = false ∧ True)) ∧ ((!r84) = false) ∧ True) ∧ (((!(decide ((a0.Sectors.tmod (a0.Values.length : Int)) = 0))) = false) ∧ (True))) ∧ (((True) ∧ (True) ∧ (True) ∧ (True) ∧ True) ∧ (((((True)) ∧ ((True))) ∧ VRun none Go.Proofs.Try.prog (szF Go.Proofs.Try.f13) (.loop (bodyOf Go.Proofs.Try.f13 0)) ⟨mkA [(1, VV.pt 0 0), (26, VV.tr (List.map v_41 a0.Values) a0.Values.length), (27, vi (a0.Values.length : Int)), (28, vi 0)], [some ⟨true, 1, [vi a0.Sectors, VV.tr (List.map v_41 a0.Values) a0.Values.length]⟩], .nil⟩ .ret ⟨mkA [(2, vi 10)], [], .nil⟩)))))) ∧ ((True) ∧ (True)))) (r0 := vi 10) (ans := [.reg [.n, .n], .reg [.n, .n, .call (vb r81), .n], .br false, .reg [.n, .n, .n, .call (vb r84), .n, .n, .n, .n, .n, .n, .n, .n, .n, .b false], .br false, .reg [.n, .n, .n, .n], .sub ⟨[(1, none), (26, none), (27, none), (28, none)], [none], []⟩ .ret ⟨mkA [(2, vi 10)], [], .nil⟩]) (fr := true) (by kernel_rfl) ⟨⟨⟨trivial, ⟨trivial, trivial⟩⟩, ⟨⟨⟨trivial, ⟨trivial, ⟨nprofile_isWithin_ok k a0.Sectors 1 24 _ h82, ⟨trivial, trivial⟩⟩⟩⟩, ⟨(not_f h83), trivial⟩⟩, ⟨⟨⟨trivial, ⟨trivial, ⟨trivial, ⟨nprofile_isWithin_ok k (a0.Values.length : Int) 1 12 _ h85, ⟨trivial, ⟨trivial, ⟨⟨(not_f h86), trivial⟩, ⟨⟨(not_f h86), trivial⟩, ⟨⟨(not_f h86), trivial⟩, ⟨⟨(not_f h86), trivial⟩, ⟨⟨(not_f h86), trivial⟩, ⟨⟨(not_f h86), h87⟩, ⟨⟨(not_f h86), trivial⟩, ⟨(not_f h86), trivial⟩⟩⟩⟩⟩⟩⟩⟩⟩⟩⟩⟩⟩⟩, ⟨(not_f (decide_eq_true h88)), trivial⟩⟩, ⟨⟨trivial, ⟨trivial, ⟨trivial, ⟨trivial, trivial⟩⟩⟩⟩, ⟨⟨trivial, trivial⟩, VRun.loop hph98⟩⟩⟩⟩⟩, ⟨trivial, trivial⟩⟩ (Wv.refl _)
                | inr r101 =>
                  dsimp only at h
                  cases h117 : nprofile_CheckTurned_l1_0 k a0 k 0 with
                  | none => rw [h117] at h; cases h
                  | some r118 =>
                    rw [h117, Option.bind_some] at h
                    have hph117 := nprofile_CheckTurned_l1_0_ok k a0 _ _ _ h117
                    cases r118 with
                    | inl r119 =>
                      dsimp only at h
                      injection h with h; subst h
                      exact fun_ok pm pn Go.Proofs.Try.func13 (q := ((((True) ∧ (True) ∧ True) ∧ ((((True) ∧ (True) ∧ (VC Go.Proofs.Try.prog 38 [vi a0.Sectors, vi 1, vi 24] (vb r81)) ∧ (True) ∧ True) ∧ (((!r81) = false) ∧ (True))) ∧ ((((True) ∧ (True) ∧ (True) ∧ (VC Go.Proofs.Try.prog 38 [vi (a0.Values.length : Int), vi 1, vi 12] (vb r84)) ∧ (True) ∧ (True) ∧ (((!r84) = false ∧ True)) ∧ (((!r84) = false ∧ True)) ∧ (((!r84) = false ∧ True)) ∧ (((!r84) = false ∧ True)) ∧ (((!r84) = false ∧ True)) ∧ (((!r84) = false ∧ (a0.Values.length : Int) ≠ 0)) ∧ (((!r84) = false ∧ True)) ∧ ((!r84) = false) ∧ True) ∧ (((!(decide ((a0.Sectors.tmod (a0.Values.length : Int)) = 0))) = false) ∧ (True))) ∧ ((((True) ∧ (True) ∧ (True) ∧ (True) ∧ True) ∧ (((((True)) ∧ ((True))) ∧ VRun none Go.Proofs.Try.prog (szF Go.Proofs.Try.f13) (.loop (bodyOf Go.Proofs.Try.f13 0)) ⟨mkA [(1, VV.pt 0 0), (26, VV.tr (List.map v_41 a0.Values) a0.Values.length), (27, vi (a0.Values.length : Int)), (28, vi 0)], [some ⟨true, 1, [vi a0.Sectors, VV.tr (List.map v_41 a0.Values) a0.Values.length]⟩], .nil⟩ (.exit 0) ⟨mkA [(1, VV.pt 0 0)], [some ⟨true, 1, [vi a0.Sectors, VV.tr (List.map v_41 a0.Values) a0.Values.length]⟩], .nil⟩))) ∧ (((True) ∧ (True) ∧ (True) ∧ (True) ∧ True) ∧ (((((True)) ∧ ((True))) ∧ VRun none Go.Proofs.Try.prog (szF Go.Proofs.Try.f13) (.loop (bodyOf Go.Proofs.Try.f13 1)) ⟨mkA [(39, VV.tr (List.map v_41 a0.Values) a0.Values.length), (40, vi (a0.Values.length : Int)), (41, vi 0)], [], .nil⟩ .ret ⟨mkA [(2, vi 2)], [], .nil⟩))))))) ∧ ((True) ∧ (True)))) (r0 := vi 2) (ans := [.reg [.n, .n], .reg [.n, .n, .call (vb r81), .n], .br false, .reg [.n, .n, .n, .call (vb r84), .n, .n, .n, .n, .n, .n, .n, .n, .n, .b false], .br false, .reg [.n, .n, .n, .n], .sub ⟨[(1, none), (26, none), (27, none), (28, none)], [none], []⟩ (.exit 0) ⟨mkA [(1, VV.pt 0 0)], [some ⟨true, 1, [vi a0.Sectors, VV.tr (List.map v_41 a0.Values) a0.Values.length]⟩], .nil⟩, .reg [.n, .n, .n, .n], .sub ⟨[(39, none), (40, none), (41, none)], [], []⟩ .ret ⟨mkA [(2, vi 2)], [], .nil⟩]) (fr := true) (by kernel_rfl) ⟨⟨⟨trivial, ⟨trivial, trivial⟩⟩, ⟨⟨⟨trivial, ⟨trivial, ⟨nprofile_isWithin_ok k a0.Sectors 1 24 _ h82, ⟨trivial, trivial⟩⟩⟩⟩, ⟨(not_f h83), trivial⟩⟩, ⟨⟨⟨trivial, ⟨trivial, ⟨trivial, ⟨nprofile_isWithin_ok k (a0.Values.length : Int) 1 12 _ h85, ⟨trivial, ⟨trivial, ⟨⟨(not_f h86), trivial⟩, ⟨⟨(not_f h86), trivial⟩, ⟨⟨(not_f h86), trivial⟩, ⟨⟨(not_f h86), trivial⟩, ⟨⟨(not_f h86), trivial⟩, ⟨⟨(not_f h86), h87⟩, ⟨⟨(not_f h86), trivial⟩, ⟨(not_f h86), trivial⟩⟩⟩⟩⟩⟩⟩⟩⟩⟩⟩⟩⟩⟩, ⟨(not_f (decide_eq_true h88)), trivial⟩⟩, ⟨⟨⟨trivial, ⟨trivial, ⟨trivial, ⟨trivial, trivial⟩⟩⟩⟩, ⟨⟨trivial, trivial⟩, VRun.loop hph98⟩⟩, ⟨⟨trivial, ⟨trivial, ⟨trivial, ⟨trivial, trivial⟩⟩⟩⟩, ⟨⟨trivial, trivial⟩, VRun.loop hph117⟩⟩⟩⟩⟩⟩, ⟨trivial, trivial⟩⟩ (Wv.refl _)
                    | inr r120 =>
                      dsimp only at h
                      injection h with h; subst h
                      exact fun_ok pm pn Go.Proofs.Try.func13 (q := ((((True) ∧ (True) ∧ True) ∧ ((((True) ∧ (True) ∧ (VC Go.Proofs.Try.prog 38 [vi a0.Sectors, vi 1, vi 24] (vb r81)) ∧ (True) ∧ True) ∧ (((!r81) = false) ∧ (True))) ∧ ((((True) ∧ (True) ∧ (True) ∧ (VC Go.Proofs.Try.prog 38 [vi (a0.Values.length : Int), vi 1, vi 12] (vb r84)) ∧ (True) ∧ (True) ∧ (((!r84) = false ∧ True)) ∧ (((!r84) = false ∧ True)) ∧ (((!r84) = false ∧ True)) ∧ (((!r84) = false ∧ True)) ∧ (((!r84) = false ∧ True)) ∧ (((!r84) = false ∧ (a0.Values.length : Int) ≠ 0)) ∧ (((!r84) = false ∧ True)) ∧ ((!r84) = false) ∧ True) ∧ (((!(decide ((a0.Sectors.tmod (a0.Values.length : Int)) = 0))) = false) ∧ (True))) ∧ ((((True) ∧ (True) ∧ (True) ∧ (True) ∧ True) ∧ (((((True)) ∧ ((True))) ∧ VRun none Go.Proofs.Try.prog (szF Go.Proofs.Try.f13) (.loop (bodyOf Go.Proofs.Try.f13 0)) ⟨mkA [(1, VV.pt 0 0), (26, VV.tr (List.map v_41 a0.Values) a0.Values.length), (27, vi (a0.Values.length : Int)), (28, vi 0)], [some ⟨true, 1, [vi a0.Sectors, VV.tr (List.map v_41 a0.Values) a0.Values.length]⟩], .nil⟩ (.exit 0) ⟨mkA [(1, VV.pt 0 0)], [some ⟨true, 1, [vi a0.Sectors, VV.tr (List.map v_41 a0.Values) a0.Values.length]⟩], .nil⟩))) ∧ ((((True) ∧ (True) ∧ (True) ∧ (True) ∧ True) ∧ (((((True)) ∧ ((True))) ∧ VRun none Go.Proofs.Try.prog (szF Go.Proofs.Try.f13) (.loop (bodyOf Go.Proofs.Try.f13 1)) ⟨mkA [(39, VV.tr (List.map v_41 a0.Values) a0.Values.length), (40, vi (a0.Values.length : Int)), (41, vi 0)], [], .nil⟩ (.exit 2) ⟨mkA [], [], .nil⟩))) ∧ (((True) ∧ True) ∧ (True))))))) ∧ ((True) ∧ (True)))) (r0 := vi 0) (ans := [.reg [.n, .n], .reg [.n, .n, .call (vb r81), .n], .br false, .reg [.n, .n, .n, .call (vb r84), .n, .n, .n, .n, .n, .n, .n, .n, .n, .b false], .br false, .reg [.n, .n, .n, .n], .sub ⟨[(1, none), (26, none), (27, none), (28, none)], [none], []⟩ (.exit 0) ⟨mkA [(1, VV.pt 0 0)], [some ⟨true, 1, [vi a0.Sectors, VV.tr (List.map v_41 a0.Values) a0.Values.length]⟩], .nil⟩, .reg [.n, .n, .n, .n], .sub ⟨[(39, none), (40, none), (41, none)], [], []⟩ (.exit 2) ⟨mkA [], [], .nil⟩, .reg [.n]]) (fr := true) (by kernel_rfl) ⟨⟨⟨trivial, ⟨trivial, trivial⟩⟩, ⟨⟨⟨trivial, ⟨trivial, ⟨nprofile_isWithin_ok k a0.Sectors 1 24 _ h82, ⟨trivial, trivial⟩⟩⟩⟩, ⟨(not_f h83), trivial⟩⟩, ⟨⟨⟨trivial, ⟨trivial, ⟨trivial, ⟨nprofile_isWithin_ok k (a0.Values.length : Int) 1 12 _ h85, ⟨trivial, ⟨trivial, ⟨⟨(not_f h86), trivial⟩, ⟨⟨(not_f h86), trivial⟩, ⟨⟨(not_f h86), trivial⟩, ⟨⟨(not_f h86), trivial⟩, ⟨⟨(not_f h86), trivial⟩, ⟨⟨(not_f h86), h87⟩, ⟨⟨(not_f h86), trivial⟩, ⟨(not_f h86), trivial⟩⟩⟩⟩⟩⟩⟩⟩⟩⟩⟩⟩⟩⟩, ⟨(not_f (decide_eq_true h88)), trivial⟩⟩, ⟨⟨⟨trivial, ⟨trivial, ⟨trivial, ⟨trivial, trivial⟩⟩⟩⟩, ⟨⟨trivial, trivial⟩, VRun.loop hph98⟩⟩, ⟨⟨⟨trivial, ⟨trivial, ⟨trivial, ⟨trivial, trivial⟩⟩⟩⟩, ⟨⟨trivial, trivial⟩, VRun.loop hph117⟩⟩, ⟨⟨trivial, trivial⟩, trivial⟩⟩⟩⟩⟩⟩, ⟨trivial, trivial⟩⟩ (Wv.refl _)
            · rw [if_neg h88] at h
              injection h with h; subst h
              exact fun_ok pm pn Go.Proofs.Try.func13 (q := ((((True) ∧ (True) ∧ True) ∧ ((((True) ∧ (True) ∧ (VC Go.Proofs.Try.prog 38 [vi a0.Sectors, vi 1, vi 24] (vb r81)) ∧ (True) ∧ True) ∧ (((!r81) = false) ∧ (True))) ∧ (((True) ∧ (True) ∧ (True) ∧ (VC Go.Proofs.Try.prog 38 [vi (a0.Values.length : Int), vi 1, vi 12] (vb r84)) ∧ (True) ∧ (True) ∧ (((!r84) = false ∧ True)) ∧ (((!r84) = false ∧ True)) ∧ (((!r84) = false ∧ True)) ∧ (((!r84) = false ∧ True)) ∧ (((!r84) = false ∧ True)) ∧ (((!r84) = false ∧ (a0.Values.length : Int) ≠ 0)) ∧ (((!r84) = false ∧ True)) ∧ ((!r84) = false) ∧ True) ∧ (((!(decide ((a0.Sectors.tmod (a0.Values.length : Int)) = 0))) = true) ∧ (((True) ∧ True) ∧ (True)))))) ∧ ((True) ∧ (True)))) (r0 := vi 10) (ans := [.reg [.n, .n], .reg [.n, .n, .call (vb r81), .n], .br false, .reg [.n, .n, .n, .call (vb r84), .n, .n, .n, .n, .n, .n, .n, .n, .n, .b false], .br true, .reg [.n]]) (fr := true) (by kernel_rfl) ⟨⟨⟨trivial, ⟨trivial, trivial⟩⟩, ⟨⟨⟨trivial, ⟨trivial, ⟨nprofile_isWithin_ok k a0.Sectors 1 24 _ h82, ⟨trivial, trivial⟩⟩⟩⟩, ⟨(not_f h83), trivial⟩⟩, ⟨⟨trivial, ⟨trivial, ⟨trivial, ⟨nprofile_isWithin_ok k (a0.Values.length : Int) 1 12 _ h85, ⟨trivial, ⟨trivial, ⟨⟨(not_f h86), trivial⟩, ⟨⟨(not_f h86), trivial⟩, ⟨⟨(not_f h86), trivial⟩, ⟨⟨(not_f h86), trivial⟩, ⟨⟨(not_f h86), trivial⟩, ⟨⟨(not_f h86), h87⟩, ⟨⟨(not_f h86), trivial⟩, ⟨(not_f h86), trivial⟩⟩⟩⟩⟩⟩⟩⟩⟩⟩⟩⟩⟩⟩, ⟨(not_t (decide_eq_false h88)), ⟨⟨trivial, trivial⟩, trivial⟩⟩⟩⟩⟩, ⟨trivial, trivial⟩⟩ (Wv.refl _)
          · rw [if_neg h87] at h; cases h
        · rw [if_neg h86] at h
          injection h with h; subst h
          exact fun_ok pm pn Go.Proofs.Try.func13 (q := ((((True) ∧ (True) ∧ True) ∧ ((((True) ∧ (True) ∧ (VC Go.Proofs.Try.prog 38 [vi a0.Sectors, vi 1, vi 24] (vb r81)) ∧ (True) ∧ True) ∧ (((!r81) = false) ∧ (True))) ∧ (((True) ∧ (True) ∧ (True) ∧ (VC Go.Proofs.Try.prog 38 [vi (a0.Values.length : Int), vi 1, vi 12] (vb r84)) ∧ (True) ∧ (True) ∧ ((!r84) = !false) ∧ ((!r84) = !false) ∧ ((!r84) = !false) ∧ ((!r84) = !false) ∧ ((!r84) = !false) ∧ ((!r84) = !false) ∧ ((!r84) = !false) ∧ ((!r84) = true) ∧ True) ∧ ((true = true) ∧ (((True) ∧ True) ∧ (True)))))) ∧ ((True) ∧ (True)))) (r0 := vi 10) (ans := [.reg [.n, .n], .reg [.n, .n, .call (vb r81), .n], .br false, .reg [.n, .n, .n, .call (vb r84), .n, .n, .skip, .skip, .skip, .skip, .skip, .skip, .skip, .b true], .br true, .reg [.n]]) (fr := true) (by kernel_rfl) ⟨⟨⟨trivial, ⟨trivial, trivial⟩⟩, ⟨⟨⟨trivial, ⟨trivial, ⟨nprofile_isWithin_ok k a0.Sectors 1 24 _ h82, ⟨trivial, trivial⟩⟩⟩⟩, ⟨(not_f h83), trivial⟩⟩, ⟨⟨trivial, ⟨trivial, ⟨trivial, ⟨nprofile_isWithin_ok k (a0.Values.length : Int) 1 12 _ h85, ⟨trivial, ⟨trivial, ⟨(not_t (bool_f h86)), ⟨(not_t (bool_f h86)), ⟨(not_t (bool_f h86)), ⟨(not_t (bool_f h86)), ⟨(not_t (bool_f h86)), ⟨(not_t (bool_f h86)), ⟨(not_t (bool_f h86)), ⟨(not_t (bool_f h86)), trivial⟩⟩⟩⟩⟩⟩⟩⟩⟩⟩⟩⟩⟩⟩, ⟨rfl, ⟨⟨trivial, trivial⟩, trivial⟩⟩⟩⟩⟩, ⟨trivial, trivial⟩⟩ (Wv.refl _)
    · rw [if_neg h83] at h
      injection h with h; subst h
      exact fun_ok pm pn Go.Proofs.Try.func13 (q := ((((True) ∧ (True) ∧ True) ∧ (((True) ∧ (True) ∧ (VC Go.Proofs.Try.prog 38 [vi a0.Sectors, vi 1, vi 24] (vb r81)) ∧ (True) ∧ True) ∧ (((!r81) = true) ∧ (((True) ∧ True) ∧ (True))))) ∧ ((True) ∧ (True)))) (r0 := vi 2) (ans := [.reg [.n, .n], .reg [.n, .n, .call (vb r81), .n], .br true, .reg [.n]]) (fr := true) (by kernel_rfl) ⟨⟨⟨trivial, ⟨trivial, trivial⟩⟩, ⟨⟨trivial, ⟨trivial, ⟨nprofile_isWithin_ok k a0.Sectors 1 24 _ h82, ⟨trivial, trivial⟩⟩⟩⟩, ⟨(not_t (bool_f h83)), ⟨⟨trivial, trivial⟩, trivial⟩⟩⟩⟩, ⟨trivial, trivial⟩⟩ (Wv.refl _)
def nprofile_restSums_l1_0 (k : Nat) (a0 : STurnedMaps) (x14 : Int) : Nat → (List Int) → Int → Option ((List Int))
  | 0, _, _ => none
  | fuel + 1, y1z, x20 => if x20 < ((a0.Values.getD x14.toNat default).length : Int) then (if 0 ≤ x20 ∧ x20 < ((a0.Values.getD x14.toNat default).length : Int) then (if 0 ≤ x20 ∧ x20 < (y1z.length : Int) then (nprofile_restSums_l1_0 k a0 x14 fuel (y1z.set x20.toNat (w64 ((y1z.getD x20.toNat 0) + ((a0.Values.getD x14.toNat default).getD x20.toNat 0)))) (w64 (x20 + 1))) else none) else none) else (some y1z)
set_option maxRecDepth 100000 in
set_option maxHeartbeats 4000000 in
theorem nprofile_restSums_l1_0_ok (k : Nat) (a0 : STurnedMaps) (x14 : Int) : ∀ (fuel : Nat) (y1z : List Int) (x20 : Int) (r : (List Int)), nprofile_restSums_l1_0 k a0 x14 fuel y1z x20 = some r → (VLoop none Go.Proofs.Try.prog (szF Go.Proofs.Try.f34) (bodyOf Go.Proofs.Try.f34 1) ⟨mkA [(3, VV.rf 1 0 y1z.length), (12, VV.tr (List.map v_41 a0.Values) a0.Values.length), (13, vi (a0.Values.length : Int)), (14, vi x14), (18, VV.tr (List.map vi (a0.Values.getD x14.toNat default)) ((a0.Values.getD x14.toNat default).length)), (19, vi ((a0.Values.getD x14.toNat default).length : Int)), (20, vi x20)], [some ⟨true, 1, [vi a0.Sectors, VV.tr (List.map v_41 a0.Values) a0.Values.length]⟩, some ⟨false, 1, List.map vi y1z⟩], .nil⟩ (.exit 2) ⟨mkA [(3, VV.rf 1 0 r.length), (12, VV.tr (List.map v_41 a0.Values) a0.Values.length), (13, vi (a0.Values.length : Int)), (14, vi x14)], [some ⟨true, 1, [vi a0.Sectors, VV.tr (List.map v_41 a0.Values) a0.Values.length]⟩, some ⟨false, 1, List.map vi r⟩], .nil⟩) := by
  intro fuel
  induction fuel with
  | zero => intro y1z x20 r h; rw [nprofile_restSums_l1_0.eq_1] at h; cases h
  | succ fuel ih =>
    intro y1z x20 r h
    rw [nprofile_restSums_l1_0.eq_2] at h
    by_cases h203 : x20 < ((a0.Values.getD x14.toNat default).length : Int)
    · rw [if_pos h203] at h
      by_cases h204 : 0 ≤ x20 ∧ x20 < ((a0.Values.getD x14.toNat default).length : Int)
      · rw [if_pos h204] at h
        by_cases h205 : 0 ≤ x20 ∧ x20 < (y1z.length : Int)
        · rw [if_pos h205] at h
          have h2 := ih _ _ _ h
          have hv : vRound none Go.Proofs.Try.prog Go.Proofs.Try.f34 1 ⟨mkA [(3, VV.rf 1 0 y1z.length), (12, VV.tr (List.map v_41 a0.Values) a0.Values.length), (13, vi (a0.Values.length : Int)), (14, vi x14), (18, VV.tr (List.map vi (a0.Values.getD x14.toNat default)) ((a0.Values.getD x14.toNat default).length)), (19, vi ((a0.Values.getD x14.toNat default).length : Int)), (20, vi x20)], [some ⟨true, 1, [vi a0.Sectors, VV.tr (List.map v_41 a0.Values) a0.Values.length]⟩, some ⟨false, 1, List.map vi y1z⟩], .nil⟩ [.reg [.n], .br true, .reg [.n, .n, .v (vi ((a0.Values.getD x14.toNat default).getD x20.toNat 0)), .n, .n], .reg [.n, .n, .n, .v (vi (y1z.getD x20.toNat 0)), .n, .n, .n, .n], .reg [.n, .n]] ⟨[(3, some (VV.rf 1 0 ((y1z.set x20.toNat (w64 ((y1z.getD x20.toNat 0) + ((a0.Values.getD x14.toNat default).getD x20.toNat 0)))).length))), (12, none), (13, none), (14, none), (18, none), (19, none), (20, none)], [none, some (List.map vi (y1z.set x20.toNat (w64 ((y1z.getD x20.toNat 0) + ((a0.Values.getD x14.toNat default).getD x20.toNat 0)))))], []⟩ = some (.normal, ⟨mkA [(3, VV.rf 1 0 ((y1z.set x20.toNat (w64 ((y1z.getD x20.toNat 0) + ((a0.Values.getD x14.toNat default).getD x20.toNat 0)))).length)), (12, VV.tr (List.map v_41 a0.Values) a0.Values.length), (13, vi (a0.Values.length : Int)), (14, vi x14), (18, VV.tr (List.map vi (a0.Values.getD x14.toNat default)) ((a0.Values.getD x14.toNat default).length)), (19, vi ((a0.Values.getD x14.toNat default).length : Int)), (20, vi (w64 (x20 + 1)))], [some ⟨true, 1, [vi a0.Sectors, VV.tr (List.map v_41 a0.Values) a0.Values.length]⟩, some ⟨false, 1, List.map vi (y1z.set x20.toNat (w64 ((y1z.getD x20.toNat 0) + ((a0.Values.getD x14.toNat default).getD x20.toNat 0))))⟩], .nil⟩, (((True) ∧ True) ∧ ((((decide (x20 < ((a0.Values.getD x14.toNat default).length : Int))) = true) ∧ (True)) ∧ ((((True) ∧ (0 ≤ x20 ∧ x20 < (((a0.Values.getD x14.toNat default).length : Nat) : Int)) ∧ (loadL Go.Proofs.Try.prog 3 (x20.toNat * 1) (List.map vi (a0.Values.getD x14.toNat default)) = some (vi ((a0.Values.getD x14.toNat default).getD x20.toNat 0))) ∧ (True) ∧ (True) ∧ True) ∧ ((True) ∧ (True) ∧ (0 ≤ x20 ∧ x20 < ((y1z.length : Nat) : Int)) ∧ (loadL Go.Proofs.Try.prog 3 (0 + x20.toNat * 1) (List.map vi y1z) = some (vi (y1z.getD x20.toNat 0))) ∧ (True) ∧ (True) ∧ (0 ≤ x20 ∧ x20 < ((y1z.length : Nat) : Int)) ∧ ((0 + x20.toNat * 1) + 1 ≤ List.length (List.map vi y1z)) ∧ True)) ∧ ((True) ∧ (True) ∧ True)))) ∧ (((Wv (VV.rf 1 0 y1z.length) (VV.rf 1 0 ((y1z.set x20.toNat (w64 ((y1z.getD x20.toNat 0) + ((a0.Values.getD x14.toNat default).getD x20.toNat 0)))).length))) ∧ (True)) ∧ ((putT (0 + x20.toNat * 1) (List.map vi y1z) [vi (w64 ((y1z.getD x20.toNat 0) + ((a0.Values.getD x14.toNat default).getD x20.toNat 0)))] = List.map vi (y1z.set x20.toNat (w64 ((y1z.getD x20.toNat 0) + ((a0.Values.getD x14.toNat default).getD x20.toNat 0))))) ∧ (True)))) := by kernel_rfl
          have hq : (((True) ∧ True) ∧ ((((decide (x20 < ((a0.Values.getD x14.toNat default).length : Int))) = true) ∧ (True)) ∧ ((((True) ∧ (0 ≤ x20 ∧ x20 < (((a0.Values.getD x14.toNat default).length : Nat) : Int)) ∧ (loadL Go.Proofs.Try.prog 3 (x20.toNat * 1) (List.map vi (a0.Values.getD x14.toNat default)) = some (vi ((a0.Values.getD x14.toNat default).getD x20.toNat 0))) ∧ (True) ∧ (True) ∧ True) ∧ ((True) ∧ (True) ∧ (0 ≤ x20 ∧ x20 < ((y1z.length : Nat) : Int)) ∧ (loadL Go.Proofs.Try.prog 3 (0 + x20.toNat * 1) (List.map vi y1z) = some (vi (y1z.getD x20.toNat 0))) ∧ (True) ∧ (True) ∧ (0 ≤ x20 ∧ x20 < ((y1z.length : Nat) : Int)) ∧ ((0 + x20.toNat * 1) + 1 ≤ List.length (List.map vi y1z)) ∧ True)) ∧ ((True) ∧ (True) ∧ True)))) ∧ (((Wv (VV.rf 1 0 y1z.length) (VV.rf 1 0 ((y1z.set x20.toNat (w64 ((y1z.getD x20.toNat 0) + ((a0.Values.getD x14.toNat default).getD x20.toNat 0)))).length))) ∧ (True)) ∧ ((putT (0 + x20.toNat * 1) (List.map vi y1z) [vi (w64 ((y1z.getD x20.toNat 0) + ((a0.Values.getD x14.toNat default).getD x20.toNat 0)))] = List.map vi (y1z.set x20.toNat (w64 ((y1z.getD x20.toNat 0) + ((a0.Values.getD x14.toNat default).getD x20.toNat 0))))) ∧ (True))) := ⟨⟨⟨trivial, trivial⟩, ⟨⟨(decide_eq_true h203), trivial⟩, ⟨⟨⟨trivial, ⟨h204, ⟨ld_map ag3 vi (a0.Values.getD x14.toNat default) 0 h204 (by omega), ⟨trivial, ⟨trivial, trivial⟩⟩⟩⟩⟩, ⟨trivial, ⟨trivial, ⟨h205, ⟨ld_map ag3 vi y1z 0 h205 (by omega), ⟨trivial, ⟨trivial, ⟨h205, ⟨(by simp only [List.length_map]; omega), trivial⟩⟩⟩⟩⟩⟩⟩⟩⟩, ⟨trivial, ⟨trivial, trivial⟩⟩⟩⟩⟩, ⟨⟨(Wv.of_eq (by simp)), trivial⟩, ⟨(by exact putT_vi y1z h205 (w64 ((y1z.getD x20.toNat 0) + ((a0.Values.getD x14.toNat default).getD x20.toNat 0))) (by omega)), trivial⟩⟩⟩
          exact round_next pm pn hv hq h2
        · rw [if_neg h205] at h; cases h
      · rw [if_neg h204] at h; cases h
    · rw [if_neg h203] at h
      injection h with h; subst h
      exact round_stop (c := ⟨[(3, none), (12, none), (13, none), (14, none)], [none, none], []⟩) (q := (((True) ∧ True) ∧ (((decide (x20 < ((a0.Values.getD x14.toNat default).length : Int))) = false) ∧ (True))) ∧ (((True)) ∧ ((True)))) (s1 := ⟨mkA [(3, VV.rf 1 0 y1z.length), (12, VV.tr (List.map v_41 a0.Values) a0.Values.length), (13, vi (a0.Values.length : Int)), (14, vi x14)], [some ⟨true, 1, [vi a0.Sectors, VV.tr (List.map v_41 a0.Values) a0.Values.length]⟩, some ⟨false, 1, List.map vi y1z⟩], .nil⟩) pm pn (ans := [.reg [.n], .br false]) (by kernel_rfl) (by intro e; cases e) ⟨⟨⟨trivial, trivial⟩, ⟨(decide_eq_false h203), trivial⟩⟩, ⟨trivial, trivial⟩⟩
def nprofile_restSums_l0_0 (k : Nat) (a0 : STurnedMaps) : Nat → (List Int) → Int → Option ((List Int))
  | 0, _, _ => none
  | fuel + 1, y1, x14 => if x14 < (a0.Values.length : Int) then (if 0 ≤ x14 ∧ x14 < (a0.Values.length : Int) then ((nprofile_restSums_l1_0 k a0 x14 k y1 0).bind fun r207 => (nprofile_restSums_l0_0 k a0 fuel r207 (w64 (x14 + 1)))) else none) else (some y1)
set_option maxRecDepth 100000 in
set_option maxHeartbeats 4000000 in
theorem nprofile_restSums_l0_0_ok (k : Nat) (a0 : STurnedMaps) : ∀ (fuel : Nat) (y1 : List Int) (x14 : Int) (r : (List Int)), nprofile_restSums_l0_0 k a0 fuel y1 x14 = some r → (VLoop none Go.Proofs.Try.prog (szF Go.Proofs.Try.f34) (bodyOf Go.Proofs.Try.f34 0) ⟨mkA [(3, VV.rf 1 0 y1.length), (12, VV.tr (List.map v_41 a0.Values) a0.Values.length), (13, vi (a0.Values.length : Int)), (14, vi x14)], [some ⟨true, 1, [vi a0.Sectors, VV.tr (List.map v_41 a0.Values) a0.Values.length]⟩, some ⟨false, 1, List.map vi y1⟩], .nil⟩ (.exit 0) ⟨mkA [(3, VV.rf 1 0 r.length)], [some ⟨true, 1, [vi a0.Sectors, VV.tr (List.map v_41 a0.Values) a0.Values.length]⟩, some ⟨false, 1, List.map vi r⟩], .nil⟩) := by
  intro fuel
  induction fuel with
  | zero => intro y1 x14 r h; rw [nprofile_restSums_l0_0.eq_1] at h; cases h
  | succ fuel ih =>
    intro y1 x14 r h
    rw [nprofile_restSums_l0_0.eq_2] at h
    by_cases h195 : x14 < (a0.Values.length : Int)
    · rw [if_pos h195] at h
      by_cases h196 : 0 ≤ x14 ∧ x14 < (a0.Values.length : Int)
      · rw [if_pos h196] at h
        cases h206 : nprofile_restSums_l1_0 k a0 x14 k y1 0 with
        | none => rw [h206] at h; cases h
        | some r207 =>
          rw [h206, Option.bind_some] at h
          have hph206 := nprofile_restSums_l1_0_ok k a0 x14 _ _ _ _ h206
          have h2 := ih _ _ _ h
          have hv : vRound none Go.Proofs.Try.prog Go.Proofs.Try.f34 0 ⟨mkA [(3, VV.rf 1 0 y1.length), (12, VV.tr (List.map v_41 a0.Values) a0.Values.length), (13, vi (a0.Values.length : Int)), (14, vi x14)], [some ⟨true, 1, [vi a0.Sectors, VV.tr (List.map v_41 a0.Values) a0.Values.length]⟩, some ⟨false, 1, List.map vi y1⟩], .nil⟩ [.reg [.n], .br true, .reg [.n, .v (VV.tr (List.map vi (a0.Values.getD x14.toNat default)) ((a0.Values.getD x14.toNat default).length)), .n], .reg [.n, .n, .n], .sub ⟨[(3, none), (12, none), (13, none), (14, none), (18, none), (19, none), (20, none)], [none, none], []⟩ (.exit 2) ⟨mkA [(3, VV.rf 1 0 r207.length), (12, VV.tr (List.map v_41 a0.Values) a0.Values.length), (13, vi (a0.Values.length : Int)), (14, vi x14)], [some ⟨true, 1, [vi a0.Sectors, VV.tr (List.map v_41 a0.Values) a0.Values.length]⟩, some ⟨false, 1, List.map vi r207⟩], .nil⟩, .reg [.n, .n]] ⟨[(3, none), (12, none), (13, none), (14, none)], [none, none], []⟩ = some (.normal, ⟨mkA [(3, VV.rf 1 0 r207.length), (12, VV.tr (List.map v_41 a0.Values) a0.Values.length), (13, vi (a0.Values.length : Int)), (14, vi (w64 (x14 + 1)))], [some ⟨true, 1, [vi a0.Sectors, VV.tr (List.map v_41 a0.Values) a0.Values.length]⟩, some ⟨false, 1, List.map vi r207⟩], .nil⟩, (((True) ∧ True) ∧ ((((decide (x14 < (a0.Values.length : Int))) = true) ∧ (True)) ∧ ((((0 ≤ x14 ∧ x14 < ((a0.Values.length : Nat) : Int)) ∧ (loadL Go.Proofs.Try.prog 41 (x14.toNat * 1) (List.map v_41 a0.Values) = some (VV.tr (List.map vi (a0.Values.getD x14.toNat default)) ((a0.Values.getD x14.toNat default).length))) ∧ (True) ∧ True) ∧ (((True) ∧ (True) ∧ (True) ∧ True) ∧ (((((True)) ∧ ((True))) ∧ VRun none Go.Proofs.Try.prog (szF Go.Proofs.Try.f34) (.loop (bodyOf Go.Proofs.Try.f34 1)) ⟨mkA [(3, VV.rf 1 0 y1.length), (12, VV.tr (List.map v_41 a0.Values) a0.Values.length), (13, vi (a0.Values.length : Int)), (14, vi x14), (18, VV.tr (List.map vi (a0.Values.getD x14.toNat default)) ((a0.Values.getD x14.toNat default).length)), (19, vi ((a0.Values.getD x14.toNat default).length : Int)), (20, vi 0)], [some ⟨true, 1, [vi a0.Sectors, VV.tr (List.map v_41 a0.Values) a0.Values.length]⟩, some ⟨false, 1, List.map vi y1⟩], .nil⟩ (.exit 2) ⟨mkA [(3, VV.rf 1 0 r207.length), (12, VV.tr (List.map v_41 a0.Values) a0.Values.length), (13, vi (a0.Values.length : Int)), (14, vi x14)], [some ⟨true, 1, [vi a0.Sectors, VV.tr (List.map v_41 a0.Values) a0.Values.length]⟩, some ⟨false, 1, List.map vi r207⟩], .nil⟩)))) ∧ ((True) ∧ (True) ∧ True)))) ∧ (((True)) ∧ ((True)))) := by kernel_rfl
          have hq : (((True) ∧ True) ∧ ((((decide (x14 < (a0.Values.length : Int))) = true) ∧ (True)) ∧ ((((0 ≤ x14 ∧ x14 < ((a0.Values.length : Nat) : Int)) ∧ (loadL Go.Proofs.Try.prog 41 (x14.toNat * 1) (List.map v_41 a0.Values) = some (VV.tr (List.map vi (a0.Values.getD x14.toNat default)) ((a0.Values.getD x14.toNat default).length))) ∧ (True) ∧ True) ∧ (((True) ∧ (True) ∧ (True) ∧ True) ∧ (((((True)) ∧ ((True))) ∧ VRun none Go.Proofs.Try.prog (szF Go.Proofs.Try.f34) (.loop (bodyOf Go.Proofs.Try.f34 1)) ⟨mkA [(3, VV.rf 1 0 y1.length), (12, VV.tr (List.map v_41 a0.Values) a0.Values.length), (13, vi (a0.Values.length : Int)), (14, vi x14), (18, VV.tr (List.map vi (a0.Values.getD x14.toNat default)) ((a0.Values.getD x14.toNat default).length)), (19, vi ((a0.Values.getD x14.toNat default).length : Int)), (20, vi 0)], [some ⟨true, 1, [vi a0.Sectors, VV.tr (List.map v_41 a0.Values) a0.Values.length]⟩, some ⟨false, 1, List.map vi y1⟩], .nil⟩ (.exit 2) ⟨mkA [(3, VV.rf 1 0 r207.length), (12, VV.tr (List.map v_41 a0.Values) a0.Values.length), (13, vi (a0.Values.length : Int)), (14, vi x14)], [some ⟨true, 1, [vi a0.Sectors, VV.tr (List.map v_41 a0.Values) a0.Values.length]⟩, some ⟨false, 1, List.map vi r207⟩], .nil⟩)))) ∧ ((True) ∧ (True) ∧ True)))) ∧ (((True)) ∧ ((True))) := ⟨⟨⟨trivial, trivial⟩, ⟨⟨(decide_eq_true h195), trivial⟩, ⟨⟨⟨h196, ⟨ld_map ag41 v_41 a0.Values default h196 (by omega), ⟨trivial, trivial⟩⟩⟩, ⟨⟨trivial, ⟨trivial, ⟨trivial, trivial⟩⟩⟩, ⟨⟨trivial, trivial⟩, VRun.loop hph206⟩⟩⟩, ⟨trivial, ⟨trivial, trivial⟩⟩⟩⟩⟩, ⟨trivial, trivial⟩⟩
          exact round_next pm pn hv hq h2
      · rw [if_neg h196] at h; cases h
    · rw [if_neg h195] at h
      injection h with h; subst h
      exact round_stop (c := ⟨[(3, none)], [none, none], []⟩) (q := (((True) ∧ True) ∧ (((decide (x14 < (a0.Values.length : Int))) = false) ∧ (True))) ∧ (((True)) ∧ ((True)))) (s1 := ⟨mkA [(3, VV.rf 1 0 y1.length)], [some ⟨true, 1, [vi a0.Sectors, VV.tr (List.map v_41 a0.Values) a0.Values.length]⟩, some ⟨false, 1, List.map vi y1⟩], .nil⟩) pm pn (ans := [.reg [.n], .br false]) (by kernel_rfl) (by intro e; cases e) ⟨⟨⟨trivial, trivial⟩, ⟨(decide_eq_false h195), trivial⟩⟩, ⟨trivial, trivial⟩⟩
def nprofile_restSums (k : Nat) (a0 : STurnedMaps) : Option (List Int) :=
  if 0 ≤ a0.Sectors ∧ a0.Sectors ≤ 1000000000 then ((nprofile_restSums_l0_0 k a0 k (List.replicate a0.Sectors.toNat (0 : Int)) 0).bind fun r209 => (some r209)) else none
set_option maxRecDepth 100000 in
set_option maxHeartbeats 4000000 in
theorem nprofile_restSums_ok (k : Nat) (a0 : STurnedMaps) (r : (List Int)) (h : nprofile_restSums k a0 = some r) : VC Go.Proofs.Try.prog 34 [VV.ag [vi a0.Sectors, VV.tr (List.map v_41 a0.Values) a0.Values.length]] (VV.fr (List.map vi r) r.length) := by
  unfold nprofile_restSums at h
  by_cases h167 : 0 ≤ a0.Sectors ∧ a0.Sectors ≤ 1000000000
  · rw [if_pos h167] at h
    cases h208 : nprofile_restSums_l0_0 k a0 k (List.replicate a0.Sectors.toNat (0 : Int)) 0 with
    | none => rw [h208] at h; cases h
    | some r209 =>
      rw [h208, Option.bind_some] at h
      have hph208 := nprofile_restSums_l0_0_ok k a0 _ _ _ _ h208
      injection h with h; subst h
      exact fun_ok pm pn Go.Proofs.Try.func34 (q := ((((True) ∧ (True) ∧ True) ∧ (((True) ∧ (True) ∧ (0 ≤ a0.Sectors ∧ a0.Sectors = a0.Sectors ∧ (8 * a0.Sectors.toNat) ≤ 281474976710656 ∧ a0.Sectors < 1099511627776) ∧ (True) ∧ True) ∧ ((((True) ∧ (True) ∧ (True) ∧ (True) ∧ True) ∧ (((((Wv (VV.rf 1 0 a0.Sectors.toNat) (VV.rf 1 0 ((List.replicate a0.Sectors.toNat (0 : Int)).length))) ∧ (True)) ∧ ((List.replicate a0.Sectors.toNat (VV.c (.int .i64 0)) = List.map vi (List.replicate a0.Sectors.toNat (0 : Int))) ∧ (True))) ∧ VRun none Go.Proofs.Try.prog (szF Go.Proofs.Try.f34) (.loop (bodyOf Go.Proofs.Try.f34 0)) ⟨mkA [(3, VV.rf 1 0 ((List.replicate a0.Sectors.toNat (0 : Int)).length)), (12, VV.tr (List.map v_41 a0.Values) a0.Values.length), (13, vi (a0.Values.length : Int)), (14, vi 0)], [some ⟨true, 1, [vi a0.Sectors, VV.tr (List.map v_41 a0.Values) a0.Values.length]⟩, some ⟨false, 1, List.map vi (List.replicate a0.Sectors.toNat (0 : Int))⟩], .nil⟩ (.exit 0) ⟨mkA [(3, VV.rf 1 0 r209.length)], [some ⟨true, 1, [vi a0.Sectors, VV.tr (List.map v_41 a0.Values) a0.Values.length]⟩, some ⟨false, 1, List.map vi r209⟩], .nil⟩))) ∧ (((True) ∧ (True) ∧ True) ∧ (True))))) ∧ ((List.all (List.map vi r209) new0 = true) ∧ (True)))) (r0 := VV.fr (List.drop 0 (List.map unfr (List.map vi r209))) r209.length) (ans := [.reg [.n, .n], .reg [.n, .n, .n, .n], .reg [.n, .n, .n, .n], .sub ⟨[(3, some (VV.rf 1 0 ((List.replicate a0.Sectors.toNat (0 : Int)).length))), (12, none), (13, none), (14, none)], [none, some (List.map vi (List.replicate a0.Sectors.toNat (0 : Int)))], []⟩ (.exit 0) ⟨mkA [(3, VV.rf 1 0 r209.length)], [some ⟨true, 1, [vi a0.Sectors, VV.tr (List.map v_41 a0.Values) a0.Values.length]⟩, some ⟨false, 1, List.map vi r209⟩], .nil⟩, .reg [.n, .n]]) (fr := true) (by kernel_rfl) ⟨⟨⟨trivial, ⟨trivial, trivial⟩⟩, ⟨⟨trivial, ⟨trivial, ⟨⟨by omega, rfl, by omega, by omega⟩, ⟨trivial, trivial⟩⟩⟩⟩, ⟨⟨⟨trivial, ⟨trivial, ⟨trivial, ⟨trivial, trivial⟩⟩⟩⟩, ⟨⟨⟨(Wv.of_eq (by simp)), trivial⟩, ⟨replicate_vi _, trivial⟩⟩, VRun.loop hph208⟩⟩, ⟨⟨trivial, ⟨trivial, trivial⟩⟩, trivial⟩⟩⟩⟩, ⟨(by exact new0_vi _), trivial⟩⟩ (Wv.of_eq (by simp only [drop0, unfr_vi, List.length_map, List.length_replicate, List.length_append, List.length_set, List.length_cons, List.length_nil, unfr_v_41, unfr_f_41]))
  · rw [if_neg h167] at h; cases h
def nprofile_turned (k : Nat) (a0 : STurnedMaps) (a1 : Int) (a2 : Int) : Option Int :=
  if (a0.Values.length : Int) ≠ 0 then (if a0.Sectors ≠ 0 then (some ((w64 (a1 + (w64 ((w64 (a2 * a0.Sectors)).tdiv (a0.Values.length : Int))))).tmod a0.Sectors)) else none) else none
set_option maxRecDepth 100000 in
set_option maxHeartbeats 4000000 in
theorem nprofile_turned_ok (k : Nat) (a0 : STurnedMaps) (a1 : Int) (a2 : Int) (r : Int) (h : nprofile_turned k a0 a1 a2 = some r) : VC Go.Proofs.Try.prog 35 [VV.ag [vi a0.Sectors, VV.tr (List.map v_41 a0.Values) a0.Values.length], vi a1, vi a2] (vi r) := by
  unfold nprofile_turned at h
  by_cases h218 : (a0.Values.length : Int) ≠ 0
  · rw [if_pos h218] at h
    by_cases h219 : a0.Sectors ≠ 0
    · rw [if_pos h219] at h
      injection h with h; subst h
      exact fun_ok pm pn Go.Proofs.Try.func35 (q := ((((True) ∧ (True) ∧ True) ∧ (((True) ∧ (True) ∧ (True) ∧ (True) ∧ (True) ∧ (True) ∧ (True) ∧ (True) ∧ ((a0.Values.length : Int) ≠ 0) ∧ (True) ∧ (True) ∧ (True) ∧ (a0.Sectors ≠ 0) ∧ (True) ∧ True) ∧ (True))) ∧ ((True) ∧ (True)))) (r0 := vi ((w64 (a1 + (w64 ((w64 (a2 * a0.Sectors)).tdiv (a0.Values.length : Int))))).tmod a0.Sectors)) (ans := [.reg [.n, .n], .reg [.n, .n, .n, .n, .n, .n, .n, .n, .n, .n, .n, .n, .n, .n]]) (fr := true) (by kernel_rfl) ⟨⟨⟨trivial, ⟨trivial, trivial⟩⟩, ⟨⟨trivial, ⟨trivial, ⟨trivial, ⟨trivial, ⟨trivial, ⟨trivial, ⟨trivial, ⟨trivial, ⟨h218, ⟨trivial, ⟨trivial, ⟨trivial, ⟨h219, ⟨trivial, trivial⟩⟩⟩⟩⟩⟩⟩⟩⟩⟩⟩⟩⟩⟩, trivial⟩⟩, ⟨trivial, trivial⟩⟩ (Wv.refl _)
    · rw [if_neg h219] at h; cases h
  · rw [if_neg h218] at h; cases h
def nprofile_mirrorSums_l1_0 (k : Nat) (a0 : STurnedMaps) (r286 : (List Int)) (y1 : List Int) (x17 : Int) : Nat → (List Int) → Int → Option ((List Int))
  | 0, _, _ => none
  | fuel + 1, y1z, x24 => if x24 < ((y1.length : Nat) : Int) then ((nprofile_turned k (⟨a0.Sectors, a0.Values⟩ : STurnedMaps) x24 x17).bind fun r349 => (if 0 ≤ x24 ∧ x24 < (y1z.length : Int) then (if 0 ≤ r349 ∧ r349 < ((a0.Values.getD x17.toNat default).length : Int) then (if 0 ≤ r349 ∧ r349 < (r286.length : Int) then (nprofile_mirrorSums_l1_0 k a0 r286 y1 x17 fuel (y1z.set x24.toNat (w64 ((y1z.getD x24.toNat 0) + (w64 ((w64 (((a0.Values.getD x17.toNat default).getD r349.toNat 0) * (a0.Values.length : Int))) - (r286.getD r349.toNat 0)))))) (w64 (x24 + 1))) else none) else none) else none)) else (some y1z)
set_option maxRecDepth 100000 in
set_option maxHeartbeats 4000000 in
theorem nprofile_mirrorSums_l1_0_ok (k : Nat) (a0 : STurnedMaps) (r286 : (List Int)) (y1 : List Int) (x17 : Int) : ∀ (fuel : Nat) (y1z : List Int) (x24 : Int) (r : (List Int)), nprofile_mirrorSums_l1_0 k a0 r286 y1 x17 fuel y1z x24 = some r → (VLoop none Go.Proofs.Try.prog (szF Go.Proofs.Try.f33) (bodyOf Go.Proofs.Try.f33 1) ⟨mkA [(1, VV.pt 0 0), (3, VV.fr (List.map vi r286) r286.length), (4, VV.rf 1 0 y1z.length), (5, vi x17), (6, VV.tr (List.map vi (a0.Values.getD x17.toNat default)) ((a0.Values.getD x17.toNat default).length)), (15, VV.tr (List.map v_41 a0.Values) a0.Values.length), (16, vi (a0.Values.length : Int)), (17, vi x17), (23, vi ((y1.length : Nat) : Int)), (24, vi x24)], [some ⟨true, 1, [vi a0.Sectors, VV.tr (List.map v_41 a0.Values) a0.Values.length]⟩, some ⟨false, 1, List.map vi y1z⟩], .nil⟩ (.exit 2) ⟨mkA [(1, VV.pt 0 0), (3, VV.fr (List.map vi r286) r286.length), (4, VV.rf 1 0 r.length), (15, VV.tr (List.map v_41 a0.Values) a0.Values.length), (16, vi (a0.Values.length : Int)), (17, vi x17)], [some ⟨true, 1, [vi a0.Sectors, VV.tr (List.map v_41 a0.Values) a0.Values.length]⟩, some ⟨false, 1, List.map vi r⟩], .nil⟩) := by
  intro fuel
  induction fuel with
  | zero => intro y1z x24 r h; rw [nprofile_mirrorSums_l1_0.eq_1] at h; cases h
  | succ fuel ih =>
    intro y1z x24 r h
    rw [nprofile_mirrorSums_l1_0.eq_2] at h
    by_cases h348 : x24 < ((y1.length : Nat) : Int)
    · rw [if_pos h348] at h
      cases h350 : nprofile_turned k (⟨a0.Sectors, a0.Values⟩ : STurnedMaps) x24 x17 with
      | none => rw [h350] at h; cases h
      | some r349 =>
        rw [h350, Option.bind_some] at h
        by_cases h351 : 0 ≤ x24 ∧ x24 < (y1z.length : Int)
        · rw [if_pos h351] at h
          by_cases h352 : 0 ≤ r349 ∧ r349 < ((a0.Values.getD x17.toNat default).length : Int)
          · rw [if_pos h352] at h
            by_cases h353 : 0 ≤ r349 ∧ r349 < (r286.length : Int)
            · rw [if_pos h353] at h
              have h2 := ih _ _ _ h
              have hv : vRound none Go.Proofs.Try.prog Go.Proofs.Try.f33 1 ⟨mkA [(1, VV.pt 0 0), (3, VV.fr (List.map vi r286) r286.length), (4, VV.rf 1 0 y1z.length), (5, vi x17), (6, VV.tr (List.map vi (a0.Values.getD x17.toNat default)) ((a0.Values.getD x17.toNat default).length)), (15, VV.tr (List.map v_41 a0.Values) a0.Values.length), (16, vi (a0.Values.length : Int)), (17, vi x17), (23, vi ((y1.length : Nat) : Int)), (24, vi x24)], [some ⟨true, 1, [vi a0.Sectors, VV.tr (List.map v_41 a0.Values) a0.Values.length]⟩, some ⟨false, 1, List.map vi y1z⟩], .nil⟩ [.reg [.n], .br true, .reg [.n, .n], .reg [.n, .n, .n, .call (vi r349), .n], .reg [.n, .n, .n, .v (vi (y1z.getD x24.toNat 0)), .n, .n, .n, .v (vi ((a0.Values.getD x17.toNat default).getD r349.toNat 0)), .n, .n, .n, .n, .n, .n, .n, .v (vi (r286.getD r349.toNat 0)), .n, .n, .n, .n], .reg [.n, .n]] ⟨[(1, none), (3, none), (4, some (VV.rf 1 0 ((y1z.set x24.toNat (w64 ((y1z.getD x24.toNat 0) + (w64 ((w64 (((a0.Values.getD x17.toNat default).getD r349.toNat 0) * (a0.Values.length : Int))) - (r286.getD r349.toNat 0)))))).length))), (5, none), (6, none), (15, none), (16, none), (17, none), (23, none), (24, none)], [none, some (List.map vi (y1z.set x24.toNat (w64 ((y1z.getD x24.toNat 0) + (w64 ((w64 (((a0.Values.getD x17.toNat default).getD r349.toNat 0) * (a0.Values.length : Int))) - (r286.getD r349.toNat 0)))))))], []⟩ = some (.normal, ⟨mkA [(1, VV.pt 0 0), (3, VV.fr (List.map vi r286) r286.length), (4, VV.rf 1 0 ((y1z.set x24.toNat (w64 ((y1z.getD x24.toNat 0) + (w64 ((w64 (((a0.Values.getD x17.toNat default).getD r349.toNat 0) * (a0.Values.length : Int))) - (r286.getD r349.toNat 0)))))).length)), (5, vi x17), (6, VV.tr (List.map vi (a0.Values.getD x17.toNat default)) ((a0.Values.getD x17.toNat default).length)), (15, VV.tr (List.map v_41 a0.Values) a0.Values.length), (16, vi (a0.Values.length : Int)), (17, vi x17), (23, vi ((y1.length : Nat) : Int)), (24, vi (w64 (x24 + 1)))], [some ⟨true, 1, [vi a0.Sectors, VV.tr (List.map v_41 a0.Values) a0.Values.length]⟩, some ⟨false, 1, List.map vi (y1z.set x24.toNat (w64 ((y1z.getD x24.toNat 0) + (w64 ((w64 (((a0.Values.getD x17.toNat default).getD r349.toNat 0) * (a0.Values.length : Int))) - (r286.getD r349.toNat 0))))))⟩], .nil⟩, (((True) ∧ True) ∧ ((((decide (x24 < ((y1.length : Nat) : Int))) = true) ∧ (True)) ∧ ((((True) ∧ (True) ∧ True) ∧ (((True) ∧ (True) ∧ (True) ∧ (VC Go.Proofs.Try.prog 35 [VV.ag [vi a0.Sectors, VV.tr (List.map v_41 a0.Values) a0.Values.length], vi x24, vi x17] (vi r349)) ∧ (True) ∧ True) ∧ ((True) ∧ (True) ∧ (0 ≤ x24 ∧ x24 < ((y1z.length : Nat) : Int)) ∧ (loadL Go.Proofs.Try.prog 3 (0 + x24.toNat * 1) (List.map vi y1z) = some (vi (y1z.getD x24.toNat 0))) ∧ (True) ∧ (True) ∧ (0 ≤ r349 ∧ r349 < (((a0.Values.getD x17.toNat default).length : Nat) : Int)) ∧ (loadL Go.Proofs.Try.prog 3 (r349.toNat * 1) (List.map vi (a0.Values.getD x17.toNat default)) = some (vi ((a0.Values.getD x17.toNat default).getD r349.toNat 0))) ∧ (True) ∧ (True) ∧ (True) ∧ (True) ∧ (True) ∧ (True) ∧ (0 ≤ r349 ∧ r349 < ((r286.length : Nat) : Int)) ∧ (loadL Go.Proofs.Try.prog 3 (r349.toNat * 1) (List.map vi r286) = some (vi (r286.getD r349.toNat 0))) ∧ (True) ∧ (True) ∧ (0 ≤ x24 ∧ x24 < ((y1z.length : Nat) : Int)) ∧ ((0 + x24.toNat * 1) + 1 ≤ List.length (List.map vi y1z)) ∧ True))) ∧ ((True) ∧ (True) ∧ True)))) ∧ (((Wv (VV.rf 1 0 y1z.length) (VV.rf 1 0 ((y1z.set x24.toNat (w64 ((y1z.getD x24.toNat 0) + (w64 ((w64 (((a0.Values.getD x17.toNat default).getD r349.toNat 0) * (a0.Values.length : Int))) - (r286.getD r349.toNat 0)))))).length))) ∧ (True)) ∧ ((putT (0 + x24.toNat * 1) (List.map vi y1z) [vi (w64 ((y1z.getD x24.toNat 0) + (w64 ((w64 (((a0.Values.getD x17.toNat default).getD r349.toNat 0) * (a0.Values.length : Int))) - (r286.getD r349.toNat 0)))))] = List.map vi (y1z.set x24.toNat (w64 ((y1z.getD x24.toNat 0) + (w64 ((w64 (((a0.Values.getD x17.toNat default).getD r349.toNat 0) * (a0.Values.length : Int))) - (r286.getD r349.toNat 0))))))) ∧ (True)))) := by kernel_rfl
              have hq : (((True) ∧ True) ∧ ((((decide (x24 < ((y1.length : Nat) : Int))) = true) ∧ (True)) ∧ ((((True) ∧ (True) ∧ True) ∧ (((True) ∧ (True) ∧ (True) ∧ (VC Go.Proofs.Try.prog 35 [VV.ag [vi a0.Sectors, VV.tr (List.map v_41 a0.Values) a0.Values.length], vi x24, vi x17] (vi r349)) ∧ (True) ∧ True) ∧ ((True) ∧ (True) ∧ (0 ≤ x24 ∧ x24 < ((y1z.length : Nat) : Int)) ∧ (loadL Go.Proofs.Try.prog 3 (0 + x24.toNat * 1) (List.map vi y1z) = some (vi (y1z.getD x24.toNat 0))) ∧ (True) ∧ (True) ∧ (0 ≤ r349 ∧ r349 < (((a0.Values.getD x17.toNat default).length : Nat) : Int)) ∧ (loadL Go.Proofs.Try.prog 3 (r349.toNat * 1) (List.map vi (a0.Values.getD x17.toNat default)) = some (vi ((a0.Values.getD x17.toNat default).getD r349.toNat 0))) ∧ (True) ∧ (True) ∧ (True) ∧ (True) ∧ (True) ∧ (True) ∧ (0 ≤ r349 ∧ r349 < ((r286.length : Nat) : Int)) ∧ (loadL Go.Proofs.Try.prog 3 (r349.toNat * 1) (List.map vi r286) = some (vi (r286.getD r349.toNat 0))) ∧ (True) ∧ (True) ∧ (0 ≤ x24 ∧ x24 < ((y1z.length : Nat) : Int)) ∧ ((0 + x24.toNat * 1) + 1 ≤ List.length (List.map vi y1z)) ∧ True))) ∧ ((True) ∧ (True) ∧ True)))) ∧ (((Wv (VV.rf 1 0 y1z.length) (VV.rf 1 0 ((y1z.set x24.toNat (w64 ((y1z.getD x24.toNat 0) + (w64 ((w64 (((a0.Values.getD x17.toNat default).getD r349.toNat 0) * (a0.Values.length : Int))) - (r286.getD r349.toNat 0)))))).length))) ∧ (True)) ∧ ((putT (0 + x24.toNat * 1) (List.map vi y1z) [vi (w64 ((y1z.getD x24.toNat 0) + (w64 ((w64 (((a0.Values.getD x17.toNat default).getD r349.toNat 0) * (a0.Values.length : Int))) - (r286.getD r349.toNat 0)))))] = List.map vi (y1z.set x24.toNat (w64 ((y1z.getD x24.toNat 0) + (w64 ((w64 (((a0.Values.getD x17.toNat default).getD r349.toNat 0) * (a0.Values.length : Int))) - (r286.getD r349.toNat 0))))))) ∧ (True))) := ⟨⟨⟨trivial, trivial⟩, ⟨⟨(decide_eq_true h348), trivial⟩, ⟨⟨⟨trivial, ⟨trivial, trivial⟩⟩, ⟨⟨trivial, ⟨trivial, ⟨trivial, ⟨(VC.args (nprofile_turned_ok k (⟨a0.Sectors, a0.Values⟩ : STurnedMaps) x24 x17 _ h350) (by simp only [drop0, unfr_vi, List.length_map, List.length_replicate, List.length_append, List.length_set, List.length_cons, List.length_nil, unfr_v_41, unfr_f_41])), ⟨trivial, trivial⟩⟩⟩⟩⟩, ⟨trivial, ⟨trivial, ⟨h351, ⟨ld_map ag3 vi y1z 0 h351 (by omega), ⟨trivial, ⟨trivial, ⟨h352, ⟨ld_map ag3 vi (a0.Values.getD x17.toNat default) 0 h352 (by omega), ⟨trivial, ⟨trivial, ⟨trivial, ⟨trivial, ⟨trivial, ⟨trivial, ⟨h353, ⟨ld_map ag3 vi r286 0 h353 (by omega), ⟨trivial, ⟨trivial, ⟨h351, ⟨(by simp only [List.length_map]; omega), trivial⟩⟩⟩⟩⟩⟩⟩⟩⟩⟩⟩⟩⟩⟩⟩⟩⟩⟩⟩⟩⟩⟩, ⟨trivial, ⟨trivial, trivial⟩⟩⟩⟩⟩, ⟨⟨(Wv.of_eq (by simp)), trivial⟩, ⟨(by exact putT_vi y1z h351 (w64 ((y1z.getD x24.toNat 0) + (w64 ((w64 (((a0.Values.getD x17.toNat default).getD r349.toNat 0) * (a0.Values.length : Int))) - (r286.getD r349.toNat 0))))) (by omega)), trivial⟩⟩⟩
              exact round_next pm pn hv hq h2
            · rw [if_neg h353] at h; cases h
          · rw [if_neg h352] at h; cases h
        · rw [if_neg h351] at h; cases h
    · rw [if_neg h348] at h
      injection h with h; subst h
      exact round_stop (c := ⟨[(1, none), (3, none), (4, none), (15, none), (16, none), (17, none)], [none, none], []⟩) (q := (((True) ∧ True) ∧ (((decide (x24 < ((y1.length : Nat) : Int))) = false) ∧ (True))) ∧ (((True)) ∧ ((True)))) (s1 := ⟨mkA [(1, VV.pt 0 0), (3, VV.fr (List.map vi r286) r286.length), (4, VV.rf 1 0 y1z.length), (15, VV.tr (List.map v_41 a0.Values) a0.Values.length), (16, vi (a0.Values.length : Int)), (17, vi x17)], [some ⟨true, 1, [vi a0.Sectors, VV.tr (List.map v_41 a0.Values) a0.Values.length]⟩, some ⟨false, 1, List.map vi y1z⟩], .nil⟩) pm pn (ans := [.reg [.n], .br false]) (by kernel_rfl) (by intro e; cases e) ⟨⟨⟨trivial, trivial⟩, ⟨(decide_eq_false h348), trivial⟩⟩, ⟨trivial, trivial⟩⟩
def nprofile_mirrorSums_l0_0 (k : Nat) (a0 : STurnedMaps) (r286 : (List Int)) : Nat → (List Int) → Int → Option ((List Int))
  | 0, _, _ => none
  | fuel + 1, y1, x17 => if x17 < (a0.Values.length : Int) then (if 0 ≤ x17 ∧ x17 < (a0.Values.length : Int) then ((nprofile_mirrorSums_l1_0 k a0 r286 y1 x17 k y1 0).bind fun r355 => (nprofile_mirrorSums_l0_0 k a0 r286 fuel r355 (w64 (x17 + 1)))) else none) else (some y1)
set_option maxRecDepth 100000 in
set_option maxHeartbeats 4000000 in
theorem nprofile_mirrorSums_l0_0_ok (k : Nat) (a0 : STurnedMaps) (r286 : (List Int)) : ∀ (fuel : Nat) (y1 : List Int) (x17 : Int) (r : (List Int)), nprofile_mirrorSums_l0_0 k a0 r286 fuel y1 x17 = some r → (VLoop none Go.Proofs.Try.prog (szF Go.Proofs.Try.f33) (bodyOf Go.Proofs.Try.f33 0) ⟨mkA [(1, VV.pt 0 0), (3, VV.fr (List.map vi r286) r286.length), (4, VV.rf 1 0 y1.length), (15, VV.tr (List.map v_41 a0.Values) a0.Values.length), (16, vi (a0.Values.length : Int)), (17, vi x17)], [some ⟨true, 1, [vi a0.Sectors, VV.tr (List.map v_41 a0.Values) a0.Values.length]⟩, some ⟨false, 1, List.map vi y1⟩], .nil⟩ (.exit 0) ⟨mkA [(4, VV.rf 1 0 r.length)], [some ⟨true, 1, [vi a0.Sectors, VV.tr (List.map v_41 a0.Values) a0.Values.length]⟩, some ⟨false, 1, List.map vi r⟩], .nil⟩) := by
  intro fuel
  induction fuel with
  | zero => intro y1 x17 r h; rw [nprofile_mirrorSums_l0_0.eq_1] at h; cases h
  | succ fuel ih =>
    intro y1 x17 r h
    rw [nprofile_mirrorSums_l0_0.eq_2] at h
    by_cases h334 : x17 < (a0.Values.length : Int)
    · rw [if_pos h334] at h
      by_cases h335 : 0 ≤ x17 ∧ x17 < (a0.Values.length : Int)
      · rw [if_pos h335] at h
        cases h354 : nprofile_mirrorSums_l1_0 k a0 r286 y1 x17 k y1 0 with
        | none => rw [h354] at h; cases h
        | some r355 =>
          rw [h354, Option.bind_some] at h
          have hph354 := nprofile_mirrorSums_l1_0_ok k a0 r286 y1 x17 _ _ _ _ h354
          have h2 := ih _ _ _ h
          have hv : vRound none Go.Proofs.Try.prog Go.Proofs.Try.f33 0 ⟨mkA [(1, VV.pt 0 0), (3, VV.fr (List.map vi r286) r286.length), (4, VV.rf 1 0 y1.length), (15, VV.tr (List.map v_41 a0.Values) a0.Values.length), (16, vi (a0.Values.length : Int)), (17, vi x17)], [some ⟨true, 1, [vi a0.Sectors, VV.tr (List.map v_41 a0.Values) a0.Values.length]⟩, some ⟨false, 1, List.map vi y1⟩], .nil⟩ [.reg [.n], .br true, .reg [.n, .n, .v (VV.tr (List.map vi (a0.Values.getD x17.toNat default)) ((a0.Values.getD x17.toNat default).length)), .n, .n], .reg [.n, .n, .n], .sub ⟨[(1, none), (3, none), (4, none), (5, none), (6, none), (15, none), (16, none), (17, none), (23, none), (24, none)], [none, none], []⟩ (.exit 2) ⟨mkA [(1, VV.pt 0 0), (3, VV.fr (List.map vi r286) r286.length), (4, VV.rf 1 0 r355.length), (15, VV.tr (List.map v_41 a0.Values) a0.Values.length), (16, vi (a0.Values.length : Int)), (17, vi x17)], [some ⟨true, 1, [vi a0.Sectors, VV.tr (List.map v_41 a0.Values) a0.Values.length]⟩, some ⟨false, 1, List.map vi r355⟩], .nil⟩, .reg [.n, .n]] ⟨[(1, none), (3, none), (4, none), (15, none), (16, none), (17, none)], [none, none], []⟩ = some (.normal, ⟨mkA [(1, VV.pt 0 0), (3, VV.fr (List.map vi r286) r286.length), (4, VV.rf 1 0 r355.length), (15, VV.tr (List.map v_41 a0.Values) a0.Values.length), (16, vi (a0.Values.length : Int)), (17, vi (w64 (x17 + 1)))], [some ⟨true, 1, [vi a0.Sectors, VV.tr (List.map v_41 a0.Values) a0.Values.length]⟩, some ⟨false, 1, List.map vi r355⟩], .nil⟩, (((True) ∧ True) ∧ ((((decide (x17 < (a0.Values.length : Int))) = true) ∧ (True)) ∧ ((((True) ∧ (0 ≤ x17 ∧ x17 < ((a0.Values.length : Nat) : Int)) ∧ (loadL Go.Proofs.Try.prog 41 (x17.toNat * 1) (List.map v_41 a0.Values) = some (VV.tr (List.map vi (a0.Values.getD x17.toNat default)) ((a0.Values.getD x17.toNat default).length))) ∧ (True) ∧ (True) ∧ True) ∧ (((True) ∧ (True) ∧ (True) ∧ True) ∧ (((((True)) ∧ ((True))) ∧ VRun none Go.Proofs.Try.prog (szF Go.Proofs.Try.f33) (.loop (bodyOf Go.Proofs.Try.f33 1)) ⟨mkA [(1, VV.pt 0 0), (3, VV.fr (List.map vi r286) r286.length), (4, VV.rf 1 0 y1.length), (5, vi x17), (6, VV.tr (List.map vi (a0.Values.getD x17.toNat default)) ((a0.Values.getD x17.toNat default).length)), (15, VV.tr (List.map v_41 a0.Values) a0.Values.length), (16, vi (a0.Values.length : Int)), (17, vi x17), (23, vi ((y1.length : Nat) : Int)), (24, vi 0)], [some ⟨true, 1, [vi a0.Sectors, VV.tr (List.map v_41 a0.Values) a0.Values.length]⟩, some ⟨false, 1, List.map vi y1⟩], .nil⟩ (.exit 2) ⟨mkA [(1, VV.pt 0 0), (3, VV.fr (List.map vi r286) r286.length), (4, VV.rf 1 0 r355.length), (15, VV.tr (List.map v_41 a0.Values) a0.Values.length), (16, vi (a0.Values.length : Int)), (17, vi x17)], [some ⟨true, 1, [vi a0.Sectors, VV.tr (List.map v_41 a0.Values) a0.Values.length]⟩, some ⟨false, 1, List.map vi r355⟩], .nil⟩)))) ∧ ((True) ∧ (True) ∧ True)))) ∧ (((True)) ∧ ((True)))) := by kernel_rfl
          have hq : (((True) ∧ True) ∧ ((((decide (x17 < (a0.Values.length : Int))) = true) ∧ (True)) ∧ ((((True) ∧ (0 ≤ x17 ∧ x17 < ((a0.Values.length : Nat) : Int)) ∧ (loadL Go.Proofs.Try.prog 41 (x17.toNat * 1) (List.map v_41 a0.Values) = some (VV.tr (List.map vi (a0.Values.getD x17.toNat default)) ((a0.Values.getD x17.toNat default).length))) ∧ (True) ∧ (True) ∧ True) ∧ (((True) ∧ (True) ∧ (True) ∧ True) ∧ (((((True)) ∧ ((True))) ∧ VRun none Go.Proofs.Try.prog (szF Go.Proofs.Try.f33) (.loop (bodyOf Go.Proofs.Try.f33 1)) ⟨mkA [(1, VV.pt 0 0), (3, VV.fr (List.map vi r286) r286.length), (4, VV.rf 1 0 y1.length), (5, vi x17), (6, VV.tr (List.map vi (a0.Values.getD x17.toNat default)) ((a0.Values.getD x17.toNat default).length)), (15, VV.tr (List.map v_41 a0.Values) a0.Values.length), (16, vi (a0.Values.length : Int)), (17, vi x17), (23, vi ((y1.length : Nat) : Int)), (24, vi 0)], [some ⟨true, 1, [vi a0.Sectors, VV.tr (List.map v_41 a0.Values) a0.Values.length]⟩, some ⟨false, 1, List.map vi y1⟩], .nil⟩ (.exit 2) ⟨mkA [(1, VV.pt 0 0), (3, VV.fr (List.map vi r286) r286.length), (4, VV.rf 1 0 r355.length), (15, VV.tr (List.map v_41 a0.Values) a0.Values.length), (16, vi (a0.Values.length : Int)), (17, vi x17)], [some ⟨true, 1, [vi a0.Sectors, VV.tr (List.map v_41 a0.Values) a0.Values.length]⟩, some ⟨false, 1, List.map vi r355⟩], .nil⟩)))) ∧ ((True) ∧ (True) ∧ True)))) ∧ (((True)) ∧ ((True))) := ⟨⟨⟨trivial, trivial⟩, ⟨⟨(decide_eq_true h334), trivial⟩, ⟨⟨⟨trivial, ⟨h335, ⟨ld_map ag41 v_41 a0.Values default h335 (by omega), ⟨trivial, ⟨trivial, trivial⟩⟩⟩⟩⟩, ⟨⟨trivial, ⟨trivial, ⟨trivial, trivial⟩⟩⟩, ⟨⟨trivial, trivial⟩, VRun.loop hph354⟩⟩⟩, ⟨trivial, ⟨trivial, trivial⟩⟩⟩⟩⟩, ⟨trivial, trivial⟩⟩
          exact round_next pm pn hv hq h2
      · rw [if_neg h335] at h; cases h
    · rw [if_neg h334] at h
      injection h with h; subst h
      exact round_stop (c := ⟨[(4, none)], [none, none], []⟩) (q := (((True) ∧ True) ∧ (((decide (x17 < (a0.Values.length : Int))) = false) ∧ (True))) ∧ (((True)) ∧ ((True)))) (s1 := ⟨mkA [(4, VV.rf 1 0 y1.length)], [some ⟨true, 1, [vi a0.Sectors, VV.tr (List.map v_41 a0.Values) a0.Values.length]⟩, some ⟨false, 1, List.map vi y1⟩], .nil⟩) pm pn (ans := [.reg [.n], .br false]) (by kernel_rfl) (by intro e; cases e) ⟨⟨⟨trivial, trivial⟩, ⟨(decide_eq_false h334), trivial⟩⟩, ⟨trivial, trivial⟩⟩
def nprofile_mirrorSums (k : Nat) (a0 : STurnedMaps) : Option (List Int) :=
  (nprofile_restSums k (⟨a0.Sectors, a0.Values⟩ : STurnedMaps)).bind fun r286 => (if 0 ≤ a0.Sectors ∧ a0.Sectors ≤ 1000000000 then ((nprofile_mirrorSums_l0_0 k a0 r286 k (List.replicate a0.Sectors.toNat (0 : Int)) 0).bind fun r357 => (some r357)) else none)
set_option maxRecDepth 100000 in
set_option maxHeartbeats 4000000 in
theorem nprofile_mirrorSums_ok (k : Nat) (a0 : STurnedMaps) (r : (List Int)) (h : nprofile_mirrorSums k a0 = some r) : VC Go.Proofs.Try.prog 33 [VV.ag [vi a0.Sectors, VV.tr (List.map v_41 a0.Values) a0.Values.length]] (VV.fr (List.map vi r) r.length) := by
  unfold nprofile_mirrorSums at h
  cases h287 : nprofile_restSums k (⟨a0.Sectors, a0.Values⟩ : STurnedMaps) with
  | none => rw [h287] at h; cases h
  | some r286 =>
    rw [h287, Option.bind_some] at h
    by_cases h288 : 0 ≤ a0.Sectors ∧ a0.Sectors ≤ 1000000000
    · rw [if_pos h288] at h
      cases h356 : nprofile_mirrorSums_l0_0 k a0 r286 k (List.replicate a0.Sectors.toNat (0 : Int)) 0 with
      | none => rw [h356] at h; cases h
      | some r357 =>
        rw [h356, Option.bind_some] at h
        have hph356 := nprofile_mirrorSums_l0_0_ok k a0 r286 _ _ _ _ h356
        injection h with h; subst h
        exact fun_ok pm pn Go.Proofs.Try.func33 (q := ((((True) ∧ (True) ∧ True) ∧ (((True) ∧ (VC Go.Proofs.Try.prog 34 [VV.ag [vi a0.Sectors, VV.tr (List.map v_41 a0.Values) a0.Values.length]] (VV.fr (List.map vi r286) r286.length)) ∧ (True) ∧ (True) ∧ (0 ≤ a0.Sectors ∧ a0.Sectors = a0.Sectors ∧ (8 * a0.Sectors.toNat) ≤ 281474976710656 ∧ a0.Sectors < 1099511627776) ∧ (True) ∧ (True) ∧ True) ∧ ((((True) ∧ (True) ∧ (True) ∧ (True) ∧ True) ∧ (((((Wv (VV.rf 1 0 a0.Sectors.toNat) (VV.rf 1 0 ((List.replicate a0.Sectors.toNat (0 : Int)).length))) ∧ (True)) ∧ ((List.replicate a0.Sectors.toNat (VV.c (.int .i64 0)) = List.map vi (List.replicate a0.Sectors.toNat (0 : Int))) ∧ (True))) ∧ VRun none Go.Proofs.Try.prog (szF Go.Proofs.Try.f33) (.loop (bodyOf Go.Proofs.Try.f33 0)) ⟨mkA [(1, VV.pt 0 0), (3, VV.fr (List.map vi r286) r286.length), (4, VV.rf 1 0 ((List.replicate a0.Sectors.toNat (0 : Int)).length)), (15, VV.tr (List.map v_41 a0.Values) a0.Values.length), (16, vi (a0.Values.length : Int)), (17, vi 0)], [some ⟨true, 1, [vi a0.Sectors, VV.tr (List.map v_41 a0.Values) a0.Values.length]⟩, some ⟨false, 1, List.map vi (List.replicate a0.Sectors.toNat (0 : Int))⟩], .nil⟩ (.exit 0) ⟨mkA [(4, VV.rf 1 0 r357.length)], [some ⟨true, 1, [vi a0.Sectors, VV.tr (List.map v_41 a0.Values) a0.Values.length]⟩, some ⟨false, 1, List.map vi r357⟩], .nil⟩))) ∧ (((True) ∧ (True) ∧ True) ∧ (True))))) ∧ ((List.all (List.map vi r357) new0 = true) ∧ (True)))) (r0 := VV.fr (List.drop 0 (List.map unfr (List.map vi r357))) r357.length) (ans := [.reg [.n, .n], .reg [.n, .call (VV.fr (List.map vi r286) r286.length), .n, .n, .n, .n, .n], .reg [.n, .n, .n, .n], .sub ⟨[(1, none), (3, none), (4, some (VV.rf 1 0 ((List.replicate a0.Sectors.toNat (0 : Int)).length))), (15, none), (16, none), (17, none)], [none, some (List.map vi (List.replicate a0.Sectors.toNat (0 : Int)))], []⟩ (.exit 0) ⟨mkA [(4, VV.rf 1 0 r357.length)], [some ⟨true, 1, [vi a0.Sectors, VV.tr (List.map v_41 a0.Values) a0.Values.length]⟩, some ⟨false, 1, List.map vi r357⟩], .nil⟩, .reg [.n, .n]]) (fr := true) (by kernel_rfl) ⟨⟨⟨trivial, ⟨trivial, trivial⟩⟩, ⟨⟨trivial, ⟨(VC.args (nprofile_restSums_ok k (⟨a0.Sectors, a0.Values⟩ : STurnedMaps) _ h287) (by simp only [drop0, unfr_vi, List.length_map, List.length_replicate, List.length_append, List.length_set, List.length_cons, List.length_nil, unfr_v_41, unfr_f_41])), ⟨trivial, ⟨trivial, ⟨⟨by omega, rfl, by omega, by omega⟩, ⟨trivial, ⟨trivial, trivial⟩⟩⟩⟩⟩⟩⟩, ⟨⟨⟨trivial, ⟨trivial, ⟨trivial, ⟨trivial, trivial⟩⟩⟩⟩, ⟨⟨⟨(Wv.of_eq (by simp)), trivial⟩, ⟨replicate_vi _, trivial⟩⟩, VRun.loop hph356⟩⟩, ⟨⟨trivial, ⟨trivial, trivial⟩⟩, trivial⟩⟩⟩⟩, ⟨(by exact new0_vi _), trivial⟩⟩ (Wv.of_eq (by simp only [drop0, unfr_vi, List.length_map, List.length_replicate, List.length_append, List.length_set, List.length_cons, List.length_nil, unfr_v_41, unfr_f_41]))
    · rw [if_neg h288] at h; cases h
def nprofile_divisor_l1_0 (k : Nat) (a0 : (List Int)) (x8 : Int) : Nat → Int → Int → Option (Int)
  | 0, _, _ => none
  | fuel + 1, x3z, x5 => if x5 = 0 then (some x3z) else (if x5 ≠ 0 then (nprofile_divisor_l1_0 k a0 x8 fuel x5 (x3z.tmod x5)) else none)
set_option maxRecDepth 100000 in
set_option maxHeartbeats 4000000 in
theorem nprofile_divisor_l1_0_ok (k : Nat) (a0 : (List Int)) (x8 : Int) : ∀ (fuel : Nat) (x3z : Int) (x5 : Int) (r : Int), nprofile_divisor_l1_0 k a0 x8 fuel x3z x5 = some r → (VLoop none Go.Proofs.Try.prog (szF Go.Proofs.Try.f46) (bodyOf Go.Proofs.Try.f46 1) ⟨mkA [(3, vi x3z), (5, vi x5), (6, VV.tr (List.map vi a0) a0.length), (7, vi (a0.length : Int)), (8, vi x8)], [], .nil⟩ (.exit 2) ⟨mkA [(3, vi r), (6, VV.tr (List.map vi a0) a0.length), (7, vi (a0.length : Int)), (8, vi x8)], [], .nil⟩) := by
  intro fuel
  induction fuel with
  | zero => intro x3z x5 r h; rw [nprofile_divisor_l1_0.eq_1] at h; cases h
  | succ fuel ih =>
    intro x3z x5 r h
    rw [nprofile_divisor_l1_0.eq_2] at h
    by_cases h421 : x5 = 0
    · rw [if_pos h421] at h
      injection h with h; subst h
      exact round_stop (c := ⟨[(3, none), (6, none), (7, none), (8, none)], [], []⟩) (q := (((True) ∧ (True) ∧ True) ∧ (((!(decide (x5 = 0))) = false) ∧ (True))) ∧ (((True)) ∧ ((True)))) (s1 := ⟨mkA [(3, vi x3z), (6, VV.tr (List.map vi a0) a0.length), (7, vi (a0.length : Int)), (8, vi x8)], [], .nil⟩) pm pn (ans := [.reg [.n, .n], .br false]) (by kernel_rfl) (by intro e; cases e) ⟨⟨⟨trivial, ⟨trivial, trivial⟩⟩, ⟨(not_f (decide_eq_true h421)), trivial⟩⟩, ⟨trivial, trivial⟩⟩
    · rw [if_neg h421] at h
      by_cases h422 : x5 ≠ 0
      · rw [if_pos h422] at h
        have h2 := ih _ _ _ h
        have hv : vRound none Go.Proofs.Try.prog Go.Proofs.Try.f46 1 ⟨mkA [(3, vi x3z), (5, vi x5), (6, VV.tr (List.map vi a0) a0.length), (7, vi (a0.length : Int)), (8, vi x8)], [], .nil⟩ [.reg [.n, .n], .br true, .reg [.n, .n, .n, .n, .n, .n]] ⟨[(3, none), (5, none), (6, none), (7, none), (8, none)], [], []⟩ = some (.normal, ⟨mkA [(3, vi x5), (5, vi (x3z.tmod x5)), (6, VV.tr (List.map vi a0) a0.length), (7, vi (a0.length : Int)), (8, vi x8)], [], .nil⟩, ((((True) ∧ (True) ∧ True) ∧ (((!(decide (x5 = 0))) = true) ∧ (True))) ∧ ((True) ∧ (True) ∧ (True) ∧ (x5 ≠ 0) ∧ (True) ∧ (True) ∧ True)) ∧ (((True)) ∧ ((True)))) := by kernel_rfl
        have hq : ((((True) ∧ (True) ∧ True) ∧ (((!(decide (x5 = 0))) = true) ∧ (True))) ∧ ((True) ∧ (True) ∧ (True) ∧ (x5 ≠ 0) ∧ (True) ∧ (True) ∧ True)) ∧ (((True)) ∧ ((True))) := ⟨⟨⟨⟨trivial, ⟨trivial, trivial⟩⟩, ⟨(not_t (decide_eq_false h421)), trivial⟩⟩, ⟨trivial, ⟨trivial, ⟨trivial, ⟨h422, ⟨trivial, ⟨trivial, trivial⟩⟩⟩⟩⟩⟩⟩, ⟨trivial, trivial⟩⟩
        exact round_next pm pn hv hq h2
      · rw [if_neg h422] at h; cases h
def nprofile_divisor_l0_0 (k : Nat) (a0 : (List Int)) : Nat → Int → Int → Option (Int)
  | 0, _, _ => none
  | fuel + 1, x3, x8 => if x8 < (a0.length : Int) then (if 0 ≤ x8 ∧ x8 < (a0.length : Int) then ((nprofile_divisor_l1_0 k a0 x8 k x3 (a0.getD x8.toNat 0)).bind fun r424 => (nprofile_divisor_l0_0 k a0 fuel r424 (w64 (x8 + 1)))) else none) else (some x3)
set_option maxRecDepth 100000 in
set_option maxHeartbeats 4000000 in
theorem nprofile_divisor_l0_0_ok (k : Nat) (a0 : (List Int)) : ∀ (fuel : Nat) (x3 : Int) (x8 : Int) (r : Int), nprofile_divisor_l0_0 k a0 fuel x3 x8 = some r → (VLoop none Go.Proofs.Try.prog (szF Go.Proofs.Try.f46) (bodyOf Go.Proofs.Try.f46 0) ⟨mkA [(3, vi x3), (6, VV.tr (List.map vi a0) a0.length), (7, vi (a0.length : Int)), (8, vi x8)], [], .nil⟩ (.exit 0) ⟨mkA [(3, vi r)], [], .nil⟩) := by
  intro fuel
  induction fuel with
  | zero => intro x3 x8 r h; rw [nprofile_divisor_l0_0.eq_1] at h; cases h
  | succ fuel ih =>
    intro x3 x8 r h
    rw [nprofile_divisor_l0_0.eq_2] at h
    by_cases h415 : x8 < (a0.length : Int)
    · rw [if_pos h415] at h
      by_cases h416 : 0 ≤ x8 ∧ x8 < (a0.length : Int)
      · rw [if_pos h416] at h
        cases h423 : nprofile_divisor_l1_0 k a0 x8 k x3 (a0.getD x8.toNat 0) with
        | none => rw [h423] at h; cases h
        | some r424 =>
          rw [h423, Option.bind_some] at h
          have hph423 := nprofile_divisor_l1_0_ok k a0 x8 _ _ _ _ h423
          have h2 := ih _ _ _ h
          have hv : vRound none Go.Proofs.Try.prog Go.Proofs.Try.f46 0 ⟨mkA [(3, vi x3), (6, VV.tr (List.map vi a0) a0.length), (7, vi (a0.length : Int)), (8, vi x8)], [], .nil⟩ [.reg [.n], .br true, .reg [.n, .v (vi (a0.getD x8.toNat 0)), .n], .sub ⟨[(3, none), (5, none), (6, none), (7, none), (8, none)], [], []⟩ (.exit 2) ⟨mkA [(3, vi r424), (6, VV.tr (List.map vi a0) a0.length), (7, vi (a0.length : Int)), (8, vi x8)], [], .nil⟩, .reg [.n, .n]] ⟨[(3, none), (6, none), (7, none), (8, none)], [], []⟩ = some (.normal, ⟨mkA [(3, vi r424), (6, VV.tr (List.map vi a0) a0.length), (7, vi (a0.length : Int)), (8, vi (w64 (x8 + 1)))], [], .nil⟩, (((True) ∧ True) ∧ ((((decide (x8 < (a0.length : Int))) = true) ∧ (True)) ∧ ((((0 ≤ x8 ∧ x8 < ((a0.length : Nat) : Int)) ∧ (loadL Go.Proofs.Try.prog 3 (x8.toNat * 1) (List.map vi a0) = some (vi (a0.getD x8.toNat 0))) ∧ (True) ∧ True) ∧ (((((True)) ∧ ((True))) ∧ VRun none Go.Proofs.Try.prog (szF Go.Proofs.Try.f46) (.loop (bodyOf Go.Proofs.Try.f46 1)) ⟨mkA [(3, vi x3), (5, vi (a0.getD x8.toNat 0)), (6, VV.tr (List.map vi a0) a0.length), (7, vi (a0.length : Int)), (8, vi x8)], [], .nil⟩ (.exit 2) ⟨mkA [(3, vi r424), (6, VV.tr (List.map vi a0) a0.length), (7, vi (a0.length : Int)), (8, vi x8)], [], .nil⟩))) ∧ ((True) ∧ (True) ∧ True)))) ∧ (((True)) ∧ ((True)))) := by kernel_rfl
          have hq : (((True) ∧ True) ∧ ((((decide (x8 < (a0.length : Int))) = true) ∧ (True)) ∧ ((((0 ≤ x8 ∧ x8 < ((a0.length : Nat) : Int)) ∧ (loadL Go.Proofs.Try.prog 3 (x8.toNat * 1) (List.map vi a0) = some (vi (a0.getD x8.toNat 0))) ∧ (True) ∧ True) ∧ (((((True)) ∧ ((True))) ∧ VRun none Go.Proofs.Try.prog (szF Go.Proofs.Try.f46) (.loop (bodyOf Go.Proofs.Try.f46 1)) ⟨mkA [(3, vi x3), (5, vi (a0.getD x8.toNat 0)), (6, VV.tr (List.map vi a0) a0.length), (7, vi (a0.length : Int)), (8, vi x8)], [], .nil⟩ (.exit 2) ⟨mkA [(3, vi r424), (6, VV.tr (List.map vi a0) a0.length), (7, vi (a0.length : Int)), (8, vi x8)], [], .nil⟩))) ∧ ((True) ∧ (True) ∧ True)))) ∧ (((True)) ∧ ((True))) := ⟨⟨⟨trivial, trivial⟩, ⟨⟨(decide_eq_true h415), trivial⟩, ⟨⟨⟨h416, ⟨ld_map ag3 vi a0 0 h416 (by omega), ⟨trivial, trivial⟩⟩⟩, ⟨⟨trivial, trivial⟩, VRun.loop hph423⟩⟩, ⟨trivial, ⟨trivial, trivial⟩⟩⟩⟩⟩, ⟨trivial, trivial⟩⟩
          exact round_next pm pn hv hq h2
      · rw [if_neg h416] at h; cases h
    · rw [if_neg h415] at h
      injection h with h; subst h
      exact round_stop (c := ⟨[(3, none)], [], []⟩) (q := (((True) ∧ True) ∧ (((decide (x8 < (a0.length : Int))) = false) ∧ (True))) ∧ (((True)) ∧ ((True)))) (s1 := ⟨mkA [(3, vi x3)], [], .nil⟩) pm pn (ans := [.reg [.n], .br false]) (by kernel_rfl) (by intro e; cases e) ⟨⟨⟨trivial, trivial⟩, ⟨(decide_eq_false h415), trivial⟩⟩, ⟨trivial, trivial⟩⟩
def nprofile_divisor (k : Nat) (a0 : (List Int)) : Option Int :=
  (nprofile_divisor_l0_0 k a0 k 0 0).bind fun r426 => (some (maxI r426 (w64 (0 - r426))))
set_option maxRecDepth 100000 in
set_option maxHeartbeats 4000000 in
theorem nprofile_divisor_ok (k : Nat) (a0 : (List Int)) (r : Int) (h : nprofile_divisor k a0 = some r) : VC Go.Proofs.Try.prog 46 [VV.tr (List.map vi a0) a0.length] (vi r) := by
  unfold nprofile_divisor at h
  cases h425 : nprofile_divisor_l0_0 k a0 k 0 0 with
  | none => rw [h425] at h; cases h
  | some r426 =>
    rw [h425, Option.bind_some] at h
    have hph425 := nprofile_divisor_l0_0_ok k a0 _ _ _ _ h425
    injection h with h; subst h
    exact fun_ok pm pn Go.Proofs.Try.func46 (q := ((((True) ∧ True) ∧ (((True) ∧ True) ∧ ((((True) ∧ (True) ∧ (True) ∧ True) ∧ (((((True)) ∧ ((True))) ∧ VRun none Go.Proofs.Try.prog (szF Go.Proofs.Try.f46) (.loop (bodyOf Go.Proofs.Try.f46 0)) ⟨mkA [(3, vi 0), (6, VV.tr (List.map vi a0) a0.length), (7, vi (a0.length : Int)), (8, vi 0)], [], .nil⟩ (.exit 0) ⟨mkA [(3, vi r426)], [], .nil⟩))) ∧ (((True) ∧ (True) ∧ (True) ∧ (True) ∧ (True) ∧ True) ∧ (True))))) ∧ ((True) ∧ (True)))) (r0 := vi (maxI r426 (w64 (0 - r426)))) (ans := [.reg [.n], .reg [.n], .reg [.n, .n, .n], .sub ⟨[(3, none), (6, none), (7, none), (8, none)], [], []⟩ (.exit 0) ⟨mkA [(3, vi r426)], [], .nil⟩, .reg [.n, .n, .n, .n, .n]]) (fr := true) (by kernel_rfl) ⟨⟨⟨trivial, trivial⟩, ⟨⟨trivial, trivial⟩, ⟨⟨⟨trivial, ⟨trivial, ⟨trivial, trivial⟩⟩⟩, ⟨⟨trivial, trivial⟩, VRun.loop hph425⟩⟩, ⟨⟨trivial, ⟨trivial, ⟨trivial, ⟨trivial, ⟨trivial, trivial⟩⟩⟩⟩⟩, trivial⟩⟩⟩⟩, ⟨trivial, trivial⟩⟩ (Wv.refl _)
def nprofile_lowest (k : Nat) (a0 : Int) (a1 : Int) : Option SFrac :=
  (nprofile_divisor k ([a0, a1] : List Int)).bind fun r430 => (if r430 ≠ 0 then (some (⟨w64 (a0.tdiv r430), w64 (a1.tdiv r430)⟩ : SFrac)) else none)
set_option maxRecDepth 100000 in
set_option maxHeartbeats 4000000 in
theorem nprofile_lowest_ok (k : Nat) (a0 : Int) (a1 : Int) (r : SFrac) (h : nprofile_lowest k a0 a1 = some r) : VC Go.Proofs.Try.prog 36 [vi a0, vi a1] (VV.ag [vi r.Num, vi r.Den]) := by
  unfold nprofile_lowest at h
  cases h431 : nprofile_divisor k ([a0, a1] : List Int) with
  | none => rw [h431] at h; cases h
  | some r430 =>
    rw [h431, Option.bind_some] at h
    by_cases h432 : r430 ≠ 0
    · rw [if_pos h432] at h
      injection h with h; subst h
      exact fun_ok pm pn Go.Proofs.Try.func36 (q := ((((True) ∧ True) ∧ (((True) ∧ (True) ∧ (True) ∧ (VC Go.Proofs.Try.prog 46 [VV.tr (List.drop 0 (List.map unfr [vi a0, vi a1])) 2] (vi r430)) ∧ (True) ∧ True) ∧ (((True) ∧ (True) ∧ (r430 ≠ 0) ∧ (True) ∧ (True) ∧ (r430 ≠ 0) ∧ (True) ∧ (True) ∧ True) ∧ (True)))) ∧ ((True ∧ ((True) ∧ ((True) ∧ (True)))) ∧ (True)))) (r0 := VV.ag [vi (w64 (a0.tdiv r430)), vi (w64 (a1.tdiv r430))]) (ans := [.reg [.n], .reg [.n, .n, .n, .call (vi r430), .n], .reg [.n, .n, .n, .n, .n, .n, .n, .n]]) (fr := true) (by kernel_rfl) ⟨⟨⟨trivial, trivial⟩, ⟨⟨trivial, ⟨trivial, ⟨trivial, ⟨(VC.args (nprofile_divisor_ok k ([a0, a1] : List Int) _ h431) (by simp only [show [vi a0, vi a1] = List.map vi ([a0, a1] : List Int) from rfl, drop0, unfr_vi, List.length_map, List.length_replicate, List.length_append, List.length_set, List.length_cons, List.length_nil, unfr_v_41, unfr_f_41, unfr_c_SFrac])), ⟨trivial, trivial⟩⟩⟩⟩⟩, ⟨⟨trivial, ⟨trivial, ⟨h432, ⟨trivial, ⟨trivial, ⟨h432, ⟨trivial, ⟨trivial, trivial⟩⟩⟩⟩⟩⟩⟩⟩, trivial⟩⟩⟩, ⟨⟨trivial, ⟨trivial, ⟨trivial, trivial⟩⟩⟩, trivial⟩⟩ (Wv.of_eq (by simp only [drop0, unfr_vi, List.length_map, List.length_replicate, List.length_append, List.length_set, List.length_cons, List.length_nil, unfr_v_41, unfr_f_41, unfr_c_SFrac]))
    · rw [if_neg h432] at h; cases h
def nprofile_divided_l0_0 (k : Nat) (a0 : (List Int)) (a1 : Int) : Nat → (List SFrac) → Int → Option ((List SFrac))
  | 0, _, _ => none
  | fuel + 1, y0, x13 => if x13 < (a0.length : Int) then (if 0 ≤ x13 ∧ x13 < (a0.length : Int) then ((nprofile_lowest k (a0.getD x13.toNat 0) a1).bind fun r463 => (if 0 ≤ x13 ∧ x13 < (y0.length : Int) then (nprofile_divided_l0_0 k a0 a1 fuel (y0.set x13.toNat (⟨r463.Num, r463.Den⟩ : SFrac)) (w64 (x13 + 1))) else none)) else none) else (some y0)
set_option maxRecDepth 100000 in
set_option maxHeartbeats 4000000 in
theorem nprofile_divided_l0_0_ok (k : Nat) (a0 : (List Int)) (a1 : Int) : ∀ (fuel : Nat) (y0 : List SFrac) (x13 : Int) (r : (List SFrac)), nprofile_divided_l0_0 k a0 a1 fuel y0 x13 = some r → (VLoop none Go.Proofs.Try.prog (szF Go.Proofs.Try.f32) (bodyOf Go.Proofs.Try.f32 0) ⟨mkA [(1, vi a1), (5, VV.rf 0 0 y0.length), (11, VV.tr (List.map vi a0) a0.length), (12, vi (a0.length : Int)), (13, vi x13)], [some ⟨false, 2, List.flatMap c_SFrac y0⟩], .nil⟩ (.exit 0) ⟨mkA [(5, VV.rf 0 0 r.length)], [some ⟨false, 2, List.flatMap c_SFrac r⟩], .nil⟩) := by
  intro fuel
  induction fuel with
  | zero => intro y0 x13 r h; rw [nprofile_divided_l0_0.eq_1] at h; cases h
  | succ fuel ih =>
    intro y0 x13 r h
    rw [nprofile_divided_l0_0.eq_2] at h
    by_cases h461 : x13 < (a0.length : Int)
    · rw [if_pos h461] at h
      by_cases h462 : 0 ≤ x13 ∧ x13 < (a0.length : Int)
      · rw [if_pos h462] at h
        cases h464 : nprofile_lowest k (a0.getD x13.toNat 0) a1 with
        | none => rw [h464] at h; cases h
        | some r463 =>
          rw [h464, Option.bind_some] at h
          by_cases h465 : 0 ≤ x13 ∧ x13 < (y0.length : Int)
          · rw [if_pos h465] at h
            have h2 := ih _ _ _ h
            have hv : vRound none Go.Proofs.Try.prog Go.Proofs.Try.f32 0 ⟨mkA [(1, vi a1), (5, VV.rf 0 0 y0.length), (11, VV.tr (List.map vi a0) a0.length), (12, vi (a0.length : Int)), (13, vi x13)], [some ⟨false, 2, List.flatMap c_SFrac y0⟩], .nil⟩ [.reg [.n], .br true, .reg [.n, .n, .v (vi (a0.getD x13.toNat 0)), .n, .n], .reg [.n, .n, .n, .n, .call (VV.ag [vi r463.Num, vi r463.Den]), .n, .n], .reg [.n, .n]] ⟨[(1, none), (5, some (VV.rf 0 0 ((y0.set x13.toNat (⟨r463.Num, r463.Den⟩ : SFrac)).length))), (11, none), (12, none), (13, none)], [some (List.flatMap c_SFrac (y0.set x13.toNat (⟨r463.Num, r463.Den⟩ : SFrac)))], []⟩ = some (.normal, ⟨mkA [(1, vi a1), (5, VV.rf 0 0 ((y0.set x13.toNat (⟨r463.Num, r463.Den⟩ : SFrac)).length)), (11, VV.tr (List.map vi a0) a0.length), (12, vi (a0.length : Int)), (13, vi (w64 (x13 + 1)))], [some ⟨false, 2, List.flatMap c_SFrac (y0.set x13.toNat (⟨r463.Num, r463.Den⟩ : SFrac))⟩], .nil⟩, (((True) ∧ True) ∧ ((((decide (x13 < (a0.length : Int))) = true) ∧ (True)) ∧ ((((True) ∧ (0 ≤ x13 ∧ x13 < ((a0.length : Nat) : Int)) ∧ (loadL Go.Proofs.Try.prog 3 (x13.toNat * 1) (List.map vi a0) = some (vi (a0.getD x13.toNat 0))) ∧ (True) ∧ (True) ∧ True) ∧ ((True) ∧ (True) ∧ (True) ∧ (True) ∧ (VC Go.Proofs.Try.prog 36 [vi (a0.getD x13.toNat 0), vi a1] (VV.ag [vi r463.Num, vi r463.Den])) ∧ (0 ≤ x13 ∧ x13 < ((y0.length : Nat) : Int)) ∧ ((0 + x13.toNat * 2) + 2 ≤ List.length (List.flatMap c_SFrac y0)) ∧ True)) ∧ ((True) ∧ (True) ∧ True)))) ∧ (((Wv (VV.rf 0 0 y0.length) (VV.rf 0 0 ((y0.set x13.toNat (⟨r463.Num, r463.Den⟩ : SFrac)).length))) ∧ (True)) ∧ ((putT (0 + x13.toNat * 2) (List.flatMap c_SFrac y0) [vi r463.Num, vi r463.Den] = List.flatMap c_SFrac (y0.set x13.toNat (⟨r463.Num, r463.Den⟩ : SFrac))) ∧ (True)))) := by kernel_rfl
            have hq : (((True) ∧ True) ∧ ((((decide (x13 < (a0.length : Int))) = true) ∧ (True)) ∧ ((((True) ∧ (0 ≤ x13 ∧ x13 < ((a0.length : Nat) : Int)) ∧ (loadL Go.Proofs.Try.prog 3 (x13.toNat * 1) (List.map vi a0) = some (vi (a0.getD x13.toNat 0))) ∧ (True) ∧ (True) ∧ True) ∧ ((True) ∧ (True) ∧ (True) ∧ (True) ∧ (VC Go.Proofs.Try.prog 36 [vi (a0.getD x13.toNat 0), vi a1] (VV.ag [vi r463.Num, vi r463.Den])) ∧ (0 ≤ x13 ∧ x13 < ((y0.length : Nat) : Int)) ∧ ((0 + x13.toNat * 2) + 2 ≤ List.length (List.flatMap c_SFrac y0)) ∧ True)) ∧ ((True) ∧ (True) ∧ True)))) ∧ (((Wv (VV.rf 0 0 y0.length) (VV.rf 0 0 ((y0.set x13.toNat (⟨r463.Num, r463.Den⟩ : SFrac)).length))) ∧ (True)) ∧ ((putT (0 + x13.toNat * 2) (List.flatMap c_SFrac y0) [vi r463.Num, vi r463.Den] = List.flatMap c_SFrac (y0.set x13.toNat (⟨r463.Num, r463.Den⟩ : SFrac))) ∧ (True))) := ⟨⟨⟨trivial, trivial⟩, ⟨⟨(decide_eq_true h461), trivial⟩, ⟨⟨⟨trivial, ⟨h462, ⟨ld_map ag3 vi a0 0 h462 (by omega), ⟨trivial, ⟨trivial, trivial⟩⟩⟩⟩⟩, ⟨trivial, ⟨trivial, ⟨trivial, ⟨trivial, ⟨nprofile_lowest_ok k (a0.getD x13.toNat 0) a1 _ h464, ⟨h465, ⟨(by rw [flat_len len_c_SFrac]; have := h465; omega), trivial⟩⟩⟩⟩⟩⟩⟩⟩, ⟨trivial, ⟨trivial, trivial⟩⟩⟩⟩⟩, ⟨⟨(Wv.of_eq (by simp)), trivial⟩, ⟨(by exact putT_flat len_c_SFrac y0 h465 (⟨r463.Num, r463.Den⟩ : SFrac) (by omega)), trivial⟩⟩⟩
            exact round_next pm pn hv hq h2
          · rw [if_neg h465] at h; cases h
      · rw [if_neg h462] at h; cases h
    · rw [if_neg h461] at h
      injection h with h; subst h
      exact round_stop (c := ⟨[(5, none)], [none], []⟩) (q := (((True) ∧ True) ∧ (((decide (x13 < (a0.length : Int))) = false) ∧ (True))) ∧ (((True)) ∧ ((True)))) (s1 := ⟨mkA [(5, VV.rf 0 0 y0.length)], [some ⟨false, 2, List.flatMap c_SFrac y0⟩], .nil⟩) pm pn (ans := [.reg [.n], .br false]) (by kernel_rfl) (by intro e; cases e) ⟨⟨⟨trivial, trivial⟩, ⟨(decide_eq_false h461), trivial⟩⟩, ⟨trivial, trivial⟩⟩
def nprofile_divided (k : Nat) (a0 : (List Int)) (a1 : Int) : Option (List SFrac) :=
  if 0 ≤ (a0.length : Int) ∧ (a0.length : Int) ≤ 1000000000 then ((nprofile_divided_l0_0 k a0 a1 k (List.replicate (a0.length : Int).toNat (⟨0, 0⟩ : SFrac)) 0).bind fun r467 => (some r467)) else none
set_option maxRecDepth 100000 in
set_option maxHeartbeats 4000000 in
theorem nprofile_divided_ok (k : Nat) (a0 : (List Int)) (a1 : Int) (r : (List SFrac)) (h : nprofile_divided k a0 a1 = some r) : VC Go.Proofs.Try.prog 32 [VV.tr (List.map vi a0) a0.length, vi a1] (VV.fr (List.flatMap c_SFrac r) r.length) := by
  unfold nprofile_divided at h
  by_cases h449 : 0 ≤ (a0.length : Int) ∧ (a0.length : Int) ≤ 1000000000
  · rw [if_pos h449] at h
    cases h466 : nprofile_divided_l0_0 k a0 a1 k (List.replicate (a0.length : Int).toNat (⟨0, 0⟩ : SFrac)) 0 with
    | none => rw [h466] at h; cases h
    | some r467 =>
      rw [h466, Option.bind_some] at h
      have hph466 := nprofile_divided_l0_0_ok k a0 a1 _ _ _ _ h466
      injection h with h; subst h
      exact fun_ok pm pn Go.Proofs.Try.func32 (q := ((((True) ∧ True) ∧ (((True) ∧ (True) ∧ (0 ≤ (a0.length : Int) ∧ (a0.length : Int) = (a0.length : Int) ∧ (16 * (a0.length : Int).toNat) ≤ 281474976710656 ∧ (a0.length : Int) < 1099511627776) ∧ (True) ∧ True) ∧ ((((True) ∧ (True) ∧ (True) ∧ True) ∧ (((((Wv (VV.rf 0 0 ((a0.length : Int).toNat)) (VV.rf 0 0 ((List.replicate (a0.length : Int).toNat (⟨0, 0⟩ : SFrac)).length))) ∧ (True)) ∧ ((zeroCells (.agg #[.int .i64 0, .int .i64 0]) ((a0.length : Int).toNat * 2) = List.flatMap c_SFrac (List.replicate (a0.length : Int).toNat (⟨0, 0⟩ : SFrac))) ∧ (True))) ∧ VRun none Go.Proofs.Try.prog (szF Go.Proofs.Try.f32) (.loop (bodyOf Go.Proofs.Try.f32 0)) ⟨mkA [(1, vi a1), (5, VV.rf 0 0 ((List.replicate (a0.length : Int).toNat (⟨0, 0⟩ : SFrac)).length)), (11, VV.tr (List.map vi a0) a0.length), (12, vi (a0.length : Int)), (13, vi 0)], [some ⟨false, 2, List.flatMap c_SFrac (List.replicate (a0.length : Int).toNat (⟨0, 0⟩ : SFrac))⟩], .nil⟩ (.exit 0) ⟨mkA [(5, VV.rf 0 0 r467.length)], [some ⟨false, 2, List.flatMap c_SFrac r467⟩], .nil⟩))) ∧ (((True) ∧ (True) ∧ True) ∧ (True))))) ∧ ((List.all (List.flatMap c_SFrac r467) new0 = true) ∧ (True)))) (r0 := VV.fr (List.drop 0 (List.map unfr (List.flatMap c_SFrac r467))) r467.length) (ans := [.reg [.n], .reg [.n, .n, .n, .n], .reg [.n, .n, .n], .sub ⟨[(1, none), (5, some (VV.rf 0 0 ((List.replicate (a0.length : Int).toNat (⟨0, 0⟩ : SFrac)).length))), (11, none), (12, none), (13, none)], [some (List.flatMap c_SFrac (List.replicate (a0.length : Int).toNat (⟨0, 0⟩ : SFrac)))], []⟩ (.exit 0) ⟨mkA [(5, VV.rf 0 0 r467.length)], [some ⟨false, 2, List.flatMap c_SFrac r467⟩], .nil⟩, .reg [.n, .n]]) (fr := true) (by kernel_rfl) ⟨⟨⟨trivial, trivial⟩, ⟨⟨trivial, ⟨trivial, ⟨⟨by omega, rfl, by omega, by omega⟩, ⟨trivial, trivial⟩⟩⟩⟩, ⟨⟨⟨trivial, ⟨trivial, ⟨trivial, trivial⟩⟩⟩, ⟨⟨⟨(Wv.of_eq (by simp)), trivial⟩, ⟨zero_flat c_SFrac (.agg #[.int .i64 0, .int .i64 0]) (⟨0, 0⟩ : SFrac) 2 (by decide) rfl rfl _, trivial⟩⟩, VRun.loop hph466⟩⟩, ⟨⟨trivial, ⟨trivial, trivial⟩⟩, trivial⟩⟩⟩⟩, ⟨(by exact new0_c_SFrac _), trivial⟩⟩ (Wv.of_eq (by simp only [drop0, unfr_vi, List.length_map, List.length_replicate, List.length_append, List.length_set, List.length_cons, List.length_nil, unfr_v_41, unfr_f_41, unfr_c_SFrac]))
  · rw [if_neg h449] at h; cases h
def nprofile_MirrorPart (k : Nat) (a0 : STurnedMaps) : Option ((List SFrac) × Int) :=
  (nprofile_CheckTurned k (⟨a0.Sectors, a0.Values⟩ : STurnedMaps)).bind fun r470 => (if r470 = 0 then ((nprofile_mirrorSums k (⟨a0.Sectors, a0.Values⟩ : STurnedMaps)).bind fun r473 => ((nprofile_divided k r473 (w64 ((a0.Values.length : Int) * (a0.Values.length : Int)))).bind fun r475 => (some (r475, 0)))) else (some ([], r470)))
set_option maxRecDepth 100000 in
set_option maxHeartbeats 4000000 in
theorem nprofile_MirrorPart_ok (k : Nat) (a0 : STurnedMaps) (r : ((List SFrac) × Int)) (h : nprofile_MirrorPart k a0 = some r) : VC Go.Proofs.Try.prog 8 [VV.ag [vi a0.Sectors, VV.tr (List.map v_41 a0.Values) a0.Values.length]] (VV.tu [VV.fr (List.flatMap c_SFrac r.1) r.1.length, vi r.2]) := by
  unfold nprofile_MirrorPart at h
  cases h471 : nprofile_CheckTurned k (⟨a0.Sectors, a0.Values⟩ : STurnedMaps) with
  | none => rw [h471] at h; cases h
  | some r470 =>
    rw [h471, Option.bind_some] at h
    by_cases h472 : r470 = 0
    · rw [if_pos h472] at h
      cases h474 : nprofile_mirrorSums k (⟨a0.Sectors, a0.Values⟩ : STurnedMaps) with
      | none => rw [h474] at h; cases h
      | some r473 =>
        rw [h474, Option.bind_some] at h
        cases h476 : nprofile_divided k r473 (w64 ((a0.Values.length : Int) * (a0.Values.length : Int))) with
        | none => rw [h476] at h; cases h
        | some r475 =>
          rw [h476, Option.bind_some] at h
          injection h with h; subst h
          exact fun_ok pm pn Go.Proofs.Try.func8 (q := ((((True) ∧ (True) ∧ (True) ∧ True) ∧ ((((True) ∧ (VC Go.Proofs.Try.prog 13 [VV.ag [vi a0.Sectors, VV.tr (List.map v_41 a0.Values) a0.Values.length]] (vi r470)) ∧ (True) ∧ True) ∧ (((True) ∧ (True) ∧ True) ∧ (((!(decide (r470 = 0))) = false) ∧ (True)))) ∧ (((True) ∧ (VC Go.Proofs.Try.prog 33 [VV.ag [vi a0.Sectors, VV.tr (List.map v_41 a0.Values) a0.Values.length]] (VV.fr (List.map vi r473) r473.length)) ∧ (True) ∧ (True) ∧ (True) ∧ (True) ∧ (True) ∧ (True) ∧ (True) ∧ (VC Go.Proofs.Try.prog 32 [VV.tr (List.map vi r473) r473.length, vi (w64 ((a0.Values.length : Int) * (a0.Values.length : Int)))] (VV.fr (List.flatMap c_SFrac r475) r475.length)) ∧ (True) ∧ (True) ∧ True) ∧ (True)))) ∧ ((True) ∧ ((True) ∧ (True))))) (r0 := VV.tu [VV.fr (List.flatMap c_SFrac r475) r475.length, vi 0]) (ans := [.reg [.n, .n, .n], .reg [.n, .call (vi r470), .n], .reg [.n, .n], .br false, .reg [.n, .call (VV.fr (List.map vi r473) r473.length), .n, .n, .n, .n, .n, .n, .n, .call (VV.fr (List.flatMap c_SFrac r475) r475.length), .n, .n]]) (fr := true) (by kernel_rfl) ⟨⟨⟨trivial, ⟨trivial, ⟨trivial, trivial⟩⟩⟩, ⟨⟨⟨trivial, ⟨(VC.args (nprofile_CheckTurned_ok k (⟨a0.Sectors, a0.Values⟩ : STurnedMaps) _ h471) (by simp only [drop0, unfr_vi, List.length_map, List.length_replicate, List.length_append, List.length_set, List.length_cons, List.length_nil, unfr_v_41, unfr_f_41, unfr_c_SFrac])), ⟨trivial, trivial⟩⟩⟩, ⟨⟨trivial, ⟨trivial, trivial⟩⟩, ⟨(not_f (decide_eq_true h472)), trivial⟩⟩⟩, ⟨⟨trivial, ⟨(VC.args (nprofile_mirrorSums_ok k (⟨a0.Sectors, a0.Values⟩ : STurnedMaps) _ h474) (by simp only [drop0, unfr_vi, List.length_map, List.length_replicate, List.length_append, List.length_set, List.length_cons, List.length_nil, unfr_v_41, unfr_f_41, unfr_c_SFrac])), ⟨trivial, ⟨trivial, ⟨trivial, ⟨trivial, ⟨trivial, ⟨trivial, ⟨trivial, ⟨nprofile_divided_ok k r473 (w64 ((a0.Values.length : Int) * (a0.Values.length : Int))) _ h476, ⟨trivial, ⟨trivial, trivial⟩⟩⟩⟩⟩⟩⟩⟩⟩⟩⟩⟩, trivial⟩⟩⟩, ⟨trivial, ⟨trivial, trivial⟩⟩⟩ (Wv.refl _)
    · rw [if_neg h472] at h
      injection h with h; subst h
      exact fun_ok pm pn Go.Proofs.Try.func8 (q := ((((True) ∧ (True) ∧ (True) ∧ True) ∧ (((True) ∧ (VC Go.Proofs.Try.prog 13 [VV.ag [vi a0.Sectors, VV.tr (List.map v_41 a0.Values) a0.Values.length]] (vi r470)) ∧ (True) ∧ True) ∧ (((True) ∧ (True) ∧ True) ∧ (((!(decide (r470 = 0))) = true) ∧ (((True) ∧ (True) ∧ (True) ∧ True) ∧ (True)))))) ∧ ((True) ∧ ((True) ∧ (True))))) (r0 := VV.tu [VV.c (.slice none 0 0), vi r470]) (ans := [.reg [.n, .n, .n], .reg [.n, .call (vi r470), .n], .reg [.n, .n], .br true, .reg [.n, .n, .n]]) (fr := true) (by kernel_rfl) ⟨⟨⟨trivial, ⟨trivial, ⟨trivial, trivial⟩⟩⟩, ⟨⟨trivial, ⟨(VC.args (nprofile_CheckTurned_ok k (⟨a0.Sectors, a0.Values⟩ : STurnedMaps) _ h471) (by simp only [drop0, unfr_vi, List.length_map, List.length_replicate, List.length_append, List.length_set, List.length_cons, List.length_nil, unfr_v_41, unfr_f_41, unfr_c_SFrac])), ⟨trivial, trivial⟩⟩⟩, ⟨⟨trivial, ⟨trivial, trivial⟩⟩, ⟨(not_t (decide_eq_false h472)), ⟨⟨trivial, ⟨trivial, ⟨trivial, trivial⟩⟩⟩, trivial⟩⟩⟩⟩⟩, ⟨trivial, ⟨trivial, trivial⟩⟩⟩ (Wv.tuL (.cons Wv.nilFr (.cons (Wv.refl _) .nil)))
def nprofile_RestPart (k : Nat) (a0 : STurnedMaps) : Option ((List SFrac) × Int) :=
  (nprofile_CheckTurned k (⟨a0.Sectors, a0.Values⟩ : STurnedMaps)).bind fun r484 => (if r484 = 0 then ((nprofile_restSums k (⟨a0.Sectors, a0.Values⟩ : STurnedMaps)).bind fun r487 => ((nprofile_divided k r487 (a0.Values.length : Int)).bind fun r489 => (some (r489, 0)))) else (some ([], r484)))
set_option maxRecDepth 100000 in
set_option maxHeartbeats 4000000 in
theorem nprofile_RestPart_ok (k : Nat) (a0 : STurnedMaps) (r : ((List SFrac) × Int)) (h : nprofile_RestPart k a0 = some r) : VC Go.Proofs.Try.prog 10 [VV.ag [vi a0.Sectors, VV.tr (List.map v_41 a0.Values) a0.Values.length]] (VV.tu [VV.fr (List.flatMap c_SFrac r.1) r.1.length, vi r.2]) := by
  unfold nprofile_RestPart at h
  cases h485 : nprofile_CheckTurned k (⟨a0.Sectors, a0.Values⟩ : STurnedMaps) with
  | none => rw [h485] at h; cases h
  | some r484 =>
    rw [h485, Option.bind_some] at h
    by_cases h486 : r484 = 0
    · rw [if_pos h486] at h
      cases h488 : nprofile_restSums k (⟨a0.Sectors, a0.Values⟩ : STurnedMaps) with
      | none => rw [h488] at h; cases h
      | some r487 =>
        rw [h488, Option.bind_some] at h
        cases h490 : nprofile_divided k r487 (a0.Values.length : Int) with
        | none => rw [h490] at h; cases h
        | some r489 =>
          rw [h490, Option.bind_some] at h
          injection h with h; subst h
          exact fun_ok pm pn Go.Proofs.Try.func10 (q := ((((True) ∧ (True) ∧ (True) ∧ True) ∧ ((((True) ∧ (VC Go.Proofs.Try.prog 13 [VV.ag [vi a0.Sectors, VV.tr (List.map v_41 a0.Values) a0.Values.length]] (vi r484)) ∧ (True) ∧ True) ∧ (((True) ∧ (True) ∧ True) ∧ (((!(decide (r484 = 0))) = false) ∧ (True)))) ∧ (((True) ∧ (VC Go.Proofs.Try.prog 34 [VV.ag [vi a0.Sectors, VV.tr (List.map v_41 a0.Values) a0.Values.length]] (VV.fr (List.map vi r487) r487.length)) ∧ (True) ∧ (True) ∧ (True) ∧ (VC Go.Proofs.Try.prog 32 [VV.tr (List.map vi r487) r487.length, vi (a0.Values.length : Int)] (VV.fr (List.flatMap c_SFrac r489) r489.length)) ∧ (True) ∧ (True) ∧ True) ∧ (True)))) ∧ ((True) ∧ ((True) ∧ (True))))) (r0 := VV.tu [VV.fr (List.flatMap c_SFrac r489) r489.length, vi 0]) (ans := [.reg [.n, .n, .n], .reg [.n, .call (vi r484), .n], .reg [.n, .n], .br false, .reg [.n, .call (VV.fr (List.map vi r487) r487.length), .n, .n, .n, .call (VV.fr (List.flatMap c_SFrac r489) r489.length), .n, .n]]) (fr := true) (by kernel_rfl) ⟨⟨⟨trivial, ⟨trivial, ⟨trivial, trivial⟩⟩⟩, ⟨⟨⟨trivial, ⟨(VC.args (nprofile_CheckTurned_ok k (⟨a0.Sectors, a0.Values⟩ : STurnedMaps) _ h485) (by simp only [drop0, unfr_vi, List.length_map, List.length_replicate, List.length_append, List.length_set, List.length_cons, List.length_nil, unfr_v_41, unfr_f_41, unfr_c_SFrac])), ⟨trivial, trivial⟩⟩⟩, ⟨⟨trivial, ⟨trivial, trivial⟩⟩, ⟨(not_f (decide_eq_true h486)), trivial⟩⟩⟩, ⟨⟨trivial, ⟨(VC.args (nprofile_restSums_ok k (⟨a0.Sectors, a0.Values⟩ : STurnedMaps) _ h488) (by simp only [drop0, unfr_vi, List.length_map, List.length_replicate, List.length_append, List.length_set, List.length_cons, List.length_nil, unfr_v_41, unfr_f_41, unfr_c_SFrac])), ⟨trivial, ⟨trivial, ⟨trivial, ⟨nprofile_divided_ok k r487 (a0.Values.length : Int) _ h490, ⟨trivial, ⟨trivial, trivial⟩⟩⟩⟩⟩⟩⟩⟩, trivial⟩⟩⟩, ⟨trivial, ⟨trivial, trivial⟩⟩⟩ (Wv.refl _)
    · rw [if_neg h486] at h
      injection h with h; subst h
      exact fun_ok pm pn Go.Proofs.Try.func10 (q := ((((True) ∧ (True) ∧ (True) ∧ True) ∧ (((True) ∧ (VC Go.Proofs.Try.prog 13 [VV.ag [vi a0.Sectors, VV.tr (List.map v_41 a0.Values) a0.Values.length]] (vi r484)) ∧ (True) ∧ True) ∧ (((True) ∧ (True) ∧ True) ∧ (((!(decide (r484 = 0))) = true) ∧ (((True) ∧ (True) ∧ (True) ∧ True) ∧ (True)))))) ∧ ((True) ∧ ((True) ∧ (True))))) (r0 := VV.tu [VV.c (.slice none 0 0), vi r484]) (ans := [.reg [.n, .n, .n], .reg [.n, .call (vi r484), .n], .reg [.n, .n], .br true, .reg [.n, .n, .n]]) (fr := true) (by kernel_rfl) ⟨⟨⟨trivial, ⟨trivial, ⟨trivial, trivial⟩⟩⟩, ⟨⟨trivial, ⟨(VC.args (nprofile_CheckTurned_ok k (⟨a0.Sectors, a0.Values⟩ : STurnedMaps) _ h485) (by simp only [drop0, unfr_vi, List.length_map, List.length_replicate, List.length_append, List.length_set, List.length_cons, List.length_nil, unfr_v_41, unfr_f_41, unfr_c_SFrac])), ⟨trivial, trivial⟩⟩⟩, ⟨⟨trivial, ⟨trivial, trivial⟩⟩, ⟨(not_t (decide_eq_false h486)), ⟨⟨trivial, ⟨trivial, ⟨trivial, trivial⟩⟩⟩, trivial⟩⟩⟩⟩⟩, ⟨trivial, ⟨trivial, trivial⟩⟩⟩ (Wv.tuL (.cons Wv.nilFr (.cons (Wv.refl _) .nil)))
def nprofile_Misfit_l1_0 (k : Nat) (a0 : STurnedMaps) (r571 : (List Int)) (r573 : (List Int)) (x30 : Int) : Nat → Int → Int → Option (Int)
  | 0, _, _ => none
  | fuel + 1, x37, x8z => if x37 < (r573.length : Int) then ((nprofile_turned k (⟨a0.Sectors, a0.Values⟩ : STurnedMaps) x37 x30).bind fun r634 => (if 0 ≤ r634 ∧ r634 < ((a0.Values.getD x30.toNat default).length : Int) then (if 0 ≤ x37 ∧ x37 < (r573.length : Int) then (if 0 ≤ r634 ∧ r634 < (r571.length : Int) then (nprofile_Misfit_l1_0 k a0 r571 r573 x30 fuel (w64 (x37 + 1)) (maxI (maxI x8z (w64 ((w64 ((w64 ((w64 (((a0.Values.getD x30.toNat default).getD r634.toNat 0) * (a0.Values.length : Int))) * (a0.Values.length : Int))) - (r573.getD x37.toNat 0))) - (w64 ((r571.getD r634.toNat 0) * (a0.Values.length : Int)))))) (w64 (0 - (w64 ((w64 ((w64 ((w64 (((a0.Values.getD x30.toNat default).getD r634.toNat 0) * (a0.Values.length : Int))) * (a0.Values.length : Int))) - (r573.getD x37.toNat 0))) - (w64 ((r571.getD r634.toNat 0) * (a0.Values.length : Int))))))))) else none) else none) else none)) else (some x8z)
set_option maxRecDepth 100000 in
set_option maxHeartbeats 4000000 in
theorem nprofile_Misfit_l1_0_ok (k : Nat) (a0 : STurnedMaps) (r571 : (List Int)) (r573 : (List Int)) (x30 : Int) : ∀ (fuel : Nat) (x37 : Int) (x8z : Int) (r : Int), nprofile_Misfit_l1_0 k a0 r571 r573 x30 fuel x37 x8z = some r → (VLoop none Go.Proofs.Try.prog (szF Go.Proofs.Try.f11) (bodyOf Go.Proofs.Try.f11 1) ⟨mkA [(1, VV.pt 0 0), (2, VV.pt 1 0), (5, VV.fr (List.map vi r571) r571.length), (6, VV.fr (List.map vi r573) r573.length), (7, vi (a0.Values.length : Int)), (8, vi x8z), (9, vi x30), (10, VV.tr (List.map vi (a0.Values.getD x30.toNat default)) ((a0.Values.getD x30.toNat default).length)), (28, VV.tr (List.map v_41 a0.Values) a0.Values.length), (29, vi (a0.Values.length : Int)), (30, vi x30), (36, vi (r573.length : Int)), (37, vi x37)], [some ⟨true, 1, [vi a0.Sectors, VV.tr (List.map v_41 a0.Values) a0.Values.length]⟩, some ⟨true, 1, [vi 0, vi 0]⟩], .nil⟩ (.exit 2) ⟨mkA [(1, VV.pt 0 0), (2, VV.pt 1 0), (5, VV.fr (List.map vi r571) r571.length), (6, VV.fr (List.map vi r573) r573.length), (7, vi (a0.Values.length : Int)), (8, vi r), (28, VV.tr (List.map v_41 a0.Values) a0.Values.length), (29, vi (a0.Values.length : Int)), (30, vi x30)], [some ⟨true, 1, [vi a0.Sectors, VV.tr (List.map v_41 a0.Values) a0.Values.length]⟩, some ⟨true, 1, [vi 0, vi 0]⟩], .nil⟩) := by
  intro fuel
  induction fuel with
  | zero => intro x37 x8z r h; rw [nprofile_Misfit_l1_0.eq_1] at h; cases h
  | succ fuel ih =>
    intro x37 x8z r h
    rw [nprofile_Misfit_l1_0.eq_2] at h
    by_cases h633 : x37 < (r573.length : Int)
    · rw [if_pos h633] at h
      cases h635 : nprofile_turned k (⟨a0.Sectors, a0.Values⟩ : STurnedMaps) x37 x30 with
      | none => rw [h635] at h; cases h
      | some r634 =>
        rw [h635, Option.bind_some] at h
        by_cases h636 : 0 ≤ r634 ∧ r634 < ((a0.Values.getD x30.toNat default).length : Int)
        · rw [if_pos h636] at h
          by_cases h637 : 0 ≤ x37 ∧ x37 < (r573.length : Int)
          · rw [if_pos h637] at h
            by_cases h638 : 0 ≤ r634 ∧ r634 < (r571.length : Int)
            · rw [if_pos h638] at h
              have h2 := ih _ _ _ h
              have hv : vRound none Go.Proofs.Try.prog Go.Proofs.Try.f11 1 ⟨mkA [(1, VV.pt 0 0), (2, VV.pt 1 0), (5, VV.fr (List.map vi r571) r571.length), (6, VV.fr (List.map vi r573) r573.length), (7, vi (a0.Values.length : Int)), (8, vi x8z), (9, vi x30), (10, VV.tr (List.map vi (a0.Values.getD x30.toNat default)) ((a0.Values.getD x30.toNat default).length)), (28, VV.tr (List.map v_41 a0.Values) a0.Values.length), (29, vi (a0.Values.length : Int)), (30, vi x30), (36, vi (r573.length : Int)), (37, vi x37)], [some ⟨true, 1, [vi a0.Sectors, VV.tr (List.map v_41 a0.Values) a0.Values.length]⟩, some ⟨true, 1, [vi 0, vi 0]⟩], .nil⟩ [.reg [.n], .br true, .reg [.n, .n], .reg [.n, .n, .n, .call (vi r634), .n], .reg [.n, .n, .n, .v (vi ((a0.Values.getD x30.toNat default).getD r634.toNat 0)), .n, .n, .n, .n, .n, .n, .n, .v (vi (r573.getD x37.toNat 0)), .n, .n, .n, .n, .v (vi (r571.getD r634.toNat 0)), .n, .n, .n, .n], .reg [.n, .n, .n, .n, .n, .n], .reg [.n, .n]] ⟨[(1, none), (2, none), (5, none), (6, none), (7, none), (8, none), (9, none), (10, none), (28, none), (29, none), (30, none), (36, none), (37, none)], [none, none], []⟩ = some (.normal, ⟨mkA [(1, VV.pt 0 0), (2, VV.pt 1 0), (5, VV.fr (List.map vi r571) r571.length), (6, VV.fr (List.map vi r573) r573.length), (7, vi (a0.Values.length : Int)), (8, vi (maxI (maxI x8z (w64 ((w64 ((w64 ((w64 (((a0.Values.getD x30.toNat default).getD r634.toNat 0) * (a0.Values.length : Int))) * (a0.Values.length : Int))) - (r573.getD x37.toNat 0))) - (w64 ((r571.getD r634.toNat 0) * (a0.Values.length : Int)))))) (w64 (0 - (w64 ((w64 ((w64 ((w64 (((a0.Values.getD x30.toNat default).getD r634.toNat 0) * (a0.Values.length : Int))) * (a0.Values.length : Int))) - (r573.getD x37.toNat 0))) - (w64 ((r571.getD r634.toNat 0) * (a0.Values.length : Int))))))))), (9, vi x30), (10, VV.tr (List.map vi (a0.Values.getD x30.toNat default)) ((a0.Values.getD x30.toNat default).length)), (28, VV.tr (List.map v_41 a0.Values) a0.Values.length), (29, vi (a0.Values.length : Int)), (30, vi x30), (36, vi (r573.length : Int)), (37, vi (w64 (x37 + 1)))], [some ⟨true, 1, [vi a0.Sectors, VV.tr (List.map v_41 a0.Values) a0.Values.length]⟩, some ⟨true, 1, [vi 0, vi 0]⟩], .nil⟩, (((True) ∧ True) ∧ ((((decide (x37 < (r573.length : Int))) = true) ∧ (True)) ∧ ((((True) ∧ (True) ∧ True) ∧ (((True) ∧ (True) ∧ (True) ∧ (VC Go.Proofs.Try.prog 35 [VV.ag [vi a0.Sectors, VV.tr (List.map v_41 a0.Values) a0.Values.length], vi x37, vi x30] (vi r634)) ∧ (True) ∧ True) ∧ (((True) ∧ (True) ∧ (0 ≤ r634 ∧ r634 < (((a0.Values.getD x30.toNat default).length : Nat) : Int)) ∧ (loadL Go.Proofs.Try.prog 3 (r634.toNat * 1) (List.map vi (a0.Values.getD x30.toNat default)) = some (vi ((a0.Values.getD x30.toNat default).getD r634.toNat 0))) ∧ (True) ∧ (True) ∧ (True) ∧ (True) ∧ (True) ∧ (True) ∧ (0 ≤ x37 ∧ x37 < ((r573.length : Nat) : Int)) ∧ (loadL Go.Proofs.Try.prog 3 (x37.toNat * 1) (List.map vi r573) = some (vi (r573.getD x37.toNat 0))) ∧ (True) ∧ (True) ∧ (True) ∧ (0 ≤ r634 ∧ r634 < ((r571.length : Nat) : Int)) ∧ (loadL Go.Proofs.Try.prog 3 (r634.toNat * 1) (List.map vi r571) = some (vi (r571.getD r634.toNat 0))) ∧ (True) ∧ (True) ∧ (True) ∧ (True) ∧ True) ∧ ((True) ∧ (True) ∧ (True) ∧ (True) ∧ (True) ∧ (True) ∧ True)))) ∧ ((True) ∧ (True) ∧ True)))) ∧ (((True)) ∧ ((True)))) := by kernel_rfl
              have hq : (((True) ∧ True) ∧ ((((decide (x37 < (r573.length : Int))) = true) ∧ (True)) ∧ ((((True) ∧ (True) ∧ True) ∧ (((True) ∧ (True) ∧ (True) ∧ (VC Go.Proofs.Try.prog 35 [VV.ag [vi a0.Sectors, VV.tr (List.map v_41 a0.Values) a0.Values.length], vi x37, vi x30] (vi r634)) ∧ (True) ∧ True) ∧ (((True) ∧ (True) ∧ (0 ≤ r634 ∧ r634 < (((a0.Values.getD x30.toNat default).length : Nat) : Int)) ∧ (loadL Go.Proofs.Try.prog 3 (r634.toNat * 1) (List.map vi (a0.Values.getD x30.toNat default)) = some (vi ((a0.Values.getD x30.toNat default).getD r634.toNat 0))) ∧ (True) ∧ (True) ∧ (True) ∧ (True) ∧ (True) ∧ (True) ∧ (0 ≤ x37 ∧ x37 < ((r573.length : Nat) : Int)) ∧ (loadL Go.Proofs.Try.prog 3 (x37.toNat * 1) (List.map vi r573) = some (vi (r573.getD x37.toNat 0))) ∧ (True) ∧ (True) ∧ (True) ∧ (0 ≤ r634 ∧ r634 < ((r571.length : Nat) : Int)) ∧ (loadL Go.Proofs.Try.prog 3 (r634.toNat * 1) (List.map vi r571) = some (vi (r571.getD r634.toNat 0))) ∧ (True) ∧ (True) ∧ (True) ∧ (True) ∧ True) ∧ ((True) ∧ (True) ∧ (True) ∧ (True) ∧ (True) ∧ (True) ∧ True)))) ∧ ((True) ∧ (True) ∧ True)))) ∧ (((True)) ∧ ((True))) := ⟨⟨⟨trivial, trivial⟩, ⟨⟨(decide_eq_true h633), trivial⟩, ⟨⟨⟨trivial, ⟨trivial, trivial⟩⟩, ⟨⟨trivial, ⟨trivial, ⟨trivial, ⟨(VC.args (nprofile_turned_ok k (⟨a0.Sectors, a0.Values⟩ : STurnedMaps) x37 x30 _ h635) (by simp only [drop0, unfr_vi, List.length_map, List.length_replicate, List.length_append, List.length_set, List.length_cons, List.length_nil, unfr_v_41, unfr_f_41, unfr_c_SFrac])), ⟨trivial, trivial⟩⟩⟩⟩⟩, ⟨⟨trivial, ⟨trivial, ⟨h636, ⟨ld_map ag3 vi (a0.Values.getD x30.toNat default) 0 h636 (by omega), ⟨trivial, ⟨trivial, ⟨trivial, ⟨trivial, ⟨trivial, ⟨trivial, ⟨h637, ⟨ld_map ag3 vi r573 0 h637 (by omega), ⟨trivial, ⟨trivial, ⟨trivial, ⟨h638, ⟨ld_map ag3 vi r571 0 h638 (by omega), ⟨trivial, ⟨trivial, ⟨trivial, ⟨trivial, trivial⟩⟩⟩⟩⟩⟩⟩⟩⟩⟩⟩⟩⟩⟩⟩⟩⟩⟩⟩⟩⟩, ⟨trivial, ⟨trivial, ⟨trivial, ⟨trivial, ⟨trivial, ⟨trivial, trivial⟩⟩⟩⟩⟩⟩⟩⟩⟩, ⟨trivial, ⟨trivial, trivial⟩⟩⟩⟩⟩, ⟨trivial, trivial⟩⟩
              exact round_next pm pn hv hq h2
            · rw [if_neg h638] at h; cases h
          · rw [if_neg h637] at h; cases h
        · rw [if_neg h636] at h; cases h
    · rw [if_neg h633] at h
      injection h with h; subst h
      exact round_stop (c := ⟨[(1, none), (2, none), (5, none), (6, none), (7, none), (8, none), (28, none), (29, none), (30, none)], [none, none], []⟩) (q := (((True) ∧ True) ∧ (((decide (x37 < (r573.length : Int))) = false) ∧ (True))) ∧ (((True)) ∧ ((True)))) (s1 := ⟨mkA [(1, VV.pt 0 0), (2, VV.pt 1 0), (5, VV.fr (List.map vi r571) r571.length), (6, VV.fr (List.map vi r573) r573.length), (7, vi (a0.Values.length : Int)), (8, vi x8z), (28, VV.tr (List.map v_41 a0.Values) a0.Values.length), (29, vi (a0.Values.length : Int)), (30, vi x30)], [some ⟨true, 1, [vi a0.Sectors, VV.tr (List.map v_41 a0.Values) a0.Values.length]⟩, some ⟨true, 1, [vi 0, vi 0]⟩], .nil⟩) pm pn (ans := [.reg [.n], .br false]) (by kernel_rfl) (by intro e; cases e) ⟨⟨⟨trivial, trivial⟩, ⟨(decide_eq_false h633), trivial⟩⟩, ⟨trivial, trivial⟩⟩
def nprofile_Misfit_l0_0 (k : Nat) (a0 : STurnedMaps) (r571 : (List Int)) (r573 : (List Int)) : Nat → Int → Int → Option (Int)
  | 0, _, _ => none
  | fuel + 1, x30, x8 => if x30 < (a0.Values.length : Int) then (if 0 ≤ x30 ∧ x30 < (a0.Values.length : Int) then ((nprofile_Misfit_l1_0 k a0 r571 r573 x30 k 0 x8).bind fun r640 => (nprofile_Misfit_l0_0 k a0 r571 r573 fuel (w64 (x30 + 1)) r640)) else none) else (some x8)
set_option maxRecDepth 100000 in
set_option maxHeartbeats 4000000 in
theorem nprofile_Misfit_l0_0_ok (k : Nat) (a0 : STurnedMaps) (r571 : (List Int)) (r573 : (List Int)) : ∀ (fuel : Nat) (x30 : Int) (x8 : Int) (r : Int), nprofile_Misfit_l0_0 k a0 r571 r573 fuel x30 x8 = some r → (VLoop none Go.Proofs.Try.prog (szF Go.Proofs.Try.f11) (bodyOf Go.Proofs.Try.f11 0) ⟨mkA [(1, VV.pt 0 0), (2, VV.pt 1 0), (5, VV.fr (List.map vi r571) r571.length), (6, VV.fr (List.map vi r573) r573.length), (7, vi (a0.Values.length : Int)), (8, vi x8), (28, VV.tr (List.map v_41 a0.Values) a0.Values.length), (29, vi (a0.Values.length : Int)), (30, vi x30)], [some ⟨true, 1, [vi a0.Sectors, VV.tr (List.map v_41 a0.Values) a0.Values.length]⟩, some ⟨true, 1, [vi 0, vi 0]⟩], .nil⟩ (.exit 0) ⟨mkA [(2, VV.pt 1 0), (7, vi (a0.Values.length : Int)), (8, vi r)], [some ⟨true, 1, [vi a0.Sectors, VV.tr (List.map v_41 a0.Values) a0.Values.length]⟩, some ⟨true, 1, [vi 0, vi 0]⟩], .nil⟩) := by
  intro fuel
  induction fuel with
  | zero => intro x30 x8 r h; rw [nprofile_Misfit_l0_0.eq_1] at h; cases h
  | succ fuel ih =>
    intro x30 x8 r h
    rw [nprofile_Misfit_l0_0.eq_2] at h
    by_cases h619 : x30 < (a0.Values.length : Int)
    · rw [if_pos h619] at h
      by_cases h620 : 0 ≤ x30 ∧ x30 < (a0.Values.length : Int)
      · rw [if_pos h620] at h
        cases h639 : nprofile_Misfit_l1_0 k a0 r571 r573 x30 k 0 x8 with
        | none => rw [h639] at h; cases h
        | some r640 =>
          rw [h639, Option.bind_some] at h
          have hph639 := nprofile_Misfit_l1_0_ok k a0 r571 r573 x30 _ _ _ _ h639
          have h2 := ih _ _ _ h
          have hv : vRound none Go.Proofs.Try.prog Go.Proofs.Try.f11 0 ⟨mkA [(1, VV.pt 0 0), (2, VV.pt 1 0), (5, VV.fr (List.map vi r571) r571.length), (6, VV.fr (List.map vi r573) r573.length), (7, vi (a0.Values.length : Int)), (8, vi x8), (28, VV.tr (List.map v_41 a0.Values) a0.Values.length), (29, vi (a0.Values.length : Int)), (30, vi x30)], [some ⟨true, 1, [vi a0.Sectors, VV.tr (List.map v_41 a0.Values) a0.Values.length]⟩, some ⟨true, 1, [vi 0, vi 0]⟩], .nil⟩ [.reg [.n], .br true, .reg [.n, .n, .v (VV.tr (List.map vi (a0.Values.getD x30.toNat default)) ((a0.Values.getD x30.toNat default).length)), .n, .n], .reg [.n, .n, .n], .sub ⟨[(1, none), (2, none), (5, none), (6, none), (7, none), (8, none), (9, none), (10, none), (28, none), (29, none), (30, none), (36, none), (37, none)], [none, none], []⟩ (.exit 2) ⟨mkA [(1, VV.pt 0 0), (2, VV.pt 1 0), (5, VV.fr (List.map vi r571) r571.length), (6, VV.fr (List.map vi r573) r573.length), (7, vi (a0.Values.length : Int)), (8, vi r640), (28, VV.tr (List.map v_41 a0.Values) a0.Values.length), (29, vi (a0.Values.length : Int)), (30, vi x30)], [some ⟨true, 1, [vi a0.Sectors, VV.tr (List.map v_41 a0.Values) a0.Values.length]⟩, some ⟨true, 1, [vi 0, vi 0]⟩], .nil⟩, .reg [.n, .n]] ⟨[(1, none), (2, none), (5, none), (6, none), (7, none), (8, none), (28, none), (29, none), (30, none)], [none, none], []⟩ = some (.normal, ⟨mkA [(1, VV.pt 0 0), (2, VV.pt 1 0), (5, VV.fr (List.map vi r571) r571.length), (6, VV.fr (List.map vi r573) r573.length), (7, vi (a0.Values.length : Int)), (8, vi r640), (28, VV.tr (List.map v_41 a0.Values) a0.Values.length), (29, vi (a0.Values.length : Int)), (30, vi (w64 (x30 + 1)))], [some ⟨true, 1, [vi a0.Sectors, VV.tr (List.map v_41 a0.Values) a0.Values.length]⟩, some ⟨true, 1, [vi 0, vi 0]⟩], .nil⟩, (((True) ∧ True) ∧ ((((decide (x30 < (a0.Values.length : Int))) = true) ∧ (True)) ∧ ((((True) ∧ (0 ≤ x30 ∧ x30 < ((a0.Values.length : Nat) : Int)) ∧ (loadL Go.Proofs.Try.prog 41 (x30.toNat * 1) (List.map v_41 a0.Values) = some (VV.tr (List.map vi (a0.Values.getD x30.toNat default)) ((a0.Values.getD x30.toNat default).length))) ∧ (True) ∧ (True) ∧ True) ∧ (((True) ∧ (True) ∧ (True) ∧ True) ∧ (((((True)) ∧ ((True))) ∧ VRun none Go.Proofs.Try.prog (szF Go.Proofs.Try.f11) (.loop (bodyOf Go.Proofs.Try.f11 1)) ⟨mkA [(1, VV.pt 0 0), (2, VV.pt 1 0), (5, VV.fr (List.map vi r571) r571.length), (6, VV.fr (List.map vi r573) r573.length), (7, vi (a0.Values.length : Int)), (8, vi x8), (9, vi x30), (10, VV.tr (List.map vi (a0.Values.getD x30.toNat default)) ((a0.Values.getD x30.toNat default).length)), (28, VV.tr (List.map v_41 a0.Values) a0.Values.length), (29, vi (a0.Values.length : Int)), (30, vi x30), (36, vi (r573.length : Int)), (37, vi 0)], [some ⟨true, 1, [vi a0.Sectors, VV.tr (List.map v_41 a0.Values) a0.Values.length]⟩, some ⟨true, 1, [vi 0, vi 0]⟩], .nil⟩ (.exit 2) ⟨mkA [(1, VV.pt 0 0), (2, VV.pt 1 0), (5, VV.fr (List.map vi r571) r571.length), (6, VV.fr (List.map vi r573) r573.length), (7, vi (a0.Values.length : Int)), (8, vi r640), (28, VV.tr (List.map v_41 a0.Values) a0.Values.length), (29, vi (a0.Values.length : Int)), (30, vi x30)], [some ⟨true, 1, [vi a0.Sectors, VV.tr (List.map v_41 a0.Values) a0.Values.length]⟩, some ⟨true, 1, [vi 0, vi 0]⟩], .nil⟩)))) ∧ ((True) ∧ (True) ∧ True)))) ∧ (((True)) ∧ ((True)))) := by kernel_rfl
          have hq : (((True) ∧ True) ∧ ((((decide (x30 < (a0.Values.length : Int))) = true) ∧ (True)) ∧ ((((True) ∧ (0 ≤ x30 ∧ x30 < ((a0.Values.length : Nat) : Int)) ∧ (loadL Go.Proofs.Try.prog 41 (x30.toNat * 1) (List.map v_41 a0.Values) = some (VV.tr (List.map vi (a0.Values.getD x30.toNat default)) ((a0.Values.getD x30.toNat default).length))) ∧ (True) ∧ (True) ∧ True) ∧ (((True) ∧ (True) ∧ (True) ∧ True) ∧ (((((True)) ∧ ((True))) ∧ VRun none Go.Proofs.Try.prog (szF Go.Proofs.Try.f11) (.loop (bodyOf Go.Proofs.Try.f11 1)) ⟨mkA [(1, VV.pt 0 0), (2, VV.pt 1 0), (5, VV.fr (List.map vi r571) r571.length), (6, VV.fr (List.map vi r573) r573.length), (7, vi (a0.Values.length : Int)), (8, vi x8), (9, vi x30), (10, VV.tr (List.map vi (a0.Values.getD x30.toNat default)) ((a0.Values.getD x30.toNat default).length)), (28, VV.tr (List.map v_41 a0.Values) a0.Values.length), (29, vi (a0.Values.length : Int)), (30, vi x30), (36, vi (r573.length : Int)), (37, vi 0)], [some ⟨true, 1, [vi a0.Sectors, VV.tr (List.map v_41 a0.Values) a0.Values.length]⟩, some ⟨true, 1, [vi 0, vi 0]⟩], .nil⟩ (.exit 2) ⟨mkA [(1, VV.pt 0 0), (2, VV.pt 1 0), (5, VV.fr (List.map vi r571) r571.length), (6, VV.fr (List.map vi r573) r573.length), (7, vi (a0.Values.length : Int)), (8, vi r640), (28, VV.tr (List.map v_41 a0.Values) a0.Values.length), (29, vi (a0.Values.length : Int)), (30, vi x30)], [some ⟨true, 1, [vi a0.Sectors, VV.tr (List.map v_41 a0.Values) a0.Values.length]⟩, some ⟨true, 1, [vi 0, vi 0]⟩], .nil⟩)))) ∧ ((True) ∧ (True) ∧ True)))) ∧ (((True)) ∧ ((True))) := ⟨⟨⟨trivial, trivial⟩, ⟨⟨(decide_eq_true h619), trivial⟩, ⟨⟨⟨trivial, ⟨h620, ⟨ld_map ag41 v_41 a0.Values default h620 (by omega), ⟨trivial, ⟨trivial, trivial⟩⟩⟩⟩⟩, ⟨⟨trivial, ⟨trivial, ⟨trivial, trivial⟩⟩⟩, ⟨⟨trivial, trivial⟩, VRun.loop hph639⟩⟩⟩, ⟨trivial, ⟨trivial, trivial⟩⟩⟩⟩⟩, ⟨trivial, trivial⟩⟩
          exact round_next pm pn hv hq h2
      · rw [if_neg h620] at h; cases h
    · rw [if_neg h619] at h
      injection h with h; subst h
      exact round_stop (c := ⟨[(2, none), (7, none), (8, none)], [none, none], []⟩) (q := (((True) ∧ True) ∧ (((decide (x30 < (a0.Values.length : Int))) = false) ∧ (True))) ∧ (((True)) ∧ ((True)))) (s1 := ⟨mkA [(2, VV.pt 1 0), (7, vi (a0.Values.length : Int)), (8, vi x8)], [some ⟨true, 1, [vi a0.Sectors, VV.tr (List.map v_41 a0.Values) a0.Values.length]⟩, some ⟨true, 1, [vi 0, vi 0]⟩], .nil⟩) pm pn (ans := [.reg [.n], .br false]) (by kernel_rfl) (by intro e; cases e) ⟨⟨⟨trivial, trivial⟩, ⟨(decide_eq_false h619), trivial⟩⟩, ⟨trivial, trivial⟩⟩
def nprofile_Misfit (k : Nat) (a0 : STurnedMaps) : Option (SFrac × Int) :=
  (nprofile_CheckTurned k (⟨a0.Sectors, a0.Values⟩ : STurnedMaps)).bind fun r568 => (if r568 = 0 then ((nprofile_restSums k (⟨a0.Sectors, a0.Values⟩ : STurnedMaps)).bind fun r571 => ((nprofile_mirrorSums k (⟨a0.Sectors, a0.Values⟩ : STurnedMaps)).bind fun r573 => ((nprofile_Misfit_l0_0 k a0 r571 r573 k 0 0).bind fun r642 => ((nprofile_lowest k r642 (w64 ((a0.Values.length : Int) * (a0.Values.length : Int)))).bind fun r643 => (some ((⟨r643.Num, r643.Den⟩ : SFrac), 0)))))) else (some ((⟨0, 0⟩ : SFrac), r568)))
set_option maxRecDepth 100000 in
set_option maxHeartbeats 4000000 in
theorem nprofile_Misfit_ok (k : Nat) (a0 : STurnedMaps) (r : (SFrac × Int)) (h : nprofile_Misfit k a0 = some r) : VC Go.Proofs.Try.prog 11 [VV.ag [vi a0.Sectors, VV.tr (List.map v_41 a0.Values) a0.Values.length]] (VV.tu [VV.ag [vi r.1.Num, vi r.1.Den], vi r.2]) := by
  unfold nprofile_Misfit at h
  cases h569 : nprofile_CheckTurned k (⟨a0.Sectors, a0.Values⟩ : STurnedMaps) with
  | none => rw [h569] at h; cases h
  | some r568 =>
    rw [h569, Option.bind_some] at h
    by_cases h570 : r568 = 0
    · rw [if_pos h570] at h
      cases h572 : nprofile_restSums k (⟨a0.Sectors, a0.Values⟩ : STurnedMaps) with
      | none => rw [h572] at h; cases h
      | some r571 =>
        rw [h572, Option.bind_some] at h
        cases h574 : nprofile_mirrorSums k (⟨a0.Sectors, a0.Values⟩ : STurnedMaps) with
        | none => rw [h574] at h; cases h
        | some r573 =>
          rw [h574, Option.bind_some] at h
          cases h641 : nprofile_Misfit_l0_0 k a0 r571 r573 k 0 0 with
          | none => rw [h641] at h; cases h
          | some r642 =>
            rw [h641, Option.bind_some] at h
            have hph641 := nprofile_Misfit_l0_0_ok k a0 r571 r573 _ _ _ _ h641
            cases h644 : nprofile_lowest k r642 (w64 ((a0.Values.length : Int) * (a0.Values.length : Int))) with
            | none => rw [h644] at h; cases h
            | some r643 =>
              rw [h644, Option.bind_some] at h
              injection h with h; subst h
              exact fun_ok pm pn Go.Proofs.Try.func11 (q := ((((True) ∧ (True) ∧ (True) ∧ True) ∧ ((((True) ∧ (VC Go.Proofs.Try.prog 13 [VV.ag [vi a0.Sectors, VV.tr (List.map v_41 a0.Values) a0.Values.length]] (vi r568)) ∧ (True) ∧ True) ∧ (((True) ∧ (True) ∧ True) ∧ (((!(decide (r568 = 0))) = false) ∧ (True)))) ∧ (((True) ∧ (VC Go.Proofs.Try.prog 34 [VV.ag [vi a0.Sectors, VV.tr (List.map v_41 a0.Values) a0.Values.length]] (VV.fr (List.map vi r571) r571.length)) ∧ (True) ∧ (VC Go.Proofs.Try.prog 33 [VV.ag [vi a0.Sectors, VV.tr (List.map v_41 a0.Values) a0.Values.length]] (VV.fr (List.map vi r573) r573.length)) ∧ (True) ∧ (True) ∧ (True) ∧ (True) ∧ (True) ∧ (True) ∧ True) ∧ (((True) ∧ True) ∧ ((((True) ∧ (True) ∧ (True) ∧ (True) ∧ True) ∧ (((((True)) ∧ ((True))) ∧ VRun none Go.Proofs.Try.prog (szF Go.Proofs.Try.f11) (.loop (bodyOf Go.Proofs.Try.f11 0)) ⟨mkA [(1, VV.pt 0 0), (2, VV.pt 1 0), (5, VV.fr (List.map vi r571) r571.length), (6, VV.fr (List.map vi r573) r573.length), (7, vi (a0.Values.length : Int)), (8, vi 0), (28, VV.tr (List.map v_41 a0.Values) a0.Values.length), (29, vi (a0.Values.length : Int)), (30, vi 0)], [some ⟨true, 1, [vi a0.Sectors, VV.tr (List.map v_41 a0.Values) a0.Values.length]⟩, some ⟨true, 1, [vi 0, vi 0]⟩], .nil⟩ (.exit 0) ⟨mkA [(2, VV.pt 1 0), (7, vi (a0.Values.length : Int)), (8, vi r642)], [some ⟨true, 1, [vi a0.Sectors, VV.tr (List.map v_41 a0.Values) a0.Values.length]⟩, some ⟨true, 1, [vi 0, vi 0]⟩], .nil⟩))) ∧ (((True) ∧ (True) ∧ (True) ∧ (True) ∧ (VC Go.Proofs.Try.prog 36 [vi r642, vi (w64 ((a0.Values.length : Int) * (a0.Values.length : Int)))] (VV.ag [vi r643.Num, vi r643.Den])) ∧ (True) ∧ (True) ∧ True) ∧ (True))))))) ∧ ((True ∧ ((True) ∧ ((True) ∧ (True)))) ∧ ((True) ∧ (True))))) (r0 := VV.tu [VV.ag [vi r643.Num, vi r643.Den], vi 0]) (ans := [.reg [.n, .n, .n], .reg [.n, .call (vi r568), .n], .reg [.n, .n], .br false, .reg [.n, .call (VV.fr (List.map vi r571) r571.length), .n, .call (VV.fr (List.map vi r573) r573.length), .n, .n, .n, .n, .n, .n], .reg [.n], .reg [.n, .n, .n, .n], .sub ⟨[(1, none), (2, none), (5, none), (6, none), (7, none), (8, none), (28, none), (29, none), (30, none)], [none, none], []⟩ (.exit 0) ⟨mkA [(2, VV.pt 1 0), (7, vi (a0.Values.length : Int)), (8, vi r642)], [some ⟨true, 1, [vi a0.Sectors, VV.tr (List.map v_41 a0.Values) a0.Values.length]⟩, some ⟨true, 1, [vi 0, vi 0]⟩], .nil⟩, .reg [.n, .n, .n, .n, .call (VV.ag [vi r643.Num, vi r643.Den]), .n, .n]]) (fr := true) (by kernel_rfl) ⟨⟨⟨trivial, ⟨trivial, ⟨trivial, trivial⟩⟩⟩, ⟨⟨⟨trivial, ⟨(VC.args (nprofile_CheckTurned_ok k (⟨a0.Sectors, a0.Values⟩ : STurnedMaps) _ h569) (by simp only [drop0, unfr_vi, List.length_map, List.length_replicate, List.length_append, List.length_set, List.length_cons, List.length_nil, unfr_v_41, unfr_f_41, unfr_c_SFrac])), ⟨trivial, trivial⟩⟩⟩, ⟨⟨trivial, ⟨trivial, trivial⟩⟩, ⟨(not_f (decide_eq_true h570)), trivial⟩⟩⟩, ⟨⟨trivial, ⟨(VC.args (nprofile_restSums_ok k (⟨a0.Sectors, a0.Values⟩ : STurnedMaps) _ h572) (by simp only [drop0, unfr_vi, List.length_map, List.length_replicate, List.length_append, List.length_set, List.length_cons, List.length_nil, unfr_v_41, unfr_f_41, unfr_c_SFrac])), ⟨trivial, ⟨(VC.args (nprofile_mirrorSums_ok k (⟨a0.Sectors, a0.Values⟩ : STurnedMaps) _ h574) (by simp only [drop0, unfr_vi, List.length_map, List.length_replicate, List.length_append, List.length_set, List.length_cons, List.length_nil, unfr_v_41, unfr_f_41, unfr_c_SFrac])), ⟨trivial, ⟨trivial, ⟨trivial, ⟨trivial, ⟨trivial, ⟨trivial, trivial⟩⟩⟩⟩⟩⟩⟩⟩⟩⟩, ⟨⟨trivial, trivial⟩, ⟨⟨⟨trivial, ⟨trivial, ⟨trivial, ⟨trivial, trivial⟩⟩⟩⟩, ⟨⟨trivial, trivial⟩, VRun.loop hph641⟩⟩, ⟨⟨trivial, ⟨trivial, ⟨trivial, ⟨trivial, ⟨nprofile_lowest_ok k r642 (w64 ((a0.Values.length : Int) * (a0.Values.length : Int))) _ h644, ⟨trivial, ⟨trivial, trivial⟩⟩⟩⟩⟩⟩⟩, trivial⟩⟩⟩⟩⟩⟩, ⟨⟨trivial, ⟨trivial, ⟨trivial, trivial⟩⟩⟩, ⟨trivial, trivial⟩⟩⟩ (Wv.of_eq (by simp only [drop0, unfr_vi, List.length_map, List.length_replicate, List.length_append, List.length_set, List.length_cons, List.length_nil, unfr_v_41, unfr_f_41, unfr_c_SFrac]))
    · rw [if_neg h570] at h
      injection h with h; subst h
      exact fun_ok pm pn Go.Proofs.Try.func11 (q := ((((True) ∧ (True) ∧ (True) ∧ True) ∧ (((True) ∧ (VC Go.Proofs.Try.prog 13 [VV.ag [vi a0.Sectors, VV.tr (List.map v_41 a0.Values) a0.Values.length]] (vi r568)) ∧ (True) ∧ True) ∧ (((True) ∧ (True) ∧ True) ∧ (((!(decide (r568 = 0))) = true) ∧ (((True) ∧ (True) ∧ (True) ∧ (True) ∧ True) ∧ (True)))))) ∧ ((True ∧ ((True) ∧ ((True) ∧ (True)))) ∧ ((True) ∧ (True))))) (r0 := VV.tu [VV.ag [vi 0, vi 0], vi r568]) (ans := [.reg [.n, .n, .n], .reg [.n, .call (vi r568), .n], .reg [.n, .n], .br true, .reg [.n, .n, .n, .n]]) (fr := true) (by kernel_rfl) ⟨⟨⟨trivial, ⟨trivial, ⟨trivial, trivial⟩⟩⟩, ⟨⟨trivial, ⟨(VC.args (nprofile_CheckTurned_ok k (⟨a0.Sectors, a0.Values⟩ : STurnedMaps) _ h569) (by simp only [drop0, unfr_vi, List.length_map, List.length_replicate, List.length_append, List.length_set, List.length_cons, List.length_nil, unfr_v_41, unfr_f_41, unfr_c_SFrac])), ⟨trivial, trivial⟩⟩⟩, ⟨⟨trivial, ⟨trivial, trivial⟩⟩, ⟨(not_t (decide_eq_false h570)), ⟨⟨trivial, ⟨trivial, ⟨trivial, ⟨trivial, trivial⟩⟩⟩⟩, trivial⟩⟩⟩⟩⟩, ⟨⟨trivial, ⟨trivial, ⟨trivial, trivial⟩⟩⟩, ⟨trivial, trivial⟩⟩⟩ (Wv.of_eq (by simp only [drop0, unfr_vi, List.length_map, List.length_replicate, List.length_append, List.length_set, List.length_cons, List.length_nil, unfr_v_41, unfr_f_41, unfr_c_SFrac]))
def nspeculumbase_CopyInts (k : Nat) (a0 : (List Int)) : Option (List Int) :=
  if ([] : List Int).length + a0.length ≤ 1000000000 then (some (([] : List Int) ++ a0)) else none
set_option maxRecDepth 100000 in
set_option maxHeartbeats 4000000 in
theorem nspeculumbase_CopyInts_ok (k : Nat) (a0 : (List Int)) (r : (List Int)) (h : nspeculumbase_CopyInts k a0 = some r) : VC Go.Proofs.Try.prog 22 [VV.tr (List.map vi a0) a0.length] (VV.fr (List.map vi r) r.length) := by
  unfold nspeculumbase_CopyInts at h
  by_cases h648 : ([] : List Int).length + a0.length ≤ 1000000000
  · rw [if_pos h648] at h
    injection h with h; subst h
    exact fun_ok pm pn Go.Proofs.Try.func22 (q := ((((True) ∧ True) ∧ (((True) ∧ (True) ∧ (List.length [] = 0 * 1 ∧ List.length (List.map vi a0) = a0.length * 1 ∧ (0 + a0.length) * 8 ≤ 140737488355328 ∧ 0 + a0.length < 1099511627776 ∧ List.all (List.map vi a0) VV.still = true) ∧ (True) ∧ True) ∧ (True))) ∧ ((List.all ([] ++ (List.map vi a0)) new0 = true) ∧ (True)))) (r0 := VV.fr (List.drop 0 (List.map unfr ([] ++ (List.map vi a0)))) (0 + a0.length)) (ans := [.reg [.n], .reg [.n, .n, .n, .n]]) (fr := true) (by kernel_rfl) ⟨⟨⟨trivial, trivial⟩, ⟨⟨trivial, ⟨trivial, ⟨⟨(by rw [show [] = List.map vi ([] : List Int) from rfl]; simp), (by simp), by simp at h648 ⊢; omega, by simp at h648 ⊢; omega, (by exact still_vi _)⟩, ⟨trivial, trivial⟩⟩⟩⟩, trivial⟩⟩, ⟨(by rw [show [] ++ (List.map vi a0) = List.map vi (([] : List Int) ++ a0) from (by rw [show [] = List.map vi ([] : List Int) from rfl]; exact List.map_append.symm)]; exact new0_vi _), trivial⟩⟩ (Wv.of_eq (by simp only [show [] ++ (List.map vi a0) = List.map vi (([] : List Int) ++ a0) from (by rw [show [] = List.map vi ([] : List Int) from rfl]; exact List.map_append.symm), drop0, unfr_vi, List.length_map, List.length_replicate, List.length_append, List.length_set, List.length_cons, List.length_nil, unfr_v_41, unfr_f_41, unfr_c_SFrac]))
  · rw [if_neg h648] at h; cases h
def nspeculumbase_CopyLists_l0_0 (k : Nat) (a0 : (List (List Int))) : Nat → (List (List Int)) → Int → Option ((List (List Int)))
  | 0, _, _ => none
  | fuel + 1, y0, x4 => if x4 < (a0.length : Int) then (if 0 ≤ x4 ∧ x4 < (a0.length : Int) then ((nspeculumbase_CopyInts k (a0.getD x4.toNat default)).bind fun r686 => (if y0.length + ([r686] : List (List Int)).length ≤ 1000000000 then (nspeculumbase_CopyLists_l0_0 k a0 fuel (y0 ++ ([r686] : List (List Int))) (w64 (x4 + 1))) else none)) else none) else (some y0)
set_option maxRecDepth 100000 in
set_option maxHeartbeats 4000000 in
theorem nspeculumbase_CopyLists_l0_0_ok (k : Nat) (a0 : (List (List Int))) : ∀ (fuel : Nat) (y0 : List (List Int)) (x4 : Int) (r : (List (List Int))), nspeculumbase_CopyLists_l0_0 k a0 fuel y0 x4 = some r → (VLoop none Go.Proofs.Try.prog (szF Go.Proofs.Try.f21) (bodyOf Go.Proofs.Try.f21 0) ⟨mkA [(0, VV.tr (List.map v_41 a0) a0.length), (3, VV.rf 0 0 y0.length), (4, vi x4)], [some ⟨false, 1, List.map f_41 y0⟩], .nil⟩ (.exit 0) ⟨mkA [(3, VV.rf 0 0 r.length)], [some ⟨false, 1, List.map f_41 r⟩], .nil⟩) := by
  intro fuel
  induction fuel with
  | zero => intro y0 x4 r h; rw [nspeculumbase_CopyLists_l0_0.eq_1] at h; cases h
  | succ fuel ih =>
    intro y0 x4 r h
    rw [nspeculumbase_CopyLists_l0_0.eq_2] at h
    by_cases h684 : x4 < (a0.length : Int)
    · rw [if_pos h684] at h
      by_cases h685 : 0 ≤ x4 ∧ x4 < (a0.length : Int)
      · rw [if_pos h685] at h
        cases h687 : nspeculumbase_CopyInts k (a0.getD x4.toNat default) with
        | none => rw [h687] at h; cases h
        | some r686 =>
          rw [h687, Option.bind_some] at h
          by_cases h688 : y0.length + ([r686] : List (List Int)).length ≤ 1000000000
          · rw [if_pos h688] at h
            have h2 := ih _ _ _ h
            have hv : vRound none Go.Proofs.Try.prog Go.Proofs.Try.f21 0 ⟨mkA [(0, VV.tr (List.map v_41 a0) a0.length), (3, VV.rf 0 0 y0.length), (4, vi x4)], [some ⟨false, 1, List.map f_41 y0⟩], .nil⟩ [.reg [.n, .n, .n, .n], .br true, .reg [.n, .n, .n, .n, .v (VV.tr (List.map vi (a0.getD x4.toNat default)) ((a0.getD x4.toNat default).length)), .call (VV.fr (List.map vi r686) r686.length), .n, .n, .n], .reg [.n, .n, .n]] ⟨[(0, none), (3, some (VV.rf 0 0 ((y0 ++ ([r686] : List (List Int))).length))), (4, none)], [some (List.map f_41 (y0 ++ ([r686] : List (List Int))))], []⟩ = some (.normal, ⟨mkA [(0, VV.tr (List.map v_41 a0) a0.length), (3, VV.rf 0 0 ((y0 ++ ([r686] : List (List Int))).length)), (4, vi (w64 (x4 + 1)))], [some ⟨false, 1, List.map f_41 (y0 ++ ([r686] : List (List Int)))⟩], .nil⟩, ((((True) ∧ (True) ∧ (True) ∧ (True) ∧ True) ∧ (((decide (x4 < (a0.length : Int))) = true) ∧ (True))) ∧ (((True) ∧ (True) ∧ (True) ∧ (0 ≤ x4 ∧ x4 < ((a0.length : Nat) : Int)) ∧ (loadL Go.Proofs.Try.prog 41 (x4.toNat * 1) (List.map v_41 a0) = some (VV.tr (List.map vi (a0.getD x4.toNat default)) ((a0.getD x4.toNat default).length))) ∧ (VC Go.Proofs.Try.prog 22 [VV.tr (List.map vi (a0.getD x4.toNat default)) ((a0.getD x4.toNat default).length)] (VV.fr (List.map vi r686) r686.length)) ∧ (True) ∧ (List.length (List.map f_41 y0) = y0.length * 1 ∧ List.length [VV.fr (List.map vi r686) r686.length] = 1 * 1 ∧ (y0.length + 1) * 24 ≤ 140737488355328 ∧ y0.length + 1 < 1099511627776 ∧ List.all [VV.fr (List.map vi r686) r686.length] VV.still = true) ∧ (True) ∧ True) ∧ ((True) ∧ (True) ∧ (True) ∧ True))) ∧ (((Wv (VV.rf 0 0 (y0.length + 1)) (VV.rf 0 0 ((y0 ++ ([r686] : List (List Int))).length))) ∧ (True)) ∧ (((List.map f_41 y0) ++ [VV.fr (List.map vi r686) r686.length] = List.map f_41 (y0 ++ ([r686] : List (List Int)))) ∧ (True)))) := by kernel_rfl
            have hq : ((((True) ∧ (True) ∧ (True) ∧ (True) ∧ True) ∧ (((decide (x4 < (a0.length : Int))) = true) ∧ (True))) ∧ (((True) ∧ (True) ∧ (True) ∧ (0 ≤ x4 ∧ x4 < ((a0.length : Nat) : Int)) ∧ (loadL Go.Proofs.Try.prog 41 (x4.toNat * 1) (List.map v_41 a0) = some (VV.tr (List.map vi (a0.getD x4.toNat default)) ((a0.getD x4.toNat default).length))) ∧ (VC Go.Proofs.Try.prog 22 [VV.tr (List.map vi (a0.getD x4.toNat default)) ((a0.getD x4.toNat default).length)] (VV.fr (List.map vi r686) r686.length)) ∧ (True) ∧ (List.length (List.map f_41 y0) = y0.length * 1 ∧ List.length [VV.fr (List.map vi r686) r686.length] = 1 * 1 ∧ (y0.length + 1) * 24 ≤ 140737488355328 ∧ y0.length + 1 < 1099511627776 ∧ List.all [VV.fr (List.map vi r686) r686.length] VV.still = true) ∧ (True) ∧ True) ∧ ((True) ∧ (True) ∧ (True) ∧ True))) ∧ (((Wv (VV.rf 0 0 (y0.length + 1)) (VV.rf 0 0 ((y0 ++ ([r686] : List (List Int))).length))) ∧ (True)) ∧ (((List.map f_41 y0) ++ [VV.fr (List.map vi r686) r686.length] = List.map f_41 (y0 ++ ([r686] : List (List Int)))) ∧ (True))) := ⟨⟨⟨⟨trivial, ⟨trivial, ⟨trivial, ⟨trivial, trivial⟩⟩⟩⟩, ⟨(decide_eq_true h684), trivial⟩⟩, ⟨⟨trivial, ⟨trivial, ⟨trivial, ⟨h685, ⟨ld_map ag41 v_41 a0 default h685 (by omega), ⟨nspeculumbase_CopyInts_ok k (a0.getD x4.toNat default) _ h687, ⟨trivial, ⟨⟨(by simp), (by rw [show [VV.fr (List.map vi r686) r686.length] = List.map f_41 ([r686] : List (List Int)) from rfl]; simp), by simp at h688 ⊢; omega, by simp at h688 ⊢; omega, (by rw [show [VV.fr (List.map vi r686) r686.length] = List.map f_41 ([r686] : List (List Int)) from rfl]; exact still_f_41 _)⟩, ⟨trivial, trivial⟩⟩⟩⟩⟩⟩⟩⟩⟩, ⟨trivial, ⟨trivial, ⟨trivial, trivial⟩⟩⟩⟩⟩, ⟨⟨(Wv.of_eq (by simp)), trivial⟩, ⟨(by rw [show [VV.fr (List.map vi r686) r686.length] = List.map f_41 ([r686] : List (List Int)) from rfl]; exact List.map_append.symm), trivial⟩⟩⟩
            exact round_next pm pn hv hq h2
          · rw [if_neg h688] at h; cases h
      · rw [if_neg h685] at h; cases h
    · rw [if_neg h684] at h
      injection h with h; subst h
      exact round_stop (c := ⟨[(3, none)], [none], []⟩) (q := (((True) ∧ (True) ∧ (True) ∧ (True) ∧ True) ∧ (((decide (x4 < (a0.length : Int))) = false) ∧ (True))) ∧ (((True)) ∧ ((True)))) (s1 := ⟨mkA [(3, VV.rf 0 0 y0.length)], [some ⟨false, 1, List.map f_41 y0⟩], .nil⟩) pm pn (ans := [.reg [.n, .n, .n, .n], .br false]) (by kernel_rfl) (by intro e; cases e) ⟨⟨⟨trivial, ⟨trivial, ⟨trivial, ⟨trivial, trivial⟩⟩⟩⟩, ⟨(decide_eq_false h684), trivial⟩⟩, ⟨trivial, trivial⟩⟩
def nspeculumbase_CopyLists (k : Nat) (a0 : (List (List Int))) : Option (List (List Int)) :=
  (nspeculumbase_CopyLists_l0_0 k a0 k ([] : List (List Int)) 0).bind fun r690 => (some r690)
set_option maxRecDepth 100000 in
set_option maxHeartbeats 4000000 in
theorem nspeculumbase_CopyLists_ok (k : Nat) (a0 : (List (List Int))) (r : (List (List Int))) (h : nspeculumbase_CopyLists k a0 = some r) : VC Go.Proofs.Try.prog 21 [VV.tr (List.map v_41 a0) a0.length] (VV.fr (List.map v_41 r) r.length) := by
  unfold nspeculumbase_CopyLists at h
  cases h689 : nspeculumbase_CopyLists_l0_0 k a0 k ([] : List (List Int)) 0 with
  | none => rw [h689] at h; cases h
  | some r690 =>
    rw [h689, Option.bind_some] at h
    have hph689 := nspeculumbase_CopyLists_l0_0_ok k a0 _ _ _ _ h689
    injection h with h; subst h
    exact fun_ok pm pn Go.Proofs.Try.func21 (q := ((((True) ∧ True) ∧ (((True) ∧ True) ∧ ((((True) ∧ True) ∧ (((((True)) ∧ ((True))) ∧ VRun none Go.Proofs.Try.prog (szF Go.Proofs.Try.f21) (.loop (bodyOf Go.Proofs.Try.f21 0)) ⟨mkA [(0, VV.tr (List.map v_41 a0) a0.length), (3, VV.rf 0 0 (([] : List (List Int)).length)), (4, vi 0)], [some ⟨false, 1, List.map f_41 ([] : List (List Int))⟩], .nil⟩ (.exit 0) ⟨mkA [(3, VV.rf 0 0 r690.length)], [some ⟨false, 1, List.map f_41 r690⟩], .nil⟩))) ∧ (((True) ∧ (True) ∧ True) ∧ (True))))) ∧ ((List.all (List.map f_41 r690) new0 = true) ∧ (True)))) (r0 := VV.fr (List.drop 0 (List.map unfr (List.map f_41 r690))) r690.length) (ans := [.reg [.n], .reg [.n], .reg [.n], .sub ⟨[(0, none), (3, none), (4, none)], [], [(3, 1)]⟩ (.exit 0) ⟨mkA [(3, VV.rf 0 0 r690.length)], [some ⟨false, 1, List.map f_41 r690⟩], .nil⟩, .reg [.n, .n]]) (fr := true) (by kernel_rfl) ⟨⟨⟨trivial, trivial⟩, ⟨⟨trivial, trivial⟩, ⟨⟨⟨trivial, trivial⟩, ⟨⟨trivial, trivial⟩, VRun.loop hph689⟩⟩, ⟨⟨trivial, ⟨trivial, trivial⟩⟩, trivial⟩⟩⟩⟩, ⟨(by exact new0_f_41 _), trivial⟩⟩ (Wv.of_eq (by simp only [drop0, unfr_vi, List.length_map, List.length_replicate, List.length_append, List.length_set, List.length_cons, List.length_nil, unfr_v_41, unfr_f_41, unfr_c_SFrac]))
end Go.Proofs.Ytbgdjjnkgjjffaa.Vg

/- Written by a program out of the program: what Go functions do, as plain functions, and their contracts. -/
import Derived.Test.YtlhkkbdfdkjlcaaVp
namespace Go.Proofs.Ytlhkkbdfdkjlcaa.Vg
set_option linter.unusedVariables false
set_option linter.unusedSimpArgs false
open Go Go.Proofs.Ytlhkkbdfdkjlcaa.Ev Go.Proofs.Ytlhkkbdfdkjlcaa.Vv
structure SRange where
  Lo : Int
  Hi : Int
  deriving Inhabited
def c_SRange (x : SRange) : List VV := [vi x.Lo, vi x.Hi]
theorem len_c_SRange (x : SRange) : (c_SRange x).length = 2 := rfl
theorem still_c_SRange (xs : List SRange) : (xs.flatMap c_SRange).all VV.still = true := all_flat (fun _ => rfl) xs
theorem isC_c_SRange (xs : List SRange) : (xs.flatMap c_SRange).all VV.isC = true := all_flat (fun _ => rfl) xs
theorem new0_c_SRange (xs : List SRange) : (xs.flatMap c_SRange).all new0 = true := all_flat (fun _ => rfl) xs
theorem unfr_c_SRange (xs : List SRange) : (xs.flatMap c_SRange).map unfr = xs.flatMap c_SRange := unfr_flat (fun _ => rfl) xs
structure SFigureTolerance where
  Peak : Int
  Slope : Int
  deriving Inhabited
def c_SFigureTolerance (x : SFigureTolerance) : List VV := [vi x.Peak, vi x.Slope]
theorem len_c_SFigureTolerance (x : SFigureTolerance) : (c_SFigureTolerance x).length = 2 := rfl
theorem still_c_SFigureTolerance (xs : List SFigureTolerance) : (xs.flatMap c_SFigureTolerance).all VV.still = true := all_flat (fun _ => rfl) xs
theorem isC_c_SFigureTolerance (xs : List SFigureTolerance) : (xs.flatMap c_SFigureTolerance).all VV.isC = true := all_flat (fun _ => rfl) xs
theorem new0_c_SFigureTolerance (xs : List SFigureTolerance) : (xs.flatMap c_SFigureTolerance).all new0 = true := all_flat (fun _ => rfl) xs
theorem unfr_c_SFigureTolerance (xs : List SFigureTolerance) : (xs.flatMap c_SFigureTolerance).map unfr = xs.flatMap c_SFigureTolerance := unfr_flat (fun _ => rfl) xs
theorem ag3 : isAggT Go.Proofs.Try.prog 3 = some false := by kernel_rfl
theorem ag39 : isAggT Go.Proofs.Try.prog 39 = some true := by kernel_rfl
theorem sz39 : szOf Go.Proofs.Try.prog 39 = some 2 := by kernel_rfl
def nfigure_isWithin (k : Nat) (a0 : Int) (a1 : Int) (a2 : Int) : Option Bool :=
  if a1 ≤ a0 then (some (decide (a0 ≤ a2))) else (some false)
set_option maxRecDepth 100000 in
set_option maxHeartbeats 4000000 in
theorem nfigure_isWithin_ok (k : Nat) (a0 : Int) (a1 : Int) (a2 : Int) (r : Bool) (h : nfigure_isWithin k a0 a1 a2 = some r) : VC Go.Proofs.Try.prog 65 [vi a0, vi a1, vi a2] (vb r) := by
  unfold nfigure_isWithin at h
  by_cases h2 : a1 ≤ a0
  · rw [if_pos h2] at h
    injection h with h; subst h
    exact fun_ok pm pn Go.Proofs.Try.func65 (q := ((((True) ∧ True) ∧ (((True) ∧ (True) ∧ (True) ∧ (True) ∧ (((decide (a1 ≤ a0)) = true ∧ True)) ∧ (((decide (a1 ≤ a0)) = true ∧ True)) ∧ (((decide (a1 ≤ a0)) = true ∧ True)) ∧ ((decide (a1 ≤ a0)) = true) ∧ (True) ∧ True) ∧ (True))) ∧ ((True) ∧ (True)))) (r0 := vb (decide (a0 ≤ a2))) (ans := [.reg [.n], .reg [.n, .n, .n, .n, .n, .n, .n, .b true, .n]]) (fr := true) (by kernel_rfl) ⟨⟨⟨trivial, trivial⟩, ⟨⟨trivial, ⟨trivial, ⟨trivial, ⟨trivial, ⟨⟨(decide_eq_true h2), trivial⟩, ⟨⟨(decide_eq_true h2), trivial⟩, ⟨⟨(decide_eq_true h2), trivial⟩, ⟨(decide_eq_true h2), ⟨trivial, trivial⟩⟩⟩⟩⟩⟩⟩⟩⟩, trivial⟩⟩, ⟨trivial, trivial⟩⟩ (Wv.refl _)
  · rw [if_neg h2] at h
    injection h with h; subst h
    exact fun_ok pm pn Go.Proofs.Try.func65 (q := ((((True) ∧ True) ∧ (((True) ∧ (True) ∧ (True) ∧ (True) ∧ ((decide (a1 ≤ a0)) = !true) ∧ ((decide (a1 ≤ a0)) = !true) ∧ ((decide (a1 ≤ a0)) = !true) ∧ ((decide (a1 ≤ a0)) = false) ∧ (True) ∧ True) ∧ (True))) ∧ ((True) ∧ (True)))) (r0 := vb false) (ans := [.reg [.n], .reg [.n, .n, .n, .n, .skip, .skip, .skip, .b false, .n]]) (fr := true) (by kernel_rfl) ⟨⟨⟨trivial, trivial⟩, ⟨⟨trivial, ⟨trivial, ⟨trivial, ⟨trivial, ⟨(decide_eq_false h2), ⟨(decide_eq_false h2), ⟨(decide_eq_false h2), ⟨(decide_eq_false h2), ⟨trivial, trivial⟩⟩⟩⟩⟩⟩⟩⟩⟩, trivial⟩⟩, ⟨trivial, trivial⟩⟩ (Wv.refl _)
def nfigure_areHeights_l0_0 (k : Nat) (a0 : (List Int)) : Nat → Int → Option (Sum Unit Unit)
  | 0, _ => none
  | fuel + 1, x7 => if x7 < (a0.length : Int) then (if 0 ≤ x7 ∧ x7 < (a0.length : Int) then ((nfigure_isWithin k (a0.getD x7.toNat 0) (-100000) 100000).bind fun r39 => (if r39 = true then (nfigure_areHeights_l0_0 k a0 fuel (w64 (x7 + 1))) else (some (.inl ())))) else none) else (some (.inr ()))
set_option maxRecDepth 100000 in
set_option maxHeartbeats 4000000 in
theorem nfigure_areHeights_l0_0_ok (k : Nat) (a0 : (List Int)) : ∀ (fuel : Nat) (x7 : Int) (r : Sum Unit Unit), nfigure_areHeights_l0_0 k a0 fuel x7 = some r → (match r with | .inl r => VLoop none Go.Proofs.Try.prog (szF Go.Proofs.Try.f69) (bodyOf Go.Proofs.Try.f69 0) ⟨mkA [(5, VV.tr (List.map vi a0) a0.length), (6, vi (a0.length : Int)), (7, vi x7)], [], .nil⟩ .ret ⟨mkA [(2, vb false)], [], .nil⟩ | .inr r => VLoop none Go.Proofs.Try.prog (szF Go.Proofs.Try.f69) (bodyOf Go.Proofs.Try.f69 0) ⟨mkA [(5, VV.tr (List.map vi a0) a0.length), (6, vi (a0.length : Int)), (7, vi x7)], [], .nil⟩ (.exit 0) ⟨mkA [], [], .nil⟩) := by
  intro fuel
  induction fuel with
  | zero => intro x7 r h; rw [nfigure_areHeights_l0_0.eq_1] at h; cases h
  | succ fuel ih =>
    intro x7 r h
    rw [nfigure_areHeights_l0_0.eq_2] at h
    by_cases h37 : x7 < (a0.length : Int)
    · rw [if_pos h37] at h
      by_cases h38 : 0 ≤ x7 ∧ x7 < (a0.length : Int)
      · rw [if_pos h38] at h
        cases h40 : nfigure_isWithin k (a0.getD x7.toNat 0) (-100000) 100000 with
        | none => rw [h40] at h; cases h
        | some r39 =>
          rw [h40, Option.bind_some] at h
          by_cases h41 : r39 = true
          · rw [if_pos h41] at h
            have h2 := ih _ _ h
            have hv : vRound none Go.Proofs.Try.prog Go.Proofs.Try.f69 0 ⟨mkA [(5, VV.tr (List.map vi a0) a0.length), (6, vi (a0.length : Int)), (7, vi x7)], [], .nil⟩ [.reg [.n], .br true, .reg [.n, .v (vi (a0.getD x7.toNat 0)), .n], .reg [.n, .call (vb r39), .n], .br false, .reg [.n, .n]] ⟨[(5, none), (6, none), (7, none)], [], []⟩ = some (.normal, ⟨mkA [(5, VV.tr (List.map vi a0) a0.length), (6, vi (a0.length : Int)), (7, vi (w64 (x7 + 1)))], [], .nil⟩, (((True) ∧ True) ∧ ((((decide (x7 < (a0.length : Int))) = true) ∧ (True)) ∧ ((((0 ≤ x7 ∧ x7 < ((a0.length : Nat) : Int)) ∧ (loadL Go.Proofs.Try.prog 3 (x7.toNat * 1) (List.map vi a0) = some (vi (a0.getD x7.toNat 0))) ∧ (True) ∧ True) ∧ (((True) ∧ (VC Go.Proofs.Try.prog 65 [vi (a0.getD x7.toNat 0), vi (-100000), vi 100000] (vb r39)) ∧ (True) ∧ True) ∧ (((!r39) = false) ∧ (True)))) ∧ ((True) ∧ (True) ∧ True)))) ∧ (((True)) ∧ ((True)))) := by kernel_rfl
            have hq : (((True) ∧ True) ∧ ((((decide (x7 < (a0.length : Int))) = true) ∧ (True)) ∧ ((((0 ≤ x7 ∧ x7 < ((a0.length : Nat) : Int)) ∧ (loadL Go.Proofs.Try.prog 3 (x7.toNat * 1) (List.map vi a0) = some (vi (a0.getD x7.toNat 0))) ∧ (True) ∧ True) ∧ (((True) ∧ (VC Go.Proofs.Try.prog 65 [vi (a0.getD x7.toNat 0), vi (-100000), vi 100000] (vb r39)) ∧ (True) ∧ True) ∧ (((!r39) = false) ∧ (True)))) ∧ ((True) ∧ (True) ∧ True)))) ∧ (((True)) ∧ ((True))) := ⟨⟨⟨trivial, trivial⟩, ⟨⟨(decide_eq_true h37), trivial⟩, ⟨⟨⟨h38, ⟨ld_map ag3 vi a0 0 h38 (by omega), ⟨trivial, trivial⟩⟩⟩, ⟨⟨trivial, ⟨nfigure_isWithin_ok k (a0.getD x7.toNat 0) (-100000) 100000 _ h40, ⟨trivial, trivial⟩⟩⟩, ⟨(not_f h41), trivial⟩⟩⟩, ⟨trivial, ⟨trivial, trivial⟩⟩⟩⟩⟩, ⟨trivial, trivial⟩⟩
            cases r with
            | inl r => exact round_next pm pn hv hq h2
            | inr r =>
              exact round_next pm pn hv hq h2
          · rw [if_neg h41] at h
            injection h with h; subst h
            exact round_stop (c := ⟨[(2, none)], [], []⟩) (q := (((True) ∧ True) ∧ ((((decide (x7 < (a0.length : Int))) = true) ∧ (True)) ∧ (((0 ≤ x7 ∧ x7 < ((a0.length : Nat) : Int)) ∧ (loadL Go.Proofs.Try.prog 3 (x7.toNat * 1) (List.map vi a0) = some (vi (a0.getD x7.toNat 0))) ∧ (True) ∧ True) ∧ (((True) ∧ (VC Go.Proofs.Try.prog 65 [vi (a0.getD x7.toNat 0), vi (-100000), vi 100000] (vb r39)) ∧ (True) ∧ True) ∧ (((!r39) = true) ∧ (((True) ∧ True) ∧ (True))))))) ∧ (((True)) ∧ ((True)))) (s1 := ⟨mkA [(2, vb false)], [], .nil⟩) pm pn (ans := [.reg [.n], .br true, .reg [.n, .v (vi (a0.getD x7.toNat 0)), .n], .reg [.n, .call (vb r39), .n], .br true, .reg [.n]]) (by kernel_rfl) (by intro e; cases e) ⟨⟨⟨trivial, trivial⟩, ⟨⟨(decide_eq_true h37), trivial⟩, ⟨⟨h38, ⟨ld_map ag3 vi a0 0 h38 (by omega), ⟨trivial, trivial⟩⟩⟩, ⟨⟨trivial, ⟨nfigure_isWithin_ok k (a0.getD x7.toNat 0) (-100000) 100000 _ h40, ⟨trivial, trivial⟩⟩⟩, ⟨(not_t (bool_f h41)), ⟨⟨trivial, trivial⟩, trivial⟩⟩⟩⟩⟩⟩, ⟨trivial, trivial⟩⟩
      · rw [if_neg h38] at h; cases h
    · rw [if_neg h37] at h
      injection h with h; subst h
      exact round_stop (c := ⟨[], [], []⟩) (q := (((True) ∧ True) ∧ (((decide (x7 < (a0.length : Int))) = false) ∧ (True))) ∧ (((True)) ∧ ((True)))) (s1 := ⟨mkA [], [], .nil⟩) pm pn (ans := [.reg [.n], .br false]) (by kernel_rfl) (by intro e; cases e) ⟨⟨⟨trivial, trivial⟩, ⟨(decide_eq_false h37), trivial⟩⟩, ⟨trivial, trivial⟩⟩
def nfigure_areHeights (k : Nat) (a0 : (List Int)) : Option Bool :=
  (nfigure_areHeights_l0_0 k a0 k 0).bind fun r43 => (match r43 with | .inl r44 => (some false) | .inr r45 => (some true))
set_option maxRecDepth 100000 in
set_option maxHeartbeats 4000000 in
theorem nfigure_areHeights_ok (k : Nat) (a0 : (List Int)) (r : Bool) (h : nfigure_areHeights k a0 = some r) : VC Go.Proofs.Try.prog 69 [VV.tr (List.map vi a0) a0.length] (vb r) := by
  unfold nfigure_areHeights at h
  cases h42 : nfigure_areHeights_l0_0 k a0 k 0 with
  | none => rw [h42] at h; cases h
  | some r43 =>
    rw [h42, Option.bind_some] at h
    have hph42 := nfigure_areHeights_l0_0_ok k a0 _ _ _ h42
    cases r43 with
    | inl r44 =>
      dsimp only at h
      injection h with h; subst h
      exact fun_ok pm pn Go.Proofs.Try.func69 (q := ((((True) ∧ True) ∧ (((True) ∧ (True) ∧ (True) ∧ True) ∧ (((((True)) ∧ ((True))) ∧ VRun none Go.Proofs.Try.prog (szF Go.Proofs.Try.f69) (.loop (bodyOf Go.Proofs.Try.f69 0)) ⟨mkA [(5, VV.tr (List.map vi a0) a0.length), (6, vi (a0.length : Int)), (7, vi 0)], [], .nil⟩ .ret ⟨mkA [(2, vb false)], [], .nil⟩)))) ∧ ((True) ∧ (True)))) (r0 := vb false) (ans := [.reg [.n], .reg [.n, .n, .n], .sub ⟨[(5, none), (6, none), (7, none)], [], []⟩ .ret ⟨mkA [(2, vb false)], [], .nil⟩]) (fr := true) (by kernel_rfl) ⟨⟨⟨trivial, trivial⟩, ⟨⟨trivial, ⟨trivial, ⟨trivial, trivial⟩⟩⟩, ⟨⟨trivial, trivial⟩, VRun.loop hph42⟩⟩⟩, ⟨trivial, trivial⟩⟩ (Wv.refl _)
    | inr r45 =>
      dsimp only at h
      injection h with h; subst h
      exact fun_ok pm pn Go.Proofs.Try.func69 (q := ((((True) ∧ True) ∧ ((((True) ∧ (True) ∧ (True) ∧ True) ∧ (((((True)) ∧ ((True))) ∧ VRun none Go.Proofs.Try.prog (szF Go.Proofs.Try.f69) (.loop (bodyOf Go.Proofs.Try.f69 0)) ⟨mkA [(5, VV.tr (List.map vi a0) a0.length), (6, vi (a0.length : Int)), (7, vi 0)], [], .nil⟩ (.exit 0) ⟨mkA [], [], .nil⟩))) ∧ (((True) ∧ True) ∧ (True)))) ∧ ((True) ∧ (True)))) (r0 := vb true) (ans := [.reg [.n], .reg [.n, .n, .n], .sub ⟨[(5, none), (6, none), (7, none)], [], []⟩ (.exit 0) ⟨mkA [], [], .nil⟩, .reg [.n]]) (fr := true) (by kernel_rfl) ⟨⟨⟨trivial, trivial⟩, ⟨⟨⟨trivial, ⟨trivial, ⟨trivial, trivial⟩⟩⟩, ⟨⟨trivial, trivial⟩, VRun.loop hph42⟩⟩, ⟨⟨trivial, trivial⟩, trivial⟩⟩⟩, ⟨trivial, trivial⟩⟩ (Wv.refl _)
def nfigure_CheckEnclosure_l0_0 (k : Nat) (a0 : (List SRange)) : Nat → Int → Option (Sum Int Unit)
  | 0, _ => none
  | fuel + 1, x11 => if x11 < (a0.length : Int) then (if 0 ≤ x11 ∧ x11 < (a0.length : Int) then ((nfigure_areHeights k ([(a0.getD x11.toNat default).Lo, (a0.getD x11.toNat default).Hi] : List Int)).bind fun r83 => (if r83 = true then (if ((a0.getD x11.toNat default).Hi) < ((a0.getD x11.toNat default).Lo) then (some (.inl 9)) else (nfigure_CheckEnclosure_l0_0 k a0 fuel (w64 (x11 + 1)))) else (some (.inl 2)))) else none) else (some (.inr ()))
set_option maxRecDepth 100000 in
set_option maxHeartbeats 4000000 in
theorem nfigure_CheckEnclosure_l0_0_ok (k : Nat) (a0 : (List SRange)) : ∀ (fuel : Nat) (x11 : Int) (r : Sum Int Unit), nfigure_CheckEnclosure_l0_0 k a0 fuel x11 = some r → (match r with | .inl r => VLoop none Go.Proofs.Try.prog (szF Go.Proofs.Try.f24) (bodyOf Go.Proofs.Try.f24 0) ⟨mkA [(9, VV.tr (List.flatMap c_SRange a0) a0.length), (10, vi (a0.length : Int)), (11, vi x11)], [], .nil⟩ .ret ⟨mkA [(2, vi r)], [], .nil⟩ | .inr r => VLoop none Go.Proofs.Try.prog (szF Go.Proofs.Try.f24) (bodyOf Go.Proofs.Try.f24 0) ⟨mkA [(9, VV.tr (List.flatMap c_SRange a0) a0.length), (10, vi (a0.length : Int)), (11, vi x11)], [], .nil⟩ (.exit 0) ⟨mkA [], [], .nil⟩) := by
  intro fuel
  induction fuel with
  | zero => intro x11 r h; rw [nfigure_CheckEnclosure_l0_0.eq_1] at h; cases h
  | succ fuel ih =>
    intro x11 r h
    rw [nfigure_CheckEnclosure_l0_0.eq_2] at h
    by_cases h81 : x11 < (a0.length : Int)
    · rw [if_pos h81] at h
      by_cases h82 : 0 ≤ x11 ∧ x11 < (a0.length : Int)
      · rw [if_pos h82] at h
        cases h84 : nfigure_areHeights k ([(a0.getD x11.toNat default).Lo, (a0.getD x11.toNat default).Hi] : List Int) with
        | none => rw [h84] at h; cases h
        | some r83 =>
          rw [h84, Option.bind_some] at h
          by_cases h85 : r83 = true
          · rw [if_pos h85] at h
            by_cases h86 : ((a0.getD x11.toNat default).Hi) < ((a0.getD x11.toNat default).Lo)
            · rw [if_pos h86] at h
              injection h with h; subst h
              exact round_stop (c := ⟨[(2, none)], [], []⟩) (q := (((True) ∧ True) ∧ ((((decide (x11 < (a0.length : Int))) = true) ∧ (True)) ∧ (((0 ≤ x11 ∧ x11 < ((a0.length : Nat) : Int)) ∧ (loadL Go.Proofs.Try.prog 39 (x11.toNat * 2) (List.flatMap c_SRange a0) = some (VV.ag [vi ((a0.getD x11.toNat default).Lo), vi ((a0.getD x11.toNat default).Hi)])) ∧ (True) ∧ (True) ∧ True) ∧ ((((True) ∧ (True) ∧ (True) ∧ (True) ∧ (True) ∧ (VC Go.Proofs.Try.prog 69 [VV.tr (List.drop 0 (List.map unfr [vi ((a0.getD x11.toNat default).Lo), vi ((a0.getD x11.toNat default).Hi)])) 2] (vb r83)) ∧ (True) ∧ True) ∧ (((!r83) = false) ∧ (True))) ∧ (((True) ∧ (True) ∧ (True) ∧ (True) ∧ (True) ∧ True) ∧ (((decide (((a0.getD x11.toNat default).Hi) < ((a0.getD x11.toNat default).Lo))) = true) ∧ (((True) ∧ True) ∧ (True)))))))) ∧ (((True)) ∧ ((True)))) (s1 := ⟨mkA [(2, vi 9)], [], .nil⟩) pm pn (ans := [.reg [.n], .br true, .reg [.n, .v (VV.ag [vi ((a0.getD x11.toNat default).Lo), vi ((a0.getD x11.toNat default).Hi)]), .n, .n], .reg [.n, .n, .n, .n, .n, .call (vb r83), .n], .br false, .reg [.n, .n, .n, .n, .n], .br true, .reg [.n]]) (by kernel_rfl) (by intro e; cases e) ⟨⟨⟨trivial, trivial⟩, ⟨⟨(decide_eq_true h81), trivial⟩, ⟨⟨h82, ⟨ld_whole ag39 c_SRange 2 sz39 len_c_SRange a0 default h82 (by omega), ⟨trivial, ⟨trivial, trivial⟩⟩⟩⟩, ⟨⟨⟨trivial, ⟨trivial, ⟨trivial, ⟨trivial, ⟨trivial, ⟨(VC.args (nfigure_areHeights_ok k ([(a0.getD x11.toNat default).Lo, (a0.getD x11.toNat default).Hi] : List Int) _ h84) (by simp only [show [vi ((a0.getD x11.toNat default).Lo), vi ((a0.getD x11.toNat default).Hi)] = List.map vi ([(a0.getD x11.toNat default).Lo, (a0.getD x11.toNat default).Hi] : List Int) from rfl, drop0, unfr_vi, List.length_map, List.length_replicate, List.length_append, List.length_set, List.length_cons, List.length_nil, unfr_c_SRange])), ⟨trivial, trivial⟩⟩⟩⟩⟩⟩⟩, ⟨(not_f h85), trivial⟩⟩, ⟨⟨trivial, ⟨trivial, ⟨trivial, ⟨trivial, ⟨trivial, trivial⟩⟩⟩⟩⟩, ⟨(decide_eq_true h86), ⟨⟨trivial, trivial⟩, trivial⟩⟩⟩⟩⟩⟩⟩, ⟨trivial, trivial⟩⟩
            · rw [if_neg h86] at h
              have h2 := ih _ _ h
              have hv : vRound none Go.Proofs.Try.prog Go.Proofs.Try.f24 0 ⟨mkA [(9, VV.tr (List.flatMap c_SRange a0) a0.length), (10, vi (a0.length : Int)), (11, vi x11)], [], .nil⟩ [.reg [.n], .br true, .reg [.n, .v (VV.ag [vi ((a0.getD x11.toNat default).Lo), vi ((a0.getD x11.toNat default).Hi)]), .n, .n], .reg [.n, .n, .n, .n, .n, .call (vb r83), .n], .br false, .reg [.n, .n, .n, .n, .n], .br false, .reg [.n, .n]] ⟨[(9, none), (10, none), (11, none)], [], []⟩ = some (.normal, ⟨mkA [(9, VV.tr (List.flatMap c_SRange a0) a0.length), (10, vi (a0.length : Int)), (11, vi (w64 (x11 + 1)))], [], .nil⟩, (((True) ∧ True) ∧ ((((decide (x11 < (a0.length : Int))) = true) ∧ (True)) ∧ ((((0 ≤ x11 ∧ x11 < ((a0.length : Nat) : Int)) ∧ (loadL Go.Proofs.Try.prog 39 (x11.toNat * 2) (List.flatMap c_SRange a0) = some (VV.ag [vi ((a0.getD x11.toNat default).Lo), vi ((a0.getD x11.toNat default).Hi)])) ∧ (True) ∧ (True) ∧ True) ∧ ((((True) ∧ (True) ∧ (True) ∧ (True) ∧ (True) ∧ (VC Go.Proofs.Try.prog 69 [VV.tr (List.drop 0 (List.map unfr [vi ((a0.getD x11.toNat default).Lo), vi ((a0.getD x11.toNat default).Hi)])) 2] (vb r83)) ∧ (True) ∧ True) ∧ (((!r83) = false) ∧ (True))) ∧ (((True) ∧ (True) ∧ (True) ∧ (True) ∧ (True) ∧ True) ∧ (((decide (((a0.getD x11.toNat default).Hi) < ((a0.getD x11.toNat default).Lo))) = false) ∧ (True))))) ∧ ((True) ∧ (True) ∧ True)))) ∧ (((True)) ∧ ((True)))) := by kernel_rfl
              have hq : (((True) ∧ True) ∧ ((((decide (x11 < (a0.length : Int))) = true) ∧ (True)) ∧ ((((0 ≤ x11 ∧ x11 < ((a0.length : Nat) : Int)) ∧ (loadL Go.Proofs.Try.prog 39 (x11.toNat * 2) (List.flatMap c_SRange a0) = some (VV.ag [vi ((a0.getD x11.toNat default).Lo), vi ((a0.getD x11.toNat default).Hi)])) ∧ (True) ∧ (True) ∧ True) ∧ ((((True) ∧ (True) ∧ (True) ∧ (True) ∧ (True) ∧ (VC Go.Proofs.Try.prog 69 [VV.tr (List.drop 0 (List.map unfr [vi ((a0.getD x11.toNat default).Lo), vi ((a0.getD x11.toNat default).Hi)])) 2] (vb r83)) ∧ (True) ∧ True) ∧ (((!r83) = false) ∧ (True))) ∧ (((True) ∧ (True) ∧ (True) ∧ (True) ∧ (True) ∧ True) ∧ (((decide (((a0.getD x11.toNat default).Hi) < ((a0.getD x11.toNat default).Lo))) = false) ∧ (True))))) ∧ ((True) ∧ (True) ∧ True)))) ∧ (((True)) ∧ ((True))) := ⟨⟨⟨trivial, trivial⟩, ⟨⟨(decide_eq_true h81), trivial⟩, ⟨⟨⟨h82, ⟨ld_whole ag39 c_SRange 2 sz39 len_c_SRange a0 default h82 (by omega), ⟨trivial, ⟨trivial, trivial⟩⟩⟩⟩, ⟨⟨⟨trivial, ⟨trivial, ⟨trivial, ⟨trivial, ⟨trivial, ⟨(VC.args (nfigure_areHeights_ok k ([(a0.getD x11.toNat default).Lo, (a0.getD x11.toNat default).Hi] : List Int) _ h84) (by simp only [show [vi ((a0.getD x11.toNat default).Lo), vi ((a0.getD x11.toNat default).Hi)] = List.map vi ([(a0.getD x11.toNat default).Lo, (a0.getD x11.toNat default).Hi] : List Int) from rfl, drop0, unfr_vi, List.length_map, List.length_replicate, List.length_append, List.length_set, List.length_cons, List.length_nil, unfr_c_SRange])), ⟨trivial, trivial⟩⟩⟩⟩⟩⟩⟩, ⟨(not_f h85), trivial⟩⟩, ⟨⟨trivial, ⟨trivial, ⟨trivial, ⟨trivial, ⟨trivial, trivial⟩⟩⟩⟩⟩, ⟨(decide_eq_false h86), trivial⟩⟩⟩⟩, ⟨trivial, ⟨trivial, trivial⟩⟩⟩⟩⟩, ⟨trivial, trivial⟩⟩
              cases r with
              | inl r => exact round_next pm pn hv hq h2
              | inr r =>
                exact round_next pm pn hv hq h2
          · rw [if_neg h85] at h
            injection h with h; subst h
            exact round_stop (c := ⟨[(2, none)], [], []⟩) (q := (((True) ∧ True) ∧ ((((decide (x11 < (a0.length : Int))) = true) ∧ (True)) ∧ (((0 ≤ x11 ∧ x11 < ((a0.length : Nat) : Int)) ∧ (loadL Go.Proofs.Try.prog 39 (x11.toNat * 2) (List.flatMap c_SRange a0) = some (VV.ag [vi ((a0.getD x11.toNat default).Lo), vi ((a0.getD x11.toNat default).Hi)])) ∧ (True) ∧ (True) ∧ True) ∧ (((True) ∧ (True) ∧ (True) ∧ (True) ∧ (True) ∧ (VC Go.Proofs.Try.prog 69 [VV.tr (List.drop 0 (List.map unfr [vi ((a0.getD x11.toNat default).Lo), vi ((a0.getD x11.toNat default).Hi)])) 2] (vb r83)) ∧ (True) ∧ True) ∧ (((!r83) = true) ∧ (((True) ∧ True) ∧ (True))))))) ∧ (((True)) ∧ ((True)))) (s1 := ⟨mkA [(2, vi 2)], [], .nil⟩) pm pn (ans := [.reg [.n], .br true, .reg [.n, .v (VV.ag [vi ((a0.getD x11.toNat default).Lo), vi ((a0.getD x11.toNat default).Hi)]), .n, .n], .reg [.n, .n, .n, .n, .n, .call (vb r83), .n], .br true, .reg [.n]]) (by kernel_rfl) (by intro e; cases e) ⟨⟨⟨trivial, trivial⟩, ⟨⟨(decide_eq_true h81), trivial⟩, ⟨⟨h82, ⟨ld_whole ag39 c_SRange 2 sz39 len_c_SRange a0 default h82 (by omega), ⟨trivial, ⟨trivial, trivial⟩⟩⟩⟩, ⟨⟨trivial, ⟨trivial, ⟨trivial, ⟨trivial, ⟨trivial, ⟨(VC.args (nfigure_areHeights_ok k ([(a0.getD x11.toNat default).Lo, (a0.getD x11.toNat default).Hi] : List Int) _ h84) (by simp only [show [vi ((a0.getD x11.toNat default).Lo), vi ((a0.getD x11.toNat default).Hi)] = List.map vi ([(a0.getD x11.toNat default).Lo, (a0.getD x11.toNat default).Hi] : List Int) from rfl, drop0, unfr_vi, List.length_map, List.length_replicate, List.length_append, List.length_set, List.length_cons, List.length_nil, unfr_c_SRange])), ⟨trivial, trivial⟩⟩⟩⟩⟩⟩⟩, ⟨(not_t (bool_f h85)), ⟨⟨trivial, trivial⟩, trivial⟩⟩⟩⟩⟩⟩, ⟨trivial, trivial⟩⟩
      · rw [if_neg h82] at h; cases h
    · rw [if_neg h81] at h
      injection h with h; subst h
      exact round_stop (c := ⟨[], [], []⟩) (q := (((True) ∧ True) ∧ (((decide (x11 < (a0.length : Int))) = false) ∧ (True))) ∧ (((True)) ∧ ((True)))) (s1 := ⟨mkA [], [], .nil⟩) pm pn (ans := [.reg [.n], .br false]) (by kernel_rfl) (by intro e; cases e) ⟨⟨⟨trivial, trivial⟩, ⟨(decide_eq_false h81), trivial⟩⟩, ⟨trivial, trivial⟩⟩
def nfigure_CheckEnclosure (k : Nat) (a0 : (List SRange)) : Option Int :=
  (nfigure_isWithin k (a0.length : Int) 1 40).bind fun r66 => (if r66 = true then ((nfigure_CheckEnclosure_l0_0 k a0 k 0).bind fun r88 => (match r88 with | .inl r89 => (some r89) | .inr r90 => (some 0))) else (some 10))
set_option maxRecDepth 100000 in
set_option maxHeartbeats 4000000 in
theorem nfigure_CheckEnclosure_ok (k : Nat) (a0 : (List SRange)) (r : Int) (h : nfigure_CheckEnclosure k a0 = some r) : VC Go.Proofs.Try.prog 24 [VV.tr (List.flatMap c_SRange a0) a0.length] (vi r) := by
  unfold nfigure_CheckEnclosure at h
  cases h67 : nfigure_isWithin k (a0.length : Int) 1 40 with
  | none => rw [h67] at h; cases h
  | some r66 =>
    rw [h67, Option.bind_some] at h
    by_cases h68 : r66 = true
    · rw [if_pos h68] at h
      cases h87 : nfigure_CheckEnclosure_l0_0 k a0 k 0 with
      | none => rw [h87] at h; cases h
      | some r88 =>
        rw [h87, Option.bind_some] at h
        have hph87 := nfigure_CheckEnclosure_l0_0_ok k a0 _ _ _ h87
        cases r88 with
        | inl r89 =>
          dsimp only at h
          injection h with h; subst h
          exact fun_ok pm pn Go.Proofs.Try.func24 (q := ((((True) ∧ True) ∧ ((((True) ∧ (True) ∧ (VC Go.Proofs.Try.prog 65 [vi (a0.length : Int), vi 1, vi 40] (vb r66)) ∧ (True) ∧ True) ∧ (((!r66) = false) ∧ (True))) ∧ (((True) ∧ (True) ∧ (True) ∧ True) ∧ (((((True)) ∧ ((True))) ∧ VRun none Go.Proofs.Try.prog (szF Go.Proofs.Try.f24) (.loop (bodyOf Go.Proofs.Try.f24 0)) ⟨mkA [(9, VV.tr (List.flatMap c_SRange a0) a0.length), (10, vi (a0.length : Int)), (11, vi 0)], [], .nil⟩ .ret ⟨mkA [(2, vi r89)], [], .nil⟩))))) ∧ ((True) ∧ (True)))) (r0 := vi r89) (ans := [.reg [.n], .reg [.n, .n, .call (vb r66), .n], .br false, .reg [.n, .n, .n], .sub ⟨[(9, none), (10, none), (11, none)], [], []⟩ .ret ⟨mkA [(2, vi r89)], [], .nil⟩]) (fr := true) (by kernel_rfl) ⟨⟨⟨trivial, trivial⟩, ⟨⟨⟨trivial, ⟨trivial, ⟨nfigure_isWithin_ok k (a0.length : Int) 1 40 _ h67, ⟨trivial, trivial⟩⟩⟩⟩, ⟨(not_f h68), trivial⟩⟩, ⟨⟨trivial, ⟨trivial, ⟨trivial, trivial⟩⟩⟩, ⟨⟨trivial, trivial⟩, VRun.loop hph87⟩⟩⟩⟩, ⟨trivial, trivial⟩⟩ (Wv.refl _)
        | inr r90 =>
          dsimp only at h
          injection h with h; subst h
          exact fun_ok pm pn Go.Proofs.Try.func24 (q := ((((True) ∧ True) ∧ ((((True) ∧ (True) ∧ (VC Go.Proofs.Try.prog 65 [vi (a0.length : Int), vi 1, vi 40] (vb r66)) ∧ (True) ∧ True) ∧ (((!r66) = false) ∧ (True))) ∧ ((((True) ∧ (True) ∧ (True) ∧ True) ∧ (((((True)) ∧ ((True))) ∧ VRun none Go.Proofs.Try.prog (szF Go.Proofs.Try.f24) (.loop (bodyOf Go.Proofs.Try.f24 0)) ⟨mkA [(9, VV.tr (List.flatMap c_SRange a0) a0.length), (10, vi (a0.length : Int)), (11, vi 0)], [], .nil⟩ (.exit 0) ⟨mkA [], [], .nil⟩))) ∧ (((True) ∧ True) ∧ (True))))) ∧ ((True) ∧ (True)))) (r0 := vi 0) (ans := [.reg [.n], .reg [.n, .n, .call (vb r66), .n], .br false, .reg [.n, .n, .n], .sub ⟨[(9, none), (10, none), (11, none)], [], []⟩ (.exit 0) ⟨mkA [], [], .nil⟩, .reg [.n]]) (fr := true) (by kernel_rfl) ⟨⟨⟨trivial, trivial⟩, ⟨⟨⟨trivial, ⟨trivial, ⟨nfigure_isWithin_ok k (a0.length : Int) 1 40 _ h67, ⟨trivial, trivial⟩⟩⟩⟩, ⟨(not_f h68), trivial⟩⟩, ⟨⟨⟨trivial, ⟨trivial, ⟨trivial, trivial⟩⟩⟩, ⟨⟨trivial, trivial⟩, VRun.loop hph87⟩⟩, ⟨⟨trivial, trivial⟩, trivial⟩⟩⟩⟩, ⟨trivial, trivial⟩⟩ (Wv.refl _)
    · rw [if_neg h68] at h
      injection h with h; subst h
      exact fun_ok pm pn Go.Proofs.Try.func24 (q := ((((True) ∧ True) ∧ (((True) ∧ (True) ∧ (VC Go.Proofs.Try.prog 65 [vi (a0.length : Int), vi 1, vi 40] (vb r66)) ∧ (True) ∧ True) ∧ (((!r66) = true) ∧ (((True) ∧ True) ∧ (True))))) ∧ ((True) ∧ (True)))) (r0 := vi 10) (ans := [.reg [.n], .reg [.n, .n, .call (vb r66), .n], .br true, .reg [.n]]) (fr := true) (by kernel_rfl) ⟨⟨⟨trivial, trivial⟩, ⟨⟨trivial, ⟨trivial, ⟨nfigure_isWithin_ok k (a0.length : Int) 1 40 _ h67, ⟨trivial, trivial⟩⟩⟩⟩, ⟨(not_t (bool_f h68)), ⟨⟨trivial, trivial⟩, trivial⟩⟩⟩⟩, ⟨trivial, trivial⟩⟩ (Wv.refl _)
def nspeculumbase_Within (k : Nat) (a0 : Int) (a1 : Int) (a2 : Int) : Option Bool :=
  if a1 ≤ a0 then (some (decide (a0 ≤ a2))) else (some false)
set_option maxRecDepth 100000 in
set_option maxHeartbeats 4000000 in
theorem nspeculumbase_Within_ok (k : Nat) (a0 : Int) (a1 : Int) (a2 : Int) (r : Bool) (h : nspeculumbase_Within k a0 a1 a2 = some r) : VC Go.Proofs.Try.prog 27 [vi a0, vi a1, vi a2] (vb r) := by
  unfold nspeculumbase_Within at h
  by_cases h92 : a1 ≤ a0
  · rw [if_pos h92] at h
    injection h with h; subst h
    exact fun_ok pm pn Go.Proofs.Try.func27 (q := ((((True) ∧ True) ∧ (((True) ∧ (True) ∧ (True) ∧ (True) ∧ (((decide (a1 ≤ a0)) = true ∧ True)) ∧ (((decide (a1 ≤ a0)) = true ∧ True)) ∧ (((decide (a1 ≤ a0)) = true ∧ True)) ∧ ((decide (a1 ≤ a0)) = true) ∧ (True) ∧ True) ∧ (True))) ∧ ((True) ∧ (True)))) (r0 := vb (decide (a0 ≤ a2))) (ans := [.reg [.n], .reg [.n, .n, .n, .n, .n, .n, .n, .b true, .n]]) (fr := true) (by kernel_rfl) ⟨⟨⟨trivial, trivial⟩, ⟨⟨trivial, ⟨trivial, ⟨trivial, ⟨trivial, ⟨⟨(decide_eq_true h92), trivial⟩, ⟨⟨(decide_eq_true h92), trivial⟩, ⟨⟨(decide_eq_true h92), trivial⟩, ⟨(decide_eq_true h92), ⟨trivial, trivial⟩⟩⟩⟩⟩⟩⟩⟩⟩, trivial⟩⟩, ⟨trivial, trivial⟩⟩ (Wv.refl _)
  · rw [if_neg h92] at h
    injection h with h; subst h
    exact fun_ok pm pn Go.Proofs.Try.func27 (q := ((((True) ∧ True) ∧ (((True) ∧ (True) ∧ (True) ∧ (True) ∧ ((decide (a1 ≤ a0)) = !true) ∧ ((decide (a1 ≤ a0)) = !true) ∧ ((decide (a1 ≤ a0)) = !true) ∧ ((decide (a1 ≤ a0)) = false) ∧ (True) ∧ True) ∧ (True))) ∧ ((True) ∧ (True)))) (r0 := vb false) (ans := [.reg [.n], .reg [.n, .n, .n, .n, .skip, .skip, .skip, .b false, .n]]) (fr := true) (by kernel_rfl) ⟨⟨⟨trivial, trivial⟩, ⟨⟨trivial, ⟨trivial, ⟨trivial, ⟨trivial, ⟨(decide_eq_false h92), ⟨(decide_eq_false h92), ⟨(decide_eq_false h92), ⟨(decide_eq_false h92), ⟨trivial, trivial⟩⟩⟩⟩⟩⟩⟩⟩⟩, trivial⟩⟩, ⟨trivial, trivial⟩⟩ (Wv.refl _)
def nspeculumref06_isHeight (k : Nat) (a0 : Int) : Option Bool :=
  (nspeculumbase_Within k a0 (-100000) 100000).bind fun r100 => (some r100)
set_option maxRecDepth 100000 in
set_option maxHeartbeats 4000000 in
theorem nspeculumref06_isHeight_ok (k : Nat) (a0 : Int) (r : Bool) (h : nspeculumref06_isHeight k a0 = some r) : VC Go.Proofs.Try.prog 66 [vi a0] (vb r) := by
  unfold nspeculumref06_isHeight at h
  cases h101 : nspeculumbase_Within k a0 (-100000) 100000 with
  | none => rw [h101] at h; cases h
  | some r100 =>
    rw [h101, Option.bind_some] at h
    injection h with h; subst h
    exact fun_ok pm pn Go.Proofs.Try.func66 (q := ((((True) ∧ True) ∧ (((True) ∧ (VC Go.Proofs.Try.prog 27 [vi a0, vi (-100000), vi 100000] (vb r100)) ∧ (True) ∧ True) ∧ (True))) ∧ ((True) ∧ (True)))) (r0 := vb r100) (ans := [.reg [.n], .reg [.n, .call (vb r100), .n]]) (fr := true) (by kernel_rfl) ⟨⟨⟨trivial, trivial⟩, ⟨⟨trivial, ⟨nspeculumbase_Within_ok k a0 (-100000) 100000 _ h101, ⟨trivial, trivial⟩⟩⟩, trivial⟩⟩, ⟨trivial, trivial⟩⟩ (Wv.refl _)
def nspeculumref06_CheckEnclosure_l0_0 (k : Nat) (a0 : (List SRange)) : Nat → Int → Option (Sum Int Unit)
  | 0, _ => none
  | fuel + 1, x3 => if x3 < (a0.length : Int) then (if 0 ≤ x3 ∧ x3 < (a0.length : Int) then ((nspeculumref06_isHeight k ((a0.getD x3.toNat default).Lo)).bind fun r154 => (if r154 = true then ((nspeculumref06_isHeight k ((a0.getD x3.toNat default).Hi)).bind fun r157 => (if r157 = true then (if ((a0.getD x3.toNat default).Hi) < ((a0.getD x3.toNat default).Lo) then (some (.inl 9)) else (nspeculumref06_CheckEnclosure_l0_0 k a0 fuel (w64 (x3 + 1)))) else (some (.inl 2)))) else (some (.inl 2)))) else none) else (some (.inr ()))
set_option maxRecDepth 100000 in
set_option maxHeartbeats 4000000 in
theorem nspeculumref06_CheckEnclosure_l0_0_ok (k : Nat) (a0 : (List SRange)) : ∀ (fuel : Nat) (x3 : Int) (r : Sum Int Unit), nspeculumref06_CheckEnclosure_l0_0 k a0 fuel x3 = some r → (match r with | .inl r => VLoop none Go.Proofs.Try.prog (szF Go.Proofs.Try.f23) (bodyOf Go.Proofs.Try.f23 0) ⟨mkA [(0, VV.tr (List.flatMap c_SRange a0) a0.length), (3, vi x3)], [], .nil⟩ .ret ⟨mkA [(2, vi r)], [], .nil⟩ | .inr r => VLoop none Go.Proofs.Try.prog (szF Go.Proofs.Try.f23) (bodyOf Go.Proofs.Try.f23 0) ⟨mkA [(0, VV.tr (List.flatMap c_SRange a0) a0.length), (3, vi x3)], [], .nil⟩ (.exit 0) ⟨mkA [], [], .nil⟩) := by
  intro fuel
  induction fuel with
  | zero => intro x3 r h; rw [nspeculumref06_CheckEnclosure_l0_0.eq_1] at h; cases h
  | succ fuel ih =>
    intro x3 r h
    rw [nspeculumref06_CheckEnclosure_l0_0.eq_2] at h
    by_cases h152 : x3 < (a0.length : Int)
    · rw [if_pos h152] at h
      by_cases h153 : 0 ≤ x3 ∧ x3 < (a0.length : Int)
      · rw [if_pos h153] at h
        cases h155 : nspeculumref06_isHeight k ((a0.getD x3.toNat default).Lo) with
        | none => rw [h155] at h; cases h
        | some r154 =>
          rw [h155, Option.bind_some] at h
          by_cases h156 : r154 = true
          · rw [if_pos h156] at h
            cases h158 : nspeculumref06_isHeight k ((a0.getD x3.toNat default).Hi) with
            | none => rw [h158] at h; cases h
            | some r157 =>
              rw [h158, Option.bind_some] at h
              by_cases h159 : r157 = true
              · rw [if_pos h159] at h
                by_cases h160 : ((a0.getD x3.toNat default).Hi) < ((a0.getD x3.toNat default).Lo)
                · rw [if_pos h160] at h
                  injection h with h; subst h
                  exact round_stop (c := ⟨[(2, none)], [], []⟩) (q := ((((True) ∧ (True) ∧ (True) ∧ (True) ∧ True) ∧ (((decide (x3 < (a0.length : Int))) = true) ∧ (True))) ∧ ((((True) ∧ (True) ∧ (0 ≤ x3 ∧ x3 < ((a0.length : Nat) : Int)) ∧ (True) ∧ (loadL Go.Proofs.Try.prog 3 (x3.toNat * 2 + 0) (List.flatMap c_SRange a0) = some (vi ((a0.getD x3.toNat default).Lo))) ∧ (VC Go.Proofs.Try.prog 66 [vi ((a0.getD x3.toNat default).Lo)] (vb r154)) ∧ (True) ∧ (True) ∧ (((!r154) = false ∧ True)) ∧ (((!r154) = false ∧ True)) ∧ (((!r154) = false ∧ 0 ≤ x3 ∧ x3 < ((a0.length : Nat) : Int))) ∧ (((!r154) = false ∧ True)) ∧ (((!r154) = false ∧ loadL Go.Proofs.Try.prog 3 (x3.toNat * 2 + 1) (List.flatMap c_SRange a0) = some (vi ((a0.getD x3.toNat default).Hi)))) ∧ (((!r154) = false ∧ VC Go.Proofs.Try.prog 66 [vi ((a0.getD x3.toNat default).Hi)] (vb r157))) ∧ (((!r154) = false ∧ True)) ∧ ((!r154) = false) ∧ True) ∧ (((!r157) = false) ∧ (True))) ∧ (((True) ∧ (True) ∧ (0 ≤ x3 ∧ x3 < ((a0.length : Nat) : Int)) ∧ (True) ∧ (loadL Go.Proofs.Try.prog 3 (x3.toNat * 2 + 0) (List.flatMap c_SRange a0) = some (vi ((a0.getD x3.toNat default).Lo))) ∧ (True) ∧ (True) ∧ (0 ≤ x3 ∧ x3 < ((a0.length : Nat) : Int)) ∧ (True) ∧ (loadL Go.Proofs.Try.prog 3 (x3.toNat * 2 + 1) (List.flatMap c_SRange a0) = some (vi ((a0.getD x3.toNat default).Hi))) ∧ (True) ∧ True) ∧ (((decide (((a0.getD x3.toNat default).Hi) < ((a0.getD x3.toNat default).Lo))) = true) ∧ (((True) ∧ True) ∧ (True)))))) ∧ (((True)) ∧ ((True)))) (s1 := ⟨mkA [(2, vi 9)], [], .nil⟩) pm pn (ans := [.reg [.n, .n, .n, .n], .br true, .reg [.n, .n, .n, .n, .v (vi ((a0.getD x3.toNat default).Lo)), .call (vb r154), .n, .n, .n, .n, .n, .n, .v (vi ((a0.getD x3.toNat default).Hi)), .call (vb r157), .n, .b false], .br false, .reg [.n, .n, .n, .n, .v (vi ((a0.getD x3.toNat default).Lo)), .n, .n, .n, .n, .v (vi ((a0.getD x3.toNat default).Hi)), .n], .br true, .reg [.n]]) (by kernel_rfl) (by intro e; cases e) ⟨⟨⟨⟨trivial, ⟨trivial, ⟨trivial, ⟨trivial, trivial⟩⟩⟩⟩, ⟨(decide_eq_true h152), trivial⟩⟩, ⟨⟨⟨trivial, ⟨trivial, ⟨h153, ⟨trivial, ⟨(ld_flat ag3 c_SRange 2 0 len_c_SRange (by omega) a0 default h153 (by omega)).trans rfl, ⟨nspeculumref06_isHeight_ok k ((a0.getD x3.toNat default).Lo) _ h155, ⟨trivial, ⟨trivial, ⟨⟨(not_f h156), trivial⟩, ⟨⟨(not_f h156), trivial⟩, ⟨⟨(not_f h156), h153⟩, ⟨⟨(not_f h156), trivial⟩, ⟨⟨(not_f h156), (ld_flat ag3 c_SRange 2 1 len_c_SRange (by omega) a0 default h153 (by omega)).trans rfl⟩, ⟨⟨(not_f h156), nspeculumref06_isHeight_ok k ((a0.getD x3.toNat default).Hi) _ h158⟩, ⟨⟨(not_f h156), trivial⟩, ⟨(not_f h156), trivial⟩⟩⟩⟩⟩⟩⟩⟩⟩⟩⟩⟩⟩⟩⟩⟩, ⟨(not_f h159), trivial⟩⟩, ⟨⟨trivial, ⟨trivial, ⟨h153, ⟨trivial, ⟨(ld_flat ag3 c_SRange 2 0 len_c_SRange (by omega) a0 default h153 (by omega)).trans rfl, ⟨trivial, ⟨trivial, ⟨h153, ⟨trivial, ⟨(ld_flat ag3 c_SRange 2 1 len_c_SRange (by omega) a0 default h153 (by omega)).trans rfl, ⟨trivial, trivial⟩⟩⟩⟩⟩⟩⟩⟩⟩⟩⟩, ⟨(decide_eq_true h160), ⟨⟨trivial, trivial⟩, trivial⟩⟩⟩⟩⟩, ⟨trivial, trivial⟩⟩
                · rw [if_neg h160] at h
                  have h2 := ih _ _ h
                  have hv : vRound none Go.Proofs.Try.prog Go.Proofs.Try.f23 0 ⟨mkA [(0, VV.tr (List.flatMap c_SRange a0) a0.length), (3, vi x3)], [], .nil⟩ [.reg [.n, .n, .n, .n], .br true, .reg [.n, .n, .n, .n, .v (vi ((a0.getD x3.toNat default).Lo)), .call (vb r154), .n, .n, .n, .n, .n, .n, .v (vi ((a0.getD x3.toNat default).Hi)), .call (vb r157), .n, .b false], .br false, .reg [.n, .n, .n, .n, .v (vi ((a0.getD x3.toNat default).Lo)), .n, .n, .n, .n, .v (vi ((a0.getD x3.toNat default).Hi)), .n], .br false, .reg [.n, .n, .n]] ⟨[(0, none), (3, none)], [], []⟩ = some (.normal, ⟨mkA [(0, VV.tr (List.flatMap c_SRange a0) a0.length), (3, vi (w64 (x3 + 1)))], [], .nil⟩, ((((True) ∧ (True) ∧ (True) ∧ (True) ∧ True) ∧ (((decide (x3 < (a0.length : Int))) = true) ∧ (True))) ∧ (((((True) ∧ (True) ∧ (0 ≤ x3 ∧ x3 < ((a0.length : Nat) : Int)) ∧ (True) ∧ (loadL Go.Proofs.Try.prog 3 (x3.toNat * 2 + 0) (List.flatMap c_SRange a0) = some (vi ((a0.getD x3.toNat default).Lo))) ∧ (VC Go.Proofs.Try.prog 66 [vi ((a0.getD x3.toNat default).Lo)] (vb r154)) ∧ (True) ∧ (True) ∧ (((!r154) = false ∧ True)) ∧ (((!r154) = false ∧ True)) ∧ (((!r154) = false ∧ 0 ≤ x3 ∧ x3 < ((a0.length : Nat) : Int))) ∧ (((!r154) = false ∧ True)) ∧ (((!r154) = false ∧ loadL Go.Proofs.Try.prog 3 (x3.toNat * 2 + 1) (List.flatMap c_SRange a0) = some (vi ((a0.getD x3.toNat default).Hi)))) ∧ (((!r154) = false ∧ VC Go.Proofs.Try.prog 66 [vi ((a0.getD x3.toNat default).Hi)] (vb r157))) ∧ (((!r154) = false ∧ True)) ∧ ((!r154) = false) ∧ True) ∧ (((!r157) = false) ∧ (True))) ∧ (((True) ∧ (True) ∧ (0 ≤ x3 ∧ x3 < ((a0.length : Nat) : Int)) ∧ (True) ∧ (loadL Go.Proofs.Try.prog 3 (x3.toNat * 2 + 0) (List.flatMap c_SRange a0) = some (vi ((a0.getD x3.toNat default).Lo))) ∧ (True) ∧ (True) ∧ (0 ≤ x3 ∧ x3 < ((a0.length : Nat) : Int)) ∧ (True) ∧ (loadL Go.Proofs.Try.prog 3 (x3.toNat * 2 + 1) (List.flatMap c_SRange a0) = some (vi ((a0.getD x3.toNat default).Hi))) ∧ (True) ∧ True) ∧ (((decide (((a0.getD x3.toNat default).Hi) < ((a0.getD x3.toNat default).Lo))) = false) ∧ (True)))) ∧ ((True) ∧ (True) ∧ (True) ∧ True))) ∧ (((True)) ∧ ((True)))) := by kernel_rfl
                  have hq : ((((True) ∧ (True) ∧ (True) ∧ (True) ∧ True) ∧ (((decide (x3 < (a0.length : Int))) = true) ∧ (True))) ∧ (((((True) ∧ (True) ∧ (0 ≤ x3 ∧ x3 < ((a0.length : Nat) : Int)) ∧ (True) ∧ (loadL Go.Proofs.Try.prog 3 (x3.toNat * 2 + 0) (List.flatMap c_SRange a0) = some (vi ((a0.getD x3.toNat default).Lo))) ∧ (VC Go.Proofs.Try.prog 66 [vi ((a0.getD x3.toNat default).Lo)] (vb r154)) ∧ (True) ∧ (True) ∧ (((!r154) = false ∧ True)) ∧ (((!r154) = false ∧ True)) ∧ (((!r154) = false ∧ 0 ≤ x3 ∧ x3 < ((a0.length : Nat) : Int))) ∧ (((!r154) = false ∧ True)) ∧ (((!r154) = false ∧ loadL Go.Proofs.Try.prog 3 (x3.toNat * 2 + 1) (List.flatMap c_SRange a0) = some (vi ((a0.getD x3.toNat default).Hi)))) ∧ (((!r154) = false ∧ VC Go.Proofs.Try.prog 66 [vi ((a0.getD x3.toNat default).Hi)] (vb r157))) ∧ (((!r154) = false ∧ True)) ∧ ((!r154) = false) ∧ True) ∧ (((!r157) = false) ∧ (True))) ∧ (((True) ∧ (True) ∧ (0 ≤ x3 ∧ x3 < ((a0.length : Nat) : Int)) ∧ (True) ∧ (loadL Go.Proofs.Try.prog 3 (x3.toNat * 2 + 0) (List.flatMap c_SRange a0) = some (vi ((a0.getD x3.toNat default).Lo))) ∧ (True) ∧ (True) ∧ (0 ≤ x3 ∧ x3 < ((a0.length : Nat) : Int)) ∧ (True) ∧ (loadL Go.Proofs.Try.prog 3 (x3.toNat * 2 + 1) (List.flatMap c_SRange a0) = some (vi ((a0.getD x3.toNat default).Hi))) ∧ (True) ∧ True) ∧ (((decide (((a0.getD x3.toNat default).Hi) < ((a0.getD x3.toNat default).Lo))) = false) ∧ (True)))) ∧ ((True) ∧ (True) ∧ (True) ∧ True))) ∧ (((True)) ∧ ((True))) := ⟨⟨⟨⟨trivial, ⟨trivial, ⟨trivial, ⟨trivial, trivial⟩⟩⟩⟩, ⟨(decide_eq_true h152), trivial⟩⟩, ⟨⟨⟨⟨trivial, ⟨trivial, ⟨h153, ⟨trivial, ⟨(ld_flat ag3 c_SRange 2 0 len_c_SRange (by omega) a0 default h153 (by omega)).trans rfl, ⟨nspeculumref06_isHeight_ok k ((a0.getD x3.toNat default).Lo) _ h155, ⟨trivial, ⟨trivial, ⟨⟨(not_f h156), trivial⟩, ⟨⟨(not_f h156), trivial⟩, ⟨⟨(not_f h156), h153⟩, ⟨⟨(not_f h156), trivial⟩, ⟨⟨(not_f h156), (ld_flat ag3 c_SRange 2 1 len_c_SRange (by omega) a0 default h153 (by omega)).trans rfl⟩, ⟨⟨(not_f h156), nspeculumref06_isHeight_ok k ((a0.getD x3.toNat default).Hi) _ h158⟩, ⟨⟨(not_f h156), trivial⟩, ⟨(not_f h156), trivial⟩⟩⟩⟩⟩⟩⟩⟩⟩⟩⟩⟩⟩⟩⟩⟩, ⟨(not_f h159), trivial⟩⟩, ⟨⟨trivial, ⟨trivial, ⟨h153, ⟨trivial, ⟨(ld_flat ag3 c_SRange 2 0 len_c_SRange (by omega) a0 default h153 (by omega)).trans rfl, ⟨trivial, ⟨trivial, ⟨h153, ⟨trivial, ⟨(ld_flat ag3 c_SRange 2 1 len_c_SRange (by omega) a0 default h153 (by omega)).trans rfl, ⟨trivial, trivial⟩⟩⟩⟩⟩⟩⟩⟩⟩⟩⟩, ⟨(decide_eq_false h160), trivial⟩⟩⟩, ⟨trivial, ⟨trivial, ⟨trivial, trivial⟩⟩⟩⟩⟩, ⟨trivial, trivial⟩⟩
                  cases r with
                  | inl r => exact round_next pm pn hv hq h2
                  | inr r =>
                    exact round_next pm pn hv hq h2
              · rw [if_neg h159] at h
                injection h with h; subst h
                exact round_stop (c := ⟨[(2, none)], [], []⟩) (q := ((((True) ∧ (True) ∧ (True) ∧ (True) ∧ True) ∧ (((decide (x3 < (a0.length : Int))) = true) ∧ (True))) ∧ (((True) ∧ (True) ∧ (0 ≤ x3 ∧ x3 < ((a0.length : Nat) : Int)) ∧ (True) ∧ (loadL Go.Proofs.Try.prog 3 (x3.toNat * 2 + 0) (List.flatMap c_SRange a0) = some (vi ((a0.getD x3.toNat default).Lo))) ∧ (VC Go.Proofs.Try.prog 66 [vi ((a0.getD x3.toNat default).Lo)] (vb r154)) ∧ (True) ∧ (True) ∧ (((!r154) = false ∧ True)) ∧ (((!r154) = false ∧ True)) ∧ (((!r154) = false ∧ 0 ≤ x3 ∧ x3 < ((a0.length : Nat) : Int))) ∧ (((!r154) = false ∧ True)) ∧ (((!r154) = false ∧ loadL Go.Proofs.Try.prog 3 (x3.toNat * 2 + 1) (List.flatMap c_SRange a0) = some (vi ((a0.getD x3.toNat default).Hi)))) ∧ (((!r154) = false ∧ VC Go.Proofs.Try.prog 66 [vi ((a0.getD x3.toNat default).Hi)] (vb r157))) ∧ (((!r154) = false ∧ True)) ∧ ((!r154) = false) ∧ True) ∧ (((!r157) = true) ∧ (((True) ∧ True) ∧ (True))))) ∧ (((True)) ∧ ((True)))) (s1 := ⟨mkA [(2, vi 2)], [], .nil⟩) pm pn (ans := [.reg [.n, .n, .n, .n], .br true, .reg [.n, .n, .n, .n, .v (vi ((a0.getD x3.toNat default).Lo)), .call (vb r154), .n, .n, .n, .n, .n, .n, .v (vi ((a0.getD x3.toNat default).Hi)), .call (vb r157), .n, .b false], .br true, .reg [.n]]) (by kernel_rfl) (by intro e; cases e) ⟨⟨⟨⟨trivial, ⟨trivial, ⟨trivial, ⟨trivial, trivial⟩⟩⟩⟩, ⟨(decide_eq_true h152), trivial⟩⟩, ⟨⟨trivial, ⟨trivial, ⟨h153, ⟨trivial, ⟨(ld_flat ag3 c_SRange 2 0 len_c_SRange (by omega) a0 default h153 (by omega)).trans rfl, ⟨nspeculumref06_isHeight_ok k ((a0.getD x3.toNat default).Lo) _ h155, ⟨trivial, ⟨trivial, ⟨⟨(not_f h156), trivial⟩, ⟨⟨(not_f h156), trivial⟩, ⟨⟨(not_f h156), h153⟩, ⟨⟨(not_f h156), trivial⟩, ⟨⟨(not_f h156), (ld_flat ag3 c_SRange 2 1 len_c_SRange (by omega) a0 default h153 (by omega)).trans rfl⟩, ⟨⟨(not_f h156), nspeculumref06_isHeight_ok k ((a0.getD x3.toNat default).Hi) _ h158⟩, ⟨⟨(not_f h156), trivial⟩, ⟨(not_f h156), trivial⟩⟩⟩⟩⟩⟩⟩⟩⟩⟩⟩⟩⟩⟩⟩⟩, ⟨(not_t (bool_f h159)), ⟨⟨trivial, trivial⟩, trivial⟩⟩⟩⟩, ⟨trivial, trivial⟩⟩
          · rw [if_neg h156] at h
            injection h with h; subst h
            exact round_stop (c := ⟨[(2, none)], [], []⟩) (q := ((((True) ∧ (True) ∧ (True) ∧ (True) ∧ True) ∧ (((decide (x3 < (a0.length : Int))) = true) ∧ (True))) ∧ (((True) ∧ (True) ∧ (0 ≤ x3 ∧ x3 < ((a0.length : Nat) : Int)) ∧ (True) ∧ (loadL Go.Proofs.Try.prog 3 (x3.toNat * 2 + 0) (List.flatMap c_SRange a0) = some (vi ((a0.getD x3.toNat default).Lo))) ∧ (VC Go.Proofs.Try.prog 66 [vi ((a0.getD x3.toNat default).Lo)] (vb r154)) ∧ (True) ∧ (True) ∧ ((!r154) = !false) ∧ ((!r154) = !false) ∧ ((!r154) = !false) ∧ ((!r154) = !false) ∧ ((!r154) = !false) ∧ ((!r154) = !false) ∧ ((!r154) = !false) ∧ ((!r154) = true) ∧ True) ∧ ((true = true) ∧ (((True) ∧ True) ∧ (True))))) ∧ (((True)) ∧ ((True)))) (s1 := ⟨mkA [(2, vi 2)], [], .nil⟩) pm pn (ans := [.reg [.n, .n, .n, .n], .br true, .reg [.n, .n, .n, .n, .v (vi ((a0.getD x3.toNat default).Lo)), .call (vb r154), .n, .n, .skip, .skip, .skip, .skip, .skip, .skip, .skip, .b true], .br true, .reg [.n]]) (by kernel_rfl) (by intro e; cases e) ⟨⟨⟨⟨trivial, ⟨trivial, ⟨trivial, ⟨trivial, trivial⟩⟩⟩⟩, ⟨(decide_eq_true h152), trivial⟩⟩, ⟨⟨trivial, ⟨trivial, ⟨h153, ⟨trivial, ⟨(ld_flat ag3 c_SRange 2 0 len_c_SRange (by omega) a0 default h153 (by omega)).trans rfl, ⟨nspeculumref06_isHeight_ok k ((a0.getD x3.toNat default).Lo) _ h155, ⟨trivial, ⟨trivial, ⟨(not_t (bool_f h156)), ⟨(not_t (bool_f h156)), ⟨(not_t (bool_f h156)), ⟨(not_t (bool_f h156)), ⟨(not_t (bool_f h156)), ⟨(not_t (bool_f h156)), ⟨(not_t (bool_f h156)), ⟨(not_t (bool_f h156)), trivial⟩⟩⟩⟩⟩⟩⟩⟩⟩⟩⟩⟩⟩⟩⟩⟩, ⟨rfl, ⟨⟨trivial, trivial⟩, trivial⟩⟩⟩⟩, ⟨trivial, trivial⟩⟩
      · rw [if_neg h153] at h; cases h
    · rw [if_neg h152] at h
      injection h with h; subst h
      exact round_stop (c := ⟨[], [], []⟩) (q := (((True) ∧ (True) ∧ (True) ∧ (True) ∧ True) ∧ (((decide (x3 < (a0.length : Int))) = false) ∧ (True))) ∧ (((True)) ∧ ((True)))) (s1 := ⟨mkA [], [], .nil⟩) pm pn (ans := [.reg [.n, .n, .n, .n], .br false]) (by kernel_rfl) (by intro e; cases e) ⟨⟨⟨trivial, ⟨trivial, ⟨trivial, ⟨trivial, trivial⟩⟩⟩⟩, ⟨(decide_eq_false h152), trivial⟩⟩, ⟨trivial, trivial⟩⟩
def nspeculumref06_CheckEnclosure (k : Nat) (a0 : (List SRange)) : Option Int :=
  (nspeculumbase_Within k (a0.length : Int) 1 40).bind fun r131 => (if r131 = true then ((nspeculumref06_CheckEnclosure_l0_0 k a0 k 0).bind fun r162 => (match r162 with | .inl r163 => (some r163) | .inr r164 => (some 0))) else (some 10))
set_option maxRecDepth 100000 in
set_option maxHeartbeats 4000000 in
theorem nspeculumref06_CheckEnclosure_ok (k : Nat) (a0 : (List SRange)) (r : Int) (h : nspeculumref06_CheckEnclosure k a0 = some r) : VC Go.Proofs.Try.prog 23 [VV.tr (List.flatMap c_SRange a0) a0.length] (vi r) := by
  unfold nspeculumref06_CheckEnclosure at h
  cases h132 : nspeculumbase_Within k (a0.length : Int) 1 40 with
  | none => rw [h132] at h; cases h
  | some r131 =>
    rw [h132, Option.bind_some] at h
    by_cases h133 : r131 = true
    · rw [if_pos h133] at h
      cases h161 : nspeculumref06_CheckEnclosure_l0_0 k a0 k 0 with
      | none => rw [h161] at h; cases h
      | some r162 =>
        rw [h161, Option.bind_some] at h
        have hph161 := nspeculumref06_CheckEnclosure_l0_0_ok k a0 _ _ _ h161
        cases r162 with
        | inl r163 =>
          dsimp only at h
          injection h with h; subst h
          exact fun_ok pm pn Go.Proofs.Try.func23 (q := ((((True) ∧ True) ∧ ((((True) ∧ (True) ∧ (VC Go.Proofs.Try.prog 27 [vi (a0.length : Int), vi 1, vi 40] (vb r131)) ∧ (True) ∧ True) ∧ (((!r131) = false) ∧ (True))) ∧ (((True) ∧ True) ∧ (((((True)) ∧ ((True))) ∧ VRun none Go.Proofs.Try.prog (szF Go.Proofs.Try.f23) (.loop (bodyOf Go.Proofs.Try.f23 0)) ⟨mkA [(0, VV.tr (List.flatMap c_SRange a0) a0.length), (3, vi 0)], [], .nil⟩ .ret ⟨mkA [(2, vi r163)], [], .nil⟩))))) ∧ ((True) ∧ (True)))) (r0 := vi r163) (ans := [.reg [.n], .reg [.n, .n, .call (vb r131), .n], .br false, .reg [.n], .sub ⟨[(0, none), (3, none)], [], []⟩ .ret ⟨mkA [(2, vi r163)], [], .nil⟩]) (fr := true) (by kernel_rfl) ⟨⟨⟨trivial, trivial⟩, ⟨⟨⟨trivial, ⟨trivial, ⟨nspeculumbase_Within_ok k (a0.length : Int) 1 40 _ h132, ⟨trivial, trivial⟩⟩⟩⟩, ⟨(not_f h133), trivial⟩⟩, ⟨⟨trivial, trivial⟩, ⟨⟨trivial, trivial⟩, VRun.loop hph161⟩⟩⟩⟩, ⟨trivial, trivial⟩⟩ (Wv.refl _)
        | inr r164 =>
          dsimp only at h
          injection h with h; subst h
          exact fun_ok pm pn Go.Proofs.Try.func23 (q := ((((True) ∧ True) ∧ ((((True) ∧ (True) ∧ (VC Go.Proofs.Try.prog 27 [vi (a0.length : Int), vi 1, vi 40] (vb r131)) ∧ (True) ∧ True) ∧ (((!r131) = false) ∧ (True))) ∧ ((((True) ∧ True) ∧ (((((True)) ∧ ((True))) ∧ VRun none Go.Proofs.Try.prog (szF Go.Proofs.Try.f23) (.loop (bodyOf Go.Proofs.Try.f23 0)) ⟨mkA [(0, VV.tr (List.flatMap c_SRange a0) a0.length), (3, vi 0)], [], .nil⟩ (.exit 0) ⟨mkA [], [], .nil⟩))) ∧ (((True) ∧ True) ∧ (True))))) ∧ ((True) ∧ (True)))) (r0 := vi 0) (ans := [.reg [.n], .reg [.n, .n, .call (vb r131), .n], .br false, .reg [.n], .sub ⟨[(0, none), (3, none)], [], []⟩ (.exit 0) ⟨mkA [], [], .nil⟩, .reg [.n]]) (fr := true) (by kernel_rfl) ⟨⟨⟨trivial, trivial⟩, ⟨⟨⟨trivial, ⟨trivial, ⟨nspeculumbase_Within_ok k (a0.length : Int) 1 40 _ h132, ⟨trivial, trivial⟩⟩⟩⟩, ⟨(not_f h133), trivial⟩⟩, ⟨⟨⟨trivial, trivial⟩, ⟨⟨trivial, trivial⟩, VRun.loop hph161⟩⟩, ⟨⟨trivial, trivial⟩, trivial⟩⟩⟩⟩, ⟨trivial, trivial⟩⟩ (Wv.refl _)
    · rw [if_neg h133] at h
      injection h with h; subst h
      exact fun_ok pm pn Go.Proofs.Try.func23 (q := ((((True) ∧ True) ∧ (((True) ∧ (True) ∧ (VC Go.Proofs.Try.prog 27 [vi (a0.length : Int), vi 1, vi 40] (vb r131)) ∧ (True) ∧ True) ∧ (((!r131) = true) ∧ (((True) ∧ True) ∧ (True))))) ∧ ((True) ∧ (True)))) (r0 := vi 10) (ans := [.reg [.n], .reg [.n, .n, .call (vb r131), .n], .br true, .reg [.n]]) (fr := true) (by kernel_rfl) ⟨⟨⟨trivial, trivial⟩, ⟨⟨trivial, ⟨trivial, ⟨nspeculumbase_Within_ok k (a0.length : Int) 1 40 _ h132, ⟨trivial, trivial⟩⟩⟩⟩, ⟨(not_t (bool_f h133)), ⟨⟨trivial, trivial⟩, trivial⟩⟩⟩⟩, ⟨trivial, trivial⟩⟩ (Wv.refl _)
def nfigure_CheckTolerance (k : Nat) (a0 : SFigureTolerance) : Option Int :=
  (nfigure_isWithin k a0.Peak 0 200000).bind fun r171 => (if r171 = true then ((nfigure_isWithin k a0.Slope 0 200000).bind fun r174 => (if r174 = true then (some 0) else (some 2))) else (some 2))
set_option maxRecDepth 100000 in
set_option maxHeartbeats 4000000 in
theorem nfigure_CheckTolerance_ok (k : Nat) (a0 : SFigureTolerance) (r : Int) (h : nfigure_CheckTolerance k a0 = some r) : VC Go.Proofs.Try.prog 16 [VV.ag [vi a0.Peak, vi a0.Slope]] (vi r) := by
  unfold nfigure_CheckTolerance at h
  cases h172 : nfigure_isWithin k a0.Peak 0 200000 with
  | none => rw [h172] at h; cases h
  | some r171 =>
    rw [h172, Option.bind_some] at h
    by_cases h173 : r171 = true
    · rw [if_pos h173] at h
      cases h175 : nfigure_isWithin k a0.Slope 0 200000 with
      | none => rw [h175] at h; cases h
      | some r174 =>
        rw [h175, Option.bind_some] at h
        by_cases h176 : r174 = true
        · rw [if_pos h176] at h
          injection h with h; subst h
          exact fun_ok pm pn Go.Proofs.Try.func16 (q := ((((True) ∧ (True) ∧ True) ∧ ((((True) ∧ (True) ∧ (VC Go.Proofs.Try.prog 65 [vi a0.Peak, vi 0, vi 200000] (vb r171)) ∧ (True) ∧ (True) ∧ (((!r171) = false ∧ True)) ∧ (((!r171) = false ∧ True)) ∧ (((!r171) = false ∧ VC Go.Proofs.Try.prog 65 [vi a0.Slope, vi 0, vi 200000] (vb r174))) ∧ (((!r171) = false ∧ True)) ∧ ((!r171) = false) ∧ True) ∧ (((!r174) = false) ∧ (True))) ∧ (((True) ∧ True) ∧ (True)))) ∧ ((True) ∧ (True)))) (r0 := vi 0) (ans := [.reg [.n, .n], .reg [.n, .n, .call (vb r171), .n, .n, .n, .n, .call (vb r174), .n, .b false], .br false, .reg [.n]]) (fr := true) (by kernel_rfl) ⟨⟨⟨trivial, ⟨trivial, trivial⟩⟩, ⟨⟨⟨trivial, ⟨trivial, ⟨nfigure_isWithin_ok k a0.Peak 0 200000 _ h172, ⟨trivial, ⟨trivial, ⟨⟨(not_f h173), trivial⟩, ⟨⟨(not_f h173), trivial⟩, ⟨⟨(not_f h173), nfigure_isWithin_ok k a0.Slope 0 200000 _ h175⟩, ⟨⟨(not_f h173), trivial⟩, ⟨(not_f h173), trivial⟩⟩⟩⟩⟩⟩⟩⟩⟩⟩, ⟨(not_f h176), trivial⟩⟩, ⟨⟨trivial, trivial⟩, trivial⟩⟩⟩, ⟨trivial, trivial⟩⟩ (Wv.refl _)
        · rw [if_neg h176] at h
          injection h with h; subst h
          exact fun_ok pm pn Go.Proofs.Try.func16 (q := ((((True) ∧ (True) ∧ True) ∧ (((True) ∧ (True) ∧ (VC Go.Proofs.Try.prog 65 [vi a0.Peak, vi 0, vi 200000] (vb r171)) ∧ (True) ∧ (True) ∧ (((!r171) = false ∧ True)) ∧ (((!r171) = false ∧ True)) ∧ (((!r171) = false ∧ VC Go.Proofs.Try.prog 65 [vi a0.Slope, vi 0, vi 200000] (vb r174))) ∧ (((!r171) = false ∧ True)) ∧ ((!r171) = false) ∧ True) ∧ (((!r174) = true) ∧ (((True) ∧ True) ∧ (True))))) ∧ ((True) ∧ (True)))) (r0 := vi 2) (ans := [.reg [.n, .n], .reg [.n, .n, .call (vb r171), .n, .n, .n, .n, .call (vb r174), .n, .b false], .br true, .reg [.n]]) (fr := true) (by kernel_rfl) ⟨⟨⟨trivial, ⟨trivial, trivial⟩⟩, ⟨⟨trivial, ⟨trivial, ⟨nfigure_isWithin_ok k a0.Peak 0 200000 _ h172, ⟨trivial, ⟨trivial, ⟨⟨(not_f h173), trivial⟩, ⟨⟨(not_f h173), trivial⟩, ⟨⟨(not_f h173), nfigure_isWithin_ok k a0.Slope 0 200000 _ h175⟩, ⟨⟨(not_f h173), trivial⟩, ⟨(not_f h173), trivial⟩⟩⟩⟩⟩⟩⟩⟩⟩⟩, ⟨(not_t (bool_f h176)), ⟨⟨trivial, trivial⟩, trivial⟩⟩⟩⟩, ⟨trivial, trivial⟩⟩ (Wv.refl _)
    · rw [if_neg h173] at h
      injection h with h; subst h
      exact fun_ok pm pn Go.Proofs.Try.func16 (q := ((((True) ∧ (True) ∧ True) ∧ (((True) ∧ (True) ∧ (VC Go.Proofs.Try.prog 65 [vi a0.Peak, vi 0, vi 200000] (vb r171)) ∧ (True) ∧ (True) ∧ ((!r171) = !false) ∧ ((!r171) = !false) ∧ ((!r171) = !false) ∧ ((!r171) = !false) ∧ ((!r171) = true) ∧ True) ∧ ((true = true) ∧ (((True) ∧ True) ∧ (True))))) ∧ ((True) ∧ (True)))) (r0 := vi 2) (ans := [.reg [.n, .n], .reg [.n, .n, .call (vb r171), .n, .n, .skip, .skip, .skip, .skip, .b true], .br true, .reg [.n]]) (fr := true) (by kernel_rfl) ⟨⟨⟨trivial, ⟨trivial, trivial⟩⟩, ⟨⟨trivial, ⟨trivial, ⟨nfigure_isWithin_ok k a0.Peak 0 200000 _ h172, ⟨trivial, ⟨trivial, ⟨(not_t (bool_f h173)), ⟨(not_t (bool_f h173)), ⟨(not_t (bool_f h173)), ⟨(not_t (bool_f h173)), ⟨(not_t (bool_f h173)), trivial⟩⟩⟩⟩⟩⟩⟩⟩⟩⟩, ⟨rfl, ⟨⟨trivial, trivial⟩, trivial⟩⟩⟩⟩, ⟨trivial, trivial⟩⟩ (Wv.refl _)
def nspeculumref06_CheckTolerance (k : Nat) (a0 : SFigureTolerance) : Option Int :=
  (nspeculumbase_Within k a0.Peak 0 200000).bind fun r183 => (if r183 = true then ((nspeculumbase_Within k a0.Slope 0 200000).bind fun r186 => (if r186 = true then (some 0) else (some 2))) else (some 2))
set_option maxRecDepth 100000 in
set_option maxHeartbeats 4000000 in
theorem nspeculumref06_CheckTolerance_ok (k : Nat) (a0 : SFigureTolerance) (r : Int) (h : nspeculumref06_CheckTolerance k a0 = some r) : VC Go.Proofs.Try.prog 17 [VV.ag [vi a0.Peak, vi a0.Slope]] (vi r) := by
  unfold nspeculumref06_CheckTolerance at h
  cases h184 : nspeculumbase_Within k a0.Peak 0 200000 with
  | none => rw [h184] at h; cases h
  | some r183 =>
    rw [h184, Option.bind_some] at h
    by_cases h185 : r183 = true
    · rw [if_pos h185] at h
      cases h187 : nspeculumbase_Within k a0.Slope 0 200000 with
      | none => rw [h187] at h; cases h
      | some r186 =>
        rw [h187, Option.bind_some] at h
        by_cases h188 : r186 = true
        · rw [if_pos h188] at h
          injection h with h; subst h
          exact fun_ok pm pn Go.Proofs.Try.func17 (q := ((((True) ∧ (True) ∧ True) ∧ ((((True) ∧ (True) ∧ (VC Go.Proofs.Try.prog 27 [vi a0.Peak, vi 0, vi 200000] (vb r183)) ∧ (True) ∧ (True) ∧ (((!r183) = false ∧ True)) ∧ (((!r183) = false ∧ True)) ∧ (((!r183) = false ∧ VC Go.Proofs.Try.prog 27 [vi a0.Slope, vi 0, vi 200000] (vb r186))) ∧ (((!r183) = false ∧ True)) ∧ ((!r183) = false) ∧ True) ∧ (((!r186) = false) ∧ (True))) ∧ (((True) ∧ True) ∧ (True)))) ∧ ((True) ∧ (True)))) (r0 := vi 0) (ans := [.reg [.n, .n], .reg [.n, .n, .call (vb r183), .n, .n, .n, .n, .call (vb r186), .n, .b false], .br false, .reg [.n]]) (fr := true) (by kernel_rfl) ⟨⟨⟨trivial, ⟨trivial, trivial⟩⟩, ⟨⟨⟨trivial, ⟨trivial, ⟨nspeculumbase_Within_ok k a0.Peak 0 200000 _ h184, ⟨trivial, ⟨trivial, ⟨⟨(not_f h185), trivial⟩, ⟨⟨(not_f h185), trivial⟩, ⟨⟨(not_f h185), nspeculumbase_Within_ok k a0.Slope 0 200000 _ h187⟩, ⟨⟨(not_f h185), trivial⟩, ⟨(not_f h185), trivial⟩⟩⟩⟩⟩⟩⟩⟩⟩⟩, ⟨(not_f h188), trivial⟩⟩, ⟨⟨trivial, trivial⟩, trivial⟩⟩⟩, ⟨trivial, trivial⟩⟩ (Wv.refl _)
        · rw [if_neg h188] at h
          injection h with h; subst h
          exact fun_ok pm pn Go.Proofs.Try.func17 (q := ((((True) ∧ (True) ∧ True) ∧ (((True) ∧ (True) ∧ (VC Go.Proofs.Try.prog 27 [vi a0.Peak, vi 0, vi 200000] (vb r183)) ∧ (True) ∧ (True) ∧ (((!r183) = false ∧ True)) ∧ (((!r183) = false ∧ True)) ∧ (((!r183) = false ∧ VC Go.Proofs.Try.prog 27 [vi a0.Slope, vi 0, vi 200000] (vb r186))) ∧ (((!r183) = false ∧ True)) ∧ ((!r183) = false) ∧ True) ∧ (((!r186) = true) ∧ (((True) ∧ True) ∧ (True))))) ∧ ((True) ∧ (True)))) (r0 := vi 2) (ans := [.reg [.n, .n], .reg [.n, .n, .call (vb r183), .n, .n, .n, .n, .call (vb r186), .n, .b false], .br true, .reg [.n]]) (fr := true) (by kernel_rfl) ⟨⟨⟨trivial, ⟨trivial, trivial⟩⟩, ⟨⟨trivial, ⟨trivial, ⟨nspeculumbase_Within_ok k a0.Peak 0 200000 _ h184, ⟨trivial, ⟨trivial, ⟨⟨(not_f h185), trivial⟩, ⟨⟨(not_f h185), trivial⟩, ⟨⟨(not_f h185), nspeculumbase_Within_ok k a0.Slope 0 200000 _ h187⟩, ⟨⟨(not_f h185), trivial⟩, ⟨(not_f h185), trivial⟩⟩⟩⟩⟩⟩⟩⟩⟩⟩, ⟨(not_t (bool_f h188)), ⟨⟨trivial, trivial⟩, trivial⟩⟩⟩⟩, ⟨trivial, trivial⟩⟩ (Wv.refl _)
    · rw [if_neg h185] at h
      injection h with h; subst h
      exact fun_ok pm pn Go.Proofs.Try.func17 (q := ((((True) ∧ (True) ∧ True) ∧ (((True) ∧ (True) ∧ (VC Go.Proofs.Try.prog 27 [vi a0.Peak, vi 0, vi 200000] (vb r183)) ∧ (True) ∧ (True) ∧ ((!r183) = !false) ∧ ((!r183) = !false) ∧ ((!r183) = !false) ∧ ((!r183) = !false) ∧ ((!r183) = true) ∧ True) ∧ ((true = true) ∧ (((True) ∧ True) ∧ (True))))) ∧ ((True) ∧ (True)))) (r0 := vi 2) (ans := [.reg [.n, .n], .reg [.n, .n, .call (vb r183), .n, .n, .skip, .skip, .skip, .skip, .b true], .br true, .reg [.n]]) (fr := true) (by kernel_rfl) ⟨⟨⟨trivial, ⟨trivial, trivial⟩⟩, ⟨⟨trivial, ⟨trivial, ⟨nspeculumbase_Within_ok k a0.Peak 0 200000 _ h184, ⟨trivial, ⟨trivial, ⟨(not_t (bool_f h185)), ⟨(not_t (bool_f h185)), ⟨(not_t (bool_f h185)), ⟨(not_t (bool_f h185)), ⟨(not_t (bool_f h185)), trivial⟩⟩⟩⟩⟩⟩⟩⟩⟩⟩, ⟨rfl, ⟨⟨trivial, trivial⟩, trivial⟩⟩⟩⟩, ⟨trivial, trivial⟩⟩ (Wv.refl _)
def nfigure_size (k : Nat) (a0 : Int) : Option Int :=
  some (maxI a0 (w64 (0 - a0)))
set_option maxRecDepth 100000 in
set_option maxHeartbeats 4000000 in
theorem nfigure_size_ok (k : Nat) (a0 : Int) (r : Int) (h : nfigure_size k a0 = some r) : VC Go.Proofs.Try.prog 63 [vi a0] (vi r) := by
  unfold nfigure_size at h
  injection h with h; subst h
  exact fun_ok pm pn Go.Proofs.Try.func63 (q := ((((True) ∧ True) ∧ (((True) ∧ (True) ∧ (True) ∧ (True) ∧ (True) ∧ True) ∧ (True))) ∧ ((True) ∧ (True)))) (r0 := vi (maxI a0 (w64 (0 - a0)))) (ans := [.reg [.n], .reg [.n, .n, .n, .n, .n]]) (fr := true) (by kernel_rfl) ⟨⟨⟨trivial, trivial⟩, ⟨⟨trivial, ⟨trivial, ⟨trivial, ⟨trivial, ⟨trivial, trivial⟩⟩⟩⟩⟩, trivial⟩⟩, ⟨trivial, trivial⟩⟩ (Wv.refl _)
def nfigure_bound (k : Nat) (a0 : SFigureTolerance) (a1 : Int) (a2 : Int) : Option Int :=
  (nfigure_size k (w64 (a1 - a2))).bind fun r191 => (some (minI a0.Peak (w64 (a0.Slope * r191))))
set_option maxRecDepth 100000 in
set_option maxHeartbeats 4000000 in
theorem nfigure_bound_ok (k : Nat) (a0 : SFigureTolerance) (a1 : Int) (a2 : Int) (r : Int) (h : nfigure_bound k a0 a1 a2 = some r) : VC Go.Proofs.Try.prog 64 [VV.ag [vi a0.Peak, vi a0.Slope], vi a1, vi a2] (vi r) := by
  unfold nfigure_bound at h
  cases h192 : nfigure_size k (w64 (a1 - a2)) with
  | none => rw [h192] at h; cases h
  | some r191 =>
    rw [h192, Option.bind_some] at h
    injection h with h; subst h
    exact fun_ok pm pn Go.Proofs.Try.func64 (q := ((((True) ∧ (True) ∧ True) ∧ (((True) ∧ (True) ∧ (True) ∧ (True) ∧ (True) ∧ (True) ∧ (True) ∧ (VC Go.Proofs.Try.prog 63 [vi (w64 (a1 - a2))] (vi r191)) ∧ (True) ∧ (True) ∧ (True) ∧ True) ∧ (True))) ∧ ((True) ∧ (True)))) (r0 := vi (minI a0.Peak (w64 (a0.Slope * r191)))) (ans := [.reg [.n, .n], .reg [.n, .n, .n, .n, .n, .n, .n, .call (vi r191), .n, .n, .n]]) (fr := true) (by kernel_rfl) ⟨⟨⟨trivial, ⟨trivial, trivial⟩⟩, ⟨⟨trivial, ⟨trivial, ⟨trivial, ⟨trivial, ⟨trivial, ⟨trivial, ⟨trivial, ⟨nfigure_size_ok k (w64 (a1 - a2)) _ h192, ⟨trivial, ⟨trivial, ⟨trivial, trivial⟩⟩⟩⟩⟩⟩⟩⟩⟩⟩⟩, trivial⟩⟩, ⟨trivial, trivial⟩⟩ (Wv.refl _)
def nspeculumbase_Abs (k : Nat) (a0 : Int) : Option Int :=
  if a0 < 0 then (some (w64 (0 - a0))) else (some a0)
set_option maxRecDepth 100000 in
set_option maxHeartbeats 4000000 in
theorem nspeculumbase_Abs_ok (k : Nat) (a0 : Int) (r : Int) (h : nspeculumbase_Abs k a0 = some r) : VC Go.Proofs.Try.prog 28 [vi a0] (vi r) := by
  unfold nspeculumbase_Abs at h
  by_cases h194 : a0 < 0
  · rw [if_pos h194] at h
    injection h with h; subst h
    exact fun_ok pm pn Go.Proofs.Try.func28 (q := ((((True) ∧ True) ∧ (((True) ∧ (True) ∧ True) ∧ (((decide (a0 < 0)) = true) ∧ (((True) ∧ (True) ∧ (True) ∧ True) ∧ (True))))) ∧ ((True) ∧ (True)))) (r0 := vi (w64 (0 - a0))) (ans := [.reg [.n], .reg [.n, .n], .br true, .reg [.n, .n, .n]]) (fr := true) (by kernel_rfl) ⟨⟨⟨trivial, trivial⟩, ⟨⟨trivial, ⟨trivial, trivial⟩⟩, ⟨(decide_eq_true h194), ⟨⟨trivial, ⟨trivial, ⟨trivial, trivial⟩⟩⟩, trivial⟩⟩⟩⟩, ⟨trivial, trivial⟩⟩ (Wv.refl _)
  · rw [if_neg h194] at h
    injection h with h; subst h
    exact fun_ok pm pn Go.Proofs.Try.func28 (q := ((((True) ∧ True) ∧ ((((True) ∧ (True) ∧ True) ∧ (((decide (a0 < 0)) = false) ∧ (True))) ∧ (((True) ∧ (True) ∧ True) ∧ (True)))) ∧ ((True) ∧ (True)))) (r0 := vi a0) (ans := [.reg [.n], .reg [.n, .n], .br false, .reg [.n, .n]]) (fr := true) (by kernel_rfl) ⟨⟨⟨trivial, trivial⟩, ⟨⟨⟨trivial, ⟨trivial, trivial⟩⟩, ⟨(decide_eq_false h194), trivial⟩⟩, ⟨⟨trivial, ⟨trivial, trivial⟩⟩, trivial⟩⟩⟩, ⟨trivial, trivial⟩⟩ (Wv.refl _)
def nspeculumref06_Bound (k : Nat) (a0 : SFigureTolerance) (a1 : Int) (a2 : Int) : Option Int :=
  (nspeculumbase_Abs k (w64 (a1 - a2))).bind fun r197 => (some (minI a0.Peak (w64 (a0.Slope * r197))))
set_option maxRecDepth 100000 in
set_option maxHeartbeats 4000000 in
theorem nspeculumref06_Bound_ok (k : Nat) (a0 : SFigureTolerance) (a1 : Int) (a2 : Int) (r : Int) (h : nspeculumref06_Bound k a0 a1 a2 = some r) : VC Go.Proofs.Try.prog 33 [VV.ag [vi a0.Peak, vi a0.Slope], vi a1, vi a2] (vi r) := by
  unfold nspeculumref06_Bound at h
  cases h198 : nspeculumbase_Abs k (w64 (a1 - a2)) with
  | none => rw [h198] at h; cases h
  | some r197 =>
    rw [h198, Option.bind_some] at h
    injection h with h; subst h
    exact fun_ok pm pn Go.Proofs.Try.func33 (q := ((((True) ∧ (True) ∧ True) ∧ (((True) ∧ (True) ∧ (True) ∧ (True) ∧ (True) ∧ (True) ∧ (True) ∧ (VC Go.Proofs.Try.prog 28 [vi (w64 (a1 - a2))] (vi r197)) ∧ (True) ∧ (True) ∧ (True) ∧ True) ∧ (True))) ∧ ((True) ∧ (True)))) (r0 := vi (minI a0.Peak (w64 (a0.Slope * r197)))) (ans := [.reg [.n, .n], .reg [.n, .n, .n, .n, .n, .n, .n, .call (vi r197), .n, .n, .n]]) (fr := true) (by kernel_rfl) ⟨⟨⟨trivial, ⟨trivial, trivial⟩⟩, ⟨⟨trivial, ⟨trivial, ⟨trivial, ⟨trivial, ⟨trivial, ⟨trivial, ⟨trivial, ⟨nspeculumbase_Abs_ok k (w64 (a1 - a2)) _ h198, ⟨trivial, ⟨trivial, ⟨trivial, trivial⟩⟩⟩⟩⟩⟩⟩⟩⟩⟩⟩, trivial⟩⟩, ⟨trivial, trivial⟩⟩ (Wv.refl _)
def nfigure_leastApart (k : Nat) (a0 : (List SRange)) (a1 : Int) (a2 : Int) : Option Int :=
  if 0 ≤ a1 ∧ a1 < (a0.length : Int) then (if 0 ≤ a2 ∧ a2 < (a0.length : Int) then (some (w64 (((a0.getD a1.toNat default).Lo) - ((a0.getD a2.toNat default).Hi)))) else none) else none
set_option maxRecDepth 100000 in
set_option maxHeartbeats 4000000 in
theorem nfigure_leastApart_ok (k : Nat) (a0 : (List SRange)) (a1 : Int) (a2 : Int) (r : Int) (h : nfigure_leastApart k a0 a1 a2 = some r) : VC Go.Proofs.Try.prog 67 [VV.tr (List.flatMap c_SRange a0) a0.length, vi a1, vi a2] (vi r) := by
  unfold nfigure_leastApart at h
  by_cases h201 : 0 ≤ a1 ∧ a1 < (a0.length : Int)
  · rw [if_pos h201] at h
    by_cases h202 : 0 ≤ a2 ∧ a2 < (a0.length : Int)
    · rw [if_pos h202] at h
      injection h with h; subst h
      exact fun_ok pm pn Go.Proofs.Try.func67 (q := ((((True) ∧ True) ∧ (((True) ∧ (True) ∧ (0 ≤ a1 ∧ a1 < ((a0.length : Nat) : Int)) ∧ (True) ∧ (loadL Go.Proofs.Try.prog 3 (a1.toNat * 2 + 0) (List.flatMap c_SRange a0) = some (vi ((a0.getD a1.toNat default).Lo))) ∧ (True) ∧ (True) ∧ (0 ≤ a2 ∧ a2 < ((a0.length : Nat) : Int)) ∧ (True) ∧ (loadL Go.Proofs.Try.prog 3 (a2.toNat * 2 + 1) (List.flatMap c_SRange a0) = some (vi ((a0.getD a2.toNat default).Hi))) ∧ (True) ∧ (True) ∧ True) ∧ (True))) ∧ ((True) ∧ (True)))) (r0 := vi (w64 (((a0.getD a1.toNat default).Lo) - ((a0.getD a2.toNat default).Hi)))) (ans := [.reg [.n], .reg [.n, .n, .n, .n, .v (vi ((a0.getD a1.toNat default).Lo)), .n, .n, .n, .n, .v (vi ((a0.getD a2.toNat default).Hi)), .n, .n]]) (fr := true) (by kernel_rfl) ⟨⟨⟨trivial, trivial⟩, ⟨⟨trivial, ⟨trivial, ⟨h201, ⟨trivial, ⟨(ld_flat ag3 c_SRange 2 0 len_c_SRange (by omega) a0 default h201 (by omega)).trans rfl, ⟨trivial, ⟨trivial, ⟨h202, ⟨trivial, ⟨(ld_flat ag3 c_SRange 2 1 len_c_SRange (by omega) a0 default h202 (by omega)).trans rfl, ⟨trivial, ⟨trivial, trivial⟩⟩⟩⟩⟩⟩⟩⟩⟩⟩⟩⟩, trivial⟩⟩, ⟨trivial, trivial⟩⟩ (Wv.refl _)
    · rw [if_neg h202] at h; cases h
  · rw [if_neg h201] at h; cases h
def nfigure_mostApart (k : Nat) (a0 : (List SRange)) (a1 : Int) (a2 : Int) : Option Int :=
  if 0 ≤ a1 ∧ a1 < (a0.length : Int) then (if 0 ≤ a2 ∧ a2 < (a0.length : Int) then (some (w64 (((a0.getD a1.toNat default).Hi) - ((a0.getD a2.toNat default).Lo)))) else none) else none
set_option maxRecDepth 100000 in
set_option maxHeartbeats 4000000 in
theorem nfigure_mostApart_ok (k : Nat) (a0 : (List SRange)) (a1 : Int) (a2 : Int) (r : Int) (h : nfigure_mostApart k a0 a1 a2 = some r) : VC Go.Proofs.Try.prog 68 [VV.tr (List.flatMap c_SRange a0) a0.length, vi a1, vi a2] (vi r) := by
  unfold nfigure_mostApart at h
  by_cases h205 : 0 ≤ a1 ∧ a1 < (a0.length : Int)
  · rw [if_pos h205] at h
    by_cases h206 : 0 ≤ a2 ∧ a2 < (a0.length : Int)
    · rw [if_pos h206] at h
      injection h with h; subst h
      exact fun_ok pm pn Go.Proofs.Try.func68 (q := ((((True) ∧ True) ∧ (((True) ∧ (True) ∧ (0 ≤ a1 ∧ a1 < ((a0.length : Nat) : Int)) ∧ (True) ∧ (loadL Go.Proofs.Try.prog 3 (a1.toNat * 2 + 1) (List.flatMap c_SRange a0) = some (vi ((a0.getD a1.toNat default).Hi))) ∧ (True) ∧ (True) ∧ (0 ≤ a2 ∧ a2 < ((a0.length : Nat) : Int)) ∧ (True) ∧ (loadL Go.Proofs.Try.prog 3 (a2.toNat * 2 + 0) (List.flatMap c_SRange a0) = some (vi ((a0.getD a2.toNat default).Lo))) ∧ (True) ∧ (True) ∧ True) ∧ (True))) ∧ ((True) ∧ (True)))) (r0 := vi (w64 (((a0.getD a1.toNat default).Hi) - ((a0.getD a2.toNat default).Lo)))) (ans := [.reg [.n], .reg [.n, .n, .n, .n, .v (vi ((a0.getD a1.toNat default).Hi)), .n, .n, .n, .n, .v (vi ((a0.getD a2.toNat default).Lo)), .n, .n]]) (fr := true) (by kernel_rfl) ⟨⟨⟨trivial, trivial⟩, ⟨⟨trivial, ⟨trivial, ⟨h205, ⟨trivial, ⟨(ld_flat ag3 c_SRange 2 1 len_c_SRange (by omega) a0 default h205 (by omega)).trans rfl, ⟨trivial, ⟨trivial, ⟨h206, ⟨trivial, ⟨(ld_flat ag3 c_SRange 2 0 len_c_SRange (by omega) a0 default h206 (by omega)).trans rfl, ⟨trivial, ⟨trivial, trivial⟩⟩⟩⟩⟩⟩⟩⟩⟩⟩⟩⟩, trivial⟩⟩, ⟨trivial, trivial⟩⟩ (Wv.refl _)
    · rw [if_neg h206] at h; cases h
  · rw [if_neg h205] at h; cases h
def nfigure_pairs (k : Nat) (a0 : Int) : Option Int :=
  some a0
set_option maxRecDepth 100000 in
set_option maxHeartbeats 4000000 in
theorem nfigure_pairs_ok (k : Nat) (a0 : Int) (r : Int) (h : nfigure_pairs k a0 = some r) : VC Go.Proofs.Try.prog 62 [vi a0] (VV.fn 105 [VV.tp [vi r] 0]) := by
  unfold nfigure_pairs at h
  injection h with h; subst h
  exact fun_ok pm pn Go.Proofs.Try.func62 (q := ((((True) ∧ (True) ∧ True) ∧ (((True) ∧ (True) ∧ True) ∧ (True))) ∧ ((True) ∧ (True)))) (r0 := VV.fn 105 [VV.tp (List.map unfr [vi a0]) 0]) (ans := [.reg [.n, .n], .reg [.n, .n]]) (fr := false) (by kernel_rfl) ⟨⟨⟨trivial, ⟨trivial, trivial⟩⟩, ⟨⟨trivial, ⟨trivial, trivial⟩⟩, trivial⟩⟩, ⟨trivial, trivial⟩⟩ (Wv.of_eq rfl)
end Go.Proofs.Ytlhkkbdfdkjlcaa.Vg

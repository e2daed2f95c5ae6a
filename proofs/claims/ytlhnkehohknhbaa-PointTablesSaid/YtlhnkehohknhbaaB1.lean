/- Written by a program out of the program: what Go functions do, as plain functions, and their contracts. -/
import Derived.Test.YtlhnkehohknhbaaVw
namespace Go.Proofs.Ytlhnkehohknhbaa.Vg
set_option linter.unusedVariables false
set_option linter.unusedSimpArgs false
open Go Go.Proofs.Ytlhnkehohknhbaa.Ev Go.Proofs.Ytlhnkehohknhbaa.Vv
structure SSkyRow where
  At : Int
  Value : Int
  deriving Inhabited
def c_SSkyRow (x : SSkyRow) : List VV := [vi x.At, vi x.Value]
theorem len_c_SSkyRow (x : SSkyRow) : (c_SSkyRow x).length = 2 := rfl
theorem still_c_SSkyRow (xs : List SSkyRow) : (xs.flatMap c_SSkyRow).all VV.still = true := all_flat (fun _ => rfl) xs
theorem isC_c_SSkyRow (xs : List SSkyRow) : (xs.flatMap c_SSkyRow).all VV.isC = true := all_flat (fun _ => rfl) xs
theorem new0_c_SSkyRow (xs : List SSkyRow) : (xs.flatMap c_SSkyRow).all new0 = true := all_flat (fun _ => rfl) xs
theorem unfr_c_SSkyRow (xs : List SSkyRow) : (xs.flatMap c_SSkyRow).map unfr = xs.flatMap c_SSkyRow := unfr_flat (fun _ => rfl) xs
theorem ag3 : isAggT Go.Proofs.Try.prog 3 = some false := by kernel_rfl
theorem ag77 : isAggT Go.Proofs.Try.prog 77 = some true := by kernel_rfl
theorem sz77 : szOf Go.Proofs.Try.prog 77 = some 2 := by kernel_rfl
def nspeculumlaw09_rows (k : Nat) (a0 : (List SSkyRow)) : Option Bool :=
  if (a0.length : Int) ≤ 6 then (some true) else (if 40 < (a0.length : Int) then (some (decide ((a0.length : Int) ≤ 43))) else (some false))
set_option maxRecDepth 100000 in
set_option maxHeartbeats 4000000 in
theorem nspeculumlaw09_rows_ok (k : Nat) (a0 : (List SSkyRow)) (r : Bool) (h : nspeculumlaw09_rows k a0 = some r) : VC Go.Proofs.Try.prog 43 [VV.tr (List.flatMap c_SSkyRow a0) a0.length] (vb r) := by
  unfold nspeculumlaw09_rows at h
  by_cases h3 : (a0.length : Int) ≤ 6
  · rw [if_pos h3] at h
    injection h with h; subst h
    exact fun_ok pm pn Go.Proofs.Try.func43 (r0 := vb true) (ans := [.reg [.n], .reg [.n, .n, .n, .n, .skip, .skip, .skip, .skip, .skip, .skip, .skip, .skip, .b true, .n]]) (fr := true) (by kernel_rfl) (an (an (ti trivial) (an (ti (ti (ti (ti (an (decide_eq_true h3) (an (decide_eq_true h3) (an (decide_eq_true h3) (an (decide_eq_true h3) (ti (ti (ti (an (decide_eq_true h3) (an (decide_eq_true h3) (ti trivial)))))))))))))) trivial)) (ti trivial)) (Wv.refl _)
  · rw [if_neg h3] at h
    by_cases h4 : 40 < (a0.length : Int)
    · rw [if_pos h4] at h
      injection h with h; subst h
      exact fun_ok pm pn Go.Proofs.Try.func43 (r0 := vb (decide ((a0.length : Int) ≤ 43))) (ans := [.reg [.n], .reg [.n, .n, .n, .n, .n, .n, .n, .n, .n, .n, .n, .b true, .b false, .n]]) (fr := true) (by kernel_rfl) (an (an (ti trivial) (an (ti (ti (ti (ti (an (an (decide_eq_false h3) trivial) (an (an (decide_eq_false h3) trivial) (an (an (decide_eq_false h3) trivial) (an (an (decide_eq_false h3) trivial) (an (an (decide_eq_true h4) trivial) (an (an (decide_eq_true h4) trivial) (an (an (decide_eq_true h4) trivial) (an (an (decide_eq_false h3) (decide_eq_true h4)) (an (decide_eq_false h3) (ti trivial)))))))))))))) trivial)) (ti trivial)) (Wv.refl _)
    · rw [if_neg h4] at h
      injection h with h; subst h
      exact fun_ok pm pn Go.Proofs.Try.func43 (r0 := vb false) (ans := [.reg [.n], .reg [.n, .n, .n, .n, .n, .n, .n, .n, .skip, .skip, .skip, .b false, .b false, .n]]) (fr := true) (by kernel_rfl) (an (an (ti trivial) (an (ti (ti (ti (ti (an (an (decide_eq_false h3) trivial) (an (an (decide_eq_false h3) trivial) (an (an (decide_eq_false h3) trivial) (an (an (decide_eq_false h3) trivial) (an (decide_eq_false h4) (an (decide_eq_false h4) (an (decide_eq_false h4) (an (an (decide_eq_false h3) (decide_eq_false h4)) (an (decide_eq_false h3) (ti trivial)))))))))))))) trivial)) (ti trivial)) (Wv.refl _)
def nspeculumlaw09_table (k : Nat) (a0 : (List SSkyRow)) : Option (List SSkyRow) :=
  if ([] : List SSkyRow).length + a0.length ≤ 1000000000 then (some (([] : List SSkyRow) ++ a0)) else none
set_option maxRecDepth 100000 in
set_option maxHeartbeats 4000000 in
theorem nspeculumlaw09_table_ok (k : Nat) (a0 : (List SSkyRow)) (r : (List SSkyRow)) (h : nspeculumlaw09_table k a0 = some r) : VC Go.Proofs.Try.prog 45 [VV.tr (List.flatMap c_SSkyRow a0) a0.length] (VV.fw 2 (List.flatMap c_SSkyRow r) r.length) := by
  unfold nspeculumlaw09_table at h
  by_cases h6 : ([] : List SSkyRow).length + a0.length ≤ 1000000000
  · rw [if_pos h6] at h
    injection h with h; subst h
    exact fun_ok pm pn Go.Proofs.Try.func45 (r0 := VV.fw 2 (List.drop 0 (List.map unfr ([] ++ (List.flatMap c_SSkyRow a0)))) (0 + a0.length)) (ans := [.reg [.n], .reg [.n, .n, .n, .n]]) (fr := true) (by kernel_rfl) (an (an (ti trivial) (an (ti (ti (an (show List.length [] = 0 * 2 ∧ List.length (List.flatMap c_SSkyRow a0) = a0.length * 2 ∧ (0 + a0.length) * 16 ≤ 140737488355328 ∧ 0 + a0.length < 1099511627776 ∧ List.all (List.flatMap c_SSkyRow a0) VV.still = true from ⟨(by rw [show [] = List.flatMap c_SSkyRow ([] : List SSkyRow) from rfl]; rw [flatMap_len len_c_SSkyRow] <;> simp), (by rw [flatMap_len len_c_SSkyRow] <;> simp), by simp at h6 ⊢; omega, by simp at h6 ⊢; omega, (by exact still_c_SSkyRow _)⟩) (ti trivial)))) trivial)) (an (show List.all ([] ++ (List.flatMap c_SSkyRow a0)) new0 = true from (by rw [show [] ++ (List.flatMap c_SSkyRow a0) = List.flatMap c_SSkyRow (([] : List SSkyRow) ++ a0) from (by rw [show [] = List.flatMap c_SSkyRow ([] : List SSkyRow) from rfl]; exact List.flatMap_append.symm)]; exact new0_c_SSkyRow _)) trivial)) (Wv.of_eq (by simp only [show [] ++ (List.flatMap c_SSkyRow a0) = List.flatMap c_SSkyRow (([] : List SSkyRow) ++ a0) from (by rw [show [] = List.flatMap c_SSkyRow ([] : List SSkyRow) from rfl]; exact List.flatMap_append.symm), drop0, unfr_vi, unfr_vb, unfr_vs, List.map_cons, List.map_nil, un_i, un_k, un_b, un_s, un_tr, un_fr, List.length_map, List.length_replicate, List.length_append, List.length_set, List.length_cons, List.length_nil, unfr_c_SSkyRow]))
  · rw [if_neg h6] at h; cases h
def npoint_areWithin_l0_0 (k : Nat) (a0 : Int) (a1 : Int) (a2 : (List Int)) : Nat → Int → Option (Sum Unit Unit)
  | 0, _ => none
  | fuel + 1, x11 => if x11 < (a2.length : Int) then (if 0 ≤ x11 ∧ x11 < (a2.length : Int) then (if (a2.getD x11.toNat 0) < a0 then (some (.inl ())) else (if a1 < (a2.getD x11.toNat 0) then (some (.inl ())) else (npoint_areWithin_l0_0 k a0 a1 a2 fuel (w64 (x11 + 1))))) else none) else (some (.inr ()))
set_option maxRecDepth 100000 in
set_option maxHeartbeats 4000000 in
theorem npoint_areWithin_l0_0_ok (k : Nat) (a0 : Int) (a1 : Int) (a2 : (List Int)) : ∀ (fuel : Nat) (x11 : Int) (r : Sum Unit Unit), npoint_areWithin_l0_0 k a0 a1 a2 fuel x11 = some r → (match r with | .inl r => VLoop none Go.Proofs.Try.prog (szF Go.Proofs.Try.f90) (bodyOf Go.Proofs.Try.f90 0) ⟨mkA [(0, vi a0), (1, vi a1), (9, VV.tr (List.map vi a2) a2.length), (10, vi (a2.length : Int)), (11, vi x11)], [], .nil⟩ .ret ⟨mkA [(6, vb false)], [], .nil⟩ | .inr r => VLoop none Go.Proofs.Try.prog (szF Go.Proofs.Try.f90) (bodyOf Go.Proofs.Try.f90 0) ⟨mkA [(0, vi a0), (1, vi a1), (9, VV.tr (List.map vi a2) a2.length), (10, vi (a2.length : Int)), (11, vi x11)], [], .nil⟩ (.exit 0) ⟨mkA [], [], .nil⟩) := by
  intro fuel
  induction fuel with
  | zero => intro x11 r h; rw [npoint_areWithin_l0_0.eq_1] at h; cases h
  | succ fuel ih =>
    intro x11 r h
    rw [npoint_areWithin_l0_0.eq_2] at h
    by_cases h31 : x11 < (a2.length : Int)
    · rw [if_pos h31] at h
      by_cases h32 : 0 ≤ x11 ∧ x11 < (a2.length : Int)
      · rw [if_pos h32] at h
        by_cases h33 : (a2.getD x11.toNat 0) < a0
        · rw [if_pos h33] at h
          injection h with h; subst h
          exact round_stop (c := ⟨[(6, none)], [], []⟩) (s1 := ⟨mkA [(6, vb false)], [], .nil⟩) pm pn (ans := [.reg [.n], .br true, .reg [.n, .v (vi (a2.getD x11.toNat 0)), .n], .reg [.n, .n, .n, .n, .skip, .skip, .skip, .b true], .br true, .reg [.n]]) (by kernel_rfl) (by intro e; cases e) (an (an (ti trivial) (an (an (decide_eq_true h31) trivial) (an (an h32 (an (show loadL Go.Proofs.Try.prog 3 (x11.toNat * 1) (List.map vi a2) = some (vi (a2.getD x11.toNat 0)) from ld_map ag3 vi a2 0 h32 (by omega)) (ti trivial))) (an (ti (ti (ti (ti (an (decide_eq_true h33) (an (decide_eq_true h33) (an (decide_eq_true h33) (an (decide_eq_true h33) trivial)))))))) (an rt (an (ti trivial) trivial)))))) (ti trivial))
        · rw [if_neg h33] at h
          by_cases h34 : a1 < (a2.getD x11.toNat 0)
          · rw [if_pos h34] at h
            injection h with h; subst h
            exact round_stop (c := ⟨[(6, none)], [], []⟩) (s1 := ⟨mkA [(6, vb false)], [], .nil⟩) pm pn (ans := [.reg [.n], .br true, .reg [.n, .v (vi (a2.getD x11.toNat 0)), .n], .reg [.n, .n, .n, .n, .n, .n, .n, .b false], .br true, .reg [.n]]) (by kernel_rfl) (by intro e; cases e) (an (an (ti trivial) (an (an (decide_eq_true h31) trivial) (an (an h32 (an (show loadL Go.Proofs.Try.prog 3 (x11.toNat * 1) (List.map vi a2) = some (vi (a2.getD x11.toNat 0)) from ld_map ag3 vi a2 0 h32 (by omega)) (ti trivial))) (an (ti (ti (ti (ti (an (an (decide_eq_false h33) trivial) (an (an (decide_eq_false h33) trivial) (an (an (decide_eq_false h33) trivial) (an (decide_eq_false h33) trivial)))))))) (an (decide_eq_true h34) (an (ti trivial) trivial)))))) (ti trivial))
          · rw [if_neg h34] at h
            have h2 := ih _ _ h
            obtain ⟨q, hv, hq⟩ := pkR (rd := none) (P := Go.Proofs.Try.prog) (fn := Go.Proofs.Try.f90) (k := 0) (s := ⟨mkA [(0, vi a0), (1, vi a1), (9, VV.tr (List.map vi a2) a2.length), (10, vi (a2.length : Int)), (11, vi x11)], [], .nil⟩) (ans := [.reg [.n], .br true, .reg [.n, .v (vi (a2.getD x11.toNat 0)), .n], .reg [.n, .n, .n, .n, .n, .n, .n, .b false], .br false, .reg [.n, .n]]) (c := ⟨[(0, none), (1, none), (9, none), (10, none), (11, none)], [], []⟩) (e := .normal) (s1 := ⟨mkA [(0, vi a0), (1, vi a1), (9, VV.tr (List.map vi a2) a2.length), (10, vi (a2.length : Int)), (11, vi (w64 (x11 + 1)))], [], .nil⟩) (an (an (ti trivial) (an (an (decide_eq_true h31) trivial) (an (an (an h32 (an (show loadL Go.Proofs.Try.prog 3 (x11.toNat * 1) (List.map vi a2) = some (vi (a2.getD x11.toNat 0)) from ld_map ag3 vi a2 0 h32 (by omega)) (ti trivial))) (an (ti (ti (ti (ti (an (an (decide_eq_false h33) trivial) (an (an (decide_eq_false h33) trivial) (an (an (decide_eq_false h33) trivial) (an (decide_eq_false h33) trivial)))))))) (an (decide_eq_false h34) trivial))) (ti (ti trivial))))) (ti trivial)) (by kernel_rfl)
            cases r with
            | inl r => exact round_next pm pn hv hq h2
            | inr r =>
              exact round_next pm pn hv hq h2
      · rw [if_neg h32] at h; cases h
    · rw [if_neg h31] at h
      injection h with h; subst h
      exact round_stop (c := ⟨[], [], []⟩) (s1 := ⟨mkA [], [], .nil⟩) pm pn (ans := [.reg [.n], .br false]) (by kernel_rfl) (by intro e; cases e) (an (an (ti trivial) (an (decide_eq_false h31) trivial)) (ti trivial))
def npoint_areWithin (k : Nat) (a0 : Int) (a1 : Int) (a2 : (List Int)) : Option Bool :=
  (npoint_areWithin_l0_0 k a0 a1 a2 k 0).bind fun r36 => (match r36 with | .inl r37 => (some false) | .inr r38 => (some true))
set_option maxRecDepth 100000 in
set_option maxHeartbeats 4000000 in
theorem npoint_areWithin_ok (k : Nat) (a0 : Int) (a1 : Int) (a2 : (List Int)) (r : Bool) (h : npoint_areWithin k a0 a1 a2 = some r) : VC Go.Proofs.Try.prog 90 [vi a0, vi a1, VV.tr (List.map vi a2) a2.length] (vb r) := by
  unfold npoint_areWithin at h
  cases h35 : npoint_areWithin_l0_0 k a0 a1 a2 k 0 with
  | none => rw [h35] at h; cases h
  | some r36 =>
    rw [h35, Option.bind_some] at h
    have hph35 := npoint_areWithin_l0_0_ok k a0 a1 a2 _ _ _ h35
    cases r36 with
    | inl r37 =>
      dsimp only at h
      injection h with h; subst h
      exact fun_ok pm pn Go.Proofs.Try.func90 (r0 := vb false) (ans := [.reg [.n], .reg [.n, .n, .n], .sub ⟨[(0, none), (1, none), (9, none), (10, none), (11, none)], [], []⟩ .ret ⟨mkA [(6, vb false)], [], .nil⟩]) (fr := true) (by kernel_rfl) (an (an (ti trivial) (an (ti (ti (ti trivial))) (an (ti trivial) (VRun.loop hph35)))) (ti trivial)) (Wv.refl _)
    | inr r38 =>
      dsimp only at h
      injection h with h; subst h
      exact fun_ok pm pn Go.Proofs.Try.func90 (r0 := vb true) (ans := [.reg [.n], .reg [.n, .n, .n], .sub ⟨[(0, none), (1, none), (9, none), (10, none), (11, none)], [], []⟩ (.exit 0) ⟨mkA [], [], .nil⟩, .reg [.n]]) (fr := true) (by kernel_rfl) (an (an (ti trivial) (an (an (ti (ti (ti trivial))) (an (ti trivial) (VRun.loop hph35))) (an (ti trivial) trivial))) (ti trivial)) (Wv.refl _)
def npoint_areSmall (k : Nat) (a0 : Int) (a1 : (List Int)) : Option Bool :=
  (npoint_areWithin k (w64 (0 - a0)) a0 a1).bind fun r46 => (some r46)
set_option maxRecDepth 100000 in
set_option maxHeartbeats 4000000 in
theorem npoint_areSmall_ok (k : Nat) (a0 : Int) (a1 : (List Int)) (r : Bool) (h : npoint_areSmall k a0 a1 = some r) : VC Go.Proofs.Try.prog 85 [vi a0, VV.tr (List.map vi a1) a1.length] (vb r) := by
  unfold npoint_areSmall at h
  cases h47 : npoint_areWithin k (w64 (0 - a0)) a0 a1 with
  | none => rw [h47] at h; cases h
  | some r46 =>
    rw [h47, Option.bind_some] at h
    injection h with h; subst h
    exact fun_ok pm pn Go.Proofs.Try.func85 (r0 := vb r46) (ans := [.reg [.n], .reg [.n, .n, .n, .n, .call (vb r46), .n]]) (fr := true) (by kernel_rfl) (an (an (ti trivial) (an (ti (ti (ti (ti (an (npoint_areWithin_ok k (w64 (0 - a0)) a0 a1 _ h47) (ti trivial)))))) trivial)) (ti trivial)) (Wv.refl _)
def npoint_CheckTable_l0_0 (k : Nat) (a0 : (List SSkyRow)) : Nat → Int → Option (Sum Int Unit)
  | 0, _ => none
  | fuel + 1, x12 => if x12 < (a0.length : Int) then (if 0 ≤ x12 ∧ x12 < (a0.length : Int) then ((npoint_areSmall k 1000000 ([(a0.getD x12.toNat default).At, (a0.getD x12.toNat default).Value] : List Int)).bind fun r89 => (if r89 = true then (if 0 < x12 then (if 0 ≤ w64 (x12 - 1) ∧ w64 (x12 - 1) < (a0.length : Int) then (if ((a0.getD x12.toNat default).At) ≤ ((a0.getD (w64 (x12 - 1)).toNat default).At) then (some (.inl 9)) else (npoint_CheckTable_l0_0 k a0 fuel (w64 (x12 + 1)))) else none) else (npoint_CheckTable_l0_0 k a0 fuel (w64 (x12 + 1)))) else (some (.inl 2)))) else none) else (some (.inr ()))
set_option maxRecDepth 100000 in
set_option maxHeartbeats 4000000 in
theorem npoint_CheckTable_l0_0_ok (k : Nat) (a0 : (List SSkyRow)) : ∀ (fuel : Nat) (x12 : Int) (r : Sum Int Unit), npoint_CheckTable_l0_0 k a0 fuel x12 = some r → (match r with | .inl r => VLoop none Go.Proofs.Try.prog (szF Go.Proofs.Try.f47) (bodyOf Go.Proofs.Try.f47 0) ⟨mkA [(0, VV.tr (List.flatMap c_SSkyRow a0) a0.length), (10, VV.tr (List.flatMap c_SSkyRow a0) a0.length), (11, vi (a0.length : Int)), (12, vi x12)], [], .nil⟩ .ret ⟨mkA [(2, vi r)], [], .nil⟩ | .inr r => VLoop none Go.Proofs.Try.prog (szF Go.Proofs.Try.f47) (bodyOf Go.Proofs.Try.f47 0) ⟨mkA [(0, VV.tr (List.flatMap c_SSkyRow a0) a0.length), (10, VV.tr (List.flatMap c_SSkyRow a0) a0.length), (11, vi (a0.length : Int)), (12, vi x12)], [], .nil⟩ (.exit 0) ⟨mkA [], [], .nil⟩) := by
  intro fuel
  induction fuel with
  | zero => intro x12 r h; rw [npoint_CheckTable_l0_0.eq_1] at h; cases h
  | succ fuel ih =>
    intro x12 r h
    rw [npoint_CheckTable_l0_0.eq_2] at h
    by_cases h87 : x12 < (a0.length : Int)
    · rw [if_pos h87] at h
      by_cases h88 : 0 ≤ x12 ∧ x12 < (a0.length : Int)
      · rw [if_pos h88] at h
        cases h90 : npoint_areSmall k 1000000 ([(a0.getD x12.toNat default).At, (a0.getD x12.toNat default).Value] : List Int) with
        | none => rw [h90] at h; cases h
        | some r89 =>
          rw [h90, Option.bind_some] at h
          by_cases h91 : r89 = true
          · rw [if_pos h91] at h
            by_cases h92 : 0 < x12
            · rw [if_pos h92] at h
              by_cases h93 : 0 ≤ w64 (x12 - 1) ∧ w64 (x12 - 1) < (a0.length : Int)
              · rw [if_pos h93] at h
                by_cases h94 : ((a0.getD x12.toNat default).At) ≤ ((a0.getD (w64 (x12 - 1)).toNat default).At)
                · rw [if_pos h94] at h
                  injection h with h; subst h
                  exact round_stop (c := ⟨[(2, none)], [], []⟩) (s1 := ⟨mkA [(2, vi 9)], [], .nil⟩) pm pn (ans := [.reg [.n], .br true, .reg [.n, .n, .v (VV.ag [vi ((a0.getD x12.toNat default).At), vi ((a0.getD x12.toNat default).Value)]), .n, .n, .n], .reg [.n, .n, .n, .n, .n, .call (vb r89), .n, .n], .br false, .reg [.n, .n, .n, .n, .n, .n, .n, .n, .n, .n, .v (vi ((a0.getD (w64 (x12 - 1)).toNat default).At)), .n, .b true, .n], .br true, .reg [.n]]) (by kernel_rfl) (by intro e; cases e) (an (an (ti trivial) (an (an (decide_eq_true h87) trivial) (an (ti (an h88 (an (show loadL Go.Proofs.Try.prog 77 (x12.toNat * 2) (List.flatMap c_SSkyRow a0) = some (VV.ag [vi ((a0.getD x12.toNat default).At), vi ((a0.getD x12.toNat default).Value)]) from ld_whole ag77 c_SSkyRow 2 sz77 len_c_SSkyRow a0 default h88 (by omega)) (ti (ti (ti trivial)))))) (an (ti (ti (ti (ti (ti (an (show VC Go.Proofs.Try.prog 85 [vi 1000000, VV.tr (List.drop 0 (List.map unfr [vi ((a0.getD x12.toNat default).At), vi ((a0.getD x12.toNat default).Value)])) 2] (vb r89) from (VC.args (npoint_areSmall_ok k 1000000 ([(a0.getD x12.toNat default).At, (a0.getD x12.toNat default).Value] : List Int) _ h90) (by first | rfl | simp only [show [vi ((a0.getD x12.toNat default).At), vi ((a0.getD x12.toNat default).Value)] = List.map vi ([(a0.getD x12.toNat default).At, (a0.getD x12.toNat default).Value] : List Int) from rfl, drop0, unfr_vi, unfr_vb, unfr_vs, List.map_cons, List.map_nil, un_i, un_k, un_b, un_s, un_tr, un_fr, List.length_map, List.length_replicate, List.length_append, List.length_set, List.length_cons, List.length_nil, unfr_c_SSkyRow]))) (ti (ti trivial)))))))) (an (not_f h91) (an (ti (ti (ti (an (an (decide_eq_true h92) trivial) (an (an (decide_eq_true h92) trivial) (an (an (decide_eq_true h92) trivial) (an (an (decide_eq_true h92) trivial) (an (an (decide_eq_true h92) trivial) (an (an (decide_eq_true h92) h93) (an (an (decide_eq_true h92) trivial) (an (an (decide_eq_true h92) (show loadL Go.Proofs.Try.prog 3 ((w64 (x12 - 1)).toNat * 2 + 0) (List.flatMap c_SSkyRow a0) = some (vi ((a0.getD (w64 (x12 - 1)).toNat default).At)) from (ld_flat ag3 c_SSkyRow 2 0 len_c_SSkyRow (by omega) a0 default h93 (by omega)).trans rfl)) (an (an (decide_eq_true h92) trivial) (an (decide_eq_true h92) (ti trivial)))))))))))))) (an (decide_eq_true h94) (an (ti trivial) trivial)))))))) (ti trivial))
                · rw [if_neg h94] at h
                  have h2 := ih _ _ h
                  obtain ⟨q, hv, hq⟩ := pkR (rd := none) (P := Go.Proofs.Try.prog) (fn := Go.Proofs.Try.f47) (k := 0) (s := ⟨mkA [(0, VV.tr (List.flatMap c_SSkyRow a0) a0.length), (10, VV.tr (List.flatMap c_SSkyRow a0) a0.length), (11, vi (a0.length : Int)), (12, vi x12)], [], .nil⟩) (ans := [.reg [.n], .br true, .reg [.n, .n, .v (VV.ag [vi ((a0.getD x12.toNat default).At), vi ((a0.getD x12.toNat default).Value)]), .n, .n, .n], .reg [.n, .n, .n, .n, .n, .call (vb r89), .n, .n], .br false, .reg [.n, .n, .n, .n, .n, .n, .n, .n, .n, .n, .v (vi ((a0.getD (w64 (x12 - 1)).toNat default).At)), .n, .b true, .n], .br false, .reg [.n, .n]]) (c := ⟨[(0, none), (10, none), (11, none), (12, none)], [], []⟩) (e := .normal) (s1 := ⟨mkA [(0, VV.tr (List.flatMap c_SSkyRow a0) a0.length), (10, VV.tr (List.flatMap c_SSkyRow a0) a0.length), (11, vi (a0.length : Int)), (12, vi (w64 (x12 + 1)))], [], .nil⟩) (an (an (ti trivial) (an (an (decide_eq_true h87) trivial) (an (an (ti (an h88 (an (show loadL Go.Proofs.Try.prog 77 (x12.toNat * 2) (List.flatMap c_SSkyRow a0) = some (VV.ag [vi ((a0.getD x12.toNat default).At), vi ((a0.getD x12.toNat default).Value)]) from ld_whole ag77 c_SSkyRow 2 sz77 len_c_SSkyRow a0 default h88 (by omega)) (ti (ti (ti trivial)))))) (an (ti (ti (ti (ti (ti (an (show VC Go.Proofs.Try.prog 85 [vi 1000000, VV.tr (List.drop 0 (List.map unfr [vi ((a0.getD x12.toNat default).At), vi ((a0.getD x12.toNat default).Value)])) 2] (vb r89) from (VC.args (npoint_areSmall_ok k 1000000 ([(a0.getD x12.toNat default).At, (a0.getD x12.toNat default).Value] : List Int) _ h90) (by first | rfl | simp only [show [vi ((a0.getD x12.toNat default).At), vi ((a0.getD x12.toNat default).Value)] = List.map vi ([(a0.getD x12.toNat default).At, (a0.getD x12.toNat default).Value] : List Int) from rfl, drop0, unfr_vi, unfr_vb, unfr_vs, List.map_cons, List.map_nil, un_i, un_k, un_b, un_s, un_tr, un_fr, List.length_map, List.length_replicate, List.length_append, List.length_set, List.length_cons, List.length_nil, unfr_c_SSkyRow]))) (ti (ti trivial)))))))) (an (not_f h91) (an (ti (ti (ti (an (an (decide_eq_true h92) trivial) (an (an (decide_eq_true h92) trivial) (an (an (decide_eq_true h92) trivial) (an (an (decide_eq_true h92) trivial) (an (an (decide_eq_true h92) trivial) (an (an (decide_eq_true h92) h93) (an (an (decide_eq_true h92) trivial) (an (an (decide_eq_true h92) (show loadL Go.Proofs.Try.prog 3 ((w64 (x12 - 1)).toNat * 2 + 0) (List.flatMap c_SSkyRow a0) = some (vi ((a0.getD (w64 (x12 - 1)).toNat default).At)) from (ld_flat ag3 c_SSkyRow 2 0 len_c_SSkyRow (by omega) a0 default h93 (by omega)).trans rfl)) (an (an (decide_eq_true h92) trivial) (an (decide_eq_true h92) (ti trivial)))))))))))))) (an (decide_eq_false h94) trivial))))) (ti (ti trivial))))) (ti trivial)) (by kernel_rfl)
                  cases r with
                  | inl r => exact round_next pm pn hv hq h2
                  | inr r =>
                    exact round_next pm pn hv hq h2
              · rw [if_neg h93] at h; cases h
            · rw [if_neg h92] at h
              have h2 := ih _ _ h
              obtain ⟨q, hv, hq⟩ := pkR (rd := none) (P := Go.Proofs.Try.prog) (fn := Go.Proofs.Try.f47) (k := 0) (s := ⟨mkA [(0, VV.tr (List.flatMap c_SSkyRow a0) a0.length), (10, VV.tr (List.flatMap c_SSkyRow a0) a0.length), (11, vi (a0.length : Int)), (12, vi x12)], [], .nil⟩) (ans := [.reg [.n], .br true, .reg [.n, .n, .v (VV.ag [vi ((a0.getD x12.toNat default).At), vi ((a0.getD x12.toNat default).Value)]), .n, .n, .n], .reg [.n, .n, .n, .n, .n, .call (vb r89), .n, .n], .br false, .reg [.n, .n, .n, .skip, .skip, .skip, .skip, .skip, .skip, .skip, .skip, .skip, .b false, .n], .br false, .reg [.n, .n]]) (c := ⟨[(0, none), (10, none), (11, none), (12, none)], [], []⟩) (e := .normal) (s1 := ⟨mkA [(0, VV.tr (List.flatMap c_SSkyRow a0) a0.length), (10, VV.tr (List.flatMap c_SSkyRow a0) a0.length), (11, vi (a0.length : Int)), (12, vi (w64 (x12 + 1)))], [], .nil⟩) (an (an (ti trivial) (an (an (decide_eq_true h87) trivial) (an (an (ti (an h88 (an (show loadL Go.Proofs.Try.prog 77 (x12.toNat * 2) (List.flatMap c_SSkyRow a0) = some (VV.ag [vi ((a0.getD x12.toNat default).At), vi ((a0.getD x12.toNat default).Value)]) from ld_whole ag77 c_SSkyRow 2 sz77 len_c_SSkyRow a0 default h88 (by omega)) (ti (ti (ti trivial)))))) (an (ti (ti (ti (ti (ti (an (show VC Go.Proofs.Try.prog 85 [vi 1000000, VV.tr (List.drop 0 (List.map unfr [vi ((a0.getD x12.toNat default).At), vi ((a0.getD x12.toNat default).Value)])) 2] (vb r89) from (VC.args (npoint_areSmall_ok k 1000000 ([(a0.getD x12.toNat default).At, (a0.getD x12.toNat default).Value] : List Int) _ h90) (by first | rfl | simp only [show [vi ((a0.getD x12.toNat default).At), vi ((a0.getD x12.toNat default).Value)] = List.map vi ([(a0.getD x12.toNat default).At, (a0.getD x12.toNat default).Value] : List Int) from rfl, drop0, unfr_vi, unfr_vb, unfr_vs, List.map_cons, List.map_nil, un_i, un_k, un_b, un_s, un_tr, un_fr, List.length_map, List.length_replicate, List.length_append, List.length_set, List.length_cons, List.length_nil, unfr_c_SSkyRow]))) (ti (ti trivial)))))))) (an (not_f h91) (an (ti (ti (ti (an (decide_eq_false h92) (an (decide_eq_false h92) (an (decide_eq_false h92) (an (decide_eq_false h92) (an (decide_eq_false h92) (an (decide_eq_false h92) (an (decide_eq_false h92) (an (decide_eq_false h92) (an (decide_eq_false h92) (an (decide_eq_false h92) (ti trivial)))))))))))))) (an rf trivial))))) (ti (ti trivial))))) (ti trivial)) (by kernel_rfl)
              cases r with
              | inl r => exact round_next pm pn hv hq h2
              | inr r =>
                exact round_next pm pn hv hq h2
          · rw [if_neg h91] at h
            injection h with h; subst h
            exact round_stop (c := ⟨[(2, none)], [], []⟩) (s1 := ⟨mkA [(2, vi 2)], [], .nil⟩) pm pn (ans := [.reg [.n], .br true, .reg [.n, .n, .v (VV.ag [vi ((a0.getD x12.toNat default).At), vi ((a0.getD x12.toNat default).Value)]), .n, .n, .n], .reg [.n, .n, .n, .n, .n, .call (vb r89), .n, .n], .br true, .reg [.n]]) (by kernel_rfl) (by intro e; cases e) (an (an (ti trivial) (an (an (decide_eq_true h87) trivial) (an (ti (an h88 (an (show loadL Go.Proofs.Try.prog 77 (x12.toNat * 2) (List.flatMap c_SSkyRow a0) = some (VV.ag [vi ((a0.getD x12.toNat default).At), vi ((a0.getD x12.toNat default).Value)]) from ld_whole ag77 c_SSkyRow 2 sz77 len_c_SSkyRow a0 default h88 (by omega)) (ti (ti (ti trivial)))))) (an (ti (ti (ti (ti (ti (an (show VC Go.Proofs.Try.prog 85 [vi 1000000, VV.tr (List.drop 0 (List.map unfr [vi ((a0.getD x12.toNat default).At), vi ((a0.getD x12.toNat default).Value)])) 2] (vb r89) from (VC.args (npoint_areSmall_ok k 1000000 ([(a0.getD x12.toNat default).At, (a0.getD x12.toNat default).Value] : List Int) _ h90) (by first | rfl | simp only [show [vi ((a0.getD x12.toNat default).At), vi ((a0.getD x12.toNat default).Value)] = List.map vi ([(a0.getD x12.toNat default).At, (a0.getD x12.toNat default).Value] : List Int) from rfl, drop0, unfr_vi, unfr_vb, unfr_vs, List.map_cons, List.map_nil, un_i, un_k, un_b, un_s, un_tr, un_fr, List.length_map, List.length_replicate, List.length_append, List.length_set, List.length_cons, List.length_nil, unfr_c_SSkyRow]))) (ti (ti trivial)))))))) (an (not_t (bool_f h91)) (an (ti trivial) trivial)))))) (ti trivial))
      · rw [if_neg h88] at h; cases h
    · rw [if_neg h87] at h
      injection h with h; subst h
      exact round_stop (c := ⟨[], [], []⟩) (s1 := ⟨mkA [], [], .nil⟩) pm pn (ans := [.reg [.n], .br false]) (by kernel_rfl) (by intro e; cases e) (an (an (ti trivial) (an (decide_eq_false h87) trivial)) (ti trivial))
def npoint_CheckTable (k : Nat) (a0 : (List SSkyRow)) : Option Int :=
  (npoint_areWithin k 1 40 ([(a0.length : Int)] : List Int)).bind fun r71 => (if r71 = true then ((npoint_CheckTable_l0_0 k a0 k 0).bind fun r96 => (match r96 with | .inl r97 => (some r97) | .inr r98 => (some 0))) else (some 10))
set_option maxRecDepth 100000 in
set_option maxHeartbeats 4000000 in
theorem npoint_CheckTable_ok (k : Nat) (a0 : (List SSkyRow)) (r : Int) (h : npoint_CheckTable k a0 = some r) : VC Go.Proofs.Try.prog 47 [VV.tr (List.flatMap c_SSkyRow a0) a0.length] (vi r) := by
  unfold npoint_CheckTable at h
  cases h72 : npoint_areWithin k 1 40 ([(a0.length : Int)] : List Int) with
  | none => rw [h72] at h; cases h
  | some r71 =>
    rw [h72, Option.bind_some] at h
    by_cases h73 : r71 = true
    · rw [if_pos h73] at h
      cases h95 : npoint_CheckTable_l0_0 k a0 k 0 with
      | none => rw [h95] at h; cases h
      | some r96 =>
        rw [h95, Option.bind_some] at h
        have hph95 := npoint_CheckTable_l0_0_ok k a0 _ _ _ h95
        cases r96 with
        | inl r97 =>
          dsimp only at h
          injection h with h; subst h
          exact fun_ok pm pn Go.Proofs.Try.func47 (r0 := vi r97) (ans := [.reg [.n], .reg [.n, .n, .n, .call (vb r71), .n], .br false, .reg [.n, .n, .n], .sub ⟨[(0, none), (10, none), (11, none), (12, none)], [], []⟩ .ret ⟨mkA [(2, vi r97)], [], .nil⟩]) (fr := true) (by kernel_rfl) (an (an (ti trivial) (an (an (ti (ti (ti (an (show VC Go.Proofs.Try.prog 90 [vi 1, vi 40, VV.tr (List.drop 0 (List.map unfr [vi (a0.length : Int)])) 1] (vb r71) from (VC.args (npoint_areWithin_ok k 1 40 ([(a0.length : Int)] : List Int) _ h72) (by first | rfl | simp only [show [vi (a0.length : Int)] = List.map vi ([(a0.length : Int)] : List Int) from rfl, drop0, unfr_vi, unfr_vb, unfr_vs, List.map_cons, List.map_nil, un_i, un_k, un_b, un_s, un_tr, un_fr, List.length_map, List.length_replicate, List.length_append, List.length_set, List.length_cons, List.length_nil, unfr_c_SSkyRow]))) (ti trivial))))) (an (not_f h73) trivial)) (an (ti (ti (ti trivial))) (an (ti trivial) (VRun.loop hph95))))) (ti trivial)) (Wv.refl _)
        | inr r98 =>
          dsimp only at h
          injection h with h; subst h
          exact fun_ok pm pn Go.Proofs.Try.func47 (r0 := vi 0) (ans := [.reg [.n], .reg [.n, .n, .n, .call (vb r71), .n], .br false, .reg [.n, .n, .n], .sub ⟨[(0, none), (10, none), (11, none), (12, none)], [], []⟩ (.exit 0) ⟨mkA [], [], .nil⟩, .reg [.n]]) (fr := true) (by kernel_rfl) (an (an (ti trivial) (an (an (ti (ti (ti (an (show VC Go.Proofs.Try.prog 90 [vi 1, vi 40, VV.tr (List.drop 0 (List.map unfr [vi (a0.length : Int)])) 1] (vb r71) from (VC.args (npoint_areWithin_ok k 1 40 ([(a0.length : Int)] : List Int) _ h72) (by first | rfl | simp only [show [vi (a0.length : Int)] = List.map vi ([(a0.length : Int)] : List Int) from rfl, drop0, unfr_vi, unfr_vb, unfr_vs, List.map_cons, List.map_nil, un_i, un_k, un_b, un_s, un_tr, un_fr, List.length_map, List.length_replicate, List.length_append, List.length_set, List.length_cons, List.length_nil, unfr_c_SSkyRow]))) (ti trivial))))) (an (not_f h73) trivial)) (an (an (ti (ti (ti trivial))) (an (ti trivial) (VRun.loop hph95))) (an (ti trivial) trivial)))) (ti trivial)) (Wv.refl _)
    · rw [if_neg h73] at h
      injection h with h; subst h
      exact fun_ok pm pn Go.Proofs.Try.func47 (r0 := vi 10) (ans := [.reg [.n], .reg [.n, .n, .n, .call (vb r71), .n], .br true, .reg [.n]]) (fr := true) (by kernel_rfl) (an (an (ti trivial) (an (ti (ti (ti (an (show VC Go.Proofs.Try.prog 90 [vi 1, vi 40, VV.tr (List.drop 0 (List.map unfr [vi (a0.length : Int)])) 1] (vb r71) from (VC.args (npoint_areWithin_ok k 1 40 ([(a0.length : Int)] : List Int) _ h72) (by first | rfl | simp only [show [vi (a0.length : Int)] = List.map vi ([(a0.length : Int)] : List Int) from rfl, drop0, unfr_vi, unfr_vb, unfr_vs, List.map_cons, List.map_nil, un_i, un_k, un_b, un_s, un_tr, un_fr, List.length_map, List.length_replicate, List.length_append, List.length_set, List.length_cons, List.length_nil, unfr_c_SSkyRow]))) (ti trivial))))) (an (not_t (bool_f h73)) (an (ti trivial) trivial)))) (ti trivial)) (Wv.refl _)
def npoint_valueAt_1 (k : Nat) (a0 : SSkyRow) (q0_0 : Int) : Option Bool :=
  some (decide (q0_0 < a0.At))
set_option maxRecDepth 100000 in
set_option maxHeartbeats 4000000 in
theorem npoint_valueAt_1_ok (k : Nat) (a0 : SSkyRow) (q0_0 : Int) (r : Bool) (h : npoint_valueAt_1 k a0 q0_0 = some r) : VC Go.Proofs.Try.prog 131 [VV.ag [vi a0.At, vi a0.Value], VV.tp [vi q0_0] 0] (vb r) := by
  unfold npoint_valueAt_1 at h
  injection h with h; subst h
  exact fun_ok pm pn Go.Proofs.Try.func131 (r0 := vb (decide (q0_0 < a0.At))) (ans := [.reg [.n, .n], .reg [.n, .n, .v (vi q0_0), .n, .n]]) (fr := true) (by kernel_rfl) (an (an (ti (ti trivial)) (an (ti (ti (an (show loadL Go.Proofs.Try.prog 3 0 [vi q0_0] = some (vi q0_0) from (ld_one ag3 rfl)) (ti (ti trivial))))) trivial)) (ti trivial)) (Wv.refl _)
set_option maxRecDepth 100000 in
theorem eqB1_0 (z0 : (List SSkyRow)) (z1 : Int) : [VV.ag [vi ((⟨(z0.getD ((0 : Int)).toNat default).At, (z0.getD ((0 : Int)).toNat default).Value⟩ : SSkyRow).At), vi ((⟨(z0.getD ((0 : Int)).toNat default).At, (z0.getD ((0 : Int)).toNat default).Value⟩ : SSkyRow).Value)], VV.tp [vi z1] 0] = [VV.ag [vi ((z0.getD ((0 : Int)).toNat default).At), vi ((z0.getD ((0 : Int)).toNat default).Value)], VV.tp [vi z1] 0] := by first | rfl | simp only [drop0, unfr_vi, unfr_vb, unfr_vs, List.map_cons, List.map_nil, un_i, un_k, un_b, un_s, un_tr, un_fr, List.length_map, List.length_replicate, List.length_append, List.length_set, List.length_cons, List.length_nil, unfr_c_SSkyRow]
set_option maxRecDepth 100000 in
theorem eqB1_1 (z0 : (List SSkyRow)) (z1 : Int) (z2 : Int) : [VV.ag [vi ((⟨(z0.getD z1.toNat default).At, (z0.getD z1.toNat default).Value⟩ : SSkyRow).At), vi ((⟨(z0.getD z1.toNat default).At, (z0.getD z1.toNat default).Value⟩ : SSkyRow).Value)], VV.tp [vi z2] 0] = [VV.ag [vi ((z0.getD z1.toNat default).At), vi ((z0.getD z1.toNat default).Value)], VV.tp [vi z2] 0] := by first | rfl | simp only [drop0, unfr_vi, unfr_vb, unfr_vs, List.map_cons, List.map_nil, un_i, un_k, un_b, un_s, un_tr, un_fr, List.length_map, List.length_replicate, List.length_append, List.length_set, List.length_cons, List.length_nil, unfr_c_SSkyRow]
def nslices_IndexFunc_api_SkyRow_api_SkyRow__c1_131_l0_0 (k : Nat) (a0 : (List SSkyRow)) (a1_0_0 : Int) : Nat → Int → Option (Sum Int Unit)
  | 0, _ => none
  | fuel + 1, x8 => if x8 < (a0.length : Int) then (if 0 ≤ x8 ∧ x8 < (a0.length : Int) then ((npoint_valueAt_1 k (⟨(a0.getD x8.toNat default).At, (a0.getD x8.toNat default).Value⟩ : SSkyRow) a1_0_0).bind fun r130 => (if r130 = true then (some (.inl x8)) else (nslices_IndexFunc_api_SkyRow_api_SkyRow__c1_131_l0_0 k a0 a1_0_0 fuel (w64 (x8 + 1))))) else none) else (some (.inr ()))
set_option maxRecDepth 100000 in
set_option maxHeartbeats 4000000 in
theorem nslices_IndexFunc_api_SkyRow_api_SkyRow__c1_131_l0_0_ok (k : Nat) (a0 : (List SSkyRow)) (a1_0_0 : Int) : ∀ (fuel : Nat) (x8 : Int) (r : Sum Int Unit), nslices_IndexFunc_api_SkyRow_api_SkyRow__c1_131_l0_0 k a0 a1_0_0 fuel x8 = some r → (match r with | .inl r => VLoop none Go.Proofs.Try.prog (szF Go.Proofs.Try.f130) (bodyOf Go.Proofs.Try.f130 0) ⟨mkA [(0, VV.tr (List.flatMap c_SSkyRow a0) a0.length), (1, VV.fn 131 [VV.tp [vi a1_0_0] 0]), (7, vi (a0.length : Int)), (8, vi x8)], [], .nil⟩ .ret ⟨mkA [(4, vi r)], [], .nil⟩ | .inr r => VLoop none Go.Proofs.Try.prog (szF Go.Proofs.Try.f130) (bodyOf Go.Proofs.Try.f130 0) ⟨mkA [(0, VV.tr (List.flatMap c_SSkyRow a0) a0.length), (1, VV.fn 131 [VV.tp [vi a1_0_0] 0]), (7, vi (a0.length : Int)), (8, vi x8)], [], .nil⟩ (.exit 0) ⟨mkA [], [], .nil⟩) := by
  intro fuel
  induction fuel with
  | zero => intro x8 r h; rw [nslices_IndexFunc_api_SkyRow_api_SkyRow__c1_131_l0_0.eq_1] at h; cases h
  | succ fuel ih =>
    intro x8 r h
    rw [nslices_IndexFunc_api_SkyRow_api_SkyRow__c1_131_l0_0.eq_2] at h
    by_cases h128 : x8 < (a0.length : Int)
    · rw [if_pos h128] at h
      by_cases h129 : 0 ≤ x8 ∧ x8 < (a0.length : Int)
      · rw [if_pos h129] at h
        cases h131 : npoint_valueAt_1 k (⟨(a0.getD x8.toNat default).At, (a0.getD x8.toNat default).Value⟩ : SSkyRow) a1_0_0 with
        | none => rw [h131] at h; cases h
        | some r130 =>
          rw [h131, Option.bind_some] at h
          by_cases h132 : r130 = true
          · rw [if_pos h132] at h
            injection h with h; subst h
            exact round_stop (c := ⟨[(4, none)], [], []⟩) (s1 := ⟨mkA [(4, vi x8)], [], .nil⟩) pm pn (ans := [.reg [.n], .br true, .reg [.n, .n], .reg [.n, .n, .n, .n, .v (VV.ag [vi ((a0.getD x8.toNat default).At), vi ((a0.getD x8.toNat default).Value)]), .call (vb r130)], .br true, .reg [.n, .n]]) (by kernel_rfl) (by intro e; cases e) (an (an (ti trivial) (an (an (decide_eq_true h128) trivial) (an (ti (ti trivial)) (an (ti (ti (ti (an h129 (an (show loadL Go.Proofs.Try.prog 77 (x8.toNat * 2) (List.flatMap c_SSkyRow a0) = some (VV.ag [vi ((a0.getD x8.toNat default).At), vi ((a0.getD x8.toNat default).Value)]) from ld_whole ag77 c_SSkyRow 2 sz77 len_c_SSkyRow a0 default h129 (by omega)) (an (show VC Go.Proofs.Try.prog 131 [VV.ag [vi ((a0.getD x8.toNat default).At), vi ((a0.getD x8.toNat default).Value)], VV.tp [vi a1_0_0] 0] (vb r130) from (VC.args (npoint_valueAt_1_ok k (⟨(a0.getD x8.toNat default).At, (a0.getD x8.toNat default).Value⟩ : SSkyRow) a1_0_0 _ h131) (eqB1_1 a0 x8 a1_0_0))) trivial)))))) (an h132 (an (ti (ti trivial)) trivial)))))) (ti trivial))
          · rw [if_neg h132] at h
            have h2 := ih _ _ h
            obtain ⟨q, hv, hq⟩ := pkR (rd := none) (P := Go.Proofs.Try.prog) (fn := Go.Proofs.Try.f130) (k := 0) (s := ⟨mkA [(0, VV.tr (List.flatMap c_SSkyRow a0) a0.length), (1, VV.fn 131 [VV.tp [vi a1_0_0] 0]), (7, vi (a0.length : Int)), (8, vi x8)], [], .nil⟩) (ans := [.reg [.n], .br true, .reg [.n, .n], .reg [.n, .n, .n, .n, .v (VV.ag [vi ((a0.getD x8.toNat default).At), vi ((a0.getD x8.toNat default).Value)]), .call (vb r130)], .br false, .reg [.n, .n]]) (c := ⟨[(0, none), (1, none), (7, none), (8, none)], [], []⟩) (e := .normal) (s1 := ⟨mkA [(0, VV.tr (List.flatMap c_SSkyRow a0) a0.length), (1, VV.fn 131 [VV.tp [vi a1_0_0] 0]), (7, vi (a0.length : Int)), (8, vi (w64 (x8 + 1)))], [], .nil⟩) (an (an (ti trivial) (an (an (decide_eq_true h128) trivial) (an (an (ti (ti trivial)) (an (ti (ti (ti (an h129 (an (show loadL Go.Proofs.Try.prog 77 (x8.toNat * 2) (List.flatMap c_SSkyRow a0) = some (VV.ag [vi ((a0.getD x8.toNat default).At), vi ((a0.getD x8.toNat default).Value)]) from ld_whole ag77 c_SSkyRow 2 sz77 len_c_SSkyRow a0 default h129 (by omega)) (an (show VC Go.Proofs.Try.prog 131 [VV.ag [vi ((a0.getD x8.toNat default).At), vi ((a0.getD x8.toNat default).Value)], VV.tp [vi a1_0_0] 0] (vb r130) from (VC.args (npoint_valueAt_1_ok k (⟨(a0.getD x8.toNat default).At, (a0.getD x8.toNat default).Value⟩ : SSkyRow) a1_0_0 _ h131) (eqB1_1 a0 x8 a1_0_0))) trivial)))))) (an (bool_f h132) trivial))) (ti (ti trivial))))) (ti trivial)) (by kernel_rfl)
            cases r with
            | inl r => exact round_next pm pn hv hq h2
            | inr r =>
              exact round_next pm pn hv hq h2
      · rw [if_neg h129] at h; cases h
    · rw [if_neg h128] at h
      injection h with h; subst h
      exact round_stop (c := ⟨[], [], []⟩) (s1 := ⟨mkA [], [], .nil⟩) pm pn (ans := [.reg [.n], .br false]) (by kernel_rfl) (by intro e; cases e) (an (an (ti trivial) (an (decide_eq_false h128) trivial)) (ti trivial))
def nslices_IndexFunc_api_SkyRow_api_SkyRow__c1_131 (k : Nat) (a0 : (List SSkyRow)) (a1_0_0 : Int) : Option Int :=
  (nslices_IndexFunc_api_SkyRow_api_SkyRow__c1_131_l0_0 k a0 a1_0_0 k 0).bind fun r134 => (match r134 with | .inl r135 => (some r135) | .inr r136 => (some (-1)))
set_option maxRecDepth 100000 in
set_option maxHeartbeats 4000000 in
theorem nslices_IndexFunc_api_SkyRow_api_SkyRow__c1_131_ok (k : Nat) (a0 : (List SSkyRow)) (a1_0_0 : Int) (r : Int) (h : nslices_IndexFunc_api_SkyRow_api_SkyRow__c1_131 k a0 a1_0_0 = some r) : VC Go.Proofs.Try.prog 130 [VV.tr (List.flatMap c_SSkyRow a0) a0.length, VV.fn 131 [VV.tp [vi a1_0_0] 0]] (vi r) := by
  unfold nslices_IndexFunc_api_SkyRow_api_SkyRow__c1_131 at h
  cases h133 : nslices_IndexFunc_api_SkyRow_api_SkyRow__c1_131_l0_0 k a0 a1_0_0 k 0 with
  | none => rw [h133] at h; cases h
  | some r134 =>
    rw [h133, Option.bind_some] at h
    have hph133 := nslices_IndexFunc_api_SkyRow_api_SkyRow__c1_131_l0_0_ok k a0 a1_0_0 _ _ _ h133
    cases r134 with
    | inl r135 =>
      dsimp only at h
      injection h with h; subst h
      exact fun_ok pm pn Go.Proofs.Try.func130 (r0 := vi r135) (ans := [.reg [.n], .reg [.n, .n, .n], .sub ⟨[(0, none), (1, none), (7, none), (8, none)], [], []⟩ .ret ⟨mkA [(4, vi r135)], [], .nil⟩]) (fr := true) (by kernel_rfl) (an (an (ti trivial) (an (ti (ti (ti trivial))) (an (ti trivial) (VRun.loop hph133)))) (ti trivial)) (Wv.refl _)
    | inr r136 =>
      dsimp only at h
      injection h with h; subst h
      exact fun_ok pm pn Go.Proofs.Try.func130 (r0 := vi (-1)) (ans := [.reg [.n], .reg [.n, .n, .n], .sub ⟨[(0, none), (1, none), (7, none), (8, none)], [], []⟩ (.exit 0) ⟨mkA [], [], .nil⟩, .reg [.n]]) (fr := true) (by kernel_rfl) (an (an (ti trivial) (an (an (ti (ti (ti trivial))) (an (ti trivial) (VRun.loop hph133))) (an (ti trivial) trivial))) (ti trivial)) (Wv.refl _)
set_option maxRecDepth 100000 in
theorem eqB1_2 (z0 : (List SSkyRow)) (z1 : Int) : [VV.tr (List.flatMap c_SSkyRow z0) z0.length, VV.fn 131 [VV.tp [vi z1] 0]] = [VV.tr (List.flatMap c_SSkyRow z0) z0.length, VV.fn 131 [VV.tp (List.map unfr [vi z1]) 0]] := by first | rfl | simp only [drop0, unfr_vi, unfr_vb, unfr_vs, List.map_cons, List.map_nil, un_i, un_k, un_b, un_s, un_tr, un_fr, List.length_map, List.length_replicate, List.length_append, List.length_set, List.length_cons, List.length_nil, unfr_c_SSkyRow]
def npoint_down (k : Nat) (a0 : Int) (a1 : Int) : Option Int :=
  if a1 ≠ 0 then (if (a0.tmod a1) < 0 then (some (w64 ((w64 (a0.tdiv a1)) - 1))) else (some (w64 (a0.tdiv a1)))) else none
set_option maxRecDepth 100000 in
set_option maxHeartbeats 4000000 in
theorem npoint_down_ok (k : Nat) (a0 : Int) (a1 : Int) (r : Int) (h : npoint_down k a0 a1 = some r) : VC Go.Proofs.Try.prog 101 [vi a0, vi a1] (vi r) := by
  unfold npoint_down at h
  by_cases h147 : a1 ≠ 0
  · rw [if_pos h147] at h
    by_cases h148 : (a0.tmod a1) < 0
    · rw [if_pos h148] at h
      injection h with h; subst h
      exact fun_ok pm pn Go.Proofs.Try.func101 (r0 := vi (w64 ((w64 (a0.tdiv a1)) - 1))) (ans := [.reg [.n], .reg [.n, .n, .n, .n], .br true, .reg [.n, .n, .n, .n, .n]]) (fr := true) (by kernel_rfl) (an (an (ti trivial) (an (ti (ti (an h147 (ti trivial)))) (an (decide_eq_true h148) (an (ti (ti (an h147 (ti (ti trivial))))) trivial)))) (ti trivial)) (Wv.refl _)
    · rw [if_neg h148] at h
      injection h with h; subst h
      exact fun_ok pm pn Go.Proofs.Try.func101 (r0 := vi (w64 (a0.tdiv a1))) (ans := [.reg [.n], .reg [.n, .n, .n, .n], .br false, .reg [.n, .n, .n, .n]]) (fr := true) (by kernel_rfl) (an (an (ti trivial) (an (an (ti (ti (an h147 (ti trivial)))) (an (decide_eq_false h148) trivial)) (an (ti (ti (an h147 (ti trivial)))) trivial))) (ti trivial)) (Wv.refl _)
  · rw [if_neg h147] at h; cases h
def npoint_valueAt (k : Nat) (a0 : (List SSkyRow)) (a1 : Int) : Option Int :=
  (nslices_IndexFunc_api_SkyRow_api_SkyRow__c1_131 k a0 a1).bind fun r151 => (if r151 = (-1) then (if 0 ≤ w64 ((a0.length : Int) - 1) ∧ w64 ((a0.length : Int) - 1) < (a0.length : Int) then (some ((a0.getD (w64 ((a0.length : Int) - 1)).toNat default).Value)) else none) else (if r151 = 0 then (if (0 : Int) ≤ 0 ∧ 0 < (a0.length : Int) then (some ((a0.getD ((0 : Int)).toNat default).Value)) else none) else (if 0 ≤ w64 (r151 - 1) ∧ w64 (r151 - 1) < (a0.length : Int) then (if 0 ≤ r151 ∧ r151 < (a0.length : Int) then ((npoint_down k (w64 ((w64 (((a0.getD r151.toNat default).Value) - ((a0.getD (w64 (r151 - 1)).toNat default).Value))) * (w64 (a1 - ((a0.getD (w64 (r151 - 1)).toNat default).At))))) (w64 (((a0.getD r151.toNat default).At) - ((a0.getD (w64 (r151 - 1)).toNat default).At)))).bind fun r159 => (some (w64 (((a0.getD (w64 (r151 - 1)).toNat default).Value) + r159)))) else none) else none)))
set_option maxRecDepth 100000 in
set_option maxHeartbeats 4000000 in
theorem npoint_valueAt_ok (k : Nat) (a0 : (List SSkyRow)) (a1 : Int) (r : Int) (h : npoint_valueAt k a0 a1 = some r) : VC Go.Proofs.Try.prog 104 [VV.tr (List.flatMap c_SSkyRow a0) a0.length, vi a1] (vi r) := by
  unfold npoint_valueAt at h
  cases h152 : nslices_IndexFunc_api_SkyRow_api_SkyRow__c1_131 k a0 a1 with
  | none => rw [h152] at h; cases h
  | some r151 =>
    rw [h152, Option.bind_some] at h
    by_cases h153 : r151 = (-1)
    · rw [if_pos h153] at h
      by_cases h154 : 0 ≤ w64 ((a0.length : Int) - 1) ∧ w64 ((a0.length : Int) - 1) < (a0.length : Int)
      · rw [if_pos h154] at h
        injection h with h; subst h
        exact fun_ok pm pn Go.Proofs.Try.func104 (r0 := vi ((a0.getD (w64 ((a0.length : Int) - 1)).toNat default).Value)) (ans := [.reg [.n, .n], .reg [.n, .n, .call (vi r151), .n], .reg [.n], .reg [.n, .n], .br true, .reg [.n, .n, .n, .n, .n, .n, .v (vi ((a0.getD (w64 ((a0.length : Int) - 1)).toNat default).Value)), .n]]) (fr := true) (by kernel_rfl) (an (an (ti (ti trivial)) (an (ti (ti (an (show VC Go.Proofs.Try.prog 130 [VV.tr (List.flatMap c_SSkyRow a0) a0.length, VV.fn 131 [VV.tp (List.map unfr [vi a1]) 0]] (vi r151) from (VC.args (nslices_IndexFunc_api_SkyRow_api_SkyRow__c1_131_ok k a0 a1 _ h152) (eqB1_2 a0 a1))) (ti trivial)))) (an (ti trivial) (an (ti (ti trivial)) (an (decide_eq_true h153) (an (ti (ti (ti (ti (an h154 (ti (an (show loadL Go.Proofs.Try.prog 3 ((w64 ((a0.length : Int) - 1)).toNat * 2 + 1) (List.flatMap c_SSkyRow a0) = some (vi ((a0.getD (w64 ((a0.length : Int) - 1)).toNat default).Value)) from (ld_flat ag3 c_SSkyRow 2 1 len_c_SSkyRow (by omega) a0 default h154 (by omega)).trans rfl) (ti trivial)))))))) trivial)))))) (ti trivial)) (Wv.refl _)
      · rw [if_neg h154] at h; cases h
    · rw [if_neg h153] at h
      by_cases h155 : r151 = 0
      · rw [if_pos h155] at h
        by_cases h156 : (0 : Int) ≤ 0 ∧ 0 < (a0.length : Int)
        · rw [if_pos h156] at h
          injection h with h; subst h
          exact fun_ok pm pn Go.Proofs.Try.func104 (r0 := vi ((a0.getD ((0 : Int)).toNat default).Value)) (ans := [.reg [.n, .n], .reg [.n, .n, .call (vi r151), .n], .reg [.n], .reg [.n, .n], .br false, .reg [.n, .n], .br true, .reg [.n, .n, .n, .v (vi ((a0.getD ((0 : Int)).toNat default).Value)), .n]]) (fr := true) (by kernel_rfl) (an (an (ti (ti trivial)) (an (ti (ti (an (show VC Go.Proofs.Try.prog 130 [VV.tr (List.flatMap c_SSkyRow a0) a0.length, VV.fn 131 [VV.tp (List.map unfr [vi a1]) 0]] (vi r151) from (VC.args (nslices_IndexFunc_api_SkyRow_api_SkyRow__c1_131_ok k a0 a1 _ h152) (eqB1_2 a0 a1))) (ti trivial)))) (an (ti trivial) (an (ti (ti trivial)) (an (decide_eq_false h153) (an (ti (ti trivial)) (an (decide_eq_true h155) (an (ti (an h156 (ti (an (show loadL Go.Proofs.Try.prog 3 (((0 : Int)).toNat * 2 + 1) (List.flatMap c_SSkyRow a0) = some (vi ((a0.getD ((0 : Int)).toNat default).Value)) from (ld_flat ag3 c_SSkyRow 2 1 len_c_SSkyRow (by omega) a0 default h156 (by omega)).trans rfl) (ti trivial))))) trivial)))))))) (ti trivial)) (Wv.refl _)
        · rw [if_neg h156] at h; cases h
      · rw [if_neg h155] at h
        by_cases h157 : 0 ≤ w64 (r151 - 1) ∧ w64 (r151 - 1) < (a0.length : Int)
        · rw [if_pos h157] at h
          by_cases h158 : 0 ≤ r151 ∧ r151 < (a0.length : Int)
          · rw [if_pos h158] at h
            cases h160 : npoint_down k (w64 ((w64 (((a0.getD r151.toNat default).Value) - ((a0.getD (w64 (r151 - 1)).toNat default).Value))) * (w64 (a1 - ((a0.getD (w64 (r151 - 1)).toNat default).At))))) (w64 (((a0.getD r151.toNat default).At) - ((a0.getD (w64 (r151 - 1)).toNat default).At))) with
            | none => rw [h160] at h; cases h
            | some r159 =>
              rw [h160, Option.bind_some] at h
              injection h with h; subst h
              exact fun_ok pm pn Go.Proofs.Try.func104 (r0 := vi (w64 (((a0.getD (w64 (r151 - 1)).toNat default).Value) + r159))) (ans := [.reg [.n, .n], .reg [.n, .n, .call (vi r151), .n], .reg [.n], .reg [.n, .n], .br false, .reg [.n, .n], .br false, .reg [.n, .n, .n, .n, .v (VV.ag [vi ((a0.getD (w64 (r151 - 1)).toNat default).At), vi ((a0.getD (w64 (r151 - 1)).toNat default).Value)]), .n, .n, .n, .v (VV.ag [vi ((a0.getD r151.toNat default).At), vi ((a0.getD r151.toNat default).Value)]), .n, .n, .n, .n], .reg [.n, .n, .n, .n, .n, .n, .n, .n, .n, .n, .n, .n, .n, .n, .n, .n, .n, .call (vi r159), .n, .n]]) (fr := true) (by kernel_rfl) (an (an (ti (ti trivial)) (an (ti (ti (an (show VC Go.Proofs.Try.prog 130 [VV.tr (List.flatMap c_SSkyRow a0) a0.length, VV.fn 131 [VV.tp (List.map unfr [vi a1]) 0]] (vi r151) from (VC.args (nslices_IndexFunc_api_SkyRow_api_SkyRow__c1_131_ok k a0 a1 _ h152) (eqB1_2 a0 a1))) (ti trivial)))) (an (an (ti trivial) (an (ti (ti trivial)) (an (decide_eq_false h153) (an (ti (ti trivial)) (an (decide_eq_false h155) trivial))))) (an (ti (ti (ti (an h157 (an (show loadL Go.Proofs.Try.prog 77 ((w64 (r151 - 1)).toNat * 2) (List.flatMap c_SSkyRow a0) = some (VV.ag [vi ((a0.getD (w64 (r151 - 1)).toNat default).At), vi ((a0.getD (w64 (r151 - 1)).toNat default).Value)]) from ld_whole ag77 c_SSkyRow 2 sz77 len_c_SSkyRow a0 default h157 (by omega)) (ti (ti (an h158 (an (show loadL Go.Proofs.Try.prog 77 (r151.toNat * 2) (List.flatMap c_SSkyRow a0) = some (VV.ag [vi ((a0.getD r151.toNat default).At), vi ((a0.getD r151.toNat default).Value)]) from ld_whole ag77 c_SSkyRow 2 sz77 len_c_SSkyRow a0 default h158 (by omega)) (ti (ti (ti (ti trivial))))))))))))) (an (ti (ti (ti (ti (ti (ti (ti (ti (ti (ti (ti (ti (ti (ti (ti (ti (ti (an (npoint_down_ok k (w64 ((w64 (((a0.getD r151.toNat default).Value) - ((a0.getD (w64 (r151 - 1)).toNat default).Value))) * (w64 (a1 - ((a0.getD (w64 (r151 - 1)).toNat default).At))))) (w64 (((a0.getD r151.toNat default).At) - ((a0.getD (w64 (r151 - 1)).toNat default).At))) _ h160) (ti (ti trivial)))))))))))))))))))) trivial))))) (ti trivial)) (Wv.refl _)
          · rw [if_neg h158] at h; cases h
        · rw [if_neg h157] at h; cases h
def npoint_TableAt (k : Nat) (a0 : (List SSkyRow)) (a1 : Int) : Option (Int × Int) :=
  (npoint_CheckTable k a0).bind fun r169 => (if r169 = 0 then ((npoint_areSmall k 1000000 ([a1] : List Int)).bind fun r172 => (if r172 = true then ((npoint_valueAt k a0 a1).bind fun r175 => (some (r175, 0))) else (some (0, 2)))) else (some (0, r169)))
set_option maxRecDepth 100000 in
set_option maxHeartbeats 4000000 in
theorem npoint_TableAt_ok (k : Nat) (a0 : (List SSkyRow)) (a1 : Int) (r : (Int × Int)) (h : npoint_TableAt k a0 a1 = some r) : VC Go.Proofs.Try.prog 44 [VV.tr (List.flatMap c_SSkyRow a0) a0.length, vi a1] (VV.tu [vi r.1, vi r.2]) := by
  unfold npoint_TableAt at h
  cases h170 : npoint_CheckTable k a0 with
  | none => rw [h170] at h; cases h
  | some r169 =>
    rw [h170, Option.bind_some] at h
    by_cases h171 : r169 = 0
    · rw [if_pos h171] at h
      cases h173 : npoint_areSmall k 1000000 ([a1] : List Int) with
      | none => rw [h173] at h; cases h
      | some r172 =>
        rw [h173, Option.bind_some] at h
        by_cases h174 : r172 = true
        · rw [if_pos h174] at h
          cases h176 : npoint_valueAt k a0 a1 with
          | none => rw [h176] at h; cases h
          | some r175 =>
            rw [h176, Option.bind_some] at h
            injection h with h; subst h
            exact fun_ok pm pn Go.Proofs.Try.func44 (r0 := VV.tu [vi r175, vi 0]) (ans := [.reg [.n, .n], .reg [.n, .call (vi r169), .n], .reg [.n, .n], .br false, .reg [.n, .n, .call (vb r172), .n], .br false, .reg [.n, .n, .call (vi r175), .n, .n]]) (fr := true) (by kernel_rfl) (an (an (ti (ti trivial)) (an (an (ti (an (npoint_CheckTable_ok k a0 _ h170) (ti trivial))) (an (ti (ti trivial)) (an (not_f (decide_eq_true h171)) trivial))) (an (an (ti (ti (an (show VC Go.Proofs.Try.prog 85 [vi 1000000, VV.tr (List.drop 0 (List.map unfr [vi a1])) 1] (vb r172) from (VC.args (npoint_areSmall_ok k 1000000 ([a1] : List Int) _ h173) (by first | rfl | simp only [show [vi a1] = List.map vi ([a1] : List Int) from rfl, drop0, unfr_vi, unfr_vb, unfr_vs, List.map_cons, List.map_nil, un_i, un_k, un_b, un_s, un_tr, un_fr, List.length_map, List.length_replicate, List.length_append, List.length_set, List.length_cons, List.length_nil, unfr_c_SSkyRow]))) (ti trivial)))) (an (not_f h174) trivial)) (an (ti (ti (an (npoint_valueAt_ok k a0 a1 _ h176) (ti (ti trivial))))) trivial)))) (ti (ti trivial))) (Wv.refl _)
        · rw [if_neg h174] at h
          injection h with h; subst h
          exact fun_ok pm pn Go.Proofs.Try.func44 (r0 := VV.tu [vi 0, vi 2]) (ans := [.reg [.n, .n], .reg [.n, .call (vi r169), .n], .reg [.n, .n], .br false, .reg [.n, .n, .call (vb r172), .n], .br true, .reg [.n, .n]]) (fr := true) (by kernel_rfl) (an (an (ti (ti trivial)) (an (an (ti (an (npoint_CheckTable_ok k a0 _ h170) (ti trivial))) (an (ti (ti trivial)) (an (not_f (decide_eq_true h171)) trivial))) (an (ti (ti (an (show VC Go.Proofs.Try.prog 85 [vi 1000000, VV.tr (List.drop 0 (List.map unfr [vi a1])) 1] (vb r172) from (VC.args (npoint_areSmall_ok k 1000000 ([a1] : List Int) _ h173) (by first | rfl | simp only [show [vi a1] = List.map vi ([a1] : List Int) from rfl, drop0, unfr_vi, unfr_vb, unfr_vs, List.map_cons, List.map_nil, un_i, un_k, un_b, un_s, un_tr, un_fr, List.length_map, List.length_replicate, List.length_append, List.length_set, List.length_cons, List.length_nil, unfr_c_SSkyRow]))) (ti trivial)))) (an (not_t (bool_f h174)) (an (ti (ti trivial)) trivial))))) (ti (ti trivial))) (Wv.refl _)
    · rw [if_neg h171] at h
      injection h with h; subst h
      exact fun_ok pm pn Go.Proofs.Try.func44 (r0 := VV.tu [vi 0, vi r169]) (ans := [.reg [.n, .n], .reg [.n, .call (vi r169), .n], .reg [.n, .n], .br true, .reg [.n, .n, .n]]) (fr := true) (by kernel_rfl) (an (an (ti (ti trivial)) (an (ti (an (npoint_CheckTable_ok k a0 _ h170) (ti trivial))) (an (ti (ti trivial)) (an (not_t (decide_eq_false h171)) (an (ti (ti (ti trivial))) trivial))))) (ti (ti trivial))) (Wv.refl _)
def nspeculumbase_Within (k : Nat) (a0 : Int) (a1 : Int) (a2 : Int) : Option Bool :=
  if a1 ≤ a0 then (some (decide (a0 ≤ a2))) else (some false)
set_option maxRecDepth 100000 in
set_option maxHeartbeats 4000000 in
theorem nspeculumbase_Within_ok (k : Nat) (a0 : Int) (a1 : Int) (a2 : Int) (r : Bool) (h : nspeculumbase_Within k a0 a1 a2 = some r) : VC Go.Proofs.Try.prog 41 [vi a0, vi a1, vi a2] (vb r) := by
  unfold nspeculumbase_Within at h
  by_cases h178 : a1 ≤ a0
  · rw [if_pos h178] at h
    injection h with h; subst h
    exact fun_ok pm pn Go.Proofs.Try.func41 (r0 := vb (decide (a0 ≤ a2))) (ans := [.reg [.n], .reg [.n, .n, .n, .n, .n, .n, .n, .b true, .n]]) (fr := true) (by kernel_rfl) (an (an (ti trivial) (an (ti (ti (ti (ti (an (an (decide_eq_true h178) trivial) (an (an (decide_eq_true h178) trivial) (an (an (decide_eq_true h178) trivial) (an (decide_eq_true h178) (ti trivial))))))))) trivial)) (ti trivial)) (Wv.refl _)
  · rw [if_neg h178] at h
    injection h with h; subst h
    exact fun_ok pm pn Go.Proofs.Try.func41 (r0 := vb false) (ans := [.reg [.n], .reg [.n, .n, .n, .n, .skip, .skip, .skip, .b false, .n]]) (fr := true) (by kernel_rfl) (an (an (ti trivial) (an (ti (ti (ti (ti (an (decide_eq_false h178) (an (decide_eq_false h178) (an (decide_eq_false h178) (an (decide_eq_false h178) (ti trivial))))))))) trivial)) (ti trivial)) (Wv.refl _)
def nspeculumref09_million (k : Nat) (a0 : Int) : Option Bool :=
  (nspeculumbase_Within k a0 (-1000000) 1000000).bind fun r186 => (some r186)
set_option maxRecDepth 100000 in
set_option maxHeartbeats 4000000 in
theorem nspeculumref09_million_ok (k : Nat) (a0 : Int) (r : Bool) (h : nspeculumref09_million k a0 = some r) : VC Go.Proofs.Try.prog 105 [vi a0] (vb r) := by
  unfold nspeculumref09_million at h
  cases h187 : nspeculumbase_Within k a0 (-1000000) 1000000 with
  | none => rw [h187] at h; cases h
  | some r186 =>
    rw [h187, Option.bind_some] at h
    injection h with h; subst h
    exact fun_ok pm pn Go.Proofs.Try.func105 (r0 := vb r186) (ans := [.reg [.n], .reg [.n, .call (vb r186), .n]]) (fr := true) (by kernel_rfl) (an (an (ti trivial) (an (ti (an (nspeculumbase_Within_ok k a0 (-1000000) 1000000 _ h187) (ti trivial))) trivial)) (ti trivial)) (Wv.refl _)
def nspeculumref09_CheckTable_l0_0 (k : Nat) (a0 : (List SSkyRow)) : Nat → Int → Option (Sum Int Unit)
  | 0, _ => none
  | fuel + 1, x3 => if x3 < (a0.length : Int) then (if 0 ≤ x3 ∧ x3 < (a0.length : Int) then ((nspeculumref09_million k ((a0.getD x3.toNat default).At)).bind fun r244 => (if r244 = true then ((nspeculumref09_million k ((a0.getD x3.toNat default).Value)).bind fun r247 => (if r247 = true then (if 0 < x3 then (if 0 ≤ w64 (x3 - 1) ∧ w64 (x3 - 1) < (a0.length : Int) then (if ((a0.getD x3.toNat default).At) ≤ ((a0.getD (w64 (x3 - 1)).toNat default).At) then (some (.inl 9)) else (nspeculumref09_CheckTable_l0_0 k a0 fuel (w64 (x3 + 1)))) else none) else (nspeculumref09_CheckTable_l0_0 k a0 fuel (w64 (x3 + 1)))) else (some (.inl 2)))) else (some (.inl 2)))) else none) else (some (.inr ()))
set_option maxRecDepth 100000 in
set_option maxHeartbeats 4000000 in
theorem nspeculumref09_CheckTable_l0_0_ok (k : Nat) (a0 : (List SSkyRow)) : ∀ (fuel : Nat) (x3 : Int) (r : Sum Int Unit), nspeculumref09_CheckTable_l0_0 k a0 fuel x3 = some r → (match r with | .inl r => VLoop none Go.Proofs.Try.prog (szF Go.Proofs.Try.f46) (bodyOf Go.Proofs.Try.f46 0) ⟨mkA [(0, VV.tr (List.flatMap c_SSkyRow a0) a0.length), (3, vi x3)], [], .nil⟩ .ret ⟨mkA [(2, vi r)], [], .nil⟩ | .inr r => VLoop none Go.Proofs.Try.prog (szF Go.Proofs.Try.f46) (bodyOf Go.Proofs.Try.f46 0) ⟨mkA [(0, VV.tr (List.flatMap c_SSkyRow a0) a0.length), (3, vi x3)], [], .nil⟩ (.exit 0) ⟨mkA [], [], .nil⟩) := by
  intro fuel
  induction fuel with
  | zero => intro x3 r h; rw [nspeculumref09_CheckTable_l0_0.eq_1] at h; cases h
  | succ fuel ih =>
    intro x3 r h
    rw [nspeculumref09_CheckTable_l0_0.eq_2] at h
    by_cases h242 : x3 < (a0.length : Int)
    · rw [if_pos h242] at h
      by_cases h243 : 0 ≤ x3 ∧ x3 < (a0.length : Int)
      · rw [if_pos h243] at h
        cases h245 : nspeculumref09_million k ((a0.getD x3.toNat default).At) with
        | none => rw [h245] at h; cases h
        | some r244 =>
          rw [h245, Option.bind_some] at h
          by_cases h246 : r244 = true
          · rw [if_pos h246] at h
            cases h248 : nspeculumref09_million k ((a0.getD x3.toNat default).Value) with
            | none => rw [h248] at h; cases h
            | some r247 =>
              rw [h248, Option.bind_some] at h
              by_cases h249 : r247 = true
              · rw [if_pos h249] at h
                by_cases h250 : 0 < x3
                · rw [if_pos h250] at h
                  by_cases h251 : 0 ≤ w64 (x3 - 1) ∧ w64 (x3 - 1) < (a0.length : Int)
                  · rw [if_pos h251] at h
                    by_cases h252 : ((a0.getD x3.toNat default).At) ≤ ((a0.getD (w64 (x3 - 1)).toNat default).At)
                    · rw [if_pos h252] at h
                      injection h with h; subst h
                      exact round_stop (c := ⟨[(2, none)], [], []⟩) (s1 := ⟨mkA [(2, vi 9)], [], .nil⟩) pm pn (ans := [.reg [.n, .n, .n, .n], .br true, .reg [.n, .n, .n, .n, .v (vi ((a0.getD x3.toNat default).At)), .call (vb r244), .n, .n, .n, .n, .n, .n, .v (vi ((a0.getD x3.toNat default).Value)), .call (vb r247), .n, .b false], .br false, .reg [.n, .n, .n, .n, .n, .n, .n, .v (vi ((a0.getD x3.toNat default).At)), .n, .n, .n, .n, .n, .v (vi ((a0.getD (w64 (x3 - 1)).toNat default).At)), .n, .b true], .br true, .reg [.n]]) (by kernel_rfl) (by intro e; cases e) (an (an (an (ti (ti (ti (ti trivial)))) (an (decide_eq_true h242) trivial)) (an (an (ti (ti (an h243 (ti (an (show loadL Go.Proofs.Try.prog 3 (x3.toNat * 2 + 0) (List.flatMap c_SSkyRow a0) = some (vi ((a0.getD x3.toNat default).At)) from (ld_flat ag3 c_SSkyRow 2 0 len_c_SSkyRow (by omega) a0 default h243 (by omega)).trans rfl) (an (nspeculumref09_million_ok k ((a0.getD x3.toNat default).At) _ h245) (ti (ti (an (an (not_f h246) trivial) (an (an (not_f h246) trivial) (an (an (not_f h246) h243) (an (an (not_f h246) trivial) (an (an (not_f h246) (show loadL Go.Proofs.Try.prog 3 (x3.toNat * 2 + 1) (List.flatMap c_SSkyRow a0) = some (vi ((a0.getD x3.toNat default).Value)) from (ld_flat ag3 c_SSkyRow 2 1 len_c_SSkyRow (by omega) a0 default h243 (by omega)).trans rfl)) (an (an (not_f h246) (nspeculumref09_million_ok k ((a0.getD x3.toNat default).Value) _ h248)) (an (an (not_f h246) trivial) (an (not_f h246) trivial)))))))))))))))) (an (not_f h249) trivial)) (an (ti (ti (ti (an (an (decide_eq_true h250) trivial) (an (an (decide_eq_true h250) trivial) (an (an (decide_eq_true h250) h243) (an (an (decide_eq_true h250) trivial) (an (an (decide_eq_true h250) (show loadL Go.Proofs.Try.prog 3 (x3.toNat * 2 + 0) (List.flatMap c_SSkyRow a0) = some (vi ((a0.getD x3.toNat default).At)) from (ld_flat ag3 c_SSkyRow 2 0 len_c_SSkyRow (by omega) a0 default h243 (by omega)).trans rfl)) (an (an (decide_eq_true h250) trivial) (an (an (decide_eq_true h250) trivial) (an (an (decide_eq_true h250) trivial) (an (an (decide_eq_true h250) h251) (an (an (decide_eq_true h250) trivial) (an (an (decide_eq_true h250) (show loadL Go.Proofs.Try.prog 3 ((w64 (x3 - 1)).toNat * 2 + 0) (List.flatMap c_SSkyRow a0) = some (vi ((a0.getD (w64 (x3 - 1)).toNat default).At)) from (ld_flat ag3 c_SSkyRow 2 0 len_c_SSkyRow (by omega) a0 default h251 (by omega)).trans rfl)) (an (an (decide_eq_true h250) trivial) (an (decide_eq_true h250) trivial)))))))))))))))) (an (decide_eq_true h252) (an (ti trivial) trivial))))) (ti trivial))
                    · rw [if_neg h252] at h
                      have h2 := ih _ _ h
                      obtain ⟨q, hv, hq⟩ := pkR (rd := none) (P := Go.Proofs.Try.prog) (fn := Go.Proofs.Try.f46) (k := 0) (s := ⟨mkA [(0, VV.tr (List.flatMap c_SSkyRow a0) a0.length), (3, vi x3)], [], .nil⟩) (ans := [.reg [.n, .n, .n, .n], .br true, .reg [.n, .n, .n, .n, .v (vi ((a0.getD x3.toNat default).At)), .call (vb r244), .n, .n, .n, .n, .n, .n, .v (vi ((a0.getD x3.toNat default).Value)), .call (vb r247), .n, .b false], .br false, .reg [.n, .n, .n, .n, .n, .n, .n, .v (vi ((a0.getD x3.toNat default).At)), .n, .n, .n, .n, .n, .v (vi ((a0.getD (w64 (x3 - 1)).toNat default).At)), .n, .b true], .br false, .reg [.n, .n, .n]]) (c := ⟨[(0, none), (3, none)], [], []⟩) (e := .normal) (s1 := ⟨mkA [(0, VV.tr (List.flatMap c_SSkyRow a0) a0.length), (3, vi (w64 (x3 + 1)))], [], .nil⟩) (an (an (an (ti (ti (ti (ti trivial)))) (an (decide_eq_true h242) trivial)) (an (an (an (ti (ti (an h243 (ti (an (show loadL Go.Proofs.Try.prog 3 (x3.toNat * 2 + 0) (List.flatMap c_SSkyRow a0) = some (vi ((a0.getD x3.toNat default).At)) from (ld_flat ag3 c_SSkyRow 2 0 len_c_SSkyRow (by omega) a0 default h243 (by omega)).trans rfl) (an (nspeculumref09_million_ok k ((a0.getD x3.toNat default).At) _ h245) (ti (ti (an (an (not_f h246) trivial) (an (an (not_f h246) trivial) (an (an (not_f h246) h243) (an (an (not_f h246) trivial) (an (an (not_f h246) (show loadL Go.Proofs.Try.prog 3 (x3.toNat * 2 + 1) (List.flatMap c_SSkyRow a0) = some (vi ((a0.getD x3.toNat default).Value)) from (ld_flat ag3 c_SSkyRow 2 1 len_c_SSkyRow (by omega) a0 default h243 (by omega)).trans rfl)) (an (an (not_f h246) (nspeculumref09_million_ok k ((a0.getD x3.toNat default).Value) _ h248)) (an (an (not_f h246) trivial) (an (not_f h246) trivial)))))))))))))))) (an (not_f h249) trivial)) (an (ti (ti (ti (an (an (decide_eq_true h250) trivial) (an (an (decide_eq_true h250) trivial) (an (an (decide_eq_true h250) h243) (an (an (decide_eq_true h250) trivial) (an (an (decide_eq_true h250) (show loadL Go.Proofs.Try.prog 3 (x3.toNat * 2 + 0) (List.flatMap c_SSkyRow a0) = some (vi ((a0.getD x3.toNat default).At)) from (ld_flat ag3 c_SSkyRow 2 0 len_c_SSkyRow (by omega) a0 default h243 (by omega)).trans rfl)) (an (an (decide_eq_true h250) trivial) (an (an (decide_eq_true h250) trivial) (an (an (decide_eq_true h250) trivial) (an (an (decide_eq_true h250) h251) (an (an (decide_eq_true h250) trivial) (an (an (decide_eq_true h250) (show loadL Go.Proofs.Try.prog 3 ((w64 (x3 - 1)).toNat * 2 + 0) (List.flatMap c_SSkyRow a0) = some (vi ((a0.getD (w64 (x3 - 1)).toNat default).At)) from (ld_flat ag3 c_SSkyRow 2 0 len_c_SSkyRow (by omega) a0 default h251 (by omega)).trans rfl)) (an (an (decide_eq_true h250) trivial) (an (decide_eq_true h250) trivial)))))))))))))))) (an (decide_eq_false h252) trivial))) (ti (ti (ti trivial))))) (ti trivial)) (by kernel_rfl)
                      cases r with
                      | inl r => exact round_next pm pn hv hq h2
                      | inr r =>
                        exact round_next pm pn hv hq h2
                  · rw [if_neg h251] at h; cases h
                · rw [if_neg h250] at h
                  have h2 := ih _ _ h
                  obtain ⟨q, hv, hq⟩ := pkR (rd := none) (P := Go.Proofs.Try.prog) (fn := Go.Proofs.Try.f46) (k := 0) (s := ⟨mkA [(0, VV.tr (List.flatMap c_SSkyRow a0) a0.length), (3, vi x3)], [], .nil⟩) (ans := [.reg [.n, .n, .n, .n], .br true, .reg [.n, .n, .n, .n, .v (vi ((a0.getD x3.toNat default).At)), .call (vb r244), .n, .n, .n, .n, .n, .n, .v (vi ((a0.getD x3.toNat default).Value)), .call (vb r247), .n, .b false], .br false, .reg [.n, .n, .n, .skip, .skip, .skip, .skip, .skip, .skip, .skip, .skip, .skip, .skip, .skip, .skip, .b false], .br false, .reg [.n, .n, .n]]) (c := ⟨[(0, none), (3, none)], [], []⟩) (e := .normal) (s1 := ⟨mkA [(0, VV.tr (List.flatMap c_SSkyRow a0) a0.length), (3, vi (w64 (x3 + 1)))], [], .nil⟩) (an (an (an (ti (ti (ti (ti trivial)))) (an (decide_eq_true h242) trivial)) (an (an (an (ti (ti (an h243 (ti (an (show loadL Go.Proofs.Try.prog 3 (x3.toNat * 2 + 0) (List.flatMap c_SSkyRow a0) = some (vi ((a0.getD x3.toNat default).At)) from (ld_flat ag3 c_SSkyRow 2 0 len_c_SSkyRow (by omega) a0 default h243 (by omega)).trans rfl) (an (nspeculumref09_million_ok k ((a0.getD x3.toNat default).At) _ h245) (ti (ti (an (an (not_f h246) trivial) (an (an (not_f h246) trivial) (an (an (not_f h246) h243) (an (an (not_f h246) trivial) (an (an (not_f h246) (show loadL Go.Proofs.Try.prog 3 (x3.toNat * 2 + 1) (List.flatMap c_SSkyRow a0) = some (vi ((a0.getD x3.toNat default).Value)) from (ld_flat ag3 c_SSkyRow 2 1 len_c_SSkyRow (by omega) a0 default h243 (by omega)).trans rfl)) (an (an (not_f h246) (nspeculumref09_million_ok k ((a0.getD x3.toNat default).Value) _ h248)) (an (an (not_f h246) trivial) (an (not_f h246) trivial)))))))))))))))) (an (not_f h249) trivial)) (an (ti (ti (ti (an (decide_eq_false h250) (an (decide_eq_false h250) (an (decide_eq_false h250) (an (decide_eq_false h250) (an (decide_eq_false h250) (an (decide_eq_false h250) (an (decide_eq_false h250) (an (decide_eq_false h250) (an (decide_eq_false h250) (an (decide_eq_false h250) (an (decide_eq_false h250) (an (decide_eq_false h250) (an (decide_eq_false h250) trivial)))))))))))))))) (an rf trivial))) (ti (ti (ti trivial))))) (ti trivial)) (by kernel_rfl)
                  cases r with
                  | inl r => exact round_next pm pn hv hq h2
                  | inr r =>
                    exact round_next pm pn hv hq h2
              · rw [if_neg h249] at h
                injection h with h; subst h
                exact round_stop (c := ⟨[(2, none)], [], []⟩) (s1 := ⟨mkA [(2, vi 2)], [], .nil⟩) pm pn (ans := [.reg [.n, .n, .n, .n], .br true, .reg [.n, .n, .n, .n, .v (vi ((a0.getD x3.toNat default).At)), .call (vb r244), .n, .n, .n, .n, .n, .n, .v (vi ((a0.getD x3.toNat default).Value)), .call (vb r247), .n, .b false], .br true, .reg [.n]]) (by kernel_rfl) (by intro e; cases e) (an (an (an (ti (ti (ti (ti trivial)))) (an (decide_eq_true h242) trivial)) (an (ti (ti (an h243 (ti (an (show loadL Go.Proofs.Try.prog 3 (x3.toNat * 2 + 0) (List.flatMap c_SSkyRow a0) = some (vi ((a0.getD x3.toNat default).At)) from (ld_flat ag3 c_SSkyRow 2 0 len_c_SSkyRow (by omega) a0 default h243 (by omega)).trans rfl) (an (nspeculumref09_million_ok k ((a0.getD x3.toNat default).At) _ h245) (ti (ti (an (an (not_f h246) trivial) (an (an (not_f h246) trivial) (an (an (not_f h246) h243) (an (an (not_f h246) trivial) (an (an (not_f h246) (show loadL Go.Proofs.Try.prog 3 (x3.toNat * 2 + 1) (List.flatMap c_SSkyRow a0) = some (vi ((a0.getD x3.toNat default).Value)) from (ld_flat ag3 c_SSkyRow 2 1 len_c_SSkyRow (by omega) a0 default h243 (by omega)).trans rfl)) (an (an (not_f h246) (nspeculumref09_million_ok k ((a0.getD x3.toNat default).Value) _ h248)) (an (an (not_f h246) trivial) (an (not_f h246) trivial)))))))))))))))) (an (not_t (bool_f h249)) (an (ti trivial) trivial)))) (ti trivial))
          · rw [if_neg h246] at h
            injection h with h; subst h
            exact round_stop (c := ⟨[(2, none)], [], []⟩) (s1 := ⟨mkA [(2, vi 2)], [], .nil⟩) pm pn (ans := [.reg [.n, .n, .n, .n], .br true, .reg [.n, .n, .n, .n, .v (vi ((a0.getD x3.toNat default).At)), .call (vb r244), .n, .n, .skip, .skip, .skip, .skip, .skip, .skip, .skip, .b true], .br true, .reg [.n]]) (by kernel_rfl) (by intro e; cases e) (an (an (an (ti (ti (ti (ti trivial)))) (an (decide_eq_true h242) trivial)) (an (ti (ti (an h243 (ti (an (show loadL Go.Proofs.Try.prog 3 (x3.toNat * 2 + 0) (List.flatMap c_SSkyRow a0) = some (vi ((a0.getD x3.toNat default).At)) from (ld_flat ag3 c_SSkyRow 2 0 len_c_SSkyRow (by omega) a0 default h243 (by omega)).trans rfl) (an (nspeculumref09_million_ok k ((a0.getD x3.toNat default).At) _ h245) (ti (ti (an (not_t (bool_f h246)) (an (not_t (bool_f h246)) (an (not_t (bool_f h246)) (an (not_t (bool_f h246)) (an (not_t (bool_f h246)) (an (not_t (bool_f h246)) (an (not_t (bool_f h246)) (an (not_t (bool_f h246)) trivial)))))))))))))))) (an rt (an (ti trivial) trivial)))) (ti trivial))
      · rw [if_neg h243] at h; cases h
    · rw [if_neg h242] at h
      injection h with h; subst h
      exact round_stop (c := ⟨[], [], []⟩) (s1 := ⟨mkA [], [], .nil⟩) pm pn (ans := [.reg [.n, .n, .n, .n], .br false]) (by kernel_rfl) (by intro e; cases e) (an (an (ti (ti (ti (ti trivial)))) (an (decide_eq_false h242) trivial)) (ti trivial))
def nspeculumref09_CheckTable (k : Nat) (a0 : (List SSkyRow)) : Option Int :=
  (nspeculumbase_Within k (a0.length : Int) 1 40).bind fun r220 => (if r220 = true then ((nspeculumref09_CheckTable_l0_0 k a0 k 0).bind fun r254 => (match r254 with | .inl r255 => (some r255) | .inr r256 => (some 0))) else (some 10))
set_option maxRecDepth 100000 in
set_option maxHeartbeats 4000000 in
theorem nspeculumref09_CheckTable_ok (k : Nat) (a0 : (List SSkyRow)) (r : Int) (h : nspeculumref09_CheckTable k a0 = some r) : VC Go.Proofs.Try.prog 46 [VV.tr (List.flatMap c_SSkyRow a0) a0.length] (vi r) := by
  unfold nspeculumref09_CheckTable at h
  cases h221 : nspeculumbase_Within k (a0.length : Int) 1 40 with
  | none => rw [h221] at h; cases h
  | some r220 =>
    rw [h221, Option.bind_some] at h
    by_cases h222 : r220 = true
    · rw [if_pos h222] at h
      cases h253 : nspeculumref09_CheckTable_l0_0 k a0 k 0 with
      | none => rw [h253] at h; cases h
      | some r254 =>
        rw [h253, Option.bind_some] at h
        have hph253 := nspeculumref09_CheckTable_l0_0_ok k a0 _ _ _ h253
        cases r254 with
        | inl r255 =>
          dsimp only at h
          injection h with h; subst h
          exact fun_ok pm pn Go.Proofs.Try.func46 (r0 := vi r255) (ans := [.reg [.n], .reg [.n, .n, .call (vb r220), .n], .br false, .reg [.n], .sub ⟨[(0, none), (3, none)], [], []⟩ .ret ⟨mkA [(2, vi r255)], [], .nil⟩]) (fr := true) (by kernel_rfl) (an (an (ti trivial) (an (an (ti (ti (an (nspeculumbase_Within_ok k (a0.length : Int) 1 40 _ h221) (ti trivial)))) (an (not_f h222) trivial)) (an (ti trivial) (an (ti trivial) (VRun.loop hph253))))) (ti trivial)) (Wv.refl _)
        | inr r256 =>
          dsimp only at h
          injection h with h; subst h
          exact fun_ok pm pn Go.Proofs.Try.func46 (r0 := vi 0) (ans := [.reg [.n], .reg [.n, .n, .call (vb r220), .n], .br false, .reg [.n], .sub ⟨[(0, none), (3, none)], [], []⟩ (.exit 0) ⟨mkA [], [], .nil⟩, .reg [.n]]) (fr := true) (by kernel_rfl) (an (an (ti trivial) (an (an (ti (ti (an (nspeculumbase_Within_ok k (a0.length : Int) 1 40 _ h221) (ti trivial)))) (an (not_f h222) trivial)) (an (an (ti trivial) (an (ti trivial) (VRun.loop hph253))) (an (ti trivial) trivial)))) (ti trivial)) (Wv.refl _)
    · rw [if_neg h222] at h
      injection h with h; subst h
      exact fun_ok pm pn Go.Proofs.Try.func46 (r0 := vi 10) (ans := [.reg [.n], .reg [.n, .n, .call (vb r220), .n], .br true, .reg [.n]]) (fr := true) (by kernel_rfl) (an (an (ti trivial) (an (ti (ti (an (nspeculumbase_Within_ok k (a0.length : Int) 1 40 _ h221) (ti trivial)))) (an (not_t (bool_f h222)) (an (ti trivial) trivial)))) (ti trivial)) (Wv.refl _)
def nspeculumref09_IsPlace (k : Nat) (a0 : Int) : Option Bool :=
  (nspeculumref09_million k a0).bind fun r259 => (some r259)
set_option maxRecDepth 100000 in
set_option maxHeartbeats 4000000 in
theorem nspeculumref09_IsPlace_ok (k : Nat) (a0 : Int) (r : Bool) (h : nspeculumref09_IsPlace k a0 = some r) : VC Go.Proofs.Try.prog 48 [vi a0] (vb r) := by
  unfold nspeculumref09_IsPlace at h
  cases h260 : nspeculumref09_million k a0 with
  | none => rw [h260] at h; cases h
  | some r259 =>
    rw [h260, Option.bind_some] at h
    injection h with h; subst h
    exact fun_ok pm pn Go.Proofs.Try.func48 (r0 := vb r259) (ans := [.reg [.n], .reg [.n, .call (vb r259), .n]]) (fr := true) (by kernel_rfl) (an (an (ti trivial) (an (ti (an (nspeculumref09_million_ok k a0 _ h260) (ti trivial))) trivial)) (ti trivial)) (Wv.refl _)
def nspeculumbase_Floor (k : Nat) (a0 : Int) (a1 : Int) : Option Int :=
  if a1 ≠ 0 then (if (a0.tmod a1) < 0 then (some (w64 ((w64 (a0.tdiv a1)) - 1))) else (some (w64 (a0.tdiv a1)))) else none
set_option maxRecDepth 100000 in
set_option maxHeartbeats 4000000 in
theorem nspeculumbase_Floor_ok (k : Nat) (a0 : Int) (a1 : Int) (r : Int) (h : nspeculumbase_Floor k a0 a1 = some r) : VC Go.Proofs.Try.prog 79 [vi a0, vi a1] (vi r) := by
  unfold nspeculumbase_Floor at h
  by_cases h269 : a1 ≠ 0
  · rw [if_pos h269] at h
    by_cases h270 : (a0.tmod a1) < 0
    · rw [if_pos h270] at h
      injection h with h; subst h
      exact fun_ok pm pn Go.Proofs.Try.func79 (r0 := vi (w64 ((w64 (a0.tdiv a1)) - 1))) (ans := [.reg [.n], .reg [.n, .n, .n, .n], .reg [.n, .n, .n, .n], .br true, .reg [.n, .n, .n], .reg [.n, .n]]) (fr := true) (by kernel_rfl) (an (an (ti trivial) (an (ti (ti (an h269 (ti trivial)))) (an (an (ti (ti (an h269 (ti trivial)))) (an (decide_eq_true h270) (ti (ti (ti trivial))))) (an (ti (ti trivial)) trivial)))) (ti trivial)) (Wv.refl _)
    · rw [if_neg h270] at h
      injection h with h; subst h
      exact fun_ok pm pn Go.Proofs.Try.func79 (r0 := vi (w64 (a0.tdiv a1))) (ans := [.reg [.n], .reg [.n, .n, .n, .n], .reg [.n, .n, .n, .n], .br false, .reg [.n, .n]]) (fr := true) (by kernel_rfl) (an (an (ti trivial) (an (ti (ti (an h269 (ti trivial)))) (an (an (ti (ti (an h269 (ti trivial)))) (an (decide_eq_false h270) trivial)) (an (ti (ti trivial)) trivial)))) (ti trivial)) (Wv.refl _)
  · rw [if_neg h269] at h; cases h
def nspeculumref09_TableAt_l0_0 (k : Nat) (a0 : (List SSkyRow)) (a1 : Int) : Nat → Int → Option (Sum Int Unit)
  | 0, _ => none
  | fuel + 1, x5 => if x5 < (a0.length : Int) then (if 0 ≤ w64 (x5 - 1) ∧ w64 (x5 - 1) < (a0.length : Int) then (if 0 ≤ x5 ∧ x5 < (a0.length : Int) then (if a1 < ((a0.getD x5.toNat default).At) then ((nspeculumbase_Floor k (w64 ((w64 (((a0.getD x5.toNat default).Value) - ((a0.getD (w64 (x5 - 1)).toNat default).Value))) * (w64 (a1 - ((a0.getD (w64 (x5 - 1)).toNat default).At))))) (w64 (((a0.getD x5.toNat default).At) - ((a0.getD (w64 (x5 - 1)).toNat default).At)))).bind fun r308 => (some (.inl (w64 (((a0.getD (w64 (x5 - 1)).toNat default).Value) + r308))))) else (nspeculumref09_TableAt_l0_0 k a0 a1 fuel (w64 (x5 + 1)))) else none) else none) else (some (.inr ()))
set_option maxRecDepth 100000 in
set_option maxHeartbeats 4000000 in
theorem nspeculumref09_TableAt_l0_0_ok (k : Nat) (a0 : (List SSkyRow)) (a1 : Int) : ∀ (fuel : Nat) (x5 : Int) (r : Sum Int Unit), nspeculumref09_TableAt_l0_0 k a0 a1 fuel x5 = some r → (match r with | .inl r => VLoop none Go.Proofs.Try.prog (szF Go.Proofs.Try.f49) (bodyOf Go.Proofs.Try.f49 0) ⟨mkA [(0, VV.tr (List.flatMap c_SSkyRow a0) a0.length), (1, vi a1), (5, vi x5)], [], .nil⟩ .ret ⟨mkA [(4, vi r)], [], .nil⟩ | .inr r => VLoop none Go.Proofs.Try.prog (szF Go.Proofs.Try.f49) (bodyOf Go.Proofs.Try.f49 0) ⟨mkA [(0, VV.tr (List.flatMap c_SSkyRow a0) a0.length), (1, vi a1), (5, vi x5)], [], .nil⟩ (.exit 0) ⟨mkA [(0, VV.tr (List.flatMap c_SSkyRow a0) a0.length)], [], .nil⟩) := by
  intro fuel
  induction fuel with
  | zero => intro x5 r h; rw [nspeculumref09_TableAt_l0_0.eq_1] at h; cases h
  | succ fuel ih =>
    intro x5 r h
    rw [nspeculumref09_TableAt_l0_0.eq_2] at h
    by_cases h304 : x5 < (a0.length : Int)
    · rw [if_pos h304] at h
      by_cases h305 : 0 ≤ w64 (x5 - 1) ∧ w64 (x5 - 1) < (a0.length : Int)
      · rw [if_pos h305] at h
        by_cases h306 : 0 ≤ x5 ∧ x5 < (a0.length : Int)
        · rw [if_pos h306] at h
          by_cases h307 : a1 < ((a0.getD x5.toNat default).At)
          · rw [if_pos h307] at h
            cases h309 : nspeculumbase_Floor k (w64 ((w64 (((a0.getD x5.toNat default).Value) - ((a0.getD (w64 (x5 - 1)).toNat default).Value))) * (w64 (a1 - ((a0.getD (w64 (x5 - 1)).toNat default).At))))) (w64 (((a0.getD x5.toNat default).At) - ((a0.getD (w64 (x5 - 1)).toNat default).At))) with
            | none => rw [h309] at h; cases h
            | some r308 =>
              rw [h309, Option.bind_some] at h
              injection h with h; subst h
              exact round_stop (c := ⟨[(4, none)], [], []⟩) (s1 := ⟨mkA [(4, vi (w64 (((a0.getD (w64 (x5 - 1)).toNat default).Value) + r308)))], [], .nil⟩) pm pn (ans := [.reg [.n, .n, .n, .n], .br true, .reg [.n, .n, .n, .n, .v (VV.ag [vi ((a0.getD (w64 (x5 - 1)).toNat default).At), vi ((a0.getD (w64 (x5 - 1)).toNat default).Value)]), .n, .n, .n, .v (VV.ag [vi ((a0.getD x5.toNat default).At), vi ((a0.getD x5.toNat default).Value)]), .n, .n, .n, .n], .reg [.n, .n, .n, .n], .br true, .reg [.n, .n, .n, .n, .n, .n, .n, .n, .n, .n, .n, .n, .n, .n, .n, .n, .n, .call (vi r308), .n, .n]]) (by kernel_rfl) (by intro e; cases e) (an (an (an (ti (ti (ti (ti trivial)))) (an (decide_eq_true h304) trivial)) (an (ti (ti (ti (an h305 (an (show loadL Go.Proofs.Try.prog 77 ((w64 (x5 - 1)).toNat * 2) (List.flatMap c_SSkyRow a0) = some (VV.ag [vi ((a0.getD (w64 (x5 - 1)).toNat default).At), vi ((a0.getD (w64 (x5 - 1)).toNat default).Value)]) from ld_whole ag77 c_SSkyRow 2 sz77 len_c_SSkyRow a0 default h305 (by omega)) (ti (ti (an h306 (an (show loadL Go.Proofs.Try.prog 77 (x5.toNat * 2) (List.flatMap c_SSkyRow a0) = some (VV.ag [vi ((a0.getD x5.toNat default).At), vi ((a0.getD x5.toNat default).Value)]) from ld_whole ag77 c_SSkyRow 2 sz77 len_c_SSkyRow a0 default h306 (by omega)) (ti (ti (ti (ti trivial))))))))))))) (an (ti (ti (ti (ti trivial)))) (an (decide_eq_true h307) (an (ti (ti (ti (ti (ti (ti (ti (ti (ti (ti (ti (ti (ti (ti (ti (ti (ti (an (nspeculumbase_Floor_ok k (w64 ((w64 (((a0.getD x5.toNat default).Value) - ((a0.getD (w64 (x5 - 1)).toNat default).Value))) * (w64 (a1 - ((a0.getD (w64 (x5 - 1)).toNat default).At))))) (w64 (((a0.getD x5.toNat default).At) - ((a0.getD (w64 (x5 - 1)).toNat default).At))) _ h309) (ti (ti trivial)))))))))))))))))))) trivial))))) (ti trivial))
          · rw [if_neg h307] at h
            have h2 := ih _ _ h
            obtain ⟨q, hv, hq⟩ := pkR (rd := none) (P := Go.Proofs.Try.prog) (fn := Go.Proofs.Try.f49) (k := 0) (s := ⟨mkA [(0, VV.tr (List.flatMap c_SSkyRow a0) a0.length), (1, vi a1), (5, vi x5)], [], .nil⟩) (ans := [.reg [.n, .n, .n, .n], .br true, .reg [.n, .n, .n, .n, .v (VV.ag [vi ((a0.getD (w64 (x5 - 1)).toNat default).At), vi ((a0.getD (w64 (x5 - 1)).toNat default).Value)]), .n, .n, .n, .v (VV.ag [vi ((a0.getD x5.toNat default).At), vi ((a0.getD x5.toNat default).Value)]), .n, .n, .n, .n], .reg [.n, .n, .n, .n], .br false, .reg [.n, .n, .n]]) (c := ⟨[(0, none), (1, none), (5, none)], [], []⟩) (e := .normal) (s1 := ⟨mkA [(0, VV.tr (List.flatMap c_SSkyRow a0) a0.length), (1, vi a1), (5, vi (w64 (x5 + 1)))], [], .nil⟩) (an (an (an (ti (ti (ti (ti trivial)))) (an (decide_eq_true h304) trivial)) (an (an (ti (ti (ti (an h305 (an (show loadL Go.Proofs.Try.prog 77 ((w64 (x5 - 1)).toNat * 2) (List.flatMap c_SSkyRow a0) = some (VV.ag [vi ((a0.getD (w64 (x5 - 1)).toNat default).At), vi ((a0.getD (w64 (x5 - 1)).toNat default).Value)]) from ld_whole ag77 c_SSkyRow 2 sz77 len_c_SSkyRow a0 default h305 (by omega)) (ti (ti (an h306 (an (show loadL Go.Proofs.Try.prog 77 (x5.toNat * 2) (List.flatMap c_SSkyRow a0) = some (VV.ag [vi ((a0.getD x5.toNat default).At), vi ((a0.getD x5.toNat default).Value)]) from ld_whole ag77 c_SSkyRow 2 sz77 len_c_SSkyRow a0 default h306 (by omega)) (ti (ti (ti (ti trivial))))))))))))) (an (ti (ti (ti (ti trivial)))) (an (decide_eq_false h307) trivial))) (ti (ti (ti trivial))))) (ti trivial)) (by kernel_rfl)
            cases r with
            | inl r => exact round_next pm pn hv hq h2
            | inr r =>
              exact round_next pm pn hv hq h2
        · rw [if_neg h306] at h; cases h
      · rw [if_neg h305] at h; cases h
    · rw [if_neg h304] at h
      injection h with h; subst h
      exact round_stop (c := ⟨[(0, none)], [], []⟩) (s1 := ⟨mkA [(0, VV.tr (List.flatMap c_SSkyRow a0) a0.length)], [], .nil⟩) pm pn (ans := [.reg [.n, .n, .n, .n], .br false]) (by kernel_rfl) (by intro e; cases e) (an (an (ti (ti (ti (ti trivial)))) (an (decide_eq_false h304) trivial)) (ti trivial))
def nspeculumref09_TableAt (k : Nat) (a0 : (List SSkyRow)) (a1 : Int) : Option Int :=
  if (0 : Int) ≤ 0 ∧ 0 < (a0.length : Int) then (if a1 ≤ ((a0.getD ((0 : Int)).toNat default).At) then (some ((a0.getD ((0 : Int)).toNat default).Value)) else ((nspeculumref09_TableAt_l0_0 k a0 a1 k 1).bind fun r311 => (match r311 with | .inl r312 => (some r312) | .inr r313 => (if 0 ≤ w64 ((a0.length : Int) - 1) ∧ w64 ((a0.length : Int) - 1) < (a0.length : Int) then (some ((a0.getD (w64 ((a0.length : Int) - 1)).toNat default).Value)) else none)))) else none
set_option maxRecDepth 100000 in
set_option maxHeartbeats 4000000 in
theorem nspeculumref09_TableAt_ok (k : Nat) (a0 : (List SSkyRow)) (a1 : Int) (r : Int) (h : nspeculumref09_TableAt k a0 a1 = some r) : VC Go.Proofs.Try.prog 49 [VV.tr (List.flatMap c_SSkyRow a0) a0.length, vi a1] (vi r) := by
  unfold nspeculumref09_TableAt at h
  by_cases h290 : (0 : Int) ≤ 0 ∧ 0 < (a0.length : Int)
  · rw [if_pos h290] at h
    by_cases h291 : a1 ≤ ((a0.getD ((0 : Int)).toNat default).At)
    · rw [if_pos h291] at h
      injection h with h; subst h
      exact fun_ok pm pn Go.Proofs.Try.func49 (r0 := vi ((a0.getD ((0 : Int)).toNat default).Value)) (ans := [.reg [.n], .reg [.n, .n, .n, .n, .v (vi ((a0.getD ((0 : Int)).toNat default).At)), .n], .br true, .reg [.n, .n, .n, .v (vi ((a0.getD ((0 : Int)).toNat default).Value)), .n]]) (fr := true) (by kernel_rfl) (an (an (ti trivial) (an (ti (ti (an h290 (ti (an (show loadL Go.Proofs.Try.prog 3 (((0 : Int)).toNat * 2 + 0) (List.flatMap c_SSkyRow a0) = some (vi ((a0.getD ((0 : Int)).toNat default).At)) from (ld_flat ag3 c_SSkyRow 2 0 len_c_SSkyRow (by omega) a0 default h290 (by omega)).trans rfl) (ti trivial)))))) (an (decide_eq_true h291) (an (ti (an h290 (ti (an (show loadL Go.Proofs.Try.prog 3 (((0 : Int)).toNat * 2 + 1) (List.flatMap c_SSkyRow a0) = some (vi ((a0.getD ((0 : Int)).toNat default).Value)) from (ld_flat ag3 c_SSkyRow 2 1 len_c_SSkyRow (by omega) a0 default h290 (by omega)).trans rfl) (ti trivial))))) trivial)))) (ti trivial)) (Wv.refl _)
    · rw [if_neg h291] at h
      cases h310 : nspeculumref09_TableAt_l0_0 k a0 a1 k 1 with
      | none => rw [h310] at h; cases h
      | some r311 =>
        rw [h310, Option.bind_some] at h
        have hph310 := nspeculumref09_TableAt_l0_0_ok k a0 a1 _ _ _ h310
        cases r311 with
        | inl r312 =>
          dsimp only at h
          injection h with h; subst h
          exact fun_ok pm pn Go.Proofs.Try.func49 (r0 := vi r312) (ans := [.reg [.n], .reg [.n, .n, .n, .n, .v (vi ((a0.getD ((0 : Int)).toNat default).At)), .n], .br false, .reg [.n], .sub ⟨[(0, none), (1, none), (5, none)], [], []⟩ .ret ⟨mkA [(4, vi r312)], [], .nil⟩]) (fr := true) (by kernel_rfl) (an (an (ti trivial) (an (an (ti (ti (an h290 (ti (an (show loadL Go.Proofs.Try.prog 3 (((0 : Int)).toNat * 2 + 0) (List.flatMap c_SSkyRow a0) = some (vi ((a0.getD ((0 : Int)).toNat default).At)) from (ld_flat ag3 c_SSkyRow 2 0 len_c_SSkyRow (by omega) a0 default h290 (by omega)).trans rfl) (ti trivial)))))) (an (decide_eq_false h291) trivial)) (an (ti trivial) (an (ti trivial) (VRun.loop hph310))))) (ti trivial)) (Wv.refl _)
        | inr r313 =>
          dsimp only at h
          by_cases h314 : 0 ≤ w64 ((a0.length : Int) - 1) ∧ w64 ((a0.length : Int) - 1) < (a0.length : Int)
          · rw [if_pos h314] at h
            injection h with h; subst h
            exact fun_ok pm pn Go.Proofs.Try.func49 (r0 := vi ((a0.getD (w64 ((a0.length : Int) - 1)).toNat default).Value)) (ans := [.reg [.n], .reg [.n, .n, .n, .n, .v (vi ((a0.getD ((0 : Int)).toNat default).At)), .n], .br false, .reg [.n], .sub ⟨[(0, none), (1, none), (5, none)], [], []⟩ (.exit 0) ⟨mkA [(0, VV.tr (List.flatMap c_SSkyRow a0) a0.length)], [], .nil⟩, .reg [.n, .n, .n, .n, .n, .n, .v (vi ((a0.getD (w64 ((a0.length : Int) - 1)).toNat default).Value)), .n]]) (fr := true) (by kernel_rfl) (an (an (ti trivial) (an (an (ti (ti (an h290 (ti (an (show loadL Go.Proofs.Try.prog 3 (((0 : Int)).toNat * 2 + 0) (List.flatMap c_SSkyRow a0) = some (vi ((a0.getD ((0 : Int)).toNat default).At)) from (ld_flat ag3 c_SSkyRow 2 0 len_c_SSkyRow (by omega) a0 default h290 (by omega)).trans rfl) (ti trivial)))))) (an (decide_eq_false h291) trivial)) (an (an (ti trivial) (an (ti trivial) (VRun.loop hph310))) (an (ti (ti (ti (ti (an h314 (ti (an (show loadL Go.Proofs.Try.prog 3 ((w64 ((a0.length : Int) - 1)).toNat * 2 + 1) (List.flatMap c_SSkyRow a0) = some (vi ((a0.getD (w64 ((a0.length : Int) - 1)).toNat default).Value)) from (ld_flat ag3 c_SSkyRow 2 1 len_c_SSkyRow (by omega) a0 default h314 (by omega)).trans rfl) (ti trivial)))))))) trivial)))) (ti trivial)) (Wv.refl _)
          · rw [if_neg h314] at h; cases h
  · rw [if_neg h290] at h; cases h
end Go.Proofs.Ytlhnkehohknhbaa.Vg

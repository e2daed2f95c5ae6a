/- Written by a program out of the program: what Go functions do, as plain functions, and their contracts. -/
import Derived.Test.YtpnlkhmnhjcgkaaVw
namespace Go.Proofs.Ytpnlkhmnhjcgkaa.Vg
set_option linter.unusedVariables false
set_option linter.unusedSimpArgs false
open Go Go.Proofs.Ytpnlkhmnhjcgkaa.Ev Go.Proofs.Ytpnlkhmnhjcgkaa.Vv
structure SRange where
  Lo : Int
  Hi : Int
  deriving Inhabited
def c_SRange (x : SRange) : List VV := [vi x.Lo, vi x.Hi]
theorem len_c_SRange (x : SRange) : (c_SRange x).length = 2 := rfl
theorem still_c_SRange (xs : List SRange) : (xs.flatMap c_SRange).all VV.still = true := all_flat (fun _ => rfl) xs
theorem isC_c_SRange (xs : List SRange) : (xs.flatMap c_SRange).all VV.isC = true := all_flat (fun _ => rfl) xs
theorem new0_c_SRange (xs : List SRange) : (xs.flatMap c_SRange).all new0 = true := all_flat (fun _ => rfl) xs
theorem unfr_c_SRange (xs : List SRange) : (xs.flatMap c_SRange).map unfr = xs.flatMap c_SRange := unfr_flat (fun _ => rfl) xs
structure SAging where
  Fresh : SRange
  Loss : SRange
  Back : SRange
  Washes : Int
  deriving Inhabited
def c_SAging (x : SAging) : List VV := [vi x.Fresh.Lo, vi x.Fresh.Hi, vi x.Loss.Lo, vi x.Loss.Hi, vi x.Back.Lo, vi x.Back.Hi, vi x.Washes]
theorem len_c_SAging (x : SAging) : (c_SAging x).length = 7 := rfl
theorem still_c_SAging (xs : List SAging) : (xs.flatMap c_SAging).all VV.still = true := all_flat (fun _ => rfl) xs
theorem isC_c_SAging (xs : List SAging) : (xs.flatMap c_SAging).all VV.isC = true := all_flat (fun _ => rfl) xs
theorem new0_c_SAging (xs : List SAging) : (xs.flatMap c_SAging).all new0 = true := all_flat (fun _ => rfl) xs
theorem unfr_c_SAging (xs : List SAging) : (xs.flatMap c_SAging).map unfr = xs.flatMap c_SAging := unfr_flat (fun _ => rfl) xs
structure SCoatEvent where
  Mirror : ByteArray
  Day : Int
  Kind : Int
  deriving Inhabited
def c_SCoatEvent (x : SCoatEvent) : List VV := [vs x.Mirror, vi x.Day, vi x.Kind]
theorem len_c_SCoatEvent (x : SCoatEvent) : (c_SCoatEvent x).length = 3 := rfl
theorem still_c_SCoatEvent (xs : List SCoatEvent) : (xs.flatMap c_SCoatEvent).all VV.still = true := all_flat (fun _ => rfl) xs
theorem isC_c_SCoatEvent (xs : List SCoatEvent) : (xs.flatMap c_SCoatEvent).all VV.isC = true := all_flat (fun _ => rfl) xs
theorem new0_c_SCoatEvent (xs : List SCoatEvent) : (xs.flatMap c_SCoatEvent).all new0 = true := all_flat (fun _ => rfl) xs
theorem unfr_c_SCoatEvent (xs : List SCoatEvent) : (xs.flatMap c_SCoatEvent).map unfr = xs.flatMap c_SCoatEvent := unfr_flat (fun _ => rfl) xs
structure Sfilm where
  Aging : SAging
  isOn : Bool
  washed : Int
  since : Int
  bright : SRange
  deriving Inhabited
def c_Sfilm (x : Sfilm) : List VV := [vi x.Aging.Fresh.Lo, vi x.Aging.Fresh.Hi, vi x.Aging.Loss.Lo, vi x.Aging.Loss.Hi, vi x.Aging.Back.Lo, vi x.Aging.Back.Hi, vi x.Aging.Washes, vb x.isOn, vi x.washed, vi x.since, vi x.bright.Lo, vi x.bright.Hi]
theorem len_c_Sfilm (x : Sfilm) : (c_Sfilm x).length = 12 := rfl
theorem still_c_Sfilm (xs : List Sfilm) : (xs.flatMap c_Sfilm).all VV.still = true := all_flat (fun _ => rfl) xs
theorem isC_c_Sfilm (xs : List Sfilm) : (xs.flatMap c_Sfilm).all VV.isC = true := all_flat (fun _ => rfl) xs
theorem new0_c_Sfilm (xs : List Sfilm) : (xs.flatMap c_Sfilm).all new0 = true := all_flat (fun _ => rfl) xs
theorem unfr_c_Sfilm (xs : List Sfilm) : (xs.flatMap c_Sfilm).map unfr = xs.flatMap c_Sfilm := unfr_flat (fun _ => rfl) xs
theorem ag3 : isAggT Go.Proofs.Try.prog 3 = some false := by kernel_rfl
theorem ag103 : isAggT Go.Proofs.Try.prog 103 = some true := by kernel_rfl
theorem sz103 : szOf Go.Proofs.Try.prog 103 = some 3 := by kernel_rfl
def ncoat_isWithin (k : Nat) (a0 : Int) (a1 : Int) (a2 : SRange) : Option Bool :=
  if a0 ≤ a2.Lo then (if a2.Lo ≤ a2.Hi then (some (decide (a2.Hi ≤ a1))) else (some false)) else (some false)
set_option maxRecDepth 100000 in
set_option maxHeartbeats 4000000 in
theorem ncoat_isWithin_ok (k : Nat) (a0 : Int) (a1 : Int) (a2 : SRange) (r : Bool) (h : ncoat_isWithin k a0 a1 a2 = some r) : VC Go.Proofs.Try.prog 83 [vi a0, vi a1, VV.ag [vi a2.Lo, vi a2.Hi]] (vb r) := by
  unfold ncoat_isWithin at h
  by_cases h3 : a0 ≤ a2.Lo
  · rw [if_pos h3] at h
    by_cases h4 : a2.Lo ≤ a2.Hi
    · rw [if_pos h4] at h
      injection h with h; subst h
      exact fun_ok pm pn Go.Proofs.Try.func83 (r0 := vb (decide (a2.Hi ≤ a1))) (ans := [.reg [.n, .n], .reg [.n, .n, .n, .n, .n, .n, .n, .n, .n, .n, .b true, .n, .n, .n, .n, .n, .b true, .n]]) (fr := true) (by kernel_rfl) (an (an (ti (ti trivial)) (an (ti (ti (ti (ti (ti (an (an (decide_eq_true h3) trivial) (an (an (decide_eq_true h3) trivial) (an (an (decide_eq_true h3) trivial) (an (an (decide_eq_true h3) trivial) (an (an (decide_eq_true h3) trivial) (an (decide_eq_true h3) (ti (an (an (decide_eq_true h4) trivial) (an (an (decide_eq_true h4) trivial) (an (an (decide_eq_true h4) trivial) (an (an (decide_eq_true h4) trivial) (an (decide_eq_true h4) (ti trivial)))))))))))))))))) trivial)) (ti trivial)) (Wv.refl _)
    · rw [if_neg h4] at h
      injection h with h; subst h
      exact fun_ok pm pn Go.Proofs.Try.func83 (r0 := vb false) (ans := [.reg [.n, .n], .reg [.n, .n, .n, .n, .n, .n, .n, .n, .n, .n, .b true, .n, .skip, .skip, .skip, .skip, .b false, .n]]) (fr := true) (by kernel_rfl) (an (an (ti (ti trivial)) (an (ti (ti (ti (ti (ti (an (an (decide_eq_true h3) trivial) (an (an (decide_eq_true h3) trivial) (an (an (decide_eq_true h3) trivial) (an (an (decide_eq_true h3) trivial) (an (an (decide_eq_true h3) trivial) (an (decide_eq_true h3) (ti (an (decide_eq_false h4) (an (decide_eq_false h4) (an (decide_eq_false h4) (an (decide_eq_false h4) (an (decide_eq_false h4) (ti trivial)))))))))))))))))) trivial)) (ti trivial)) (Wv.refl _)
  · rw [if_neg h3] at h
    injection h with h; subst h
    exact fun_ok pm pn Go.Proofs.Try.func83 (r0 := vb false) (ans := [.reg [.n, .n], .reg [.n, .n, .n, .n, .n, .skip, .skip, .skip, .skip, .skip, .b false, .n, .skip, .skip, .skip, .skip, .b false, .n]]) (fr := true) (by kernel_rfl) (an (an (ti (ti trivial)) (an (ti (ti (ti (ti (ti (an (decide_eq_false h3) (an (decide_eq_false h3) (an (decide_eq_false h3) (an (decide_eq_false h3) (an (decide_eq_false h3) (an (decide_eq_false h3) (ti (an rf (an rf (an rf (an rf (an rf (ti trivial)))))))))))))))))) trivial)) (ti trivial)) (Wv.refl _)
def ncoat_areWithin_l0_0 (k : Nat) (a0 : Int) (a1 : Int) (a2 : (List Int)) : Nat → Int → Option (Sum Unit Unit)
  | 0, _ => none
  | fuel + 1, x11 => if x11 < (a2.length : Int) then (if 0 ≤ x11 ∧ x11 < (a2.length : Int) then (if (a2.getD x11.toNat 0) < a0 then (some (.inl ())) else (if a1 < (a2.getD x11.toNat 0) then (some (.inl ())) else (ncoat_areWithin_l0_0 k a0 a1 a2 fuel (w64 (x11 + 1))))) else none) else (some (.inr ()))
set_option maxRecDepth 100000 in
set_option maxHeartbeats 4000000 in
theorem ncoat_areWithin_l0_0_ok (k : Nat) (a0 : Int) (a1 : Int) (a2 : (List Int)) : ∀ (fuel : Nat) (x11 : Int) (r : Sum Unit Unit), ncoat_areWithin_l0_0 k a0 a1 a2 fuel x11 = some r → (match r with | .inl r => VLoop none Go.Proofs.Try.prog (szF Go.Proofs.Try.f84) (bodyOf Go.Proofs.Try.f84 0) ⟨mkA [(0, vi a0), (1, vi a1), (9, VV.tr (List.map vi a2) a2.length), (10, vi (a2.length : Int)), (11, vi x11)], [], .nil⟩ .ret ⟨mkA [(6, vb false)], [], .nil⟩ | .inr r => VLoop none Go.Proofs.Try.prog (szF Go.Proofs.Try.f84) (bodyOf Go.Proofs.Try.f84 0) ⟨mkA [(0, vi a0), (1, vi a1), (9, VV.tr (List.map vi a2) a2.length), (10, vi (a2.length : Int)), (11, vi x11)], [], .nil⟩ (.exit 0) ⟨mkA [], [], .nil⟩) := by
  intro fuel
  induction fuel with
  | zero => intro x11 r h; rw [ncoat_areWithin_l0_0.eq_1] at h; cases h
  | succ fuel ih =>
    intro x11 r h
    rw [ncoat_areWithin_l0_0.eq_2] at h
    by_cases h62 : x11 < (a2.length : Int)
    · rw [if_pos h62] at h
      by_cases h63 : 0 ≤ x11 ∧ x11 < (a2.length : Int)
      · rw [if_pos h63] at h
        by_cases h64 : (a2.getD x11.toNat 0) < a0
        · rw [if_pos h64] at h
          injection h with h; subst h
          exact round_stop (c := ⟨[(6, none)], [], []⟩) (s1 := ⟨mkA [(6, vb false)], [], .nil⟩) pm pn (ans := [.reg [.n], .br true, .reg [.n, .v (vi (a2.getD x11.toNat 0)), .n], .reg [.n, .n, .n, .n, .skip, .skip, .skip, .b true], .br true, .reg [.n]]) (by kernel_rfl) (by intro e; cases e) (an (an (ti trivial) (an (an (decide_eq_true h62) trivial) (an (an h63 (an (show loadL Go.Proofs.Try.prog 3 (x11.toNat * 1) (List.map vi a2) = some (vi (a2.getD x11.toNat 0)) from ld_map ag3 vi a2 0 h63 (by omega)) (ti trivial))) (an (ti (ti (ti (ti (an (decide_eq_true h64) (an (decide_eq_true h64) (an (decide_eq_true h64) (an (decide_eq_true h64) trivial)))))))) (an rt (an (ti trivial) trivial)))))) (ti trivial))
        · rw [if_neg h64] at h
          by_cases h65 : a1 < (a2.getD x11.toNat 0)
          · rw [if_pos h65] at h
            injection h with h; subst h
            exact round_stop (c := ⟨[(6, none)], [], []⟩) (s1 := ⟨mkA [(6, vb false)], [], .nil⟩) pm pn (ans := [.reg [.n], .br true, .reg [.n, .v (vi (a2.getD x11.toNat 0)), .n], .reg [.n, .n, .n, .n, .n, .n, .n, .b false], .br true, .reg [.n]]) (by kernel_rfl) (by intro e; cases e) (an (an (ti trivial) (an (an (decide_eq_true h62) trivial) (an (an h63 (an (show loadL Go.Proofs.Try.prog 3 (x11.toNat * 1) (List.map vi a2) = some (vi (a2.getD x11.toNat 0)) from ld_map ag3 vi a2 0 h63 (by omega)) (ti trivial))) (an (ti (ti (ti (ti (an (an (decide_eq_false h64) trivial) (an (an (decide_eq_false h64) trivial) (an (an (decide_eq_false h64) trivial) (an (decide_eq_false h64) trivial)))))))) (an (decide_eq_true h65) (an (ti trivial) trivial)))))) (ti trivial))
          · rw [if_neg h65] at h
            have h2 := ih _ _ h
            obtain ⟨q, hv, hq⟩ := pkR (rd := none) (P := Go.Proofs.Try.prog) (fn := Go.Proofs.Try.f84) (k := 0) (s := ⟨mkA [(0, vi a0), (1, vi a1), (9, VV.tr (List.map vi a2) a2.length), (10, vi (a2.length : Int)), (11, vi x11)], [], .nil⟩) (ans := [.reg [.n], .br true, .reg [.n, .v (vi (a2.getD x11.toNat 0)), .n], .reg [.n, .n, .n, .n, .n, .n, .n, .b false], .br false, .reg [.n, .n]]) (c := ⟨[(0, none), (1, none), (9, none), (10, none), (11, none)], [], []⟩) (e := .normal) (s1 := ⟨mkA [(0, vi a0), (1, vi a1), (9, VV.tr (List.map vi a2) a2.length), (10, vi (a2.length : Int)), (11, vi (w64 (x11 + 1)))], [], .nil⟩) (an (an (ti trivial) (an (an (decide_eq_true h62) trivial) (an (an (an h63 (an (show loadL Go.Proofs.Try.prog 3 (x11.toNat * 1) (List.map vi a2) = some (vi (a2.getD x11.toNat 0)) from ld_map ag3 vi a2 0 h63 (by omega)) (ti trivial))) (an (ti (ti (ti (ti (an (an (decide_eq_false h64) trivial) (an (an (decide_eq_false h64) trivial) (an (an (decide_eq_false h64) trivial) (an (decide_eq_false h64) trivial)))))))) (an (decide_eq_false h65) trivial))) (ti (ti trivial))))) (ti trivial)) (by kernel_rfl)
            cases r with
            | inl r => exact round_next pm pn hv hq h2
            | inr r =>
              exact round_next pm pn hv hq h2
      · rw [if_neg h63] at h; cases h
    · rw [if_neg h62] at h
      injection h with h; subst h
      exact round_stop (c := ⟨[], [], []⟩) (s1 := ⟨mkA [], [], .nil⟩) pm pn (ans := [.reg [.n], .br false]) (by kernel_rfl) (by intro e; cases e) (an (an (ti trivial) (an (decide_eq_false h62) trivial)) (ti trivial))
def ncoat_areWithin (k : Nat) (a0 : Int) (a1 : Int) (a2 : (List Int)) : Option Bool :=
  (ncoat_areWithin_l0_0 k a0 a1 a2 k 0).bind fun r67 => (match r67 with | .inl r68 => (some false) | .inr r69 => (some true))
set_option maxRecDepth 100000 in
set_option maxHeartbeats 4000000 in
theorem ncoat_areWithin_ok (k : Nat) (a0 : Int) (a1 : Int) (a2 : (List Int)) (r : Bool) (h : ncoat_areWithin k a0 a1 a2 = some r) : VC Go.Proofs.Try.prog 84 [vi a0, vi a1, VV.tr (List.map vi a2) a2.length] (vb r) := by
  unfold ncoat_areWithin at h
  cases h66 : ncoat_areWithin_l0_0 k a0 a1 a2 k 0 with
  | none => rw [h66] at h; cases h
  | some r67 =>
    rw [h66, Option.bind_some] at h
    have hph66 := ncoat_areWithin_l0_0_ok k a0 a1 a2 _ _ _ h66
    cases r67 with
    | inl r68 =>
      dsimp only at h
      injection h with h; subst h
      exact fun_ok pm pn Go.Proofs.Try.func84 (r0 := vb false) (ans := [.reg [.n], .reg [.n, .n, .n], .sub ⟨[(0, none), (1, none), (9, none), (10, none), (11, none)], [], []⟩ .ret ⟨mkA [(6, vb false)], [], .nil⟩]) (fr := true) (by kernel_rfl) (an (an (ti trivial) (an (ti (ti (ti trivial))) (an (ti trivial) (VRun.loop hph66)))) (ti trivial)) (Wv.refl _)
    | inr r69 =>
      dsimp only at h
      injection h with h; subst h
      exact fun_ok pm pn Go.Proofs.Try.func84 (r0 := vb true) (ans := [.reg [.n], .reg [.n, .n, .n], .sub ⟨[(0, none), (1, none), (9, none), (10, none), (11, none)], [], []⟩ (.exit 0) ⟨mkA [], [], .nil⟩, .reg [.n]]) (fr := true) (by kernel_rfl) (an (an (ti trivial) (an (an (ti (ti (ti trivial))) (an (ti trivial) (VRun.loop hph66))) (an (ti trivial) trivial))) (ti trivial)) (Wv.refl _)
def ncoat_CheckAging_l0_0 (k : Nat) (a0 : SAging) : Nat → Int → Option (Sum Unit Unit)
  | 0, _ => none
  | fuel + 1, x12 => if x12 < 3 then (if x12 = 0 then ((ncoat_isWithin k 0 1000 (⟨a0.Fresh.Lo, a0.Fresh.Hi⟩ : SRange)).bind fun r91 => (if r91 = true then (ncoat_CheckAging_l0_0 k a0 fuel (w64 (x12 + 1))) else (some (.inl ())))) else (if x12 = 1 then ((ncoat_isWithin k 0 1000 (⟨a0.Loss.Lo, a0.Loss.Hi⟩ : SRange)).bind fun r95 => (if r95 = true then (ncoat_CheckAging_l0_0 k a0 fuel (w64 (x12 + 1))) else (some (.inl ())))) else (if x12 = 2 then ((ncoat_isWithin k 0 1000 (⟨a0.Back.Lo, a0.Back.Hi⟩ : SRange)).bind fun r99 => (if r99 = true then (ncoat_CheckAging_l0_0 k a0 fuel (w64 (x12 + 1))) else (some (.inl ())))) else none))) else (some (.inr ()))
set_option maxRecDepth 100000 in
set_option maxHeartbeats 4000000 in
theorem ncoat_CheckAging_l0_0_ok (k : Nat) (a0 : SAging) : ∀ (fuel : Nat) (x12 : Int) (r : Sum Unit Unit), ncoat_CheckAging_l0_0 k a0 fuel x12 = some r → (match r with | .inl r => VLoop none Go.Proofs.Try.prog (szF Go.Proofs.Try.f60) (bodyOf Go.Proofs.Try.f60 0) ⟨mkA [(1, VV.pt 0 0), (11, VV.ag [vi a0.Fresh.Lo, vi a0.Fresh.Hi, vi a0.Loss.Lo, vi a0.Loss.Hi, vi a0.Back.Lo, vi a0.Back.Hi]), (12, vi x12)], [some ⟨true, 1, [vi a0.Fresh.Lo, vi a0.Fresh.Hi, vi a0.Loss.Lo, vi a0.Loss.Hi, vi a0.Back.Lo, vi a0.Back.Hi, vi a0.Washes]⟩], .nil⟩ .ret ⟨mkA [(2, vi 2)], [], .nil⟩ | .inr r => VLoop none Go.Proofs.Try.prog (szF Go.Proofs.Try.f60) (bodyOf Go.Proofs.Try.f60 0) ⟨mkA [(1, VV.pt 0 0), (11, VV.ag [vi a0.Fresh.Lo, vi a0.Fresh.Hi, vi a0.Loss.Lo, vi a0.Loss.Hi, vi a0.Back.Lo, vi a0.Back.Hi]), (12, vi x12)], [some ⟨true, 1, [vi a0.Fresh.Lo, vi a0.Fresh.Hi, vi a0.Loss.Lo, vi a0.Loss.Hi, vi a0.Back.Lo, vi a0.Back.Hi, vi a0.Washes]⟩], .nil⟩ (.exit 0) ⟨mkA [(1, VV.pt 0 0)], [some ⟨true, 1, [vi a0.Fresh.Lo, vi a0.Fresh.Hi, vi a0.Loss.Lo, vi a0.Loss.Hi, vi a0.Back.Lo, vi a0.Back.Hi, vi a0.Washes]⟩], .nil⟩) := by
  intro fuel
  induction fuel with
  | zero => intro x12 r h; rw [ncoat_CheckAging_l0_0.eq_1] at h; cases h
  | succ fuel ih =>
    intro x12 r h
    rw [ncoat_CheckAging_l0_0.eq_2] at h
    by_cases h89 : x12 < 3
    · rw [if_pos h89] at h
      by_cases h90 : x12 = 0
      · rw [if_pos h90] at h
        cases h92 : ncoat_isWithin k 0 1000 (⟨a0.Fresh.Lo, a0.Fresh.Hi⟩ : SRange) with
        | none => rw [h92] at h; cases h
        | some r91 =>
          rw [h92, Option.bind_some] at h
          by_cases h93 : r91 = true
          · rw [if_pos h93] at h
            have h2 := ih _ _ h
            obtain ⟨q, hv, hq⟩ := pkR (rd := none) (P := Go.Proofs.Try.prog) (fn := Go.Proofs.Try.f60) (k := 0) (s := ⟨mkA [(1, VV.pt 0 0), (11, VV.ag [vi a0.Fresh.Lo, vi a0.Fresh.Hi, vi a0.Loss.Lo, vi a0.Loss.Hi, vi a0.Back.Lo, vi a0.Back.Hi]), (12, vi x12)], [some ⟨true, 1, [vi a0.Fresh.Lo, vi a0.Fresh.Hi, vi a0.Loss.Lo, vi a0.Loss.Hi, vi a0.Back.Lo, vi a0.Back.Hi, vi a0.Washes]⟩], .nil⟩) (ans := [.reg [.n], .br true, .reg [.v (VV.ag [vi a0.Fresh.Lo, vi a0.Fresh.Hi]), .n, .n], .reg [.n, .call (vb r91), .n], .br false, .reg [.n, .n]]) (c := ⟨[(1, none), (11, none), (12, none)], [none], []⟩) (e := .normal) (s1 := ⟨mkA [(1, VV.pt 0 0), (11, VV.ag [vi a0.Fresh.Lo, vi a0.Fresh.Hi, vi a0.Loss.Lo, vi a0.Loss.Hi, vi a0.Back.Lo, vi a0.Back.Hi]), (12, vi (w64 (x12 + 1)))], [some ⟨true, 1, [vi a0.Fresh.Lo, vi a0.Fresh.Hi, vi a0.Loss.Lo, vi a0.Loss.Hi, vi a0.Back.Lo, vi a0.Back.Hi, vi a0.Washes]⟩], .nil⟩) (an (an (ti trivial) (an (an (decide_eq_true h89) trivial) (an (an (an (show (0:Int) ≤ x12 ∧ x12 < ((3 : Nat) : Int) ∧ partV (x12.toNat * 2) (some 2) [vi a0.Fresh.Lo, vi a0.Fresh.Hi, vi a0.Loss.Lo, vi a0.Loss.Hi, vi a0.Back.Lo, vi a0.Back.Hi] = some (VV.ag [vi a0.Fresh.Lo, vi a0.Fresh.Hi]) from ⟨by have := (of_decide_eq_true (decide_eq_true h90)); omega, by have := (of_decide_eq_true (decide_eq_true h90)); omega, by rw [show x12 = (0 : Int) from (of_decide_eq_true (decide_eq_true h90))]; rfl⟩) (ti (ti trivial))) (an (ti (an (show VC Go.Proofs.Try.prog 83 [vi 0, vi 1000, VV.ag [vi a0.Fresh.Lo, vi a0.Fresh.Hi]] (vb r91) from (VC.args (ncoat_isWithin_ok k 0 1000 (⟨a0.Fresh.Lo, a0.Fresh.Hi⟩ : SRange) _ h92) (by first | rfl | simp only [drop0, unfr_vi, unfr_vb, unfr_vs, List.map_cons, List.map_nil, un_i, un_k, un_b, un_s, un_tr, un_fr, List.length_map, List.length_replicate, List.length_append, List.length_set, List.length_cons, List.length_nil, unfr_c_SAging, unfr_c_SRange, unfr_c_SCoatEvent]))) (ti trivial))) (an (not_f h93) trivial))) (ti (ti trivial))))) (ti trivial)) (by kernel_rfl)
            cases r with
            | inl r => exact round_next pm pn hv hq h2
            | inr r =>
              exact round_next pm pn hv hq h2
          · rw [if_neg h93] at h
            injection h with h; subst h
            exact round_stop (c := ⟨[(2, none)], [], []⟩) (s1 := ⟨mkA [(2, vi 2)], [], .nil⟩) pm pn (ans := [.reg [.n], .br true, .reg [.v (VV.ag [vi a0.Fresh.Lo, vi a0.Fresh.Hi]), .n, .n], .reg [.n, .call (vb r91), .n], .br true, .reg [.n]]) (by kernel_rfl) (by intro e; cases e) (an (an (ti trivial) (an (an (decide_eq_true h89) trivial) (an (an (show (0:Int) ≤ x12 ∧ x12 < ((3 : Nat) : Int) ∧ partV (x12.toNat * 2) (some 2) [vi a0.Fresh.Lo, vi a0.Fresh.Hi, vi a0.Loss.Lo, vi a0.Loss.Hi, vi a0.Back.Lo, vi a0.Back.Hi] = some (VV.ag [vi a0.Fresh.Lo, vi a0.Fresh.Hi]) from ⟨by have := (of_decide_eq_true (decide_eq_true h90)); omega, by have := (of_decide_eq_true (decide_eq_true h90)); omega, by rw [show x12 = (0 : Int) from (of_decide_eq_true (decide_eq_true h90))]; rfl⟩) (ti (ti trivial))) (an (ti (an (show VC Go.Proofs.Try.prog 83 [vi 0, vi 1000, VV.ag [vi a0.Fresh.Lo, vi a0.Fresh.Hi]] (vb r91) from (VC.args (ncoat_isWithin_ok k 0 1000 (⟨a0.Fresh.Lo, a0.Fresh.Hi⟩ : SRange) _ h92) (by first | rfl | simp only [drop0, unfr_vi, unfr_vb, unfr_vs, List.map_cons, List.map_nil, un_i, un_k, un_b, un_s, un_tr, un_fr, List.length_map, List.length_replicate, List.length_append, List.length_set, List.length_cons, List.length_nil, unfr_c_SAging, unfr_c_SRange, unfr_c_SCoatEvent]))) (ti trivial))) (an (not_t (bool_f h93)) (an (ti trivial) trivial)))))) (ti trivial))
      · rw [if_neg h90] at h
        by_cases h94 : x12 = 1
        · rw [if_pos h94] at h
          cases h96 : ncoat_isWithin k 0 1000 (⟨a0.Loss.Lo, a0.Loss.Hi⟩ : SRange) with
          | none => rw [h96] at h; cases h
          | some r95 =>
            rw [h96, Option.bind_some] at h
            by_cases h97 : r95 = true
            · rw [if_pos h97] at h
              have h2 := ih _ _ h
              obtain ⟨q, hv, hq⟩ := pkR (rd := none) (P := Go.Proofs.Try.prog) (fn := Go.Proofs.Try.f60) (k := 0) (s := ⟨mkA [(1, VV.pt 0 0), (11, VV.ag [vi a0.Fresh.Lo, vi a0.Fresh.Hi, vi a0.Loss.Lo, vi a0.Loss.Hi, vi a0.Back.Lo, vi a0.Back.Hi]), (12, vi x12)], [some ⟨true, 1, [vi a0.Fresh.Lo, vi a0.Fresh.Hi, vi a0.Loss.Lo, vi a0.Loss.Hi, vi a0.Back.Lo, vi a0.Back.Hi, vi a0.Washes]⟩], .nil⟩) (ans := [.reg [.n], .br true, .reg [.v (VV.ag [vi a0.Loss.Lo, vi a0.Loss.Hi]), .n, .n], .reg [.n, .call (vb r95), .n], .br false, .reg [.n, .n]]) (c := ⟨[(1, none), (11, none), (12, none)], [none], []⟩) (e := .normal) (s1 := ⟨mkA [(1, VV.pt 0 0), (11, VV.ag [vi a0.Fresh.Lo, vi a0.Fresh.Hi, vi a0.Loss.Lo, vi a0.Loss.Hi, vi a0.Back.Lo, vi a0.Back.Hi]), (12, vi (w64 (x12 + 1)))], [some ⟨true, 1, [vi a0.Fresh.Lo, vi a0.Fresh.Hi, vi a0.Loss.Lo, vi a0.Loss.Hi, vi a0.Back.Lo, vi a0.Back.Hi, vi a0.Washes]⟩], .nil⟩) (an (an (ti trivial) (an (an (decide_eq_true h89) trivial) (an (an (an (show (0:Int) ≤ x12 ∧ x12 < ((3 : Nat) : Int) ∧ partV (x12.toNat * 2) (some 2) [vi a0.Fresh.Lo, vi a0.Fresh.Hi, vi a0.Loss.Lo, vi a0.Loss.Hi, vi a0.Back.Lo, vi a0.Back.Hi] = some (VV.ag [vi a0.Loss.Lo, vi a0.Loss.Hi]) from ⟨by have := (of_decide_eq_true (decide_eq_true h94)); omega, by have := (of_decide_eq_true (decide_eq_true h94)); omega, by rw [show x12 = (1 : Int) from (of_decide_eq_true (decide_eq_true h94))]; rfl⟩) (ti (ti trivial))) (an (ti (an (show VC Go.Proofs.Try.prog 83 [vi 0, vi 1000, VV.ag [vi a0.Loss.Lo, vi a0.Loss.Hi]] (vb r95) from (VC.args (ncoat_isWithin_ok k 0 1000 (⟨a0.Loss.Lo, a0.Loss.Hi⟩ : SRange) _ h96) (by first | rfl | simp only [drop0, unfr_vi, unfr_vb, unfr_vs, List.map_cons, List.map_nil, un_i, un_k, un_b, un_s, un_tr, un_fr, List.length_map, List.length_replicate, List.length_append, List.length_set, List.length_cons, List.length_nil, unfr_c_SAging, unfr_c_SRange, unfr_c_SCoatEvent]))) (ti trivial))) (an (not_f h97) trivial))) (ti (ti trivial))))) (ti trivial)) (by kernel_rfl)
              cases r with
              | inl r => exact round_next pm pn hv hq h2
              | inr r =>
                exact round_next pm pn hv hq h2
            · rw [if_neg h97] at h
              injection h with h; subst h
              exact round_stop (c := ⟨[(2, none)], [], []⟩) (s1 := ⟨mkA [(2, vi 2)], [], .nil⟩) pm pn (ans := [.reg [.n], .br true, .reg [.v (VV.ag [vi a0.Loss.Lo, vi a0.Loss.Hi]), .n, .n], .reg [.n, .call (vb r95), .n], .br true, .reg [.n]]) (by kernel_rfl) (by intro e; cases e) (an (an (ti trivial) (an (an (decide_eq_true h89) trivial) (an (an (show (0:Int) ≤ x12 ∧ x12 < ((3 : Nat) : Int) ∧ partV (x12.toNat * 2) (some 2) [vi a0.Fresh.Lo, vi a0.Fresh.Hi, vi a0.Loss.Lo, vi a0.Loss.Hi, vi a0.Back.Lo, vi a0.Back.Hi] = some (VV.ag [vi a0.Loss.Lo, vi a0.Loss.Hi]) from ⟨by have := (of_decide_eq_true (decide_eq_true h94)); omega, by have := (of_decide_eq_true (decide_eq_true h94)); omega, by rw [show x12 = (1 : Int) from (of_decide_eq_true (decide_eq_true h94))]; rfl⟩) (ti (ti trivial))) (an (ti (an (show VC Go.Proofs.Try.prog 83 [vi 0, vi 1000, VV.ag [vi a0.Loss.Lo, vi a0.Loss.Hi]] (vb r95) from (VC.args (ncoat_isWithin_ok k 0 1000 (⟨a0.Loss.Lo, a0.Loss.Hi⟩ : SRange) _ h96) (by first | rfl | simp only [drop0, unfr_vi, unfr_vb, unfr_vs, List.map_cons, List.map_nil, un_i, un_k, un_b, un_s, un_tr, un_fr, List.length_map, List.length_replicate, List.length_append, List.length_set, List.length_cons, List.length_nil, unfr_c_SAging, unfr_c_SRange, unfr_c_SCoatEvent]))) (ti trivial))) (an (not_t (bool_f h97)) (an (ti trivial) trivial)))))) (ti trivial))
        · rw [if_neg h94] at h
          by_cases h98 : x12 = 2
          · rw [if_pos h98] at h
            cases h100 : ncoat_isWithin k 0 1000 (⟨a0.Back.Lo, a0.Back.Hi⟩ : SRange) with
            | none => rw [h100] at h; cases h
            | some r99 =>
              rw [h100, Option.bind_some] at h
              by_cases h101 : r99 = true
              · rw [if_pos h101] at h
                have h2 := ih _ _ h
                obtain ⟨q, hv, hq⟩ := pkR (rd := none) (P := Go.Proofs.Try.prog) (fn := Go.Proofs.Try.f60) (k := 0) (s := ⟨mkA [(1, VV.pt 0 0), (11, VV.ag [vi a0.Fresh.Lo, vi a0.Fresh.Hi, vi a0.Loss.Lo, vi a0.Loss.Hi, vi a0.Back.Lo, vi a0.Back.Hi]), (12, vi x12)], [some ⟨true, 1, [vi a0.Fresh.Lo, vi a0.Fresh.Hi, vi a0.Loss.Lo, vi a0.Loss.Hi, vi a0.Back.Lo, vi a0.Back.Hi, vi a0.Washes]⟩], .nil⟩) (ans := [.reg [.n], .br true, .reg [.v (VV.ag [vi a0.Back.Lo, vi a0.Back.Hi]), .n, .n], .reg [.n, .call (vb r99), .n], .br false, .reg [.n, .n]]) (c := ⟨[(1, none), (11, none), (12, none)], [none], []⟩) (e := .normal) (s1 := ⟨mkA [(1, VV.pt 0 0), (11, VV.ag [vi a0.Fresh.Lo, vi a0.Fresh.Hi, vi a0.Loss.Lo, vi a0.Loss.Hi, vi a0.Back.Lo, vi a0.Back.Hi]), (12, vi (w64 (x12 + 1)))], [some ⟨true, 1, [vi a0.Fresh.Lo, vi a0.Fresh.Hi, vi a0.Loss.Lo, vi a0.Loss.Hi, vi a0.Back.Lo, vi a0.Back.Hi, vi a0.Washes]⟩], .nil⟩) (an (an (ti trivial) (an (an (decide_eq_true h89) trivial) (an (an (an (show (0:Int) ≤ x12 ∧ x12 < ((3 : Nat) : Int) ∧ partV (x12.toNat * 2) (some 2) [vi a0.Fresh.Lo, vi a0.Fresh.Hi, vi a0.Loss.Lo, vi a0.Loss.Hi, vi a0.Back.Lo, vi a0.Back.Hi] = some (VV.ag [vi a0.Back.Lo, vi a0.Back.Hi]) from ⟨by have := (of_decide_eq_true (decide_eq_true h98)); omega, by have := (of_decide_eq_true (decide_eq_true h98)); omega, by rw [show x12 = (2 : Int) from (of_decide_eq_true (decide_eq_true h98))]; rfl⟩) (ti (ti trivial))) (an (ti (an (show VC Go.Proofs.Try.prog 83 [vi 0, vi 1000, VV.ag [vi a0.Back.Lo, vi a0.Back.Hi]] (vb r99) from (VC.args (ncoat_isWithin_ok k 0 1000 (⟨a0.Back.Lo, a0.Back.Hi⟩ : SRange) _ h100) (by first | rfl | simp only [drop0, unfr_vi, unfr_vb, unfr_vs, List.map_cons, List.map_nil, un_i, un_k, un_b, un_s, un_tr, un_fr, List.length_map, List.length_replicate, List.length_append, List.length_set, List.length_cons, List.length_nil, unfr_c_SAging, unfr_c_SRange, unfr_c_SCoatEvent]))) (ti trivial))) (an (not_f h101) trivial))) (ti (ti trivial))))) (ti trivial)) (by kernel_rfl)
                cases r with
                | inl r => exact round_next pm pn hv hq h2
                | inr r =>
                  exact round_next pm pn hv hq h2
              · rw [if_neg h101] at h
                injection h with h; subst h
                exact round_stop (c := ⟨[(2, none)], [], []⟩) (s1 := ⟨mkA [(2, vi 2)], [], .nil⟩) pm pn (ans := [.reg [.n], .br true, .reg [.v (VV.ag [vi a0.Back.Lo, vi a0.Back.Hi]), .n, .n], .reg [.n, .call (vb r99), .n], .br true, .reg [.n]]) (by kernel_rfl) (by intro e; cases e) (an (an (ti trivial) (an (an (decide_eq_true h89) trivial) (an (an (show (0:Int) ≤ x12 ∧ x12 < ((3 : Nat) : Int) ∧ partV (x12.toNat * 2) (some 2) [vi a0.Fresh.Lo, vi a0.Fresh.Hi, vi a0.Loss.Lo, vi a0.Loss.Hi, vi a0.Back.Lo, vi a0.Back.Hi] = some (VV.ag [vi a0.Back.Lo, vi a0.Back.Hi]) from ⟨by have := (of_decide_eq_true (decide_eq_true h98)); omega, by have := (of_decide_eq_true (decide_eq_true h98)); omega, by rw [show x12 = (2 : Int) from (of_decide_eq_true (decide_eq_true h98))]; rfl⟩) (ti (ti trivial))) (an (ti (an (show VC Go.Proofs.Try.prog 83 [vi 0, vi 1000, VV.ag [vi a0.Back.Lo, vi a0.Back.Hi]] (vb r99) from (VC.args (ncoat_isWithin_ok k 0 1000 (⟨a0.Back.Lo, a0.Back.Hi⟩ : SRange) _ h100) (by first | rfl | simp only [drop0, unfr_vi, unfr_vb, unfr_vs, List.map_cons, List.map_nil, un_i, un_k, un_b, un_s, un_tr, un_fr, List.length_map, List.length_replicate, List.length_append, List.length_set, List.length_cons, List.length_nil, unfr_c_SAging, unfr_c_SRange, unfr_c_SCoatEvent]))) (ti trivial))) (an (not_t (bool_f h101)) (an (ti trivial) trivial)))))) (ti trivial))
          · rw [if_neg h98] at h
            cases h
    · rw [if_neg h89] at h
      injection h with h; subst h
      exact round_stop (c := ⟨[(1, none)], [none], []⟩) (s1 := ⟨mkA [(1, VV.pt 0 0)], [some ⟨true, 1, [vi a0.Fresh.Lo, vi a0.Fresh.Hi, vi a0.Loss.Lo, vi a0.Loss.Hi, vi a0.Back.Lo, vi a0.Back.Hi, vi a0.Washes]⟩], .nil⟩) pm pn (ans := [.reg [.n], .br false]) (by kernel_rfl) (by intro e; cases e) (an (an (ti trivial) (an (decide_eq_false h89) trivial)) (ti trivial))
def ncoat_CheckAging (k : Nat) (a0 : SAging) : Option Int :=
  (ncoat_CheckAging_l0_0 k a0 k 0).bind fun r103 => (match r103 with | .inl r104 => (some 2) | .inr r105 => ((ncoat_areWithin k 0 100 ([a0.Washes] : List Int)).bind fun r106 => (if r106 = true then (some 0) else (some 2))))
set_option maxRecDepth 100000 in
set_option maxHeartbeats 4000000 in
theorem ncoat_CheckAging_ok (k : Nat) (a0 : SAging) (r : Int) (h : ncoat_CheckAging k a0 = some r) : VC Go.Proofs.Try.prog 60 [VV.ag [vi a0.Fresh.Lo, vi a0.Fresh.Hi, vi a0.Loss.Lo, vi a0.Loss.Hi, vi a0.Back.Lo, vi a0.Back.Hi, vi a0.Washes]] (vi r) := by
  unfold ncoat_CheckAging at h
  cases h102 : ncoat_CheckAging_l0_0 k a0 k 0 with
  | none => rw [h102] at h; cases h
  | some r103 =>
    rw [h102, Option.bind_some] at h
    have hph102 := ncoat_CheckAging_l0_0_ok k a0 _ _ _ h102
    cases r103 with
    | inl r104 =>
      dsimp only at h
      injection h with h; subst h
      exact fun_ok pm pn Go.Proofs.Try.func60 (r0 := vi 2) (ans := [.reg [.n, .n], .reg [.n, .n, .n, .n, .n, .n, .n, .n], .sub ⟨[(1, none), (11, none), (12, none)], [none], []⟩ .ret ⟨mkA [(2, vi 2)], [], .nil⟩]) (fr := true) (by kernel_rfl) (an (an (ti (ti trivial)) (an (ti (ti (ti (ti (ti (ti (ti (ti trivial)))))))) (an (ti trivial) (VRun.loop hph102)))) (ti trivial)) (Wv.refl _)
    | inr r105 =>
      dsimp only at h
      cases h107 : ncoat_areWithin k 0 100 ([a0.Washes] : List Int) with
      | none => rw [h107] at h; cases h
      | some r106 =>
        rw [h107, Option.bind_some] at h
        by_cases h108 : r106 = true
        · rw [if_pos h108] at h
          injection h with h; subst h
          exact fun_ok pm pn Go.Proofs.Try.func60 (r0 := vi 0) (ans := [.reg [.n, .n], .reg [.n, .n, .n, .n, .n, .n, .n, .n], .sub ⟨[(1, none), (11, none), (12, none)], [none], []⟩ (.exit 0) ⟨mkA [(1, VV.pt 0 0)], [some ⟨true, 1, [vi a0.Fresh.Lo, vi a0.Fresh.Hi, vi a0.Loss.Lo, vi a0.Loss.Hi, vi a0.Back.Lo, vi a0.Back.Hi, vi a0.Washes]⟩], .nil⟩, .reg [.n, .n, .n, .call (vb r106), .n], .br false, .reg [.n]]) (fr := true) (by kernel_rfl) (an (an (ti (ti trivial)) (an (an (ti (ti (ti (ti (ti (ti (ti (ti trivial)))))))) (an (ti trivial) (VRun.loop hph102))) (an (an (ti (ti (ti (an (show VC Go.Proofs.Try.prog 84 [vi 0, vi 100, VV.tr (List.drop 0 (List.map unfr [vi a0.Washes])) 1] (vb r106) from (VC.args (ncoat_areWithin_ok k 0 100 ([a0.Washes] : List Int) _ h107) (by first | rfl | simp only [show [vi a0.Washes] = List.map vi ([a0.Washes] : List Int) from rfl, drop0, unfr_vi, unfr_vb, unfr_vs, List.map_cons, List.map_nil, un_i, un_k, un_b, un_s, un_tr, un_fr, List.length_map, List.length_replicate, List.length_append, List.length_set, List.length_cons, List.length_nil, unfr_c_SAging, unfr_c_SRange, unfr_c_SCoatEvent]))) (ti trivial))))) (an (not_f h108) trivial)) (an (ti trivial) trivial)))) (ti trivial)) (Wv.refl _)
        · rw [if_neg h108] at h
          injection h with h; subst h
          exact fun_ok pm pn Go.Proofs.Try.func60 (r0 := vi 2) (ans := [.reg [.n, .n], .reg [.n, .n, .n, .n, .n, .n, .n, .n], .sub ⟨[(1, none), (11, none), (12, none)], [none], []⟩ (.exit 0) ⟨mkA [(1, VV.pt 0 0)], [some ⟨true, 1, [vi a0.Fresh.Lo, vi a0.Fresh.Hi, vi a0.Loss.Lo, vi a0.Loss.Hi, vi a0.Back.Lo, vi a0.Back.Hi, vi a0.Washes]⟩], .nil⟩, .reg [.n, .n, .n, .call (vb r106), .n], .br true, .reg [.n]]) (fr := true) (by kernel_rfl) (an (an (ti (ti trivial)) (an (an (ti (ti (ti (ti (ti (ti (ti (ti trivial)))))))) (an (ti trivial) (VRun.loop hph102))) (an (ti (ti (ti (an (show VC Go.Proofs.Try.prog 84 [vi 0, vi 100, VV.tr (List.drop 0 (List.map unfr [vi a0.Washes])) 1] (vb r106) from (VC.args (ncoat_areWithin_ok k 0 100 ([a0.Washes] : List Int) _ h107) (by first | rfl | simp only [show [vi a0.Washes] = List.map vi ([a0.Washes] : List Int) from rfl, drop0, unfr_vi, unfr_vb, unfr_vs, List.map_cons, List.map_nil, un_i, un_k, un_b, un_s, un_tr, un_fr, List.length_map, List.length_replicate, List.length_append, List.length_set, List.length_cons, List.length_nil, unfr_c_SAging, unfr_c_SRange, unfr_c_SCoatEvent]))) (ti trivial))))) (an (not_t (bool_f h108)) (an (ti trivial) trivial))))) (ti trivial)) (Wv.refl _)
def ncoat_isLetter (k : Nat) (a0 : Int) : Option Bool :=
  if 97 ≤ a0 then (if a0 ≤ 122 then (some true) else (if 65 ≤ a0 then (some (decide (a0 ≤ 90))) else (some false))) else (if 65 ≤ a0 then (some (decide (a0 ≤ 90))) else (some false))
set_option maxRecDepth 100000 in
set_option maxHeartbeats 4000000 in
theorem ncoat_isLetter_ok (k : Nat) (a0 : Int) (r : Bool) (h : ncoat_isLetter k a0 = some r) : VC Go.Proofs.Try.prog 111 [VV.c (.int .i32 a0)] (vb r) := by
  unfold ncoat_isLetter at h
  by_cases h124 : 97 ≤ a0
  · rw [if_pos h124] at h
    by_cases h125 : a0 ≤ 122
    · rw [if_pos h125] at h
      injection h with h; subst h
      exact fun_ok pm pn Go.Proofs.Try.func111 (r0 := vb true) (ans := [.reg [.n], .reg [.n, .n, .n, .n, .n, .b true, .n, .skip, .skip, .skip, .skip, .skip, .skip, .b true, .n]]) (fr := true) (by kernel_rfl) (an (an (ti trivial) (an (ti (ti (ti (an (an (decide_eq_true h124) trivial) (an (an (decide_eq_true h124) trivial) (an (decide_eq_true h124) (ti (an (decide_eq_true h125) (an (decide_eq_true h125) (an (decide_eq_true h125) (ti (ti (an (decide_eq_true h125) (an (decide_eq_true h125) (ti trivial))))))))))))))) trivial)) (ti trivial)) (Wv.refl _)
    · rw [if_neg h125] at h
      by_cases h126 : 65 ≤ a0
      · rw [if_pos h126] at h
        injection h with h; subst h
        exact fun_ok pm pn Go.Proofs.Try.func111 (r0 := vb (decide (a0 ≤ 90))) (ans := [.reg [.n], .reg [.n, .n, .n, .n, .n, .b true, .n, .n, .n, .n, .n, .n, .b true, .b false, .n]]) (fr := true) (by kernel_rfl) (an (an (ti trivial) (an (ti (ti (ti (an (an (decide_eq_true h124) trivial) (an (an (decide_eq_true h124) trivial) (an (decide_eq_true h124) (ti (an (an (decide_eq_false h125) trivial) (an (an (decide_eq_false h125) trivial) (an (an (decide_eq_false h125) trivial) (an (an (decide_eq_true h126) trivial) (an (an (decide_eq_true h126) trivial) (an (an (decide_eq_false h125) (decide_eq_true h126)) (an (decide_eq_false h125) (ti trivial))))))))))))))) trivial)) (ti trivial)) (Wv.refl _)
      · rw [if_neg h126] at h
        injection h with h; subst h
        exact fun_ok pm pn Go.Proofs.Try.func111 (r0 := vb false) (ans := [.reg [.n], .reg [.n, .n, .n, .n, .n, .b true, .n, .n, .n, .n, .skip, .skip, .b false, .b false, .n]]) (fr := true) (by kernel_rfl) (an (an (ti trivial) (an (ti (ti (ti (an (an (decide_eq_true h124) trivial) (an (an (decide_eq_true h124) trivial) (an (decide_eq_true h124) (ti (an (an (decide_eq_false h125) trivial) (an (an (decide_eq_false h125) trivial) (an (an (decide_eq_false h125) trivial) (an (decide_eq_false h126) (an (decide_eq_false h126) (an (an (decide_eq_false h125) (decide_eq_false h126)) (an (decide_eq_false h125) (ti trivial))))))))))))))) trivial)) (ti trivial)) (Wv.refl _)
  · rw [if_neg h124] at h
    by_cases h127 : 65 ≤ a0
    · rw [if_pos h127] at h
      injection h with h; subst h
      exact fun_ok pm pn Go.Proofs.Try.func111 (r0 := vb (decide (a0 ≤ 90))) (ans := [.reg [.n], .reg [.n, .n, .n, .skip, .skip, .b false, .n, .n, .n, .n, .n, .n, .b true, .b false, .n]]) (fr := true) (by kernel_rfl) (an (an (ti trivial) (an (ti (ti (ti (an (decide_eq_false h124) (an (decide_eq_false h124) (an (decide_eq_false h124) (ti (an (an rf trivial) (an (an rf trivial) (an (an rf trivial) (an (an (decide_eq_true h127) trivial) (an (an (decide_eq_true h127) trivial) (an (an rf (decide_eq_true h127)) (an rf (ti trivial))))))))))))))) trivial)) (ti trivial)) (Wv.refl _)
    · rw [if_neg h127] at h
      injection h with h; subst h
      exact fun_ok pm pn Go.Proofs.Try.func111 (r0 := vb false) (ans := [.reg [.n], .reg [.n, .n, .n, .skip, .skip, .b false, .n, .n, .n, .n, .skip, .skip, .b false, .b false, .n]]) (fr := true) (by kernel_rfl) (an (an (ti trivial) (an (ti (ti (ti (an (decide_eq_false h124) (an (decide_eq_false h124) (an (decide_eq_false h124) (ti (an (an rf trivial) (an (an rf trivial) (an (an rf trivial) (an (decide_eq_false h127) (an (decide_eq_false h127) (an (an rf (decide_eq_false h127)) (an rf (ti trivial))))))))))))))) trivial)) (ti trivial)) (Wv.refl _)
def ncoat_isForeign (k : Nat) (a0 : Int) : Option Bool :=
  (ncoat_isLetter k a0).bind fun r138 => (if r138 = true then (some false) else (if 48 ≤ a0 then (if a0 ≤ 57 then (some false) else (some (!(decide (a0 = 45))))) else (some (!(decide (a0 = 45))))))
set_option maxRecDepth 100000 in
set_option maxHeartbeats 4000000 in
theorem ncoat_isForeign_ok (k : Nat) (a0 : Int) (r : Bool) (h : ncoat_isForeign k a0 = some r) : VC Go.Proofs.Try.prog 113 [VV.c (.int .i32 a0)] (vb r) := by
  unfold ncoat_isForeign at h
  cases h139 : ncoat_isLetter k a0 with
  | none => rw [h139] at h; cases h
  | some r138 =>
    rw [h139, Option.bind_some] at h
    by_cases h140 : r138 = true
    · rw [if_pos h140] at h
      injection h with h; subst h
      exact fun_ok pm pn Go.Proofs.Try.func113 (r0 := vb false) (ans := [.reg [.n], .reg [.n, .call (vb r138), .n, .n, .skip, .skip, .skip, .skip, .skip, .skip, .skip, .b false, .n, .skip, .skip, .b false, .n]]) (fr := true) (by kernel_rfl) (an (an (ti trivial) (an (ti (an (ncoat_isLetter_ok k a0 _ h139) (ti (ti (an (not_f h140) (an (not_f h140) (an (not_f h140) (ti (ti (an (not_f h140) (an (not_f h140) (an (not_f h140) (ti (an rf (an rf (an rf (ti trivial))))))))))))))))) trivial)) (ti trivial)) (Wv.refl _)
    · rw [if_neg h140] at h
      by_cases h141 : 48 ≤ a0
      · rw [if_pos h141] at h
        by_cases h142 : a0 ≤ 57
        · rw [if_pos h142] at h
          injection h with h; subst h
          exact fun_ok pm pn Go.Proofs.Try.func113 (r0 := vb false) (ans := [.reg [.n], .reg [.n, .call (vb r138), .n, .n, .n, .n, .n, .n, .n, .b true, .n, .b true, .n, .skip, .skip, .b false, .n]]) (fr := true) (by kernel_rfl) (an (an (ti trivial) (an (ti (an (ncoat_isLetter_ok k a0 _ h139) (ti (ti (an (an (not_t (bool_f h140)) trivial) (an (an (not_t (bool_f h140)) trivial) (an (an (not_t (bool_f h140)) trivial) (an (an (decide_eq_true h141) trivial) (an (an (decide_eq_true h141) trivial) (an (an (not_t (bool_f h140)) (decide_eq_true h141)) (an (an (not_t (bool_f h140)) trivial) (an (not_t (bool_f h140)) (ti (an (not_f (decide_eq_true h142)) (an (not_f (decide_eq_true h142)) (an (not_f (decide_eq_true h142)) (ti trivial))))))))))))))))) trivial)) (ti trivial)) (Wv.refl _)
        · rw [if_neg h142] at h
          injection h with h; subst h
          exact fun_ok pm pn Go.Proofs.Try.func113 (r0 := vb (!(decide (a0 = 45)))) (ans := [.reg [.n], .reg [.n, .call (vb r138), .n, .n, .n, .n, .n, .n, .n, .b true, .n, .b true, .n, .n, .n, .b true, .n]]) (fr := true) (by kernel_rfl) (an (an (ti trivial) (an (ti (an (ncoat_isLetter_ok k a0 _ h139) (ti (ti (an (an (not_t (bool_f h140)) trivial) (an (an (not_t (bool_f h140)) trivial) (an (an (not_t (bool_f h140)) trivial) (an (an (decide_eq_true h141) trivial) (an (an (decide_eq_true h141) trivial) (an (an (not_t (bool_f h140)) (decide_eq_true h141)) (an (an (not_t (bool_f h140)) trivial) (an (not_t (bool_f h140)) (ti (an (an (not_t (decide_eq_false h142)) trivial) (an (an (not_t (decide_eq_false h142)) trivial) (an (not_t (decide_eq_false h142)) (ti trivial))))))))))))))))) trivial)) (ti trivial)) (Wv.refl _)
      · rw [if_neg h141] at h
        injection h with h; subst h
        exact fun_ok pm pn Go.Proofs.Try.func113 (r0 := vb (!(decide (a0 = 45)))) (ans := [.reg [.n], .reg [.n, .call (vb r138), .n, .n, .n, .n, .n, .skip, .skip, .b false, .n, .b true, .n, .n, .n, .b true, .n]]) (fr := true) (by kernel_rfl) (an (an (ti trivial) (an (ti (an (ncoat_isLetter_ok k a0 _ h139) (ti (ti (an (an (not_t (bool_f h140)) trivial) (an (an (not_t (bool_f h140)) trivial) (an (an (not_t (bool_f h140)) trivial) (an (decide_eq_false h141) (an (decide_eq_false h141) (an (an (not_t (bool_f h140)) (decide_eq_false h141)) (an (an (not_t (bool_f h140)) trivial) (an (not_t (bool_f h140)) (ti (an (an (show (!false) = true from (not_t rfl)) trivial) (an (an (show (!false) = true from (not_t rfl)) trivial) (an (show (!false) = true from (not_t rfl)) (ti trivial))))))))))))))))) trivial)) (ti trivial)) (Wv.refl _)
def nstrings_indexFunc_c1_113_l0_0 (k : Nat) (a0 : ByteArray) (a2 : Bool) : Nat → Int → Option (Sum Int Unit)
  | 0, _ => none
  | fuel + 1, b0_1 => if b0_1 < (a0.size : Int) then (if 0 ≤ b0_1 then ((ncoat_isForeign k (((Go.Utf8.decode a0 (b0_1).toNat).1 : Nat) : Int)).bind fun r172 => (if (r172 == a2) = true then (some (.inl b0_1)) else (nstrings_indexFunc_c1_113_l0_0 k a0 a2 fuel (b0_1 + (((Go.Utf8.decode a0 (b0_1).toNat).2 : Nat) : Int))))) else none) else (some (.inr ()))
set_option maxRecDepth 100000 in
set_option maxHeartbeats 4000000 in
theorem nstrings_indexFunc_c1_113_l0_0_ok (k : Nat) (a0 : ByteArray) (a2 : Bool) : ∀ (fuel : Nat) (b0_1 : Int) (r : Sum Int Unit), nstrings_indexFunc_c1_113_l0_0 k a0 a2 fuel b0_1 = some r → (match r with | .inl r => VLoop none Go.Proofs.Try.prog (szF Go.Proofs.Try.f127) (bodyOf Go.Proofs.Try.f127 0) ⟨mkA [(1, VV.fn 113 []), (2, vb a2), (10, VV.it 0)], [some ⟨true, bigX, [vs a0, vi b0_1]⟩], .nil⟩ .ret ⟨mkA [(6, vi r)], [], .nil⟩ | .inr r => VLoop none Go.Proofs.Try.prog (szF Go.Proofs.Try.f127) (bodyOf Go.Proofs.Try.f127 0) ⟨mkA [(1, VV.fn 113 []), (2, vb a2), (10, VV.it 0)], [some ⟨true, bigX, [vs a0, vi b0_1]⟩], .nil⟩ (.exit 0) ⟨mkA [], [], .nil⟩) := by
  intro fuel
  induction fuel with
  | zero => intro b0_1 r h; rw [nstrings_indexFunc_c1_113_l0_0.eq_1] at h; cases h
  | succ fuel ih =>
    intro b0_1 r h
    rw [nstrings_indexFunc_c1_113_l0_0.eq_2] at h
    by_cases h170 : b0_1 < (a0.size : Int)
    · rw [if_pos h170] at h
      by_cases h171 : 0 ≤ b0_1
      · rw [if_pos h171] at h
        cases h173 : ncoat_isForeign k (((Go.Utf8.decode a0 (b0_1).toNat).1 : Nat) : Int) with
        | none => rw [h173] at h; cases h
        | some r172 =>
          rw [h173, Option.bind_some] at h
          by_cases h174 : (r172 == a2) = true
          · rw [if_pos h174] at h
            injection h with h; subst h
            exact round_stop (c := ⟨[(6, none)], [], []⟩) (s1 := ⟨mkA [(6, vi b0_1)], [], .nil⟩) pm pn (ans := [.reg [.b true, .n], .br true, .reg [.n, .n, .n, .n], .reg [.n, .n, .call (vb r172), .n, .n], .br true, .reg [.n, .n]]) (by kernel_rfl) (by intro e; cases e) (an (an (an (show 0 ≤ b0_1 ∧ b0_1 < (a0.size : Int) from ⟨h171, of_decide_eq_true (decide_eq_true h170)⟩) (ti trivial)) (an (an rt trivial) (an (ti (ti (ti (ti trivial)))) (an (ti (ti (an (ncoat_isForeign_ok k (((Go.Utf8.decode a0 (b0_1).toNat).1 : Nat) : Int) _ h173) (ti (ti trivial))))) (an h174 (an (ti (ti trivial)) trivial)))))) (ti trivial))
          · rw [if_neg h174] at h
            have h2 := ih _ _ h
            obtain ⟨q, hv, hq⟩ := pkR (rd := none) (P := Go.Proofs.Try.prog) (fn := Go.Proofs.Try.f127) (k := 0) (s := ⟨mkA [(1, VV.fn 113 []), (2, vb a2), (10, VV.it 0)], [some ⟨true, bigX, [vs a0, vi b0_1]⟩], .nil⟩) (ans := [.reg [.b true, .n], .br true, .reg [.n, .n, .n, .n], .reg [.n, .n, .call (vb r172), .n, .n], .br false]) (c := ⟨[(1, none), (2, none), (10, none)], [none], []⟩) (e := .normal) (s1 := ⟨mkA [(1, VV.fn 113 []), (2, vb a2), (10, VV.it 0)], [some ⟨true, bigX, [vs a0, vi (b0_1 + (((Go.Utf8.decode a0 (b0_1).toNat).2 : Nat) : Int))]⟩], .nil⟩) (an (an (an (show 0 ≤ b0_1 ∧ b0_1 < (a0.size : Int) from ⟨h171, of_decide_eq_true (decide_eq_true h170)⟩) (ti trivial)) (an (an rt trivial) (an (ti (ti (ti (ti trivial)))) (an (ti (ti (an (ncoat_isForeign_ok k (((Go.Utf8.decode a0 (b0_1).toNat).1 : Nat) : Int) _ h173) (ti (ti trivial))))) (an (bool_f h174) trivial))))) (ti trivial)) (by kernel_rfl)
            cases r with
            | inl r => exact round_next pm pn hv hq h2
            | inr r =>
              exact round_next pm pn hv hq h2
      · rw [if_neg h171] at h; cases h
    · rw [if_neg h170] at h
      injection h with h; subst h
      exact round_stop (c := ⟨[], [], []⟩) (s1 := ⟨mkA [], [], .nil⟩) pm pn (ans := [.reg [.b false, .n], .br false]) (by kernel_rfl) (by intro e; cases e) (an (an (an (show (a0.size : Int) ≤ b0_1 from (by have := of_decide_eq_false (decide_eq_false h170); omega)) (ti trivial)) (an rf trivial)) (ti trivial))
def nstrings_indexFunc_c1_113 (k : Nat) (a0 : ByteArray) (a2 : Bool) : Option Int :=
  (nstrings_indexFunc_c1_113_l0_0 k a0 a2 k 0).bind fun r176 => (match r176 with | .inl r177 => (some r177) | .inr r178 => (some (-1)))
set_option maxRecDepth 100000 in
set_option maxHeartbeats 4000000 in
theorem nstrings_indexFunc_c1_113_ok (k : Nat) (a0 : ByteArray) (a2 : Bool) (r : Int) (h : nstrings_indexFunc_c1_113 k a0 a2 = some r) : VC Go.Proofs.Try.prog 127 [vs a0, VV.fn 113 [], vb a2] (vi r) := by
  unfold nstrings_indexFunc_c1_113 at h
  cases h175 : nstrings_indexFunc_c1_113_l0_0 k a0 a2 k 0 with
  | none => rw [h175] at h; cases h
  | some r176 =>
    rw [h175, Option.bind_some] at h
    have hph175 := nstrings_indexFunc_c1_113_l0_0_ok k a0 a2 _ _ _ h175
    cases r176 with
    | inl r177 =>
      dsimp only at h
      injection h with h; subst h
      exact fun_ok pm pn Go.Proofs.Try.func127 (r0 := vi r177) (ans := [.reg [.n], .reg [.n, .n], .sub ⟨[(1, none), (2, none), (10, none)], [none], []⟩ .ret ⟨mkA [(6, vi r177)], [], .nil⟩]) (fr := true) (by kernel_rfl) (an (an (ti trivial) (an (ti (ti trivial)) (an (ti trivial) (VRun.loop hph175)))) (ti trivial)) (Wv.refl _)
    | inr r178 =>
      dsimp only at h
      injection h with h; subst h
      exact fun_ok pm pn Go.Proofs.Try.func127 (r0 := vi (-1)) (ans := [.reg [.n], .reg [.n, .n], .sub ⟨[(1, none), (2, none), (10, none)], [none], []⟩ (.exit 0) ⟨mkA [], [], .nil⟩, .reg [.n]]) (fr := true) (by kernel_rfl) (an (an (ti trivial) (an (an (ti (ti trivial)) (an (ti trivial) (VRun.loop hph175))) (an (ti trivial) trivial))) (ti trivial)) (Wv.refl _)
def nstrings_IndexFunc_c1_113 (k : Nat) (a0 : ByteArray) : Option Int :=
  (nstrings_indexFunc_c1_113 k a0 true).bind fun r181 => (some r181)
set_option maxRecDepth 100000 in
set_option maxHeartbeats 4000000 in
theorem nstrings_IndexFunc_c1_113_ok (k : Nat) (a0 : ByteArray) (r : Int) (h : nstrings_IndexFunc_c1_113 k a0 = some r) : VC Go.Proofs.Try.prog 126 [vs a0, VV.fn 113 []] (vi r) := by
  unfold nstrings_IndexFunc_c1_113 at h
  cases h182 : nstrings_indexFunc_c1_113 k a0 true with
  | none => rw [h182] at h; cases h
  | some r181 =>
    rw [h182, Option.bind_some] at h
    injection h with h; subst h
    exact fun_ok pm pn Go.Proofs.Try.func126 (r0 := vi r181) (ans := [.reg [.n], .reg [.n, .n, .call (vi r181), .n]]) (fr := true) (by kernel_rfl) (an (an (ti trivial) (an (ti (ti (an (nstrings_indexFunc_c1_113_ok k a0 true _ h182) (ti trivial)))) trivial)) (ti trivial)) (Wv.refl _)
def nstrings_ContainsFunc_c1_113 (k : Nat) (a0 : ByteArray) : Option Bool :=
  (nstrings_IndexFunc_c1_113 k a0).bind fun r185 => (some (decide (0 ≤ r185)))
set_option maxRecDepth 100000 in
set_option maxHeartbeats 4000000 in
theorem nstrings_ContainsFunc_c1_113_ok (k : Nat) (a0 : ByteArray) (r : Bool) (h : nstrings_ContainsFunc_c1_113 k a0 = some r) : VC Go.Proofs.Try.prog 112 [vs a0, VV.fn 113 []] (vb r) := by
  unfold nstrings_ContainsFunc_c1_113 at h
  cases h186 : nstrings_IndexFunc_c1_113 k a0 with
  | none => rw [h186] at h; cases h
  | some r185 =>
    rw [h186, Option.bind_some] at h
    injection h with h; subst h
    exact fun_ok pm pn Go.Proofs.Try.func112 (r0 := vb (decide (0 ≤ r185))) (ans := [.reg [.n], .reg [.n, .n, .call (vi r185), .n, .n]]) (fr := true) (by kernel_rfl) (an (an (ti trivial) (an (ti (ti (an (nstrings_IndexFunc_c1_113_ok k a0 _ h186) (ti (ti trivial))))) trivial)) (ti trivial)) (Wv.refl _)
def ncoat_isName (k : Nat) (a0 : ByteArray) : Option Bool :=
  (ncoat_areWithin k 1 12 ([(a0.size : Int)] : List Int)).bind fun r189 => (if r189 = true then (if (0 : Int) ≤ 0 ∧ 0 < (a0.size : Int) then ((ncoat_isLetter k (IntKind.i32.wrap (bat a0 0))).bind fun r193 => (if r193 = true then ((nstrings_ContainsFunc_c1_113 k a0).bind fun r196 => (some (!r196))) else (some false))) else none) else (some false))
set_option maxRecDepth 100000 in
set_option maxHeartbeats 4000000 in
theorem ncoat_isName_ok (k : Nat) (a0 : ByteArray) (r : Bool) (h : ncoat_isName k a0 = some r) : VC Go.Proofs.Try.prog 82 [vs a0] (vb r) := by
  unfold ncoat_isName at h
  cases h190 : ncoat_areWithin k 1 12 ([(a0.size : Int)] : List Int) with
  | none => rw [h190] at h; cases h
  | some r189 =>
    rw [h190, Option.bind_some] at h
    by_cases h191 : r189 = true
    · rw [if_pos h191] at h
      by_cases h192 : (0 : Int) ≤ 0 ∧ 0 < (a0.size : Int)
      · rw [if_pos h192] at h
        cases h194 : ncoat_isLetter k (IntKind.i32.wrap (bat a0 0)) with
        | none => rw [h194] at h; cases h
        | some r193 =>
          rw [h194, Option.bind_some] at h
          by_cases h195 : r193 = true
          · rw [if_pos h195] at h
            cases h197 : nstrings_ContainsFunc_c1_113 k a0 with
            | none => rw [h197] at h; cases h
            | some r196 =>
              rw [h197, Option.bind_some] at h
              injection h with h; subst h
              exact fun_ok pm pn Go.Proofs.Try.func82 (r0 := vb (!r196)) (ans := [.reg [.n], .reg [.n, .n, .n, .call (vb r189), .n, .n, .n, .n, .call (vb r193), .b true, .n, .n, .call (vb r196), .n, .b true, .n]]) (fr := true) (by kernel_rfl) (an (an (ti trivial) (an (ti (ti (ti (an (show VC Go.Proofs.Try.prog 84 [vi 1, vi 12, VV.tr (List.drop 0 (List.map unfr [vi (a0.size : Int)])) 1] (vb r189) from (VC.args (ncoat_areWithin_ok k 1 12 ([(a0.size : Int)] : List Int) _ h190) (by first | rfl | simp only [show [vi (a0.size : Int)] = List.map vi ([(a0.size : Int)] : List Int) from rfl, drop0, unfr_vi, unfr_vb, unfr_vs, List.map_cons, List.map_nil, un_i, un_k, un_b, un_s, un_tr, un_fr, List.length_map, List.length_replicate, List.length_append, List.length_set, List.length_cons, List.length_nil, unfr_c_SAging, unfr_c_SRange, unfr_c_SCoatEvent, unfr_c_Sfilm]))) (ti (an (an h191 trivial) (an (an h191 h192) (an (an h191 trivial) (an (an h191 (ncoat_isLetter_ok k (IntKind.i32.wrap (bat a0 0)) _ h194)) (an h191 (ti (an (an h195 trivial) (an (an h195 (nstrings_ContainsFunc_c1_113_ok k a0 _ h197)) (an (an h195 trivial) (an h195 (ti trivial)))))))))))))))) trivial)) (ti trivial)) (Wv.refl _)
          · rw [if_neg h195] at h
            injection h with h; subst h
            exact fun_ok pm pn Go.Proofs.Try.func82 (r0 := vb false) (ans := [.reg [.n], .reg [.n, .n, .n, .call (vb r189), .n, .n, .n, .n, .call (vb r193), .b true, .n, .skip, .skip, .skip, .b false, .n]]) (fr := true) (by kernel_rfl) (an (an (ti trivial) (an (ti (ti (ti (an (show VC Go.Proofs.Try.prog 84 [vi 1, vi 12, VV.tr (List.drop 0 (List.map unfr [vi (a0.size : Int)])) 1] (vb r189) from (VC.args (ncoat_areWithin_ok k 1 12 ([(a0.size : Int)] : List Int) _ h190) (by first | rfl | simp only [show [vi (a0.size : Int)] = List.map vi ([(a0.size : Int)] : List Int) from rfl, drop0, unfr_vi, unfr_vb, unfr_vs, List.map_cons, List.map_nil, un_i, un_k, un_b, un_s, un_tr, un_fr, List.length_map, List.length_replicate, List.length_append, List.length_set, List.length_cons, List.length_nil, unfr_c_SAging, unfr_c_SRange, unfr_c_SCoatEvent, unfr_c_Sfilm]))) (ti (an (an h191 trivial) (an (an h191 h192) (an (an h191 trivial) (an (an h191 (ncoat_isLetter_ok k (IntKind.i32.wrap (bat a0 0)) _ h194)) (an h191 (ti (an (bool_f h195) (an (bool_f h195) (an (bool_f h195) (an (bool_f h195) (ti trivial)))))))))))))))) trivial)) (ti trivial)) (Wv.refl _)
      · rw [if_neg h192] at h; cases h
    · rw [if_neg h191] at h
      injection h with h; subst h
      exact fun_ok pm pn Go.Proofs.Try.func82 (r0 := vb false) (ans := [.reg [.n], .reg [.n, .n, .n, .call (vb r189), .n, .skip, .skip, .skip, .skip, .b false, .n, .skip, .skip, .skip, .b false, .n]]) (fr := true) (by kernel_rfl) (an (an (ti trivial) (an (ti (ti (ti (an (show VC Go.Proofs.Try.prog 84 [vi 1, vi 12, VV.tr (List.drop 0 (List.map unfr [vi (a0.size : Int)])) 1] (vb r189) from (VC.args (ncoat_areWithin_ok k 1 12 ([(a0.size : Int)] : List Int) _ h190) (by first | rfl | simp only [show [vi (a0.size : Int)] = List.map vi ([(a0.size : Int)] : List Int) from rfl, drop0, unfr_vi, unfr_vb, unfr_vs, List.map_cons, List.map_nil, un_i, un_k, un_b, un_s, un_tr, un_fr, List.length_map, List.length_replicate, List.length_append, List.length_set, List.length_cons, List.length_nil, unfr_c_SAging, unfr_c_SRange, unfr_c_SCoatEvent, unfr_c_Sfilm]))) (ti (an (bool_f h191) (an (bool_f h191) (an (bool_f h191) (an (bool_f h191) (an (bool_f h191) (ti (an rf (an rf (an rf (an rf (ti trivial)))))))))))))))) trivial)) (ti trivial)) (Wv.refl _)
def ncoat_checkDay (k : Nat) (a0 : Int) : Option Int :=
  (ncoat_areWithin k 0 100000 ([a0] : List Int)).bind fun r204 => (if r204 = true then (some 0) else (some 2))
set_option maxRecDepth 100000 in
set_option maxHeartbeats 4000000 in
theorem ncoat_checkDay_ok (k : Nat) (a0 : Int) (r : Int) (h : ncoat_checkDay k a0 = some r) : VC Go.Proofs.Try.prog 122 [vi a0] (vi r) := by
  unfold ncoat_checkDay at h
  cases h205 : ncoat_areWithin k 0 100000 ([a0] : List Int) with
  | none => rw [h205] at h; cases h
  | some r204 =>
    rw [h205, Option.bind_some] at h
    by_cases h206 : r204 = true
    · rw [if_pos h206] at h
      injection h with h; subst h
      exact fun_ok pm pn Go.Proofs.Try.func122 (r0 := vi 0) (ans := [.reg [.n], .reg [.n, .n, .call (vb r204), .n], .br false, .reg [.n]]) (fr := true) (by kernel_rfl) (an (an (ti trivial) (an (an (ti (ti (an (show VC Go.Proofs.Try.prog 84 [vi 0, vi 100000, VV.tr (List.drop 0 (List.map unfr [vi a0])) 1] (vb r204) from (VC.args (ncoat_areWithin_ok k 0 100000 ([a0] : List Int) _ h205) (by first | rfl | simp only [show [vi a0] = List.map vi ([a0] : List Int) from rfl, drop0, unfr_vi, unfr_vb, unfr_vs, List.map_cons, List.map_nil, un_i, un_k, un_b, un_s, un_tr, un_fr, List.length_map, List.length_replicate, List.length_append, List.length_set, List.length_cons, List.length_nil, unfr_c_SAging, unfr_c_SRange, unfr_c_SCoatEvent, unfr_c_Sfilm]))) (ti trivial)))) (an (not_f h206) trivial)) (an (ti trivial) trivial))) (ti trivial)) (Wv.refl _)
    · rw [if_neg h206] at h
      injection h with h; subst h
      exact fun_ok pm pn Go.Proofs.Try.func122 (r0 := vi 2) (ans := [.reg [.n], .reg [.n, .n, .call (vb r204), .n], .br true, .reg [.n]]) (fr := true) (by kernel_rfl) (an (an (ti trivial) (an (ti (ti (an (show VC Go.Proofs.Try.prog 84 [vi 0, vi 100000, VV.tr (List.drop 0 (List.map unfr [vi a0])) 1] (vb r204) from (VC.args (ncoat_areWithin_ok k 0 100000 ([a0] : List Int) _ h205) (by first | rfl | simp only [show [vi a0] = List.map vi ([a0] : List Int) from rfl, drop0, unfr_vi, unfr_vb, unfr_vs, List.map_cons, List.map_nil, un_i, un_k, un_b, un_s, un_tr, un_fr, List.length_map, List.length_replicate, List.length_append, List.length_set, List.length_cons, List.length_nil, unfr_c_SAging, unfr_c_SRange, unfr_c_SCoatEvent, unfr_c_Sfilm]))) (ti trivial)))) (an (not_t (bool_f h206)) (an (ti trivial) trivial)))) (ti trivial)) (Wv.refl _)
def ncoat_checkAlone (k : Nat) (a0 : SCoatEvent) : Option Int :=
  (ncoat_isName k a0.Mirror).bind fun r213 => (if r213 = true then ((ncoat_checkDay k a0.Day).bind fun r216 => (if r216 = 0 then ((ncoat_areWithin k 0 2 ([a0.Kind] : List Int)).bind fun r219 => (if r219 = true then (some 0) else (some 15))) else (some r216))) else (some 4))
set_option maxRecDepth 100000 in
set_option maxHeartbeats 4000000 in
theorem ncoat_checkAlone_ok (k : Nat) (a0 : SCoatEvent) (r : Int) (h : ncoat_checkAlone k a0 = some r) : VC Go.Proofs.Try.prog 117 [VV.ag [vs a0.Mirror, vi a0.Day, vi a0.Kind]] (vi r) := by
  unfold ncoat_checkAlone at h
  cases h214 : ncoat_isName k a0.Mirror with
  | none => rw [h214] at h; cases h
  | some r213 =>
    rw [h214, Option.bind_some] at h
    by_cases h215 : r213 = true
    · rw [if_pos h215] at h
      cases h217 : ncoat_checkDay k a0.Day with
      | none => rw [h217] at h; cases h
      | some r216 =>
        rw [h217, Option.bind_some] at h
        by_cases h218 : r216 = 0
        · rw [if_pos h218] at h
          cases h220 : ncoat_areWithin k 0 2 ([a0.Kind] : List Int) with
          | none => rw [h220] at h; cases h
          | some r219 =>
            rw [h220, Option.bind_some] at h
            by_cases h221 : r219 = true
            · rw [if_pos h221] at h
              injection h with h; subst h
              exact fun_ok pm pn Go.Proofs.Try.func117 (r0 := vi 0) (ans := [.reg [.n, .n], .reg [.n, .n, .call (vb r213), .n], .br false, .reg [.n, .n, .call (vi r216), .n], .reg [.n, .n], .br false, .reg [.n, .n, .n, .call (vb r219), .n], .br false, .reg [.n]]) (fr := true) (by kernel_rfl) (an (an (ti (ti trivial)) (an (an (ti (ti (an (ncoat_isName_ok k a0.Mirror _ h214) (ti trivial)))) (an (not_f h215) trivial)) (an (an (ti (ti (an (ncoat_checkDay_ok k a0.Day _ h217) (ti trivial)))) (an (ti (ti trivial)) (an (not_f (decide_eq_true h218)) trivial))) (an (an (ti (ti (ti (an (show VC Go.Proofs.Try.prog 84 [vi 0, vi 2, VV.tr (List.drop 0 (List.map unfr [vi a0.Kind])) 1] (vb r219) from (VC.args (ncoat_areWithin_ok k 0 2 ([a0.Kind] : List Int) _ h220) (by first | rfl | simp only [show [vi a0.Kind] = List.map vi ([a0.Kind] : List Int) from rfl, drop0, unfr_vi, unfr_vb, unfr_vs, List.map_cons, List.map_nil, un_i, un_k, un_b, un_s, un_tr, un_fr, List.length_map, List.length_replicate, List.length_append, List.length_set, List.length_cons, List.length_nil, unfr_c_SAging, unfr_c_SRange, unfr_c_SCoatEvent, unfr_c_Sfilm]))) (ti trivial))))) (an (not_f h221) trivial)) (an (ti trivial) trivial))))) (ti trivial)) (Wv.refl _)
            · rw [if_neg h221] at h
              injection h with h; subst h
              exact fun_ok pm pn Go.Proofs.Try.func117 (r0 := vi 15) (ans := [.reg [.n, .n], .reg [.n, .n, .call (vb r213), .n], .br false, .reg [.n, .n, .call (vi r216), .n], .reg [.n, .n], .br false, .reg [.n, .n, .n, .call (vb r219), .n], .br true, .reg [.n]]) (fr := true) (by kernel_rfl) (an (an (ti (ti trivial)) (an (an (ti (ti (an (ncoat_isName_ok k a0.Mirror _ h214) (ti trivial)))) (an (not_f h215) trivial)) (an (an (ti (ti (an (ncoat_checkDay_ok k a0.Day _ h217) (ti trivial)))) (an (ti (ti trivial)) (an (not_f (decide_eq_true h218)) trivial))) (an (ti (ti (ti (an (show VC Go.Proofs.Try.prog 84 [vi 0, vi 2, VV.tr (List.drop 0 (List.map unfr [vi a0.Kind])) 1] (vb r219) from (VC.args (ncoat_areWithin_ok k 0 2 ([a0.Kind] : List Int) _ h220) (by first | rfl | simp only [show [vi a0.Kind] = List.map vi ([a0.Kind] : List Int) from rfl, drop0, unfr_vi, unfr_vb, unfr_vs, List.map_cons, List.map_nil, un_i, un_k, un_b, un_s, un_tr, un_fr, List.length_map, List.length_replicate, List.length_append, List.length_set, List.length_cons, List.length_nil, unfr_c_SAging, unfr_c_SRange, unfr_c_SCoatEvent, unfr_c_Sfilm]))) (ti trivial))))) (an (not_t (bool_f h221)) (an (ti trivial) trivial)))))) (ti trivial)) (Wv.refl _)
        · rw [if_neg h218] at h
          injection h with h; subst h
          exact fun_ok pm pn Go.Proofs.Try.func117 (r0 := vi r216) (ans := [.reg [.n, .n], .reg [.n, .n, .call (vb r213), .n], .br false, .reg [.n, .n, .call (vi r216), .n], .reg [.n, .n], .br true, .reg [.n, .n]]) (fr := true) (by kernel_rfl) (an (an (ti (ti trivial)) (an (an (ti (ti (an (ncoat_isName_ok k a0.Mirror _ h214) (ti trivial)))) (an (not_f h215) trivial)) (an (ti (ti (an (ncoat_checkDay_ok k a0.Day _ h217) (ti trivial)))) (an (ti (ti trivial)) (an (not_t (decide_eq_false h218)) (an (ti (ti trivial)) trivial)))))) (ti trivial)) (Wv.refl _)
    · rw [if_neg h215] at h
      injection h with h; subst h
      exact fun_ok pm pn Go.Proofs.Try.func117 (r0 := vi 4) (ans := [.reg [.n, .n], .reg [.n, .n, .call (vb r213), .n], .br true, .reg [.n]]) (fr := true) (by kernel_rfl) (an (an (ti (ti trivial)) (an (ti (ti (an (ncoat_isName_ok k a0.Mirror _ h214) (ti trivial)))) (an (not_t (bool_f h215)) (an (ti trivial) trivial)))) (ti trivial)) (Wv.refl _)
def n_coat_film_left (k : Nat) (a0 : Sfilm) : Option Int :=
  if a0.isOn = true then (some (w64 (a0.Aging.Washes - a0.washed))) else (some (-1))
set_option maxRecDepth 100000 in
set_option maxHeartbeats 4000000 in
theorem n_coat_film_left_ok (k : Nat) (a0 : Sfilm) (r : Int) (h : n_coat_film_left k a0 = some r) : VC Go.Proofs.Try.prog 99 [VV.ag [vi a0.Aging.Fresh.Lo, vi a0.Aging.Fresh.Hi, vi a0.Aging.Loss.Lo, vi a0.Aging.Loss.Hi, vi a0.Aging.Back.Lo, vi a0.Aging.Back.Hi, vi a0.Aging.Washes, vb a0.isOn, vi a0.washed, vi a0.since, vi a0.bright.Lo, vi a0.bright.Hi]] (vi r) := by
  unfold n_coat_film_left at h
  by_cases h233 : a0.isOn = true
  · rw [if_pos h233] at h
    injection h with h; subst h
    exact fun_ok pm pn Go.Proofs.Try.func99 (r0 := vi (w64 (a0.Aging.Washes - a0.washed))) (ans := [.reg [.n, .n], .reg [.n, .n, .n], .br false, .reg [.n, .n, .n, .n, .n, .n, .n]]) (fr := true) (by kernel_rfl) (an (an (ti (ti trivial)) (an (an (ti (ti (ti trivial))) (an (not_f h233) trivial)) (an (ti (ti (ti (ti (ti (ti (ti trivial))))))) trivial))) (ti trivial)) (Wv.refl _)
  · rw [if_neg h233] at h
    injection h with h; subst h
    exact fun_ok pm pn Go.Proofs.Try.func99 (r0 := vi (-1)) (ans := [.reg [.n, .n], .reg [.n, .n, .n], .br true, .reg [.n]]) (fr := true) (by kernel_rfl) (an (an (ti (ti trivial)) (an (ti (ti (ti trivial))) (an (not_t (bool_f h233)) (an (ti trivial) trivial)))) (ti trivial)) (Wv.refl _)
def n_coat_film_refusal (k : Nat) (a0 : Sfilm) (a1 : Int) : Option Int :=
  if ((decide (a1 = 0)) == a0.isOn) = true then (some 24) else (if a1 = 1 then ((n_coat_film_left k (⟨(⟨(⟨a0.Aging.Fresh.Lo, a0.Aging.Fresh.Hi⟩ : SRange), (⟨a0.Aging.Loss.Lo, a0.Aging.Loss.Hi⟩ : SRange), (⟨a0.Aging.Back.Lo, a0.Aging.Back.Hi⟩ : SRange), a0.Aging.Washes⟩ : SAging), a0.isOn, a0.washed, a0.since, (⟨a0.bright.Lo, a0.bright.Hi⟩ : SRange)⟩ : Sfilm)).bind fun r239 => (if r239 = 0 then (some 16) else (some 0))) else (some 0))
set_option maxRecDepth 100000 in
set_option maxHeartbeats 4000000 in
theorem n_coat_film_refusal_ok (k : Nat) (a0 : Sfilm) (a1 : Int) (r : Int) (h : n_coat_film_refusal k a0 a1 = some r) : VC Go.Proofs.Try.prog 118 [VV.ag [vi a0.Aging.Fresh.Lo, vi a0.Aging.Fresh.Hi, vi a0.Aging.Loss.Lo, vi a0.Aging.Loss.Hi, vi a0.Aging.Back.Lo, vi a0.Aging.Back.Hi, vi a0.Aging.Washes, vb a0.isOn, vi a0.washed, vi a0.since, vi a0.bright.Lo, vi a0.bright.Hi], vi a1] (vi r) := by
  unfold n_coat_film_refusal at h
  by_cases h237 : ((decide (a1 = 0)) == a0.isOn) = true
  · rw [if_pos h237] at h
    injection h with h; subst h
    exact fun_ok pm pn Go.Proofs.Try.func118 (r0 := vi 24) (ans := [.reg [.n, .n], .reg [.n, .n, .n], .reg [.n, .n, .n, .n, .n], .br true, .reg [.n]]) (fr := true) (by kernel_rfl) (an (an (ti (ti trivial)) (an (ti (ti (ti trivial))) (an (ti (ti (ti (ti (ti trivial))))) (an h237 (an (ti trivial) trivial))))) (ti trivial)) (Wv.refl _)
  · rw [if_neg h237] at h
    by_cases h238 : a1 = 1
    · rw [if_pos h238] at h
      cases h240 : n_coat_film_left k (⟨(⟨(⟨a0.Aging.Fresh.Lo, a0.Aging.Fresh.Hi⟩ : SRange), (⟨a0.Aging.Loss.Lo, a0.Aging.Loss.Hi⟩ : SRange), (⟨a0.Aging.Back.Lo, a0.Aging.Back.Hi⟩ : SRange), a0.Aging.Washes⟩ : SAging), a0.isOn, a0.washed, a0.since, (⟨a0.bright.Lo, a0.bright.Hi⟩ : SRange)⟩ : Sfilm) with
      | none => rw [h240] at h; cases h
      | some r239 =>
        rw [h240, Option.bind_some] at h
        by_cases h241 : r239 = 0
        · rw [if_pos h241] at h
          injection h with h; subst h
          exact fun_ok pm pn Go.Proofs.Try.func118 (r0 := vi 16) (ans := [.reg [.n, .n], .reg [.n, .n, .n], .reg [.n, .n, .n, .n, .n], .br false, .reg [.n, .n, .n, .n, .call (vi r239), .n, .b true, .n], .br true, .reg [.n]]) (fr := true) (by kernel_rfl) (an (an (ti (ti trivial)) (an (ti (ti (ti trivial))) (an (ti (ti (ti (ti (ti trivial))))) (an (bool_f h237) (an (ti (ti (ti (an (an (decide_eq_true h238) trivial) (an (an (decide_eq_true h238) (show VC Go.Proofs.Try.prog 99 [VV.ag [vi a0.Aging.Fresh.Lo, vi a0.Aging.Fresh.Hi, vi a0.Aging.Loss.Lo, vi a0.Aging.Loss.Hi, vi a0.Aging.Back.Lo, vi a0.Aging.Back.Hi, vi a0.Aging.Washes, vb a0.isOn, vi a0.washed, vi a0.since, vi a0.bright.Lo, vi a0.bright.Hi]] (vi r239) from (VC.args (n_coat_film_left_ok k (⟨(⟨(⟨a0.Aging.Fresh.Lo, a0.Aging.Fresh.Hi⟩ : SRange), (⟨a0.Aging.Loss.Lo, a0.Aging.Loss.Hi⟩ : SRange), (⟨a0.Aging.Back.Lo, a0.Aging.Back.Hi⟩ : SRange), a0.Aging.Washes⟩ : SAging), a0.isOn, a0.washed, a0.since, (⟨a0.bright.Lo, a0.bright.Hi⟩ : SRange)⟩ : Sfilm) _ h240) (by first | rfl | simp only [drop0, unfr_vi, unfr_vb, unfr_vs, List.map_cons, List.map_nil, un_i, un_k, un_b, un_s, un_tr, un_fr, List.length_map, List.length_replicate, List.length_append, List.length_set, List.length_cons, List.length_nil, unfr_c_SAging, unfr_c_SRange, unfr_c_SCoatEvent, unfr_c_Sfilm])))) (an (an (decide_eq_true h238) trivial) (an (decide_eq_true h238) (ti trivial)))))))) (an (decide_eq_true h241) (an (ti trivial) trivial))))))) (ti trivial)) (Wv.refl _)
        · rw [if_neg h241] at h
          injection h with h; subst h
          exact fun_ok pm pn Go.Proofs.Try.func118 (r0 := vi 0) (ans := [.reg [.n, .n], .reg [.n, .n, .n], .reg [.n, .n, .n, .n, .n], .br false, .reg [.n, .n, .n, .n, .call (vi r239), .n, .b true, .n], .br false, .reg [.n]]) (fr := true) (by kernel_rfl) (an (an (ti (ti trivial)) (an (ti (ti (ti trivial))) (an (an (ti (ti (ti (ti (ti trivial))))) (an (bool_f h237) (an (ti (ti (ti (an (an (decide_eq_true h238) trivial) (an (an (decide_eq_true h238) (show VC Go.Proofs.Try.prog 99 [VV.ag [vi a0.Aging.Fresh.Lo, vi a0.Aging.Fresh.Hi, vi a0.Aging.Loss.Lo, vi a0.Aging.Loss.Hi, vi a0.Aging.Back.Lo, vi a0.Aging.Back.Hi, vi a0.Aging.Washes, vb a0.isOn, vi a0.washed, vi a0.since, vi a0.bright.Lo, vi a0.bright.Hi]] (vi r239) from (VC.args (n_coat_film_left_ok k (⟨(⟨(⟨a0.Aging.Fresh.Lo, a0.Aging.Fresh.Hi⟩ : SRange), (⟨a0.Aging.Loss.Lo, a0.Aging.Loss.Hi⟩ : SRange), (⟨a0.Aging.Back.Lo, a0.Aging.Back.Hi⟩ : SRange), a0.Aging.Washes⟩ : SAging), a0.isOn, a0.washed, a0.since, (⟨a0.bright.Lo, a0.bright.Hi⟩ : SRange)⟩ : Sfilm) _ h240) (by first | rfl | simp only [drop0, unfr_vi, unfr_vb, unfr_vs, List.map_cons, List.map_nil, un_i, un_k, un_b, un_s, un_tr, un_fr, List.length_map, List.length_replicate, List.length_append, List.length_set, List.length_cons, List.length_nil, unfr_c_SAging, unfr_c_SRange, unfr_c_SCoatEvent, unfr_c_Sfilm])))) (an (an (decide_eq_true h238) trivial) (an (decide_eq_true h238) (ti trivial)))))))) (an (decide_eq_false h241) trivial)))) (an (ti trivial) trivial)))) (ti trivial)) (Wv.refl _)
    · rw [if_neg h238] at h
      injection h with h; subst h
      exact fun_ok pm pn Go.Proofs.Try.func118 (r0 := vi 0) (ans := [.reg [.n, .n], .reg [.n, .n, .n], .reg [.n, .n, .n, .n, .n], .br false, .reg [.n, .n, .n, .skip, .skip, .skip, .b false, .n], .br false, .reg [.n]]) (fr := true) (by kernel_rfl) (an (an (ti (ti trivial)) (an (ti (ti (ti trivial))) (an (an (ti (ti (ti (ti (ti trivial))))) (an (bool_f h237) (an (ti (ti (ti (an (decide_eq_false h238) (an (decide_eq_false h238) (an (decide_eq_false h238) (an (decide_eq_false h238) (ti trivial)))))))) (an rf trivial)))) (an (ti trivial) trivial)))) (ti trivial)) (Wv.refl _)
def ncoat_checkBehind (k : Nat) (a0 : (List SCoatEvent)) (a1 : Sfilm) (a2 : SCoatEvent) : Option Int :=
  (ncoat_checkAlone k (⟨a2.Mirror, a2.Day, a2.Kind⟩ : SCoatEvent)).bind fun r246 => (if r246 = 0 then (if 0 < (a0.length : Int) then (if (0 : Int) ≤ 0 ∧ 0 < (a0.length : Int) then (if 0 ≤ w64 ((a0.length : Int) - 1) ∧ w64 ((a0.length : Int) - 1) < (a0.length : Int) then (if a2.Mirror = ((a0.getD ((0 : Int)).toNat default).Mirror) then (if a2.Day < ((a0.getD (w64 ((a0.length : Int) - 1)).toNat default).Day) then (some 9) else ((n_coat_film_refusal k (⟨(⟨(⟨a1.Aging.Fresh.Lo, a1.Aging.Fresh.Hi⟩ : SRange), (⟨a1.Aging.Loss.Lo, a1.Aging.Loss.Hi⟩ : SRange), (⟨a1.Aging.Back.Lo, a1.Aging.Back.Hi⟩ : SRange), a1.Aging.Washes⟩ : SAging), a1.isOn, a1.washed, a1.since, (⟨a1.bright.Lo, a1.bright.Hi⟩ : SRange)⟩ : Sfilm) a2.Kind).bind fun r254 => (some r254))) else (some 13)) else none) else none) else ((n_coat_film_refusal k (⟨(⟨(⟨a1.Aging.Fresh.Lo, a1.Aging.Fresh.Hi⟩ : SRange), (⟨a1.Aging.Loss.Lo, a1.Aging.Loss.Hi⟩ : SRange), (⟨a1.Aging.Back.Lo, a1.Aging.Back.Hi⟩ : SRange), a1.Aging.Washes⟩ : SAging), a1.isOn, a1.washed, a1.since, (⟨a1.bright.Lo, a1.bright.Hi⟩ : SRange)⟩ : Sfilm) a2.Kind).bind fun r256 => (some r256))) else (some r246))
set_option maxRecDepth 100000 in
set_option maxHeartbeats 4000000 in
theorem ncoat_checkBehind_ok (k : Nat) (a0 : (List SCoatEvent)) (a1 : Sfilm) (a2 : SCoatEvent) (r : Int) (h : ncoat_checkBehind k a0 a1 a2 = some r) : VC Go.Proofs.Try.prog 93 [VV.tr (List.flatMap c_SCoatEvent a0) a0.length, VV.ag [vi a1.Aging.Fresh.Lo, vi a1.Aging.Fresh.Hi, vi a1.Aging.Loss.Lo, vi a1.Aging.Loss.Hi, vi a1.Aging.Back.Lo, vi a1.Aging.Back.Hi, vi a1.Aging.Washes, vb a1.isOn, vi a1.washed, vi a1.since, vi a1.bright.Lo, vi a1.bright.Hi], VV.ag [vs a2.Mirror, vi a2.Day, vi a2.Kind]] (vi r) := by
  unfold ncoat_checkBehind at h
  cases h247 : ncoat_checkAlone k (⟨a2.Mirror, a2.Day, a2.Kind⟩ : SCoatEvent) with
  | none => rw [h247] at h; cases h
  | some r246 =>
    rw [h247, Option.bind_some] at h
    by_cases h248 : r246 = 0
    · rw [if_pos h248] at h
      by_cases h249 : 0 < (a0.length : Int)
      · rw [if_pos h249] at h
        by_cases h250 : (0 : Int) ≤ 0 ∧ 0 < (a0.length : Int)
        · rw [if_pos h250] at h
          by_cases h251 : 0 ≤ w64 ((a0.length : Int) - 1) ∧ w64 ((a0.length : Int) - 1) < (a0.length : Int)
          · rw [if_pos h251] at h
            by_cases h252 : a2.Mirror = ((a0.getD ((0 : Int)).toNat default).Mirror)
            · rw [if_pos h252] at h
              by_cases h253 : a2.Day < ((a0.getD (w64 ((a0.length : Int) - 1)).toNat default).Day)
              · rw [if_pos h253] at h
                injection h with h; subst h
                exact fun_ok pm pn Go.Proofs.Try.func93 (r0 := vi 9) (ans := [.reg [.n, .n, .n], .reg [.n, .call (vi r246), .n], .reg [.n, .n], .br false, .reg [.n, .n, .n], .br true, .reg [.n, .n, .v (VV.ag [vs ((a0.getD ((0 : Int)).toNat default).Mirror), vi ((a0.getD ((0 : Int)).toNat default).Day), vi ((a0.getD ((0 : Int)).toNat default).Kind)]), .n, .n, .n, .n, .n, .v (VV.ag [vs ((a0.getD (w64 ((a0.length : Int) - 1)).toNat default).Mirror), vi ((a0.getD (w64 ((a0.length : Int) - 1)).toNat default).Day), vi ((a0.getD (w64 ((a0.length : Int) - 1)).toNat default).Kind)]), .n, .n, .n, .n], .reg [.n, .n, .n, .n, .n, .n], .br false, .reg [.n, .n, .n, .n, .n, .n], .br true, .reg [.n]]) (fr := true) (by kernel_rfl) (an (an (ti (ti (ti trivial))) (an (an (ti (an (show VC Go.Proofs.Try.prog 117 [VV.ag [vs a2.Mirror, vi a2.Day, vi a2.Kind]] (vi r246) from (VC.args (ncoat_checkAlone_ok k (⟨a2.Mirror, a2.Day, a2.Kind⟩ : SCoatEvent) _ h247) (by first | rfl | simp only [drop0, unfr_vi, unfr_vb, unfr_vs, List.map_cons, List.map_nil, un_i, un_k, un_b, un_s, un_tr, un_fr, List.length_map, List.length_replicate, List.length_append, List.length_set, List.length_cons, List.length_nil, unfr_c_SAging, unfr_c_SRange, unfr_c_SCoatEvent, unfr_c_Sfilm]))) (ti trivial))) (an (ti (ti trivial)) (an (not_f (decide_eq_true h248)) trivial))) (an (ti (ti (ti trivial))) (an (decide_eq_true h249) (an (ti (an h250 (an (show loadL Go.Proofs.Try.prog 103 (((0 : Int)).toNat * 3) (List.flatMap c_SCoatEvent a0) = some (VV.ag [vs ((a0.getD ((0 : Int)).toNat default).Mirror), vi ((a0.getD ((0 : Int)).toNat default).Day), vi ((a0.getD ((0 : Int)).toNat default).Kind)]) from ld_whole ag103 c_SCoatEvent 3 sz103 len_c_SCoatEvent a0 default h250 (by omega)) (ti (ti (ti (ti (an h251 (an (show loadL Go.Proofs.Try.prog 103 ((w64 ((a0.length : Int) - 1)).toNat * 3) (List.flatMap c_SCoatEvent a0) = some (VV.ag [vs ((a0.getD (w64 ((a0.length : Int) - 1)).toNat default).Mirror), vi ((a0.getD (w64 ((a0.length : Int) - 1)).toNat default).Day), vi ((a0.getD (w64 ((a0.length : Int) - 1)).toNat default).Kind)]) from ld_whole ag103 c_SCoatEvent 3 sz103 len_c_SCoatEvent a0 default h251 (by omega)) (ti (ti (ti (ti trivial))))))))))))) (an (ti (ti (ti (ti (ti (ti trivial)))))) (an (not_f (decide_eq_true h252)) (an (ti (ti (ti (ti (ti (ti trivial)))))) (an (decide_eq_true h253) (an (ti trivial) trivial)))))))))) (ti trivial)) (Wv.refl _)
              · rw [if_neg h253] at h
                cases h255 : n_coat_film_refusal k (⟨(⟨(⟨a1.Aging.Fresh.Lo, a1.Aging.Fresh.Hi⟩ : SRange), (⟨a1.Aging.Loss.Lo, a1.Aging.Loss.Hi⟩ : SRange), (⟨a1.Aging.Back.Lo, a1.Aging.Back.Hi⟩ : SRange), a1.Aging.Washes⟩ : SAging), a1.isOn, a1.washed, a1.since, (⟨a1.bright.Lo, a1.bright.Hi⟩ : SRange)⟩ : Sfilm) a2.Kind with
                | none => rw [h255] at h; cases h
                | some r254 =>
                  rw [h255, Option.bind_some] at h
                  injection h with h; subst h
                  exact fun_ok pm pn Go.Proofs.Try.func93 (r0 := vi r254) (ans := [.reg [.n, .n, .n], .reg [.n, .call (vi r246), .n], .reg [.n, .n], .br false, .reg [.n, .n, .n], .br true, .reg [.n, .n, .v (VV.ag [vs ((a0.getD ((0 : Int)).toNat default).Mirror), vi ((a0.getD ((0 : Int)).toNat default).Day), vi ((a0.getD ((0 : Int)).toNat default).Kind)]), .n, .n, .n, .n, .n, .v (VV.ag [vs ((a0.getD (w64 ((a0.length : Int) - 1)).toNat default).Mirror), vi ((a0.getD (w64 ((a0.length : Int) - 1)).toNat default).Day), vi ((a0.getD (w64 ((a0.length : Int) - 1)).toNat default).Kind)]), .n, .n, .n, .n], .reg [.n, .n, .n, .n, .n, .n], .br false, .reg [.n, .n, .n, .n, .n, .n], .br false, .reg [.n, .n, .n, .call (vi r254), .n]]) (fr := true) (by kernel_rfl) (an (an (ti (ti (ti trivial))) (an (an (ti (an (show VC Go.Proofs.Try.prog 117 [VV.ag [vs a2.Mirror, vi a2.Day, vi a2.Kind]] (vi r246) from (VC.args (ncoat_checkAlone_ok k (⟨a2.Mirror, a2.Day, a2.Kind⟩ : SCoatEvent) _ h247) (by first | rfl | simp only [drop0, unfr_vi, unfr_vb, unfr_vs, List.map_cons, List.map_nil, un_i, un_k, un_b, un_s, un_tr, un_fr, List.length_map, List.length_replicate, List.length_append, List.length_set, List.length_cons, List.length_nil, unfr_c_SAging, unfr_c_SRange, unfr_c_SCoatEvent, unfr_c_Sfilm]))) (ti trivial))) (an (ti (ti trivial)) (an (not_f (decide_eq_true h248)) trivial))) (an (an (ti (ti (ti trivial))) (an (decide_eq_true h249) (an (ti (an h250 (an (show loadL Go.Proofs.Try.prog 103 (((0 : Int)).toNat * 3) (List.flatMap c_SCoatEvent a0) = some (VV.ag [vs ((a0.getD ((0 : Int)).toNat default).Mirror), vi ((a0.getD ((0 : Int)).toNat default).Day), vi ((a0.getD ((0 : Int)).toNat default).Kind)]) from ld_whole ag103 c_SCoatEvent 3 sz103 len_c_SCoatEvent a0 default h250 (by omega)) (ti (ti (ti (ti (an h251 (an (show loadL Go.Proofs.Try.prog 103 ((w64 ((a0.length : Int) - 1)).toNat * 3) (List.flatMap c_SCoatEvent a0) = some (VV.ag [vs ((a0.getD (w64 ((a0.length : Int) - 1)).toNat default).Mirror), vi ((a0.getD (w64 ((a0.length : Int) - 1)).toNat default).Day), vi ((a0.getD (w64 ((a0.length : Int) - 1)).toNat default).Kind)]) from ld_whole ag103 c_SCoatEvent 3 sz103 len_c_SCoatEvent a0 default h251 (by omega)) (ti (ti (ti (ti trivial))))))))))))) (an (ti (ti (ti (ti (ti (ti trivial)))))) (an (not_f (decide_eq_true h252)) (an (ti (ti (ti (ti (ti (ti trivial)))))) (an (decide_eq_false h253) trivial))))))) (an (ti (ti (ti (an (show VC Go.Proofs.Try.prog 118 [VV.ag [vi a1.Aging.Fresh.Lo, vi a1.Aging.Fresh.Hi, vi a1.Aging.Loss.Lo, vi a1.Aging.Loss.Hi, vi a1.Aging.Back.Lo, vi a1.Aging.Back.Hi, vi a1.Aging.Washes, vb a1.isOn, vi a1.washed, vi a1.since, vi a1.bright.Lo, vi a1.bright.Hi], vi a2.Kind] (vi r254) from (VC.args (n_coat_film_refusal_ok k (⟨(⟨(⟨a1.Aging.Fresh.Lo, a1.Aging.Fresh.Hi⟩ : SRange), (⟨a1.Aging.Loss.Lo, a1.Aging.Loss.Hi⟩ : SRange), (⟨a1.Aging.Back.Lo, a1.Aging.Back.Hi⟩ : SRange), a1.Aging.Washes⟩ : SAging), a1.isOn, a1.washed, a1.since, (⟨a1.bright.Lo, a1.bright.Hi⟩ : SRange)⟩ : Sfilm) a2.Kind _ h255) (by first | rfl | simp only [drop0, unfr_vi, unfr_vb, unfr_vs, List.map_cons, List.map_nil, un_i, un_k, un_b, un_s, un_tr, un_fr, List.length_map, List.length_replicate, List.length_append, List.length_set, List.length_cons, List.length_nil, unfr_c_SAging, unfr_c_SRange, unfr_c_SCoatEvent, unfr_c_Sfilm]))) (ti trivial))))) trivial)))) (ti trivial)) (Wv.refl _)
            · rw [if_neg h252] at h
              injection h with h; subst h
              exact fun_ok pm pn Go.Proofs.Try.func93 (r0 := vi 13) (ans := [.reg [.n, .n, .n], .reg [.n, .call (vi r246), .n], .reg [.n, .n], .br false, .reg [.n, .n, .n], .br true, .reg [.n, .n, .v (VV.ag [vs ((a0.getD ((0 : Int)).toNat default).Mirror), vi ((a0.getD ((0 : Int)).toNat default).Day), vi ((a0.getD ((0 : Int)).toNat default).Kind)]), .n, .n, .n, .n, .n, .v (VV.ag [vs ((a0.getD (w64 ((a0.length : Int) - 1)).toNat default).Mirror), vi ((a0.getD (w64 ((a0.length : Int) - 1)).toNat default).Day), vi ((a0.getD (w64 ((a0.length : Int) - 1)).toNat default).Kind)]), .n, .n, .n, .n], .reg [.n, .n, .n, .n, .n, .n], .br true, .reg [.n]]) (fr := true) (by kernel_rfl) (an (an (ti (ti (ti trivial))) (an (an (ti (an (show VC Go.Proofs.Try.prog 117 [VV.ag [vs a2.Mirror, vi a2.Day, vi a2.Kind]] (vi r246) from (VC.args (ncoat_checkAlone_ok k (⟨a2.Mirror, a2.Day, a2.Kind⟩ : SCoatEvent) _ h247) (by first | rfl | simp only [drop0, unfr_vi, unfr_vb, unfr_vs, List.map_cons, List.map_nil, un_i, un_k, un_b, un_s, un_tr, un_fr, List.length_map, List.length_replicate, List.length_append, List.length_set, List.length_cons, List.length_nil, unfr_c_SAging, unfr_c_SRange, unfr_c_SCoatEvent, unfr_c_Sfilm]))) (ti trivial))) (an (ti (ti trivial)) (an (not_f (decide_eq_true h248)) trivial))) (an (ti (ti (ti trivial))) (an (decide_eq_true h249) (an (ti (an h250 (an (show loadL Go.Proofs.Try.prog 103 (((0 : Int)).toNat * 3) (List.flatMap c_SCoatEvent a0) = some (VV.ag [vs ((a0.getD ((0 : Int)).toNat default).Mirror), vi ((a0.getD ((0 : Int)).toNat default).Day), vi ((a0.getD ((0 : Int)).toNat default).Kind)]) from ld_whole ag103 c_SCoatEvent 3 sz103 len_c_SCoatEvent a0 default h250 (by omega)) (ti (ti (ti (ti (an h251 (an (show loadL Go.Proofs.Try.prog 103 ((w64 ((a0.length : Int) - 1)).toNat * 3) (List.flatMap c_SCoatEvent a0) = some (VV.ag [vs ((a0.getD (w64 ((a0.length : Int) - 1)).toNat default).Mirror), vi ((a0.getD (w64 ((a0.length : Int) - 1)).toNat default).Day), vi ((a0.getD (w64 ((a0.length : Int) - 1)).toNat default).Kind)]) from ld_whole ag103 c_SCoatEvent 3 sz103 len_c_SCoatEvent a0 default h251 (by omega)) (ti (ti (ti (ti trivial))))))))))))) (an (ti (ti (ti (ti (ti (ti trivial)))))) (an (not_t (decide_eq_false h252)) (an (ti trivial) trivial)))))))) (ti trivial)) (Wv.refl _)
          · rw [if_neg h251] at h; cases h
        · rw [if_neg h250] at h; cases h
      · rw [if_neg h249] at h
        cases h257 : n_coat_film_refusal k (⟨(⟨(⟨a1.Aging.Fresh.Lo, a1.Aging.Fresh.Hi⟩ : SRange), (⟨a1.Aging.Loss.Lo, a1.Aging.Loss.Hi⟩ : SRange), (⟨a1.Aging.Back.Lo, a1.Aging.Back.Hi⟩ : SRange), a1.Aging.Washes⟩ : SAging), a1.isOn, a1.washed, a1.since, (⟨a1.bright.Lo, a1.bright.Hi⟩ : SRange)⟩ : Sfilm) a2.Kind with
        | none => rw [h257] at h; cases h
        | some r256 =>
          rw [h257, Option.bind_some] at h
          injection h with h; subst h
          exact fun_ok pm pn Go.Proofs.Try.func93 (r0 := vi r256) (ans := [.reg [.n, .n, .n], .reg [.n, .call (vi r246), .n], .reg [.n, .n], .br false, .reg [.n, .n, .n], .br false, .reg [.n, .n, .n, .call (vi r256), .n]]) (fr := true) (by kernel_rfl) (an (an (ti (ti (ti trivial))) (an (an (ti (an (show VC Go.Proofs.Try.prog 117 [VV.ag [vs a2.Mirror, vi a2.Day, vi a2.Kind]] (vi r246) from (VC.args (ncoat_checkAlone_ok k (⟨a2.Mirror, a2.Day, a2.Kind⟩ : SCoatEvent) _ h247) (by first | rfl | simp only [drop0, unfr_vi, unfr_vb, unfr_vs, List.map_cons, List.map_nil, un_i, un_k, un_b, un_s, un_tr, un_fr, List.length_map, List.length_replicate, List.length_append, List.length_set, List.length_cons, List.length_nil, unfr_c_SAging, unfr_c_SRange, unfr_c_SCoatEvent, unfr_c_Sfilm]))) (ti trivial))) (an (ti (ti trivial)) (an (not_f (decide_eq_true h248)) trivial))) (an (an (ti (ti (ti trivial))) (an (decide_eq_false h249) trivial)) (an (ti (ti (ti (an (show VC Go.Proofs.Try.prog 118 [VV.ag [vi a1.Aging.Fresh.Lo, vi a1.Aging.Fresh.Hi, vi a1.Aging.Loss.Lo, vi a1.Aging.Loss.Hi, vi a1.Aging.Back.Lo, vi a1.Aging.Back.Hi, vi a1.Aging.Washes, vb a1.isOn, vi a1.washed, vi a1.since, vi a1.bright.Lo, vi a1.bright.Hi], vi a2.Kind] (vi r256) from (VC.args (n_coat_film_refusal_ok k (⟨(⟨(⟨a1.Aging.Fresh.Lo, a1.Aging.Fresh.Hi⟩ : SRange), (⟨a1.Aging.Loss.Lo, a1.Aging.Loss.Hi⟩ : SRange), (⟨a1.Aging.Back.Lo, a1.Aging.Back.Hi⟩ : SRange), a1.Aging.Washes⟩ : SAging), a1.isOn, a1.washed, a1.since, (⟨a1.bright.Lo, a1.bright.Hi⟩ : SRange)⟩ : Sfilm) a2.Kind _ h257) (by first | rfl | simp only [drop0, unfr_vi, unfr_vb, unfr_vs, List.map_cons, List.map_nil, un_i, un_k, un_b, un_s, un_tr, un_fr, List.length_map, List.length_replicate, List.length_append, List.length_set, List.length_cons, List.length_nil, unfr_c_SAging, unfr_c_SRange, unfr_c_SCoatEvent, unfr_c_Sfilm]))) (ti trivial))))) trivial)))) (ti trivial)) (Wv.refl _)
    · rw [if_neg h248] at h
      injection h with h; subst h
      exact fun_ok pm pn Go.Proofs.Try.func93 (r0 := vi r246) (ans := [.reg [.n, .n, .n], .reg [.n, .call (vi r246), .n], .reg [.n, .n], .br true, .reg [.n, .n]]) (fr := true) (by kernel_rfl) (an (an (ti (ti (ti trivial))) (an (ti (an (show VC Go.Proofs.Try.prog 117 [VV.ag [vs a2.Mirror, vi a2.Day, vi a2.Kind]] (vi r246) from (VC.args (ncoat_checkAlone_ok k (⟨a2.Mirror, a2.Day, a2.Kind⟩ : SCoatEvent) _ h247) (by first | rfl | simp only [drop0, unfr_vi, unfr_vb, unfr_vs, List.map_cons, List.map_nil, un_i, un_k, un_b, un_s, un_tr, un_fr, List.length_map, List.length_replicate, List.length_append, List.length_set, List.length_cons, List.length_nil, unfr_c_SAging, unfr_c_SRange, unfr_c_SCoatEvent, unfr_c_Sfilm]))) (ti trivial))) (an (ti (ti trivial)) (an (not_t (decide_eq_false h248)) (an (ti (ti trivial)) trivial))))) (ti trivial)) (Wv.refl _)
def n_coat_film_put (k : Nat) (a0 : Sfilm) (a1 : Int) : Option Sfilm :=
  some (⟨(⟨(⟨a0.Aging.Fresh.Lo, a0.Aging.Fresh.Hi⟩ : SRange), (⟨a0.Aging.Loss.Lo, a0.Aging.Loss.Hi⟩ : SRange), (⟨a0.Aging.Back.Lo, a0.Aging.Back.Hi⟩ : SRange), a0.Aging.Washes⟩ : SAging), true, 0, a1, (⟨a0.Aging.Fresh.Lo, a0.Aging.Fresh.Hi⟩ : SRange)⟩ : Sfilm)
set_option maxRecDepth 100000 in
set_option maxHeartbeats 4000000 in
theorem n_coat_film_put_ok (k : Nat) (a0 : Sfilm) (a1 : Int) (r : Sfilm) (h : n_coat_film_put k a0 a1 = some r) : VC Go.Proofs.Try.prog 119 [VV.ag [vi a0.Aging.Fresh.Lo, vi a0.Aging.Fresh.Hi, vi a0.Aging.Loss.Lo, vi a0.Aging.Loss.Hi, vi a0.Aging.Back.Lo, vi a0.Aging.Back.Hi, vi a0.Aging.Washes, vb a0.isOn, vi a0.washed, vi a0.since, vi a0.bright.Lo, vi a0.bright.Hi], vi a1] (VV.ag [vi r.Aging.Fresh.Lo, vi r.Aging.Fresh.Hi, vi r.Aging.Loss.Lo, vi r.Aging.Loss.Hi, vi r.Aging.Back.Lo, vi r.Aging.Back.Hi, vi r.Aging.Washes, vb r.isOn, vi r.washed, vi r.since, vi r.bright.Lo, vi r.bright.Hi]) := by
  unfold n_coat_film_put at h
  injection h with h; subst h
  exact fun_ok pm pn Go.Proofs.Try.func119 (r0 := VV.ag [vi a0.Aging.Fresh.Lo, vi a0.Aging.Fresh.Hi, vi a0.Aging.Loss.Lo, vi a0.Aging.Loss.Hi, vi a0.Aging.Back.Lo, vi a0.Aging.Back.Hi, vi a0.Aging.Washes, vb true, vi 0, vi a1, vi a0.Aging.Fresh.Lo, vi a0.Aging.Fresh.Hi]) (ans := [.reg [.n, .n], .reg [.n, .n, .n, .n, .n, .n, .n, .n]]) (fr := true) (by kernel_rfl) (an (an (ti (ti trivial)) (an (ti (ti (ti (ti (ti (ti (ti (ti trivial)))))))) trivial)) (an (ti (ti (ti (ti (ti (ti (ti (ti (ti (ti (ti (ti (ti trivial))))))))))))) trivial)) (Wv.of_eq (by simp only [drop0, unfr_vi, unfr_vb, unfr_vs, List.map_cons, List.map_nil, un_i, un_k, un_b, un_s, un_tr, un_fr, List.length_map, List.length_replicate, List.length_append, List.length_set, List.length_cons, List.length_nil, unfr_c_SAging, unfr_c_SRange, unfr_c_SCoatEvent, unfr_c_Sfilm]))
def ncoat_up (k : Nat) (a0 : Int) (a1 : Int) : Option Int :=
  if a1 ≠ 0 then (some (w64 ((w64 ((w64 (a0 + a1)) - 1)).tdiv a1))) else none
set_option maxRecDepth 100000 in
set_option maxHeartbeats 4000000 in
theorem ncoat_up_ok (k : Nat) (a0 : Int) (a1 : Int) (r : Int) (h : ncoat_up k a0 a1 = some r) : VC Go.Proofs.Try.prog 86 [vi a0, vi a1] (vi r) := by
  unfold ncoat_up at h
  by_cases h267 : a1 ≠ 0
  · rw [if_pos h267] at h
    injection h with h; subst h
    exact fun_ok pm pn Go.Proofs.Try.func86 (r0 := vi (w64 ((w64 ((w64 (a0 + a1)) - 1)).tdiv a1))) (ans := [.reg [.n], .reg [.n, .n, .n, .n, .n, .n, .n]]) (fr := true) (by kernel_rfl) (an (an (ti trivial) (an (ti (ti (ti (ti (ti (an h267 (ti trivial))))))) trivial)) (ti trivial)) (Wv.refl _)
  · rw [if_neg h267] at h; cases h
def ncoat_outward (k : Nat) (a0 : Int) (a1 : Int) (a2 : Int) : Option SRange :=
  if a2 ≠ 0 then ((ncoat_up k a1 a2).bind fun r271 => (some (⟨w64 (a0.tdiv a2), r271⟩ : SRange))) else none
set_option maxRecDepth 100000 in
set_option maxHeartbeats 4000000 in
theorem ncoat_outward_ok (k : Nat) (a0 : Int) (a1 : Int) (a2 : Int) (r : SRange) (h : ncoat_outward k a0 a1 a2 = some r) : VC Go.Proofs.Try.prog 89 [vi a0, vi a1, vi a2] (VV.ag [vi r.Lo, vi r.Hi]) := by
  unfold ncoat_outward at h
  by_cases h270 : a2 ≠ 0
  · rw [if_pos h270] at h
    cases h272 : ncoat_up k a1 a2 with
    | none => rw [h272] at h; cases h
    | some r271 =>
      rw [h272, Option.bind_some] at h
      injection h with h; subst h
      exact fun_ok pm pn Go.Proofs.Try.func89 (r0 := VV.ag [vi (w64 (a0.tdiv a2)), vi r271]) (ans := [.reg [.n], .reg [.n, .n, .n, .n, .n, .call (vi r271), .n, .n]]) (fr := true) (by kernel_rfl) (an (an (ti trivial) (an (ti (ti (an h270 (ti (ti (an (ncoat_up_ok k a1 a2 _ h272) (ti (ti trivial)))))))) trivial)) (an (ti (ti (ti trivial))) trivial)) (Wv.of_eq (by simp only [drop0, unfr_vi, unfr_vb, unfr_vs, List.map_cons, List.map_nil, un_i, un_k, un_b, un_s, un_tr, un_fr, List.length_map, List.length_replicate, List.length_append, List.length_set, List.length_cons, List.length_nil, unfr_c_SAging, unfr_c_SRange, unfr_c_SCoatEvent, unfr_c_Sfilm]))
  · rw [if_neg h270] at h; cases h
def n_coat_film_brightOn (k : Nat) (a0 : Sfilm) (a1 : Int) : Option SRange :=
  (ncoat_outward k (w64 (a0.Aging.Loss.Lo * (w64 (a1 - a0.since)))) (w64 (a0.Aging.Loss.Hi * (w64 (a1 - a0.since)))) 1000).bind fun r275 => (some (⟨maxI 0 (w64 (a0.bright.Lo - r275.Hi)), maxI 0 (w64 (a0.bright.Hi - r275.Lo))⟩ : SRange))
set_option maxRecDepth 100000 in
set_option maxHeartbeats 4000000 in
theorem n_coat_film_brightOn_ok (k : Nat) (a0 : Sfilm) (a1 : Int) (r : SRange) (h : n_coat_film_brightOn k a0 a1 = some r) : VC Go.Proofs.Try.prog 101 [VV.ag [vi a0.Aging.Fresh.Lo, vi a0.Aging.Fresh.Hi, vi a0.Aging.Loss.Lo, vi a0.Aging.Loss.Hi, vi a0.Aging.Back.Lo, vi a0.Aging.Back.Hi, vi a0.Aging.Washes, vb a0.isOn, vi a0.washed, vi a0.since, vi a0.bright.Lo, vi a0.bright.Hi], vi a1] (VV.ag [vi r.Lo, vi r.Hi]) := by
  unfold n_coat_film_brightOn at h
  cases h276 : ncoat_outward k (w64 (a0.Aging.Loss.Lo * (w64 (a1 - a0.since)))) (w64 (a0.Aging.Loss.Hi * (w64 (a1 - a0.since)))) 1000 with
  | none => rw [h276] at h; cases h
  | some r275 =>
    rw [h276, Option.bind_some] at h
    injection h with h; subst h
    exact fun_ok pm pn Go.Proofs.Try.func101 (r0 := VV.ag [vi (maxI 0 (w64 (a0.bright.Lo - r275.Hi))), vi (maxI 0 (w64 (a0.bright.Hi - r275.Lo)))]) (ans := [.reg [.n, .n], .reg [.n, .n, .n, .n, .n], .reg [.n, .n, .n, .n, .n, .n, .n, .n, .n, .n, .n, .n, .call (VV.ag [vi r275.Lo, vi r275.Hi]), .n, .n], .reg [.n, .n, .n, .n, .n, .n, .n, .n, .n, .n, .n, .n, .n, .n, .n, .n]]) (fr := true) (by kernel_rfl) (an (an (ti (ti trivial)) (an (ti (ti (ti (ti (ti trivial))))) (an (ti (ti (ti (ti (ti (ti (ti (ti (ti (ti (ti (ti (an (ncoat_outward_ok k (w64 (a0.Aging.Loss.Lo * (w64 (a1 - a0.since)))) (w64 (a0.Aging.Loss.Hi * (w64 (a1 - a0.since)))) 1000 _ h276) (ti (ti trivial))))))))))))))) (an (ti (ti (ti (ti (ti (ti (ti (ti (ti (ti (ti (ti (ti (ti (ti (ti trivial)))))))))))))))) trivial)))) (an (ti (ti (ti trivial))) trivial)) (Wv.of_eq (by simp only [drop0, unfr_vi, unfr_vb, unfr_vs, List.map_cons, List.map_nil, un_i, un_k, un_b, un_s, un_tr, un_fr, List.length_map, List.length_replicate, List.length_append, List.length_set, List.length_cons, List.length_nil, unfr_c_SAging, unfr_c_SRange, unfr_c_SCoatEvent, unfr_c_Sfilm]))
def n_coat_film_wash (k : Nat) (a0 : Sfilm) (a1 : Int) : Option Sfilm :=
  (n_coat_film_brightOn k (⟨(⟨(⟨a0.Aging.Fresh.Lo, a0.Aging.Fresh.Hi⟩ : SRange), (⟨a0.Aging.Loss.Lo, a0.Aging.Loss.Hi⟩ : SRange), (⟨a0.Aging.Back.Lo, a0.Aging.Back.Hi⟩ : SRange), a0.Aging.Washes⟩ : SAging), a0.isOn, a0.washed, a0.since, (⟨a0.bright.Lo, a0.bright.Hi⟩ : SRange)⟩ : Sfilm) a1).bind fun r279 => (some (⟨(⟨(⟨a0.Aging.Fresh.Lo, a0.Aging.Fresh.Hi⟩ : SRange), (⟨a0.Aging.Loss.Lo, a0.Aging.Loss.Hi⟩ : SRange), (⟨a0.Aging.Back.Lo, a0.Aging.Back.Hi⟩ : SRange), a0.Aging.Washes⟩ : SAging), a0.isOn, w64 (a0.washed + 1), a1, (⟨minI (w64 (r279.Lo + a0.Aging.Back.Lo)) a0.Aging.Fresh.Lo, minI (w64 (r279.Hi + a0.Aging.Back.Hi)) a0.Aging.Fresh.Hi⟩ : SRange)⟩ : Sfilm))
set_option maxRecDepth 100000 in
set_option maxHeartbeats 4000000 in
theorem n_coat_film_wash_ok (k : Nat) (a0 : Sfilm) (a1 : Int) (r : Sfilm) (h : n_coat_film_wash k a0 a1 = some r) : VC Go.Proofs.Try.prog 120 [VV.ag [vi a0.Aging.Fresh.Lo, vi a0.Aging.Fresh.Hi, vi a0.Aging.Loss.Lo, vi a0.Aging.Loss.Hi, vi a0.Aging.Back.Lo, vi a0.Aging.Back.Hi, vi a0.Aging.Washes, vb a0.isOn, vi a0.washed, vi a0.since, vi a0.bright.Lo, vi a0.bright.Hi], vi a1] (VV.ag [vi r.Aging.Fresh.Lo, vi r.Aging.Fresh.Hi, vi r.Aging.Loss.Lo, vi r.Aging.Loss.Hi, vi r.Aging.Back.Lo, vi r.Aging.Back.Hi, vi r.Aging.Washes, vb r.isOn, vi r.washed, vi r.since, vi r.bright.Lo, vi r.bright.Hi]) := by
  unfold n_coat_film_wash at h
  cases h280 : n_coat_film_brightOn k (⟨(⟨(⟨a0.Aging.Fresh.Lo, a0.Aging.Fresh.Hi⟩ : SRange), (⟨a0.Aging.Loss.Lo, a0.Aging.Loss.Hi⟩ : SRange), (⟨a0.Aging.Back.Lo, a0.Aging.Back.Hi⟩ : SRange), a0.Aging.Washes⟩ : SAging), a0.isOn, a0.washed, a0.since, (⟨a0.bright.Lo, a0.bright.Hi⟩ : SRange)⟩ : Sfilm) a1 with
  | none => rw [h280] at h; cases h
  | some r279 =>
    rw [h280, Option.bind_some] at h
    injection h with h; subst h
    exact fun_ok pm pn Go.Proofs.Try.func120 (r0 := VV.ag [vi a0.Aging.Fresh.Lo, vi a0.Aging.Fresh.Hi, vi a0.Aging.Loss.Lo, vi a0.Aging.Loss.Hi, vi a0.Aging.Back.Lo, vi a0.Aging.Back.Hi, vi a0.Aging.Washes, vb a0.isOn, vi (w64 (a0.washed + 1)), vi a1, vi (minI (w64 (r279.Lo + a0.Aging.Back.Lo)) a0.Aging.Fresh.Lo), vi (minI (w64 (r279.Hi + a0.Aging.Back.Hi)) a0.Aging.Fresh.Hi)]) (ans := [.reg [.n, .n], .reg [.n, .n, .call (VV.ag [vi r279.Lo, vi r279.Hi]), .n, .n], .reg [.n, .n, .n, .n, .n, .n, .n, .n, .n, .n, .n, .n, .n, .n, .n, .n, .n, .n, .n, .n, .n, .n, .n, .n, .n, .n, .n], .reg [.n, .n, .n], .reg [.n, .n, .n, .n, .n], .reg [.n, .n]]) (fr := true) (by kernel_rfl) (an (an (ti (ti trivial)) (an (ti (ti (an (show VC Go.Proofs.Try.prog 101 [VV.ag [vi a0.Aging.Fresh.Lo, vi a0.Aging.Fresh.Hi, vi a0.Aging.Loss.Lo, vi a0.Aging.Loss.Hi, vi a0.Aging.Back.Lo, vi a0.Aging.Back.Hi, vi a0.Aging.Washes, vb a0.isOn, vi a0.washed, vi a0.since, vi a0.bright.Lo, vi a0.bright.Hi], vi a1] (VV.ag [vi r279.Lo, vi r279.Hi]) from (VC.args (n_coat_film_brightOn_ok k (⟨(⟨(⟨a0.Aging.Fresh.Lo, a0.Aging.Fresh.Hi⟩ : SRange), (⟨a0.Aging.Loss.Lo, a0.Aging.Loss.Hi⟩ : SRange), (⟨a0.Aging.Back.Lo, a0.Aging.Back.Hi⟩ : SRange), a0.Aging.Washes⟩ : SAging), a0.isOn, a0.washed, a0.since, (⟨a0.bright.Lo, a0.bright.Hi⟩ : SRange)⟩ : Sfilm) a1 _ h280) (by first | rfl | simp only [drop0, unfr_vi, unfr_vb, unfr_vs, List.map_cons, List.map_nil, un_i, un_k, un_b, un_s, un_tr, un_fr, List.length_map, List.length_replicate, List.length_append, List.length_set, List.length_cons, List.length_nil, unfr_c_SAging, unfr_c_SRange, unfr_c_SCoatEvent, unfr_c_Sfilm]))) (ti (ti trivial))))) (an (ti (ti (ti (ti (ti (ti (ti (ti (ti (ti (ti (ti (ti (ti (ti (ti (ti (ti (ti (ti (ti (ti (ti (ti (ti (ti (ti trivial))))))))))))))))))))))))))) (an (ti (ti (ti trivial))) (an (ti (ti (ti (ti (ti trivial))))) (an (ti (ti trivial)) trivial)))))) (an (ti (ti (ti (ti (ti (ti (ti (ti (ti (ti (ti (ti (ti trivial))))))))))))) trivial)) (Wv.of_eq (by simp only [drop0, unfr_vi, unfr_vb, unfr_vs, List.map_cons, List.map_nil, un_i, un_k, un_b, un_s, un_tr, un_fr, List.length_map, List.length_replicate, List.length_append, List.length_set, List.length_cons, List.length_nil, unfr_c_SAging, unfr_c_SRange, unfr_c_SCoatEvent, unfr_c_Sfilm]))
def n_coat_film_strip (k : Nat) (a0 : Sfilm) : Option Sfilm :=
  some (⟨(⟨(⟨a0.Aging.Fresh.Lo, a0.Aging.Fresh.Hi⟩ : SRange), (⟨a0.Aging.Loss.Lo, a0.Aging.Loss.Hi⟩ : SRange), (⟨a0.Aging.Back.Lo, a0.Aging.Back.Hi⟩ : SRange), a0.Aging.Washes⟩ : SAging), false, 0, 0, (⟨0, 0⟩ : SRange)⟩ : Sfilm)
set_option maxRecDepth 100000 in
set_option maxHeartbeats 4000000 in
theorem n_coat_film_strip_ok (k : Nat) (a0 : Sfilm) (r : Sfilm) (h : n_coat_film_strip k a0 = some r) : VC Go.Proofs.Try.prog 121 [VV.ag [vi a0.Aging.Fresh.Lo, vi a0.Aging.Fresh.Hi, vi a0.Aging.Loss.Lo, vi a0.Aging.Loss.Hi, vi a0.Aging.Back.Lo, vi a0.Aging.Back.Hi, vi a0.Aging.Washes, vb a0.isOn, vi a0.washed, vi a0.since, vi a0.bright.Lo, vi a0.bright.Hi]] (VV.ag [vi r.Aging.Fresh.Lo, vi r.Aging.Fresh.Hi, vi r.Aging.Loss.Lo, vi r.Aging.Loss.Hi, vi r.Aging.Back.Lo, vi r.Aging.Back.Hi, vi r.Aging.Washes, vb r.isOn, vi r.washed, vi r.since, vi r.bright.Lo, vi r.bright.Hi]) := by
  unfold n_coat_film_strip at h
  injection h with h; subst h
  exact fun_ok pm pn Go.Proofs.Try.func121 (r0 := VV.ag [vi a0.Aging.Fresh.Lo, vi a0.Aging.Fresh.Hi, vi a0.Aging.Loss.Lo, vi a0.Aging.Loss.Hi, vi a0.Aging.Back.Lo, vi a0.Aging.Back.Hi, vi a0.Aging.Washes, vb false, vi 0, vi 0, vi 0, vi 0]) (ans := [.reg [.n, .n], .reg [.n, .n, .n, .n]]) (fr := true) (by kernel_rfl) (an (an (ti (ti trivial)) (an (ti (ti (ti (ti trivial)))) trivial)) (an (ti (ti (ti (ti (ti (ti (ti (ti (ti (ti (ti (ti (ti trivial))))))))))))) trivial)) (Wv.of_eq (by simp only [drop0, unfr_vi, unfr_vb, unfr_vs, List.map_cons, List.map_nil, un_i, un_k, un_b, un_s, un_tr, un_fr, List.length_map, List.length_replicate, List.length_append, List.length_set, List.length_cons, List.length_nil, unfr_c_SAging, unfr_c_SRange, unfr_c_SCoatEvent, unfr_c_Sfilm]))
def n_coat_film_behind (k : Nat) (a0 : Sfilm) (a1 : SCoatEvent) : Option Sfilm :=
  if a1.Kind = 0 then ((n_coat_film_put k (⟨(⟨(⟨a0.Aging.Fresh.Lo, a0.Aging.Fresh.Hi⟩ : SRange), (⟨a0.Aging.Loss.Lo, a0.Aging.Loss.Hi⟩ : SRange), (⟨a0.Aging.Back.Lo, a0.Aging.Back.Hi⟩ : SRange), a0.Aging.Washes⟩ : SAging), a0.isOn, a0.washed, a0.since, (⟨a0.bright.Lo, a0.bright.Hi⟩ : SRange)⟩ : Sfilm) a1.Day).bind fun r286 => (some (⟨(⟨(⟨r286.Aging.Fresh.Lo, r286.Aging.Fresh.Hi⟩ : SRange), (⟨r286.Aging.Loss.Lo, r286.Aging.Loss.Hi⟩ : SRange), (⟨r286.Aging.Back.Lo, r286.Aging.Back.Hi⟩ : SRange), r286.Aging.Washes⟩ : SAging), r286.isOn, r286.washed, r286.since, (⟨r286.bright.Lo, r286.bright.Hi⟩ : SRange)⟩ : Sfilm))) else (if a1.Kind = 1 then ((n_coat_film_wash k (⟨(⟨(⟨a0.Aging.Fresh.Lo, a0.Aging.Fresh.Hi⟩ : SRange), (⟨a0.Aging.Loss.Lo, a0.Aging.Loss.Hi⟩ : SRange), (⟨a0.Aging.Back.Lo, a0.Aging.Back.Hi⟩ : SRange), a0.Aging.Washes⟩ : SAging), a0.isOn, a0.washed, a0.since, (⟨a0.bright.Lo, a0.bright.Hi⟩ : SRange)⟩ : Sfilm) a1.Day).bind fun r289 => (some (⟨(⟨(⟨r289.Aging.Fresh.Lo, r289.Aging.Fresh.Hi⟩ : SRange), (⟨r289.Aging.Loss.Lo, r289.Aging.Loss.Hi⟩ : SRange), (⟨r289.Aging.Back.Lo, r289.Aging.Back.Hi⟩ : SRange), r289.Aging.Washes⟩ : SAging), r289.isOn, r289.washed, r289.since, (⟨r289.bright.Lo, r289.bright.Hi⟩ : SRange)⟩ : Sfilm))) else ((n_coat_film_strip k (⟨(⟨(⟨a0.Aging.Fresh.Lo, a0.Aging.Fresh.Hi⟩ : SRange), (⟨a0.Aging.Loss.Lo, a0.Aging.Loss.Hi⟩ : SRange), (⟨a0.Aging.Back.Lo, a0.Aging.Back.Hi⟩ : SRange), a0.Aging.Washes⟩ : SAging), a0.isOn, a0.washed, a0.since, (⟨a0.bright.Lo, a0.bright.Hi⟩ : SRange)⟩ : Sfilm)).bind fun r291 => (some (⟨(⟨(⟨r291.Aging.Fresh.Lo, r291.Aging.Fresh.Hi⟩ : SRange), (⟨r291.Aging.Loss.Lo, r291.Aging.Loss.Hi⟩ : SRange), (⟨r291.Aging.Back.Lo, r291.Aging.Back.Hi⟩ : SRange), r291.Aging.Washes⟩ : SAging), r291.isOn, r291.washed, r291.since, (⟨r291.bright.Lo, r291.bright.Hi⟩ : SRange)⟩ : Sfilm))))
set_option maxRecDepth 100000 in
set_option maxHeartbeats 4000000 in
theorem n_coat_film_behind_ok (k : Nat) (a0 : Sfilm) (a1 : SCoatEvent) (r : Sfilm) (h : n_coat_film_behind k a0 a1 = some r) : VC Go.Proofs.Try.prog 94 [VV.ag [vi a0.Aging.Fresh.Lo, vi a0.Aging.Fresh.Hi, vi a0.Aging.Loss.Lo, vi a0.Aging.Loss.Hi, vi a0.Aging.Back.Lo, vi a0.Aging.Back.Hi, vi a0.Aging.Washes, vb a0.isOn, vi a0.washed, vi a0.since, vi a0.bright.Lo, vi a0.bright.Hi], VV.ag [vs a1.Mirror, vi a1.Day, vi a1.Kind]] (VV.ag [vi r.Aging.Fresh.Lo, vi r.Aging.Fresh.Hi, vi r.Aging.Loss.Lo, vi r.Aging.Loss.Hi, vi r.Aging.Back.Lo, vi r.Aging.Back.Hi, vi r.Aging.Washes, vb r.isOn, vi r.washed, vi r.since, vi r.bright.Lo, vi r.bright.Hi]) := by
  unfold n_coat_film_behind at h
  by_cases h285 : a1.Kind = 0
  · rw [if_pos h285] at h
    cases h287 : n_coat_film_put k (⟨(⟨(⟨a0.Aging.Fresh.Lo, a0.Aging.Fresh.Hi⟩ : SRange), (⟨a0.Aging.Loss.Lo, a0.Aging.Loss.Hi⟩ : SRange), (⟨a0.Aging.Back.Lo, a0.Aging.Back.Hi⟩ : SRange), a0.Aging.Washes⟩ : SAging), a0.isOn, a0.washed, a0.since, (⟨a0.bright.Lo, a0.bright.Hi⟩ : SRange)⟩ : Sfilm) a1.Day with
    | none => rw [h287] at h; cases h
    | some r286 =>
      rw [h287, Option.bind_some] at h
      injection h with h; subst h
      exact fun_ok pm pn Go.Proofs.Try.func94 (r0 := VV.ag [vi r286.Aging.Fresh.Lo, vi r286.Aging.Fresh.Hi, vi r286.Aging.Loss.Lo, vi r286.Aging.Loss.Hi, vi r286.Aging.Back.Lo, vi r286.Aging.Back.Hi, vi r286.Aging.Washes, vb r286.isOn, vi r286.washed, vi r286.since, vi r286.bright.Lo, vi r286.bright.Hi]) (ans := [.reg [.n, .n, .n], .reg [.n, .n], .reg [.n, .n], .br true, .reg [.n, .n, .n, .call (VV.ag [vi r286.Aging.Fresh.Lo, vi r286.Aging.Fresh.Hi, vi r286.Aging.Loss.Lo, vi r286.Aging.Loss.Hi, vi r286.Aging.Back.Lo, vi r286.Aging.Back.Hi, vi r286.Aging.Washes, vb r286.isOn, vi r286.washed, vi r286.since, vi r286.bright.Lo, vi r286.bright.Hi]), .n]]) (fr := true) (by kernel_rfl) (an (an (ti (ti (ti trivial))) (an (ti (ti trivial)) (an (ti (ti trivial)) (an (decide_eq_true h285) (an (ti (ti (ti (an (show VC Go.Proofs.Try.prog 119 [VV.ag [vi a0.Aging.Fresh.Lo, vi a0.Aging.Fresh.Hi, vi a0.Aging.Loss.Lo, vi a0.Aging.Loss.Hi, vi a0.Aging.Back.Lo, vi a0.Aging.Back.Hi, vi a0.Aging.Washes, vb a0.isOn, vi a0.washed, vi a0.since, vi a0.bright.Lo, vi a0.bright.Hi], vi a1.Day] (VV.ag [vi r286.Aging.Fresh.Lo, vi r286.Aging.Fresh.Hi, vi r286.Aging.Loss.Lo, vi r286.Aging.Loss.Hi, vi r286.Aging.Back.Lo, vi r286.Aging.Back.Hi, vi r286.Aging.Washes, vb r286.isOn, vi r286.washed, vi r286.since, vi r286.bright.Lo, vi r286.bright.Hi]) from (VC.args (n_coat_film_put_ok k (⟨(⟨(⟨a0.Aging.Fresh.Lo, a0.Aging.Fresh.Hi⟩ : SRange), (⟨a0.Aging.Loss.Lo, a0.Aging.Loss.Hi⟩ : SRange), (⟨a0.Aging.Back.Lo, a0.Aging.Back.Hi⟩ : SRange), a0.Aging.Washes⟩ : SAging), a0.isOn, a0.washed, a0.since, (⟨a0.bright.Lo, a0.bright.Hi⟩ : SRange)⟩ : Sfilm) a1.Day _ h287) (by first | rfl | simp only [drop0, unfr_vi, unfr_vb, unfr_vs, List.map_cons, List.map_nil, un_i, un_k, un_b, un_s, un_tr, un_fr, List.length_map, List.length_replicate, List.length_append, List.length_set, List.length_cons, List.length_nil, unfr_c_SAging, unfr_c_SRange, unfr_c_SCoatEvent, unfr_c_Sfilm]))) (ti trivial))))) trivial))))) (an (ti (ti (ti (ti (ti (ti (ti (ti (ti (ti (ti (ti (ti trivial))))))))))))) trivial)) (Wv.of_eq (by simp only [drop0, unfr_vi, unfr_vb, unfr_vs, List.map_cons, List.map_nil, un_i, un_k, un_b, un_s, un_tr, un_fr, List.length_map, List.length_replicate, List.length_append, List.length_set, List.length_cons, List.length_nil, unfr_c_SAging, unfr_c_SRange, unfr_c_SCoatEvent, unfr_c_Sfilm]))
  · rw [if_neg h285] at h
    by_cases h288 : a1.Kind = 1
    · rw [if_pos h288] at h
      cases h290 : n_coat_film_wash k (⟨(⟨(⟨a0.Aging.Fresh.Lo, a0.Aging.Fresh.Hi⟩ : SRange), (⟨a0.Aging.Loss.Lo, a0.Aging.Loss.Hi⟩ : SRange), (⟨a0.Aging.Back.Lo, a0.Aging.Back.Hi⟩ : SRange), a0.Aging.Washes⟩ : SAging), a0.isOn, a0.washed, a0.since, (⟨a0.bright.Lo, a0.bright.Hi⟩ : SRange)⟩ : Sfilm) a1.Day with
      | none => rw [h290] at h; cases h
      | some r289 =>
        rw [h290, Option.bind_some] at h
        injection h with h; subst h
        exact fun_ok pm pn Go.Proofs.Try.func94 (r0 := VV.ag [vi r289.Aging.Fresh.Lo, vi r289.Aging.Fresh.Hi, vi r289.Aging.Loss.Lo, vi r289.Aging.Loss.Hi, vi r289.Aging.Back.Lo, vi r289.Aging.Back.Hi, vi r289.Aging.Washes, vb r289.isOn, vi r289.washed, vi r289.since, vi r289.bright.Lo, vi r289.bright.Hi]) (ans := [.reg [.n, .n, .n], .reg [.n, .n], .reg [.n, .n], .br false, .reg [.n, .n], .br true, .reg [.n, .n, .n, .call (VV.ag [vi r289.Aging.Fresh.Lo, vi r289.Aging.Fresh.Hi, vi r289.Aging.Loss.Lo, vi r289.Aging.Loss.Hi, vi r289.Aging.Back.Lo, vi r289.Aging.Back.Hi, vi r289.Aging.Washes, vb r289.isOn, vi r289.washed, vi r289.since, vi r289.bright.Lo, vi r289.bright.Hi]), .n]]) (fr := true) (by kernel_rfl) (an (an (ti (ti (ti trivial))) (an (ti (ti trivial)) (an (ti (ti trivial)) (an (decide_eq_false h285) (an (ti (ti trivial)) (an (decide_eq_true h288) (an (ti (ti (ti (an (show VC Go.Proofs.Try.prog 120 [VV.ag [vi a0.Aging.Fresh.Lo, vi a0.Aging.Fresh.Hi, vi a0.Aging.Loss.Lo, vi a0.Aging.Loss.Hi, vi a0.Aging.Back.Lo, vi a0.Aging.Back.Hi, vi a0.Aging.Washes, vb a0.isOn, vi a0.washed, vi a0.since, vi a0.bright.Lo, vi a0.bright.Hi], vi a1.Day] (VV.ag [vi r289.Aging.Fresh.Lo, vi r289.Aging.Fresh.Hi, vi r289.Aging.Loss.Lo, vi r289.Aging.Loss.Hi, vi r289.Aging.Back.Lo, vi r289.Aging.Back.Hi, vi r289.Aging.Washes, vb r289.isOn, vi r289.washed, vi r289.since, vi r289.bright.Lo, vi r289.bright.Hi]) from (VC.args (n_coat_film_wash_ok k (⟨(⟨(⟨a0.Aging.Fresh.Lo, a0.Aging.Fresh.Hi⟩ : SRange), (⟨a0.Aging.Loss.Lo, a0.Aging.Loss.Hi⟩ : SRange), (⟨a0.Aging.Back.Lo, a0.Aging.Back.Hi⟩ : SRange), a0.Aging.Washes⟩ : SAging), a0.isOn, a0.washed, a0.since, (⟨a0.bright.Lo, a0.bright.Hi⟩ : SRange)⟩ : Sfilm) a1.Day _ h290) (by first | rfl | simp only [drop0, unfr_vi, unfr_vb, unfr_vs, List.map_cons, List.map_nil, un_i, un_k, un_b, un_s, un_tr, un_fr, List.length_map, List.length_replicate, List.length_append, List.length_set, List.length_cons, List.length_nil, unfr_c_SAging, unfr_c_SRange, unfr_c_SCoatEvent, unfr_c_Sfilm]))) (ti trivial))))) trivial))))))) (an (ti (ti (ti (ti (ti (ti (ti (ti (ti (ti (ti (ti (ti trivial))))))))))))) trivial)) (Wv.of_eq (by simp only [drop0, unfr_vi, unfr_vb, unfr_vs, List.map_cons, List.map_nil, un_i, un_k, un_b, un_s, un_tr, un_fr, List.length_map, List.length_replicate, List.length_append, List.length_set, List.length_cons, List.length_nil, unfr_c_SAging, unfr_c_SRange, unfr_c_SCoatEvent, unfr_c_Sfilm]))
    · rw [if_neg h288] at h
      cases h292 : n_coat_film_strip k (⟨(⟨(⟨a0.Aging.Fresh.Lo, a0.Aging.Fresh.Hi⟩ : SRange), (⟨a0.Aging.Loss.Lo, a0.Aging.Loss.Hi⟩ : SRange), (⟨a0.Aging.Back.Lo, a0.Aging.Back.Hi⟩ : SRange), a0.Aging.Washes⟩ : SAging), a0.isOn, a0.washed, a0.since, (⟨a0.bright.Lo, a0.bright.Hi⟩ : SRange)⟩ : Sfilm) with
      | none => rw [h292] at h; cases h
      | some r291 =>
        rw [h292, Option.bind_some] at h
        injection h with h; subst h
        exact fun_ok pm pn Go.Proofs.Try.func94 (r0 := VV.ag [vi r291.Aging.Fresh.Lo, vi r291.Aging.Fresh.Hi, vi r291.Aging.Loss.Lo, vi r291.Aging.Loss.Hi, vi r291.Aging.Back.Lo, vi r291.Aging.Back.Hi, vi r291.Aging.Washes, vb r291.isOn, vi r291.washed, vi r291.since, vi r291.bright.Lo, vi r291.bright.Hi]) (ans := [.reg [.n, .n, .n], .reg [.n, .n], .reg [.n, .n], .br false, .reg [.n, .n], .br false, .reg [.n, .call (VV.ag [vi r291.Aging.Fresh.Lo, vi r291.Aging.Fresh.Hi, vi r291.Aging.Loss.Lo, vi r291.Aging.Loss.Hi, vi r291.Aging.Back.Lo, vi r291.Aging.Back.Hi, vi r291.Aging.Washes, vb r291.isOn, vi r291.washed, vi r291.since, vi r291.bright.Lo, vi r291.bright.Hi]), .n]]) (fr := true) (by kernel_rfl) (an (an (ti (ti (ti trivial))) (an (an (ti (ti trivial)) (an (ti (ti trivial)) (an (decide_eq_false h285) (an (ti (ti trivial)) (an (decide_eq_false h288) trivial))))) (an (ti (an (show VC Go.Proofs.Try.prog 121 [VV.ag [vi a0.Aging.Fresh.Lo, vi a0.Aging.Fresh.Hi, vi a0.Aging.Loss.Lo, vi a0.Aging.Loss.Hi, vi a0.Aging.Back.Lo, vi a0.Aging.Back.Hi, vi a0.Aging.Washes, vb a0.isOn, vi a0.washed, vi a0.since, vi a0.bright.Lo, vi a0.bright.Hi]] (VV.ag [vi r291.Aging.Fresh.Lo, vi r291.Aging.Fresh.Hi, vi r291.Aging.Loss.Lo, vi r291.Aging.Loss.Hi, vi r291.Aging.Back.Lo, vi r291.Aging.Back.Hi, vi r291.Aging.Washes, vb r291.isOn, vi r291.washed, vi r291.since, vi r291.bright.Lo, vi r291.bright.Hi]) from (VC.args (n_coat_film_strip_ok k (⟨(⟨(⟨a0.Aging.Fresh.Lo, a0.Aging.Fresh.Hi⟩ : SRange), (⟨a0.Aging.Loss.Lo, a0.Aging.Loss.Hi⟩ : SRange), (⟨a0.Aging.Back.Lo, a0.Aging.Back.Hi⟩ : SRange), a0.Aging.Washes⟩ : SAging), a0.isOn, a0.washed, a0.since, (⟨a0.bright.Lo, a0.bright.Hi⟩ : SRange)⟩ : Sfilm) _ h292) (by first | rfl | simp only [drop0, unfr_vi, unfr_vb, unfr_vs, List.map_cons, List.map_nil, un_i, un_k, un_b, un_s, un_tr, un_fr, List.length_map, List.length_replicate, List.length_append, List.length_set, List.length_cons, List.length_nil, unfr_c_SAging, unfr_c_SRange, unfr_c_SCoatEvent, unfr_c_Sfilm]))) (ti trivial))) trivial))) (an (ti (ti (ti (ti (ti (ti (ti (ti (ti (ti (ti (ti (ti trivial))))))))))))) trivial)) (Wv.of_eq (by simp only [drop0, unfr_vi, unfr_vb, unfr_vs, List.map_cons, List.map_nil, un_i, un_k, un_b, un_s, un_tr, un_fr, List.length_map, List.length_replicate, List.length_append, List.length_set, List.length_cons, List.length_nil, unfr_c_SAging, unfr_c_SRange, unfr_c_SCoatEvent, unfr_c_Sfilm]))
def ncoat_CheckHistory_l0_0 (k : Nat) (a0 : SAging) (a1 : (List SCoatEvent)) : Nat → Int → Int → Int → Int → Int → Int → Int → Int → Int → Bool → Int → Int → Int → Option (Sum (Int × Int) Unit)
  | 0, _, _, _, _, _, _, _, _, _, _, _, _, _ => none
  | fuel + 1, b1_0, b1_1, b1_10, b1_11, b1_2, b1_3, b1_4, b1_5, b1_6, b1_7, b1_8, b1_9, x23 => if x23 < (a1.length : Int) then (if 0 ≤ x23 ∧ x23 < (a1.length : Int) then (if 0 ≤ (0 : Int) ∧ (0 : Int) ≤ x23 ∧ x23 ≤ (a1.length : Int) then ((ncoat_checkBehind k (sl a1 0 ((x23).toNat)) (⟨(⟨(⟨b1_0, b1_1⟩ : SRange), (⟨b1_2, b1_3⟩ : SRange), (⟨b1_4, b1_5⟩ : SRange), b1_6⟩ : SAging), b1_7, b1_8, b1_9, (⟨b1_10, b1_11⟩ : SRange)⟩ : Sfilm) (⟨(a1.getD x23.toNat default).Mirror, (a1.getD x23.toNat default).Day, (a1.getD x23.toNat default).Kind⟩ : SCoatEvent)).bind fun r338 => (if r338 = 0 then ((n_coat_film_behind k (⟨(⟨(⟨b1_0, b1_1⟩ : SRange), (⟨b1_2, b1_3⟩ : SRange), (⟨b1_4, b1_5⟩ : SRange), b1_6⟩ : SAging), b1_7, b1_8, b1_9, (⟨b1_10, b1_11⟩ : SRange)⟩ : Sfilm) (⟨(a1.getD x23.toNat default).Mirror, (a1.getD x23.toNat default).Day, (a1.getD x23.toNat default).Kind⟩ : SCoatEvent)).bind fun r341 => (ncoat_CheckHistory_l0_0 k a0 a1 fuel r341.Aging.Fresh.Lo r341.Aging.Fresh.Hi r341.bright.Lo r341.bright.Hi r341.Aging.Loss.Lo r341.Aging.Loss.Hi r341.Aging.Back.Lo r341.Aging.Back.Hi r341.Aging.Washes r341.isOn r341.washed r341.since (w64 (x23 + 1)))) else (some (.inl (x23, r338))))) else none) else none) else (some (.inr ()))
set_option maxRecDepth 100000 in
set_option maxHeartbeats 4000000 in
theorem ncoat_CheckHistory_l0_0_ok (k : Nat) (a0 : SAging) (a1 : (List SCoatEvent)) : ∀ (fuel : Nat) (b1_0 : Int) (b1_1 : Int) (b1_10 : Int) (b1_11 : Int) (b1_2 : Int) (b1_3 : Int) (b1_4 : Int) (b1_5 : Int) (b1_6 : Int) (b1_7 : Bool) (b1_8 : Int) (b1_9 : Int) (x23 : Int) (r : Sum (Int × Int) Unit), ncoat_CheckHistory_l0_0 k a0 a1 fuel b1_0 b1_1 b1_10 b1_11 b1_2 b1_3 b1_4 b1_5 b1_6 b1_7 b1_8 b1_9 x23 = some r → (match r with | .inl r => VLoop none Go.Proofs.Try.prog (szF Go.Proofs.Try.f57) (bodyOf Go.Proofs.Try.f57 0) ⟨mkA [(1, VV.tr (List.flatMap c_SCoatEvent a1) a1.length), (7, VV.pt 1 0), (21, VV.tr (List.flatMap c_SCoatEvent a1) a1.length), (22, vi (a1.length : Int)), (23, vi x23)], [some ⟨true, 1, [vi a0.Fresh.Lo, vi a0.Fresh.Hi, vi a0.Loss.Lo, vi a0.Loss.Hi, vi a0.Back.Lo, vi a0.Back.Hi, vi a0.Washes]⟩, some ⟨true, 1, [vi b1_0, vi b1_1, vi b1_2, vi b1_3, vi b1_4, vi b1_5, vi b1_6, vb b1_7, vi b1_8, vi b1_9, vi b1_10, vi b1_11]⟩], .nil⟩ .ret ⟨mkA [(4, vi r.1), (5, vi r.2)], [], .nil⟩ | .inr r => VLoop none Go.Proofs.Try.prog (szF Go.Proofs.Try.f57) (bodyOf Go.Proofs.Try.f57 0) ⟨mkA [(1, VV.tr (List.flatMap c_SCoatEvent a1) a1.length), (7, VV.pt 1 0), (21, VV.tr (List.flatMap c_SCoatEvent a1) a1.length), (22, vi (a1.length : Int)), (23, vi x23)], [some ⟨true, 1, [vi a0.Fresh.Lo, vi a0.Fresh.Hi, vi a0.Loss.Lo, vi a0.Loss.Hi, vi a0.Back.Lo, vi a0.Back.Hi, vi a0.Washes]⟩, some ⟨true, 1, [vi b1_0, vi b1_1, vi b1_2, vi b1_3, vi b1_4, vi b1_5, vi b1_6, vb b1_7, vi b1_8, vi b1_9, vi b1_10, vi b1_11]⟩], .nil⟩ (.exit 0) ⟨mkA [], [], .nil⟩) := by
  intro fuel
  induction fuel with
  | zero => intro b1_0 b1_1 b1_10 b1_11 b1_2 b1_3 b1_4 b1_5 b1_6 b1_7 b1_8 b1_9 x23 r h; rw [ncoat_CheckHistory_l0_0.eq_1] at h; cases h
  | succ fuel ih =>
    intro b1_0 b1_1 b1_10 b1_11 b1_2 b1_3 b1_4 b1_5 b1_6 b1_7 b1_8 b1_9 x23 r h
    rw [ncoat_CheckHistory_l0_0.eq_2] at h
    by_cases h335 : x23 < (a1.length : Int)
    · rw [if_pos h335] at h
      by_cases h336 : 0 ≤ x23 ∧ x23 < (a1.length : Int)
      · rw [if_pos h336] at h
        by_cases h337 : 0 ≤ (0 : Int) ∧ (0 : Int) ≤ x23 ∧ x23 ≤ (a1.length : Int)
        · rw [if_pos h337] at h
          cases h339 : ncoat_checkBehind k (sl a1 0 ((x23).toNat)) (⟨(⟨(⟨b1_0, b1_1⟩ : SRange), (⟨b1_2, b1_3⟩ : SRange), (⟨b1_4, b1_5⟩ : SRange), b1_6⟩ : SAging), b1_7, b1_8, b1_9, (⟨b1_10, b1_11⟩ : SRange)⟩ : Sfilm) (⟨(a1.getD x23.toNat default).Mirror, (a1.getD x23.toNat default).Day, (a1.getD x23.toNat default).Kind⟩ : SCoatEvent) with
          | none => rw [h339] at h; cases h
          | some r338 =>
            rw [h339, Option.bind_some] at h
            by_cases h340 : r338 = 0
            · rw [if_pos h340] at h
              cases h342 : n_coat_film_behind k (⟨(⟨(⟨b1_0, b1_1⟩ : SRange), (⟨b1_2, b1_3⟩ : SRange), (⟨b1_4, b1_5⟩ : SRange), b1_6⟩ : SAging), b1_7, b1_8, b1_9, (⟨b1_10, b1_11⟩ : SRange)⟩ : Sfilm) (⟨(a1.getD x23.toNat default).Mirror, (a1.getD x23.toNat default).Day, (a1.getD x23.toNat default).Kind⟩ : SCoatEvent) with
              | none => rw [h342] at h; cases h
              | some r341 =>
                rw [h342, Option.bind_some] at h
                have h2 := ih _ _ _ _ _ _ _ _ _ _ _ _ _ _ h
                obtain ⟨q, hv, hq⟩ := pkR (rd := none) (P := Go.Proofs.Try.prog) (fn := Go.Proofs.Try.f57) (k := 0) (s := ⟨mkA [(1, VV.tr (List.flatMap c_SCoatEvent a1) a1.length), (7, VV.pt 1 0), (21, VV.tr (List.flatMap c_SCoatEvent a1) a1.length), (22, vi (a1.length : Int)), (23, vi x23)], [some ⟨true, 1, [vi a0.Fresh.Lo, vi a0.Fresh.Hi, vi a0.Loss.Lo, vi a0.Loss.Hi, vi a0.Back.Lo, vi a0.Back.Hi, vi a0.Washes]⟩, some ⟨true, 1, [vi b1_0, vi b1_1, vi b1_2, vi b1_3, vi b1_4, vi b1_5, vi b1_6, vb b1_7, vi b1_8, vi b1_9, vi b1_10, vi b1_11]⟩], .nil⟩) (ans := [.reg [.n], .br true, .reg [.n, .n, .v (VV.ag [vs ((a1.getD x23.toNat default).Mirror), vi ((a1.getD x23.toNat default).Day), vi ((a1.getD x23.toNat default).Kind)]), .n, .n, .n], .reg [.n, .n, .v (VV.tr (List.flatMap c_SCoatEvent (sl a1 0 ((x23).toNat))) ((sl a1 0 ((x23).toNat)).length)), .n, .n, .call (vi r338), .n], .reg [.n, .n], .br false, .reg [.n, .n, .call (VV.ag [vi r341.Aging.Fresh.Lo, vi r341.Aging.Fresh.Hi, vi r341.Aging.Loss.Lo, vi r341.Aging.Loss.Hi, vi r341.Aging.Back.Lo, vi r341.Aging.Back.Hi, vi r341.Aging.Washes, vb r341.isOn, vi r341.washed, vi r341.since, vi r341.bright.Lo, vi r341.bright.Hi]), .n], .reg [.n, .n]]) (c := ⟨[(1, none), (7, none), (21, none), (22, none), (23, none)], [none, none], []⟩) (e := .normal) (s1 := ⟨mkA [(1, VV.tr (List.flatMap c_SCoatEvent a1) a1.length), (7, VV.pt 1 0), (21, VV.tr (List.flatMap c_SCoatEvent a1) a1.length), (22, vi (a1.length : Int)), (23, vi (w64 (x23 + 1)))], [some ⟨true, 1, [vi a0.Fresh.Lo, vi a0.Fresh.Hi, vi a0.Loss.Lo, vi a0.Loss.Hi, vi a0.Back.Lo, vi a0.Back.Hi, vi a0.Washes]⟩, some ⟨true, 1, [vi r341.Aging.Fresh.Lo, vi r341.Aging.Fresh.Hi, vi r341.Aging.Loss.Lo, vi r341.Aging.Loss.Hi, vi r341.Aging.Back.Lo, vi r341.Aging.Back.Hi, vi r341.Aging.Washes, vb r341.isOn, vi r341.washed, vi r341.since, vi r341.bright.Lo, vi r341.bright.Hi]⟩], .nil⟩) (an (an (ti trivial) (an (an (decide_eq_true h335) trivial) (an (an (ti (an h336 (an (show loadL Go.Proofs.Try.prog 103 (x23.toNat * 3) (List.flatMap c_SCoatEvent a1) = some (VV.ag [vs ((a1.getD x23.toNat default).Mirror), vi ((a1.getD x23.toNat default).Day), vi ((a1.getD x23.toNat default).Kind)]) from ld_whole ag103 c_SCoatEvent 3 sz103 len_c_SCoatEvent a1 default h336 (by omega)) (ti (ti (ti trivial)))))) (an (an (ti (ti (an (show (True ∧ 0 ≤ x23 ∧ 0 ≤ (x23).toNat ∧ (x23).toNat ≤ a1.length ∧ (x23).toNat * 3 ≤ List.length (List.flatMap c_SCoatEvent a1)) ∧ VV.tr (List.take (((x23).toNat - 0) * 3) (List.drop (0 * 3) (List.flatMap c_SCoatEvent a1))) ((x23).toNat - 0) = VV.tr (List.flatMap c_SCoatEvent (sl a1 0 ((x23).toNat))) ((sl a1 0 ((x23).toNat)).length) from ⟨⟨trivial, (by have := h337; omega), (by have := h337; omega), (by have := h337; omega), (by rw [flatMap_len len_c_SCoatEvent]; have := h337; omega)⟩, (by exact sl_flat len_c_SCoatEvent a1 0 ((x23).toNat) (by have := h337; omega) (by have := h337; omega))⟩) (ti (ti (an (show VC Go.Proofs.Try.prog 93 [VV.tr (List.flatMap c_SCoatEvent (sl a1 0 ((x23).toNat))) ((sl a1 0 ((x23).toNat)).length), VV.ag [vi b1_0, vi b1_1, vi b1_2, vi b1_3, vi b1_4, vi b1_5, vi b1_6, vb b1_7, vi b1_8, vi b1_9, vi b1_10, vi b1_11], VV.ag [vs ((a1.getD x23.toNat default).Mirror), vi ((a1.getD x23.toNat default).Day), vi ((a1.getD x23.toNat default).Kind)]] (vi r338) from (VC.args (ncoat_checkBehind_ok k (sl a1 0 ((x23).toNat)) (⟨(⟨(⟨b1_0, b1_1⟩ : SRange), (⟨b1_2, b1_3⟩ : SRange), (⟨b1_4, b1_5⟩ : SRange), b1_6⟩ : SAging), b1_7, b1_8, b1_9, (⟨b1_10, b1_11⟩ : SRange)⟩ : Sfilm) (⟨(a1.getD x23.toNat default).Mirror, (a1.getD x23.toNat default).Day, (a1.getD x23.toNat default).Kind⟩ : SCoatEvent) _ h339) (by first | rfl | simp only [drop0, unfr_vi, unfr_vb, unfr_vs, List.map_cons, List.map_nil, un_i, un_k, un_b, un_s, un_tr, un_fr, List.length_map, List.length_replicate, List.length_append, List.length_set, List.length_cons, List.length_nil, unfr_c_SAging, unfr_c_SRange, unfr_c_SCoatEvent, unfr_c_Sfilm]))) (ti trivial))))))) (an (ti (ti trivial)) (an (not_f (decide_eq_true h340)) trivial))) (ti (ti (an (show VC Go.Proofs.Try.prog 94 [VV.ag [vi b1_0, vi b1_1, vi b1_2, vi b1_3, vi b1_4, vi b1_5, vi b1_6, vb b1_7, vi b1_8, vi b1_9, vi b1_10, vi b1_11], VV.ag [vs ((a1.getD x23.toNat default).Mirror), vi ((a1.getD x23.toNat default).Day), vi ((a1.getD x23.toNat default).Kind)]] (VV.ag [vi r341.Aging.Fresh.Lo, vi r341.Aging.Fresh.Hi, vi r341.Aging.Loss.Lo, vi r341.Aging.Loss.Hi, vi r341.Aging.Back.Lo, vi r341.Aging.Back.Hi, vi r341.Aging.Washes, vb r341.isOn, vi r341.washed, vi r341.since, vi r341.bright.Lo, vi r341.bright.Hi]) from (VC.args (n_coat_film_behind_ok k (⟨(⟨(⟨b1_0, b1_1⟩ : SRange), (⟨b1_2, b1_3⟩ : SRange), (⟨b1_4, b1_5⟩ : SRange), b1_6⟩ : SAging), b1_7, b1_8, b1_9, (⟨b1_10, b1_11⟩ : SRange)⟩ : Sfilm) (⟨(a1.getD x23.toNat default).Mirror, (a1.getD x23.toNat default).Day, (a1.getD x23.toNat default).Kind⟩ : SCoatEvent) _ h342) (by first | rfl | simp only [drop0, unfr_vi, unfr_vb, unfr_vs, List.map_cons, List.map_nil, un_i, un_k, un_b, un_s, un_tr, un_fr, List.length_map, List.length_replicate, List.length_append, List.length_set, List.length_cons, List.length_nil, unfr_c_SAging, unfr_c_SRange, unfr_c_SCoatEvent, unfr_c_Sfilm]))) (ti trivial)))))) (ti (ti trivial))))) (ti trivial)) (by kernel_rfl)
                cases r with
                | inl r => exact round_next pm pn hv hq h2
                | inr r =>
                  exact round_next pm pn hv hq h2
            · rw [if_neg h340] at h
              injection h with h; subst h
              exact round_stop (c := ⟨[(4, none), (5, none)], [], []⟩) (s1 := ⟨mkA [(4, vi x23), (5, vi r338)], [], .nil⟩) pm pn (ans := [.reg [.n], .br true, .reg [.n, .n, .v (VV.ag [vs ((a1.getD x23.toNat default).Mirror), vi ((a1.getD x23.toNat default).Day), vi ((a1.getD x23.toNat default).Kind)]), .n, .n, .n], .reg [.n, .n, .v (VV.tr (List.flatMap c_SCoatEvent (sl a1 0 ((x23).toNat))) ((sl a1 0 ((x23).toNat)).length)), .n, .n, .call (vi r338), .n], .reg [.n, .n], .br true, .reg [.n, .n, .n, .n]]) (by kernel_rfl) (by intro e; cases e) (an (an (ti trivial) (an (an (decide_eq_true h335) trivial) (an (ti (an h336 (an (show loadL Go.Proofs.Try.prog 103 (x23.toNat * 3) (List.flatMap c_SCoatEvent a1) = some (VV.ag [vs ((a1.getD x23.toNat default).Mirror), vi ((a1.getD x23.toNat default).Day), vi ((a1.getD x23.toNat default).Kind)]) from ld_whole ag103 c_SCoatEvent 3 sz103 len_c_SCoatEvent a1 default h336 (by omega)) (ti (ti (ti trivial)))))) (an (ti (ti (an (show (True ∧ 0 ≤ x23 ∧ 0 ≤ (x23).toNat ∧ (x23).toNat ≤ a1.length ∧ (x23).toNat * 3 ≤ List.length (List.flatMap c_SCoatEvent a1)) ∧ VV.tr (List.take (((x23).toNat - 0) * 3) (List.drop (0 * 3) (List.flatMap c_SCoatEvent a1))) ((x23).toNat - 0) = VV.tr (List.flatMap c_SCoatEvent (sl a1 0 ((x23).toNat))) ((sl a1 0 ((x23).toNat)).length) from ⟨⟨trivial, (by have := h337; omega), (by have := h337; omega), (by have := h337; omega), (by rw [flatMap_len len_c_SCoatEvent]; have := h337; omega)⟩, (by exact sl_flat len_c_SCoatEvent a1 0 ((x23).toNat) (by have := h337; omega) (by have := h337; omega))⟩) (ti (ti (an (show VC Go.Proofs.Try.prog 93 [VV.tr (List.flatMap c_SCoatEvent (sl a1 0 ((x23).toNat))) ((sl a1 0 ((x23).toNat)).length), VV.ag [vi b1_0, vi b1_1, vi b1_2, vi b1_3, vi b1_4, vi b1_5, vi b1_6, vb b1_7, vi b1_8, vi b1_9, vi b1_10, vi b1_11], VV.ag [vs ((a1.getD x23.toNat default).Mirror), vi ((a1.getD x23.toNat default).Day), vi ((a1.getD x23.toNat default).Kind)]] (vi r338) from (VC.args (ncoat_checkBehind_ok k (sl a1 0 ((x23).toNat)) (⟨(⟨(⟨b1_0, b1_1⟩ : SRange), (⟨b1_2, b1_3⟩ : SRange), (⟨b1_4, b1_5⟩ : SRange), b1_6⟩ : SAging), b1_7, b1_8, b1_9, (⟨b1_10, b1_11⟩ : SRange)⟩ : Sfilm) (⟨(a1.getD x23.toNat default).Mirror, (a1.getD x23.toNat default).Day, (a1.getD x23.toNat default).Kind⟩ : SCoatEvent) _ h339) (by first | rfl | simp only [drop0, unfr_vi, unfr_vb, unfr_vs, List.map_cons, List.map_nil, un_i, un_k, un_b, un_s, un_tr, un_fr, List.length_map, List.length_replicate, List.length_append, List.length_set, List.length_cons, List.length_nil, unfr_c_SAging, unfr_c_SRange, unfr_c_SCoatEvent, unfr_c_Sfilm]))) (ti trivial))))))) (an (ti (ti trivial)) (an (not_t (decide_eq_false h340)) (an (ti (ti (ti (ti trivial)))) trivial))))))) (ti trivial))
        · rw [if_neg h337] at h; cases h
      · rw [if_neg h336] at h; cases h
    · rw [if_neg h335] at h
      injection h with h; subst h
      exact round_stop (c := ⟨[], [], []⟩) (s1 := ⟨mkA [], [], .nil⟩) pm pn (ans := [.reg [.n], .br false]) (by kernel_rfl) (by intro e; cases e) (an (an (ti trivial) (an (decide_eq_false h335) trivial)) (ti trivial))
def ncoat_CheckHistory (k : Nat) (a0 : SAging) (a1 : (List SCoatEvent)) : Option (Int × Int) :=
  (ncoat_CheckAging k (⟨(⟨a0.Fresh.Lo, a0.Fresh.Hi⟩ : SRange), (⟨a0.Loss.Lo, a0.Loss.Hi⟩ : SRange), (⟨a0.Back.Lo, a0.Back.Hi⟩ : SRange), a0.Washes⟩ : SAging)).bind fun r315 => (if r315 = 0 then (if 40 < (a1.length : Int) then (some (0, 8)) else ((ncoat_CheckHistory_l0_0 k a0 a1 k a0.Fresh.Lo a0.Fresh.Hi 0 0 a0.Loss.Lo a0.Loss.Hi a0.Back.Lo a0.Back.Hi a0.Washes false 0 0 0).bind fun r344 => (match r344 with | .inl r345 => (some (r345.1, r345.2)) | .inr r346 => (some (0, 0))))) else (some (0, r315)))
set_option maxRecDepth 100000 in
set_option maxHeartbeats 4000000 in
theorem ncoat_CheckHistory_ok (k : Nat) (a0 : SAging) (a1 : (List SCoatEvent)) (r : (Int × Int)) (h : ncoat_CheckHistory k a0 a1 = some r) : VC Go.Proofs.Try.prog 57 [VV.ag [vi a0.Fresh.Lo, vi a0.Fresh.Hi, vi a0.Loss.Lo, vi a0.Loss.Hi, vi a0.Back.Lo, vi a0.Back.Hi, vi a0.Washes], VV.tr (List.flatMap c_SCoatEvent a1) a1.length] (VV.tu [vi r.1, vi r.2]) := by
  unfold ncoat_CheckHistory at h
  cases h316 : ncoat_CheckAging k (⟨(⟨a0.Fresh.Lo, a0.Fresh.Hi⟩ : SRange), (⟨a0.Loss.Lo, a0.Loss.Hi⟩ : SRange), (⟨a0.Back.Lo, a0.Back.Hi⟩ : SRange), a0.Washes⟩ : SAging) with
  | none => rw [h316] at h; cases h
  | some r315 =>
    rw [h316, Option.bind_some] at h
    by_cases h317 : r315 = 0
    · rw [if_pos h317] at h
      by_cases h318 : 40 < (a1.length : Int)
      · rw [if_pos h318] at h
        injection h with h; subst h
        exact fun_ok pm pn Go.Proofs.Try.func57 (r0 := VV.tu [vi 0, vi 8]) (ans := [.reg [.n, .n, .n], .reg [.n, .call (vi r315), .n], .reg [.n, .n], .br false, .reg [.n, .n, .n], .br true, .reg [.n, .n]]) (fr := true) (by kernel_rfl) (an (an (ti (ti (ti trivial))) (an (an (ti (an (show VC Go.Proofs.Try.prog 60 [VV.ag [vi a0.Fresh.Lo, vi a0.Fresh.Hi, vi a0.Loss.Lo, vi a0.Loss.Hi, vi a0.Back.Lo, vi a0.Back.Hi, vi a0.Washes]] (vi r315) from (VC.args (ncoat_CheckAging_ok k (⟨(⟨a0.Fresh.Lo, a0.Fresh.Hi⟩ : SRange), (⟨a0.Loss.Lo, a0.Loss.Hi⟩ : SRange), (⟨a0.Back.Lo, a0.Back.Hi⟩ : SRange), a0.Washes⟩ : SAging) _ h316) (by first | rfl | simp only [drop0, unfr_vi, unfr_vb, unfr_vs, List.map_cons, List.map_nil, un_i, un_k, un_b, un_s, un_tr, un_fr, List.length_map, List.length_replicate, List.length_append, List.length_set, List.length_cons, List.length_nil, unfr_c_SAging, unfr_c_SRange, unfr_c_SCoatEvent, unfr_c_Sfilm]))) (ti trivial))) (an (ti (ti trivial)) (an (not_f (decide_eq_true h317)) trivial))) (an (ti (ti (ti trivial))) (an (decide_eq_true h318) (an (ti (ti trivial)) trivial))))) (ti (ti trivial))) (Wv.refl _)
      · rw [if_neg h318] at h
        cases h343 : ncoat_CheckHistory_l0_0 k a0 a1 k a0.Fresh.Lo a0.Fresh.Hi 0 0 a0.Loss.Lo a0.Loss.Hi a0.Back.Lo a0.Back.Hi a0.Washes false 0 0 0 with
        | none => rw [h343] at h; cases h
        | some r344 =>
          rw [h343, Option.bind_some] at h
          have hph343 := ncoat_CheckHistory_l0_0_ok k a0 a1 _ _ _ _ _ _ _ _ _ _ _ _ _ _ _ h343
          cases r344 with
          | inl r345 =>
            dsimp only at h
            injection h with h; subst h
            exact fun_ok pm pn Go.Proofs.Try.func57 (r0 := VV.tu [vi r345.1, vi r345.2]) (ans := [.reg [.n, .n, .n], .reg [.n, .call (vi r315), .n], .reg [.n, .n], .br false, .reg [.n, .n, .n], .br false, .reg [.n, .n, .n, .n], .reg [.n, .n, .n], .sub ⟨[(1, none), (7, none), (21, none), (22, none), (23, none)], [none, none], []⟩ .ret ⟨mkA [(4, vi r345.1), (5, vi r345.2)], [], .nil⟩]) (fr := true) (by kernel_rfl) (an (an (ti (ti (ti trivial))) (an (an (ti (an (show VC Go.Proofs.Try.prog 60 [VV.ag [vi a0.Fresh.Lo, vi a0.Fresh.Hi, vi a0.Loss.Lo, vi a0.Loss.Hi, vi a0.Back.Lo, vi a0.Back.Hi, vi a0.Washes]] (vi r315) from (VC.args (ncoat_CheckAging_ok k (⟨(⟨a0.Fresh.Lo, a0.Fresh.Hi⟩ : SRange), (⟨a0.Loss.Lo, a0.Loss.Hi⟩ : SRange), (⟨a0.Back.Lo, a0.Back.Hi⟩ : SRange), a0.Washes⟩ : SAging) _ h316) (by first | rfl | simp only [drop0, unfr_vi, unfr_vb, unfr_vs, List.map_cons, List.map_nil, un_i, un_k, un_b, un_s, un_tr, un_fr, List.length_map, List.length_replicate, List.length_append, List.length_set, List.length_cons, List.length_nil, unfr_c_SAging, unfr_c_SRange, unfr_c_SCoatEvent, unfr_c_Sfilm]))) (ti trivial))) (an (ti (ti trivial)) (an (not_f (decide_eq_true h317)) trivial))) (an (an (ti (ti (ti trivial))) (an (decide_eq_false h318) trivial)) (an (ti (ti (ti (ti trivial)))) (an (ti (ti (ti trivial))) (an (ti trivial) (VRun.loop hph343))))))) (ti (ti trivial))) (Wv.refl _)
          | inr r346 =>
            dsimp only at h
            injection h with h; subst h
            exact fun_ok pm pn Go.Proofs.Try.func57 (r0 := VV.tu [vi 0, vi 0]) (ans := [.reg [.n, .n, .n], .reg [.n, .call (vi r315), .n], .reg [.n, .n], .br false, .reg [.n, .n, .n], .br false, .reg [.n, .n, .n, .n], .reg [.n, .n, .n], .sub ⟨[(1, none), (7, none), (21, none), (22, none), (23, none)], [none, none], []⟩ (.exit 0) ⟨mkA [], [], .nil⟩, .reg [.n, .n]]) (fr := true) (by kernel_rfl) (an (an (ti (ti (ti trivial))) (an (an (ti (an (show VC Go.Proofs.Try.prog 60 [VV.ag [vi a0.Fresh.Lo, vi a0.Fresh.Hi, vi a0.Loss.Lo, vi a0.Loss.Hi, vi a0.Back.Lo, vi a0.Back.Hi, vi a0.Washes]] (vi r315) from (VC.args (ncoat_CheckAging_ok k (⟨(⟨a0.Fresh.Lo, a0.Fresh.Hi⟩ : SRange), (⟨a0.Loss.Lo, a0.Loss.Hi⟩ : SRange), (⟨a0.Back.Lo, a0.Back.Hi⟩ : SRange), a0.Washes⟩ : SAging) _ h316) (by first | rfl | simp only [drop0, unfr_vi, unfr_vb, unfr_vs, List.map_cons, List.map_nil, un_i, un_k, un_b, un_s, un_tr, un_fr, List.length_map, List.length_replicate, List.length_append, List.length_set, List.length_cons, List.length_nil, unfr_c_SAging, unfr_c_SRange, unfr_c_SCoatEvent, unfr_c_Sfilm]))) (ti trivial))) (an (ti (ti trivial)) (an (not_f (decide_eq_true h317)) trivial))) (an (an (ti (ti (ti trivial))) (an (decide_eq_false h318) trivial)) (an (ti (ti (ti (ti trivial)))) (an (an (ti (ti (ti trivial))) (an (ti trivial) (VRun.loop hph343))) (an (ti (ti trivial)) trivial)))))) (ti (ti trivial))) (Wv.refl _)
    · rw [if_neg h317] at h
      injection h with h; subst h
      exact fun_ok pm pn Go.Proofs.Try.func57 (r0 := VV.tu [vi 0, vi r315]) (ans := [.reg [.n, .n, .n], .reg [.n, .call (vi r315), .n], .reg [.n, .n], .br true, .reg [.n, .n, .n]]) (fr := true) (by kernel_rfl) (an (an (ti (ti (ti trivial))) (an (ti (an (show VC Go.Proofs.Try.prog 60 [VV.ag [vi a0.Fresh.Lo, vi a0.Fresh.Hi, vi a0.Loss.Lo, vi a0.Loss.Hi, vi a0.Back.Lo, vi a0.Back.Hi, vi a0.Washes]] (vi r315) from (VC.args (ncoat_CheckAging_ok k (⟨(⟨a0.Fresh.Lo, a0.Fresh.Hi⟩ : SRange), (⟨a0.Loss.Lo, a0.Loss.Hi⟩ : SRange), (⟨a0.Back.Lo, a0.Back.Hi⟩ : SRange), a0.Washes⟩ : SAging) _ h316) (by first | rfl | simp only [drop0, unfr_vi, unfr_vb, unfr_vs, List.map_cons, List.map_nil, un_i, un_k, un_b, un_s, un_tr, un_fr, List.length_map, List.length_replicate, List.length_append, List.length_set, List.length_cons, List.length_nil, unfr_c_SAging, unfr_c_SRange, unfr_c_SCoatEvent, unfr_c_Sfilm]))) (ti trivial))) (an (ti (ti trivial)) (an (not_t (decide_eq_false h317)) (an (ti (ti (ti trivial))) trivial))))) (ti (ti trivial))) (Wv.refl _)
end Go.Proofs.Ytpnlkhmnhjcgkaa.Vg

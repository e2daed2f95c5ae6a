/- Written by a program out of the program: what Go functions do, as plain functions, and their contracts. -/
import Derived.Test.YtpnlkhmnhjcgkaaVw
namespace Go.Proofs.Ytpnlkhmnhjcgkaa.Vg
set_option linter.unusedVariables false
set_option linter.unusedSimpArgs false
open Go Go.Proofs.Ytpnlkhmnhjcgkaa.Ev Go.Proofs.Ytpnlkhmnhjcgkaa.Vv
structure SRange where
  Lo : Int
  Hi : Int
  deriving Inhabited
def c_SRange (x : SRange) : List VV := [vi x.Lo, vi x.Hi]
theorem len_c_SRange (x : SRange) : (c_SRange x).length = 2 := rfl
theorem still_c_SRange (xs : List SRange) : (xs.flatMap c_SRange).all VV.still = true := all_flat (fun _ => rfl) xs
theorem isC_c_SRange (xs : List SRange) : (xs.flatMap c_SRange).all VV.isC = true := all_flat (fun _ => rfl) xs
theorem new0_c_SRange (xs : List SRange) : (xs.flatMap c_SRange).all new0 = true := all_flat (fun _ => rfl) xs
theorem unfr_c_SRange (xs : List SRange) : (xs.flatMap c_SRange).map unfr = xs.flatMap c_SRange := unfr_flat (fun _ => rfl) xs
structure SMaterial where
  Name : ByteArray
  PerCount : SRange
  deriving Inhabited
def c_SMaterial (x : SMaterial) : List VV := [vs x.Name, vi x.PerCount.Lo, vi x.PerCount.Hi]
theorem len_c_SMaterial (x : SMaterial) : (c_SMaterial x).length = 3 := rfl
theorem still_c_SMaterial (xs : List SMaterial) : (xs.flatMap c_SMaterial).all VV.still = true := all_flat (fun _ => rfl) xs
theorem isC_c_SMaterial (xs : List SMaterial) : (xs.flatMap c_SMaterial).all VV.isC = true := all_flat (fun _ => rfl) xs
theorem new0_c_SMaterial (xs : List SMaterial) : (xs.flatMap c_SMaterial).all new0 = true := all_flat (fun _ => rfl) xs
theorem unfr_c_SMaterial (xs : List SMaterial) : (xs.flatMap c_SMaterial).map unfr = xs.flatMap c_SMaterial := unfr_flat (fun _ => rfl) xs
structure A44 where
  e0 : Int
  e1 : Int
  deriving Inhabited
def c_A44 (x : A44) : List VV := [vi x.e0, vi x.e1]
theorem len_c_A44 (x : A44) : (c_A44 x).length = 2 := rfl
theorem still_c_A44 (xs : List A44) : (xs.flatMap c_A44).all VV.still = true := all_flat (fun _ => rfl) xs
theorem isC_c_A44 (xs : List A44) : (xs.flatMap c_A44).all VV.isC = true := all_flat (fun _ => rfl) xs
theorem new0_c_A44 (xs : List A44) : (xs.flatMap c_A44).all new0 = true := all_flat (fun _ => rfl) xs
theorem unfr_c_A44 (xs : List A44) : (xs.flatMap c_A44).map unfr = xs.flatMap c_A44 := unfr_flat (fun _ => rfl) xs
theorem ag3 : isAggT Go.Proofs.Try.prog 3 = some false := by kernel_rfl
theorem ag9 : isAggT Go.Proofs.Try.prog 9 = some false := by kernel_rfl
theorem ag28 : isAggT Go.Proofs.Try.prog 28 = some true := by kernel_rfl
theorem sz28 : szOf Go.Proofs.Try.prog 28 = some 2 := by kernel_rfl
theorem ag54 : isAggT Go.Proofs.Try.prog 54 = some true := by kernel_rfl
theorem sz54 : szOf Go.Proofs.Try.prog 54 = some 3 := by kernel_rfl
def nspeculumlaw08_short_l0_0 (k : Nat) (a0 : (List SMaterial)) : Nat → Int → Option (Sum Unit Unit)
  | 0, _ => none
  | fuel + 1, x3 => if x3 < (a0.length : Int) then (if 0 ≤ x3 ∧ x3 < (a0.length : Int) then (if 20 < (((a0.getD x3.toNat default).Name).size : Int) then (some (.inl ())) else (nspeculumlaw08_short_l0_0 k a0 fuel (w64 (x3 + 1)))) else none) else (some (.inr ()))
set_option maxRecDepth 100000 in
set_option maxHeartbeats 4000000 in
theorem nspeculumlaw08_short_l0_0_ok (k : Nat) (a0 : (List SMaterial)) : ∀ (fuel : Nat) (x3 : Int) (r : Sum Unit Unit), nspeculumlaw08_short_l0_0 k a0 fuel x3 = some r → (match r with | .inl r => VLoop none Go.Proofs.Try.prog (szF Go.Proofs.Try.f19) (bodyOf Go.Proofs.Try.f19 0) ⟨mkA [(0, VV.tr (List.flatMap c_SMaterial a0) a0.length), (3, vi x3)], [], .nil⟩ .ret ⟨mkA [(2, vb false)], [], .nil⟩ | .inr r => VLoop none Go.Proofs.Try.prog (szF Go.Proofs.Try.f19) (bodyOf Go.Proofs.Try.f19 0) ⟨mkA [(0, VV.tr (List.flatMap c_SMaterial a0) a0.length), (3, vi x3)], [], .nil⟩ (.exit 0) ⟨mkA [], [], .nil⟩) := by
  intro fuel
  induction fuel with
  | zero => intro x3 r h; rw [nspeculumlaw08_short_l0_0.eq_1] at h; cases h
  | succ fuel ih =>
    intro x3 r h
    rw [nspeculumlaw08_short_l0_0.eq_2] at h
    by_cases h40 : x3 < (a0.length : Int)
    · rw [if_pos h40] at h
      by_cases h41 : 0 ≤ x3 ∧ x3 < (a0.length : Int)
      · rw [if_pos h41] at h
        by_cases h42 : 20 < (((a0.getD x3.toNat default).Name).size : Int)
        · rw [if_pos h42] at h
          injection h with h; subst h
          exact round_stop (c := ⟨[(2, none)], [], []⟩) (s1 := ⟨mkA [(2, vb false)], [], .nil⟩) pm pn (ans := [.reg [.n, .n, .n, .n], .br true, .reg [.n, .n, .n, .n, .v (vs ((a0.getD x3.toNat default).Name)), .n, .n], .br true, .reg [.n]]) (by kernel_rfl) (by intro e; cases e) (an (an (an (ti (ti (ti (ti trivial)))) (an (decide_eq_true h40) trivial)) (an (ti (ti (an h41 (ti (an (show loadL Go.Proofs.Try.prog 9 (x3.toNat * 3 + 0) (List.flatMap c_SMaterial a0) = some (vs ((a0.getD x3.toNat default).Name)) from (ld_flat ag9 c_SMaterial 3 0 len_c_SMaterial (by omega) a0 default h41 (by omega)).trans rfl) (ti (ti trivial))))))) (an (decide_eq_true h42) (an (ti trivial) trivial)))) (ti trivial))
        · rw [if_neg h42] at h
          have h2 := ih _ _ h
          obtain ⟨q, hv, hq⟩ := pkR (rd := none) (P := Go.Proofs.Try.prog) (fn := Go.Proofs.Try.f19) (k := 0) (s := ⟨mkA [(0, VV.tr (List.flatMap c_SMaterial a0) a0.length), (3, vi x3)], [], .nil⟩) (ans := [.reg [.n, .n, .n, .n], .br true, .reg [.n, .n, .n, .n, .v (vs ((a0.getD x3.toNat default).Name)), .n, .n], .br false, .reg [.n, .n, .n]]) (c := ⟨[(0, none), (3, none)], [], []⟩) (e := .normal) (s1 := ⟨mkA [(0, VV.tr (List.flatMap c_SMaterial a0) a0.length), (3, vi (w64 (x3 + 1)))], [], .nil⟩) (an (an (an (ti (ti (ti (ti trivial)))) (an (decide_eq_true h40) trivial)) (an (an (ti (ti (an h41 (ti (an (show loadL Go.Proofs.Try.prog 9 (x3.toNat * 3 + 0) (List.flatMap c_SMaterial a0) = some (vs ((a0.getD x3.toNat default).Name)) from (ld_flat ag9 c_SMaterial 3 0 len_c_SMaterial (by omega) a0 default h41 (by omega)).trans rfl) (ti (ti trivial))))))) (an (decide_eq_false h42) trivial)) (ti (ti (ti trivial))))) (ti trivial)) (by kernel_rfl)
          cases r with
          | inl r => exact round_next pm pn hv hq h2
          | inr r =>
            exact round_next pm pn hv hq h2
      · rw [if_neg h41] at h; cases h
    · rw [if_neg h40] at h
      injection h with h; subst h
      exact round_stop (c := ⟨[], [], []⟩) (s1 := ⟨mkA [], [], .nil⟩) pm pn (ans := [.reg [.n, .n, .n, .n], .br false]) (by kernel_rfl) (by intro e; cases e) (an (an (ti (ti (ti (ti trivial)))) (an (decide_eq_false h40) trivial)) (ti trivial))
def nspeculumlaw08_short_l0_1 (k : Nat) (a0 : (List SMaterial)) : Nat → Int → Option (Sum Unit Unit)
  | 0, _ => none
  | fuel + 1, x3 => if x3 < (a0.length : Int) then (if 0 ≤ x3 ∧ x3 < (a0.length : Int) then (if 20 < (((a0.getD x3.toNat default).Name).size : Int) then (some (.inl ())) else (nspeculumlaw08_short_l0_1 k a0 fuel (w64 (x3 + 1)))) else none) else (some (.inr ()))
set_option maxRecDepth 100000 in
set_option maxHeartbeats 4000000 in
theorem nspeculumlaw08_short_l0_1_ok (k : Nat) (a0 : (List SMaterial)) : ∀ (fuel : Nat) (x3 : Int) (r : Sum Unit Unit), nspeculumlaw08_short_l0_1 k a0 fuel x3 = some r → (match r with | .inl r => VLoop none Go.Proofs.Try.prog (szF Go.Proofs.Try.f19) (bodyOf Go.Proofs.Try.f19 0) ⟨mkA [(0, VV.tr (List.flatMap c_SMaterial a0) a0.length), (3, vi x3)], [], .nil⟩ .ret ⟨mkA [(2, vb false)], [], .nil⟩ | .inr r => VLoop none Go.Proofs.Try.prog (szF Go.Proofs.Try.f19) (bodyOf Go.Proofs.Try.f19 0) ⟨mkA [(0, VV.tr (List.flatMap c_SMaterial a0) a0.length), (3, vi x3)], [], .nil⟩ (.exit 0) ⟨mkA [], [], .nil⟩) := by
  intro fuel
  induction fuel with
  | zero => intro x3 r h; rw [nspeculumlaw08_short_l0_1.eq_1] at h; cases h
  | succ fuel ih =>
    intro x3 r h
    rw [nspeculumlaw08_short_l0_1.eq_2] at h
    by_cases h54 : x3 < (a0.length : Int)
    · rw [if_pos h54] at h
      by_cases h55 : 0 ≤ x3 ∧ x3 < (a0.length : Int)
      · rw [if_pos h55] at h
        by_cases h56 : 20 < (((a0.getD x3.toNat default).Name).size : Int)
        · rw [if_pos h56] at h
          injection h with h; subst h
          exact round_stop (c := ⟨[(2, none)], [], []⟩) (s1 := ⟨mkA [(2, vb false)], [], .nil⟩) pm pn (ans := [.reg [.n, .n, .n, .n], .br true, .reg [.n, .n, .n, .n, .v (vs ((a0.getD x3.toNat default).Name)), .n, .n], .br true, .reg [.n]]) (by kernel_rfl) (by intro e; cases e) (an (an (an (ti (ti (ti (ti trivial)))) (an (decide_eq_true h54) trivial)) (an (ti (ti (an h55 (ti (an (show loadL Go.Proofs.Try.prog 9 (x3.toNat * 3 + 0) (List.flatMap c_SMaterial a0) = some (vs ((a0.getD x3.toNat default).Name)) from (ld_flat ag9 c_SMaterial 3 0 len_c_SMaterial (by omega) a0 default h55 (by omega)).trans rfl) (ti (ti trivial))))))) (an (decide_eq_true h56) (an (ti trivial) trivial)))) (ti trivial))
        · rw [if_neg h56] at h
          have h2 := ih _ _ h
          obtain ⟨q, hv, hq⟩ := pkR (rd := none) (P := Go.Proofs.Try.prog) (fn := Go.Proofs.Try.f19) (k := 0) (s := ⟨mkA [(0, VV.tr (List.flatMap c_SMaterial a0) a0.length), (3, vi x3)], [], .nil⟩) (ans := [.reg [.n, .n, .n, .n], .br true, .reg [.n, .n, .n, .n, .v (vs ((a0.getD x3.toNat default).Name)), .n, .n], .br false, .reg [.n, .n, .n]]) (c := ⟨[(0, none), (3, none)], [], []⟩) (e := .normal) (s1 := ⟨mkA [(0, VV.tr (List.flatMap c_SMaterial a0) a0.length), (3, vi (w64 (x3 + 1)))], [], .nil⟩) (an (an (an (ti (ti (ti (ti trivial)))) (an (decide_eq_true h54) trivial)) (an (an (ti (ti (an h55 (ti (an (show loadL Go.Proofs.Try.prog 9 (x3.toNat * 3 + 0) (List.flatMap c_SMaterial a0) = some (vs ((a0.getD x3.toNat default).Name)) from (ld_flat ag9 c_SMaterial 3 0 len_c_SMaterial (by omega) a0 default h55 (by omega)).trans rfl) (ti (ti trivial))))))) (an (decide_eq_false h56) trivial)) (ti (ti (ti trivial))))) (ti trivial)) (by kernel_rfl)
          cases r with
          | inl r => exact round_next pm pn hv hq h2
          | inr r =>
            exact round_next pm pn hv hq h2
      · rw [if_neg h55] at h; cases h
    · rw [if_neg h54] at h
      injection h with h; subst h
      exact round_stop (c := ⟨[], [], []⟩) (s1 := ⟨mkA [], [], .nil⟩) pm pn (ans := [.reg [.n, .n, .n, .n], .br false]) (by kernel_rfl) (by intro e; cases e) (an (an (ti (ti (ti (ti trivial)))) (an (decide_eq_false h54) trivial)) (ti trivial))
def nspeculumlaw08_short (k : Nat) (a0 : (List SMaterial)) : Option Bool :=
  if 8 < (a0.length : Int) then (if (a0.length : Int) ≤ 40 then (some false) else (if 43 < (a0.length : Int) then (some false) else ((nspeculumlaw08_short_l0_0 k a0 k 0).bind fun r44 => (match r44 with | .inl r45 => (some false) | .inr r46 => (some true))))) else (if 43 < (a0.length : Int) then (some false) else ((nspeculumlaw08_short_l0_1 k a0 k 0).bind fun r58 => (match r58 with | .inl r59 => (some false) | .inr r60 => (some true))))
set_option maxRecDepth 100000 in
set_option maxHeartbeats 4000000 in
theorem nspeculumlaw08_short_ok (k : Nat) (a0 : (List SMaterial)) (r : Bool) (h : nspeculumlaw08_short k a0 = some r) : VC Go.Proofs.Try.prog 19 [VV.tr (List.flatMap c_SMaterial a0) a0.length] (vb r) := by
  unfold nspeculumlaw08_short at h
  by_cases h31 : 8 < (a0.length : Int)
  · rw [if_pos h31] at h
    by_cases h32 : (a0.length : Int) ≤ 40
    · rw [if_pos h32] at h
      injection h with h; subst h
      exact fun_ok pm pn Go.Proofs.Try.func19 (r0 := vb false) (ans := [.reg [.n], .reg [.n, .n, .n, .n, .n, .n, .n, .b true, .n, .skip, .skip, .skip, .b true], .br true, .reg [.n]]) (fr := true) (by kernel_rfl) (an (an (ti trivial) (an (ti (ti (ti (ti (an (an (decide_eq_true h31) trivial) (an (an (decide_eq_true h31) trivial) (an (an (decide_eq_true h31) trivial) (an (decide_eq_true h31) (ti (an (decide_eq_true h32) (an (decide_eq_true h32) (an (decide_eq_true h32) (an (decide_eq_true h32) trivial))))))))))))) (an rt (an (ti trivial) trivial)))) (ti trivial)) (Wv.refl _)
    · rw [if_neg h32] at h
      by_cases h33 : 43 < (a0.length : Int)
      · rw [if_pos h33] at h
        injection h with h; subst h
        exact fun_ok pm pn Go.Proofs.Try.func19 (r0 := vb false) (ans := [.reg [.n], .reg [.n, .n, .n, .n, .n, .n, .n, .b true, .n, .n, .n, .n, .b false], .br true, .reg [.n]]) (fr := true) (by kernel_rfl) (an (an (ti trivial) (an (ti (ti (ti (ti (an (an (decide_eq_true h31) trivial) (an (an (decide_eq_true h31) trivial) (an (an (decide_eq_true h31) trivial) (an (decide_eq_true h31) (ti (an (an (decide_eq_false h32) trivial) (an (an (decide_eq_false h32) trivial) (an (an (decide_eq_false h32) trivial) (an (decide_eq_false h32) trivial))))))))))))) (an (decide_eq_true h33) (an (ti trivial) trivial)))) (ti trivial)) (Wv.refl _)
      · rw [if_neg h33] at h
        cases h43 : nspeculumlaw08_short_l0_0 k a0 k 0 with
        | none => rw [h43] at h; cases h
        | some r44 =>
          rw [h43, Option.bind_some] at h
          have hph43 := nspeculumlaw08_short_l0_0_ok k a0 _ _ _ h43
          cases r44 with
          | inl r45 =>
            dsimp only at h
            injection h with h; subst h
            exact fun_ok pm pn Go.Proofs.Try.func19 (r0 := vb false) (ans := [.reg [.n], .reg [.n, .n, .n, .n, .n, .n, .n, .b true, .n, .n, .n, .n, .b false], .br false, .reg [.n], .sub ⟨[(0, none), (3, none)], [], []⟩ .ret ⟨mkA [(2, vb false)], [], .nil⟩]) (fr := true) (by kernel_rfl) (an (an (ti trivial) (an (an (ti (ti (ti (ti (an (an (decide_eq_true h31) trivial) (an (an (decide_eq_true h31) trivial) (an (an (decide_eq_true h31) trivial) (an (decide_eq_true h31) (ti (an (an (decide_eq_false h32) trivial) (an (an (decide_eq_false h32) trivial) (an (an (decide_eq_false h32) trivial) (an (decide_eq_false h32) trivial))))))))))))) (an (decide_eq_false h33) trivial)) (an (ti trivial) (an (ti trivial) (VRun.loop hph43))))) (ti trivial)) (Wv.refl _)
          | inr r46 =>
            dsimp only at h
            injection h with h; subst h
            exact fun_ok pm pn Go.Proofs.Try.func19 (r0 := vb true) (ans := [.reg [.n], .reg [.n, .n, .n, .n, .n, .n, .n, .b true, .n, .n, .n, .n, .b false], .br false, .reg [.n], .sub ⟨[(0, none), (3, none)], [], []⟩ (.exit 0) ⟨mkA [], [], .nil⟩, .reg [.n]]) (fr := true) (by kernel_rfl) (an (an (ti trivial) (an (an (ti (ti (ti (ti (an (an (decide_eq_true h31) trivial) (an (an (decide_eq_true h31) trivial) (an (an (decide_eq_true h31) trivial) (an (decide_eq_true h31) (ti (an (an (decide_eq_false h32) trivial) (an (an (decide_eq_false h32) trivial) (an (an (decide_eq_false h32) trivial) (an (decide_eq_false h32) trivial))))))))))))) (an (decide_eq_false h33) trivial)) (an (an (ti trivial) (an (ti trivial) (VRun.loop hph43))) (an (ti trivial) trivial)))) (ti trivial)) (Wv.refl _)
  · rw [if_neg h31] at h
    by_cases h47 : 43 < (a0.length : Int)
    · rw [if_pos h47] at h
      injection h with h; subst h
      exact fun_ok pm pn Go.Proofs.Try.func19 (r0 := vb false) (ans := [.reg [.n], .reg [.n, .n, .n, .n, .skip, .skip, .skip, .b false, .n, .n, .n, .n, .b false], .br true, .reg [.n]]) (fr := true) (by kernel_rfl) (an (an (ti trivial) (an (ti (ti (ti (ti (an (decide_eq_false h31) (an (decide_eq_false h31) (an (decide_eq_false h31) (an (decide_eq_false h31) (ti (an (an rf trivial) (an (an rf trivial) (an (an rf trivial) (an rf trivial))))))))))))) (an (decide_eq_true h47) (an (ti trivial) trivial)))) (ti trivial)) (Wv.refl _)
    · rw [if_neg h47] at h
      cases h57 : nspeculumlaw08_short_l0_1 k a0 k 0 with
      | none => rw [h57] at h; cases h
      | some r58 =>
        rw [h57, Option.bind_some] at h
        have hph57 := nspeculumlaw08_short_l0_1_ok k a0 _ _ _ h57
        cases r58 with
        | inl r59 =>
          dsimp only at h
          injection h with h; subst h
          exact fun_ok pm pn Go.Proofs.Try.func19 (r0 := vb false) (ans := [.reg [.n], .reg [.n, .n, .n, .n, .skip, .skip, .skip, .b false, .n, .n, .n, .n, .b false], .br false, .reg [.n], .sub ⟨[(0, none), (3, none)], [], []⟩ .ret ⟨mkA [(2, vb false)], [], .nil⟩]) (fr := true) (by kernel_rfl) (an (an (ti trivial) (an (an (ti (ti (ti (ti (an (decide_eq_false h31) (an (decide_eq_false h31) (an (decide_eq_false h31) (an (decide_eq_false h31) (ti (an (an rf trivial) (an (an rf trivial) (an (an rf trivial) (an rf trivial))))))))))))) (an (decide_eq_false h47) trivial)) (an (ti trivial) (an (ti trivial) (VRun.loop hph57))))) (ti trivial)) (Wv.refl _)
        | inr r60 =>
          dsimp only at h
          injection h with h; subst h
          exact fun_ok pm pn Go.Proofs.Try.func19 (r0 := vb true) (ans := [.reg [.n], .reg [.n, .n, .n, .n, .skip, .skip, .skip, .b false, .n, .n, .n, .n, .b false], .br false, .reg [.n], .sub ⟨[(0, none), (3, none)], [], []⟩ (.exit 0) ⟨mkA [], [], .nil⟩, .reg [.n]]) (fr := true) (by kernel_rfl) (an (an (ti trivial) (an (an (ti (ti (ti (ti (an (decide_eq_false h31) (an (decide_eq_false h31) (an (decide_eq_false h31) (an (decide_eq_false h31) (ti (an (an rf trivial) (an (an rf trivial) (an (an rf trivial) (an rf trivial))))))))))))) (an (decide_eq_false h47) trivial)) (an (an (ti trivial) (an (ti trivial) (VRun.loop hph57))) (an (ti trivial) trivial)))) (ti trivial)) (Wv.refl _)
def nspeculumlaw08_materials (k : Nat) (a0 : (List SMaterial)) : Option (List SMaterial) :=
  if ([] : List SMaterial).length + a0.length ≤ 1000000000 then (some (([] : List SMaterial) ++ a0)) else none
set_option maxRecDepth 100000 in
set_option maxHeartbeats 4000000 in
theorem nspeculumlaw08_materials_ok (k : Nat) (a0 : (List SMaterial)) (r : (List SMaterial)) (h : nspeculumlaw08_materials k a0 = some r) : VC Go.Proofs.Try.prog 22 [VV.tr (List.flatMap c_SMaterial a0) a0.length] (VV.fw 3 (List.flatMap c_SMaterial r) r.length) := by
  unfold nspeculumlaw08_materials at h
  by_cases h62 : ([] : List SMaterial).length + a0.length ≤ 1000000000
  · rw [if_pos h62] at h
    injection h with h; subst h
    exact fun_ok pm pn Go.Proofs.Try.func22 (r0 := VV.fw 3 (List.drop 0 (List.map unfr ([] ++ (List.flatMap c_SMaterial a0)))) (0 + a0.length)) (ans := [.reg [.n], .reg [.n, .n, .n, .n]]) (fr := true) (by kernel_rfl) (an (an (ti trivial) (an (ti (ti (an (show List.length [] = 0 * 3 ∧ List.length (List.flatMap c_SMaterial a0) = a0.length * 3 ∧ (0 + a0.length) * 32 ≤ 140737488355328 ∧ 0 + a0.length < 1099511627776 ∧ List.all (List.flatMap c_SMaterial a0) VV.still = true from ⟨(by rw [show [] = List.flatMap c_SMaterial ([] : List SMaterial) from rfl]; rw [flatMap_len len_c_SMaterial] <;> simp), (by rw [flatMap_len len_c_SMaterial] <;> simp), by simp at h62 ⊢; omega, by simp at h62 ⊢; omega, (by exact still_c_SMaterial _)⟩) (ti trivial)))) trivial)) (an (show List.all ([] ++ (List.flatMap c_SMaterial a0)) new0 = true from (by rw [show [] ++ (List.flatMap c_SMaterial a0) = List.flatMap c_SMaterial (([] : List SMaterial) ++ a0) from (by rw [show [] = List.flatMap c_SMaterial ([] : List SMaterial) from rfl]; exact List.flatMap_append.symm)]; exact new0_c_SMaterial _)) trivial)) (Wv.of_eq (by simp only [show [] ++ (List.flatMap c_SMaterial a0) = List.flatMap c_SMaterial (([] : List SMaterial) ++ a0) from (by rw [show [] = List.flatMap c_SMaterial ([] : List SMaterial) from rfl]; exact List.flatMap_append.symm), drop0, unfr_vi, unfr_vb, unfr_vs, List.map_cons, List.map_nil, un_i, un_k, un_b, un_s, un_tr, un_fr, List.length_map, List.length_replicate, List.length_append, List.length_set, List.length_cons, List.length_nil, unfr_c_SMaterial, unfr_c_SRange]))
  · rw [if_neg h62] at h; cases h
def ncoat_areWithin_l0_0 (k : Nat) (a0 : Int) (a1 : Int) (a2 : (List Int)) : Nat → Int → Option (Sum Unit Unit)
  | 0, _ => none
  | fuel + 1, x11 => if x11 < (a2.length : Int) then (if 0 ≤ x11 ∧ x11 < (a2.length : Int) then (if (a2.getD x11.toNat 0) < a0 then (some (.inl ())) else (if a1 < (a2.getD x11.toNat 0) then (some (.inl ())) else (ncoat_areWithin_l0_0 k a0 a1 a2 fuel (w64 (x11 + 1))))) else none) else (some (.inr ()))
set_option maxRecDepth 100000 in
set_option maxHeartbeats 4000000 in
theorem ncoat_areWithin_l0_0_ok (k : Nat) (a0 : Int) (a1 : Int) (a2 : (List Int)) : ∀ (fuel : Nat) (x11 : Int) (r : Sum Unit Unit), ncoat_areWithin_l0_0 k a0 a1 a2 fuel x11 = some r → (match r with | .inl r => VLoop none Go.Proofs.Try.prog (szF Go.Proofs.Try.f84) (bodyOf Go.Proofs.Try.f84 0) ⟨mkA [(0, vi a0), (1, vi a1), (9, VV.tr (List.map vi a2) a2.length), (10, vi (a2.length : Int)), (11, vi x11)], [], .nil⟩ .ret ⟨mkA [(6, vb false)], [], .nil⟩ | .inr r => VLoop none Go.Proofs.Try.prog (szF Go.Proofs.Try.f84) (bodyOf Go.Proofs.Try.f84 0) ⟨mkA [(0, vi a0), (1, vi a1), (9, VV.tr (List.map vi a2) a2.length), (10, vi (a2.length : Int)), (11, vi x11)], [], .nil⟩ (.exit 0) ⟨mkA [], [], .nil⟩) := by
  intro fuel
  induction fuel with
  | zero => intro x11 r h; rw [ncoat_areWithin_l0_0.eq_1] at h; cases h
  | succ fuel ih =>
    intro x11 r h
    rw [ncoat_areWithin_l0_0.eq_2] at h
    by_cases h90 : x11 < (a2.length : Int)
    · rw [if_pos h90] at h
      by_cases h91 : 0 ≤ x11 ∧ x11 < (a2.length : Int)
      · rw [if_pos h91] at h
        by_cases h92 : (a2.getD x11.toNat 0) < a0
        · rw [if_pos h92] at h
          injection h with h; subst h
          exact round_stop (c := ⟨[(6, none)], [], []⟩) (s1 := ⟨mkA [(6, vb false)], [], .nil⟩) pm pn (ans := [.reg [.n], .br true, .reg [.n, .v (vi (a2.getD x11.toNat 0)), .n], .reg [.n, .n, .n, .n, .skip, .skip, .skip, .b true], .br true, .reg [.n]]) (by kernel_rfl) (by intro e; cases e) (an (an (ti trivial) (an (an (decide_eq_true h90) trivial) (an (an h91 (an (show loadL Go.Proofs.Try.prog 3 (x11.toNat * 1) (List.map vi a2) = some (vi (a2.getD x11.toNat 0)) from ld_map ag3 vi a2 0 h91 (by omega)) (ti trivial))) (an (ti (ti (ti (ti (an (decide_eq_true h92) (an (decide_eq_true h92) (an (decide_eq_true h92) (an (decide_eq_true h92) trivial)))))))) (an rt (an (ti trivial) trivial)))))) (ti trivial))
        · rw [if_neg h92] at h
          by_cases h93 : a1 < (a2.getD x11.toNat 0)
          · rw [if_pos h93] at h
            injection h with h; subst h
            exact round_stop (c := ⟨[(6, none)], [], []⟩) (s1 := ⟨mkA [(6, vb false)], [], .nil⟩) pm pn (ans := [.reg [.n], .br true, .reg [.n, .v (vi (a2.getD x11.toNat 0)), .n], .reg [.n, .n, .n, .n, .n, .n, .n, .b false], .br true, .reg [.n]]) (by kernel_rfl) (by intro e; cases e) (an (an (ti trivial) (an (an (decide_eq_true h90) trivial) (an (an h91 (an (show loadL Go.Proofs.Try.prog 3 (x11.toNat * 1) (List.map vi a2) = some (vi (a2.getD x11.toNat 0)) from ld_map ag3 vi a2 0 h91 (by omega)) (ti trivial))) (an (ti (ti (ti (ti (an (an (decide_eq_false h92) trivial) (an (an (decide_eq_false h92) trivial) (an (an (decide_eq_false h92) trivial) (an (decide_eq_false h92) trivial)))))))) (an (decide_eq_true h93) (an (ti trivial) trivial)))))) (ti trivial))
          · rw [if_neg h93] at h
            have h2 := ih _ _ h
            obtain ⟨q, hv, hq⟩ := pkR (rd := none) (P := Go.Proofs.Try.prog) (fn := Go.Proofs.Try.f84) (k := 0) (s := ⟨mkA [(0, vi a0), (1, vi a1), (9, VV.tr (List.map vi a2) a2.length), (10, vi (a2.length : Int)), (11, vi x11)], [], .nil⟩) (ans := [.reg [.n], .br true, .reg [.n, .v (vi (a2.getD x11.toNat 0)), .n], .reg [.n, .n, .n, .n, .n, .n, .n, .b false], .br false, .reg [.n, .n]]) (c := ⟨[(0, none), (1, none), (9, none), (10, none), (11, none)], [], []⟩) (e := .normal) (s1 := ⟨mkA [(0, vi a0), (1, vi a1), (9, VV.tr (List.map vi a2) a2.length), (10, vi (a2.length : Int)), (11, vi (w64 (x11 + 1)))], [], .nil⟩) (an (an (ti trivial) (an (an (decide_eq_true h90) trivial) (an (an (an h91 (an (show loadL Go.Proofs.Try.prog 3 (x11.toNat * 1) (List.map vi a2) = some (vi (a2.getD x11.toNat 0)) from ld_map ag3 vi a2 0 h91 (by omega)) (ti trivial))) (an (ti (ti (ti (ti (an (an (decide_eq_false h92) trivial) (an (an (decide_eq_false h92) trivial) (an (an (decide_eq_false h92) trivial) (an (decide_eq_false h92) trivial)))))))) (an (decide_eq_false h93) trivial))) (ti (ti trivial))))) (ti trivial)) (by kernel_rfl)
            cases r with
            | inl r => exact round_next pm pn hv hq h2
            | inr r =>
              exact round_next pm pn hv hq h2
      · rw [if_neg h91] at h; cases h
    · rw [if_neg h90] at h
      injection h with h; subst h
      exact round_stop (c := ⟨[], [], []⟩) (s1 := ⟨mkA [], [], .nil⟩) pm pn (ans := [.reg [.n], .br false]) (by kernel_rfl) (by intro e; cases e) (an (an (ti trivial) (an (decide_eq_false h90) trivial)) (ti trivial))
def ncoat_areWithin (k : Nat) (a0 : Int) (a1 : Int) (a2 : (List Int)) : Option Bool :=
  (ncoat_areWithin_l0_0 k a0 a1 a2 k 0).bind fun r95 => (match r95 with | .inl r96 => (some false) | .inr r97 => (some true))
set_option maxRecDepth 100000 in
set_option maxHeartbeats 4000000 in
theorem ncoat_areWithin_ok (k : Nat) (a0 : Int) (a1 : Int) (a2 : (List Int)) (r : Bool) (h : ncoat_areWithin k a0 a1 a2 = some r) : VC Go.Proofs.Try.prog 84 [vi a0, vi a1, VV.tr (List.map vi a2) a2.length] (vb r) := by
  unfold ncoat_areWithin at h
  cases h94 : ncoat_areWithin_l0_0 k a0 a1 a2 k 0 with
  | none => rw [h94] at h; cases h
  | some r95 =>
    rw [h94, Option.bind_some] at h
    have hph94 := ncoat_areWithin_l0_0_ok k a0 a1 a2 _ _ _ h94
    cases r95 with
    | inl r96 =>
      dsimp only at h
      injection h with h; subst h
      exact fun_ok pm pn Go.Proofs.Try.func84 (r0 := vb false) (ans := [.reg [.n], .reg [.n, .n, .n], .sub ⟨[(0, none), (1, none), (9, none), (10, none), (11, none)], [], []⟩ .ret ⟨mkA [(6, vb false)], [], .nil⟩]) (fr := true) (by kernel_rfl) (an (an (ti trivial) (an (ti (ti (ti trivial))) (an (ti trivial) (VRun.loop hph94)))) (ti trivial)) (Wv.refl _)
    | inr r97 =>
      dsimp only at h
      injection h with h; subst h
      exact fun_ok pm pn Go.Proofs.Try.func84 (r0 := vb true) (ans := [.reg [.n], .reg [.n, .n, .n], .sub ⟨[(0, none), (1, none), (9, none), (10, none), (11, none)], [], []⟩ (.exit 0) ⟨mkA [], [], .nil⟩, .reg [.n]]) (fr := true) (by kernel_rfl) (an (an (ti trivial) (an (an (ti (ti (ti trivial))) (an (ti trivial) (VRun.loop hph94))) (an (ti trivial) trivial))) (ti trivial)) (Wv.refl _)
def ncoat_isLetter (k : Nat) (a0 : Int) : Option Bool :=
  if 97 ≤ a0 then (if a0 ≤ 122 then (some true) else (if 65 ≤ a0 then (some (decide (a0 ≤ 90))) else (some false))) else (if 65 ≤ a0 then (some (decide (a0 ≤ 90))) else (some false))
set_option maxRecDepth 100000 in
set_option maxHeartbeats 4000000 in
theorem ncoat_isLetter_ok (k : Nat) (a0 : Int) (r : Bool) (h : ncoat_isLetter k a0 = some r) : VC Go.Proofs.Try.prog 111 [VV.c (.int .i32 a0)] (vb r) := by
  unfold ncoat_isLetter at h
  by_cases h106 : 97 ≤ a0
  · rw [if_pos h106] at h
    by_cases h107 : a0 ≤ 122
    · rw [if_pos h107] at h
      injection h with h; subst h
      exact fun_ok pm pn Go.Proofs.Try.func111 (r0 := vb true) (ans := [.reg [.n], .reg [.n, .n, .n, .n, .n, .b true, .n, .skip, .skip, .skip, .skip, .skip, .skip, .b true, .n]]) (fr := true) (by kernel_rfl) (an (an (ti trivial) (an (ti (ti (ti (an (an (decide_eq_true h106) trivial) (an (an (decide_eq_true h106) trivial) (an (decide_eq_true h106) (ti (an (decide_eq_true h107) (an (decide_eq_true h107) (an (decide_eq_true h107) (ti (ti (an (decide_eq_true h107) (an (decide_eq_true h107) (ti trivial))))))))))))))) trivial)) (ti trivial)) (Wv.refl _)
    · rw [if_neg h107] at h
      by_cases h108 : 65 ≤ a0
      · rw [if_pos h108] at h
        injection h with h; subst h
        exact fun_ok pm pn Go.Proofs.Try.func111 (r0 := vb (decide (a0 ≤ 90))) (ans := [.reg [.n], .reg [.n, .n, .n, .n, .n, .b true, .n, .n, .n, .n, .n, .n, .b true, .b false, .n]]) (fr := true) (by kernel_rfl) (an (an (ti trivial) (an (ti (ti (ti (an (an (decide_eq_true h106) trivial) (an (an (decide_eq_true h106) trivial) (an (decide_eq_true h106) (ti (an (an (decide_eq_false h107) trivial) (an (an (decide_eq_false h107) trivial) (an (an (decide_eq_false h107) trivial) (an (an (decide_eq_true h108) trivial) (an (an (decide_eq_true h108) trivial) (an (an (decide_eq_false h107) (decide_eq_true h108)) (an (decide_eq_false h107) (ti trivial))))))))))))))) trivial)) (ti trivial)) (Wv.refl _)
      · rw [if_neg h108] at h
        injection h with h; subst h
        exact fun_ok pm pn Go.Proofs.Try.func111 (r0 := vb false) (ans := [.reg [.n], .reg [.n, .n, .n, .n, .n, .b true, .n, .n, .n, .n, .skip, .skip, .b false, .b false, .n]]) (fr := true) (by kernel_rfl) (an (an (ti trivial) (an (ti (ti (ti (an (an (decide_eq_true h106) trivial) (an (an (decide_eq_true h106) trivial) (an (decide_eq_true h106) (ti (an (an (decide_eq_false h107) trivial) (an (an (decide_eq_false h107) trivial) (an (an (decide_eq_false h107) trivial) (an (decide_eq_false h108) (an (decide_eq_false h108) (an (an (decide_eq_false h107) (decide_eq_false h108)) (an (decide_eq_false h107) (ti trivial))))))))))))))) trivial)) (ti trivial)) (Wv.refl _)
  · rw [if_neg h106] at h
    by_cases h109 : 65 ≤ a0
    · rw [if_pos h109] at h
      injection h with h; subst h
      exact fun_ok pm pn Go.Proofs.Try.func111 (r0 := vb (decide (a0 ≤ 90))) (ans := [.reg [.n], .reg [.n, .n, .n, .skip, .skip, .b false, .n, .n, .n, .n, .n, .n, .b true, .b false, .n]]) (fr := true) (by kernel_rfl) (an (an (ti trivial) (an (ti (ti (ti (an (decide_eq_false h106) (an (decide_eq_false h106) (an (decide_eq_false h106) (ti (an (an rf trivial) (an (an rf trivial) (an (an rf trivial) (an (an (decide_eq_true h109) trivial) (an (an (decide_eq_true h109) trivial) (an (an rf (decide_eq_true h109)) (an rf (ti trivial))))))))))))))) trivial)) (ti trivial)) (Wv.refl _)
    · rw [if_neg h109] at h
      injection h with h; subst h
      exact fun_ok pm pn Go.Proofs.Try.func111 (r0 := vb false) (ans := [.reg [.n], .reg [.n, .n, .n, .skip, .skip, .b false, .n, .n, .n, .n, .skip, .skip, .b false, .b false, .n]]) (fr := true) (by kernel_rfl) (an (an (ti trivial) (an (ti (ti (ti (an (decide_eq_false h106) (an (decide_eq_false h106) (an (decide_eq_false h106) (ti (an (an rf trivial) (an (an rf trivial) (an (an rf trivial) (an (decide_eq_false h109) (an (decide_eq_false h109) (an (an rf (decide_eq_false h109)) (an rf (ti trivial))))))))))))))) trivial)) (ti trivial)) (Wv.refl _)
def ncoat_isForeign (k : Nat) (a0 : Int) : Option Bool :=
  (ncoat_isLetter k a0).bind fun r120 => (if r120 = true then (some false) else (if 48 ≤ a0 then (if a0 ≤ 57 then (some false) else (some (!(decide (a0 = 45))))) else (some (!(decide (a0 = 45))))))
set_option maxRecDepth 100000 in
set_option maxHeartbeats 4000000 in
theorem ncoat_isForeign_ok (k : Nat) (a0 : Int) (r : Bool) (h : ncoat_isForeign k a0 = some r) : VC Go.Proofs.Try.prog 113 [VV.c (.int .i32 a0)] (vb r) := by
  unfold ncoat_isForeign at h
  cases h121 : ncoat_isLetter k a0 with
  | none => rw [h121] at h; cases h
  | some r120 =>
    rw [h121, Option.bind_some] at h
    by_cases h122 : r120 = true
    · rw [if_pos h122] at h
      injection h with h; subst h
      exact fun_ok pm pn Go.Proofs.Try.func113 (r0 := vb false) (ans := [.reg [.n], .reg [.n, .call (vb r120), .n, .n, .skip, .skip, .skip, .skip, .skip, .skip, .skip, .b false, .n, .skip, .skip, .b false, .n]]) (fr := true) (by kernel_rfl) (an (an (ti trivial) (an (ti (an (ncoat_isLetter_ok k a0 _ h121) (ti (ti (an (not_f h122) (an (not_f h122) (an (not_f h122) (ti (ti (an (not_f h122) (an (not_f h122) (an (not_f h122) (ti (an rf (an rf (an rf (ti trivial))))))))))))))))) trivial)) (ti trivial)) (Wv.refl _)
    · rw [if_neg h122] at h
      by_cases h123 : 48 ≤ a0
      · rw [if_pos h123] at h
        by_cases h124 : a0 ≤ 57
        · rw [if_pos h124] at h
          injection h with h; subst h
          exact fun_ok pm pn Go.Proofs.Try.func113 (r0 := vb false) (ans := [.reg [.n], .reg [.n, .call (vb r120), .n, .n, .n, .n, .n, .n, .n, .b true, .n, .b true, .n, .skip, .skip, .b false, .n]]) (fr := true) (by kernel_rfl) (an (an (ti trivial) (an (ti (an (ncoat_isLetter_ok k a0 _ h121) (ti (ti (an (an (not_t (bool_f h122)) trivial) (an (an (not_t (bool_f h122)) trivial) (an (an (not_t (bool_f h122)) trivial) (an (an (decide_eq_true h123) trivial) (an (an (decide_eq_true h123) trivial) (an (an (not_t (bool_f h122)) (decide_eq_true h123)) (an (an (not_t (bool_f h122)) trivial) (an (not_t (bool_f h122)) (ti (an (not_f (decide_eq_true h124)) (an (not_f (decide_eq_true h124)) (an (not_f (decide_eq_true h124)) (ti trivial))))))))))))))))) trivial)) (ti trivial)) (Wv.refl _)
        · rw [if_neg h124] at h
          injection h with h; subst h
          exact fun_ok pm pn Go.Proofs.Try.func113 (r0 := vb (!(decide (a0 = 45)))) (ans := [.reg [.n], .reg [.n, .call (vb r120), .n, .n, .n, .n, .n, .n, .n, .b true, .n, .b true, .n, .n, .n, .b true, .n]]) (fr := true) (by kernel_rfl) (an (an (ti trivial) (an (ti (an (ncoat_isLetter_ok k a0 _ h121) (ti (ti (an (an (not_t (bool_f h122)) trivial) (an (an (not_t (bool_f h122)) trivial) (an (an (not_t (bool_f h122)) trivial) (an (an (decide_eq_true h123) trivial) (an (an (decide_eq_true h123) trivial) (an (an (not_t (bool_f h122)) (decide_eq_true h123)) (an (an (not_t (bool_f h122)) trivial) (an (not_t (bool_f h122)) (ti (an (an (not_t (decide_eq_false h124)) trivial) (an (an (not_t (decide_eq_false h124)) trivial) (an (not_t (decide_eq_false h124)) (ti trivial))))))))))))))))) trivial)) (ti trivial)) (Wv.refl _)
      · rw [if_neg h123] at h
        injection h with h; subst h
        exact fun_ok pm pn Go.Proofs.Try.func113 (r0 := vb (!(decide (a0 = 45)))) (ans := [.reg [.n], .reg [.n, .call (vb r120), .n, .n, .n, .n, .n, .skip, .skip, .b false, .n, .b true, .n, .n, .n, .b true, .n]]) (fr := true) (by kernel_rfl) (an (an (ti trivial) (an (ti (an (ncoat_isLetter_ok k a0 _ h121) (ti (ti (an (an (not_t (bool_f h122)) trivial) (an (an (not_t (bool_f h122)) trivial) (an (an (not_t (bool_f h122)) trivial) (an (decide_eq_false h123) (an (decide_eq_false h123) (an (an (not_t (bool_f h122)) (decide_eq_false h123)) (an (an (not_t (bool_f h122)) trivial) (an (not_t (bool_f h122)) (ti (an (an (show (!false) = true from (not_t rfl)) trivial) (an (an (show (!false) = true from (not_t rfl)) trivial) (an (show (!false) = true from (not_t rfl)) (ti trivial))))))))))))))))) trivial)) (ti trivial)) (Wv.refl _)
def nstrings_indexFunc_c1_113_l0_0 (k : Nat) (a0 : ByteArray) (a2 : Bool) : Nat → Int → Option (Sum Int Unit)
  | 0, _ => none
  | fuel + 1, b0_1 => if b0_1 < (a0.size : Int) then (if 0 ≤ b0_1 then ((ncoat_isForeign k (((Go.Utf8.decode a0 (b0_1).toNat).1 : Nat) : Int)).bind fun r154 => (if (r154 == a2) = true then (some (.inl b0_1)) else (nstrings_indexFunc_c1_113_l0_0 k a0 a2 fuel (b0_1 + (((Go.Utf8.decode a0 (b0_1).toNat).2 : Nat) : Int))))) else none) else (some (.inr ()))
set_option maxRecDepth 100000 in
set_option maxHeartbeats 4000000 in
theorem nstrings_indexFunc_c1_113_l0_0_ok (k : Nat) (a0 : ByteArray) (a2 : Bool) : ∀ (fuel : Nat) (b0_1 : Int) (r : Sum Int Unit), nstrings_indexFunc_c1_113_l0_0 k a0 a2 fuel b0_1 = some r → (match r with | .inl r => VLoop none Go.Proofs.Try.prog (szF Go.Proofs.Try.f127) (bodyOf Go.Proofs.Try.f127 0) ⟨mkA [(1, VV.fn 113 []), (2, vb a2), (10, VV.it 0)], [some ⟨true, bigX, [vs a0, vi b0_1]⟩], .nil⟩ .ret ⟨mkA [(6, vi r)], [], .nil⟩ | .inr r => VLoop none Go.Proofs.Try.prog (szF Go.Proofs.Try.f127) (bodyOf Go.Proofs.Try.f127 0) ⟨mkA [(1, VV.fn 113 []), (2, vb a2), (10, VV.it 0)], [some ⟨true, bigX, [vs a0, vi b0_1]⟩], .nil⟩ (.exit 0) ⟨mkA [], [], .nil⟩) := by
  intro fuel
  induction fuel with
  | zero => intro b0_1 r h; rw [nstrings_indexFunc_c1_113_l0_0.eq_1] at h; cases h
  | succ fuel ih =>
    intro b0_1 r h
    rw [nstrings_indexFunc_c1_113_l0_0.eq_2] at h
    by_cases h152 : b0_1 < (a0.size : Int)
    · rw [if_pos h152] at h
      by_cases h153 : 0 ≤ b0_1
      · rw [if_pos h153] at h
        cases h155 : ncoat_isForeign k (((Go.Utf8.decode a0 (b0_1).toNat).1 : Nat) : Int) with
        | none => rw [h155] at h; cases h
        | some r154 =>
          rw [h155, Option.bind_some] at h
          by_cases h156 : (r154 == a2) = true
          · rw [if_pos h156] at h
            injection h with h; subst h
            exact round_stop (c := ⟨[(6, none)], [], []⟩) (s1 := ⟨mkA [(6, vi b0_1)], [], .nil⟩) pm pn (ans := [.reg [.b true, .n], .br true, .reg [.n, .n, .n, .n], .reg [.n, .n, .call (vb r154), .n, .n], .br true, .reg [.n, .n]]) (by kernel_rfl) (by intro e; cases e) (an (an (an (show 0 ≤ b0_1 ∧ b0_1 < (a0.size : Int) from ⟨h153, of_decide_eq_true (decide_eq_true h152)⟩) (ti trivial)) (an (an rt trivial) (an (ti (ti (ti (ti trivial)))) (an (ti (ti (an (ncoat_isForeign_ok k (((Go.Utf8.decode a0 (b0_1).toNat).1 : Nat) : Int) _ h155) (ti (ti trivial))))) (an h156 (an (ti (ti trivial)) trivial)))))) (ti trivial))
          · rw [if_neg h156] at h
            have h2 := ih _ _ h
            obtain ⟨q, hv, hq⟩ := pkR (rd := none) (P := Go.Proofs.Try.prog) (fn := Go.Proofs.Try.f127) (k := 0) (s := ⟨mkA [(1, VV.fn 113 []), (2, vb a2), (10, VV.it 0)], [some ⟨true, bigX, [vs a0, vi b0_1]⟩], .nil⟩) (ans := [.reg [.b true, .n], .br true, .reg [.n, .n, .n, .n], .reg [.n, .n, .call (vb r154), .n, .n], .br false]) (c := ⟨[(1, none), (2, none), (10, none)], [none], []⟩) (e := .normal) (s1 := ⟨mkA [(1, VV.fn 113 []), (2, vb a2), (10, VV.it 0)], [some ⟨true, bigX, [vs a0, vi (b0_1 + (((Go.Utf8.decode a0 (b0_1).toNat).2 : Nat) : Int))]⟩], .nil⟩) (an (an (an (show 0 ≤ b0_1 ∧ b0_1 < (a0.size : Int) from ⟨h153, of_decide_eq_true (decide_eq_true h152)⟩) (ti trivial)) (an (an rt trivial) (an (ti (ti (ti (ti trivial)))) (an (ti (ti (an (ncoat_isForeign_ok k (((Go.Utf8.decode a0 (b0_1).toNat).1 : Nat) : Int) _ h155) (ti (ti trivial))))) (an (bool_f h156) trivial))))) (ti trivial)) (by kernel_rfl)
            cases r with
            | inl r => exact round_next pm pn hv hq h2
            | inr r =>
              exact round_next pm pn hv hq h2
      · rw [if_neg h153] at h; cases h
    · rw [if_neg h152] at h
      injection h with h; subst h
      exact round_stop (c := ⟨[], [], []⟩) (s1 := ⟨mkA [], [], .nil⟩) pm pn (ans := [.reg [.b false, .n], .br false]) (by kernel_rfl) (by intro e; cases e) (an (an (an (show (a0.size : Int) ≤ b0_1 from (by have := of_decide_eq_false (decide_eq_false h152); omega)) (ti trivial)) (an rf trivial)) (ti trivial))
def nstrings_indexFunc_c1_113 (k : Nat) (a0 : ByteArray) (a2 : Bool) : Option Int :=
  (nstrings_indexFunc_c1_113_l0_0 k a0 a2 k 0).bind fun r158 => (match r158 with | .inl r159 => (some r159) | .inr r160 => (some (-1)))
set_option maxRecDepth 100000 in
set_option maxHeartbeats 4000000 in
theorem nstrings_indexFunc_c1_113_ok (k : Nat) (a0 : ByteArray) (a2 : Bool) (r : Int) (h : nstrings_indexFunc_c1_113 k a0 a2 = some r) : VC Go.Proofs.Try.prog 127 [vs a0, VV.fn 113 [], vb a2] (vi r) := by
  unfold nstrings_indexFunc_c1_113 at h
  cases h157 : nstrings_indexFunc_c1_113_l0_0 k a0 a2 k 0 with
  | none => rw [h157] at h; cases h
  | some r158 =>
    rw [h157, Option.bind_some] at h
    have hph157 := nstrings_indexFunc_c1_113_l0_0_ok k a0 a2 _ _ _ h157
    cases r158 with
    | inl r159 =>
      dsimp only at h
      injection h with h; subst h
      exact fun_ok pm pn Go.Proofs.Try.func127 (r0 := vi r159) (ans := [.reg [.n], .reg [.n, .n], .sub ⟨[(1, none), (2, none), (10, none)], [none], []⟩ .ret ⟨mkA [(6, vi r159)], [], .nil⟩]) (fr := true) (by kernel_rfl) (an (an (ti trivial) (an (ti (ti trivial)) (an (ti trivial) (VRun.loop hph157)))) (ti trivial)) (Wv.refl _)
    | inr r160 =>
      dsimp only at h
      injection h with h; subst h
      exact fun_ok pm pn Go.Proofs.Try.func127 (r0 := vi (-1)) (ans := [.reg [.n], .reg [.n, .n], .sub ⟨[(1, none), (2, none), (10, none)], [none], []⟩ (.exit 0) ⟨mkA [], [], .nil⟩, .reg [.n]]) (fr := true) (by kernel_rfl) (an (an (ti trivial) (an (an (ti (ti trivial)) (an (ti trivial) (VRun.loop hph157))) (an (ti trivial) trivial))) (ti trivial)) (Wv.refl _)
def nstrings_IndexFunc_c1_113 (k : Nat) (a0 : ByteArray) : Option Int :=
  (nstrings_indexFunc_c1_113 k a0 true).bind fun r163 => (some r163)
set_option maxRecDepth 100000 in
set_option maxHeartbeats 4000000 in
theorem nstrings_IndexFunc_c1_113_ok (k : Nat) (a0 : ByteArray) (r : Int) (h : nstrings_IndexFunc_c1_113 k a0 = some r) : VC Go.Proofs.Try.prog 126 [vs a0, VV.fn 113 []] (vi r) := by
  unfold nstrings_IndexFunc_c1_113 at h
  cases h164 : nstrings_indexFunc_c1_113 k a0 true with
  | none => rw [h164] at h; cases h
  | some r163 =>
    rw [h164, Option.bind_some] at h
    injection h with h; subst h
    exact fun_ok pm pn Go.Proofs.Try.func126 (r0 := vi r163) (ans := [.reg [.n], .reg [.n, .n, .call (vi r163), .n]]) (fr := true) (by kernel_rfl) (an (an (ti trivial) (an (ti (ti (an (nstrings_indexFunc_c1_113_ok k a0 true _ h164) (ti trivial)))) trivial)) (ti trivial)) (Wv.refl _)
def nstrings_ContainsFunc_c1_113 (k : Nat) (a0 : ByteArray) : Option Bool :=
  (nstrings_IndexFunc_c1_113 k a0).bind fun r167 => (some (decide (0 ≤ r167)))
set_option maxRecDepth 100000 in
set_option maxHeartbeats 4000000 in
theorem nstrings_ContainsFunc_c1_113_ok (k : Nat) (a0 : ByteArray) (r : Bool) (h : nstrings_ContainsFunc_c1_113 k a0 = some r) : VC Go.Proofs.Try.prog 112 [vs a0, VV.fn 113 []] (vb r) := by
  unfold nstrings_ContainsFunc_c1_113 at h
  cases h168 : nstrings_IndexFunc_c1_113 k a0 with
  | none => rw [h168] at h; cases h
  | some r167 =>
    rw [h168, Option.bind_some] at h
    injection h with h; subst h
    exact fun_ok pm pn Go.Proofs.Try.func112 (r0 := vb (decide (0 ≤ r167))) (ans := [.reg [.n], .reg [.n, .n, .call (vi r167), .n, .n]]) (fr := true) (by kernel_rfl) (an (an (ti trivial) (an (ti (ti (an (nstrings_IndexFunc_c1_113_ok k a0 _ h168) (ti (ti trivial))))) trivial)) (ti trivial)) (Wv.refl _)
def ncoat_isName (k : Nat) (a0 : ByteArray) : Option Bool :=
  (ncoat_areWithin k 1 12 ([(a0.size : Int)] : List Int)).bind fun r171 => (if r171 = true then (if (0 : Int) ≤ 0 ∧ 0 < (a0.size : Int) then ((ncoat_isLetter k (IntKind.i32.wrap (bat a0 0))).bind fun r175 => (if r175 = true then ((nstrings_ContainsFunc_c1_113 k a0).bind fun r178 => (some (!r178))) else (some false))) else none) else (some false))
set_option maxRecDepth 100000 in
set_option maxHeartbeats 4000000 in
theorem ncoat_isName_ok (k : Nat) (a0 : ByteArray) (r : Bool) (h : ncoat_isName k a0 = some r) : VC Go.Proofs.Try.prog 82 [vs a0] (vb r) := by
  unfold ncoat_isName at h
  cases h172 : ncoat_areWithin k 1 12 ([(a0.size : Int)] : List Int) with
  | none => rw [h172] at h; cases h
  | some r171 =>
    rw [h172, Option.bind_some] at h
    by_cases h173 : r171 = true
    · rw [if_pos h173] at h
      by_cases h174 : (0 : Int) ≤ 0 ∧ 0 < (a0.size : Int)
      · rw [if_pos h174] at h
        cases h176 : ncoat_isLetter k (IntKind.i32.wrap (bat a0 0)) with
        | none => rw [h176] at h; cases h
        | some r175 =>
          rw [h176, Option.bind_some] at h
          by_cases h177 : r175 = true
          · rw [if_pos h177] at h
            cases h179 : nstrings_ContainsFunc_c1_113 k a0 with
            | none => rw [h179] at h; cases h
            | some r178 =>
              rw [h179, Option.bind_some] at h
              injection h with h; subst h
              exact fun_ok pm pn Go.Proofs.Try.func82 (r0 := vb (!r178)) (ans := [.reg [.n], .reg [.n, .n, .n, .call (vb r171), .n, .n, .n, .n, .call (vb r175), .b true, .n, .n, .call (vb r178), .n, .b true, .n]]) (fr := true) (by kernel_rfl) (an (an (ti trivial) (an (ti (ti (ti (an (show VC Go.Proofs.Try.prog 84 [vi 1, vi 12, VV.tr (List.drop 0 (List.map unfr [vi (a0.size : Int)])) 1] (vb r171) from (VC.args (ncoat_areWithin_ok k 1 12 ([(a0.size : Int)] : List Int) _ h172) (by first | rfl | simp only [show [vi (a0.size : Int)] = List.map vi ([(a0.size : Int)] : List Int) from rfl, drop0, unfr_vi, unfr_vb, unfr_vs, List.map_cons, List.map_nil, un_i, un_k, un_b, un_s, un_tr, un_fr, List.length_map, List.length_replicate, List.length_append, List.length_set, List.length_cons, List.length_nil, unfr_c_SMaterial, unfr_c_SRange]))) (ti (an (an h173 trivial) (an (an h173 h174) (an (an h173 trivial) (an (an h173 (ncoat_isLetter_ok k (IntKind.i32.wrap (bat a0 0)) _ h176)) (an h173 (ti (an (an h177 trivial) (an (an h177 (nstrings_ContainsFunc_c1_113_ok k a0 _ h179)) (an (an h177 trivial) (an h177 (ti trivial)))))))))))))))) trivial)) (ti trivial)) (Wv.refl _)
          · rw [if_neg h177] at h
            injection h with h; subst h
            exact fun_ok pm pn Go.Proofs.Try.func82 (r0 := vb false) (ans := [.reg [.n], .reg [.n, .n, .n, .call (vb r171), .n, .n, .n, .n, .call (vb r175), .b true, .n, .skip, .skip, .skip, .b false, .n]]) (fr := true) (by kernel_rfl) (an (an (ti trivial) (an (ti (ti (ti (an (show VC Go.Proofs.Try.prog 84 [vi 1, vi 12, VV.tr (List.drop 0 (List.map unfr [vi (a0.size : Int)])) 1] (vb r171) from (VC.args (ncoat_areWithin_ok k 1 12 ([(a0.size : Int)] : List Int) _ h172) (by first | rfl | simp only [show [vi (a0.size : Int)] = List.map vi ([(a0.size : Int)] : List Int) from rfl, drop0, unfr_vi, unfr_vb, unfr_vs, List.map_cons, List.map_nil, un_i, un_k, un_b, un_s, un_tr, un_fr, List.length_map, List.length_replicate, List.length_append, List.length_set, List.length_cons, List.length_nil, unfr_c_SMaterial, unfr_c_SRange]))) (ti (an (an h173 trivial) (an (an h173 h174) (an (an h173 trivial) (an (an h173 (ncoat_isLetter_ok k (IntKind.i32.wrap (bat a0 0)) _ h176)) (an h173 (ti (an (bool_f h177) (an (bool_f h177) (an (bool_f h177) (an (bool_f h177) (ti trivial)))))))))))))))) trivial)) (ti trivial)) (Wv.refl _)
      · rw [if_neg h174] at h; cases h
    · rw [if_neg h173] at h
      injection h with h; subst h
      exact fun_ok pm pn Go.Proofs.Try.func82 (r0 := vb false) (ans := [.reg [.n], .reg [.n, .n, .n, .call (vb r171), .n, .skip, .skip, .skip, .skip, .b false, .n, .skip, .skip, .skip, .b false, .n]]) (fr := true) (by kernel_rfl) (an (an (ti trivial) (an (ti (ti (ti (an (show VC Go.Proofs.Try.prog 84 [vi 1, vi 12, VV.tr (List.drop 0 (List.map unfr [vi (a0.size : Int)])) 1] (vb r171) from (VC.args (ncoat_areWithin_ok k 1 12 ([(a0.size : Int)] : List Int) _ h172) (by first | rfl | simp only [show [vi (a0.size : Int)] = List.map vi ([(a0.size : Int)] : List Int) from rfl, drop0, unfr_vi, unfr_vb, unfr_vs, List.map_cons, List.map_nil, un_i, un_k, un_b, un_s, un_tr, un_fr, List.length_map, List.length_replicate, List.length_append, List.length_set, List.length_cons, List.length_nil, unfr_c_SMaterial, unfr_c_SRange]))) (ti (an (bool_f h173) (an (bool_f h173) (an (bool_f h173) (an (bool_f h173) (an (bool_f h173) (ti (an rf (an rf (an rf (an rf (ti trivial)))))))))))))))) trivial)) (ti trivial)) (Wv.refl _)
def ncoat_find_1 (k : Nat) (a0 : SMaterial) (q0_0 : ByteArray) : Option Bool :=
  some (decide (a0.Name = q0_0))
set_option maxRecDepth 100000 in
set_option maxHeartbeats 4000000 in
theorem ncoat_find_1_ok (k : Nat) (a0 : SMaterial) (q0_0 : ByteArray) (r : Bool) (h : ncoat_find_1 k a0 q0_0 = some r) : VC Go.Proofs.Try.prog 108 [VV.ag [vs a0.Name, vi a0.PerCount.Lo, vi a0.PerCount.Hi], VV.tp [vs q0_0] 0] (vb r) := by
  unfold ncoat_find_1 at h
  injection h with h; subst h
  exact fun_ok pm pn Go.Proofs.Try.func108 (r0 := vb (decide (a0.Name = q0_0))) (ans := [.reg [.n, .n], .reg [.n, .n, .v (vs q0_0), .n, .n]]) (fr := true) (by kernel_rfl) (an (an (ti (ti trivial)) (an (ti (ti (an (show loadL Go.Proofs.Try.prog 9 0 [vs q0_0] = some (vs q0_0) from (ld_one ag9 rfl)) (ti (ti trivial))))) trivial)) (ti trivial)) (Wv.refl _)
def nslices_IndexFunc_api_Material_api_Material__c1_108_l0_0 (k : Nat) (a0 : (List SMaterial)) (a1_0_0 : ByteArray) : Nat → Int → Option (Sum Int Unit)
  | 0, _ => none
  | fuel + 1, x8 => if x8 < (a0.length : Int) then (if 0 ≤ x8 ∧ x8 < (a0.length : Int) then ((ncoat_find_1 k (⟨(a0.getD x8.toNat default).Name, (⟨((a0.getD x8.toNat default).PerCount).Lo, ((a0.getD x8.toNat default).PerCount).Hi⟩ : SRange)⟩ : SMaterial) a1_0_0).bind fun r215 => (if r215 = true then (some (.inl x8)) else (nslices_IndexFunc_api_Material_api_Material__c1_108_l0_0 k a0 a1_0_0 fuel (w64 (x8 + 1))))) else none) else (some (.inr ()))
set_option maxRecDepth 100000 in
set_option maxHeartbeats 4000000 in
theorem nslices_IndexFunc_api_Material_api_Material__c1_108_l0_0_ok (k : Nat) (a0 : (List SMaterial)) (a1_0_0 : ByteArray) : ∀ (fuel : Nat) (x8 : Int) (r : Sum Int Unit), nslices_IndexFunc_api_Material_api_Material__c1_108_l0_0 k a0 a1_0_0 fuel x8 = some r → (match r with | .inl r => VLoop none Go.Proofs.Try.prog (szF Go.Proofs.Try.f107) (bodyOf Go.Proofs.Try.f107 0) ⟨mkA [(0, VV.tr (List.flatMap c_SMaterial a0) a0.length), (1, VV.fn 108 [VV.tp [vs a1_0_0] 0]), (7, vi (a0.length : Int)), (8, vi x8)], [], .nil⟩ .ret ⟨mkA [(4, vi r)], [], .nil⟩ | .inr r => VLoop none Go.Proofs.Try.prog (szF Go.Proofs.Try.f107) (bodyOf Go.Proofs.Try.f107 0) ⟨mkA [(0, VV.tr (List.flatMap c_SMaterial a0) a0.length), (1, VV.fn 108 [VV.tp [vs a1_0_0] 0]), (7, vi (a0.length : Int)), (8, vi x8)], [], .nil⟩ (.exit 0) ⟨mkA [], [], .nil⟩) := by
  intro fuel
  induction fuel with
  | zero => intro x8 r h; rw [nslices_IndexFunc_api_Material_api_Material__c1_108_l0_0.eq_1] at h; cases h
  | succ fuel ih =>
    intro x8 r h
    rw [nslices_IndexFunc_api_Material_api_Material__c1_108_l0_0.eq_2] at h
    by_cases h213 : x8 < (a0.length : Int)
    · rw [if_pos h213] at h
      by_cases h214 : 0 ≤ x8 ∧ x8 < (a0.length : Int)
      · rw [if_pos h214] at h
        cases h216 : ncoat_find_1 k (⟨(a0.getD x8.toNat default).Name, (⟨((a0.getD x8.toNat default).PerCount).Lo, ((a0.getD x8.toNat default).PerCount).Hi⟩ : SRange)⟩ : SMaterial) a1_0_0 with
        | none => rw [h216] at h; cases h
        | some r215 =>
          rw [h216, Option.bind_some] at h
          by_cases h217 : r215 = true
          · rw [if_pos h217] at h
            injection h with h; subst h
            exact round_stop (c := ⟨[(4, none)], [], []⟩) (s1 := ⟨mkA [(4, vi x8)], [], .nil⟩) pm pn (ans := [.reg [.n], .br true, .reg [.n, .n], .reg [.n, .n, .n, .n, .v (VV.ag [vs ((a0.getD x8.toNat default).Name), vi (((a0.getD x8.toNat default).PerCount).Lo), vi (((a0.getD x8.toNat default).PerCount).Hi)]), .call (vb r215)], .br true, .reg [.n, .n]]) (by kernel_rfl) (by intro e; cases e) (an (an (ti trivial) (an (an (decide_eq_true h213) trivial) (an (ti (ti trivial)) (an (ti (ti (ti (an h214 (an (show loadL Go.Proofs.Try.prog 54 (x8.toNat * 3) (List.flatMap c_SMaterial a0) = some (VV.ag [vs ((a0.getD x8.toNat default).Name), vi (((a0.getD x8.toNat default).PerCount).Lo), vi (((a0.getD x8.toNat default).PerCount).Hi)]) from ld_whole ag54 c_SMaterial 3 sz54 len_c_SMaterial a0 default h214 (by omega)) (an (show VC Go.Proofs.Try.prog 108 [VV.ag [vs ((a0.getD x8.toNat default).Name), vi (((a0.getD x8.toNat default).PerCount).Lo), vi (((a0.getD x8.toNat default).PerCount).Hi)], VV.tp [vs a1_0_0] 0] (vb r215) from (VC.args (ncoat_find_1_ok k (⟨(a0.getD x8.toNat default).Name, (⟨((a0.getD x8.toNat default).PerCount).Lo, ((a0.getD x8.toNat default).PerCount).Hi⟩ : SRange)⟩ : SMaterial) a1_0_0 _ h216) (by first | rfl | simp only [drop0, unfr_vi, unfr_vb, unfr_vs, List.map_cons, List.map_nil, un_i, un_k, un_b, un_s, un_tr, un_fr, List.length_map, List.length_replicate, List.length_append, List.length_set, List.length_cons, List.length_nil, unfr_c_SMaterial, unfr_c_SRange]))) trivial)))))) (an h217 (an (ti (ti trivial)) trivial)))))) (ti trivial))
          · rw [if_neg h217] at h
            have h2 := ih _ _ h
            obtain ⟨q, hv, hq⟩ := pkR (rd := none) (P := Go.Proofs.Try.prog) (fn := Go.Proofs.Try.f107) (k := 0) (s := ⟨mkA [(0, VV.tr (List.flatMap c_SMaterial a0) a0.length), (1, VV.fn 108 [VV.tp [vs a1_0_0] 0]), (7, vi (a0.length : Int)), (8, vi x8)], [], .nil⟩) (ans := [.reg [.n], .br true, .reg [.n, .n], .reg [.n, .n, .n, .n, .v (VV.ag [vs ((a0.getD x8.toNat default).Name), vi (((a0.getD x8.toNat default).PerCount).Lo), vi (((a0.getD x8.toNat default).PerCount).Hi)]), .call (vb r215)], .br false, .reg [.n, .n]]) (c := ⟨[(0, none), (1, none), (7, none), (8, none)], [], []⟩) (e := .normal) (s1 := ⟨mkA [(0, VV.tr (List.flatMap c_SMaterial a0) a0.length), (1, VV.fn 108 [VV.tp [vs a1_0_0] 0]), (7, vi (a0.length : Int)), (8, vi (w64 (x8 + 1)))], [], .nil⟩) (an (an (ti trivial) (an (an (decide_eq_true h213) trivial) (an (an (ti (ti trivial)) (an (ti (ti (ti (an h214 (an (show loadL Go.Proofs.Try.prog 54 (x8.toNat * 3) (List.flatMap c_SMaterial a0) = some (VV.ag [vs ((a0.getD x8.toNat default).Name), vi (((a0.getD x8.toNat default).PerCount).Lo), vi (((a0.getD x8.toNat default).PerCount).Hi)]) from ld_whole ag54 c_SMaterial 3 sz54 len_c_SMaterial a0 default h214 (by omega)) (an (show VC Go.Proofs.Try.prog 108 [VV.ag [vs ((a0.getD x8.toNat default).Name), vi (((a0.getD x8.toNat default).PerCount).Lo), vi (((a0.getD x8.toNat default).PerCount).Hi)], VV.tp [vs a1_0_0] 0] (vb r215) from (VC.args (ncoat_find_1_ok k (⟨(a0.getD x8.toNat default).Name, (⟨((a0.getD x8.toNat default).PerCount).Lo, ((a0.getD x8.toNat default).PerCount).Hi⟩ : SRange)⟩ : SMaterial) a1_0_0 _ h216) (by first | rfl | simp only [drop0, unfr_vi, unfr_vb, unfr_vs, List.map_cons, List.map_nil, un_i, un_k, un_b, un_s, un_tr, un_fr, List.length_map, List.length_replicate, List.length_append, List.length_set, List.length_cons, List.length_nil, unfr_c_SMaterial, unfr_c_SRange]))) trivial)))))) (an (bool_f h217) trivial))) (ti (ti trivial))))) (ti trivial)) (by kernel_rfl)
            cases r with
            | inl r => exact round_next pm pn hv hq h2
            | inr r =>
              exact round_next pm pn hv hq h2
      · rw [if_neg h214] at h; cases h
    · rw [if_neg h213] at h
      injection h with h; subst h
      exact round_stop (c := ⟨[], [], []⟩) (s1 := ⟨mkA [], [], .nil⟩) pm pn (ans := [.reg [.n], .br false]) (by kernel_rfl) (by intro e; cases e) (an (an (ti trivial) (an (decide_eq_false h213) trivial)) (ti trivial))
def nslices_IndexFunc_api_Material_api_Material__c1_108 (k : Nat) (a0 : (List SMaterial)) (a1_0_0 : ByteArray) : Option Int :=
  (nslices_IndexFunc_api_Material_api_Material__c1_108_l0_0 k a0 a1_0_0 k 0).bind fun r219 => (match r219 with | .inl r220 => (some r220) | .inr r221 => (some (-1)))
set_option maxRecDepth 100000 in
set_option maxHeartbeats 4000000 in
theorem nslices_IndexFunc_api_Material_api_Material__c1_108_ok (k : Nat) (a0 : (List SMaterial)) (a1_0_0 : ByteArray) (r : Int) (h : nslices_IndexFunc_api_Material_api_Material__c1_108 k a0 a1_0_0 = some r) : VC Go.Proofs.Try.prog 107 [VV.tr (List.flatMap c_SMaterial a0) a0.length, VV.fn 108 [VV.tp [vs a1_0_0] 0]] (vi r) := by
  unfold nslices_IndexFunc_api_Material_api_Material__c1_108 at h
  cases h218 : nslices_IndexFunc_api_Material_api_Material__c1_108_l0_0 k a0 a1_0_0 k 0 with
  | none => rw [h218] at h; cases h
  | some r219 =>
    rw [h218, Option.bind_some] at h
    have hph218 := nslices_IndexFunc_api_Material_api_Material__c1_108_l0_0_ok k a0 a1_0_0 _ _ _ h218
    cases r219 with
    | inl r220 =>
      dsimp only at h
      injection h with h; subst h
      exact fun_ok pm pn Go.Proofs.Try.func107 (r0 := vi r220) (ans := [.reg [.n], .reg [.n, .n, .n], .sub ⟨[(0, none), (1, none), (7, none), (8, none)], [], []⟩ .ret ⟨mkA [(4, vi r220)], [], .nil⟩]) (fr := true) (by kernel_rfl) (an (an (ti trivial) (an (ti (ti (ti trivial))) (an (ti trivial) (VRun.loop hph218)))) (ti trivial)) (Wv.refl _)
    | inr r221 =>
      dsimp only at h
      injection h with h; subst h
      exact fun_ok pm pn Go.Proofs.Try.func107 (r0 := vi (-1)) (ans := [.reg [.n], .reg [.n, .n, .n], .sub ⟨[(0, none), (1, none), (7, none), (8, none)], [], []⟩ (.exit 0) ⟨mkA [], [], .nil⟩, .reg [.n]]) (fr := true) (by kernel_rfl) (an (an (ti trivial) (an (an (ti (ti (ti trivial))) (an (ti trivial) (VRun.loop hph218))) (an (ti trivial) trivial))) (ti trivial)) (Wv.refl _)
def ncoat_find (k : Nat) (a0 : (List SMaterial)) (a1 : ByteArray) : Option Int :=
  (nslices_IndexFunc_api_Material_api_Material__c1_108 k a0 a1).bind fun r224 => (some r224)
set_option maxRecDepth 100000 in
set_option maxHeartbeats 4000000 in
theorem ncoat_find_ok (k : Nat) (a0 : (List SMaterial)) (a1 : ByteArray) (r : Int) (h : ncoat_find k a0 a1 = some r) : VC Go.Proofs.Try.prog 79 [VV.tr (List.flatMap c_SMaterial a0) a0.length, vs a1] (vi r) := by
  unfold ncoat_find at h
  cases h225 : nslices_IndexFunc_api_Material_api_Material__c1_108 k a0 a1 with
  | none => rw [h225] at h; cases h
  | some r224 =>
    rw [h225, Option.bind_some] at h
    injection h with h; subst h
    exact fun_ok pm pn Go.Proofs.Try.func79 (r0 := vi r224) (ans := [.reg [.n, .n], .reg [.n, .n, .call (vi r224), .n]]) (fr := true) (by kernel_rfl) (an (an (ti (ti trivial)) (an (ti (ti (an (show VC Go.Proofs.Try.prog 107 [VV.tr (List.flatMap c_SMaterial a0) a0.length, VV.fn 108 [VV.tp (List.map unfr [vs a1]) 0]] (vi r224) from (VC.args (nslices_IndexFunc_api_Material_api_Material__c1_108_ok k a0 a1 _ h225) (by first | rfl | simp only [drop0, unfr_vi, unfr_vb, unfr_vs, List.map_cons, List.map_nil, un_i, un_k, un_b, un_s, un_tr, un_fr, List.length_map, List.length_replicate, List.length_append, List.length_set, List.length_cons, List.length_nil, unfr_c_SMaterial, unfr_c_SRange]))) (ti trivial)))) trivial)) (ti trivial)) (Wv.refl _)
def ncoat_isWithin (k : Nat) (a0 : Int) (a1 : Int) (a2 : SRange) : Option Bool :=
  if a0 ≤ a2.Lo then (if a2.Lo ≤ a2.Hi then (some (decide (a2.Hi ≤ a1))) else (some false)) else (some false)
set_option maxRecDepth 100000 in
set_option maxHeartbeats 4000000 in
theorem ncoat_isWithin_ok (k : Nat) (a0 : Int) (a1 : Int) (a2 : SRange) (r : Bool) (h : ncoat_isWithin k a0 a1 a2 = some r) : VC Go.Proofs.Try.prog 83 [vi a0, vi a1, VV.ag [vi a2.Lo, vi a2.Hi]] (vb r) := by
  unfold ncoat_isWithin at h
  by_cases h231 : a0 ≤ a2.Lo
  · rw [if_pos h231] at h
    by_cases h232 : a2.Lo ≤ a2.Hi
    · rw [if_pos h232] at h
      injection h with h; subst h
      exact fun_ok pm pn Go.Proofs.Try.func83 (r0 := vb (decide (a2.Hi ≤ a1))) (ans := [.reg [.n, .n], .reg [.n, .n, .n, .n, .n, .n, .n, .n, .n, .n, .b true, .n, .n, .n, .n, .n, .b true, .n]]) (fr := true) (by kernel_rfl) (an (an (ti (ti trivial)) (an (ti (ti (ti (ti (ti (an (an (decide_eq_true h231) trivial) (an (an (decide_eq_true h231) trivial) (an (an (decide_eq_true h231) trivial) (an (an (decide_eq_true h231) trivial) (an (an (decide_eq_true h231) trivial) (an (decide_eq_true h231) (ti (an (an (decide_eq_true h232) trivial) (an (an (decide_eq_true h232) trivial) (an (an (decide_eq_true h232) trivial) (an (an (decide_eq_true h232) trivial) (an (decide_eq_true h232) (ti trivial)))))))))))))))))) trivial)) (ti trivial)) (Wv.refl _)
    · rw [if_neg h232] at h
      injection h with h; subst h
      exact fun_ok pm pn Go.Proofs.Try.func83 (r0 := vb false) (ans := [.reg [.n, .n], .reg [.n, .n, .n, .n, .n, .n, .n, .n, .n, .n, .b true, .n, .skip, .skip, .skip, .skip, .b false, .n]]) (fr := true) (by kernel_rfl) (an (an (ti (ti trivial)) (an (ti (ti (ti (ti (ti (an (an (decide_eq_true h231) trivial) (an (an (decide_eq_true h231) trivial) (an (an (decide_eq_true h231) trivial) (an (an (decide_eq_true h231) trivial) (an (an (decide_eq_true h231) trivial) (an (decide_eq_true h231) (ti (an (decide_eq_false h232) (an (decide_eq_false h232) (an (decide_eq_false h232) (an (decide_eq_false h232) (an (decide_eq_false h232) (ti trivial)))))))))))))))))) trivial)) (ti trivial)) (Wv.refl _)
  · rw [if_neg h231] at h
    injection h with h; subst h
    exact fun_ok pm pn Go.Proofs.Try.func83 (r0 := vb false) (ans := [.reg [.n, .n], .reg [.n, .n, .n, .n, .n, .skip, .skip, .skip, .skip, .skip, .b false, .n, .skip, .skip, .skip, .skip, .b false, .n]]) (fr := true) (by kernel_rfl) (an (an (ti (ti trivial)) (an (ti (ti (ti (ti (ti (an (decide_eq_false h231) (an (decide_eq_false h231) (an (decide_eq_false h231) (an (decide_eq_false h231) (an (decide_eq_false h231) (an (decide_eq_false h231) (ti (an rf (an rf (an rf (an rf (an rf (ti trivial)))))))))))))))))) trivial)) (ti trivial)) (Wv.refl _)
def ncoat_CheckMaterials_l0_0 (k : Nat) (a0 : (List SMaterial)) : Nat → Int → Option (Sum Int Unit)
  | 0, _ => none
  | fuel + 1, x10 => if x10 < (a0.length : Int) then (if 0 ≤ x10 ∧ x10 < (a0.length : Int) then ((ncoat_isName k ((a0.getD x10.toNat default).Name)).bind fun r291 => (if r291 = true then (if 0 ≤ (0 : Int) ∧ (0 : Int) ≤ x10 ∧ x10 ≤ (a0.length : Int) then ((ncoat_find k (sl a0 0 ((x10).toNat)) ((a0.getD x10.toNat default).Name)).bind fun r295 => (if 0 ≤ r295 then (some (.inl 5)) else ((ncoat_isWithin k 1 1000000 (⟨((a0.getD x10.toNat default).PerCount).Lo, ((a0.getD x10.toNat default).PerCount).Hi⟩ : SRange)).bind fun r298 => (if r298 = true then (ncoat_CheckMaterials_l0_0 k a0 fuel (w64 (x10 + 1))) else (some (.inl 2)))))) else none) else (some (.inl 4)))) else none) else (some (.inr ()))
set_option maxRecDepth 100000 in
set_option maxHeartbeats 4000000 in
theorem ncoat_CheckMaterials_l0_0_ok (k : Nat) (a0 : (List SMaterial)) : ∀ (fuel : Nat) (x10 : Int) (r : Sum Int Unit), ncoat_CheckMaterials_l0_0 k a0 fuel x10 = some r → (match r with | .inl r => VLoop none Go.Proofs.Try.prog (szF Go.Proofs.Try.f25) (bodyOf Go.Proofs.Try.f25 0) ⟨mkA [(0, VV.tr (List.flatMap c_SMaterial a0) a0.length), (8, VV.tr (List.flatMap c_SMaterial a0) a0.length), (9, vi (a0.length : Int)), (10, vi x10)], [], .nil⟩ .ret ⟨mkA [(2, vi r)], [], .nil⟩ | .inr r => VLoop none Go.Proofs.Try.prog (szF Go.Proofs.Try.f25) (bodyOf Go.Proofs.Try.f25 0) ⟨mkA [(0, VV.tr (List.flatMap c_SMaterial a0) a0.length), (8, VV.tr (List.flatMap c_SMaterial a0) a0.length), (9, vi (a0.length : Int)), (10, vi x10)], [], .nil⟩ (.exit 0) ⟨mkA [], [], .nil⟩) := by
  intro fuel
  induction fuel with
  | zero => intro x10 r h; rw [ncoat_CheckMaterials_l0_0.eq_1] at h; cases h
  | succ fuel ih =>
    intro x10 r h
    rw [ncoat_CheckMaterials_l0_0.eq_2] at h
    by_cases h289 : x10 < (a0.length : Int)
    · rw [if_pos h289] at h
      by_cases h290 : 0 ≤ x10 ∧ x10 < (a0.length : Int)
      · rw [if_pos h290] at h
        cases h292 : ncoat_isName k ((a0.getD x10.toNat default).Name) with
        | none => rw [h292] at h; cases h
        | some r291 =>
          rw [h292, Option.bind_some] at h
          by_cases h293 : r291 = true
          · rw [if_pos h293] at h
            by_cases h294 : 0 ≤ (0 : Int) ∧ (0 : Int) ≤ x10 ∧ x10 ≤ (a0.length : Int)
            · rw [if_pos h294] at h
              cases h296 : ncoat_find k (sl a0 0 ((x10).toNat)) ((a0.getD x10.toNat default).Name) with
              | none => rw [h296] at h; cases h
              | some r295 =>
                rw [h296, Option.bind_some] at h
                by_cases h297 : 0 ≤ r295
                · rw [if_pos h297] at h
                  injection h with h; subst h
                  exact round_stop (c := ⟨[(2, none)], [], []⟩) (s1 := ⟨mkA [(2, vi 5)], [], .nil⟩) pm pn (ans := [.reg [.n], .br true, .reg [.n, .n, .v (VV.ag [vs ((a0.getD x10.toNat default).Name), vi (((a0.getD x10.toNat default).PerCount).Lo), vi (((a0.getD x10.toNat default).PerCount).Hi)]), .n, .n, .n], .reg [.n, .n, .call (vb r291), .n, .n], .br false, .reg [.n, .n, .v (VV.tr (List.flatMap c_SMaterial (sl a0 0 ((x10).toNat))) ((sl a0 0 ((x10).toNat)).length)), .n, .n, .call (vi r295), .n, .n], .br true, .reg [.n]]) (by kernel_rfl) (by intro e; cases e) (an (an (ti trivial) (an (an (decide_eq_true h289) trivial) (an (ti (an h290 (an (show loadL Go.Proofs.Try.prog 54 (x10.toNat * 3) (List.flatMap c_SMaterial a0) = some (VV.ag [vs ((a0.getD x10.toNat default).Name), vi (((a0.getD x10.toNat default).PerCount).Lo), vi (((a0.getD x10.toNat default).PerCount).Hi)]) from ld_whole ag54 c_SMaterial 3 sz54 len_c_SMaterial a0 default h290 (by omega)) (ti (ti (ti trivial)))))) (an (ti (ti (an (ncoat_isName_ok k ((a0.getD x10.toNat default).Name) _ h292) (ti (ti trivial))))) (an (not_f h293) (an (ti (ti (an (show (True ∧ 0 ≤ x10 ∧ 0 ≤ (x10).toNat ∧ (x10).toNat ≤ a0.length ∧ (x10).toNat * 3 ≤ List.length (List.flatMap c_SMaterial a0)) ∧ VV.tr (List.take (((x10).toNat - 0) * 3) (List.drop (0 * 3) (List.flatMap c_SMaterial a0))) ((x10).toNat - 0) = VV.tr (List.flatMap c_SMaterial (sl a0 0 ((x10).toNat))) ((sl a0 0 ((x10).toNat)).length) from ⟨⟨trivial, (by have := h294; omega), (by have := h294; omega), (by have := h294; omega), (by rw [flatMap_len len_c_SMaterial]; have := h294; omega)⟩, (by exact sl_flat len_c_SMaterial a0 0 ((x10).toNat) (by have := h294; omega) (by have := h294; omega))⟩) (ti (ti (an (ncoat_find_ok k (sl a0 0 ((x10).toNat)) ((a0.getD x10.toNat default).Name) _ h296) (ti (ti trivial)))))))) (an (decide_eq_true h297) (an (ti trivial) trivial)))))))) (ti trivial))
                · rw [if_neg h297] at h
                  cases h299 : ncoat_isWithin k 1 1000000 (⟨((a0.getD x10.toNat default).PerCount).Lo, ((a0.getD x10.toNat default).PerCount).Hi⟩ : SRange) with
                  | none => rw [h299] at h; cases h
                  | some r298 =>
                    rw [h299, Option.bind_some] at h
                    by_cases h300 : r298 = true
                    · rw [if_pos h300] at h
                      have h2 := ih _ _ h
                      obtain ⟨q, hv, hq⟩ := pkR (rd := none) (P := Go.Proofs.Try.prog) (fn := Go.Proofs.Try.f25) (k := 0) (s := ⟨mkA [(0, VV.tr (List.flatMap c_SMaterial a0) a0.length), (8, VV.tr (List.flatMap c_SMaterial a0) a0.length), (9, vi (a0.length : Int)), (10, vi x10)], [], .nil⟩) (ans := [.reg [.n], .br true, .reg [.n, .n, .v (VV.ag [vs ((a0.getD x10.toNat default).Name), vi (((a0.getD x10.toNat default).PerCount).Lo), vi (((a0.getD x10.toNat default).PerCount).Hi)]), .n, .n, .n], .reg [.n, .n, .call (vb r291), .n, .n], .br false, .reg [.n, .n, .v (VV.tr (List.flatMap c_SMaterial (sl a0 0 ((x10).toNat))) ((sl a0 0 ((x10).toNat)).length)), .n, .n, .call (vi r295), .n, .n], .br false, .reg [.n, .n, .call (vb r298), .n, .n], .br false, .reg [.n, .n]]) (c := ⟨[(0, none), (8, none), (9, none), (10, none)], [], []⟩) (e := .normal) (s1 := ⟨mkA [(0, VV.tr (List.flatMap c_SMaterial a0) a0.length), (8, VV.tr (List.flatMap c_SMaterial a0) a0.length), (9, vi (a0.length : Int)), (10, vi (w64 (x10 + 1)))], [], .nil⟩) (an (an (ti trivial) (an (an (decide_eq_true h289) trivial) (an (an (ti (an h290 (an (show loadL Go.Proofs.Try.prog 54 (x10.toNat * 3) (List.flatMap c_SMaterial a0) = some (VV.ag [vs ((a0.getD x10.toNat default).Name), vi (((a0.getD x10.toNat default).PerCount).Lo), vi (((a0.getD x10.toNat default).PerCount).Hi)]) from ld_whole ag54 c_SMaterial 3 sz54 len_c_SMaterial a0 default h290 (by omega)) (ti (ti (ti trivial)))))) (an (ti (ti (an (ncoat_isName_ok k ((a0.getD x10.toNat default).Name) _ h292) (ti (ti trivial))))) (an (not_f h293) (an (ti (ti (an (show (True ∧ 0 ≤ x10 ∧ 0 ≤ (x10).toNat ∧ (x10).toNat ≤ a0.length ∧ (x10).toNat * 3 ≤ List.length (List.flatMap c_SMaterial a0)) ∧ VV.tr (List.take (((x10).toNat - 0) * 3) (List.drop (0 * 3) (List.flatMap c_SMaterial a0))) ((x10).toNat - 0) = VV.tr (List.flatMap c_SMaterial (sl a0 0 ((x10).toNat))) ((sl a0 0 ((x10).toNat)).length) from ⟨⟨trivial, (by have := h294; omega), (by have := h294; omega), (by have := h294; omega), (by rw [flatMap_len len_c_SMaterial]; have := h294; omega)⟩, (by exact sl_flat len_c_SMaterial a0 0 ((x10).toNat) (by have := h294; omega) (by have := h294; omega))⟩) (ti (ti (an (ncoat_find_ok k (sl a0 0 ((x10).toNat)) ((a0.getD x10.toNat default).Name) _ h296) (ti (ti trivial)))))))) (an (decide_eq_false h297) (an (ti (ti (an (show VC Go.Proofs.Try.prog 83 [vi 1, vi 1000000, VV.ag [vi (((a0.getD x10.toNat default).PerCount).Lo), vi (((a0.getD x10.toNat default).PerCount).Hi)]] (vb r298) from (VC.args (ncoat_isWithin_ok k 1 1000000 (⟨((a0.getD x10.toNat default).PerCount).Lo, ((a0.getD x10.toNat default).PerCount).Hi⟩ : SRange) _ h299) (by first | rfl | simp only [drop0, unfr_vi, unfr_vb, unfr_vs, List.map_cons, List.map_nil, un_i, un_k, un_b, un_s, un_tr, un_fr, List.length_map, List.length_replicate, List.length_append, List.length_set, List.length_cons, List.length_nil, unfr_c_SMaterial, unfr_c_SRange]))) (ti (ti trivial))))) (an (not_f h300) trivial))))))) (ti (ti trivial))))) (ti trivial)) (by kernel_rfl)
                      cases r with
                      | inl r => exact round_next pm pn hv hq h2
                      | inr r =>
                        exact round_next pm pn hv hq h2
                    · rw [if_neg h300] at h
                      injection h with h; subst h
                      exact round_stop (c := ⟨[(2, none)], [], []⟩) (s1 := ⟨mkA [(2, vi 2)], [], .nil⟩) pm pn (ans := [.reg [.n], .br true, .reg [.n, .n, .v (VV.ag [vs ((a0.getD x10.toNat default).Name), vi (((a0.getD x10.toNat default).PerCount).Lo), vi (((a0.getD x10.toNat default).PerCount).Hi)]), .n, .n, .n], .reg [.n, .n, .call (vb r291), .n, .n], .br false, .reg [.n, .n, .v (VV.tr (List.flatMap c_SMaterial (sl a0 0 ((x10).toNat))) ((sl a0 0 ((x10).toNat)).length)), .n, .n, .call (vi r295), .n, .n], .br false, .reg [.n, .n, .call (vb r298), .n, .n], .br true, .reg [.n]]) (by kernel_rfl) (by intro e; cases e) (an (an (ti trivial) (an (an (decide_eq_true h289) trivial) (an (ti (an h290 (an (show loadL Go.Proofs.Try.prog 54 (x10.toNat * 3) (List.flatMap c_SMaterial a0) = some (VV.ag [vs ((a0.getD x10.toNat default).Name), vi (((a0.getD x10.toNat default).PerCount).Lo), vi (((a0.getD x10.toNat default).PerCount).Hi)]) from ld_whole ag54 c_SMaterial 3 sz54 len_c_SMaterial a0 default h290 (by omega)) (ti (ti (ti trivial)))))) (an (ti (ti (an (ncoat_isName_ok k ((a0.getD x10.toNat default).Name) _ h292) (ti (ti trivial))))) (an (not_f h293) (an (ti (ti (an (show (True ∧ 0 ≤ x10 ∧ 0 ≤ (x10).toNat ∧ (x10).toNat ≤ a0.length ∧ (x10).toNat * 3 ≤ List.length (List.flatMap c_SMaterial a0)) ∧ VV.tr (List.take (((x10).toNat - 0) * 3) (List.drop (0 * 3) (List.flatMap c_SMaterial a0))) ((x10).toNat - 0) = VV.tr (List.flatMap c_SMaterial (sl a0 0 ((x10).toNat))) ((sl a0 0 ((x10).toNat)).length) from ⟨⟨trivial, (by have := h294; omega), (by have := h294; omega), (by have := h294; omega), (by rw [flatMap_len len_c_SMaterial]; have := h294; omega)⟩, (by exact sl_flat len_c_SMaterial a0 0 ((x10).toNat) (by have := h294; omega) (by have := h294; omega))⟩) (ti (ti (an (ncoat_find_ok k (sl a0 0 ((x10).toNat)) ((a0.getD x10.toNat default).Name) _ h296) (ti (ti trivial)))))))) (an (decide_eq_false h297) (an (ti (ti (an (show VC Go.Proofs.Try.prog 83 [vi 1, vi 1000000, VV.ag [vi (((a0.getD x10.toNat default).PerCount).Lo), vi (((a0.getD x10.toNat default).PerCount).Hi)]] (vb r298) from (VC.args (ncoat_isWithin_ok k 1 1000000 (⟨((a0.getD x10.toNat default).PerCount).Lo, ((a0.getD x10.toNat default).PerCount).Hi⟩ : SRange) _ h299) (by first | rfl | simp only [drop0, unfr_vi, unfr_vb, unfr_vs, List.map_cons, List.map_nil, un_i, un_k, un_b, un_s, un_tr, un_fr, List.length_map, List.length_replicate, List.length_append, List.length_set, List.length_cons, List.length_nil, unfr_c_SMaterial, unfr_c_SRange]))) (ti (ti trivial))))) (an (not_t (bool_f h300)) (an (ti trivial) trivial)))))))))) (ti trivial))
            · rw [if_neg h294] at h; cases h
          · rw [if_neg h293] at h
            injection h with h; subst h
            exact round_stop (c := ⟨[(2, none)], [], []⟩) (s1 := ⟨mkA [(2, vi 4)], [], .nil⟩) pm pn (ans := [.reg [.n], .br true, .reg [.n, .n, .v (VV.ag [vs ((a0.getD x10.toNat default).Name), vi (((a0.getD x10.toNat default).PerCount).Lo), vi (((a0.getD x10.toNat default).PerCount).Hi)]), .n, .n, .n], .reg [.n, .n, .call (vb r291), .n, .n], .br true, .reg [.n]]) (by kernel_rfl) (by intro e; cases e) (an (an (ti trivial) (an (an (decide_eq_true h289) trivial) (an (ti (an h290 (an (show loadL Go.Proofs.Try.prog 54 (x10.toNat * 3) (List.flatMap c_SMaterial a0) = some (VV.ag [vs ((a0.getD x10.toNat default).Name), vi (((a0.getD x10.toNat default).PerCount).Lo), vi (((a0.getD x10.toNat default).PerCount).Hi)]) from ld_whole ag54 c_SMaterial 3 sz54 len_c_SMaterial a0 default h290 (by omega)) (ti (ti (ti trivial)))))) (an (ti (ti (an (ncoat_isName_ok k ((a0.getD x10.toNat default).Name) _ h292) (ti (ti trivial))))) (an (not_t (bool_f h293)) (an (ti trivial) trivial)))))) (ti trivial))
      · rw [if_neg h290] at h; cases h
    · rw [if_neg h289] at h
      injection h with h; subst h
      exact round_stop (c := ⟨[], [], []⟩) (s1 := ⟨mkA [], [], .nil⟩) pm pn (ans := [.reg [.n], .br false]) (by kernel_rfl) (by intro e; cases e) (an (an (ti trivial) (an (decide_eq_false h289) trivial)) (ti trivial))
def ncoat_CheckMaterials (k : Nat) (a0 : (List SMaterial)) : Option Int :=
  if 40 < (a0.length : Int) then (some 8) else ((ncoat_CheckMaterials_l0_0 k a0 k 0).bind fun r302 => (match r302 with | .inl r303 => (some r303) | .inr r304 => (some 0)))
set_option maxRecDepth 100000 in
set_option maxHeartbeats 4000000 in
theorem ncoat_CheckMaterials_ok (k : Nat) (a0 : (List SMaterial)) (r : Int) (h : ncoat_CheckMaterials k a0 = some r) : VC Go.Proofs.Try.prog 25 [VV.tr (List.flatMap c_SMaterial a0) a0.length] (vi r) := by
  unfold ncoat_CheckMaterials at h
  by_cases h264 : 40 < (a0.length : Int)
  · rw [if_pos h264] at h
    injection h with h; subst h
    exact fun_ok pm pn Go.Proofs.Try.func25 (r0 := vi 8) (ans := [.reg [.n], .reg [.n, .n, .n], .br true, .reg [.n]]) (fr := true) (by kernel_rfl) (an (an (ti trivial) (an (ti (ti (ti trivial))) (an (decide_eq_true h264) (an (ti trivial) trivial)))) (ti trivial)) (Wv.refl _)
  · rw [if_neg h264] at h
    cases h301 : ncoat_CheckMaterials_l0_0 k a0 k 0 with
    | none => rw [h301] at h; cases h
    | some r302 =>
      rw [h301, Option.bind_some] at h
      have hph301 := ncoat_CheckMaterials_l0_0_ok k a0 _ _ _ h301
      cases r302 with
      | inl r303 =>
        dsimp only at h
        injection h with h; subst h
        exact fun_ok pm pn Go.Proofs.Try.func25 (r0 := vi r303) (ans := [.reg [.n], .reg [.n, .n, .n], .br false, .reg [.n, .n, .n], .sub ⟨[(0, none), (8, none), (9, none), (10, none)], [], []⟩ .ret ⟨mkA [(2, vi r303)], [], .nil⟩]) (fr := true) (by kernel_rfl) (an (an (ti trivial) (an (an (ti (ti (ti trivial))) (an (decide_eq_false h264) trivial)) (an (ti (ti (ti trivial))) (an (ti trivial) (VRun.loop hph301))))) (ti trivial)) (Wv.refl _)
      | inr r304 =>
        dsimp only at h
        injection h with h; subst h
        exact fun_ok pm pn Go.Proofs.Try.func25 (r0 := vi 0) (ans := [.reg [.n], .reg [.n, .n, .n], .br false, .reg [.n, .n, .n], .sub ⟨[(0, none), (8, none), (9, none), (10, none)], [], []⟩ (.exit 0) ⟨mkA [], [], .nil⟩, .reg [.n]]) (fr := true) (by kernel_rfl) (an (an (ti trivial) (an (an (ti (ti (ti trivial))) (an (decide_eq_false h264) trivial)) (an (an (ti (ti (ti trivial))) (an (ti trivial) (VRun.loop hph301))) (an (ti trivial) trivial)))) (ti trivial)) (Wv.refl _)
def nnumber_size (k : Nat) (a0 : Int) : Option Int :=
  if a0 < 0 then (some (IntKind.u64.wrap (0 - (IntKind.u64.wrap a0)))) else (some (IntKind.u64.wrap a0))
set_option maxRecDepth 100000 in
set_option maxHeartbeats 4000000 in
theorem nnumber_size_ok (k : Nat) (a0 : Int) (r : Int) (h : nnumber_size k a0 = some r) : VC Go.Proofs.Try.prog 114 [vi a0] (VV.c (.int .u64 r)) := by
  unfold nnumber_size at h
  by_cases h312 : a0 < 0
  · rw [if_pos h312] at h
    injection h with h; subst h
    exact fun_ok pm pn Go.Proofs.Try.func114 (r0 := VV.c (.int .u64 (IntKind.u64.wrap (0 - (IntKind.u64.wrap a0))))) (ans := [.reg [.n], .reg [.n, .n], .br true, .reg [.n, .n, .n, .n]]) (fr := true) (by kernel_rfl) (an (an (ti trivial) (an (ti (ti trivial)) (an (decide_eq_true h312) (an (ti (ti (ti (ti trivial)))) trivial)))) (ti trivial)) (Wv.refl _)
  · rw [if_neg h312] at h
    injection h with h; subst h
    exact fun_ok pm pn Go.Proofs.Try.func114 (r0 := VV.c (.int .u64 (IntKind.u64.wrap a0))) (ans := [.reg [.n], .reg [.n, .n], .br false, .reg [.n, .n, .n]]) (fr := true) (by kernel_rfl) (an (an (ti trivial) (an (an (ti (ti trivial)) (an (decide_eq_false h312) trivial)) (an (ti (ti (ti trivial))) trivial))) (ti trivial)) (Wv.refl _)
def nnumber_CheckRange (k : Nat) (a0 : SRange) : Option Int :=
  (nnumber_size k a0.Lo).bind fun r320 => (if 1000000000000000 < r320 then (some 2) else ((nnumber_size k a0.Hi).bind fun r323 => (if 1000000000000000 < r323 then (some 2) else (if a0.Hi < a0.Lo then (some 9) else (some 0)))))
set_option maxRecDepth 100000 in
set_option maxHeartbeats 4000000 in
theorem nnumber_CheckRange_ok (k : Nat) (a0 : SRange) (r : Int) (h : nnumber_CheckRange k a0 = some r) : VC Go.Proofs.Try.prog 85 [VV.ag [vi a0.Lo, vi a0.Hi]] (vi r) := by
  unfold nnumber_CheckRange at h
  cases h321 : nnumber_size k a0.Lo with
  | none => rw [h321] at h; cases h
  | some r320 =>
    rw [h321, Option.bind_some] at h
    by_cases h322 : 1000000000000000 < r320
    · rw [if_pos h322] at h
      injection h with h; subst h
      exact fun_ok pm pn Go.Proofs.Try.func85 (r0 := vi 2) (ans := [.reg [.n, .n], .reg [.n, .n, .call (VV.c (.int .u64 r320)), .n, .n, .skip, .skip, .skip, .skip, .b true], .br true, .reg [.n]]) (fr := true) (by kernel_rfl) (an (an (ti (ti trivial)) (an (ti (ti (an (nnumber_size_ok k a0.Lo _ h321) (ti (ti (an (decide_eq_true h322) (an (decide_eq_true h322) (an (decide_eq_true h322) (an (decide_eq_true h322) (an (decide_eq_true h322) trivial)))))))))) (an rt (an (ti trivial) trivial)))) (ti trivial)) (Wv.refl _)
    · rw [if_neg h322] at h
      cases h324 : nnumber_size k a0.Hi with
      | none => rw [h324] at h; cases h
      | some r323 =>
        rw [h324, Option.bind_some] at h
        by_cases h325 : 1000000000000000 < r323
        · rw [if_pos h325] at h
          injection h with h; subst h
          exact fun_ok pm pn Go.Proofs.Try.func85 (r0 := vi 2) (ans := [.reg [.n, .n], .reg [.n, .n, .call (VV.c (.int .u64 r320)), .n, .n, .n, .n, .call (VV.c (.int .u64 r323)), .n, .b false], .br true, .reg [.n]]) (fr := true) (by kernel_rfl) (an (an (ti (ti trivial)) (an (ti (ti (an (nnumber_size_ok k a0.Lo _ h321) (ti (ti (an (an (decide_eq_false h322) trivial) (an (an (decide_eq_false h322) trivial) (an (an (decide_eq_false h322) (nnumber_size_ok k a0.Hi _ h324)) (an (an (decide_eq_false h322) trivial) (an (decide_eq_false h322) trivial)))))))))) (an (decide_eq_true h325) (an (ti trivial) trivial)))) (ti trivial)) (Wv.refl _)
        · rw [if_neg h325] at h
          by_cases h326 : a0.Hi < a0.Lo
          · rw [if_pos h326] at h
            injection h with h; subst h
            exact fun_ok pm pn Go.Proofs.Try.func85 (r0 := vi 9) (ans := [.reg [.n, .n], .reg [.n, .n, .call (VV.c (.int .u64 r320)), .n, .n, .n, .n, .call (VV.c (.int .u64 r323)), .n, .b false], .br false, .reg [.n, .n, .n, .n, .n], .br true, .reg [.n]]) (fr := true) (by kernel_rfl) (an (an (ti (ti trivial)) (an (an (ti (ti (an (nnumber_size_ok k a0.Lo _ h321) (ti (ti (an (an (decide_eq_false h322) trivial) (an (an (decide_eq_false h322) trivial) (an (an (decide_eq_false h322) (nnumber_size_ok k a0.Hi _ h324)) (an (an (decide_eq_false h322) trivial) (an (decide_eq_false h322) trivial)))))))))) (an (decide_eq_false h325) trivial)) (an (ti (ti (ti (ti (ti trivial))))) (an (decide_eq_true h326) (an (ti trivial) trivial))))) (ti trivial)) (Wv.refl _)
          · rw [if_neg h326] at h
            injection h with h; subst h
            exact fun_ok pm pn Go.Proofs.Try.func85 (r0 := vi 0) (ans := [.reg [.n, .n], .reg [.n, .n, .call (VV.c (.int .u64 r320)), .n, .n, .n, .n, .call (VV.c (.int .u64 r323)), .n, .b false], .br false, .reg [.n, .n, .n, .n, .n], .br false, .reg [.n]]) (fr := true) (by kernel_rfl) (an (an (ti (ti trivial)) (an (an (ti (ti (an (nnumber_size_ok k a0.Lo _ h321) (ti (ti (an (an (decide_eq_false h322) trivial) (an (an (decide_eq_false h322) trivial) (an (an (decide_eq_false h322) (nnumber_size_ok k a0.Hi _ h324)) (an (an (decide_eq_false h322) trivial) (an (decide_eq_false h322) trivial)))))))))) (an (decide_eq_false h325) trivial)) (an (an (ti (ti (ti (ti (ti trivial))))) (an (decide_eq_false h326) trivial)) (an (ti trivial) trivial)))) (ti trivial)) (Wv.refl _)
def ncoat_up (k : Nat) (a0 : Int) (a1 : Int) : Option Int :=
  if a1 ≠ 0 then (some (w64 ((w64 ((w64 (a0 + a1)) - 1)).tdiv a1))) else none
set_option maxRecDepth 100000 in
set_option maxHeartbeats 4000000 in
theorem ncoat_up_ok (k : Nat) (a0 : Int) (a1 : Int) (r : Int) (h : ncoat_up k a0 a1 = some r) : VC Go.Proofs.Try.prog 86 [vi a0, vi a1] (vi r) := by
  unfold ncoat_up at h
  by_cases h333 : a1 ≠ 0
  · rw [if_pos h333] at h
    injection h with h; subst h
    exact fun_ok pm pn Go.Proofs.Try.func86 (r0 := vi (w64 ((w64 ((w64 (a0 + a1)) - 1)).tdiv a1))) (ans := [.reg [.n], .reg [.n, .n, .n, .n, .n, .n, .n]]) (fr := true) (by kernel_rfl) (an (an (ti trivial) (an (ti (ti (ti (ti (ti (an h333 (ti trivial))))))) trivial)) (ti trivial)) (Wv.refl _)
  · rw [if_neg h333] at h; cases h
def ncoat_CountsFor (k : Nat) (a0 : (List SMaterial)) (a1 : ByteArray) (a2 : SRange) : Option (A44 × Int) :=
  (ncoat_CheckMaterials k a0).bind fun r338 => (if r338 = 0 then ((ncoat_find k a0 a1).bind fun r341 => (if r341 < 0 then (some ((⟨0, 0⟩ : A44), 6)) else ((nnumber_CheckRange k (⟨a2.Lo, a2.Hi⟩ : SRange)).bind fun r344 => (if r344 = 0 then (if a2.Lo < 0 then (some ((⟨0, 0⟩ : A44), 2)) else (if 0 ≤ r341 ∧ r341 < (a0.length : Int) then ((ncoat_up k a2.Lo (((a0.getD r341.toNat default).PerCount).Lo)).bind fun r349 => (if (((a0.getD r341.toNat default).PerCount).Hi) ≠ 0 then (if (minI (w64 ((w64 (a2.Hi.tdiv (((a0.getD r341.toNat default).PerCount).Hi))) - 1)) 100000) < (maxI 1 r349) then (some ((⟨0, 0⟩ : A44), 12)) else (some ((⟨maxI 1 r349, minI (w64 ((w64 (a2.Hi.tdiv (((a0.getD r341.toNat default).PerCount).Hi))) - 1)) 100000⟩ : A44), 0))) else none)) else none)) else (some ((⟨0, 0⟩ : A44), r344)))))) else (some ((⟨0, 0⟩ : A44), r338)))
set_option maxRecDepth 100000 in
set_option maxHeartbeats 4000000 in
theorem ncoat_CountsFor_ok (k : Nat) (a0 : (List SMaterial)) (a1 : ByteArray) (a2 : SRange) (r : (A44 × Int)) (h : ncoat_CountsFor k a0 a1 a2 = some r) : VC Go.Proofs.Try.prog 31 [VV.tr (List.flatMap c_SMaterial a0) a0.length, vs a1, VV.ag [vi a2.Lo, vi a2.Hi]] (VV.tu [VV.ag [vi r.1.e0, vi r.1.e1], vi r.2]) := by
  unfold ncoat_CountsFor at h
  cases h339 : ncoat_CheckMaterials k a0 with
  | none => rw [h339] at h; cases h
  | some r338 =>
    rw [h339, Option.bind_some] at h
    by_cases h340 : r338 = 0
    · rw [if_pos h340] at h
      cases h342 : ncoat_find k a0 a1 with
      | none => rw [h342] at h; cases h
      | some r341 =>
        rw [h342, Option.bind_some] at h
        by_cases h343 : r341 < 0
        · rw [if_pos h343] at h
          injection h with h; subst h
          exact fun_ok pm pn Go.Proofs.Try.func31 (r0 := VV.tu [VV.ag [vi 0, vi 0], vi 6]) (ans := [.reg [.n, .n, .n], .reg [.n, .call (vi r338), .n], .reg [.n, .n], .br false, .reg [.n, .n, .call (vi r341), .n], .reg [.n, .n], .br true, .reg [.n, .n, .n]]) (fr := true) (by kernel_rfl) (an (an (ti (ti (ti trivial))) (an (an (ti (an (ncoat_CheckMaterials_ok k a0 _ h339) (ti trivial))) (an (ti (ti trivial)) (an (not_f (decide_eq_true h340)) trivial))) (an (ti (ti (an (ncoat_find_ok k a0 a1 _ h342) (ti trivial)))) (an (ti (ti trivial)) (an (decide_eq_true h343) (an (ti (ti (ti trivial))) trivial)))))) (an (ti (ti (ti trivial))) (ti trivial))) (Wv.of_eq (by simp only [drop0, unfr_vi, unfr_vb, unfr_vs, List.map_cons, List.map_nil, un_i, un_k, un_b, un_s, un_tr, un_fr, List.length_map, List.length_replicate, List.length_append, List.length_set, List.length_cons, List.length_nil, unfr_c_SMaterial, unfr_c_SRange, unfr_c_A44]))
        · rw [if_neg h343] at h
          cases h345 : nnumber_CheckRange k (⟨a2.Lo, a2.Hi⟩ : SRange) with
          | none => rw [h345] at h; cases h
          | some r344 =>
            rw [h345, Option.bind_some] at h
            by_cases h346 : r344 = 0
            · rw [if_pos h346] at h
              by_cases h347 : a2.Lo < 0
              · rw [if_pos h347] at h
                injection h with h; subst h
                exact fun_ok pm pn Go.Proofs.Try.func31 (r0 := VV.tu [VV.ag [vi 0, vi 0], vi 2]) (ans := [.reg [.n, .n, .n], .reg [.n, .call (vi r338), .n], .reg [.n, .n], .br false, .reg [.n, .n, .call (vi r341), .n], .reg [.n, .n], .br false, .reg [.n, .call (vi r344), .n], .reg [.n, .n], .br false, .reg [.n, .n, .n], .br true, .reg [.n, .n, .n]]) (fr := true) (by kernel_rfl) (an (an (ti (ti (ti trivial))) (an (an (ti (an (ncoat_CheckMaterials_ok k a0 _ h339) (ti trivial))) (an (ti (ti trivial)) (an (not_f (decide_eq_true h340)) trivial))) (an (ti (ti (an (ncoat_find_ok k a0 a1 _ h342) (ti trivial)))) (an (an (ti (ti trivial)) (an (decide_eq_false h343) trivial)) (an (an (ti (an (show VC Go.Proofs.Try.prog 85 [VV.ag [vi a2.Lo, vi a2.Hi]] (vi r344) from (VC.args (nnumber_CheckRange_ok k (⟨a2.Lo, a2.Hi⟩ : SRange) _ h345) (by first | rfl | simp only [drop0, unfr_vi, unfr_vb, unfr_vs, List.map_cons, List.map_nil, un_i, un_k, un_b, un_s, un_tr, un_fr, List.length_map, List.length_replicate, List.length_append, List.length_set, List.length_cons, List.length_nil, unfr_c_SMaterial, unfr_c_SRange, unfr_c_A44]))) (ti trivial))) (an (ti (ti trivial)) (an (not_f (decide_eq_true h346)) trivial))) (an (ti (ti (ti trivial))) (an (decide_eq_true h347) (an (ti (ti (ti trivial))) trivial)))))))) (an (ti (ti (ti trivial))) (ti trivial))) (Wv.of_eq (by simp only [drop0, unfr_vi, unfr_vb, unfr_vs, List.map_cons, List.map_nil, un_i, un_k, un_b, un_s, un_tr, un_fr, List.length_map, List.length_replicate, List.length_append, List.length_set, List.length_cons, List.length_nil, unfr_c_SMaterial, unfr_c_SRange, unfr_c_A44]))
              · rw [if_neg h347] at h
                by_cases h348 : 0 ≤ r341 ∧ r341 < (a0.length : Int)
                · rw [if_pos h348] at h
                  cases h350 : ncoat_up k a2.Lo (((a0.getD r341.toNat default).PerCount).Lo) with
                  | none => rw [h350] at h; cases h
                  | some r349 =>
                    rw [h350, Option.bind_some] at h
                    by_cases h351 : (((a0.getD r341.toNat default).PerCount).Hi) ≠ 0
                    · rw [if_pos h351] at h
                      by_cases h352 : (minI (w64 ((w64 (a2.Hi.tdiv (((a0.getD r341.toNat default).PerCount).Hi))) - 1)) 100000) < (maxI 1 r349)
                      · rw [if_pos h352] at h
                        injection h with h; subst h
                        exact fun_ok pm pn Go.Proofs.Try.func31 (r0 := VV.tu [VV.ag [vi 0, vi 0], vi 12]) (ans := [.reg [.n, .n, .n], .reg [.n, .call (vi r338), .n], .reg [.n, .n], .br false, .reg [.n, .n, .call (vi r341), .n], .reg [.n, .n], .br false, .reg [.n, .call (vi r344), .n], .reg [.n, .n], .br false, .reg [.n, .n, .n], .br false, .reg [.n, .n, .n, .n, .v (VV.ag [vi (((a0.getD r341.toNat default).PerCount).Lo), vi (((a0.getD r341.toNat default).PerCount).Hi)]), .n, .n], .reg [.n, .n, .n, .n, .call (vi r349), .n, .n], .reg [.n, .n, .n, .n, .n, .n, .n, .n], .reg [.n, .n, .n], .br true, .reg [.n, .n, .n]]) (fr := true) (by kernel_rfl) (an (an (ti (ti (ti trivial))) (an (an (ti (an (ncoat_CheckMaterials_ok k a0 _ h339) (ti trivial))) (an (ti (ti trivial)) (an (not_f (decide_eq_true h340)) trivial))) (an (ti (ti (an (ncoat_find_ok k a0 a1 _ h342) (ti trivial)))) (an (an (ti (ti trivial)) (an (decide_eq_false h343) trivial)) (an (an (ti (an (show VC Go.Proofs.Try.prog 85 [VV.ag [vi a2.Lo, vi a2.Hi]] (vi r344) from (VC.args (nnumber_CheckRange_ok k (⟨a2.Lo, a2.Hi⟩ : SRange) _ h345) (by first | rfl | simp only [drop0, unfr_vi, unfr_vb, unfr_vs, List.map_cons, List.map_nil, un_i, un_k, un_b, un_s, un_tr, un_fr, List.length_map, List.length_replicate, List.length_append, List.length_set, List.length_cons, List.length_nil, unfr_c_SMaterial, unfr_c_SRange, unfr_c_A44]))) (ti trivial))) (an (ti (ti trivial)) (an (not_f (decide_eq_true h346)) trivial))) (an (an (ti (ti (ti trivial))) (an (decide_eq_false h347) trivial)) (an (ti (ti (an h348 (ti (an (show loadL Go.Proofs.Try.prog 28 (r341.toNat * 3 + 1) (List.flatMap c_SMaterial a0) = some (VV.ag [vi (((a0.getD r341.toNat default).PerCount).Lo), vi (((a0.getD r341.toNat default).PerCount).Hi)]) from ld_part ag28 c_SMaterial 3 1 2 sz28 len_c_SMaterial (by omega) a0 default h348 (by omega)) (ti (ti trivial))))))) (an (ti (ti (ti (ti (an (ncoat_up_ok k a2.Lo (((a0.getD r341.toNat default).PerCount).Lo) _ h350) (ti (ti trivial))))))) (an (ti (ti (ti (ti (an h351 (ti (ti (ti trivial)))))))) (an (ti (ti (ti trivial))) (an (decide_eq_true h352) (an (ti (ti (ti trivial))) trivial)))))))))))) (an (ti (ti (ti trivial))) (ti trivial))) (Wv.of_eq (by simp only [drop0, unfr_vi, unfr_vb, unfr_vs, List.map_cons, List.map_nil, un_i, un_k, un_b, un_s, un_tr, un_fr, List.length_map, List.length_replicate, List.length_append, List.length_set, List.length_cons, List.length_nil, unfr_c_SMaterial, unfr_c_SRange, unfr_c_A44]))
                      · rw [if_neg h352] at h
                        injection h with h; subst h
                        exact fun_ok pm pn Go.Proofs.Try.func31 (r0 := VV.tu [VV.ag [vi (maxI 1 r349), vi (minI (w64 ((w64 (a2.Hi.tdiv (((a0.getD r341.toNat default).PerCount).Hi))) - 1)) 100000)], vi 0]) (ans := [.reg [.n, .n, .n], .reg [.n, .call (vi r338), .n], .reg [.n, .n], .br false, .reg [.n, .n, .call (vi r341), .n], .reg [.n, .n], .br false, .reg [.n, .call (vi r344), .n], .reg [.n, .n], .br false, .reg [.n, .n, .n], .br false, .reg [.n, .n, .n, .n, .v (VV.ag [vi (((a0.getD r341.toNat default).PerCount).Lo), vi (((a0.getD r341.toNat default).PerCount).Hi)]), .n, .n], .reg [.n, .n, .n, .n, .call (vi r349), .n, .n], .reg [.n, .n, .n, .n, .n, .n, .n, .n], .reg [.n, .n, .n], .br false, .reg [.n, .n, .n, .n, .n]]) (fr := true) (by kernel_rfl) (an (an (ti (ti (ti trivial))) (an (an (ti (an (ncoat_CheckMaterials_ok k a0 _ h339) (ti trivial))) (an (ti (ti trivial)) (an (not_f (decide_eq_true h340)) trivial))) (an (ti (ti (an (ncoat_find_ok k a0 a1 _ h342) (ti trivial)))) (an (an (ti (ti trivial)) (an (decide_eq_false h343) trivial)) (an (an (ti (an (show VC Go.Proofs.Try.prog 85 [VV.ag [vi a2.Lo, vi a2.Hi]] (vi r344) from (VC.args (nnumber_CheckRange_ok k (⟨a2.Lo, a2.Hi⟩ : SRange) _ h345) (by first | rfl | simp only [drop0, unfr_vi, unfr_vb, unfr_vs, List.map_cons, List.map_nil, un_i, un_k, un_b, un_s, un_tr, un_fr, List.length_map, List.length_replicate, List.length_append, List.length_set, List.length_cons, List.length_nil, unfr_c_SMaterial, unfr_c_SRange, unfr_c_A44]))) (ti trivial))) (an (ti (ti trivial)) (an (not_f (decide_eq_true h346)) trivial))) (an (an (ti (ti (ti trivial))) (an (decide_eq_false h347) trivial)) (an (ti (ti (an h348 (ti (an (show loadL Go.Proofs.Try.prog 28 (r341.toNat * 3 + 1) (List.flatMap c_SMaterial a0) = some (VV.ag [vi (((a0.getD r341.toNat default).PerCount).Lo), vi (((a0.getD r341.toNat default).PerCount).Hi)]) from ld_part ag28 c_SMaterial 3 1 2 sz28 len_c_SMaterial (by omega) a0 default h348 (by omega)) (ti (ti trivial))))))) (an (ti (ti (ti (ti (an (ncoat_up_ok k a2.Lo (((a0.getD r341.toNat default).PerCount).Lo) _ h350) (ti (ti trivial))))))) (an (ti (ti (ti (ti (an h351 (ti (ti (ti trivial)))))))) (an (an (ti (ti (ti trivial))) (an (decide_eq_false h352) trivial)) (an (ti (ti (ti (ti (ti trivial))))) trivial))))))))))) (an (ti (ti (ti trivial))) (ti trivial))) (Wv.of_eq (by simp only [drop0, unfr_vi, unfr_vb, unfr_vs, List.map_cons, List.map_nil, un_i, un_k, un_b, un_s, un_tr, un_fr, List.length_map, List.length_replicate, List.length_append, List.length_set, List.length_cons, List.length_nil, unfr_c_SMaterial, unfr_c_SRange, unfr_c_A44]))
                    · rw [if_neg h351] at h; cases h
                · rw [if_neg h348] at h; cases h
            · rw [if_neg h346] at h
              injection h with h; subst h
              exact fun_ok pm pn Go.Proofs.Try.func31 (r0 := VV.tu [VV.ag [vi 0, vi 0], vi r344]) (ans := [.reg [.n, .n, .n], .reg [.n, .call (vi r338), .n], .reg [.n, .n], .br false, .reg [.n, .n, .call (vi r341), .n], .reg [.n, .n], .br false, .reg [.n, .call (vi r344), .n], .reg [.n, .n], .br true, .reg [.n, .n, .n, .n]]) (fr := true) (by kernel_rfl) (an (an (ti (ti (ti trivial))) (an (an (ti (an (ncoat_CheckMaterials_ok k a0 _ h339) (ti trivial))) (an (ti (ti trivial)) (an (not_f (decide_eq_true h340)) trivial))) (an (ti (ti (an (ncoat_find_ok k a0 a1 _ h342) (ti trivial)))) (an (an (ti (ti trivial)) (an (decide_eq_false h343) trivial)) (an (ti (an (show VC Go.Proofs.Try.prog 85 [VV.ag [vi a2.Lo, vi a2.Hi]] (vi r344) from (VC.args (nnumber_CheckRange_ok k (⟨a2.Lo, a2.Hi⟩ : SRange) _ h345) (by first | rfl | simp only [drop0, unfr_vi, unfr_vb, unfr_vs, List.map_cons, List.map_nil, un_i, un_k, un_b, un_s, un_tr, un_fr, List.length_map, List.length_replicate, List.length_append, List.length_set, List.length_cons, List.length_nil, unfr_c_SMaterial, unfr_c_SRange, unfr_c_A44]))) (ti trivial))) (an (ti (ti trivial)) (an (not_t (decide_eq_false h346)) (an (ti (ti (ti (ti trivial)))) trivial)))))))) (an (ti (ti (ti trivial))) (ti trivial))) (Wv.of_eq (by simp only [drop0, unfr_vi, unfr_vb, unfr_vs, List.map_cons, List.map_nil, un_i, un_k, un_b, un_s, un_tr, un_fr, List.length_map, List.length_replicate, List.length_append, List.length_set, List.length_cons, List.length_nil, unfr_c_SMaterial, unfr_c_SRange, unfr_c_A44]))
    · rw [if_neg h340] at h
      injection h with h; subst h
      exact fun_ok pm pn Go.Proofs.Try.func31 (r0 := VV.tu [VV.ag [vi 0, vi 0], vi r338]) (ans := [.reg [.n, .n, .n], .reg [.n, .call (vi r338), .n], .reg [.n, .n], .br true, .reg [.n, .n, .n, .n]]) (fr := true) (by kernel_rfl) (an (an (ti (ti (ti trivial))) (an (ti (an (ncoat_CheckMaterials_ok k a0 _ h339) (ti trivial))) (an (ti (ti trivial)) (an (not_t (decide_eq_false h340)) (an (ti (ti (ti (ti trivial)))) trivial))))) (an (ti (ti (ti trivial))) (ti trivial))) (Wv.of_eq (by simp only [drop0, unfr_vi, unfr_vb, unfr_vs, List.map_cons, List.map_nil, un_i, un_k, un_b, un_s, un_tr, un_fr, List.length_map, List.length_replicate, List.length_append, List.length_set, List.length_cons, List.length_nil, unfr_c_SMaterial, unfr_c_SRange, unfr_c_A44]))
def nspeculumbase_isLetter (k : Nat) (a0 : Int) : Option Bool :=
  if 97 ≤ a0 then (if a0 ≤ 122 then (some true) else (if 65 ≤ a0 then (some (decide (a0 ≤ 90))) else (some false))) else (if 65 ≤ a0 then (some (decide (a0 ≤ 90))) else (some false))
set_option maxRecDepth 100000 in
set_option maxHeartbeats 4000000 in
theorem nspeculumbase_isLetter_ok (k : Nat) (a0 : Int) (r : Bool) (h : nspeculumbase_isLetter k a0 = some r) : VC Go.Proofs.Try.prog 109 [VV.c (.int .u8 a0)] (vb r) := by
  unfold nspeculumbase_isLetter at h
  by_cases h363 : 97 ≤ a0
  · rw [if_pos h363] at h
    by_cases h364 : a0 ≤ 122
    · rw [if_pos h364] at h
      injection h with h; subst h
      exact fun_ok pm pn Go.Proofs.Try.func109 (r0 := vb true) (ans := [.reg [.n], .reg [.n, .n, .n, .n, .n, .b true, .n, .skip, .skip, .skip, .skip, .skip, .skip, .b true, .n]]) (fr := true) (by kernel_rfl) (an (an (ti trivial) (an (ti (ti (ti (an (an (decide_eq_true h363) trivial) (an (an (decide_eq_true h363) trivial) (an (decide_eq_true h363) (ti (an (decide_eq_true h364) (an (decide_eq_true h364) (an (decide_eq_true h364) (ti (ti (an (decide_eq_true h364) (an (decide_eq_true h364) (ti trivial))))))))))))))) trivial)) (ti trivial)) (Wv.refl _)
    · rw [if_neg h364] at h
      by_cases h365 : 65 ≤ a0
      · rw [if_pos h365] at h
        injection h with h; subst h
        exact fun_ok pm pn Go.Proofs.Try.func109 (r0 := vb (decide (a0 ≤ 90))) (ans := [.reg [.n], .reg [.n, .n, .n, .n, .n, .b true, .n, .n, .n, .n, .n, .n, .b true, .b false, .n]]) (fr := true) (by kernel_rfl) (an (an (ti trivial) (an (ti (ti (ti (an (an (decide_eq_true h363) trivial) (an (an (decide_eq_true h363) trivial) (an (decide_eq_true h363) (ti (an (an (decide_eq_false h364) trivial) (an (an (decide_eq_false h364) trivial) (an (an (decide_eq_false h364) trivial) (an (an (decide_eq_true h365) trivial) (an (an (decide_eq_true h365) trivial) (an (an (decide_eq_false h364) (decide_eq_true h365)) (an (decide_eq_false h364) (ti trivial))))))))))))))) trivial)) (ti trivial)) (Wv.refl _)
      · rw [if_neg h365] at h
        injection h with h; subst h
        exact fun_ok pm pn Go.Proofs.Try.func109 (r0 := vb false) (ans := [.reg [.n], .reg [.n, .n, .n, .n, .n, .b true, .n, .n, .n, .n, .skip, .skip, .b false, .b false, .n]]) (fr := true) (by kernel_rfl) (an (an (ti trivial) (an (ti (ti (ti (an (an (decide_eq_true h363) trivial) (an (an (decide_eq_true h363) trivial) (an (decide_eq_true h363) (ti (an (an (decide_eq_false h364) trivial) (an (an (decide_eq_false h364) trivial) (an (an (decide_eq_false h364) trivial) (an (decide_eq_false h365) (an (decide_eq_false h365) (an (an (decide_eq_false h364) (decide_eq_false h365)) (an (decide_eq_false h364) (ti trivial))))))))))))))) trivial)) (ti trivial)) (Wv.refl _)
  · rw [if_neg h363] at h
    by_cases h366 : 65 ≤ a0
    · rw [if_pos h366] at h
      injection h with h; subst h
      exact fun_ok pm pn Go.Proofs.Try.func109 (r0 := vb (decide (a0 ≤ 90))) (ans := [.reg [.n], .reg [.n, .n, .n, .skip, .skip, .b false, .n, .n, .n, .n, .n, .n, .b true, .b false, .n]]) (fr := true) (by kernel_rfl) (an (an (ti trivial) (an (ti (ti (ti (an (decide_eq_false h363) (an (decide_eq_false h363) (an (decide_eq_false h363) (ti (an (an rf trivial) (an (an rf trivial) (an (an rf trivial) (an (an (decide_eq_true h366) trivial) (an (an (decide_eq_true h366) trivial) (an (an rf (decide_eq_true h366)) (an rf (ti trivial))))))))))))))) trivial)) (ti trivial)) (Wv.refl _)
    · rw [if_neg h366] at h
      injection h with h; subst h
      exact fun_ok pm pn Go.Proofs.Try.func109 (r0 := vb false) (ans := [.reg [.n], .reg [.n, .n, .n, .skip, .skip, .b false, .n, .n, .n, .n, .skip, .skip, .b false, .b false, .n]]) (fr := true) (by kernel_rfl) (an (an (ti trivial) (an (ti (ti (ti (an (decide_eq_false h363) (an (decide_eq_false h363) (an (decide_eq_false h363) (ti (an (an rf trivial) (an (an rf trivial) (an (an rf trivial) (an (decide_eq_false h366) (an (decide_eq_false h366) (an (an rf (decide_eq_false h366)) (an rf (ti trivial))))))))))))))) trivial)) (ti trivial)) (Wv.refl _)
def nspeculumbase_isDigit (k : Nat) (a0 : Int) : Option Bool :=
  if 48 ≤ a0 then (some (decide (a0 ≤ 57))) else (some false)
set_option maxRecDepth 100000 in
set_option maxHeartbeats 4000000 in
theorem nspeculumbase_isDigit_ok (k : Nat) (a0 : Int) (r : Bool) (h : nspeculumbase_isDigit k a0 = some r) : VC Go.Proofs.Try.prog 110 [VV.c (.int .u8 a0)] (vb r) := by
  unfold nspeculumbase_isDigit at h
  by_cases h376 : 48 ≤ a0
  · rw [if_pos h376] at h
    injection h with h; subst h
    exact fun_ok pm pn Go.Proofs.Try.func110 (r0 := vb (decide (a0 ≤ 57))) (ans := [.reg [.n], .reg [.n, .n, .n, .n, .n, .b true, .n]]) (fr := true) (by kernel_rfl) (an (an (ti trivial) (an (ti (ti (ti (an (an (decide_eq_true h376) trivial) (an (an (decide_eq_true h376) trivial) (an (decide_eq_true h376) (ti trivial))))))) trivial)) (ti trivial)) (Wv.refl _)
  · rw [if_neg h376] at h
    injection h with h; subst h
    exact fun_ok pm pn Go.Proofs.Try.func110 (r0 := vb false) (ans := [.reg [.n], .reg [.n, .n, .n, .skip, .skip, .b false, .n]]) (fr := true) (by kernel_rfl) (an (an (ti trivial) (an (ti (ti (ti (an (decide_eq_false h376) (an (decide_eq_false h376) (an (decide_eq_false h376) (ti trivial))))))) trivial)) (ti trivial)) (Wv.refl _)
def nspeculumbase_IsName_l0_0 (k : Nat) (a0 : ByteArray) : Nat → Int → Option (Sum Unit Unit)
  | 0, _ => none
  | fuel + 1, x3 => if x3 < (a0.size : Int) then (if 0 ≤ x3 ∧ x3 < (a0.size : Int) then ((nspeculumbase_isLetter k (bat a0 x3)).bind fun r429 => (if r429 = true then (nspeculumbase_IsName_l0_0 k a0 fuel (w64 (x3 + 1))) else ((nspeculumbase_isDigit k (bat a0 x3)).bind fun r432 => (if r432 = true then (nspeculumbase_IsName_l0_0 k a0 fuel (w64 (x3 + 1))) else (if (bat a0 x3) = 45 then (nspeculumbase_IsName_l0_0 k a0 fuel (w64 (x3 + 1))) else (some (.inl ()))))))) else none) else (some (.inr ()))
set_option maxRecDepth 100000 in
set_option maxHeartbeats 4000000 in
theorem nspeculumbase_IsName_l0_0_ok (k : Nat) (a0 : ByteArray) : ∀ (fuel : Nat) (x3 : Int) (r : Sum Unit Unit), nspeculumbase_IsName_l0_0 k a0 fuel x3 = some r → (match r with | .inl r => VLoop none Go.Proofs.Try.prog (szF Go.Proofs.Try.f80) (bodyOf Go.Proofs.Try.f80 0) ⟨mkA [(0, vs a0), (3, vi x3)], [], .nil⟩ .ret ⟨mkA [(2, vb false)], [], .nil⟩ | .inr r => VLoop none Go.Proofs.Try.prog (szF Go.Proofs.Try.f80) (bodyOf Go.Proofs.Try.f80 0) ⟨mkA [(0, vs a0), (3, vi x3)], [], .nil⟩ (.exit 0) ⟨mkA [], [], .nil⟩) := by
  intro fuel
  induction fuel with
  | zero => intro x3 r h; rw [nspeculumbase_IsName_l0_0.eq_1] at h; cases h
  | succ fuel ih =>
    intro x3 r h
    rw [nspeculumbase_IsName_l0_0.eq_2] at h
    by_cases h427 : x3 < (a0.size : Int)
    · rw [if_pos h427] at h
      by_cases h428 : 0 ≤ x3 ∧ x3 < (a0.size : Int)
      · rw [if_pos h428] at h
        cases h430 : nspeculumbase_isLetter k (bat a0 x3) with
        | none => rw [h430] at h; cases h
        | some r429 =>
          rw [h430, Option.bind_some] at h
          by_cases h431 : r429 = true
          · rw [if_pos h431] at h
            have h2 := ih _ _ h
            obtain ⟨q, hv, hq⟩ := pkR (rd := none) (P := Go.Proofs.Try.prog) (fn := Go.Proofs.Try.f80) (k := 0) (s := ⟨mkA [(0, vs a0), (3, vi x3)], [], .nil⟩) (ans := [.reg [.n, .n, .n, .n], .br true, .reg [.n, .n, .n, .call (vb r429), .n, .n, .skip, .skip, .skip, .skip, .skip, .b false, .n, .skip, .skip, .skip, .skip, .b false], .br false, .reg [.n, .n, .n]]) (c := ⟨[(0, none), (3, none)], [], []⟩) (e := .normal) (s1 := ⟨mkA [(0, vs a0), (3, vi (w64 (x3 + 1)))], [], .nil⟩) (an (an (an (ti (ti (ti (ti trivial)))) (an (decide_eq_true h427) trivial)) (an (an (ti (ti (an h428 (an (nspeculumbase_isLetter_ok k (bat a0 x3) _ h430) (ti (ti (an (not_f h431) (an (not_f h431) (an (not_f h431) (an (not_f h431) (an (not_f h431) (an (not_f h431) (ti (an rf (an rf (an rf (an rf (an rf trivial)))))))))))))))))) (an rf trivial)) (ti (ti (ti trivial))))) (ti trivial)) (by kernel_rfl)
            cases r with
            | inl r => exact round_next pm pn hv hq h2
            | inr r =>
              exact round_next pm pn hv hq h2
          · rw [if_neg h431] at h
            cases h433 : nspeculumbase_isDigit k (bat a0 x3) with
            | none => rw [h433] at h; cases h
            | some r432 =>
              rw [h433, Option.bind_some] at h
              by_cases h434 : r432 = true
              · rw [if_pos h434] at h
                have h2 := ih _ _ h
                obtain ⟨q, hv, hq⟩ := pkR (rd := none) (P := Go.Proofs.Try.prog) (fn := Go.Proofs.Try.f80) (k := 0) (s := ⟨mkA [(0, vs a0), (3, vi x3)], [], .nil⟩) (ans := [.reg [.n, .n, .n, .n], .br true, .reg [.n, .n, .n, .call (vb r429), .n, .n, .n, .n, .n, .call (vb r432), .n, .b true, .n, .skip, .skip, .skip, .skip, .b false], .br false, .reg [.n, .n, .n]]) (c := ⟨[(0, none), (3, none)], [], []⟩) (e := .normal) (s1 := ⟨mkA [(0, vs a0), (3, vi (w64 (x3 + 1)))], [], .nil⟩) (an (an (an (ti (ti (ti (ti trivial)))) (an (decide_eq_true h427) trivial)) (an (an (ti (ti (an h428 (an (nspeculumbase_isLetter_ok k (bat a0 x3) _ h430) (ti (ti (an (an (not_t (bool_f h431)) trivial) (an (an (not_t (bool_f h431)) trivial) (an (an (not_t (bool_f h431)) h428) (an (an (not_t (bool_f h431)) (nspeculumbase_isDigit_ok k (bat a0 x3) _ h433)) (an (an (not_t (bool_f h431)) trivial) (an (not_t (bool_f h431)) (ti (an (not_f h434) (an (not_f h434) (an (not_f h434) (an (not_f h434) (an (not_f h434) trivial)))))))))))))))))) (an rf trivial)) (ti (ti (ti trivial))))) (ti trivial)) (by kernel_rfl)
                cases r with
                | inl r => exact round_next pm pn hv hq h2
                | inr r =>
                  exact round_next pm pn hv hq h2
              · rw [if_neg h434] at h
                by_cases h435 : (bat a0 x3) = 45
                · rw [if_pos h435] at h
                  have h2 := ih _ _ h
                  obtain ⟨q, hv, hq⟩ := pkR (rd := none) (P := Go.Proofs.Try.prog) (fn := Go.Proofs.Try.f80) (k := 0) (s := ⟨mkA [(0, vs a0), (3, vi x3)], [], .nil⟩) (ans := [.reg [.n, .n, .n, .n], .br true, .reg [.n, .n, .n, .call (vb r429), .n, .n, .n, .n, .n, .call (vb r432), .n, .b true, .n, .n, .n, .n, .n, .b true], .br false, .reg [.n, .n, .n]]) (c := ⟨[(0, none), (3, none)], [], []⟩) (e := .normal) (s1 := ⟨mkA [(0, vs a0), (3, vi (w64 (x3 + 1)))], [], .nil⟩) (an (an (an (ti (ti (ti (ti trivial)))) (an (decide_eq_true h427) trivial)) (an (an (ti (ti (an h428 (an (nspeculumbase_isLetter_ok k (bat a0 x3) _ h430) (ti (ti (an (an (not_t (bool_f h431)) trivial) (an (an (not_t (bool_f h431)) trivial) (an (an (not_t (bool_f h431)) h428) (an (an (not_t (bool_f h431)) (nspeculumbase_isDigit_ok k (bat a0 x3) _ h433)) (an (an (not_t (bool_f h431)) trivial) (an (not_t (bool_f h431)) (ti (an (an (not_t (bool_f h434)) trivial) (an (an (not_t (bool_f h434)) trivial) (an (an (not_t (bool_f h434)) h428) (an (an (not_t (bool_f h434)) trivial) (an (not_t (bool_f h434)) trivial)))))))))))))))))) (an (not_f (decide_eq_true h435)) trivial)) (ti (ti (ti trivial))))) (ti trivial)) (by kernel_rfl)
                  cases r with
                  | inl r => exact round_next pm pn hv hq h2
                  | inr r =>
                    exact round_next pm pn hv hq h2
                · rw [if_neg h435] at h
                  injection h with h; subst h
                  exact round_stop (c := ⟨[(2, none)], [], []⟩) (s1 := ⟨mkA [(2, vb false)], [], .nil⟩) pm pn (ans := [.reg [.n, .n, .n, .n], .br true, .reg [.n, .n, .n, .call (vb r429), .n, .n, .n, .n, .n, .call (vb r432), .n, .b true, .n, .n, .n, .n, .n, .b true], .br true, .reg [.n]]) (by kernel_rfl) (by intro e; cases e) (an (an (an (ti (ti (ti (ti trivial)))) (an (decide_eq_true h427) trivial)) (an (ti (ti (an h428 (an (nspeculumbase_isLetter_ok k (bat a0 x3) _ h430) (ti (ti (an (an (not_t (bool_f h431)) trivial) (an (an (not_t (bool_f h431)) trivial) (an (an (not_t (bool_f h431)) h428) (an (an (not_t (bool_f h431)) (nspeculumbase_isDigit_ok k (bat a0 x3) _ h433)) (an (an (not_t (bool_f h431)) trivial) (an (not_t (bool_f h431)) (ti (an (an (not_t (bool_f h434)) trivial) (an (an (not_t (bool_f h434)) trivial) (an (an (not_t (bool_f h434)) h428) (an (an (not_t (bool_f h434)) trivial) (an (not_t (bool_f h434)) trivial)))))))))))))))))) (an (not_t (decide_eq_false h435)) (an (ti trivial) trivial)))) (ti trivial))
      · rw [if_neg h428] at h; cases h
    · rw [if_neg h427] at h
      injection h with h; subst h
      exact round_stop (c := ⟨[], [], []⟩) (s1 := ⟨mkA [], [], .nil⟩) pm pn (ans := [.reg [.n, .n, .n, .n], .br false]) (by kernel_rfl) (by intro e; cases e) (an (an (ti (ti (ti (ti trivial)))) (an (decide_eq_false h427) trivial)) (ti trivial))
def nspeculumbase_IsName (k : Nat) (a0 : ByteArray) : Option Bool :=
  if (a0.size : Int) = 0 then (some false) else (if 12 < (a0.size : Int) then (some false) else (if (0 : Int) ≤ 0 ∧ 0 < (a0.size : Int) then ((nspeculumbase_isLetter k (bat a0 0)).bind fun r406 => (if r406 = true then ((nspeculumbase_IsName_l0_0 k a0 k 0).bind fun r437 => (match r437 with | .inl r438 => (some false) | .inr r439 => (some true))) else (some false))) else none))
set_option maxRecDepth 100000 in
set_option maxHeartbeats 4000000 in
theorem nspeculumbase_IsName_ok (k : Nat) (a0 : ByteArray) (r : Bool) (h : nspeculumbase_IsName k a0 = some r) : VC Go.Proofs.Try.prog 80 [vs a0] (vb r) := by
  unfold nspeculumbase_IsName at h
  by_cases h403 : (a0.size : Int) = 0
  · rw [if_pos h403] at h
    injection h with h; subst h
    exact fun_ok pm pn Go.Proofs.Try.func80 (r0 := vb false) (ans := [.reg [.n], .reg [.n, .n, .n, .n, .skip, .skip, .skip, .b true, .n, .skip, .skip, .skip, .skip, .b true], .br true, .reg [.n]]) (fr := true) (by kernel_rfl) (an (an (ti trivial) (an (ti (ti (ti (ti (an (decide_eq_true h403) (an (decide_eq_true h403) (an (decide_eq_true h403) (an (decide_eq_true h403) (ti (an rt (an rt (an rt (an rt (an rt trivial)))))))))))))) (an rt (an (ti trivial) trivial)))) (ti trivial)) (Wv.refl _)
  · rw [if_neg h403] at h
    by_cases h404 : 12 < (a0.size : Int)
    · rw [if_pos h404] at h
      injection h with h; subst h
      exact fun_ok pm pn Go.Proofs.Try.func80 (r0 := vb false) (ans := [.reg [.n], .reg [.n, .n, .n, .n, .n, .n, .n, .b false, .n, .skip, .skip, .skip, .skip, .b true], .br true, .reg [.n]]) (fr := true) (by kernel_rfl) (an (an (ti trivial) (an (ti (ti (ti (ti (an (an (decide_eq_false h403) trivial) (an (an (decide_eq_false h403) trivial) (an (an (decide_eq_false h403) trivial) (an (decide_eq_false h403) (ti (an (decide_eq_true h404) (an (decide_eq_true h404) (an (decide_eq_true h404) (an (decide_eq_true h404) (an (decide_eq_true h404) trivial)))))))))))))) (an rt (an (ti trivial) trivial)))) (ti trivial)) (Wv.refl _)
    · rw [if_neg h404] at h
      by_cases h405 : (0 : Int) ≤ 0 ∧ 0 < (a0.size : Int)
      · rw [if_pos h405] at h
        cases h407 : nspeculumbase_isLetter k (bat a0 0) with
        | none => rw [h407] at h; cases h
        | some r406 =>
          rw [h407, Option.bind_some] at h
          by_cases h408 : r406 = true
          · rw [if_pos h408] at h
            cases h436 : nspeculumbase_IsName_l0_0 k a0 k 0 with
            | none => rw [h436] at h; cases h
            | some r437 =>
              rw [h436, Option.bind_some] at h
              have hph436 := nspeculumbase_IsName_l0_0_ok k a0 _ _ _ h436
              cases r437 with
              | inl r438 =>
                dsimp only at h
                injection h with h; subst h
                exact fun_ok pm pn Go.Proofs.Try.func80 (r0 := vb false) (ans := [.reg [.n], .reg [.n, .n, .n, .n, .n, .n, .n, .b false, .n, .n, .n, .call (vb r406), .n, .b false], .br false, .reg [.n], .sub ⟨[(0, none), (3, none)], [], []⟩ .ret ⟨mkA [(2, vb false)], [], .nil⟩]) (fr := true) (by kernel_rfl) (an (an (ti trivial) (an (an (ti (ti (ti (ti (an (an (decide_eq_false h403) trivial) (an (an (decide_eq_false h403) trivial) (an (an (decide_eq_false h403) trivial) (an (decide_eq_false h403) (ti (an (an (decide_eq_false h404) trivial) (an (an (decide_eq_false h404) h405) (an (an (decide_eq_false h404) (nspeculumbase_isLetter_ok k (bat a0 0) _ h407)) (an (an (decide_eq_false h404) trivial) (an (decide_eq_false h404) trivial)))))))))))))) (an (not_f h408) trivial)) (an (ti trivial) (an (ti trivial) (VRun.loop hph436))))) (ti trivial)) (Wv.refl _)
              | inr r439 =>
                dsimp only at h
                injection h with h; subst h
                exact fun_ok pm pn Go.Proofs.Try.func80 (r0 := vb true) (ans := [.reg [.n], .reg [.n, .n, .n, .n, .n, .n, .n, .b false, .n, .n, .n, .call (vb r406), .n, .b false], .br false, .reg [.n], .sub ⟨[(0, none), (3, none)], [], []⟩ (.exit 0) ⟨mkA [], [], .nil⟩, .reg [.n]]) (fr := true) (by kernel_rfl) (an (an (ti trivial) (an (an (ti (ti (ti (ti (an (an (decide_eq_false h403) trivial) (an (an (decide_eq_false h403) trivial) (an (an (decide_eq_false h403) trivial) (an (decide_eq_false h403) (ti (an (an (decide_eq_false h404) trivial) (an (an (decide_eq_false h404) h405) (an (an (decide_eq_false h404) (nspeculumbase_isLetter_ok k (bat a0 0) _ h407)) (an (an (decide_eq_false h404) trivial) (an (decide_eq_false h404) trivial)))))))))))))) (an (not_f h408) trivial)) (an (an (ti trivial) (an (ti trivial) (VRun.loop hph436))) (an (ti trivial) trivial)))) (ti trivial)) (Wv.refl _)
          · rw [if_neg h408] at h
            injection h with h; subst h
            exact fun_ok pm pn Go.Proofs.Try.func80 (r0 := vb false) (ans := [.reg [.n], .reg [.n, .n, .n, .n, .n, .n, .n, .b false, .n, .n, .n, .call (vb r406), .n, .b false], .br true, .reg [.n]]) (fr := true) (by kernel_rfl) (an (an (ti trivial) (an (ti (ti (ti (ti (an (an (decide_eq_false h403) trivial) (an (an (decide_eq_false h403) trivial) (an (an (decide_eq_false h403) trivial) (an (decide_eq_false h403) (ti (an (an (decide_eq_false h404) trivial) (an (an (decide_eq_false h404) h405) (an (an (decide_eq_false h404) (nspeculumbase_isLetter_ok k (bat a0 0) _ h407)) (an (an (decide_eq_false h404) trivial) (an (decide_eq_false h404) trivial)))))))))))))) (an (not_t (bool_f h408)) (an (ti trivial) trivial)))) (ti trivial)) (Wv.refl _)
      · rw [if_neg h405] at h; cases h
def nspeculumref08_FindMaterial_l0_0 (k : Nat) (a0 : (List SMaterial)) (a1 : ByteArray) : Nat → Int → Option (Sum Int Unit)
  | 0, _ => none
  | fuel + 1, x5 => if x5 < (a0.length : Int) then (if 0 ≤ x5 ∧ x5 < (a0.length : Int) then (if ((a0.getD x5.toNat default).Name) = a1 then (some (.inl x5)) else (nspeculumref08_FindMaterial_l0_0 k a0 a1 fuel (w64 (x5 + 1)))) else none) else (some (.inr ()))
set_option maxRecDepth 100000 in
set_option maxHeartbeats 4000000 in
theorem nspeculumref08_FindMaterial_l0_0_ok (k : Nat) (a0 : (List SMaterial)) (a1 : ByteArray) : ∀ (fuel : Nat) (x5 : Int) (r : Sum Int Unit), nspeculumref08_FindMaterial_l0_0 k a0 a1 fuel x5 = some r → (match r with | .inl r => VLoop none Go.Proofs.Try.prog (szF Go.Proofs.Try.f81) (bodyOf Go.Proofs.Try.f81 0) ⟨mkA [(0, VV.tr (List.flatMap c_SMaterial a0) a0.length), (1, vs a1), (5, vi x5)], [], .nil⟩ .ret ⟨mkA [(4, vi r)], [], .nil⟩ | .inr r => VLoop none Go.Proofs.Try.prog (szF Go.Proofs.Try.f81) (bodyOf Go.Proofs.Try.f81 0) ⟨mkA [(0, VV.tr (List.flatMap c_SMaterial a0) a0.length), (1, vs a1), (5, vi x5)], [], .nil⟩ (.exit 0) ⟨mkA [], [], .nil⟩) := by
  intro fuel
  induction fuel with
  | zero => intro x5 r h; rw [nspeculumref08_FindMaterial_l0_0.eq_1] at h; cases h
  | succ fuel ih =>
    intro x5 r h
    rw [nspeculumref08_FindMaterial_l0_0.eq_2] at h
    by_cases h463 : x5 < (a0.length : Int)
    · rw [if_pos h463] at h
      by_cases h464 : 0 ≤ x5 ∧ x5 < (a0.length : Int)
      · rw [if_pos h464] at h
        by_cases h465 : ((a0.getD x5.toNat default).Name) = a1
        · rw [if_pos h465] at h
          injection h with h; subst h
          exact round_stop (c := ⟨[(4, none)], [], []⟩) (s1 := ⟨mkA [(4, vi x5)], [], .nil⟩) pm pn (ans := [.reg [.n, .n, .n, .n], .br true, .reg [.n, .n, .n, .n, .v (vs ((a0.getD x5.toNat default).Name)), .n, .n], .br true, .reg [.n, .n]]) (by kernel_rfl) (by intro e; cases e) (an (an (an (ti (ti (ti (ti trivial)))) (an (decide_eq_true h463) trivial)) (an (ti (ti (an h464 (ti (an (show loadL Go.Proofs.Try.prog 9 (x5.toNat * 3 + 0) (List.flatMap c_SMaterial a0) = some (vs ((a0.getD x5.toNat default).Name)) from (ld_flat ag9 c_SMaterial 3 0 len_c_SMaterial (by omega) a0 default h464 (by omega)).trans rfl) (ti (ti trivial))))))) (an (decide_eq_true h465) (an (ti (ti trivial)) trivial)))) (ti trivial))
        · rw [if_neg h465] at h
          have h2 := ih _ _ h
          obtain ⟨q, hv, hq⟩ := pkR (rd := none) (P := Go.Proofs.Try.prog) (fn := Go.Proofs.Try.f81) (k := 0) (s := ⟨mkA [(0, VV.tr (List.flatMap c_SMaterial a0) a0.length), (1, vs a1), (5, vi x5)], [], .nil⟩) (ans := [.reg [.n, .n, .n, .n], .br true, .reg [.n, .n, .n, .n, .v (vs ((a0.getD x5.toNat default).Name)), .n, .n], .br false, .reg [.n, .n, .n]]) (c := ⟨[(0, none), (1, none), (5, none)], [], []⟩) (e := .normal) (s1 := ⟨mkA [(0, VV.tr (List.flatMap c_SMaterial a0) a0.length), (1, vs a1), (5, vi (w64 (x5 + 1)))], [], .nil⟩) (an (an (an (ti (ti (ti (ti trivial)))) (an (decide_eq_true h463) trivial)) (an (an (ti (ti (an h464 (ti (an (show loadL Go.Proofs.Try.prog 9 (x5.toNat * 3 + 0) (List.flatMap c_SMaterial a0) = some (vs ((a0.getD x5.toNat default).Name)) from (ld_flat ag9 c_SMaterial 3 0 len_c_SMaterial (by omega) a0 default h464 (by omega)).trans rfl) (ti (ti trivial))))))) (an (decide_eq_false h465) trivial)) (ti (ti (ti trivial))))) (ti trivial)) (by kernel_rfl)
          cases r with
          | inl r => exact round_next pm pn hv hq h2
          | inr r =>
            exact round_next pm pn hv hq h2
      · rw [if_neg h464] at h; cases h
    · rw [if_neg h463] at h
      injection h with h; subst h
      exact round_stop (c := ⟨[], [], []⟩) (s1 := ⟨mkA [], [], .nil⟩) pm pn (ans := [.reg [.n, .n, .n, .n], .br false]) (by kernel_rfl) (by intro e; cases e) (an (an (ti (ti (ti (ti trivial)))) (an (decide_eq_false h463) trivial)) (ti trivial))
def nspeculumref08_FindMaterial (k : Nat) (a0 : (List SMaterial)) (a1 : ByteArray) : Option Int :=
  (nspeculumref08_FindMaterial_l0_0 k a0 a1 k 0).bind fun r467 => (match r467 with | .inl r468 => (some r468) | .inr r469 => (some (-1)))
set_option maxRecDepth 100000 in
set_option maxHeartbeats 4000000 in
theorem nspeculumref08_FindMaterial_ok (k : Nat) (a0 : (List SMaterial)) (a1 : ByteArray) (r : Int) (h : nspeculumref08_FindMaterial k a0 a1 = some r) : VC Go.Proofs.Try.prog 81 [VV.tr (List.flatMap c_SMaterial a0) a0.length, vs a1] (vi r) := by
  unfold nspeculumref08_FindMaterial at h
  cases h466 : nspeculumref08_FindMaterial_l0_0 k a0 a1 k 0 with
  | none => rw [h466] at h; cases h
  | some r467 =>
    rw [h466, Option.bind_some] at h
    have hph466 := nspeculumref08_FindMaterial_l0_0_ok k a0 a1 _ _ _ h466
    cases r467 with
    | inl r468 =>
      dsimp only at h
      injection h with h; subst h
      exact fun_ok pm pn Go.Proofs.Try.func81 (r0 := vi r468) (ans := [.reg [.n], .reg [.n], .sub ⟨[(0, none), (1, none), (5, none)], [], []⟩ .ret ⟨mkA [(4, vi r468)], [], .nil⟩]) (fr := true) (by kernel_rfl) (an (an (ti trivial) (an (ti trivial) (an (ti trivial) (VRun.loop hph466)))) (ti trivial)) (Wv.refl _)
    | inr r469 =>
      dsimp only at h
      injection h with h; subst h
      exact fun_ok pm pn Go.Proofs.Try.func81 (r0 := vi (-1)) (ans := [.reg [.n], .reg [.n], .sub ⟨[(0, none), (1, none), (5, none)], [], []⟩ (.exit 0) ⟨mkA [], [], .nil⟩, .reg [.n]]) (fr := true) (by kernel_rfl) (an (an (ti trivial) (an (an (ti trivial) (an (ti trivial) (VRun.loop hph466))) (an (ti trivial) trivial))) (ti trivial)) (Wv.refl _)
def nspeculumbase_Within (k : Nat) (a0 : Int) (a1 : Int) (a2 : Int) : Option Bool :=
  if a1 ≤ a0 then (some (decide (a0 ≤ a2))) else (some false)
set_option maxRecDepth 100000 in
set_option maxHeartbeats 4000000 in
theorem nspeculumbase_Within_ok (k : Nat) (a0 : Int) (a1 : Int) (a2 : Int) (r : Bool) (h : nspeculumbase_Within k a0 a1 a2 = some r) : VC Go.Proofs.Try.prog 34 [vi a0, vi a1, vi a2] (vb r) := by
  unfold nspeculumbase_Within at h
  by_cases h474 : a1 ≤ a0
  · rw [if_pos h474] at h
    injection h with h; subst h
    exact fun_ok pm pn Go.Proofs.Try.func34 (r0 := vb (decide (a0 ≤ a2))) (ans := [.reg [.n], .reg [.n, .n, .n, .n, .n, .n, .n, .b true, .n]]) (fr := true) (by kernel_rfl) (an (an (ti trivial) (an (ti (ti (ti (ti (an (an (decide_eq_true h474) trivial) (an (an (decide_eq_true h474) trivial) (an (an (decide_eq_true h474) trivial) (an (decide_eq_true h474) (ti trivial))))))))) trivial)) (ti trivial)) (Wv.refl _)
  · rw [if_neg h474] at h
    injection h with h; subst h
    exact fun_ok pm pn Go.Proofs.Try.func34 (r0 := vb false) (ans := [.reg [.n], .reg [.n, .n, .n, .n, .skip, .skip, .skip, .b false, .n]]) (fr := true) (by kernel_rfl) (an (an (ti trivial) (an (ti (ti (ti (ti (an (decide_eq_false h474) (an (decide_eq_false h474) (an (decide_eq_false h474) (an (decide_eq_false h474) (ti trivial))))))))) trivial)) (ti trivial)) (Wv.refl _)
def nspeculumref08_CheckMaterials_l0_0 (k : Nat) (a0 : (List SMaterial)) : Nat → Int → Option (Sum Int Unit)
  | 0, _ => none
  | fuel + 1, x3 => if x3 < (a0.length : Int) then (if 0 ≤ x3 ∧ x3 < (a0.length : Int) then ((nspeculumbase_IsName k ((a0.getD x3.toNat default).Name)).bind fun r538 => (if r538 = true then (if 0 ≤ (0 : Int) ∧ (0 : Int) ≤ x3 ∧ x3 ≤ (a0.length : Int) then ((nspeculumref08_FindMaterial k (sl a0 0 ((x3).toNat)) ((a0.getD x3.toNat default).Name)).bind fun r542 => (if 0 ≤ r542 then (some (.inl 5)) else ((nspeculumbase_Within k (((a0.getD x3.toNat default).PerCount).Lo) 1 (((a0.getD x3.toNat default).PerCount).Hi)).bind fun r545 => (if r545 = true then (if 1000000 < (((a0.getD x3.toNat default).PerCount).Hi) then (some (.inl 2)) else (nspeculumref08_CheckMaterials_l0_0 k a0 fuel (w64 (x3 + 1)))) else (some (.inl 2)))))) else none) else (some (.inl 4)))) else none) else (some (.inr ()))
set_option maxRecDepth 100000 in
set_option maxHeartbeats 4000000 in
theorem nspeculumref08_CheckMaterials_l0_0_ok (k : Nat) (a0 : (List SMaterial)) : ∀ (fuel : Nat) (x3 : Int) (r : Sum Int Unit), nspeculumref08_CheckMaterials_l0_0 k a0 fuel x3 = some r → (match r with | .inl r => VLoop none Go.Proofs.Try.prog (szF Go.Proofs.Try.f24) (bodyOf Go.Proofs.Try.f24 0) ⟨mkA [(0, VV.tr (List.flatMap c_SMaterial a0) a0.length), (3, vi x3)], [], .nil⟩ .ret ⟨mkA [(2, vi r)], [], .nil⟩ | .inr r => VLoop none Go.Proofs.Try.prog (szF Go.Proofs.Try.f24) (bodyOf Go.Proofs.Try.f24 0) ⟨mkA [(0, VV.tr (List.flatMap c_SMaterial a0) a0.length), (3, vi x3)], [], .nil⟩ (.exit 0) ⟨mkA [], [], .nil⟩) := by
  intro fuel
  induction fuel with
  | zero => intro x3 r h; rw [nspeculumref08_CheckMaterials_l0_0.eq_1] at h; cases h
  | succ fuel ih =>
    intro x3 r h
    rw [nspeculumref08_CheckMaterials_l0_0.eq_2] at h
    by_cases h536 : x3 < (a0.length : Int)
    · rw [if_pos h536] at h
      by_cases h537 : 0 ≤ x3 ∧ x3 < (a0.length : Int)
      · rw [if_pos h537] at h
        cases h539 : nspeculumbase_IsName k ((a0.getD x3.toNat default).Name) with
        | none => rw [h539] at h; cases h
        | some r538 =>
          rw [h539, Option.bind_some] at h
          by_cases h540 : r538 = true
          · rw [if_pos h540] at h
            by_cases h541 : 0 ≤ (0 : Int) ∧ (0 : Int) ≤ x3 ∧ x3 ≤ (a0.length : Int)
            · rw [if_pos h541] at h
              cases h543 : nspeculumref08_FindMaterial k (sl a0 0 ((x3).toNat)) ((a0.getD x3.toNat default).Name) with
              | none => rw [h543] at h; cases h
              | some r542 =>
                rw [h543, Option.bind_some] at h
                by_cases h544 : 0 ≤ r542
                · rw [if_pos h544] at h
                  injection h with h; subst h
                  exact round_stop (c := ⟨[(2, none)], [], []⟩) (s1 := ⟨mkA [(2, vi 5)], [], .nil⟩) pm pn (ans := [.reg [.n, .n, .n, .n], .br true, .reg [.n, .n, .n, .n, .v (vs ((a0.getD x3.toNat default).Name)), .call (vb r538), .n], .br false, .reg [.n, .n, .v (VV.tr (List.flatMap c_SMaterial (sl a0 0 ((x3).toNat))) ((sl a0 0 ((x3).toNat)).length)), .n, .n, .n, .n, .v (vs ((a0.getD x3.toNat default).Name)), .call (vi r542), .n], .br true, .reg [.n]]) (by kernel_rfl) (by intro e; cases e) (an (an (an (ti (ti (ti (ti trivial)))) (an (decide_eq_true h536) trivial)) (an (an (ti (ti (an h537 (ti (an (show loadL Go.Proofs.Try.prog 9 (x3.toNat * 3 + 0) (List.flatMap c_SMaterial a0) = some (vs ((a0.getD x3.toNat default).Name)) from (ld_flat ag9 c_SMaterial 3 0 len_c_SMaterial (by omega) a0 default h537 (by omega)).trans rfl) (an (nspeculumbase_IsName_ok k ((a0.getD x3.toNat default).Name) _ h539) (ti trivial))))))) (an (not_f h540) trivial)) (an (ti (ti (an (show (True ∧ 0 ≤ x3 ∧ 0 ≤ (x3).toNat ∧ (x3).toNat ≤ a0.length ∧ (x3).toNat * 3 ≤ List.length (List.flatMap c_SMaterial a0)) ∧ VV.tr (List.take (((x3).toNat - 0) * 3) (List.drop (0 * 3) (List.flatMap c_SMaterial a0))) ((x3).toNat - 0) = VV.tr (List.flatMap c_SMaterial (sl a0 0 ((x3).toNat))) ((sl a0 0 ((x3).toNat)).length) from ⟨⟨trivial, (by have := h541; omega), (by have := h541; omega), (by have := h541; omega), (by rw [flatMap_len len_c_SMaterial]; have := h541; omega)⟩, (by exact sl_flat len_c_SMaterial a0 0 ((x3).toNat) (by have := h541; omega) (by have := h541; omega))⟩) (ti (ti (an h537 (ti (an (show loadL Go.Proofs.Try.prog 9 (x3.toNat * 3 + 0) (List.flatMap c_SMaterial a0) = some (vs ((a0.getD x3.toNat default).Name)) from (ld_flat ag9 c_SMaterial 3 0 len_c_SMaterial (by omega) a0 default h537 (by omega)).trans rfl) (an (nspeculumref08_FindMaterial_ok k (sl a0 0 ((x3).toNat)) ((a0.getD x3.toNat default).Name) _ h543) (ti trivial)))))))))) (an (decide_eq_true h544) (an (ti trivial) trivial))))) (ti trivial))
                · rw [if_neg h544] at h
                  cases h546 : nspeculumbase_Within k (((a0.getD x3.toNat default).PerCount).Lo) 1 (((a0.getD x3.toNat default).PerCount).Hi) with
                  | none => rw [h546] at h; cases h
                  | some r545 =>
                    rw [h546, Option.bind_some] at h
                    by_cases h547 : r545 = true
                    · rw [if_pos h547] at h
                      by_cases h548 : 1000000 < (((a0.getD x3.toNat default).PerCount).Hi)
                      · rw [if_pos h548] at h
                        injection h with h; subst h
                        exact round_stop (c := ⟨[(2, none)], [], []⟩) (s1 := ⟨mkA [(2, vi 2)], [], .nil⟩) pm pn (ans := [.reg [.n, .n, .n, .n], .br true, .reg [.n, .n, .n, .n, .v (vs ((a0.getD x3.toNat default).Name)), .call (vb r538), .n], .br false, .reg [.n, .n, .v (VV.tr (List.flatMap c_SMaterial (sl a0 0 ((x3).toNat))) ((sl a0 0 ((x3).toNat)).length)), .n, .n, .n, .n, .v (vs ((a0.getD x3.toNat default).Name)), .call (vi r542), .n], .br false, .reg [.n, .n, .n, .n, .n, .v (vi (((a0.getD x3.toNat default).PerCount).Lo)), .n, .n, .n, .n, .n, .v (vi (((a0.getD x3.toNat default).PerCount).Hi)), .call (vb r545), .n, .n, .n, .n, .n, .n, .n, .v (vi (((a0.getD x3.toNat default).PerCount).Hi)), .n, .b false], .br true, .reg [.n]]) (by kernel_rfl) (by intro e; cases e) (an (an (an (ti (ti (ti (ti trivial)))) (an (decide_eq_true h536) trivial)) (an (an (ti (ti (an h537 (ti (an (show loadL Go.Proofs.Try.prog 9 (x3.toNat * 3 + 0) (List.flatMap c_SMaterial a0) = some (vs ((a0.getD x3.toNat default).Name)) from (ld_flat ag9 c_SMaterial 3 0 len_c_SMaterial (by omega) a0 default h537 (by omega)).trans rfl) (an (nspeculumbase_IsName_ok k ((a0.getD x3.toNat default).Name) _ h539) (ti trivial))))))) (an (not_f h540) trivial)) (an (an (ti (ti (an (show (True ∧ 0 ≤ x3 ∧ 0 ≤ (x3).toNat ∧ (x3).toNat ≤ a0.length ∧ (x3).toNat * 3 ≤ List.length (List.flatMap c_SMaterial a0)) ∧ VV.tr (List.take (((x3).toNat - 0) * 3) (List.drop (0 * 3) (List.flatMap c_SMaterial a0))) ((x3).toNat - 0) = VV.tr (List.flatMap c_SMaterial (sl a0 0 ((x3).toNat))) ((sl a0 0 ((x3).toNat)).length) from ⟨⟨trivial, (by have := h541; omega), (by have := h541; omega), (by have := h541; omega), (by rw [flatMap_len len_c_SMaterial]; have := h541; omega)⟩, (by exact sl_flat len_c_SMaterial a0 0 ((x3).toNat) (by have := h541; omega) (by have := h541; omega))⟩) (ti (ti (an h537 (ti (an (show loadL Go.Proofs.Try.prog 9 (x3.toNat * 3 + 0) (List.flatMap c_SMaterial a0) = some (vs ((a0.getD x3.toNat default).Name)) from (ld_flat ag9 c_SMaterial 3 0 len_c_SMaterial (by omega) a0 default h537 (by omega)).trans rfl) (an (nspeculumref08_FindMaterial_ok k (sl a0 0 ((x3).toNat)) ((a0.getD x3.toNat default).Name) _ h543) (ti trivial)))))))))) (an (decide_eq_false h544) trivial)) (an (ti (ti (an h537 (ti (ti (an (show loadL Go.Proofs.Try.prog 3 (x3.toNat * 3 + 1 + 0) (List.flatMap c_SMaterial a0) = some (vi (((a0.getD x3.toNat default).PerCount).Lo)) from (ld_flat ag3 c_SMaterial 3 1 len_c_SMaterial (by omega) a0 default h537 (by omega)).trans rfl) (ti (ti (an h537 (ti (ti (an (show loadL Go.Proofs.Try.prog 3 (x3.toNat * 3 + 1 + 1) (List.flatMap c_SMaterial a0) = some (vi (((a0.getD x3.toNat default).PerCount).Hi)) from (ld_flat ag3 c_SMaterial 3 2 len_c_SMaterial (by omega) a0 default h537 (by omega)).trans rfl) (an (nspeculumbase_Within_ok k (((a0.getD x3.toNat default).PerCount).Lo) 1 (((a0.getD x3.toNat default).PerCount).Hi) _ h546) (ti (ti (an (an (not_f h547) trivial) (an (an (not_f h547) trivial) (an (an (not_f h547) h537) (an (an (not_f h547) trivial) (an (an (not_f h547) trivial) (an (an (not_f h547) (show loadL Go.Proofs.Try.prog 3 (x3.toNat * 3 + 1 + 1) (List.flatMap c_SMaterial a0) = some (vi (((a0.getD x3.toNat default).PerCount).Hi)) from (ld_flat ag3 c_SMaterial 3 2 len_c_SMaterial (by omega) a0 default h537 (by omega)).trans rfl)) (an (an (not_f h547) trivial) (an (not_f h547) trivial))))))))))))))))))))))) (an (decide_eq_true h548) (an (ti trivial) trivial)))))) (ti trivial))
                      · rw [if_neg h548] at h
                        have h2 := ih _ _ h
                        obtain ⟨q, hv, hq⟩ := pkR (rd := none) (P := Go.Proofs.Try.prog) (fn := Go.Proofs.Try.f24) (k := 0) (s := ⟨mkA [(0, VV.tr (List.flatMap c_SMaterial a0) a0.length), (3, vi x3)], [], .nil⟩) (ans := [.reg [.n, .n, .n, .n], .br true, .reg [.n, .n, .n, .n, .v (vs ((a0.getD x3.toNat default).Name)), .call (vb r538), .n], .br false, .reg [.n, .n, .v (VV.tr (List.flatMap c_SMaterial (sl a0 0 ((x3).toNat))) ((sl a0 0 ((x3).toNat)).length)), .n, .n, .n, .n, .v (vs ((a0.getD x3.toNat default).Name)), .call (vi r542), .n], .br false, .reg [.n, .n, .n, .n, .n, .v (vi (((a0.getD x3.toNat default).PerCount).Lo)), .n, .n, .n, .n, .n, .v (vi (((a0.getD x3.toNat default).PerCount).Hi)), .call (vb r545), .n, .n, .n, .n, .n, .n, .n, .v (vi (((a0.getD x3.toNat default).PerCount).Hi)), .n, .b false], .br false, .reg [.n, .n, .n]]) (c := ⟨[(0, none), (3, none)], [], []⟩) (e := .normal) (s1 := ⟨mkA [(0, VV.tr (List.flatMap c_SMaterial a0) a0.length), (3, vi (w64 (x3 + 1)))], [], .nil⟩) (an (an (an (ti (ti (ti (ti trivial)))) (an (decide_eq_true h536) trivial)) (an (an (an (ti (ti (an h537 (ti (an (show loadL Go.Proofs.Try.prog 9 (x3.toNat * 3 + 0) (List.flatMap c_SMaterial a0) = some (vs ((a0.getD x3.toNat default).Name)) from (ld_flat ag9 c_SMaterial 3 0 len_c_SMaterial (by omega) a0 default h537 (by omega)).trans rfl) (an (nspeculumbase_IsName_ok k ((a0.getD x3.toNat default).Name) _ h539) (ti trivial))))))) (an (not_f h540) trivial)) (an (an (ti (ti (an (show (True ∧ 0 ≤ x3 ∧ 0 ≤ (x3).toNat ∧ (x3).toNat ≤ a0.length ∧ (x3).toNat * 3 ≤ List.length (List.flatMap c_SMaterial a0)) ∧ VV.tr (List.take (((x3).toNat - 0) * 3) (List.drop (0 * 3) (List.flatMap c_SMaterial a0))) ((x3).toNat - 0) = VV.tr (List.flatMap c_SMaterial (sl a0 0 ((x3).toNat))) ((sl a0 0 ((x3).toNat)).length) from ⟨⟨trivial, (by have := h541; omega), (by have := h541; omega), (by have := h541; omega), (by rw [flatMap_len len_c_SMaterial]; have := h541; omega)⟩, (by exact sl_flat len_c_SMaterial a0 0 ((x3).toNat) (by have := h541; omega) (by have := h541; omega))⟩) (ti (ti (an h537 (ti (an (show loadL Go.Proofs.Try.prog 9 (x3.toNat * 3 + 0) (List.flatMap c_SMaterial a0) = some (vs ((a0.getD x3.toNat default).Name)) from (ld_flat ag9 c_SMaterial 3 0 len_c_SMaterial (by omega) a0 default h537 (by omega)).trans rfl) (an (nspeculumref08_FindMaterial_ok k (sl a0 0 ((x3).toNat)) ((a0.getD x3.toNat default).Name) _ h543) (ti trivial)))))))))) (an (decide_eq_false h544) trivial)) (an (ti (ti (an h537 (ti (ti (an (show loadL Go.Proofs.Try.prog 3 (x3.toNat * 3 + 1 + 0) (List.flatMap c_SMaterial a0) = some (vi (((a0.getD x3.toNat default).PerCount).Lo)) from (ld_flat ag3 c_SMaterial 3 1 len_c_SMaterial (by omega) a0 default h537 (by omega)).trans rfl) (ti (ti (an h537 (ti (ti (an (show loadL Go.Proofs.Try.prog 3 (x3.toNat * 3 + 1 + 1) (List.flatMap c_SMaterial a0) = some (vi (((a0.getD x3.toNat default).PerCount).Hi)) from (ld_flat ag3 c_SMaterial 3 2 len_c_SMaterial (by omega) a0 default h537 (by omega)).trans rfl) (an (nspeculumbase_Within_ok k (((a0.getD x3.toNat default).PerCount).Lo) 1 (((a0.getD x3.toNat default).PerCount).Hi) _ h546) (ti (ti (an (an (not_f h547) trivial) (an (an (not_f h547) trivial) (an (an (not_f h547) h537) (an (an (not_f h547) trivial) (an (an (not_f h547) trivial) (an (an (not_f h547) (show loadL Go.Proofs.Try.prog 3 (x3.toNat * 3 + 1 + 1) (List.flatMap c_SMaterial a0) = some (vi (((a0.getD x3.toNat default).PerCount).Hi)) from (ld_flat ag3 c_SMaterial 3 2 len_c_SMaterial (by omega) a0 default h537 (by omega)).trans rfl)) (an (an (not_f h547) trivial) (an (not_f h547) trivial))))))))))))))))))))))) (an (decide_eq_false h548) trivial)))) (ti (ti (ti trivial))))) (ti trivial)) (by kernel_rfl)
                        cases r with
                        | inl r => exact round_next pm pn hv hq h2
                        | inr r =>
                          exact round_next pm pn hv hq h2
                    · rw [if_neg h547] at h
                      injection h with h; subst h
                      exact round_stop (c := ⟨[(2, none)], [], []⟩) (s1 := ⟨mkA [(2, vi 2)], [], .nil⟩) pm pn (ans := [.reg [.n, .n, .n, .n], .br true, .reg [.n, .n, .n, .n, .v (vs ((a0.getD x3.toNat default).Name)), .call (vb r538), .n], .br false, .reg [.n, .n, .v (VV.tr (List.flatMap c_SMaterial (sl a0 0 ((x3).toNat))) ((sl a0 0 ((x3).toNat)).length)), .n, .n, .n, .n, .v (vs ((a0.getD x3.toNat default).Name)), .call (vi r542), .n], .br false, .reg [.n, .n, .n, .n, .n, .v (vi (((a0.getD x3.toNat default).PerCount).Lo)), .n, .n, .n, .n, .n, .v (vi (((a0.getD x3.toNat default).PerCount).Hi)), .call (vb r545), .n, .n, .skip, .skip, .skip, .skip, .skip, .skip, .skip, .b true], .br true, .reg [.n]]) (by kernel_rfl) (by intro e; cases e) (an (an (an (ti (ti (ti (ti trivial)))) (an (decide_eq_true h536) trivial)) (an (an (ti (ti (an h537 (ti (an (show loadL Go.Proofs.Try.prog 9 (x3.toNat * 3 + 0) (List.flatMap c_SMaterial a0) = some (vs ((a0.getD x3.toNat default).Name)) from (ld_flat ag9 c_SMaterial 3 0 len_c_SMaterial (by omega) a0 default h537 (by omega)).trans rfl) (an (nspeculumbase_IsName_ok k ((a0.getD x3.toNat default).Name) _ h539) (ti trivial))))))) (an (not_f h540) trivial)) (an (an (ti (ti (an (show (True ∧ 0 ≤ x3 ∧ 0 ≤ (x3).toNat ∧ (x3).toNat ≤ a0.length ∧ (x3).toNat * 3 ≤ List.length (List.flatMap c_SMaterial a0)) ∧ VV.tr (List.take (((x3).toNat - 0) * 3) (List.drop (0 * 3) (List.flatMap c_SMaterial a0))) ((x3).toNat - 0) = VV.tr (List.flatMap c_SMaterial (sl a0 0 ((x3).toNat))) ((sl a0 0 ((x3).toNat)).length) from ⟨⟨trivial, (by have := h541; omega), (by have := h541; omega), (by have := h541; omega), (by rw [flatMap_len len_c_SMaterial]; have := h541; omega)⟩, (by exact sl_flat len_c_SMaterial a0 0 ((x3).toNat) (by have := h541; omega) (by have := h541; omega))⟩) (ti (ti (an h537 (ti (an (show loadL Go.Proofs.Try.prog 9 (x3.toNat * 3 + 0) (List.flatMap c_SMaterial a0) = some (vs ((a0.getD x3.toNat default).Name)) from (ld_flat ag9 c_SMaterial 3 0 len_c_SMaterial (by omega) a0 default h537 (by omega)).trans rfl) (an (nspeculumref08_FindMaterial_ok k (sl a0 0 ((x3).toNat)) ((a0.getD x3.toNat default).Name) _ h543) (ti trivial)))))))))) (an (decide_eq_false h544) trivial)) (an (ti (ti (an h537 (ti (ti (an (show loadL Go.Proofs.Try.prog 3 (x3.toNat * 3 + 1 + 0) (List.flatMap c_SMaterial a0) = some (vi (((a0.getD x3.toNat default).PerCount).Lo)) from (ld_flat ag3 c_SMaterial 3 1 len_c_SMaterial (by omega) a0 default h537 (by omega)).trans rfl) (ti (ti (an h537 (ti (ti (an (show loadL Go.Proofs.Try.prog 3 (x3.toNat * 3 + 1 + 1) (List.flatMap c_SMaterial a0) = some (vi (((a0.getD x3.toNat default).PerCount).Hi)) from (ld_flat ag3 c_SMaterial 3 2 len_c_SMaterial (by omega) a0 default h537 (by omega)).trans rfl) (an (nspeculumbase_Within_ok k (((a0.getD x3.toNat default).PerCount).Lo) 1 (((a0.getD x3.toNat default).PerCount).Hi) _ h546) (ti (ti (an (not_t (bool_f h547)) (an (not_t (bool_f h547)) (an (not_t (bool_f h547)) (an (not_t (bool_f h547)) (an (not_t (bool_f h547)) (an (not_t (bool_f h547)) (an (not_t (bool_f h547)) (an (not_t (bool_f h547)) trivial))))))))))))))))))))))) (an rt (an (ti trivial) trivial)))))) (ti trivial))
            · rw [if_neg h541] at h; cases h
          · rw [if_neg h540] at h
            injection h with h; subst h
            exact round_stop (c := ⟨[(2, none)], [], []⟩) (s1 := ⟨mkA [(2, vi 4)], [], .nil⟩) pm pn (ans := [.reg [.n, .n, .n, .n], .br true, .reg [.n, .n, .n, .n, .v (vs ((a0.getD x3.toNat default).Name)), .call (vb r538), .n], .br true, .reg [.n]]) (by kernel_rfl) (by intro e; cases e) (an (an (an (ti (ti (ti (ti trivial)))) (an (decide_eq_true h536) trivial)) (an (ti (ti (an h537 (ti (an (show loadL Go.Proofs.Try.prog 9 (x3.toNat * 3 + 0) (List.flatMap c_SMaterial a0) = some (vs ((a0.getD x3.toNat default).Name)) from (ld_flat ag9 c_SMaterial 3 0 len_c_SMaterial (by omega) a0 default h537 (by omega)).trans rfl) (an (nspeculumbase_IsName_ok k ((a0.getD x3.toNat default).Name) _ h539) (ti trivial))))))) (an (not_t (bool_f h540)) (an (ti trivial) trivial)))) (ti trivial))
      · rw [if_neg h537] at h; cases h
    · rw [if_neg h536] at h
      injection h with h; subst h
      exact round_stop (c := ⟨[], [], []⟩) (s1 := ⟨mkA [], [], .nil⟩) pm pn (ans := [.reg [.n, .n, .n, .n], .br false]) (by kernel_rfl) (by intro e; cases e) (an (an (ti (ti (ti (ti trivial)))) (an (decide_eq_false h536) trivial)) (ti trivial))
def nspeculumref08_CheckMaterials (k : Nat) (a0 : (List SMaterial)) : Option Int :=
  if 40 < (a0.length : Int) then (some 8) else ((nspeculumref08_CheckMaterials_l0_0 k a0 k 0).bind fun r550 => (match r550 with | .inl r551 => (some r551) | .inr r552 => (some 0)))
set_option maxRecDepth 100000 in
set_option maxHeartbeats 4000000 in
theorem nspeculumref08_CheckMaterials_ok (k : Nat) (a0 : (List SMaterial)) (r : Int) (h : nspeculumref08_CheckMaterials k a0 = some r) : VC Go.Proofs.Try.prog 24 [VV.tr (List.flatMap c_SMaterial a0) a0.length] (vi r) := by
  unfold nspeculumref08_CheckMaterials at h
  by_cases h509 : 40 < (a0.length : Int)
  · rw [if_pos h509] at h
    injection h with h; subst h
    exact fun_ok pm pn Go.Proofs.Try.func24 (r0 := vi 8) (ans := [.reg [.n], .reg [.n, .n, .n], .br true, .reg [.n]]) (fr := true) (by kernel_rfl) (an (an (ti trivial) (an (ti (ti (ti trivial))) (an (decide_eq_true h509) (an (ti trivial) trivial)))) (ti trivial)) (Wv.refl _)
  · rw [if_neg h509] at h
    cases h549 : nspeculumref08_CheckMaterials_l0_0 k a0 k 0 with
    | none => rw [h549] at h; cases h
    | some r550 =>
      rw [h549, Option.bind_some] at h
      have hph549 := nspeculumref08_CheckMaterials_l0_0_ok k a0 _ _ _ h549
      cases r550 with
      | inl r551 =>
        dsimp only at h
        injection h with h; subst h
        exact fun_ok pm pn Go.Proofs.Try.func24 (r0 := vi r551) (ans := [.reg [.n], .reg [.n, .n, .n], .br false, .reg [.n], .sub ⟨[(0, none), (3, none)], [], []⟩ .ret ⟨mkA [(2, vi r551)], [], .nil⟩]) (fr := true) (by kernel_rfl) (an (an (ti trivial) (an (an (ti (ti (ti trivial))) (an (decide_eq_false h509) trivial)) (an (ti trivial) (an (ti trivial) (VRun.loop hph549))))) (ti trivial)) (Wv.refl _)
      | inr r552 =>
        dsimp only at h
        injection h with h; subst h
        exact fun_ok pm pn Go.Proofs.Try.func24 (r0 := vi 0) (ans := [.reg [.n], .reg [.n, .n, .n], .br false, .reg [.n], .sub ⟨[(0, none), (3, none)], [], []⟩ (.exit 0) ⟨mkA [], [], .nil⟩, .reg [.n]]) (fr := true) (by kernel_rfl) (an (an (ti trivial) (an (an (ti (ti (ti trivial))) (an (decide_eq_false h509) trivial)) (an (an (ti trivial) (an (ti trivial) (VRun.loop hph549))) (an (ti trivial) trivial)))) (ti trivial)) (Wv.refl _)
def nspeculumref01_CheckRange_l0_0 (k : Nat) (a0 : SRange) : Nat → Int → Option (Sum Unit Unit)
  | 0, _ => none
  | fuel + 1, x10 => if x10 < 2 then (if x10 = 0 then (if a0.Lo < (-1000000000000000) then (some (.inl ())) else (if 1000000000000000 < a0.Lo then (some (.inl ())) else (nspeculumref01_CheckRange_l0_0 k a0 fuel (w64 (x10 + 1))))) else (if x10 = 1 then (if a0.Hi < (-1000000000000000) then (some (.inl ())) else (if 1000000000000000 < a0.Hi then (some (.inl ())) else (nspeculumref01_CheckRange_l0_0 k a0 fuel (w64 (x10 + 1))))) else none)) else (some (.inr ()))
set_option maxRecDepth 100000 in
set_option maxHeartbeats 4000000 in
theorem nspeculumref01_CheckRange_l0_0_ok (k : Nat) (a0 : SRange) : ∀ (fuel : Nat) (x10 : Int) (r : Sum Unit Unit), nspeculumref01_CheckRange_l0_0 k a0 fuel x10 = some r → (match r with | .inl r => VLoop none Go.Proofs.Try.prog (szF Go.Proofs.Try.f33) (bodyOf Go.Proofs.Try.f33 0) ⟨mkA [(1, VV.pt 0 0), (9, VV.ag [vi a0.Lo, vi a0.Hi]), (10, vi x10)], [some ⟨true, 1, [vi a0.Lo, vi a0.Hi]⟩], .nil⟩ .ret ⟨mkA [(2, vi 2)], [], .nil⟩ | .inr r => VLoop none Go.Proofs.Try.prog (szF Go.Proofs.Try.f33) (bodyOf Go.Proofs.Try.f33 0) ⟨mkA [(1, VV.pt 0 0), (9, VV.ag [vi a0.Lo, vi a0.Hi]), (10, vi x10)], [some ⟨true, 1, [vi a0.Lo, vi a0.Hi]⟩], .nil⟩ (.exit 0) ⟨mkA [(1, VV.pt 0 0)], [some ⟨true, 1, [vi a0.Lo, vi a0.Hi]⟩], .nil⟩) := by
  intro fuel
  induction fuel with
  | zero => intro x10 r h; rw [nspeculumref01_CheckRange_l0_0.eq_1] at h; cases h
  | succ fuel ih =>
    intro x10 r h
    rw [nspeculumref01_CheckRange_l0_0.eq_2] at h
    by_cases h586 : x10 < 2
    · rw [if_pos h586] at h
      by_cases h587 : x10 = 0
      · rw [if_pos h587] at h
        by_cases h588 : a0.Lo < (-1000000000000000)
        · rw [if_pos h588] at h
          injection h with h; subst h
          exact round_stop (c := ⟨[(2, none)], [], []⟩) (s1 := ⟨mkA [(2, vi 2)], [], .nil⟩) pm pn (ans := [.reg [.n], .br true, .reg [.v (vi a0.Lo), .n], .reg [.n, .n, .n, .skip, .skip, .b true], .br true, .reg [.n]]) (by kernel_rfl) (by intro e; cases e) (an (an (ti trivial) (an (an (decide_eq_true h586) trivial) (an (an (show (0:Int) ≤ x10 ∧ x10 < ((2 : Nat) : Int) ∧ partV (x10.toNat * 1) none [vi a0.Lo, vi a0.Hi] = some (vi a0.Lo) from ⟨by have := (of_decide_eq_true (decide_eq_true h587)); omega, by have := (of_decide_eq_true (decide_eq_true h587)); omega, by rw [show x10 = (0 : Int) from (of_decide_eq_true (decide_eq_true h587))]; rfl⟩) (ti trivial)) (an (ti (ti (ti (an (decide_eq_true h588) (an (decide_eq_true h588) (an (decide_eq_true h588) trivial)))))) (an rt (an (ti trivial) trivial)))))) (ti trivial))
        · rw [if_neg h588] at h
          by_cases h589 : 1000000000000000 < a0.Lo
          · rw [if_pos h589] at h
            injection h with h; subst h
            exact round_stop (c := ⟨[(2, none)], [], []⟩) (s1 := ⟨mkA [(2, vi 2)], [], .nil⟩) pm pn (ans := [.reg [.n], .br true, .reg [.v (vi a0.Lo), .n], .reg [.n, .n, .n, .n, .n, .b false], .br true, .reg [.n]]) (by kernel_rfl) (by intro e; cases e) (an (an (ti trivial) (an (an (decide_eq_true h586) trivial) (an (an (show (0:Int) ≤ x10 ∧ x10 < ((2 : Nat) : Int) ∧ partV (x10.toNat * 1) none [vi a0.Lo, vi a0.Hi] = some (vi a0.Lo) from ⟨by have := (of_decide_eq_true (decide_eq_true h587)); omega, by have := (of_decide_eq_true (decide_eq_true h587)); omega, by rw [show x10 = (0 : Int) from (of_decide_eq_true (decide_eq_true h587))]; rfl⟩) (ti trivial)) (an (ti (ti (ti (an (an (decide_eq_false h588) trivial) (an (an (decide_eq_false h588) trivial) (an (decide_eq_false h588) trivial)))))) (an (decide_eq_true h589) (an (ti trivial) trivial)))))) (ti trivial))
          · rw [if_neg h589] at h
            have h2 := ih _ _ h
            obtain ⟨q, hv, hq⟩ := pkR (rd := none) (P := Go.Proofs.Try.prog) (fn := Go.Proofs.Try.f33) (k := 0) (s := ⟨mkA [(1, VV.pt 0 0), (9, VV.ag [vi a0.Lo, vi a0.Hi]), (10, vi x10)], [some ⟨true, 1, [vi a0.Lo, vi a0.Hi]⟩], .nil⟩) (ans := [.reg [.n], .br true, .reg [.v (vi a0.Lo), .n], .reg [.n, .n, .n, .n, .n, .b false], .br false, .reg [.n, .n]]) (c := ⟨[(1, none), (9, none), (10, none)], [none], []⟩) (e := .normal) (s1 := ⟨mkA [(1, VV.pt 0 0), (9, VV.ag [vi a0.Lo, vi a0.Hi]), (10, vi (w64 (x10 + 1)))], [some ⟨true, 1, [vi a0.Lo, vi a0.Hi]⟩], .nil⟩) (an (an (ti trivial) (an (an (decide_eq_true h586) trivial) (an (an (an (show (0:Int) ≤ x10 ∧ x10 < ((2 : Nat) : Int) ∧ partV (x10.toNat * 1) none [vi a0.Lo, vi a0.Hi] = some (vi a0.Lo) from ⟨by have := (of_decide_eq_true (decide_eq_true h587)); omega, by have := (of_decide_eq_true (decide_eq_true h587)); omega, by rw [show x10 = (0 : Int) from (of_decide_eq_true (decide_eq_true h587))]; rfl⟩) (ti trivial)) (an (ti (ti (ti (an (an (decide_eq_false h588) trivial) (an (an (decide_eq_false h588) trivial) (an (decide_eq_false h588) trivial)))))) (an (decide_eq_false h589) trivial))) (ti (ti trivial))))) (ti trivial)) (by kernel_rfl)
            cases r with
            | inl r => exact round_next pm pn hv hq h2
            | inr r =>
              exact round_next pm pn hv hq h2
      · rw [if_neg h587] at h
        by_cases h590 : x10 = 1
        · rw [if_pos h590] at h
          by_cases h591 : a0.Hi < (-1000000000000000)
          · rw [if_pos h591] at h
            injection h with h; subst h
            exact round_stop (c := ⟨[(2, none)], [], []⟩) (s1 := ⟨mkA [(2, vi 2)], [], .nil⟩) pm pn (ans := [.reg [.n], .br true, .reg [.v (vi a0.Hi), .n], .reg [.n, .n, .n, .skip, .skip, .b true], .br true, .reg [.n]]) (by kernel_rfl) (by intro e; cases e) (an (an (ti trivial) (an (an (decide_eq_true h586) trivial) (an (an (show (0:Int) ≤ x10 ∧ x10 < ((2 : Nat) : Int) ∧ partV (x10.toNat * 1) none [vi a0.Lo, vi a0.Hi] = some (vi a0.Hi) from ⟨by have := (of_decide_eq_true (decide_eq_true h590)); omega, by have := (of_decide_eq_true (decide_eq_true h590)); omega, by rw [show x10 = (1 : Int) from (of_decide_eq_true (decide_eq_true h590))]; rfl⟩) (ti trivial)) (an (ti (ti (ti (an (decide_eq_true h591) (an (decide_eq_true h591) (an (decide_eq_true h591) trivial)))))) (an rt (an (ti trivial) trivial)))))) (ti trivial))
          · rw [if_neg h591] at h
            by_cases h592 : 1000000000000000 < a0.Hi
            · rw [if_pos h592] at h
              injection h with h; subst h
              exact round_stop (c := ⟨[(2, none)], [], []⟩) (s1 := ⟨mkA [(2, vi 2)], [], .nil⟩) pm pn (ans := [.reg [.n], .br true, .reg [.v (vi a0.Hi), .n], .reg [.n, .n, .n, .n, .n, .b false], .br true, .reg [.n]]) (by kernel_rfl) (by intro e; cases e) (an (an (ti trivial) (an (an (decide_eq_true h586) trivial) (an (an (show (0:Int) ≤ x10 ∧ x10 < ((2 : Nat) : Int) ∧ partV (x10.toNat * 1) none [vi a0.Lo, vi a0.Hi] = some (vi a0.Hi) from ⟨by have := (of_decide_eq_true (decide_eq_true h590)); omega, by have := (of_decide_eq_true (decide_eq_true h590)); omega, by rw [show x10 = (1 : Int) from (of_decide_eq_true (decide_eq_true h590))]; rfl⟩) (ti trivial)) (an (ti (ti (ti (an (an (decide_eq_false h591) trivial) (an (an (decide_eq_false h591) trivial) (an (decide_eq_false h591) trivial)))))) (an (decide_eq_true h592) (an (ti trivial) trivial)))))) (ti trivial))
            · rw [if_neg h592] at h
              have h2 := ih _ _ h
              obtain ⟨q, hv, hq⟩ := pkR (rd := none) (P := Go.Proofs.Try.prog) (fn := Go.Proofs.Try.f33) (k := 0) (s := ⟨mkA [(1, VV.pt 0 0), (9, VV.ag [vi a0.Lo, vi a0.Hi]), (10, vi x10)], [some ⟨true, 1, [vi a0.Lo, vi a0.Hi]⟩], .nil⟩) (ans := [.reg [.n], .br true, .reg [.v (vi a0.Hi), .n], .reg [.n, .n, .n, .n, .n, .b false], .br false, .reg [.n, .n]]) (c := ⟨[(1, none), (9, none), (10, none)], [none], []⟩) (e := .normal) (s1 := ⟨mkA [(1, VV.pt 0 0), (9, VV.ag [vi a0.Lo, vi a0.Hi]), (10, vi (w64 (x10 + 1)))], [some ⟨true, 1, [vi a0.Lo, vi a0.Hi]⟩], .nil⟩) (an (an (ti trivial) (an (an (decide_eq_true h586) trivial) (an (an (an (show (0:Int) ≤ x10 ∧ x10 < ((2 : Nat) : Int) ∧ partV (x10.toNat * 1) none [vi a0.Lo, vi a0.Hi] = some (vi a0.Hi) from ⟨by have := (of_decide_eq_true (decide_eq_true h590)); omega, by have := (of_decide_eq_true (decide_eq_true h590)); omega, by rw [show x10 = (1 : Int) from (of_decide_eq_true (decide_eq_true h590))]; rfl⟩) (ti trivial)) (an (ti (ti (ti (an (an (decide_eq_false h591) trivial) (an (an (decide_eq_false h591) trivial) (an (decide_eq_false h591) trivial)))))) (an (decide_eq_false h592) trivial))) (ti (ti trivial))))) (ti trivial)) (by kernel_rfl)
              cases r with
              | inl r => exact round_next pm pn hv hq h2
              | inr r =>
                exact round_next pm pn hv hq h2
        · rw [if_neg h590] at h
          cases h
    · rw [if_neg h586] at h
      injection h with h; subst h
      exact round_stop (c := ⟨[(1, none)], [none], []⟩) (s1 := ⟨mkA [(1, VV.pt 0 0)], [some ⟨true, 1, [vi a0.Lo, vi a0.Hi]⟩], .nil⟩) pm pn (ans := [.reg [.n], .br false]) (by kernel_rfl) (by intro e; cases e) (an (an (ti trivial) (an (decide_eq_false h586) trivial)) (ti trivial))
def nspeculumref01_CheckRange (k : Nat) (a0 : SRange) : Option Int :=
  (nspeculumref01_CheckRange_l0_0 k a0 k 0).bind fun r594 => (match r594 with | .inl r595 => (some 2) | .inr r596 => (if a0.Hi < a0.Lo then (some 9) else (some 0)))
set_option maxRecDepth 100000 in
set_option maxHeartbeats 4000000 in
theorem nspeculumref01_CheckRange_ok (k : Nat) (a0 : SRange) (r : Int) (h : nspeculumref01_CheckRange k a0 = some r) : VC Go.Proofs.Try.prog 33 [VV.ag [vi a0.Lo, vi a0.Hi]] (vi r) := by
  unfold nspeculumref01_CheckRange at h
  cases h593 : nspeculumref01_CheckRange_l0_0 k a0 k 0 with
  | none => rw [h593] at h; cases h
  | some r594 =>
    rw [h593, Option.bind_some] at h
    have hph593 := nspeculumref01_CheckRange_l0_0_ok k a0 _ _ _ h593
    cases r594 with
    | inl r595 =>
      dsimp only at h
      injection h with h; subst h
      exact fun_ok pm pn Go.Proofs.Try.func33 (r0 := vi 2) (ans := [.reg [.n, .n], .reg [.n, .n, .n, .n, .n, .n], .sub ⟨[(1, none), (9, none), (10, none)], [none], []⟩ .ret ⟨mkA [(2, vi 2)], [], .nil⟩]) (fr := true) (by kernel_rfl) (an (an (ti (ti trivial)) (an (ti (ti (ti (ti (ti (ti trivial)))))) (an (ti trivial) (VRun.loop hph593)))) (ti trivial)) (Wv.refl _)
    | inr r596 =>
      dsimp only at h
      by_cases h597 : a0.Hi < a0.Lo
      · rw [if_pos h597] at h
        injection h with h; subst h
        exact fun_ok pm pn Go.Proofs.Try.func33 (r0 := vi 9) (ans := [.reg [.n, .n], .reg [.n, .n, .n, .n, .n, .n], .sub ⟨[(1, none), (9, none), (10, none)], [none], []⟩ (.exit 0) ⟨mkA [(1, VV.pt 0 0)], [some ⟨true, 1, [vi a0.Lo, vi a0.Hi]⟩], .nil⟩, .reg [.n, .n, .n, .n, .n], .br true, .reg [.n]]) (fr := true) (by kernel_rfl) (an (an (ti (ti trivial)) (an (an (ti (ti (ti (ti (ti (ti trivial)))))) (an (ti trivial) (VRun.loop hph593))) (an (ti (ti (ti (ti (ti trivial))))) (an (decide_eq_true h597) (an (ti trivial) trivial))))) (ti trivial)) (Wv.refl _)
      · rw [if_neg h597] at h
        injection h with h; subst h
        exact fun_ok pm pn Go.Proofs.Try.func33 (r0 := vi 0) (ans := [.reg [.n, .n], .reg [.n, .n, .n, .n, .n, .n], .sub ⟨[(1, none), (9, none), (10, none)], [none], []⟩ (.exit 0) ⟨mkA [(1, VV.pt 0 0)], [some ⟨true, 1, [vi a0.Lo, vi a0.Hi]⟩], .nil⟩, .reg [.n, .n, .n, .n, .n], .br false, .reg [.n]]) (fr := true) (by kernel_rfl) (an (an (ti (ti trivial)) (an (an (ti (ti (ti (ti (ti (ti trivial)))))) (an (ti trivial) (VRun.loop hph593))) (an (an (ti (ti (ti (ti (ti trivial))))) (an (decide_eq_false h597) trivial)) (an (ti trivial) trivial)))) (ti trivial)) (Wv.refl _)
def nspeculumbase_Floor (k : Nat) (a0 : Int) (a1 : Int) : Option Int :=
  if a1 ≠ 0 then (if (a0.tmod a1) < 0 then (some (w64 ((w64 (a0.tdiv a1)) - 1))) else (some (w64 (a0.tdiv a1)))) else none
set_option maxRecDepth 100000 in
set_option maxHeartbeats 4000000 in
theorem nspeculumbase_Floor_ok (k : Nat) (a0 : Int) (a1 : Int) (r : Int) (h : nspeculumbase_Floor k a0 a1 = some r) : VC Go.Proofs.Try.prog 88 [vi a0, vi a1] (vi r) := by
  unfold nspeculumbase_Floor at h
  by_cases h605 : a1 ≠ 0
  · rw [if_pos h605] at h
    by_cases h606 : (a0.tmod a1) < 0
    · rw [if_pos h606] at h
      injection h with h; subst h
      exact fun_ok pm pn Go.Proofs.Try.func88 (r0 := vi (w64 ((w64 (a0.tdiv a1)) - 1))) (ans := [.reg [.n], .reg [.n, .n, .n, .n], .reg [.n, .n, .n, .n], .br true, .reg [.n, .n, .n], .reg [.n, .n]]) (fr := true) (by kernel_rfl) (an (an (ti trivial) (an (ti (ti (an h605 (ti trivial)))) (an (an (ti (ti (an h605 (ti trivial)))) (an (decide_eq_true h606) (ti (ti (ti trivial))))) (an (ti (ti trivial)) trivial)))) (ti trivial)) (Wv.refl _)
    · rw [if_neg h606] at h
      injection h with h; subst h
      exact fun_ok pm pn Go.Proofs.Try.func88 (r0 := vi (w64 (a0.tdiv a1))) (ans := [.reg [.n], .reg [.n, .n, .n, .n], .reg [.n, .n, .n, .n], .br false, .reg [.n, .n]]) (fr := true) (by kernel_rfl) (an (an (ti trivial) (an (ti (ti (an h605 (ti trivial)))) (an (an (ti (ti (an h605 (ti trivial)))) (an (decide_eq_false h606) trivial)) (an (ti (ti trivial)) trivial)))) (ti trivial)) (Wv.refl _)
  · rw [if_neg h605] at h; cases h
def nspeculumbase_Ceil (k : Nat) (a0 : Int) (a1 : Int) : Option Int :=
  (nspeculumbase_Floor k (w64 (0 - a0)) a1).bind fun r609 => (some (w64 (0 - r609)))
set_option maxRecDepth 100000 in
set_option maxHeartbeats 4000000 in
theorem nspeculumbase_Ceil_ok (k : Nat) (a0 : Int) (a1 : Int) (r : Int) (h : nspeculumbase_Ceil k a0 a1 = some r) : VC Go.Proofs.Try.prog 87 [vi a0, vi a1] (vi r) := by
  unfold nspeculumbase_Ceil at h
  cases h610 : nspeculumbase_Floor k (w64 (0 - a0)) a1 with
  | none => rw [h610] at h; cases h
  | some r609 =>
    rw [h610, Option.bind_some] at h
    injection h with h; subst h
    exact fun_ok pm pn Go.Proofs.Try.func87 (r0 := vi (w64 (0 - r609))) (ans := [.reg [.n], .reg [.n, .n, .n, .call (vi r609), .n, .n]]) (fr := true) (by kernel_rfl) (an (an (ti trivial) (an (ti (ti (ti (an (nspeculumbase_Floor_ok k (w64 (0 - a0)) a1 _ h610) (ti (ti trivial)))))) trivial)) (ti trivial)) (Wv.refl _)
def nspeculumref08_CountsFor (k : Nat) (a0 : (List SMaterial)) (a1 : ByteArray) (a2 : SRange) : Option (A44 × Int) :=
  (nspeculumref08_FindMaterial k a0 a1).bind fun r616 => (if r616 < 0 then (some ((⟨0, 0⟩ : A44), 6)) else ((nspeculumref01_CheckRange k (⟨a2.Lo, a2.Hi⟩ : SRange)).bind fun r619 => (if r619 = 0 then (if a2.Lo < 0 then (some ((⟨0, 0⟩ : A44), 2)) else (if 0 ≤ r616 ∧ r616 < (a0.length : Int) then ((nspeculumbase_Ceil k a2.Lo (((a0.getD r616.toNat default).PerCount).Lo)).bind fun r624 => ((nspeculumbase_Floor k a2.Hi (((a0.getD r616.toNat default).PerCount).Hi)).bind fun r626 => (if (minI 100000 (w64 (r626 - 1))) < (maxI 1 r624) then (some ((⟨0, 0⟩ : A44), 12)) else (some ((⟨maxI 1 r624, minI 100000 (w64 (r626 - 1))⟩ : A44), 0))))) else none)) else (some ((⟨0, 0⟩ : A44), r619)))))
set_option maxRecDepth 100000 in
set_option maxHeartbeats 4000000 in
theorem nspeculumref08_CountsFor_ok (k : Nat) (a0 : (List SMaterial)) (a1 : ByteArray) (a2 : SRange) (r : (A44 × Int)) (h : nspeculumref08_CountsFor k a0 a1 a2 = some r) : VC Go.Proofs.Try.prog 32 [VV.tr (List.flatMap c_SMaterial a0) a0.length, vs a1, VV.ag [vi a2.Lo, vi a2.Hi]] (VV.tu [VV.ag [vi r.1.e0, vi r.1.e1], vi r.2]) := by
  unfold nspeculumref08_CountsFor at h
  cases h617 : nspeculumref08_FindMaterial k a0 a1 with
  | none => rw [h617] at h; cases h
  | some r616 =>
    rw [h617, Option.bind_some] at h
    by_cases h618 : r616 < 0
    · rw [if_pos h618] at h
      injection h with h; subst h
      exact fun_ok pm pn Go.Proofs.Try.func32 (r0 := VV.tu [VV.ag [vi 0, vi 0], vi 6]) (ans := [.reg [.n, .n, .n], .reg [.n, .n, .call (vi r616), .n], .reg [.n, .n], .br true, .reg [.n, .n, .n]]) (fr := true) (by kernel_rfl) (an (an (ti (ti (ti trivial))) (an (ti (ti (an (nspeculumref08_FindMaterial_ok k a0 a1 _ h617) (ti trivial)))) (an (ti (ti trivial)) (an (decide_eq_true h618) (an (ti (ti (ti trivial))) trivial))))) (an (ti (ti (ti trivial))) (ti trivial))) (Wv.of_eq (by simp only [drop0, unfr_vi, unfr_vb, unfr_vs, List.map_cons, List.map_nil, un_i, un_k, un_b, un_s, un_tr, un_fr, List.length_map, List.length_replicate, List.length_append, List.length_set, List.length_cons, List.length_nil, unfr_c_SMaterial, unfr_c_SRange, unfr_c_A44]))
    · rw [if_neg h618] at h
      cases h620 : nspeculumref01_CheckRange k (⟨a2.Lo, a2.Hi⟩ : SRange) with
      | none => rw [h620] at h; cases h
      | some r619 =>
        rw [h620, Option.bind_some] at h
        by_cases h621 : r619 = 0
        · rw [if_pos h621] at h
          by_cases h622 : a2.Lo < 0
          · rw [if_pos h622] at h
            injection h with h; subst h
            exact fun_ok pm pn Go.Proofs.Try.func32 (r0 := VV.tu [VV.ag [vi 0, vi 0], vi 2]) (ans := [.reg [.n, .n, .n], .reg [.n, .n, .call (vi r616), .n], .reg [.n, .n], .br false, .reg [.n, .call (vi r619), .n], .reg [.n, .n], .br false, .reg [.n, .n, .n], .br true, .reg [.n, .n, .n]]) (fr := true) (by kernel_rfl) (an (an (ti (ti (ti trivial))) (an (ti (ti (an (nspeculumref08_FindMaterial_ok k a0 a1 _ h617) (ti trivial)))) (an (an (ti (ti trivial)) (an (decide_eq_false h618) trivial)) (an (an (ti (an (show VC Go.Proofs.Try.prog 33 [VV.ag [vi a2.Lo, vi a2.Hi]] (vi r619) from (VC.args (nspeculumref01_CheckRange_ok k (⟨a2.Lo, a2.Hi⟩ : SRange) _ h620) (by first | rfl | simp only [drop0, unfr_vi, unfr_vb, unfr_vs, List.map_cons, List.map_nil, un_i, un_k, un_b, un_s, un_tr, un_fr, List.length_map, List.length_replicate, List.length_append, List.length_set, List.length_cons, List.length_nil, unfr_c_SMaterial, unfr_c_SRange, unfr_c_A44]))) (ti trivial))) (an (ti (ti trivial)) (an (not_f (decide_eq_true h621)) trivial))) (an (ti (ti (ti trivial))) (an (decide_eq_true h622) (an (ti (ti (ti trivial))) trivial))))))) (an (ti (ti (ti trivial))) (ti trivial))) (Wv.of_eq (by simp only [drop0, unfr_vi, unfr_vb, unfr_vs, List.map_cons, List.map_nil, un_i, un_k, un_b, un_s, un_tr, un_fr, List.length_map, List.length_replicate, List.length_append, List.length_set, List.length_cons, List.length_nil, unfr_c_SMaterial, unfr_c_SRange, unfr_c_A44]))
          · rw [if_neg h622] at h
            by_cases h623 : 0 ≤ r616 ∧ r616 < (a0.length : Int)
            · rw [if_pos h623] at h
              cases h625 : nspeculumbase_Ceil k a2.Lo (((a0.getD r616.toNat default).PerCount).Lo) with
              | none => rw [h625] at h; cases h
              | some r624 =>
                rw [h625, Option.bind_some] at h
                cases h627 : nspeculumbase_Floor k a2.Hi (((a0.getD r616.toNat default).PerCount).Hi) with
                | none => rw [h627] at h; cases h
                | some r626 =>
                  rw [h627, Option.bind_some] at h
                  by_cases h628 : (minI 100000 (w64 (r626 - 1))) < (maxI 1 r624)
                  · rw [if_pos h628] at h
                    injection h with h; subst h
                    exact fun_ok pm pn Go.Proofs.Try.func32 (r0 := VV.tu [VV.ag [vi 0, vi 0], vi 12]) (ans := [.reg [.n, .n, .n], .reg [.n, .n, .call (vi r616), .n], .reg [.n, .n], .br false, .reg [.n, .call (vi r619), .n], .reg [.n, .n], .br false, .reg [.n, .n, .n], .br false, .reg [.n, .n, .n, .n, .v (VV.ag [vi (((a0.getD r616.toNat default).PerCount).Lo), vi (((a0.getD r616.toNat default).PerCount).Hi)]), .n, .n], .reg [.n, .n, .n, .n, .call (vi r624), .n, .n, .n, .n, .n, .call (vi r626), .n, .n, .n, .n], .reg [.n, .n, .n], .br true, .reg [.n, .n, .n]]) (fr := true) (by kernel_rfl) (an (an (ti (ti (ti trivial))) (an (ti (ti (an (nspeculumref08_FindMaterial_ok k a0 a1 _ h617) (ti trivial)))) (an (an (ti (ti trivial)) (an (decide_eq_false h618) trivial)) (an (an (ti (an (show VC Go.Proofs.Try.prog 33 [VV.ag [vi a2.Lo, vi a2.Hi]] (vi r619) from (VC.args (nspeculumref01_CheckRange_ok k (⟨a2.Lo, a2.Hi⟩ : SRange) _ h620) (by first | rfl | simp only [drop0, unfr_vi, unfr_vb, unfr_vs, List.map_cons, List.map_nil, un_i, un_k, un_b, un_s, un_tr, un_fr, List.length_map, List.length_replicate, List.length_append, List.length_set, List.length_cons, List.length_nil, unfr_c_SMaterial, unfr_c_SRange, unfr_c_A44]))) (ti trivial))) (an (ti (ti trivial)) (an (not_f (decide_eq_true h621)) trivial))) (an (an (ti (ti (ti trivial))) (an (decide_eq_false h622) trivial)) (an (ti (ti (an h623 (ti (an (show loadL Go.Proofs.Try.prog 28 (r616.toNat * 3 + 1) (List.flatMap c_SMaterial a0) = some (VV.ag [vi (((a0.getD r616.toNat default).PerCount).Lo), vi (((a0.getD r616.toNat default).PerCount).Hi)]) from ld_part ag28 c_SMaterial 3 1 2 sz28 len_c_SMaterial (by omega) a0 default h623 (by omega)) (ti (ti trivial))))))) (an (ti (ti (ti (ti (an (nspeculumbase_Ceil_ok k a2.Lo (((a0.getD r616.toNat default).PerCount).Lo) _ h625) (ti (ti (ti (ti (ti (an (nspeculumbase_Floor_ok k a2.Hi (((a0.getD r616.toNat default).PerCount).Hi) _ h627) (ti (ti (ti (ti trivial))))))))))))))) (an (ti (ti (ti trivial))) (an (decide_eq_true h628) (an (ti (ti (ti trivial))) trivial)))))))))) (an (ti (ti (ti trivial))) (ti trivial))) (Wv.of_eq (by simp only [drop0, unfr_vi, unfr_vb, unfr_vs, List.map_cons, List.map_nil, un_i, un_k, un_b, un_s, un_tr, un_fr, List.length_map, List.length_replicate, List.length_append, List.length_set, List.length_cons, List.length_nil, unfr_c_SMaterial, unfr_c_SRange, unfr_c_A44]))
                  · rw [if_neg h628] at h
                    injection h with h; subst h
                    exact fun_ok pm pn Go.Proofs.Try.func32 (r0 := VV.tu [VV.ag [vi (maxI 1 r624), vi (minI 100000 (w64 (r626 - 1)))], vi 0]) (ans := [.reg [.n, .n, .n], .reg [.n, .n, .call (vi r616), .n], .reg [.n, .n], .br false, .reg [.n, .call (vi r619), .n], .reg [.n, .n], .br false, .reg [.n, .n, .n], .br false, .reg [.n, .n, .n, .n, .v (VV.ag [vi (((a0.getD r616.toNat default).PerCount).Lo), vi (((a0.getD r616.toNat default).PerCount).Hi)]), .n, .n], .reg [.n, .n, .n, .n, .call (vi r624), .n, .n, .n, .n, .n, .call (vi r626), .n, .n, .n, .n], .reg [.n, .n, .n], .br false, .reg [.n, .n, .n, .n, .n]]) (fr := true) (by kernel_rfl) (an (an (ti (ti (ti trivial))) (an (ti (ti (an (nspeculumref08_FindMaterial_ok k a0 a1 _ h617) (ti trivial)))) (an (an (ti (ti trivial)) (an (decide_eq_false h618) trivial)) (an (an (ti (an (show VC Go.Proofs.Try.prog 33 [VV.ag [vi a2.Lo, vi a2.Hi]] (vi r619) from (VC.args (nspeculumref01_CheckRange_ok k (⟨a2.Lo, a2.Hi⟩ : SRange) _ h620) (by first | rfl | simp only [drop0, unfr_vi, unfr_vb, unfr_vs, List.map_cons, List.map_nil, un_i, un_k, un_b, un_s, un_tr, un_fr, List.length_map, List.length_replicate, List.length_append, List.length_set, List.length_cons, List.length_nil, unfr_c_SMaterial, unfr_c_SRange, unfr_c_A44]))) (ti trivial))) (an (ti (ti trivial)) (an (not_f (decide_eq_true h621)) trivial))) (an (an (ti (ti (ti trivial))) (an (decide_eq_false h622) trivial)) (an (ti (ti (an h623 (ti (an (show loadL Go.Proofs.Try.prog 28 (r616.toNat * 3 + 1) (List.flatMap c_SMaterial a0) = some (VV.ag [vi (((a0.getD r616.toNat default).PerCount).Lo), vi (((a0.getD r616.toNat default).PerCount).Hi)]) from ld_part ag28 c_SMaterial 3 1 2 sz28 len_c_SMaterial (by omega) a0 default h623 (by omega)) (ti (ti trivial))))))) (an (ti (ti (ti (ti (an (nspeculumbase_Ceil_ok k a2.Lo (((a0.getD r616.toNat default).PerCount).Lo) _ h625) (ti (ti (ti (ti (ti (an (nspeculumbase_Floor_ok k a2.Hi (((a0.getD r616.toNat default).PerCount).Hi) _ h627) (ti (ti (ti (ti trivial))))))))))))))) (an (an (ti (ti (ti trivial))) (an (decide_eq_false h628) trivial)) (an (ti (ti (ti (ti (ti trivial))))) trivial))))))))) (an (ti (ti (ti trivial))) (ti trivial))) (Wv.of_eq (by simp only [drop0, unfr_vi, unfr_vb, unfr_vs, List.map_cons, List.map_nil, un_i, un_k, un_b, un_s, un_tr, un_fr, List.length_map, List.length_replicate, List.length_append, List.length_set, List.length_cons, List.length_nil, unfr_c_SMaterial, unfr_c_SRange, unfr_c_A44]))
            · rw [if_neg h623] at h; cases h
        · rw [if_neg h621] at h
          injection h with h; subst h
          exact fun_ok pm pn Go.Proofs.Try.func32 (r0 := VV.tu [VV.ag [vi 0, vi 0], vi r619]) (ans := [.reg [.n, .n, .n], .reg [.n, .n, .call (vi r616), .n], .reg [.n, .n], .br false, .reg [.n, .call (vi r619), .n], .reg [.n, .n], .br true, .reg [.n, .n, .n, .n]]) (fr := true) (by kernel_rfl) (an (an (ti (ti (ti trivial))) (an (ti (ti (an (nspeculumref08_FindMaterial_ok k a0 a1 _ h617) (ti trivial)))) (an (an (ti (ti trivial)) (an (decide_eq_false h618) trivial)) (an (ti (an (show VC Go.Proofs.Try.prog 33 [VV.ag [vi a2.Lo, vi a2.Hi]] (vi r619) from (VC.args (nspeculumref01_CheckRange_ok k (⟨a2.Lo, a2.Hi⟩ : SRange) _ h620) (by first | rfl | simp only [drop0, unfr_vi, unfr_vb, unfr_vs, List.map_cons, List.map_nil, un_i, un_k, un_b, un_s, un_tr, un_fr, List.length_map, List.length_replicate, List.length_append, List.length_set, List.length_cons, List.length_nil, unfr_c_SMaterial, unfr_c_SRange, unfr_c_A44]))) (ti trivial))) (an (ti (ti trivial)) (an (not_t (decide_eq_false h621)) (an (ti (ti (ti (ti trivial)))) trivial))))))) (an (ti (ti (ti trivial))) (ti trivial))) (Wv.of_eq (by simp only [drop0, unfr_vi, unfr_vb, unfr_vs, List.map_cons, List.map_nil, un_i, un_k, un_b, un_s, un_tr, un_fr, List.length_map, List.length_replicate, List.length_append, List.length_set, List.length_cons, List.length_nil, unfr_c_SMaterial, unfr_c_SRange, unfr_c_A44]))
end Go.Proofs.Ytpnlkhmnhjcgkaa.Vg

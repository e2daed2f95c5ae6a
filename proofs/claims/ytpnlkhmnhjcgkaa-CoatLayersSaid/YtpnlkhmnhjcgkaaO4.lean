/- Written by a program out of the program: what Go functions do, as plain functions, and their contracts. -/
import Derived.Test.YtpnlkhmnhjcgkaaO1
namespace Go.Proofs.Ytpnlkhmnhjcgkaa.Vg
set_option linter.unusedVariables false
set_option linter.unusedSimpArgs false
open Go Go.Proofs.Ytpnlkhmnhjcgkaa.Ev Go.Proofs.Ytpnlkhmnhjcgkaa.Vv
structure SCoatLayer where
  Material : ByteArray
  Counts : Int
  deriving Inhabited
def c_SCoatLayer (x : SCoatLayer) : List VV := [vs x.Material, vi x.Counts]
theorem len_c_SCoatLayer (x : SCoatLayer) : (c_SCoatLayer x).length = 2 := rfl
theorem still_c_SCoatLayer (xs : List SCoatLayer) : (xs.flatMap c_SCoatLayer).all VV.still = true := all_flat (fun _ => rfl) xs
theorem isC_c_SCoatLayer (xs : List SCoatLayer) : (xs.flatMap c_SCoatLayer).all VV.isC = true := all_flat (fun _ => rfl) xs
theorem new0_c_SCoatLayer (xs : List SCoatLayer) : (xs.flatMap c_SCoatLayer).all new0 = true := all_flat (fun _ => rfl) xs
theorem unfr_c_SCoatLayer (xs : List SCoatLayer) : (xs.flatMap c_SCoatLayer).map unfr = xs.flatMap c_SCoatLayer := unfr_flat (fun _ => rfl) xs
theorem ag41 : isAggT Go.Proofs.Try.prog 41 = some true := by kernel_rfl
theorem sz41 : szOf Go.Proofs.Try.prog 41 = some 2 := by kernel_rfl
def ncoat_CheckRecipe_l0_0 (k : Nat) (a0 : (List SMaterial)) (a1 : (List SCoatLayer)) : Nat → Int → Option (Sum Int Unit)
  | 0, _ => none
  | fuel + 1, x18 => if x18 < (a1.length : Int) then (if 0 ≤ x18 ∧ x18 < (a1.length : Int) then ((ncoat_find k a0 ((a1.getD x18.toNat default).Material)).bind fun r683 => (if r683 < 0 then (some (.inl 6)) else ((ncoat_areWithin k 1 100000 ([(a1.getD x18.toNat default).Counts] : List Int)).bind fun r686 => (if r686 = true then (ncoat_CheckRecipe_l0_0 k a0 a1 fuel (w64 (x18 + 1))) else (some (.inl 2)))))) else none) else (some (.inr ()))
set_option maxRecDepth 100000 in
set_option maxHeartbeats 4000000 in
theorem ncoat_CheckRecipe_l0_0_ok (k : Nat) (a0 : (List SMaterial)) (a1 : (List SCoatLayer)) : ∀ (fuel : Nat) (x18 : Int) (r : Sum Int Unit), ncoat_CheckRecipe_l0_0 k a0 a1 fuel x18 = some r → (match r with | .inl r => VLoop none Go.Proofs.Try.prog (szF Go.Proofs.Try.f27) (bodyOf Go.Proofs.Try.f27 0) ⟨mkA [(0, VV.tr (List.flatMap c_SMaterial a0) a0.length), (16, VV.tr (List.flatMap c_SCoatLayer a1) a1.length), (17, vi (a1.length : Int)), (18, vi x18)], [], .nil⟩ .ret ⟨mkA [(4, vi r)], [], .nil⟩ | .inr r => VLoop none Go.Proofs.Try.prog (szF Go.Proofs.Try.f27) (bodyOf Go.Proofs.Try.f27 0) ⟨mkA [(0, VV.tr (List.flatMap c_SMaterial a0) a0.length), (16, VV.tr (List.flatMap c_SCoatLayer a1) a1.length), (17, vi (a1.length : Int)), (18, vi x18)], [], .nil⟩ (.exit 0) ⟨mkA [], [], .nil⟩) := by
  intro fuel
  induction fuel with
  | zero => intro x18 r h; rw [ncoat_CheckRecipe_l0_0.eq_1] at h; cases h
  | succ fuel ih =>
    intro x18 r h
    rw [ncoat_CheckRecipe_l0_0.eq_2] at h
    by_cases h681 : x18 < (a1.length : Int)
    · rw [if_pos h681] at h
      by_cases h682 : 0 ≤ x18 ∧ x18 < (a1.length : Int)
      · rw [if_pos h682] at h
        cases h684 : ncoat_find k a0 ((a1.getD x18.toNat default).Material) with
        | none => rw [h684] at h; cases h
        | some r683 =>
          rw [h684, Option.bind_some] at h
          by_cases h685 : r683 < 0
          · rw [if_pos h685] at h
            injection h with h; subst h
            exact round_stop (c := ⟨[(4, none)], [], []⟩) (s1 := ⟨mkA [(4, vi 6)], [], .nil⟩) pm pn (ans := [.reg [.n], .br true, .reg [.n, .v (VV.ag [vs ((a1.getD x18.toNat default).Material), vi ((a1.getD x18.toNat default).Counts)]), .n, .n], .reg [.n, .n, .n, .call (vi r683), .n, .n], .br true, .reg [.n]]) (by kernel_rfl) (by intro e; cases e) (an (an (ti trivial) (an (an (decide_eq_true h681) trivial) (an (an h682 (an (show loadL Go.Proofs.Try.prog 41 (x18.toNat * 2) (List.flatMap c_SCoatLayer a1) = some (VV.ag [vs ((a1.getD x18.toNat default).Material), vi ((a1.getD x18.toNat default).Counts)]) from ld_whole ag41 c_SCoatLayer 2 sz41 len_c_SCoatLayer a1 default h682 (by omega)) (ti (ti trivial)))) (an (ti (ti (ti (an (ncoat_find_ok k a0 ((a1.getD x18.toNat default).Material) _ h684) (ti (ti trivial)))))) (an (decide_eq_true h685) (an (ti trivial) trivial)))))) (ti trivial))
          · rw [if_neg h685] at h
            cases h687 : ncoat_areWithin k 1 100000 ([(a1.getD x18.toNat default).Counts] : List Int) with
            | none => rw [h687] at h; cases h
            | some r686 =>
              rw [h687, Option.bind_some] at h
              by_cases h688 : r686 = true
              · rw [if_pos h688] at h
                have h2 := ih _ _ h
                obtain ⟨q, hv, hq⟩ := pkR (rd := none) (P := Go.Proofs.Try.prog) (fn := Go.Proofs.Try.f27) (k := 0) (s := ⟨mkA [(0, VV.tr (List.flatMap c_SMaterial a0) a0.length), (16, VV.tr (List.flatMap c_SCoatLayer a1) a1.length), (17, vi (a1.length : Int)), (18, vi x18)], [], .nil⟩) (ans := [.reg [.n], .br true, .reg [.n, .v (VV.ag [vs ((a1.getD x18.toNat default).Material), vi ((a1.getD x18.toNat default).Counts)]), .n, .n], .reg [.n, .n, .n, .call (vi r683), .n, .n], .br false, .reg [.n, .n, .n, .call (vb r686), .n, .n], .br false, .reg [.n, .n]]) (c := ⟨[(0, none), (16, none), (17, none), (18, none)], [], []⟩) (e := .normal) (s1 := ⟨mkA [(0, VV.tr (List.flatMap c_SMaterial a0) a0.length), (16, VV.tr (List.flatMap c_SCoatLayer a1) a1.length), (17, vi (a1.length : Int)), (18, vi (w64 (x18 + 1)))], [], .nil⟩) (an (an (ti trivial) (an (an (decide_eq_true h681) trivial) (an (an (an h682 (an (show loadL Go.Proofs.Try.prog 41 (x18.toNat * 2) (List.flatMap c_SCoatLayer a1) = some (VV.ag [vs ((a1.getD x18.toNat default).Material), vi ((a1.getD x18.toNat default).Counts)]) from ld_whole ag41 c_SCoatLayer 2 sz41 len_c_SCoatLayer a1 default h682 (by omega)) (ti (ti trivial)))) (an (ti (ti (ti (an (ncoat_find_ok k a0 ((a1.getD x18.toNat default).Material) _ h684) (ti (ti trivial)))))) (an (decide_eq_false h685) (an (ti (ti (ti (an (show VC Go.Proofs.Try.prog 84 [vi 1, vi 100000, VV.tr (List.drop 0 (List.map unfr [vi ((a1.getD x18.toNat default).Counts)])) 1] (vb r686) from (VC.args (ncoat_areWithin_ok k 1 100000 ([(a1.getD x18.toNat default).Counts] : List Int) _ h687) (by first | rfl | simp only [show [vi ((a1.getD x18.toNat default).Counts)] = List.map vi ([(a1.getD x18.toNat default).Counts] : List Int) from rfl, drop0, unfr_vi, unfr_vb, unfr_vs, List.map_cons, List.map_nil, un_i, un_k, un_b, un_s, un_tr, un_fr, List.length_map, List.length_replicate, List.length_append, List.length_set, List.length_cons, List.length_nil, unfr_c_SMaterial, unfr_c_SRange, unfr_c_A44, unfr_c_SCoatLayer]))) (ti (ti trivial)))))) (an (not_f h688) trivial))))) (ti (ti trivial))))) (ti trivial)) (by kernel_rfl)
                cases r with
                | inl r => exact round_next pm pn hv hq h2
                | inr r =>
                  exact round_next pm pn hv hq h2
              · rw [if_neg h688] at h
                injection h with h; subst h
                exact round_stop (c := ⟨[(4, none)], [], []⟩) (s1 := ⟨mkA [(4, vi 2)], [], .nil⟩) pm pn (ans := [.reg [.n], .br true, .reg [.n, .v (VV.ag [vs ((a1.getD x18.toNat default).Material), vi ((a1.getD x18.toNat default).Counts)]), .n, .n], .reg [.n, .n, .n, .call (vi r683), .n, .n], .br false, .reg [.n, .n, .n, .call (vb r686), .n, .n], .br true, .reg [.n]]) (by kernel_rfl) (by intro e; cases e) (an (an (ti trivial) (an (an (decide_eq_true h681) trivial) (an (an h682 (an (show loadL Go.Proofs.Try.prog 41 (x18.toNat * 2) (List.flatMap c_SCoatLayer a1) = some (VV.ag [vs ((a1.getD x18.toNat default).Material), vi ((a1.getD x18.toNat default).Counts)]) from ld_whole ag41 c_SCoatLayer 2 sz41 len_c_SCoatLayer a1 default h682 (by omega)) (ti (ti trivial)))) (an (ti (ti (ti (an (ncoat_find_ok k a0 ((a1.getD x18.toNat default).Material) _ h684) (ti (ti trivial)))))) (an (decide_eq_false h685) (an (ti (ti (ti (an (show VC Go.Proofs.Try.prog 84 [vi 1, vi 100000, VV.tr (List.drop 0 (List.map unfr [vi ((a1.getD x18.toNat default).Counts)])) 1] (vb r686) from (VC.args (ncoat_areWithin_ok k 1 100000 ([(a1.getD x18.toNat default).Counts] : List Int) _ h687) (by first | rfl | simp only [show [vi ((a1.getD x18.toNat default).Counts)] = List.map vi ([(a1.getD x18.toNat default).Counts] : List Int) from rfl, drop0, unfr_vi, unfr_vb, unfr_vs, List.map_cons, List.map_nil, un_i, un_k, un_b, un_s, un_tr, un_fr, List.length_map, List.length_replicate, List.length_append, List.length_set, List.length_cons, List.length_nil, unfr_c_SMaterial, unfr_c_SRange, unfr_c_A44, unfr_c_SCoatLayer]))) (ti (ti trivial)))))) (an (not_t (bool_f h688)) (an (ti trivial) trivial)))))))) (ti trivial))
      · rw [if_neg h682] at h; cases h
    · rw [if_neg h681] at h
      injection h with h; subst h
      exact round_stop (c := ⟨[], [], []⟩) (s1 := ⟨mkA [], [], .nil⟩) pm pn (ans := [.reg [.n], .br false]) (by kernel_rfl) (by intro e; cases e) (an (an (ti trivial) (an (decide_eq_false h681) trivial)) (ti trivial))
def ncoat_CheckRecipe (k : Nat) (a0 : (List SMaterial)) (a1 : (List SCoatLayer)) : Option Int :=
  (ncoat_CheckMaterials k a0).bind fun r661 => (if r661 = 0 then (if 40 < (a1.length : Int) then (some 8) else ((ncoat_CheckRecipe_l0_0 k a0 a1 k 0).bind fun r690 => (match r690 with | .inl r691 => (some r691) | .inr r692 => (some 0)))) else (some r661))
set_option maxRecDepth 100000 in
set_option maxHeartbeats 4000000 in
theorem ncoat_CheckRecipe_ok (k : Nat) (a0 : (List SMaterial)) (a1 : (List SCoatLayer)) (r : Int) (h : ncoat_CheckRecipe k a0 a1 = some r) : VC Go.Proofs.Try.prog 27 [VV.tr (List.flatMap c_SMaterial a0) a0.length, VV.tr (List.flatMap c_SCoatLayer a1) a1.length] (vi r) := by
  unfold ncoat_CheckRecipe at h
  cases h662 : ncoat_CheckMaterials k a0 with
  | none => rw [h662] at h; cases h
  | some r661 =>
    rw [h662, Option.bind_some] at h
    by_cases h663 : r661 = 0
    · rw [if_pos h663] at h
      by_cases h664 : 40 < (a1.length : Int)
      · rw [if_pos h664] at h
        injection h with h; subst h
        exact fun_ok pm pn Go.Proofs.Try.func27 (r0 := vi 8) (ans := [.reg [.n], .reg [.n, .call (vi r661), .n], .reg [.n, .n], .br false, .reg [.n, .n, .n], .br true, .reg [.n]]) (fr := true) (by kernel_rfl) (an (an (ti trivial) (an (an (ti (an (ncoat_CheckMaterials_ok k a0 _ h662) (ti trivial))) (an (ti (ti trivial)) (an (not_f (decide_eq_true h663)) trivial))) (an (ti (ti (ti trivial))) (an (decide_eq_true h664) (an (ti trivial) trivial))))) (ti trivial)) (Wv.refl _)
      · rw [if_neg h664] at h
        cases h689 : ncoat_CheckRecipe_l0_0 k a0 a1 k 0 with
        | none => rw [h689] at h; cases h
        | some r690 =>
          rw [h689, Option.bind_some] at h
          have hph689 := ncoat_CheckRecipe_l0_0_ok k a0 a1 _ _ _ h689
          cases r690 with
          | inl r691 =>
            dsimp only at h
            injection h with h; subst h
            exact fun_ok pm pn Go.Proofs.Try.func27 (r0 := vi r691) (ans := [.reg [.n], .reg [.n, .call (vi r661), .n], .reg [.n, .n], .br false, .reg [.n, .n, .n], .br false, .reg [.n, .n, .n], .sub ⟨[(0, none), (16, none), (17, none), (18, none)], [], []⟩ .ret ⟨mkA [(4, vi r691)], [], .nil⟩]) (fr := true) (by kernel_rfl) (an (an (ti trivial) (an (an (ti (an (ncoat_CheckMaterials_ok k a0 _ h662) (ti trivial))) (an (ti (ti trivial)) (an (not_f (decide_eq_true h663)) trivial))) (an (an (ti (ti (ti trivial))) (an (decide_eq_false h664) trivial)) (an (ti (ti (ti trivial))) (an (ti trivial) (VRun.loop hph689)))))) (ti trivial)) (Wv.refl _)
          | inr r692 =>
            dsimp only at h
            injection h with h; subst h
            exact fun_ok pm pn Go.Proofs.Try.func27 (r0 := vi 0) (ans := [.reg [.n], .reg [.n, .call (vi r661), .n], .reg [.n, .n], .br false, .reg [.n, .n, .n], .br false, .reg [.n, .n, .n], .sub ⟨[(0, none), (16, none), (17, none), (18, none)], [], []⟩ (.exit 0) ⟨mkA [], [], .nil⟩, .reg [.n]]) (fr := true) (by kernel_rfl) (an (an (ti trivial) (an (an (ti (an (ncoat_CheckMaterials_ok k a0 _ h662) (ti trivial))) (an (ti (ti trivial)) (an (not_f (decide_eq_true h663)) trivial))) (an (an (ti (ti (ti trivial))) (an (decide_eq_false h664) trivial)) (an (an (ti (ti (ti trivial))) (an (ti trivial) (VRun.loop hph689))) (an (ti trivial) trivial))))) (ti trivial)) (Wv.refl _)
    · rw [if_neg h663] at h
      injection h with h; subst h
      exact fun_ok pm pn Go.Proofs.Try.func27 (r0 := vi r661) (ans := [.reg [.n], .reg [.n, .call (vi r661), .n], .reg [.n, .n], .br true, .reg [.n, .n]]) (fr := true) (by kernel_rfl) (an (an (ti trivial) (an (ti (an (ncoat_CheckMaterials_ok k a0 _ h662) (ti trivial))) (an (ti (ti trivial)) (an (not_t (decide_eq_false h663)) (an (ti (ti trivial)) trivial))))) (ti trivial)) (Wv.refl _)
def ncoat_Total_l0_0 (k : Nat) (a0 : (List SMaterial)) (a1 : (List SCoatLayer)) : Nat → Int → Int → Int → Option (Int × Int)
  | 0, _, _, _ => none
  | fuel + 1, b1_0, b1_1, x20 => if x20 < (a1.length : Int) then (if 0 ≤ x20 ∧ x20 < (a1.length : Int) then ((ncoat_find k a0 ((a1.getD x20.toNat default).Material)).bind fun r728 => (if 0 ≤ r728 ∧ r728 < (a0.length : Int) then (ncoat_Total_l0_0 k a0 a1 fuel (w64 (b1_0 + (w64 (((a1.getD x20.toNat default).Counts) * (((a0.getD r728.toNat default).PerCount).Lo))))) (w64 (b1_1 + (w64 ((w64 (((a1.getD x20.toNat default).Counts) + 1)) * (((a0.getD r728.toNat default).PerCount).Hi))))) (w64 (x20 + 1))) else none)) else none) else (some (b1_0, b1_1))
set_option maxRecDepth 100000 in
set_option maxHeartbeats 4000000 in
theorem ncoat_Total_l0_0_ok (k : Nat) (a0 : (List SMaterial)) (a1 : (List SCoatLayer)) : ∀ (fuel : Nat) (b1_0 : Int) (b1_1 : Int) (x20 : Int) (r : Int × Int), ncoat_Total_l0_0 k a0 a1 fuel b1_0 b1_1 x20 = some r → (VLoop none Go.Proofs.Try.prog (szF Go.Proofs.Try.f21) (bodyOf Go.Proofs.Try.f21 0) ⟨mkA [(0, VV.tr (List.flatMap c_SMaterial a0) a0.length), (4, VV.pt 0 0), (7, VV.pt 1 0), (18, VV.tr (List.flatMap c_SCoatLayer a1) a1.length), (19, vi (a1.length : Int)), (20, vi x20)], [some ⟨true, 1, [vi 0, vi 0]⟩, some ⟨true, 1, [vi b1_0, vi b1_1]⟩], .nil⟩ (.exit 0) ⟨mkA [(4, VV.pt 0 0), (7, VV.pt 1 0)], [some ⟨true, 1, [vi 0, vi 0]⟩, some ⟨true, 1, [vi r.1, vi r.2]⟩], .nil⟩) := by
  intro fuel
  induction fuel with
  | zero => intro b1_0 b1_1 x20 r h; rw [ncoat_Total_l0_0.eq_1] at h; cases h
  | succ fuel ih =>
    intro b1_0 b1_1 x20 r h
    rw [ncoat_Total_l0_0.eq_2] at h
    by_cases h726 : x20 < (a1.length : Int)
    · rw [if_pos h726] at h
      by_cases h727 : 0 ≤ x20 ∧ x20 < (a1.length : Int)
      · rw [if_pos h727] at h
        cases h729 : ncoat_find k a0 ((a1.getD x20.toNat default).Material) with
        | none => rw [h729] at h; cases h
        | some r728 =>
          rw [h729, Option.bind_some] at h
          by_cases h730 : 0 ≤ r728 ∧ r728 < (a0.length : Int)
          · rw [if_pos h730] at h
            have h2 := ih _ _ _ _ h
            obtain ⟨q, hv, hq⟩ := pkR (rd := none) (P := Go.Proofs.Try.prog) (fn := Go.Proofs.Try.f21) (k := 0) (s := ⟨mkA [(0, VV.tr (List.flatMap c_SMaterial a0) a0.length), (4, VV.pt 0 0), (7, VV.pt 1 0), (18, VV.tr (List.flatMap c_SCoatLayer a1) a1.length), (19, vi (a1.length : Int)), (20, vi x20)], [some ⟨true, 1, [vi 0, vi 0]⟩, some ⟨true, 1, [vi b1_0, vi b1_1]⟩], .nil⟩) (ans := [.reg [.n], .br true, .reg [.n, .v (VV.ag [vs ((a1.getD x20.toNat default).Material), vi ((a1.getD x20.toNat default).Counts)]), .n, .n], .reg [.n, .n, .n, .n, .call (vi r728), .n, .n, .v (VV.ag [vi (((a0.getD r728.toNat default).PerCount).Lo), vi (((a0.getD r728.toNat default).PerCount).Hi)]), .n, .n], .reg [.n, .n, .n, .n, .n, .n, .n, .n, .n, .n], .reg [.n, .n, .n, .n, .n, .n, .n, .n, .n, .n, .n], .reg [.n, .n]]) (c := ⟨[(0, none), (4, none), (7, none), (18, none), (19, none), (20, none)], [none, none], []⟩) (e := .normal) (s1 := ⟨mkA [(0, VV.tr (List.flatMap c_SMaterial a0) a0.length), (4, VV.pt 0 0), (7, VV.pt 1 0), (18, VV.tr (List.flatMap c_SCoatLayer a1) a1.length), (19, vi (a1.length : Int)), (20, vi (w64 (x20 + 1)))], [some ⟨true, 1, [vi 0, vi 0]⟩, some ⟨true, 1, [vi (w64 (b1_0 + (w64 (((a1.getD x20.toNat default).Counts) * (((a0.getD r728.toNat default).PerCount).Lo))))), vi (w64 (b1_1 + (w64 ((w64 (((a1.getD x20.toNat default).Counts) + 1)) * (((a0.getD r728.toNat default).PerCount).Hi)))))]⟩], .nil⟩) (an (an (ti trivial) (an (an (decide_eq_true h726) trivial) (an (an (an h727 (an (show loadL Go.Proofs.Try.prog 41 (x20.toNat * 2) (List.flatMap c_SCoatLayer a1) = some (VV.ag [vs ((a1.getD x20.toNat default).Material), vi ((a1.getD x20.toNat default).Counts)]) from ld_whole ag41 c_SCoatLayer 2 sz41 len_c_SCoatLayer a1 default h727 (by omega)) (ti (ti trivial)))) (an (ti (ti (ti (ti (an (ncoat_find_ok k a0 ((a1.getD x20.toNat default).Material) _ h729) (an h730 (ti (an (show loadL Go.Proofs.Try.prog 28 (r728.toNat * 3 + 1) (List.flatMap c_SMaterial a0) = some (VV.ag [vi (((a0.getD r728.toNat default).PerCount).Lo), vi (((a0.getD r728.toNat default).PerCount).Hi)]) from ld_part ag28 c_SMaterial 3 1 2 sz28 len_c_SMaterial (by omega) a0 default h730 (by omega)) (ti (ti trivial)))))))))) (an (ti (ti (ti (ti (ti (ti (ti (ti (ti (ti trivial)))))))))) (ti (ti (ti (ti (ti (ti (ti (ti (ti (ti (ti trivial)))))))))))))) (ti (ti trivial))))) (ti trivial)) (by kernel_rfl)
            exact round_next pm pn hv hq h2
          · rw [if_neg h730] at h; cases h
      · rw [if_neg h727] at h; cases h
    · rw [if_neg h726] at h
      injection h with h; subst h
      exact round_stop (c := ⟨[(4, none), (7, none)], [none, none], []⟩) (s1 := ⟨mkA [(4, VV.pt 0 0), (7, VV.pt 1 0)], [some ⟨true, 1, [vi 0, vi 0]⟩, some ⟨true, 1, [vi b1_0, vi b1_1]⟩], .nil⟩) pm pn (ans := [.reg [.n], .br false]) (by kernel_rfl) (by intro e; cases e) (an (an (ti trivial) (an (decide_eq_false h726) trivial)) (ti trivial))
def ncoat_Total (k : Nat) (a0 : (List SMaterial)) (a1 : (List SCoatLayer)) : Option (SRange × Int) :=
  (ncoat_CheckRecipe k a0 a1).bind fun r713 => (if r713 = 0 then ((ncoat_Total_l0_0 k a0 a1 k 0 0 0).bind fun r732 => (some ((⟨r732.1, r732.2⟩ : SRange), 0))) else (some ((⟨0, 0⟩ : SRange), r713)))
set_option maxRecDepth 100000 in
set_option maxHeartbeats 4000000 in
theorem ncoat_Total_ok (k : Nat) (a0 : (List SMaterial)) (a1 : (List SCoatLayer)) (r : (SRange × Int)) (h : ncoat_Total k a0 a1 = some r) : VC Go.Proofs.Try.prog 21 [VV.tr (List.flatMap c_SMaterial a0) a0.length, VV.tr (List.flatMap c_SCoatLayer a1) a1.length] (VV.tu [VV.ag [vi r.1.Lo, vi r.1.Hi], vi r.2]) := by
  unfold ncoat_Total at h
  cases h714 : ncoat_CheckRecipe k a0 a1 with
  | none => rw [h714] at h; cases h
  | some r713 =>
    rw [h714, Option.bind_some] at h
    by_cases h715 : r713 = 0
    · rw [if_pos h715] at h
      cases h731 : ncoat_Total_l0_0 k a0 a1 k 0 0 0 with
      | none => rw [h731] at h; cases h
      | some r732 =>
        rw [h731, Option.bind_some] at h
        have hph731 := ncoat_Total_l0_0_ok k a0 a1 _ _ _ _ _ h731
        injection h with h; subst h
        exact fun_ok pm pn Go.Proofs.Try.func21 (r0 := VV.tu [VV.ag [vi r732.1, vi r732.2], vi 0]) (ans := [.reg [.n, .n], .reg [.n, .n, .call (vi r713), .n], .reg [.n, .n], .br false, .reg [.n], .reg [.n, .n, .n], .sub ⟨[(0, none), (4, none), (7, none), (18, none), (19, none), (20, none)], [none, none], []⟩ (.exit 0) ⟨mkA [(4, VV.pt 0 0), (7, VV.pt 1 0)], [some ⟨true, 1, [vi 0, vi 0]⟩, some ⟨true, 1, [vi r732.1, vi r732.2]⟩], .nil⟩, .reg [.n, .n, .n]]) (fr := true) (by kernel_rfl) (an (an (ti (ti trivial)) (an (an (ti (ti (an (ncoat_CheckRecipe_ok k a0 a1 _ h714) (ti trivial)))) (an (ti (ti trivial)) (an (not_f (decide_eq_true h715)) trivial))) (an (ti trivial) (an (an (ti (ti (ti trivial))) (an (ti trivial) (VRun.loop hph731))) (an (ti (ti (ti trivial))) trivial))))) (an (ti (ti (ti trivial))) (ti trivial))) (Wv.of_eq (by simp only [drop0, unfr_vi, unfr_vb, unfr_vs, List.map_cons, List.map_nil, un_i, un_k, un_b, un_s, un_tr, un_fr, List.length_map, List.length_replicate, List.length_append, List.length_set, List.length_cons, List.length_nil, unfr_c_SMaterial, unfr_c_SRange, unfr_c_A44, unfr_c_SCoatLayer]))
    · rw [if_neg h715] at h
      injection h with h; subst h
      exact fun_ok pm pn Go.Proofs.Try.func21 (r0 := VV.tu [VV.ag [vi 0, vi 0], vi r713]) (ans := [.reg [.n, .n], .reg [.n, .n, .call (vi r713), .n], .reg [.n, .n], .br true, .reg [.n, .n, .n, .n]]) (fr := true) (by kernel_rfl) (an (an (ti (ti trivial)) (an (ti (ti (an (ncoat_CheckRecipe_ok k a0 a1 _ h714) (ti trivial)))) (an (ti (ti trivial)) (an (not_t (decide_eq_false h715)) (an (ti (ti (ti (ti trivial)))) trivial))))) (an (ti (ti (ti trivial))) (ti trivial))) (Wv.of_eq (by simp only [drop0, unfr_vi, unfr_vb, unfr_vs, List.map_cons, List.map_nil, un_i, un_k, un_b, un_s, un_tr, un_fr, List.length_map, List.length_replicate, List.length_append, List.length_set, List.length_cons, List.length_nil, unfr_c_SMaterial, unfr_c_SRange, unfr_c_A44, unfr_c_SCoatLayer]))
def ncoat_Thickness (k : Nat) (a0 : (List SMaterial)) (a1 : SCoatLayer) : Option (SRange × Int) :=
  (ncoat_Total k a0 ([(⟨a1.Material, a1.Counts⟩ : SCoatLayer)] : List SCoatLayer)).bind fun r735 => (some ((⟨r735.1.Lo, r735.1.Hi⟩ : SRange), r735.2))
set_option maxRecDepth 100000 in
set_option maxHeartbeats 4000000 in
theorem ncoat_Thickness_ok (k : Nat) (a0 : (List SMaterial)) (a1 : SCoatLayer) (r : (SRange × Int)) (h : ncoat_Thickness k a0 a1 = some r) : VC Go.Proofs.Try.prog 29 [VV.tr (List.flatMap c_SMaterial a0) a0.length, VV.ag [vs a1.Material, vi a1.Counts]] (VV.tu [VV.ag [vi r.1.Lo, vi r.1.Hi], vi r.2]) := by
  unfold ncoat_Thickness at h
  cases h736 : ncoat_Total k a0 ([(⟨a1.Material, a1.Counts⟩ : SCoatLayer)] : List SCoatLayer) with
  | none => rw [h736] at h; cases h
  | some r735 =>
    rw [h736, Option.bind_some] at h
    injection h with h; subst h
    exact fun_ok pm pn Go.Proofs.Try.func29 (r0 := VV.tu [VV.ag [vi r735.1.Lo, vi r735.1.Hi], vi r735.2]) (ans := [.reg [.n, .n, .n], .reg [.n, .n, .n, .call (VV.tu [VV.ag [vi r735.1.Lo, vi r735.1.Hi], vi r735.2]), .n, .n, .n, .n]]) (fr := true) (by kernel_rfl) (an (an (ti (ti (ti trivial))) (an (ti (ti (ti (an (show VC Go.Proofs.Try.prog 21 [VV.tr (List.flatMap c_SMaterial a0) a0.length, VV.tr (List.drop 0 (List.map unfr [vs a1.Material, vi a1.Counts])) 1] (VV.tu [VV.ag [vi r735.1.Lo, vi r735.1.Hi], vi r735.2]) from (VC.args (ncoat_Total_ok k a0 ([(⟨a1.Material, a1.Counts⟩ : SCoatLayer)] : List SCoatLayer) _ h736) (by first | rfl | simp only [show [vs a1.Material, vi a1.Counts] = List.flatMap c_SCoatLayer ([(⟨a1.Material, a1.Counts⟩ : SCoatLayer)] : List SCoatLayer) from rfl, drop0, unfr_vi, unfr_vb, unfr_vs, List.map_cons, List.map_nil, un_i, un_k, un_b, un_s, un_tr, un_fr, List.length_map, List.length_replicate, List.length_append, List.length_set, List.length_cons, List.length_nil, unfr_c_SMaterial, unfr_c_SRange, unfr_c_A44, unfr_c_SCoatLayer]))) (ti (ti (ti (ti trivial)))))))) trivial)) (an (ti (ti (ti trivial))) (ti trivial))) (Wv.of_eq (by simp only [drop0, unfr_vi, unfr_vb, unfr_vs, List.map_cons, List.map_nil, un_i, un_k, un_b, un_s, un_tr, un_fr, List.length_map, List.length_replicate, List.length_append, List.length_set, List.length_cons, List.length_nil, unfr_c_SMaterial, unfr_c_SRange, unfr_c_A44, unfr_c_SCoatLayer]))
def nspeculumref08_CheckRecipe_l0_0 (k : Nat) (a0 : (List SMaterial)) (a1 : (List SCoatLayer)) : Nat → Int → Option (Sum Int Unit)
  | 0, _ => none
  | fuel + 1, x5 => if x5 < (a1.length : Int) then (if 0 ≤ x5 ∧ x5 < (a1.length : Int) then ((nspeculumref08_FindMaterial k a0 ((a1.getD x5.toNat default).Material)).bind fun r785 => (if r785 < 0 then (some (.inl 6)) else ((nspeculumbase_Within k ((a1.getD x5.toNat default).Counts) 1 100000).bind fun r788 => (if r788 = true then (nspeculumref08_CheckRecipe_l0_0 k a0 a1 fuel (w64 (x5 + 1))) else (some (.inl 2)))))) else none) else (some (.inr ()))
set_option maxRecDepth 100000 in
set_option maxHeartbeats 4000000 in
theorem nspeculumref08_CheckRecipe_l0_0_ok (k : Nat) (a0 : (List SMaterial)) (a1 : (List SCoatLayer)) : ∀ (fuel : Nat) (x5 : Int) (r : Sum Int Unit), nspeculumref08_CheckRecipe_l0_0 k a0 a1 fuel x5 = some r → (match r with | .inl r => VLoop none Go.Proofs.Try.prog (szF Go.Proofs.Try.f26) (bodyOf Go.Proofs.Try.f26 0) ⟨mkA [(0, VV.tr (List.flatMap c_SMaterial a0) a0.length), (1, VV.tr (List.flatMap c_SCoatLayer a1) a1.length), (5, vi x5)], [], .nil⟩ .ret ⟨mkA [(4, vi r)], [], .nil⟩ | .inr r => VLoop none Go.Proofs.Try.prog (szF Go.Proofs.Try.f26) (bodyOf Go.Proofs.Try.f26 0) ⟨mkA [(0, VV.tr (List.flatMap c_SMaterial a0) a0.length), (1, VV.tr (List.flatMap c_SCoatLayer a1) a1.length), (5, vi x5)], [], .nil⟩ (.exit 0) ⟨mkA [], [], .nil⟩) := by
  intro fuel
  induction fuel with
  | zero => intro x5 r h; rw [nspeculumref08_CheckRecipe_l0_0.eq_1] at h; cases h
  | succ fuel ih =>
    intro x5 r h
    rw [nspeculumref08_CheckRecipe_l0_0.eq_2] at h
    by_cases h783 : x5 < (a1.length : Int)
    · rw [if_pos h783] at h
      by_cases h784 : 0 ≤ x5 ∧ x5 < (a1.length : Int)
      · rw [if_pos h784] at h
        cases h786 : nspeculumref08_FindMaterial k a0 ((a1.getD x5.toNat default).Material) with
        | none => rw [h786] at h; cases h
        | some r785 =>
          rw [h786, Option.bind_some] at h
          by_cases h787 : r785 < 0
          · rw [if_pos h787] at h
            injection h with h; subst h
            exact round_stop (c := ⟨[(4, none)], [], []⟩) (s1 := ⟨mkA [(4, vi 6)], [], .nil⟩) pm pn (ans := [.reg [.n, .n, .n, .n], .br true, .reg [.n, .n, .n, .n, .n, .v (vs ((a1.getD x5.toNat default).Material)), .call (vi r785), .n], .br true, .reg [.n]]) (by kernel_rfl) (by intro e; cases e) (an (an (an (ti (ti (ti (ti trivial)))) (an (decide_eq_true h783) trivial)) (an (ti (ti (ti (an h784 (ti (an (show loadL Go.Proofs.Try.prog 9 (x5.toNat * 2 + 0) (List.flatMap c_SCoatLayer a1) = some (vs ((a1.getD x5.toNat default).Material)) from (ld_flat ag9 c_SCoatLayer 2 0 len_c_SCoatLayer (by omega) a1 default h784 (by omega)).trans rfl) (an (nspeculumref08_FindMaterial_ok k a0 ((a1.getD x5.toNat default).Material) _ h786) (ti trivial)))))))) (an (decide_eq_true h787) (an (ti trivial) trivial)))) (ti trivial))
          · rw [if_neg h787] at h
            cases h789 : nspeculumbase_Within k ((a1.getD x5.toNat default).Counts) 1 100000 with
            | none => rw [h789] at h; cases h
            | some r788 =>
              rw [h789, Option.bind_some] at h
              by_cases h790 : r788 = true
              · rw [if_pos h790] at h
                have h2 := ih _ _ h
                obtain ⟨q, hv, hq⟩ := pkR (rd := none) (P := Go.Proofs.Try.prog) (fn := Go.Proofs.Try.f26) (k := 0) (s := ⟨mkA [(0, VV.tr (List.flatMap c_SMaterial a0) a0.length), (1, VV.tr (List.flatMap c_SCoatLayer a1) a1.length), (5, vi x5)], [], .nil⟩) (ans := [.reg [.n, .n, .n, .n], .br true, .reg [.n, .n, .n, .n, .n, .v (vs ((a1.getD x5.toNat default).Material)), .call (vi r785), .n], .br false, .reg [.n, .n, .n, .n, .v (vi ((a1.getD x5.toNat default).Counts)), .call (vb r788), .n], .br false, .reg [.n, .n, .n]]) (c := ⟨[(0, none), (1, none), (5, none)], [], []⟩) (e := .normal) (s1 := ⟨mkA [(0, VV.tr (List.flatMap c_SMaterial a0) a0.length), (1, VV.tr (List.flatMap c_SCoatLayer a1) a1.length), (5, vi (w64 (x5 + 1)))], [], .nil⟩) (an (an (an (ti (ti (ti (ti trivial)))) (an (decide_eq_true h783) trivial)) (an (an (an (ti (ti (ti (an h784 (ti (an (show loadL Go.Proofs.Try.prog 9 (x5.toNat * 2 + 0) (List.flatMap c_SCoatLayer a1) = some (vs ((a1.getD x5.toNat default).Material)) from (ld_flat ag9 c_SCoatLayer 2 0 len_c_SCoatLayer (by omega) a1 default h784 (by omega)).trans rfl) (an (nspeculumref08_FindMaterial_ok k a0 ((a1.getD x5.toNat default).Material) _ h786) (ti trivial)))))))) (an (decide_eq_false h787) trivial)) (an (ti (ti (an h784 (ti (an (show loadL Go.Proofs.Try.prog 3 (x5.toNat * 2 + 1) (List.flatMap c_SCoatLayer a1) = some (vi ((a1.getD x5.toNat default).Counts)) from (ld_flat ag3 c_SCoatLayer 2 1 len_c_SCoatLayer (by omega) a1 default h784 (by omega)).trans rfl) (an (nspeculumbase_Within_ok k ((a1.getD x5.toNat default).Counts) 1 100000 _ h789) (ti trivial))))))) (an (not_f h790) trivial))) (ti (ti (ti trivial))))) (ti trivial)) (by kernel_rfl)
                cases r with
                | inl r => exact round_next pm pn hv hq h2
                | inr r =>
                  exact round_next pm pn hv hq h2
              · rw [if_neg h790] at h
                injection h with h; subst h
                exact round_stop (c := ⟨[(4, none)], [], []⟩) (s1 := ⟨mkA [(4, vi 2)], [], .nil⟩) pm pn (ans := [.reg [.n, .n, .n, .n], .br true, .reg [.n, .n, .n, .n, .n, .v (vs ((a1.getD x5.toNat default).Material)), .call (vi r785), .n], .br false, .reg [.n, .n, .n, .n, .v (vi ((a1.getD x5.toNat default).Counts)), .call (vb r788), .n], .br true, .reg [.n]]) (by kernel_rfl) (by intro e; cases e) (an (an (an (ti (ti (ti (ti trivial)))) (an (decide_eq_true h783) trivial)) (an (an (ti (ti (ti (an h784 (ti (an (show loadL Go.Proofs.Try.prog 9 (x5.toNat * 2 + 0) (List.flatMap c_SCoatLayer a1) = some (vs ((a1.getD x5.toNat default).Material)) from (ld_flat ag9 c_SCoatLayer 2 0 len_c_SCoatLayer (by omega) a1 default h784 (by omega)).trans rfl) (an (nspeculumref08_FindMaterial_ok k a0 ((a1.getD x5.toNat default).Material) _ h786) (ti trivial)))))))) (an (decide_eq_false h787) trivial)) (an (ti (ti (an h784 (ti (an (show loadL Go.Proofs.Try.prog 3 (x5.toNat * 2 + 1) (List.flatMap c_SCoatLayer a1) = some (vi ((a1.getD x5.toNat default).Counts)) from (ld_flat ag3 c_SCoatLayer 2 1 len_c_SCoatLayer (by omega) a1 default h784 (by omega)).trans rfl) (an (nspeculumbase_Within_ok k ((a1.getD x5.toNat default).Counts) 1 100000 _ h789) (ti trivial))))))) (an (not_t (bool_f h790)) (an (ti trivial) trivial))))) (ti trivial))
      · rw [if_neg h784] at h; cases h
    · rw [if_neg h783] at h
      injection h with h; subst h
      exact round_stop (c := ⟨[], [], []⟩) (s1 := ⟨mkA [], [], .nil⟩) pm pn (ans := [.reg [.n, .n, .n, .n], .br false]) (by kernel_rfl) (by intro e; cases e) (an (an (ti (ti (ti (ti trivial)))) (an (decide_eq_false h783) trivial)) (ti trivial))
def nspeculumref08_CheckRecipe (k : Nat) (a0 : (List SMaterial)) (a1 : (List SCoatLayer)) : Option Int :=
  if 40 < (a1.length : Int) then (some 8) else ((nspeculumref08_CheckRecipe_l0_0 k a0 a1 k 0).bind fun r792 => (match r792 with | .inl r793 => (some r793) | .inr r794 => (some 0)))
set_option maxRecDepth 100000 in
set_option maxHeartbeats 4000000 in
theorem nspeculumref08_CheckRecipe_ok (k : Nat) (a0 : (List SMaterial)) (a1 : (List SCoatLayer)) (r : Int) (h : nspeculumref08_CheckRecipe k a0 a1 = some r) : VC Go.Proofs.Try.prog 26 [VV.tr (List.flatMap c_SMaterial a0) a0.length, VV.tr (List.flatMap c_SCoatLayer a1) a1.length] (vi r) := by
  unfold nspeculumref08_CheckRecipe at h
  by_cases h766 : 40 < (a1.length : Int)
  · rw [if_pos h766] at h
    injection h with h; subst h
    exact fun_ok pm pn Go.Proofs.Try.func26 (r0 := vi 8) (ans := [.reg [.n], .reg [.n, .n, .n], .br true, .reg [.n]]) (fr := true) (by kernel_rfl) (an (an (ti trivial) (an (ti (ti (ti trivial))) (an (decide_eq_true h766) (an (ti trivial) trivial)))) (ti trivial)) (Wv.refl _)
  · rw [if_neg h766] at h
    cases h791 : nspeculumref08_CheckRecipe_l0_0 k a0 a1 k 0 with
    | none => rw [h791] at h; cases h
    | some r792 =>
      rw [h791, Option.bind_some] at h
      have hph791 := nspeculumref08_CheckRecipe_l0_0_ok k a0 a1 _ _ _ h791
      cases r792 with
      | inl r793 =>
        dsimp only at h
        injection h with h; subst h
        exact fun_ok pm pn Go.Proofs.Try.func26 (r0 := vi r793) (ans := [.reg [.n], .reg [.n, .n, .n], .br false, .reg [.n], .sub ⟨[(0, none), (1, none), (5, none)], [], []⟩ .ret ⟨mkA [(4, vi r793)], [], .nil⟩]) (fr := true) (by kernel_rfl) (an (an (ti trivial) (an (an (ti (ti (ti trivial))) (an (decide_eq_false h766) trivial)) (an (ti trivial) (an (ti trivial) (VRun.loop hph791))))) (ti trivial)) (Wv.refl _)
      | inr r794 =>
        dsimp only at h
        injection h with h; subst h
        exact fun_ok pm pn Go.Proofs.Try.func26 (r0 := vi 0) (ans := [.reg [.n], .reg [.n, .n, .n], .br false, .reg [.n], .sub ⟨[(0, none), (1, none), (5, none)], [], []⟩ (.exit 0) ⟨mkA [], [], .nil⟩, .reg [.n]]) (fr := true) (by kernel_rfl) (an (an (ti trivial) (an (an (ti (ti (ti trivial))) (an (decide_eq_false h766) trivial)) (an (an (ti trivial) (an (ti trivial) (VRun.loop hph791))) (an (ti trivial) trivial)))) (ti trivial)) (Wv.refl _)
def nspeculumref08_Thickness (k : Nat) (a0 : (List SMaterial)) (a1 : SCoatLayer) : Option SRange :=
  (nspeculumref08_FindMaterial k a0 a1.Material).bind fun r800 => (if 0 ≤ r800 ∧ r800 < (a0.length : Int) then (some (⟨w64 (a1.Counts * (((a0.getD r800.toNat default).PerCount).Lo)), w64 ((w64 (a1.Counts + 1)) * (((a0.getD r800.toNat default).PerCount).Hi))⟩ : SRange)) else none)
set_option maxRecDepth 100000 in
set_option maxHeartbeats 4000000 in
theorem nspeculumref08_Thickness_ok (k : Nat) (a0 : (List SMaterial)) (a1 : SCoatLayer) (r : SRange) (h : nspeculumref08_Thickness k a0 a1 = some r) : VC Go.Proofs.Try.prog 30 [VV.tr (List.flatMap c_SMaterial a0) a0.length, VV.ag [vs a1.Material, vi a1.Counts]] (VV.ag [vi r.Lo, vi r.Hi]) := by
  unfold nspeculumref08_Thickness at h
  cases h801 : nspeculumref08_FindMaterial k a0 a1.Material with
  | none => rw [h801] at h; cases h
  | some r800 =>
    rw [h801, Option.bind_some] at h
    by_cases h802 : 0 ≤ r800 ∧ r800 < (a0.length : Int)
    · rw [if_pos h802] at h
      injection h with h; subst h
      exact fun_ok pm pn Go.Proofs.Try.func30 (r0 := VV.ag [vi (w64 (a1.Counts * (((a0.getD r800.toNat default).PerCount).Lo))), vi (w64 ((w64 (a1.Counts + 1)) * (((a0.getD r800.toNat default).PerCount).Hi)))]) (ans := [.reg [.n, .n], .reg [.n, .n, .n, .n, .call (vi r800), .n, .n, .v (VV.ag [vi (((a0.getD r800.toNat default).PerCount).Lo), vi (((a0.getD r800.toNat default).PerCount).Hi)]), .n, .n], .reg [.n, .n, .n, .n, .n, .n, .n, .n, .n, .n, .n, .n, .n]]) (fr := true) (by kernel_rfl) (an (an (ti (ti trivial)) (an (ti (ti (ti (ti (an (nspeculumref08_FindMaterial_ok k a0 a1.Material _ h801) (an h802 (ti (an (show loadL Go.Proofs.Try.prog 28 (r800.toNat * 3 + 1) (List.flatMap c_SMaterial a0) = some (VV.ag [vi (((a0.getD r800.toNat default).PerCount).Lo), vi (((a0.getD r800.toNat default).PerCount).Hi)]) from ld_part ag28 c_SMaterial 3 1 2 sz28 len_c_SMaterial (by omega) a0 default h802 (by omega)) (ti (ti trivial)))))))))) (an (ti (ti (ti (ti (ti (ti (ti (ti (ti (ti (ti (ti (ti trivial))))))))))))) trivial))) (an (ti (ti (ti trivial))) trivial)) (Wv.of_eq (by simp only [drop0, unfr_vi, unfr_vb, unfr_vs, List.map_cons, List.map_nil, un_i, un_k, un_b, un_s, un_tr, un_fr, List.length_map, List.length_replicate, List.length_append, List.length_set, List.length_cons, List.length_nil, unfr_c_SMaterial, unfr_c_SRange, unfr_c_A44, unfr_c_SCoatLayer]))
    · rw [if_neg h802] at h; cases h
def nspeculumref08_Total_l0_0 (k : Nat) (a0 : (List SMaterial)) (a1 : (List SCoatLayer)) : Nat → Int → Int → Int → Option (Int × Int)
  | 0, _, _, _ => none
  | fuel + 1, b1_0, b1_1, x6 => if x6 < (a1.length : Int) then (if 0 ≤ x6 ∧ x6 < (a1.length : Int) then ((nspeculumref08_Thickness k a0 (⟨(a1.getD x6.toNat default).Material, (a1.getD x6.toNat default).Counts⟩ : SCoatLayer)).bind fun r825 => (nspeculumref08_Total_l0_0 k a0 a1 fuel (w64 (b1_0 + r825.Lo)) (w64 (b1_1 + r825.Hi)) (w64 (x6 + 1)))) else none) else (some (b1_0, b1_1))
set_option maxRecDepth 100000 in
set_option maxHeartbeats 4000000 in
theorem nspeculumref08_Total_l0_0_ok (k : Nat) (a0 : (List SMaterial)) (a1 : (List SCoatLayer)) : ∀ (fuel : Nat) (b1_0 : Int) (b1_1 : Int) (x6 : Int) (r : Int × Int), nspeculumref08_Total_l0_0 k a0 a1 fuel b1_0 b1_1 x6 = some r → (VLoop none Go.Proofs.Try.prog (szF Go.Proofs.Try.f28) (bodyOf Go.Proofs.Try.f28 0) ⟨mkA [(0, VV.tr (List.flatMap c_SMaterial a0) a0.length), (1, VV.tr (List.flatMap c_SCoatLayer a1) a1.length), (4, VV.pt 0 0), (5, VV.pt 1 0), (6, vi x6)], [some ⟨true, 1, [vi 0, vi 0]⟩, some ⟨true, 1, [vi b1_0, vi b1_1]⟩], .nil⟩ (.exit 0) ⟨mkA [(4, VV.pt 0 0), (5, VV.pt 1 0)], [some ⟨true, 1, [vi 0, vi 0]⟩, some ⟨true, 1, [vi r.1, vi r.2]⟩], .nil⟩) := by
  intro fuel
  induction fuel with
  | zero => intro b1_0 b1_1 x6 r h; rw [nspeculumref08_Total_l0_0.eq_1] at h; cases h
  | succ fuel ih =>
    intro b1_0 b1_1 x6 r h
    rw [nspeculumref08_Total_l0_0.eq_2] at h
    by_cases h823 : x6 < (a1.length : Int)
    · rw [if_pos h823] at h
      by_cases h824 : 0 ≤ x6 ∧ x6 < (a1.length : Int)
      · rw [if_pos h824] at h
        cases h826 : nspeculumref08_Thickness k a0 (⟨(a1.getD x6.toNat default).Material, (a1.getD x6.toNat default).Counts⟩ : SCoatLayer) with
        | none => rw [h826] at h; cases h
        | some r825 =>
          rw [h826, Option.bind_some] at h
          have h2 := ih _ _ _ _ h
          obtain ⟨q, hv, hq⟩ := pkR (rd := none) (P := Go.Proofs.Try.prog) (fn := Go.Proofs.Try.f28) (k := 0) (s := ⟨mkA [(0, VV.tr (List.flatMap c_SMaterial a0) a0.length), (1, VV.tr (List.flatMap c_SCoatLayer a1) a1.length), (4, VV.pt 0 0), (5, VV.pt 1 0), (6, vi x6)], [some ⟨true, 1, [vi 0, vi 0]⟩, some ⟨true, 1, [vi b1_0, vi b1_1]⟩], .nil⟩) (ans := [.reg [.n, .n, .n, .n], .br true, .reg [.n, .n, .n, .n, .v (VV.ag [vs ((a1.getD x6.toNat default).Material), vi ((a1.getD x6.toNat default).Counts)]), .call (VV.ag [vi r825.Lo, vi r825.Hi]), .n, .n], .reg [.n, .n, .n, .n, .n, .n, .n, .n, .n, .n, .n, .n, .n, .n], .reg [.n, .n, .n]]) (c := ⟨[(0, none), (1, none), (4, none), (5, none), (6, none)], [none, none], []⟩) (e := .normal) (s1 := ⟨mkA [(0, VV.tr (List.flatMap c_SMaterial a0) a0.length), (1, VV.tr (List.flatMap c_SCoatLayer a1) a1.length), (4, VV.pt 0 0), (5, VV.pt 1 0), (6, vi (w64 (x6 + 1)))], [some ⟨true, 1, [vi 0, vi 0]⟩, some ⟨true, 1, [vi (w64 (b1_0 + r825.Lo)), vi (w64 (b1_1 + r825.Hi))]⟩], .nil⟩) (an (an (an (ti (ti (ti (ti trivial)))) (an (decide_eq_true h823) trivial)) (an (an (ti (ti (ti (an h824 (an (show loadL Go.Proofs.Try.prog 41 (x6.toNat * 2) (List.flatMap c_SCoatLayer a1) = some (VV.ag [vs ((a1.getD x6.toNat default).Material), vi ((a1.getD x6.toNat default).Counts)]) from ld_whole ag41 c_SCoatLayer 2 sz41 len_c_SCoatLayer a1 default h824 (by omega)) (an (show VC Go.Proofs.Try.prog 30 [VV.tr (List.flatMap c_SMaterial a0) a0.length, VV.ag [vs ((a1.getD x6.toNat default).Material), vi ((a1.getD x6.toNat default).Counts)]] (VV.ag [vi r825.Lo, vi r825.Hi]) from (VC.args (nspeculumref08_Thickness_ok k a0 (⟨(a1.getD x6.toNat default).Material, (a1.getD x6.toNat default).Counts⟩ : SCoatLayer) _ h826) (by first | rfl | simp only [drop0, unfr_vi, unfr_vb, unfr_vs, List.map_cons, List.map_nil, un_i, un_k, un_b, un_s, un_tr, un_fr, List.length_map, List.length_replicate, List.length_append, List.length_set, List.length_cons, List.length_nil, unfr_c_SMaterial, unfr_c_SRange, unfr_c_A44, unfr_c_SCoatLayer]))) (ti (ti trivial)))))))) (ti (ti (ti (ti (ti (ti (ti (ti (ti (ti (ti (ti (ti (ti trivial))))))))))))))) (ti (ti (ti trivial))))) (ti trivial)) (by kernel_rfl)
          exact round_next pm pn hv hq h2
      · rw [if_neg h824] at h; cases h
    · rw [if_neg h823] at h
      injection h with h; subst h
      exact round_stop (c := ⟨[(4, none), (5, none)], [none, none], []⟩) (s1 := ⟨mkA [(4, VV.pt 0 0), (5, VV.pt 1 0)], [some ⟨true, 1, [vi 0, vi 0]⟩, some ⟨true, 1, [vi b1_0, vi b1_1]⟩], .nil⟩) pm pn (ans := [.reg [.n, .n, .n, .n], .br false]) (by kernel_rfl) (by intro e; cases e) (an (an (ti (ti (ti (ti trivial)))) (an (decide_eq_false h823) trivial)) (ti trivial))
def nspeculumref08_Total (k : Nat) (a0 : (List SMaterial)) (a1 : (List SCoatLayer)) : Option SRange :=
  (nspeculumref08_Total_l0_0 k a0 a1 k 0 0 0).bind fun r828 => (some (⟨r828.1, r828.2⟩ : SRange))
set_option maxRecDepth 100000 in
set_option maxHeartbeats 4000000 in
theorem nspeculumref08_Total_ok (k : Nat) (a0 : (List SMaterial)) (a1 : (List SCoatLayer)) (r : SRange) (h : nspeculumref08_Total k a0 a1 = some r) : VC Go.Proofs.Try.prog 28 [VV.tr (List.flatMap c_SMaterial a0) a0.length, VV.tr (List.flatMap c_SCoatLayer a1) a1.length] (VV.ag [vi r.Lo, vi r.Hi]) := by
  unfold nspeculumref08_Total at h
  cases h827 : nspeculumref08_Total_l0_0 k a0 a1 k 0 0 0 with
  | none => rw [h827] at h; cases h
  | some r828 =>
    rw [h827, Option.bind_some] at h
    have hph827 := nspeculumref08_Total_l0_0_ok k a0 a1 _ _ _ _ _ h827
    injection h with h; subst h
    exact fun_ok pm pn Go.Proofs.Try.func28 (r0 := VV.ag [vi r828.1, vi r828.2]) (ans := [.reg [.n], .reg [.n], .reg [.n], .sub ⟨[(0, none), (1, none), (4, none), (5, none), (6, none)], [none, none], []⟩ (.exit 0) ⟨mkA [(4, VV.pt 0 0), (5, VV.pt 1 0)], [some ⟨true, 1, [vi 0, vi 0]⟩, some ⟨true, 1, [vi r828.1, vi r828.2]⟩], .nil⟩, .reg [.n, .n]]) (fr := true) (by kernel_rfl) (an (an (ti trivial) (an (ti trivial) (an (an (ti trivial) (an (ti trivial) (VRun.loop hph827))) (an (ti (ti trivial)) trivial)))) (an (ti (ti (ti trivial))) trivial)) (Wv.of_eq (by simp only [drop0, unfr_vi, unfr_vb, unfr_vs, List.map_cons, List.map_nil, un_i, un_k, un_b, un_s, un_tr, un_fr, List.length_map, List.length_replicate, List.length_append, List.length_set, List.length_cons, List.length_nil, unfr_c_SMaterial, unfr_c_SRange, unfr_c_A44, unfr_c_SCoatLayer]))
def nspeculumlaw08_brief_l0_0 (k : Nat) (a0 : (List SCoatLayer)) : Nat → Int → Option (Sum Unit Unit)
  | 0, _ => none
  | fuel + 1, x3 => if x3 < (a0.length : Int) then (if 0 ≤ x3 ∧ x3 < (a0.length : Int) then (if 20 < (((a0.getD x3.toNat default).Material).size : Int) then (some (.inl ())) else (nspeculumlaw08_brief_l0_0 k a0 fuel (w64 (x3 + 1)))) else none) else (some (.inr ()))
set_option maxRecDepth 100000 in
set_option maxHeartbeats 4000000 in
theorem nspeculumlaw08_brief_l0_0_ok (k : Nat) (a0 : (List SCoatLayer)) : ∀ (fuel : Nat) (x3 : Int) (r : Sum Unit Unit), nspeculumlaw08_brief_l0_0 k a0 fuel x3 = some r → (match r with | .inl r => VLoop none Go.Proofs.Try.prog (szF Go.Proofs.Try.f20) (bodyOf Go.Proofs.Try.f20 0) ⟨mkA [(0, VV.tr (List.flatMap c_SCoatLayer a0) a0.length), (3, vi x3)], [], .nil⟩ .ret ⟨mkA [(2, vb false)], [], .nil⟩ | .inr r => VLoop none Go.Proofs.Try.prog (szF Go.Proofs.Try.f20) (bodyOf Go.Proofs.Try.f20 0) ⟨mkA [(0, VV.tr (List.flatMap c_SCoatLayer a0) a0.length), (3, vi x3)], [], .nil⟩ (.exit 0) ⟨mkA [], [], .nil⟩) := by
  intro fuel
  induction fuel with
  | zero => intro x3 r h; rw [nspeculumlaw08_brief_l0_0.eq_1] at h; cases h
  | succ fuel ih =>
    intro x3 r h
    rw [nspeculumlaw08_brief_l0_0.eq_2] at h
    by_cases h868 : x3 < (a0.length : Int)
    · rw [if_pos h868] at h
      by_cases h869 : 0 ≤ x3 ∧ x3 < (a0.length : Int)
      · rw [if_pos h869] at h
        by_cases h870 : 20 < (((a0.getD x3.toNat default).Material).size : Int)
        · rw [if_pos h870] at h
          injection h with h; subst h
          exact round_stop (c := ⟨[(2, none)], [], []⟩) (s1 := ⟨mkA [(2, vb false)], [], .nil⟩) pm pn (ans := [.reg [.n, .n, .n, .n], .br true, .reg [.n, .n, .n, .n, .v (vs ((a0.getD x3.toNat default).Material)), .n, .n], .br true, .reg [.n]]) (by kernel_rfl) (by intro e; cases e) (an (an (an (ti (ti (ti (ti trivial)))) (an (decide_eq_true h868) trivial)) (an (ti (ti (an h869 (ti (an (show loadL Go.Proofs.Try.prog 9 (x3.toNat * 2 + 0) (List.flatMap c_SCoatLayer a0) = some (vs ((a0.getD x3.toNat default).Material)) from (ld_flat ag9 c_SCoatLayer 2 0 len_c_SCoatLayer (by omega) a0 default h869 (by omega)).trans rfl) (ti (ti trivial))))))) (an (decide_eq_true h870) (an (ti trivial) trivial)))) (ti trivial))
        · rw [if_neg h870] at h
          have h2 := ih _ _ h
          obtain ⟨q, hv, hq⟩ := pkR (rd := none) (P := Go.Proofs.Try.prog) (fn := Go.Proofs.Try.f20) (k := 0) (s := ⟨mkA [(0, VV.tr (List.flatMap c_SCoatLayer a0) a0.length), (3, vi x3)], [], .nil⟩) (ans := [.reg [.n, .n, .n, .n], .br true, .reg [.n, .n, .n, .n, .v (vs ((a0.getD x3.toNat default).Material)), .n, .n], .br false, .reg [.n, .n, .n]]) (c := ⟨[(0, none), (3, none)], [], []⟩) (e := .normal) (s1 := ⟨mkA [(0, VV.tr (List.flatMap c_SCoatLayer a0) a0.length), (3, vi (w64 (x3 + 1)))], [], .nil⟩) (an (an (an (ti (ti (ti (ti trivial)))) (an (decide_eq_true h868) trivial)) (an (an (ti (ti (an h869 (ti (an (show loadL Go.Proofs.Try.prog 9 (x3.toNat * 2 + 0) (List.flatMap c_SCoatLayer a0) = some (vs ((a0.getD x3.toNat default).Material)) from (ld_flat ag9 c_SCoatLayer 2 0 len_c_SCoatLayer (by omega) a0 default h869 (by omega)).trans rfl) (ti (ti trivial))))))) (an (decide_eq_false h870) trivial)) (ti (ti (ti trivial))))) (ti trivial)) (by kernel_rfl)
          cases r with
          | inl r => exact round_next pm pn hv hq h2
          | inr r =>
            exact round_next pm pn hv hq h2
      · rw [if_neg h869] at h; cases h
    · rw [if_neg h868] at h
      injection h with h; subst h
      exact round_stop (c := ⟨[], [], []⟩) (s1 := ⟨mkA [], [], .nil⟩) pm pn (ans := [.reg [.n, .n, .n, .n], .br false]) (by kernel_rfl) (by intro e; cases e) (an (an (ti (ti (ti (ti trivial)))) (an (decide_eq_false h868) trivial)) (ti trivial))
def nspeculumlaw08_brief_l0_1 (k : Nat) (a0 : (List SCoatLayer)) : Nat → Int → Option (Sum Unit Unit)
  | 0, _ => none
  | fuel + 1, x3 => if x3 < (a0.length : Int) then (if 0 ≤ x3 ∧ x3 < (a0.length : Int) then (if 20 < (((a0.getD x3.toNat default).Material).size : Int) then (some (.inl ())) else (nspeculumlaw08_brief_l0_1 k a0 fuel (w64 (x3 + 1)))) else none) else (some (.inr ()))
set_option maxRecDepth 100000 in
set_option maxHeartbeats 4000000 in
theorem nspeculumlaw08_brief_l0_1_ok (k : Nat) (a0 : (List SCoatLayer)) : ∀ (fuel : Nat) (x3 : Int) (r : Sum Unit Unit), nspeculumlaw08_brief_l0_1 k a0 fuel x3 = some r → (match r with | .inl r => VLoop none Go.Proofs.Try.prog (szF Go.Proofs.Try.f20) (bodyOf Go.Proofs.Try.f20 0) ⟨mkA [(0, VV.tr (List.flatMap c_SCoatLayer a0) a0.length), (3, vi x3)], [], .nil⟩ .ret ⟨mkA [(2, vb false)], [], .nil⟩ | .inr r => VLoop none Go.Proofs.Try.prog (szF Go.Proofs.Try.f20) (bodyOf Go.Proofs.Try.f20 0) ⟨mkA [(0, VV.tr (List.flatMap c_SCoatLayer a0) a0.length), (3, vi x3)], [], .nil⟩ (.exit 0) ⟨mkA [], [], .nil⟩) := by
  intro fuel
  induction fuel with
  | zero => intro x3 r h; rw [nspeculumlaw08_brief_l0_1.eq_1] at h; cases h
  | succ fuel ih =>
    intro x3 r h
    rw [nspeculumlaw08_brief_l0_1.eq_2] at h
    by_cases h882 : x3 < (a0.length : Int)
    · rw [if_pos h882] at h
      by_cases h883 : 0 ≤ x3 ∧ x3 < (a0.length : Int)
      · rw [if_pos h883] at h
        by_cases h884 : 20 < (((a0.getD x3.toNat default).Material).size : Int)
        · rw [if_pos h884] at h
          injection h with h; subst h
          exact round_stop (c := ⟨[(2, none)], [], []⟩) (s1 := ⟨mkA [(2, vb false)], [], .nil⟩) pm pn (ans := [.reg [.n, .n, .n, .n], .br true, .reg [.n, .n, .n, .n, .v (vs ((a0.getD x3.toNat default).Material)), .n, .n], .br true, .reg [.n]]) (by kernel_rfl) (by intro e; cases e) (an (an (an (ti (ti (ti (ti trivial)))) (an (decide_eq_true h882) trivial)) (an (ti (ti (an h883 (ti (an (show loadL Go.Proofs.Try.prog 9 (x3.toNat * 2 + 0) (List.flatMap c_SCoatLayer a0) = some (vs ((a0.getD x3.toNat default).Material)) from (ld_flat ag9 c_SCoatLayer 2 0 len_c_SCoatLayer (by omega) a0 default h883 (by omega)).trans rfl) (ti (ti trivial))))))) (an (decide_eq_true h884) (an (ti trivial) trivial)))) (ti trivial))
        · rw [if_neg h884] at h
          have h2 := ih _ _ h
          obtain ⟨q, hv, hq⟩ := pkR (rd := none) (P := Go.Proofs.Try.prog) (fn := Go.Proofs.Try.f20) (k := 0) (s := ⟨mkA [(0, VV.tr (List.flatMap c_SCoatLayer a0) a0.length), (3, vi x3)], [], .nil⟩) (ans := [.reg [.n, .n, .n, .n], .br true, .reg [.n, .n, .n, .n, .v (vs ((a0.getD x3.toNat default).Material)), .n, .n], .br false, .reg [.n, .n, .n]]) (c := ⟨[(0, none), (3, none)], [], []⟩) (e := .normal) (s1 := ⟨mkA [(0, VV.tr (List.flatMap c_SCoatLayer a0) a0.length), (3, vi (w64 (x3 + 1)))], [], .nil⟩) (an (an (an (ti (ti (ti (ti trivial)))) (an (decide_eq_true h882) trivial)) (an (an (ti (ti (an h883 (ti (an (show loadL Go.Proofs.Try.prog 9 (x3.toNat * 2 + 0) (List.flatMap c_SCoatLayer a0) = some (vs ((a0.getD x3.toNat default).Material)) from (ld_flat ag9 c_SCoatLayer 2 0 len_c_SCoatLayer (by omega) a0 default h883 (by omega)).trans rfl) (ti (ti trivial))))))) (an (decide_eq_false h884) trivial)) (ti (ti (ti trivial))))) (ti trivial)) (by kernel_rfl)
          cases r with
          | inl r => exact round_next pm pn hv hq h2
          | inr r =>
            exact round_next pm pn hv hq h2
      · rw [if_neg h883] at h; cases h
    · rw [if_neg h882] at h
      injection h with h; subst h
      exact round_stop (c := ⟨[], [], []⟩) (s1 := ⟨mkA [], [], .nil⟩) pm pn (ans := [.reg [.n, .n, .n, .n], .br false]) (by kernel_rfl) (by intro e; cases e) (an (an (ti (ti (ti (ti trivial)))) (an (decide_eq_false h882) trivial)) (ti trivial))
def nspeculumlaw08_brief (k : Nat) (a0 : (List SCoatLayer)) : Option Bool :=
  if 8 < (a0.length : Int) then (if (a0.length : Int) ≤ 40 then (some false) else (if 43 < (a0.length : Int) then (some false) else ((nspeculumlaw08_brief_l0_0 k a0 k 0).bind fun r872 => (match r872 with | .inl r873 => (some false) | .inr r874 => (some true))))) else (if 43 < (a0.length : Int) then (some false) else ((nspeculumlaw08_brief_l0_1 k a0 k 0).bind fun r886 => (match r886 with | .inl r887 => (some false) | .inr r888 => (some true))))
set_option maxRecDepth 100000 in
set_option maxHeartbeats 4000000 in
theorem nspeculumlaw08_brief_ok (k : Nat) (a0 : (List SCoatLayer)) (r : Bool) (h : nspeculumlaw08_brief k a0 = some r) : VC Go.Proofs.Try.prog 20 [VV.tr (List.flatMap c_SCoatLayer a0) a0.length] (vb r) := by
  unfold nspeculumlaw08_brief at h
  by_cases h859 : 8 < (a0.length : Int)
  · rw [if_pos h859] at h
    by_cases h860 : (a0.length : Int) ≤ 40
    · rw [if_pos h860] at h
      injection h with h; subst h
      exact fun_ok pm pn Go.Proofs.Try.func20 (r0 := vb false) (ans := [.reg [.n], .reg [.n, .n, .n, .n, .n, .n, .n, .b true, .n, .skip, .skip, .skip, .b true], .br true, .reg [.n]]) (fr := true) (by kernel_rfl) (an (an (ti trivial) (an (ti (ti (ti (ti (an (an (decide_eq_true h859) trivial) (an (an (decide_eq_true h859) trivial) (an (an (decide_eq_true h859) trivial) (an (decide_eq_true h859) (ti (an (decide_eq_true h860) (an (decide_eq_true h860) (an (decide_eq_true h860) (an (decide_eq_true h860) trivial))))))))))))) (an rt (an (ti trivial) trivial)))) (ti trivial)) (Wv.refl _)
    · rw [if_neg h860] at h
      by_cases h861 : 43 < (a0.length : Int)
      · rw [if_pos h861] at h
        injection h with h; subst h
        exact fun_ok pm pn Go.Proofs.Try.func20 (r0 := vb false) (ans := [.reg [.n], .reg [.n, .n, .n, .n, .n, .n, .n, .b true, .n, .n, .n, .n, .b false], .br true, .reg [.n]]) (fr := true) (by kernel_rfl) (an (an (ti trivial) (an (ti (ti (ti (ti (an (an (decide_eq_true h859) trivial) (an (an (decide_eq_true h859) trivial) (an (an (decide_eq_true h859) trivial) (an (decide_eq_true h859) (ti (an (an (decide_eq_false h860) trivial) (an (an (decide_eq_false h860) trivial) (an (an (decide_eq_false h860) trivial) (an (decide_eq_false h860) trivial))))))))))))) (an (decide_eq_true h861) (an (ti trivial) trivial)))) (ti trivial)) (Wv.refl _)
      · rw [if_neg h861] at h
        cases h871 : nspeculumlaw08_brief_l0_0 k a0 k 0 with
        | none => rw [h871] at h; cases h
        | some r872 =>
          rw [h871, Option.bind_some] at h
          have hph871 := nspeculumlaw08_brief_l0_0_ok k a0 _ _ _ h871
          cases r872 with
          | inl r873 =>
            dsimp only at h
            injection h with h; subst h
            exact fun_ok pm pn Go.Proofs.Try.func20 (r0 := vb false) (ans := [.reg [.n], .reg [.n, .n, .n, .n, .n, .n, .n, .b true, .n, .n, .n, .n, .b false], .br false, .reg [.n], .sub ⟨[(0, none), (3, none)], [], []⟩ .ret ⟨mkA [(2, vb false)], [], .nil⟩]) (fr := true) (by kernel_rfl) (an (an (ti trivial) (an (an (ti (ti (ti (ti (an (an (decide_eq_true h859) trivial) (an (an (decide_eq_true h859) trivial) (an (an (decide_eq_true h859) trivial) (an (decide_eq_true h859) (ti (an (an (decide_eq_false h860) trivial) (an (an (decide_eq_false h860) trivial) (an (an (decide_eq_false h860) trivial) (an (decide_eq_false h860) trivial))))))))))))) (an (decide_eq_false h861) trivial)) (an (ti trivial) (an (ti trivial) (VRun.loop hph871))))) (ti trivial)) (Wv.refl _)
          | inr r874 =>
            dsimp only at h
            injection h with h; subst h
            exact fun_ok pm pn Go.Proofs.Try.func20 (r0 := vb true) (ans := [.reg [.n], .reg [.n, .n, .n, .n, .n, .n, .n, .b true, .n, .n, .n, .n, .b false], .br false, .reg [.n], .sub ⟨[(0, none), (3, none)], [], []⟩ (.exit 0) ⟨mkA [], [], .nil⟩, .reg [.n]]) (fr := true) (by kernel_rfl) (an (an (ti trivial) (an (an (ti (ti (ti (ti (an (an (decide_eq_true h859) trivial) (an (an (decide_eq_true h859) trivial) (an (an (decide_eq_true h859) trivial) (an (decide_eq_true h859) (ti (an (an (decide_eq_false h860) trivial) (an (an (decide_eq_false h860) trivial) (an (an (decide_eq_false h860) trivial) (an (decide_eq_false h860) trivial))))))))))))) (an (decide_eq_false h861) trivial)) (an (an (ti trivial) (an (ti trivial) (VRun.loop hph871))) (an (ti trivial) trivial)))) (ti trivial)) (Wv.refl _)
  · rw [if_neg h859] at h
    by_cases h875 : 43 < (a0.length : Int)
    · rw [if_pos h875] at h
      injection h with h; subst h
      exact fun_ok pm pn Go.Proofs.Try.func20 (r0 := vb false) (ans := [.reg [.n], .reg [.n, .n, .n, .n, .skip, .skip, .skip, .b false, .n, .n, .n, .n, .b false], .br true, .reg [.n]]) (fr := true) (by kernel_rfl) (an (an (ti trivial) (an (ti (ti (ti (ti (an (decide_eq_false h859) (an (decide_eq_false h859) (an (decide_eq_false h859) (an (decide_eq_false h859) (ti (an (an rf trivial) (an (an rf trivial) (an (an rf trivial) (an rf trivial))))))))))))) (an (decide_eq_true h875) (an (ti trivial) trivial)))) (ti trivial)) (Wv.refl _)
    · rw [if_neg h875] at h
      cases h885 : nspeculumlaw08_brief_l0_1 k a0 k 0 with
      | none => rw [h885] at h; cases h
      | some r886 =>
        rw [h885, Option.bind_some] at h
        have hph885 := nspeculumlaw08_brief_l0_1_ok k a0 _ _ _ h885
        cases r886 with
        | inl r887 =>
          dsimp only at h
          injection h with h; subst h
          exact fun_ok pm pn Go.Proofs.Try.func20 (r0 := vb false) (ans := [.reg [.n], .reg [.n, .n, .n, .n, .skip, .skip, .skip, .b false, .n, .n, .n, .n, .b false], .br false, .reg [.n], .sub ⟨[(0, none), (3, none)], [], []⟩ .ret ⟨mkA [(2, vb false)], [], .nil⟩]) (fr := true) (by kernel_rfl) (an (an (ti trivial) (an (an (ti (ti (ti (ti (an (decide_eq_false h859) (an (decide_eq_false h859) (an (decide_eq_false h859) (an (decide_eq_false h859) (ti (an (an rf trivial) (an (an rf trivial) (an (an rf trivial) (an rf trivial))))))))))))) (an (decide_eq_false h875) trivial)) (an (ti trivial) (an (ti trivial) (VRun.loop hph885))))) (ti trivial)) (Wv.refl _)
        | inr r888 =>
          dsimp only at h
          injection h with h; subst h
          exact fun_ok pm pn Go.Proofs.Try.func20 (r0 := vb true) (ans := [.reg [.n], .reg [.n, .n, .n, .n, .skip, .skip, .skip, .b false, .n, .n, .n, .n, .b false], .br false, .reg [.n], .sub ⟨[(0, none), (3, none)], [], []⟩ (.exit 0) ⟨mkA [], [], .nil⟩, .reg [.n]]) (fr := true) (by kernel_rfl) (an (an (ti trivial) (an (an (ti (ti (ti (ti (an (decide_eq_false h859) (an (decide_eq_false h859) (an (decide_eq_false h859) (an (decide_eq_false h859) (ti (an (an rf trivial) (an (an rf trivial) (an (an rf trivial) (an rf trivial))))))))))))) (an (decide_eq_false h875) trivial)) (an (an (ti trivial) (an (ti trivial) (VRun.loop hph885))) (an (ti trivial) trivial)))) (ti trivial)) (Wv.refl _)
def nspeculumlaw08_layers (k : Nat) (a0 : (List SCoatLayer)) : Option (List SCoatLayer) :=
  if ([] : List SCoatLayer).length + a0.length ≤ 1000000000 then (some (([] : List SCoatLayer) ++ a0)) else none
set_option maxRecDepth 100000 in
set_option maxHeartbeats 4000000 in
theorem nspeculumlaw08_layers_ok (k : Nat) (a0 : (List SCoatLayer)) (r : (List SCoatLayer)) (h : nspeculumlaw08_layers k a0 = some r) : VC Go.Proofs.Try.prog 23 [VV.tr (List.flatMap c_SCoatLayer a0) a0.length] (VV.fw 2 (List.flatMap c_SCoatLayer r) r.length) := by
  unfold nspeculumlaw08_layers at h
  by_cases h890 : ([] : List SCoatLayer).length + a0.length ≤ 1000000000
  · rw [if_pos h890] at h
    injection h with h; subst h
    exact fun_ok pm pn Go.Proofs.Try.func23 (r0 := VV.fw 2 (List.drop 0 (List.map unfr ([] ++ (List.flatMap c_SCoatLayer a0)))) (0 + a0.length)) (ans := [.reg [.n], .reg [.n, .n, .n, .n]]) (fr := true) (by kernel_rfl) (an (an (ti trivial) (an (ti (ti (an (show List.length [] = 0 * 2 ∧ List.length (List.flatMap c_SCoatLayer a0) = a0.length * 2 ∧ (0 + a0.length) * 24 ≤ 140737488355328 ∧ 0 + a0.length < 1099511627776 ∧ List.all (List.flatMap c_SCoatLayer a0) VV.still = true from ⟨(by rw [show [] = List.flatMap c_SCoatLayer ([] : List SCoatLayer) from rfl]; rw [flatMap_len len_c_SCoatLayer] <;> simp), (by rw [flatMap_len len_c_SCoatLayer] <;> simp), by simp at h890 ⊢; omega, by simp at h890 ⊢; omega, (by exact still_c_SCoatLayer _)⟩) (ti trivial)))) trivial)) (an (show List.all ([] ++ (List.flatMap c_SCoatLayer a0)) new0 = true from (by rw [show [] ++ (List.flatMap c_SCoatLayer a0) = List.flatMap c_SCoatLayer (([] : List SCoatLayer) ++ a0) from (by rw [show [] = List.flatMap c_SCoatLayer ([] : List SCoatLayer) from rfl]; exact List.flatMap_append.symm)]; exact new0_c_SCoatLayer _)) trivial)) (Wv.of_eq (by simp only [show [] ++ (List.flatMap c_SCoatLayer a0) = List.flatMap c_SCoatLayer (([] : List SCoatLayer) ++ a0) from (by rw [show [] = List.flatMap c_SCoatLayer ([] : List SCoatLayer) from rfl]; exact List.flatMap_append.symm), drop0, unfr_vi, unfr_vb, unfr_vs, List.map_cons, List.map_nil, un_i, un_k, un_b, un_s, un_tr, un_fr, List.length_map, List.length_replicate, List.length_append, List.length_set, List.length_cons, List.length_nil, unfr_c_SMaterial, unfr_c_SRange, unfr_c_A44, unfr_c_SCoatLayer]))
  · rw [if_neg h890] at h; cases h
end Go.Proofs.Ytpnlkhmnhjcgkaa.Vg

/- Written by a program out of the program: what Go functions do, as plain functions, and their contracts. -/
import Derived.Test.YtpnlkhmnhjcgkaaU1
import Derived.Test.YtpnlkhmnhjcgkaaVu
namespace Go.Proofs.Ytpnlkhmnhjcgkaa.Vg
set_option linter.unusedVariables false
set_option linter.unusedSimpArgs false
open Go Go.Proofs.Ytpnlkhmnhjcgkaa.Ev Go.Proofs.Ytpnlkhmnhjcgkaa.Vv
def v_74 (x : List SReflect) : VV := VV.tr (List.flatMap c_SReflect x) x.length
def f_74 (x : List SReflect) : VV := VV.fr (List.flatMap c_SReflect x) x.length
theorem still_v_74 (xs : List (List SReflect)) : (xs.map v_74).all VV.still = true := all_map (fun _ => rfl) xs
theorem unfr_v_74 (xs : List (List SReflect)) : (xs.map v_74).map unfr = xs.map v_74 := unfr_map (fun _ => rfl) xs
theorem still_f_74 (xs : List (List SReflect)) : (xs.map f_74).all VV.still = true := all_map (fun _ => rfl) xs
theorem unfr_f_74 (xs : List (List SReflect)) : (xs.map f_74).map unfr = xs.map v_74 := unfr_map (fun _ => rfl) xs
theorem new0_f_74 (xs : List (List SReflect)) : (xs.map f_74).all new0 = true := all_map (fun _ => rfl) xs
theorem ag74 : isAggT Go.Proofs.Try.prog 74 = some false := by kernel_rfl
def ncoat_whole (k : Nat)  : Option SRange :=
  some (⟨1000, 1000⟩ : SRange)
set_option maxRecDepth 100000 in
set_option maxHeartbeats 4000000 in
theorem ncoat_whole_ok (k : Nat)  (r : SRange) (h : ncoat_whole k  = some r) : VC Go.Proofs.Try.prog 92 [] (VV.ag [vi r.Lo, vi r.Hi]) := by
  unfold ncoat_whole at h
  injection h with h; subst h
  exact fun_ok pm pn Go.Proofs.Try.func92 (r0 := VV.ag [vi 1000, vi 1000]) (ans := [.reg [.n], .reg [.n, .n]]) (fr := true) (by kernel_rfl) (an (an (ti trivial) (an (ti (ti trivial)) trivial)) (an (ti (ti (ti trivial))) trivial)) (Wv.of_eq (by simp only [drop0, unfr_vi, unfr_vb, unfr_vs, List.map_cons, List.map_nil, un_i, un_k, un_b, un_s, un_tr, un_fr, List.length_map, List.length_replicate, List.length_append, List.length_set, List.length_cons, List.length_nil, unfr_c_SReflect, unfr_c_SRange, unfr_v_74, unfr_f_74]))
def ncoat_Chain_l0_0 (k : Nat) (a0 : (List (List SReflect))) (a1 : Int) : Nat → Int → Int → Int → Option (Sum Int (Int × Int))
  | 0, _, _, _ => none
  | fuel + 1, b1_0, b1_1, x18 => if x18 < (a0.length : Int) then (if 0 ≤ x18 ∧ x18 < (a0.length : Int) then ((ncoat_At k (a0.getD x18.toNat default) a1).bind fun r420 => (if r420.2 = 0 then ((ncoat_outward k (w64 (b1_0 * r420.1.Lo)) (w64 (b1_1 * r420.1.Hi)) 1000).bind fun r423 => (ncoat_Chain_l0_0 k a0 a1 fuel r423.Lo r423.Hi (w64 (x18 + 1)))) else (some (.inl r420.2)))) else none) else (some (.inr (b1_0, b1_1)))
set_option maxRecDepth 100000 in
set_option maxHeartbeats 4000000 in
theorem ncoat_Chain_l0_0_ok (k : Nat) (a0 : (List (List SReflect))) (a1 : Int) : ∀ (fuel : Nat) (b1_0 : Int) (b1_1 : Int) (x18 : Int) (r : Sum Int (Int × Int)), ncoat_Chain_l0_0 k a0 a1 fuel b1_0 b1_1 x18 = some r → (match r with | .inl r => VLoop none Go.Proofs.Try.prog (szF Go.Proofs.Try.f54) (bodyOf Go.Proofs.Try.f54 0) ⟨mkA [(1, vi a1), (4, VV.pt 0 0), (6, VV.pt 1 0), (16, VV.tr (List.map v_74 a0) a0.length), (17, vi (a0.length : Int)), (18, vi x18)], [some ⟨true, 1, [vi 0, vi 0]⟩, some ⟨true, 1, [vi b1_0, vi b1_1]⟩], .nil⟩ .ret ⟨mkA [(4, VV.pt 0 0), (5, vi r)], [some ⟨true, 1, [vi 0, vi 0]⟩], .nil⟩ | .inr r => VLoop none Go.Proofs.Try.prog (szF Go.Proofs.Try.f54) (bodyOf Go.Proofs.Try.f54 0) ⟨mkA [(1, vi a1), (4, VV.pt 0 0), (6, VV.pt 1 0), (16, VV.tr (List.map v_74 a0) a0.length), (17, vi (a0.length : Int)), (18, vi x18)], [some ⟨true, 1, [vi 0, vi 0]⟩, some ⟨true, 1, [vi b1_0, vi b1_1]⟩], .nil⟩ (.exit 0) ⟨mkA [(4, VV.pt 0 0), (6, VV.pt 1 0)], [some ⟨true, 1, [vi 0, vi 0]⟩, some ⟨true, 1, [vi r.1, vi r.2]⟩], .nil⟩) := by
  intro fuel
  induction fuel with
  | zero => intro b1_0 b1_1 x18 r h; rw [ncoat_Chain_l0_0.eq_1] at h; cases h
  | succ fuel ih =>
    intro b1_0 b1_1 x18 r h
    rw [ncoat_Chain_l0_0.eq_2] at h
    by_cases h418 : x18 < (a0.length : Int)
    · rw [if_pos h418] at h
      by_cases h419 : 0 ≤ x18 ∧ x18 < (a0.length : Int)
      · rw [if_pos h419] at h
        cases h421 : ncoat_At k (a0.getD x18.toNat default) a1 with
        | none => rw [h421] at h; cases h
        | some r420 =>
          rw [h421, Option.bind_some] at h
          by_cases h422 : r420.2 = 0
          · rw [if_pos h422] at h
            cases h424 : ncoat_outward k (w64 (b1_0 * r420.1.Lo)) (w64 (b1_1 * r420.1.Hi)) 1000 with
            | none => rw [h424] at h; cases h
            | some r423 =>
              rw [h424, Option.bind_some] at h
              have h2 := ih _ _ _ _ h
              obtain ⟨q, hv, hq⟩ := pkR (rd := none) (P := Go.Proofs.Try.prog) (fn := Go.Proofs.Try.f54) (k := 0) (s := ⟨mkA [(1, vi a1), (4, VV.pt 0 0), (6, VV.pt 1 0), (16, VV.tr (List.map v_74 a0) a0.length), (17, vi (a0.length : Int)), (18, vi x18)], [some ⟨true, 1, [vi 0, vi 0]⟩, some ⟨true, 1, [vi b1_0, vi b1_1]⟩], .nil⟩) (ans := [.reg [.n], .br true, .reg [.n, .v (VV.tr (List.flatMap c_SReflect (a0.getD x18.toNat default)) ((a0.getD x18.toNat default).length)), .n], .reg [.n, .n, .call (VV.tu [VV.ag [vi r420.1.Lo, vi r420.1.Hi], vi r420.2]), .n, .n, .n, .n, .n, .n], .reg [.n, .n], .br false, .reg [.n, .n, .n, .n, .n, .n, .n, .n, .n, .n, .call (VV.ag [vi r423.Lo, vi r423.Hi]), .n], .reg [.n, .n]]) (c := ⟨[(1, none), (4, none), (6, none), (16, none), (17, none), (18, none)], [none, none], []⟩) (e := .normal) (s1 := ⟨mkA [(1, vi a1), (4, VV.pt 0 0), (6, VV.pt 1 0), (16, VV.tr (List.map v_74 a0) a0.length), (17, vi (a0.length : Int)), (18, vi (w64 (x18 + 1)))], [some ⟨true, 1, [vi 0, vi 0]⟩, some ⟨true, 1, [vi r423.Lo, vi r423.Hi]⟩], .nil⟩) (an (an (ti trivial) (an (an (decide_eq_true h418) trivial) (an (an (an h419 (an (show loadL Go.Proofs.Try.prog 74 (x18.toNat * 1) (List.map v_74 a0) = some (VV.tr (List.flatMap c_SReflect (a0.getD x18.toNat default)) ((a0.getD x18.toNat default).length)) from ld_map ag74 v_74 a0 default h419 (by omega)) (ti trivial))) (an (ti (ti (an (ncoat_At_ok k (a0.getD x18.toNat default) a1 _ h421) (ti (ti (ti (ti (ti (ti trivial))))))))) (an (an (ti (ti trivial)) (an (not_f (decide_eq_true h422)) trivial)) (ti (ti (ti (ti (ti (ti (ti (ti (ti (ti (an (ncoat_outward_ok k (w64 (b1_0 * r420.1.Lo)) (w64 (b1_1 * r420.1.Hi)) 1000 _ h424) (ti trivial))))))))))))))) (ti (ti trivial))))) (ti trivial)) (by kernel_rfl)
              cases r with
              | inl r => exact round_next pm pn hv hq h2
              | inr r =>
                exact round_next pm pn hv hq h2
          · rw [if_neg h422] at h
            injection h with h; subst h
            exact round_stop (c := ⟨[(4, none), (5, none)], [none], []⟩) (s1 := ⟨mkA [(4, VV.pt 0 0), (5, vi r420.2)], [some ⟨true, 1, [vi 0, vi 0]⟩], .nil⟩) pm pn (ans := [.reg [.n], .br true, .reg [.n, .v (VV.tr (List.flatMap c_SReflect (a0.getD x18.toNat default)) ((a0.getD x18.toNat default).length)), .n], .reg [.n, .n, .call (VV.tu [VV.ag [vi r420.1.Lo, vi r420.1.Hi], vi r420.2]), .n, .n, .n, .n, .n, .n], .reg [.n, .n], .br true, .reg [.n, .n, .n, .n]]) (by kernel_rfl) (by intro e; cases e) (an (an (ti trivial) (an (an (decide_eq_true h418) trivial) (an (an h419 (an (show loadL Go.Proofs.Try.prog 74 (x18.toNat * 1) (List.map v_74 a0) = some (VV.tr (List.flatMap c_SReflect (a0.getD x18.toNat default)) ((a0.getD x18.toNat default).length)) from ld_map ag74 v_74 a0 default h419 (by omega)) (ti trivial))) (an (ti (ti (an (ncoat_At_ok k (a0.getD x18.toNat default) a1 _ h421) (ti (ti (ti (ti (ti (ti trivial))))))))) (an (ti (ti trivial)) (an (not_t (decide_eq_false h422)) (an (ti (ti (ti (ti trivial)))) trivial))))))) (ti trivial))
      · rw [if_neg h419] at h; cases h
    · rw [if_neg h418] at h
      injection h with h; subst h
      exact round_stop (c := ⟨[(4, none), (6, none)], [none, none], []⟩) (s1 := ⟨mkA [(4, VV.pt 0 0), (6, VV.pt 1 0)], [some ⟨true, 1, [vi 0, vi 0]⟩, some ⟨true, 1, [vi b1_0, vi b1_1]⟩], .nil⟩) pm pn (ans := [.reg [.n], .br false]) (by kernel_rfl) (by intro e; cases e) (an (an (ti trivial) (an (decide_eq_false h418) trivial)) (ti trivial))
def ncoat_Chain (k : Nat) (a0 : (List (List SReflect))) (a1 : Int) : Option (SRange × Int) :=
  if 10 < (a0.length : Int) then (some ((⟨0, 0⟩ : SRange), 8)) else ((ncoat_whole k).bind fun r402 => ((ncoat_Chain_l0_0 k a0 a1 k r402.Lo r402.Hi 0).bind fun r426 => (match r426 with | .inl r427 => (some ((⟨0, 0⟩ : SRange), r427)) | .inr r428 => (some ((⟨r428.1, r428.2⟩ : SRange), 0)))))
set_option maxRecDepth 100000 in
set_option maxHeartbeats 4000000 in
theorem ncoat_Chain_ok (k : Nat) (a0 : (List (List SReflect))) (a1 : Int) (r : (SRange × Int)) (h : ncoat_Chain k a0 a1 = some r) : VC Go.Proofs.Try.prog 54 [VV.tr (List.map v_74 a0) a0.length, vi a1] (VV.tu [VV.ag [vi r.1.Lo, vi r.1.Hi], vi r.2]) := by
  unfold ncoat_Chain at h
  by_cases h401 : 10 < (a0.length : Int)
  · rw [if_pos h401] at h
    injection h with h; subst h
    exact fun_ok pm pn Go.Proofs.Try.func54 (r0 := VV.tu [VV.ag [vi 0, vi 0], vi 8]) (ans := [.reg [.n, .n], .reg [.n, .n, .n], .br true, .reg [.n, .n, .n]]) (fr := true) (by kernel_rfl) (an (an (ti (ti trivial)) (an (ti (ti (ti trivial))) (an (decide_eq_true h401) (an (ti (ti (ti trivial))) trivial)))) (an (ti (ti (ti trivial))) (ti trivial))) (Wv.of_eq (by simp only [drop0, unfr_vi, unfr_vb, unfr_vs, List.map_cons, List.map_nil, un_i, un_k, un_b, un_s, un_tr, un_fr, List.length_map, List.length_replicate, List.length_append, List.length_set, List.length_cons, List.length_nil, unfr_c_SReflect, unfr_c_SRange, unfr_v_74, unfr_f_74]))
  · rw [if_neg h401] at h
    cases h403 : ncoat_whole k with
    | none => rw [h403] at h; cases h
    | some r402 =>
      rw [h403, Option.bind_some] at h
      cases h425 : ncoat_Chain_l0_0 k a0 a1 k r402.Lo r402.Hi 0 with
      | none => rw [h425] at h; cases h
      | some r426 =>
        rw [h425, Option.bind_some] at h
        have hph425 := ncoat_Chain_l0_0_ok k a0 a1 _ _ _ _ _ h425
        cases r426 with
        | inl r427 =>
          dsimp only at h
          injection h with h; subst h
          exact fun_ok pm pn Go.Proofs.Try.func54 (r0 := VV.tu [VV.ag [vi 0, vi 0], vi r427]) (ans := [.reg [.n, .n], .reg [.n, .n, .n], .br false, .reg [.call (VV.ag [vi r402.Lo, vi r402.Hi]), .n, .n], .reg [.n, .n, .n], .sub ⟨[(1, none), (4, none), (6, none), (16, none), (17, none), (18, none)], [none, none], []⟩ .ret ⟨mkA [(4, VV.pt 0 0), (5, vi r427)], [some ⟨true, 1, [vi 0, vi 0]⟩], .nil⟩]) (fr := true) (by kernel_rfl) (an (an (ti (ti trivial)) (an (an (ti (ti (ti trivial))) (an (decide_eq_false h401) trivial)) (an (an (ncoat_whole_ok k _ h403) (ti (ti trivial))) (an (ti (ti (ti trivial))) (an (ti trivial) (VRun.loop hph425)))))) (an (ti (ti (ti trivial))) (ti trivial))) (Wv.of_eq (by simp only [drop0, unfr_vi, unfr_vb, unfr_vs, List.map_cons, List.map_nil, un_i, un_k, un_b, un_s, un_tr, un_fr, List.length_map, List.length_replicate, List.length_append, List.length_set, List.length_cons, List.length_nil, unfr_c_SReflect, unfr_c_SRange, unfr_v_74, unfr_f_74]))
        | inr r428 =>
          dsimp only at h
          injection h with h; subst h
          exact fun_ok pm pn Go.Proofs.Try.func54 (r0 := VV.tu [VV.ag [vi r428.1, vi r428.2], vi 0]) (ans := [.reg [.n, .n], .reg [.n, .n, .n], .br false, .reg [.call (VV.ag [vi r402.Lo, vi r402.Hi]), .n, .n], .reg [.n, .n, .n], .sub ⟨[(1, none), (4, none), (6, none), (16, none), (17, none), (18, none)], [none, none], []⟩ (.exit 0) ⟨mkA [(4, VV.pt 0 0), (6, VV.pt 1 0)], [some ⟨true, 1, [vi 0, vi 0]⟩, some ⟨true, 1, [vi r428.1, vi r428.2]⟩], .nil⟩, .reg [.n, .n, .n]]) (fr := true) (by kernel_rfl) (an (an (ti (ti trivial)) (an (an (ti (ti (ti trivial))) (an (decide_eq_false h401) trivial)) (an (an (ncoat_whole_ok k _ h403) (ti (ti trivial))) (an (an (ti (ti (ti trivial))) (an (ti trivial) (VRun.loop hph425))) (an (ti (ti (ti trivial))) trivial))))) (an (ti (ti (ti trivial))) (ti trivial))) (Wv.of_eq (by simp only [drop0, unfr_vi, unfr_vb, unfr_vs, List.map_cons, List.map_nil, un_i, un_k, un_b, un_s, un_tr, un_fr, List.length_map, List.length_replicate, List.length_append, List.length_set, List.length_cons, List.length_nil, unfr_c_SReflect, unfr_c_SRange, unfr_v_74, unfr_f_74]))
def nspeculumref08_Chain_l0_0 (k : Nat) (a0 : (List (List SReflect))) (a1 : Int) : Nat → Int → Int → Int → Option (Sum Int (Int × Int))
  | 0, _, _, _ => none
  | fuel + 1, b1_0, b1_1, x7 => if x7 < (a0.length : Int) then (if 0 ≤ x7 ∧ x7 < (a0.length : Int) then ((nspeculumref08_At k (a0.getD x7.toNat default) a1).bind fun r482 => (if r482.2 = 0 then ((nspeculumbase_Floor k (w64 (b1_0 * r482.1.Lo)) 1000).bind fun r485 => ((nspeculumbase_Ceil k (w64 (b1_1 * r482.1.Hi)) 1000).bind fun r487 => (nspeculumref08_Chain_l0_0 k a0 a1 fuel r485 r487 (w64 (x7 + 1))))) else (some (.inl r482.2)))) else none) else (some (.inr (b1_0, b1_1)))
set_option maxRecDepth 100000 in
set_option maxHeartbeats 4000000 in
theorem nspeculumref08_Chain_l0_0_ok (k : Nat) (a0 : (List (List SReflect))) (a1 : Int) : ∀ (fuel : Nat) (b1_0 : Int) (b1_1 : Int) (x7 : Int) (r : Sum Int (Int × Int)), nspeculumref08_Chain_l0_0 k a0 a1 fuel b1_0 b1_1 x7 = some r → (match r with | .inl r => VLoop none Go.Proofs.Try.prog (szF Go.Proofs.Try.f55) (bodyOf Go.Proofs.Try.f55 0) ⟨mkA [(0, VV.tr (List.map v_74 a0) a0.length), (1, vi a1), (4, VV.pt 0 0), (6, VV.pt 1 0), (7, vi x7)], [some ⟨true, 1, [vi 0, vi 0]⟩, some ⟨true, 1, [vi b1_0, vi b1_1]⟩], .nil⟩ .ret ⟨mkA [(4, VV.pt 0 0), (5, vi r)], [some ⟨true, 1, [vi 0, vi 0]⟩], .nil⟩ | .inr r => VLoop none Go.Proofs.Try.prog (szF Go.Proofs.Try.f55) (bodyOf Go.Proofs.Try.f55 0) ⟨mkA [(0, VV.tr (List.map v_74 a0) a0.length), (1, vi a1), (4, VV.pt 0 0), (6, VV.pt 1 0), (7, vi x7)], [some ⟨true, 1, [vi 0, vi 0]⟩, some ⟨true, 1, [vi b1_0, vi b1_1]⟩], .nil⟩ (.exit 0) ⟨mkA [(4, VV.pt 0 0), (6, VV.pt 1 0)], [some ⟨true, 1, [vi 0, vi 0]⟩, some ⟨true, 1, [vi r.1, vi r.2]⟩], .nil⟩) := by
  intro fuel
  induction fuel with
  | zero => intro b1_0 b1_1 x7 r h; rw [nspeculumref08_Chain_l0_0.eq_1] at h; cases h
  | succ fuel ih =>
    intro b1_0 b1_1 x7 r h
    rw [nspeculumref08_Chain_l0_0.eq_2] at h
    by_cases h480 : x7 < (a0.length : Int)
    · rw [if_pos h480] at h
      by_cases h481 : 0 ≤ x7 ∧ x7 < (a0.length : Int)
      · rw [if_pos h481] at h
        cases h483 : nspeculumref08_At k (a0.getD x7.toNat default) a1 with
        | none => rw [h483] at h; cases h
        | some r482 =>
          rw [h483, Option.bind_some] at h
          by_cases h484 : r482.2 = 0
          · rw [if_pos h484] at h
            cases h486 : nspeculumbase_Floor k (w64 (b1_0 * r482.1.Lo)) 1000 with
            | none => rw [h486] at h; cases h
            | some r485 =>
              rw [h486, Option.bind_some] at h
              cases h488 : nspeculumbase_Ceil k (w64 (b1_1 * r482.1.Hi)) 1000 with
              | none => rw [h488] at h; cases h
              | some r487 =>
                rw [h488, Option.bind_some] at h
                have h2 := ih _ _ _ _ h
                obtain ⟨q, hv, hq⟩ := pkR (rd := none) (P := Go.Proofs.Try.prog) (fn := Go.Proofs.Try.f55) (k := 0) (s := ⟨mkA [(0, VV.tr (List.map v_74 a0) a0.length), (1, vi a1), (4, VV.pt 0 0), (6, VV.pt 1 0), (7, vi x7)], [some ⟨true, 1, [vi 0, vi 0]⟩, some ⟨true, 1, [vi b1_0, vi b1_1]⟩], .nil⟩) (ans := [.reg [.n, .n, .n, .n], .br true, .reg [.n, .n, .n, .v (VV.tr (List.flatMap c_SReflect (a0.getD x7.toNat default)) ((a0.getD x7.toNat default).length)), .n, .call (VV.tu [VV.ag [vi r482.1.Lo, vi r482.1.Hi], vi r482.2]), .n, .n, .n, .n, .n, .n], .reg [.n, .n], .br false, .reg [.n, .n, .n, .n, .n, .call (vi r485), .n, .n, .n, .n, .n, .call (vi r487), .n, .n], .reg [.n, .n, .n]]) (c := ⟨[(0, none), (1, none), (4, none), (6, none), (7, none)], [none, none], []⟩) (e := .normal) (s1 := ⟨mkA [(0, VV.tr (List.map v_74 a0) a0.length), (1, vi a1), (4, VV.pt 0 0), (6, VV.pt 1 0), (7, vi (w64 (x7 + 1)))], [some ⟨true, 1, [vi 0, vi 0]⟩, some ⟨true, 1, [vi r485, vi r487]⟩], .nil⟩) (an (an (an (ti (ti (ti (ti trivial)))) (an (decide_eq_true h480) trivial)) (an (an (ti (ti (an h481 (an (show loadL Go.Proofs.Try.prog 74 (x7.toNat * 1) (List.map v_74 a0) = some (VV.tr (List.flatMap c_SReflect (a0.getD x7.toNat default)) ((a0.getD x7.toNat default).length)) from ld_map ag74 v_74 a0 default h481 (by omega)) (ti (an (nspeculumref08_At_ok k (a0.getD x7.toNat default) a1 _ h483) (ti (ti (ti (ti (ti (ti trivial)))))))))))) (an (an (ti (ti trivial)) (an (not_f (decide_eq_true h484)) trivial)) (ti (ti (ti (ti (ti (an (nspeculumbase_Floor_ok k (w64 (b1_0 * r482.1.Lo)) 1000 _ h486) (ti (ti (ti (ti (ti (an (nspeculumbase_Ceil_ok k (w64 (b1_1 * r482.1.Hi)) 1000 _ h488) (ti (ti trivial)))))))))))))))) (ti (ti (ti trivial))))) (ti trivial)) (by kernel_rfl)
                cases r with
                | inl r => exact round_next pm pn hv hq h2
                | inr r =>
                  exact round_next pm pn hv hq h2
          · rw [if_neg h484] at h
            injection h with h; subst h
            exact round_stop (c := ⟨[(4, none), (5, none)], [none], []⟩) (s1 := ⟨mkA [(4, VV.pt 0 0), (5, vi r482.2)], [some ⟨true, 1, [vi 0, vi 0]⟩], .nil⟩) pm pn (ans := [.reg [.n, .n, .n, .n], .br true, .reg [.n, .n, .n, .v (VV.tr (List.flatMap c_SReflect (a0.getD x7.toNat default)) ((a0.getD x7.toNat default).length)), .n, .call (VV.tu [VV.ag [vi r482.1.Lo, vi r482.1.Hi], vi r482.2]), .n, .n, .n, .n, .n, .n], .reg [.n, .n], .br true, .reg [.n, .n, .n, .n]]) (by kernel_rfl) (by intro e; cases e) (an (an (an (ti (ti (ti (ti trivial)))) (an (decide_eq_true h480) trivial)) (an (ti (ti (an h481 (an (show loadL Go.Proofs.Try.prog 74 (x7.toNat * 1) (List.map v_74 a0) = some (VV.tr (List.flatMap c_SReflect (a0.getD x7.toNat default)) ((a0.getD x7.toNat default).length)) from ld_map ag74 v_74 a0 default h481 (by omega)) (ti (an (nspeculumref08_At_ok k (a0.getD x7.toNat default) a1 _ h483) (ti (ti (ti (ti (ti (ti trivial)))))))))))) (an (ti (ti trivial)) (an (not_t (decide_eq_false h484)) (an (ti (ti (ti (ti trivial)))) trivial))))) (ti trivial))
      · rw [if_neg h481] at h; cases h
    · rw [if_neg h480] at h
      injection h with h; subst h
      exact round_stop (c := ⟨[(4, none), (6, none)], [none, none], []⟩) (s1 := ⟨mkA [(4, VV.pt 0 0), (6, VV.pt 1 0)], [some ⟨true, 1, [vi 0, vi 0]⟩, some ⟨true, 1, [vi b1_0, vi b1_1]⟩], .nil⟩) pm pn (ans := [.reg [.n, .n, .n, .n], .br false]) (by kernel_rfl) (by intro e; cases e) (an (an (ti (ti (ti (ti trivial)))) (an (decide_eq_false h480) trivial)) (ti trivial))
def nspeculumref08_Chain (k : Nat) (a0 : (List (List SReflect))) (a1 : Int) : Option (SRange × Int) :=
  if 10 < (a0.length : Int) then (some ((⟨0, 0⟩ : SRange), 8)) else ((nspeculumref08_Chain_l0_0 k a0 a1 k 1000 1000 0).bind fun r490 => (match r490 with | .inl r491 => (some ((⟨0, 0⟩ : SRange), r491)) | .inr r492 => (some ((⟨r492.1, r492.2⟩ : SRange), 0))))
set_option maxRecDepth 100000 in
set_option maxHeartbeats 4000000 in
theorem nspeculumref08_Chain_ok (k : Nat) (a0 : (List (List SReflect))) (a1 : Int) (r : (SRange × Int)) (h : nspeculumref08_Chain k a0 a1 = some r) : VC Go.Proofs.Try.prog 55 [VV.tr (List.map v_74 a0) a0.length, vi a1] (VV.tu [VV.ag [vi r.1.Lo, vi r.1.Hi], vi r.2]) := by
  unfold nspeculumref08_Chain at h
  by_cases h461 : 10 < (a0.length : Int)
  · rw [if_pos h461] at h
    injection h with h; subst h
    exact fun_ok pm pn Go.Proofs.Try.func55 (r0 := VV.tu [VV.ag [vi 0, vi 0], vi 8]) (ans := [.reg [.n, .n], .reg [.n, .n, .n], .br true, .reg [.n, .n, .n]]) (fr := true) (by kernel_rfl) (an (an (ti (ti trivial)) (an (ti (ti (ti trivial))) (an (decide_eq_true h461) (an (ti (ti (ti trivial))) trivial)))) (an (ti (ti (ti trivial))) (ti trivial))) (Wv.of_eq (by simp only [drop0, unfr_vi, unfr_vb, unfr_vs, List.map_cons, List.map_nil, un_i, un_k, un_b, un_s, un_tr, un_fr, List.length_map, List.length_replicate, List.length_append, List.length_set, List.length_cons, List.length_nil, unfr_c_SReflect, unfr_c_SRange, unfr_v_74, unfr_f_74]))
  · rw [if_neg h461] at h
    cases h489 : nspeculumref08_Chain_l0_0 k a0 a1 k 1000 1000 0 with
    | none => rw [h489] at h; cases h
    | some r490 =>
      rw [h489, Option.bind_some] at h
      have hph489 := nspeculumref08_Chain_l0_0_ok k a0 a1 _ _ _ _ _ h489
      cases r490 with
      | inl r491 =>
        dsimp only at h
        injection h with h; subst h
        exact fun_ok pm pn Go.Proofs.Try.func55 (r0 := VV.tu [VV.ag [vi 0, vi 0], vi r491]) (ans := [.reg [.n, .n], .reg [.n, .n, .n], .br false, .reg [.n, .n, .n], .reg [.n], .sub ⟨[(0, none), (1, none), (4, none), (6, none), (7, none)], [none, none], []⟩ .ret ⟨mkA [(4, VV.pt 0 0), (5, vi r491)], [some ⟨true, 1, [vi 0, vi 0]⟩], .nil⟩]) (fr := true) (by kernel_rfl) (an (an (ti (ti trivial)) (an (an (ti (ti (ti trivial))) (an (decide_eq_false h461) trivial)) (an (ti (ti (ti trivial))) (an (ti trivial) (an (ti trivial) (VRun.loop hph489)))))) (an (ti (ti (ti trivial))) (ti trivial))) (Wv.of_eq (by simp only [drop0, unfr_vi, unfr_vb, unfr_vs, List.map_cons, List.map_nil, un_i, un_k, un_b, un_s, un_tr, un_fr, List.length_map, List.length_replicate, List.length_append, List.length_set, List.length_cons, List.length_nil, unfr_c_SReflect, unfr_c_SRange, unfr_v_74, unfr_f_74]))
      | inr r492 =>
        dsimp only at h
        injection h with h; subst h
        exact fun_ok pm pn Go.Proofs.Try.func55 (r0 := VV.tu [VV.ag [vi r492.1, vi r492.2], vi 0]) (ans := [.reg [.n, .n], .reg [.n, .n, .n], .br false, .reg [.n, .n, .n], .reg [.n], .sub ⟨[(0, none), (1, none), (4, none), (6, none), (7, none)], [none, none], []⟩ (.exit 0) ⟨mkA [(4, VV.pt 0 0), (6, VV.pt 1 0)], [some ⟨true, 1, [vi 0, vi 0]⟩, some ⟨true, 1, [vi r492.1, vi r492.2]⟩], .nil⟩, .reg [.n, .n, .n]]) (fr := true) (by kernel_rfl) (an (an (ti (ti trivial)) (an (an (ti (ti (ti trivial))) (an (decide_eq_false h461) trivial)) (an (ti (ti (ti trivial))) (an (an (ti trivial) (an (ti trivial) (VRun.loop hph489))) (an (ti (ti (ti trivial))) trivial))))) (an (ti (ti (ti trivial))) (ti trivial))) (Wv.of_eq (by simp only [drop0, unfr_vi, unfr_vb, unfr_vs, List.map_cons, List.map_nil, un_i, un_k, un_b, un_s, un_tr, un_fr, List.length_map, List.length_replicate, List.length_append, List.length_set, List.length_cons, List.length_nil, unfr_c_SReflect, unfr_c_SRange, unfr_v_74, unfr_f_74]))
end Go.Proofs.Ytpnlkhmnhjcgkaa.Vg

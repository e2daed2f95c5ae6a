import Derived.Test.YtbaegoglpijnnabD1
namespace Go.Proofs.Ytbaegoglpijnnab.Vg
set_option maxRecDepth 100000
set_option maxHeartbeats 4000000
set_option linter.unusedVariables false
set_option linter.unusedSimpArgs false
open Go Go.Proofs.Ytbaegoglpijnnab.Ev Go.Proofs.Ytbaegoglpijnnab.Vv
structure SGrindProof where
 Low : (List Int)
 High : (List Int)
 Den : Int
 deriving Inhabited
def c_SGrindProof (x : SGrindProof) : List VV := [VV.tr (List.map vi x.Low) x.Low.length, VV.tr (List.map vi x.High) x.High.length, vi x.Den]
def g_SGrindProof (x : SGrindProof) : List VV := [VV.fr (List.map vi x.Low) x.Low.length, VV.fr (List.map vi x.High) x.High.length, vi x.Den]
theorem unfr_g_SGrindProof (xs : List SGrindProof) : (xs.flatMap g_SGrindProof).map unfr = xs.flatMap c_SGrindProof := unfr_flat2 (fun _ => rfl) xs
structure SGrindAnswer where
 Plan : SGrindPlan
 Weights : SGrindProof
 deriving Inhabited
def c_SGrindAnswer (x : SGrindAnswer) : List VV := [VV.tr (List.map vi x.Plan.Minutes) x.Plan.Minutes.length, vi x.Plan.Den, VV.tr (List.map vi x.Weights.Low) x.Weights.Low.length, VV.tr (List.map vi x.Weights.High) x.Weights.High.length, vi x.Weights.Den]
def arD2_0 (z0 : (List Int)) (z1 : (List Int)) : List Ans := (.n :: .n :: .call (VV.fr (List.map vi z0) z0.length) :: .n :: .n :: .call (VV.fr (List.map vi z1) z1.length) :: nN 4 [])
theorem eqD2_0 (z0 : (List Int)) (z1 : (List Int)) (z2 : SGrindProof) : VV.ag [VV.fr (List.map vi z0) z0.length, VV.fr (List.map vi z1) z1.length, vi z2.Den] = VV.ag (g_SGrindProof (⟨z0, z1, z2.Den⟩ : SGrindProof)) := by first | rfl | (simp only [unfr_vi, List.map_cons, List.map_nil, un_i, un_fr, List.length_map, List.length_cons, List.length_nil, unfr_g_SGrindProof]; done) | (simp only [unfr_vi, List.map_cons, List.map_nil, un_i, un_fr, List.length_map, List.length_cons, List.length_nil, unfr_g_SGrindProof]; rfl) | (simp only [unfr_vi, List.map_cons, List.map_nil, un_i, un_fr, List.length_map, List.length_cons, List.length_nil, unfr_g_SGrindProof, g_SGrindProof, List.length_cons, List.length_nil, List.length_append]; done)
def nspeculumlaw04_weights (k : Nat) (a0 : SGrindProof) : Option SGrindProof :=
 (nspeculumbase_CopyInts k a0.Low).bind fun r3040 => ((nspeculumbase_CopyInts k a0.High).bind fun r3043 => (some (⟨r3040, r3043, a0.Den⟩ : SGrindProof)))
theorem nspeculumlaw04_weights_ok (k : Nat) (a0 : SGrindProof) (r : SGrindProof) (h : nspeculumlaw04_weights k a0 = some r) : VC Go.Proofs.Try.prog 36 [VV.ag (c_SGrindProof a0)] (VV.ag (g_SGrindProof r)) := by
 unfold nspeculumlaw04_weights at h
 obtain ⟨r3040, h3041, h⟩ := bs h
 have e3042 := (show VC Go.Proofs.Try.prog 55 [VV.tr (List.map vi a0.Low) a0.Low.length] (VV.fr (List.map vi r3040) r3040.length) from (VC.weak (nspeculumbase_CopyInts_ok k a0.Low _ h3041) (Wv.fw rfl rfl)))
 obtain ⟨r3043, h3044, h⟩ := bs h
 have e3045 := (show VC Go.Proofs.Try.prog 55 [VV.tr (List.map vi a0.High) a0.High.length] (VV.fr (List.map vi r3043) r3043.length) from (VC.weak (nspeculumbase_CopyInts_ok k a0.High _ h3044) (Wv.fw rfl rfl)))
 have e3046 := (ti (ti (an e3042 (ti (ti (an e3045 (ti (ti (ti (ti trivial))))))))))
 injection h with h; subst h
 exact fun_ok pm pn Go.Proofs.Try.func36 (r0 := VV.ag [VV.fr (List.map vi r3040) r3040.length, VV.fr (List.map vi r3043) r3043.length, vi a0.Den]) (ans := [.reg (.n :: .n :: []), .reg (arD2_0 r3040 r3043)]) (fr := true) (by kernel_rfl) (an (an (ti (ti trivial)) (an e3046 trivial)) (an (ti (ti (ti (ti trivial)))) trivial)) (Wv.of_eq (eqD2_0 r3040 r3043 a0))
def nspeculumlaw04_brief (k : Nat) (a0 : SGrindAnswer) : Option Bool :=
 if (a0.Plan.Minutes.length : Int) <= 15 then (if (a0.Weights.Low.length : Int) <= 43 then (some (decide ((a0.Weights.High.length : Int) <= 43))) else (some false)) else (some false)
theorem nspeculumlaw04_brief_ok (k : Nat) (a0 : SGrindAnswer) (r : Bool) (h : nspeculumlaw04_brief k a0 = some r) : VC Go.Proofs.Try.prog 34 [VV.ag (c_SGrindAnswer a0)] (vb r) := by
 unfold nspeculumlaw04_brief at h
 rcases ifs h with ⟨h3052, h⟩ | ⟨h3052, h⟩
 ·rcases ifs h with ⟨h3053, h⟩ | ⟨h3053, h⟩
  ·have e3054 := (ti (ti (ti (ti (ti (ti (an (an (decide_eq_true h3052) trivial) (an (an (decide_eq_true h3052) trivial) (an (an (decide_eq_true h3052) trivial) (an (an (decide_eq_true h3052) trivial) (an (an (decide_eq_true h3052) trivial) (an (decide_eq_true h3052) (ti (an (an (decide_eq_true h3053) trivial) (an (an (decide_eq_true h3053) trivial) (an (an (decide_eq_true h3053) trivial) (an (an (decide_eq_true h3053) trivial) (an (an (decide_eq_true h3053) trivial) (an (decide_eq_true h3053) (ti trivial))))))))))))))))))))
   injection h with h; subst h
   exact fun_ok pm pn Go.Proofs.Try.func34 (r0 := vb (decide ((a0.Weights.High.length : Int) <= 43))) (ans := [.reg (.n :: .n :: []), .reg (nN 11 (.b true :: nN 6 (.b true :: .n :: [])))]) (fr := true) (by kernel_rfl) (an (an (ti (ti trivial)) (an e3054 trivial)) (ti trivial)) (Wv.refl _)
  ·have e3055 := (ti (ti (ti (ti (ti (ti (an (an (decide_eq_true h3052) trivial) (an (an (decide_eq_true h3052) trivial) (an (an (decide_eq_true h3052) trivial) (an (an (decide_eq_true h3052) trivial) (an (an (decide_eq_true h3052) trivial) (an (decide_eq_true h3052) (ti (an (decide_eq_false h3053) (an (decide_eq_false h3053) (an (decide_eq_false h3053) (an (decide_eq_false h3053) (an (decide_eq_false h3053) (an (decide_eq_false h3053) (ti trivial))))))))))))))))))))
   injection h with h; subst h
   exact fun_ok pm pn Go.Proofs.Try.func34 (r0 := vb false) (ans := [.reg (.n :: .n :: []), .reg (nN 11 (.b true :: .n :: nS 5 (.b false :: .n :: [])))]) (fr := true) (by kernel_rfl) (an (an (ti (ti trivial)) (an e3055 trivial)) (ti trivial)) (Wv.refl _)
 ·have e3056 := (ti (ti (ti (ti (ti (ti (an (decide_eq_false h3052) (an (decide_eq_false h3052) (an (decide_eq_false h3052) (an (decide_eq_false h3052) (an (decide_eq_false h3052) (an (decide_eq_false h3052) (ti (an rf (an rf (an rf (an rf (an rf (an rf (ti trivial))))))))))))))))))))
  injection h with h; subst h
  exact fun_ok pm pn Go.Proofs.Try.func34 (r0 := vb false) (ans := [.reg (.n :: .n :: []), .reg (nN 6 (nS 5 (.b false :: .n :: nS 5 (.b false :: .n :: []))))]) (fr := true) (by kernel_rfl) (an (an (ti (ti trivial)) (an e3056 trivial)) (ti trivial)) (Wv.refl _)
def ngrind_validWeights (k : Nat) (a0 : (List SStroke)) (a1 : SGrindProof) : Option ((List Int) × (List Int) × Int × (List SStroke)) :=
 some (a1.Low, a1.High, a1.Den, a0)
theorem ngrind_validWeights_ok (k : Nat) (a0 : (List SStroke)) (a1 : SGrindProof) (r : ((List Int) × (List Int) × Int × (List SStroke))) (h : ngrind_validWeights k a0 a1 = some r) : VC Go.Proofs.Try.prog 73 [VV.tr (List.flatMap c_SStroke a0) a0.length, VV.ag (c_SGrindProof a1)] (VV.fn 100 [VV.tp [VV.tr (List.map vi r.1) r.1.length, VV.tr (List.map vi r.2.1) r.2.1.length, vi r.2.2.1] 0, VV.tp [VV.tr (List.flatMap c_SStroke r.2.2.2) r.2.2.2.length] 0]) := by
 unfold ngrind_validWeights at h
 injection h with h; subst h
 exact fun_ok pm pn Go.Proofs.Try.func73 (r0 := VV.fn 100 [VV.tp [VV.tr (List.map vi a1.Low) a1.Low.length, VV.tr (List.map vi a1.High) a1.High.length, vi a1.Den] 0, VV.tp [VV.tr (List.flatMap c_SStroke a0) a0.length] 0]) (ans := [.reg (nN 3 []), .frz 0, .frz 1, .reg (.n :: .n :: [])]) (fr := false) (by kernel_rfl) (an (an (ti (ti (ti trivial))) (an (ti (ti trivial)) trivial)) (ti trivial)) (Wv.of_eq rfl)
def ngrind_each_c1_grind_pullsAtMost_1 (k : Nat) (a0 : Int) (a1 : ((List SStroke) × (List Int) × (List Int) × Int × Int)) : Option (Int × ((List SStroke) × (List Int) × (List Int) × Int × Int)) :=
 some (a0, a1)
theorem ngrind_each_c1_grind_pullsAtMost_1_ok (k : Nat) (a0 : Int) (a1 : ((List SStroke) × (List Int) × (List Int) × Int × Int)) (r : (Int × ((List SStroke) × (List Int) × (List Int) × Int × Int))) (h : ngrind_each_c1_grind_pullsAtMost_1 k a0 a1 = some r) : VC Go.Proofs.Try.prog 92 [vi a0, VV.fn 101 [VV.tp [VV.tr (List.flatMap c_SStroke a1.1) a1.1.length] 0, VV.tp [VV.tr (List.map vi a1.2.1) a1.2.1.length, VV.tr (List.map vi a1.2.2.1) a1.2.2.1.length, vi a1.2.2.2.1] 0, VV.tp [vi a1.2.2.2.2] 0]] (VV.fn 117 [VV.tp [vi r.1] 0, VV.tp [VV.fn 101 [VV.tp [VV.tr (List.flatMap c_SStroke r.2.1) r.2.1.length] 0, VV.tp [VV.tr (List.map vi r.2.2.1) r.2.2.1.length, VV.tr (List.map vi r.2.2.2.1) r.2.2.2.1.length, vi r.2.2.2.2.1] 0, VV.tp [vi r.2.2.2.2.2] 0]] 0]) := by
 unfold ngrind_each_c1_grind_pullsAtMost_1 at h
 injection h with h; subst h
 exact fun_ok pm pn Go.Proofs.Try.func92 (r0 := VV.fn 117 [VV.tp [vi a0] 0, VV.tp [VV.fn 101 [VV.tp [VV.tr (List.flatMap c_SStroke a1.1) a1.1.length] 0, VV.tp [VV.tr (List.map vi a1.2.1) a1.2.1.length, VV.tr (List.map vi a1.2.2.1) a1.2.2.1.length, vi a1.2.2.2.1] 0, VV.tp [vi a1.2.2.2.2] 0]] 0]) (ans := [.reg (nN 3 []), .frz 0, .frz 1, .reg (.n :: .n :: [])]) (fr := false) (by kernel_rfl) (an (an (ti (ti (ti trivial))) (an (ti (ti trivial)) trivial)) (ti trivial)) (Wv.of_eq rfl)
theorem eqD2_1 (z0 : (List SStroke)) (z1 : SGrindProof) (z2 : Int) : [vi (z0.length : Int), VV.fn 101 [VV.tp [VV.tr (List.flatMap c_SStroke ((z0, z1.Low, z1.High, z1.Den, z2).1)) (((z0, z1.Low, z1.High, z1.Den, z2).1).length)] 0, VV.tp [VV.tr (List.map vi ((z0, z1.Low, z1.High, z1.Den, z2).2.1)) (((z0, z1.Low, z1.High, z1.Den, z2).2.1).length), VV.tr (List.map vi ((z0, z1.Low, z1.High, z1.Den, z2).2.2.1)) (((z0, z1.Low, z1.High, z1.Den, z2).2.2.1).length), vi ((z0, z1.Low, z1.High, z1.Den, z2).2.2.2.1)] 0, VV.tp [vi ((z0, z1.Low, z1.High, z1.Den, z2).2.2.2.2)] 0]] = [vi (z0.length : Int), VV.fn 101 [VV.tp [VV.tr (List.flatMap c_SStroke z0) z0.length] 0, VV.tp [VV.tr (List.map vi z1.Low) z1.Low.length, VV.tr (List.map vi z1.High) z1.High.length, vi z1.Den] 0, VV.tp [vi z2] 0]] := by first | rfl | (simp only [unfr_vi, List.map_cons, List.map_nil, un_i, un_tr, List.length_map, List.length_cons, List.length_nil, unfr_c_SStroke]; done) | (simp only [unfr_vi, List.map_cons, List.map_nil, un_i, un_tr, List.length_map, List.length_cons, List.length_nil, unfr_c_SStroke]; rfl) | (simp only [unfr_vi, List.map_cons, List.map_nil, un_i, un_tr, List.length_map, List.length_cons, List.length_nil, unfr_c_SStroke, c_SStroke, List.length_cons, List.length_nil, List.length_append]; done)
def arD2_1 (z0 : (List SStroke)) (z1 : (Int × ((List SStroke) × (List Int) × (List Int) × Int × Int))) : List Ans := (.v (VV.tr (List.flatMap c_SStroke z0) z0.length) :: .n :: .n :: .call (VV.fn 117 [VV.tp [vi z1.1] 0, VV.tp [VV.fn 101 [VV.tp [VV.tr (List.flatMap c_SStroke z1.2.1) z1.2.1.length] 0, VV.tp [VV.tr (List.map vi z1.2.2.1) z1.2.2.1.length, VV.tr (List.map vi z1.2.2.2.1) z1.2.2.2.1.length, vi z1.2.2.2.2.1] 0, VV.tp [vi z1.2.2.2.2.2] 0]] 0]) :: .n :: [])
def ngrind_pullsAtMost (k : Nat) (a0 : Int) (a1 : (List SStroke)) (a2 : SGrindProof) : Option (Int × ((List SStroke) × (List Int) × (List Int) × Int × Int)) :=
 (ngrind_each_c1_grind_pullsAtMost_1 k (a1.length : Int) (a1, a2.Low, a2.High, a2.Den, a0)).bind fun r3069 => (some r3069)
theorem ngrind_pullsAtMost_ok (k : Nat) (a0 : Int) (a1 : (List SStroke)) (a2 : SGrindProof) (r : (Int × ((List SStroke) × (List Int) × (List Int) × Int × Int))) (h : ngrind_pullsAtMost k a0 a1 a2 = some r) : VC Go.Proofs.Try.prog 74 [vi a0, VV.tr (List.flatMap c_SStroke a1) a1.length, VV.ag (c_SGrindProof a2)] (VV.fn 117 [VV.tp [vi r.1] 0, VV.tp [VV.fn 101 [VV.tp [VV.tr (List.flatMap c_SStroke r.2.1) r.2.1.length] 0, VV.tp [VV.tr (List.map vi r.2.2.1) r.2.2.1.length, VV.tr (List.map vi r.2.2.2.1) r.2.2.2.1.length, vi r.2.2.2.2.1] 0, VV.tp [vi r.2.2.2.2.2] 0]] 0]) := by
 unfold ngrind_pullsAtMost at h
 have e3068 := (show loadL Go.Proofs.Try.prog 22 0 [VV.tr (List.flatMap c_SStroke a1) a1.length] = some (VV.tr (List.flatMap c_SStroke a1) a1.length) from (ld_one ag22 rfl))
 obtain ⟨r3069, h3070, h⟩ := bs h
 have e3071 := (VC.args (ngrind_each_c1_grind_pullsAtMost_1_ok k (a1.length : Int) (a1, a2.Low, a2.High, a2.Den, a0) _ h3070) (eqD2_1 a1 a2 a0))
 injection h with h; subst h
 exact fun_ok pm pn Go.Proofs.Try.func74 (r0 := VV.fn 117 [VV.tp [vi r3069.1] 0, VV.tp [VV.fn 101 [VV.tp [VV.tr (List.flatMap c_SStroke r3069.2.1) r3069.2.1.length] 0, VV.tp [VV.tr (List.map vi r3069.2.2.1) r3069.2.2.1.length, VV.tr (List.map vi r3069.2.2.2.1) r3069.2.2.2.1.length, vi r3069.2.2.2.2.1] 0, VV.tp [vi r3069.2.2.2.2.2] 0]] 0]) (ans := [.reg (nN 4 []), .frz 0, .frz 1, .frz 2, .reg (arD2_1 a1 r3069)]) (fr := false) (by kernel_rfl) (an (an (ti (ti (ti (ti trivial)))) (an (an e3068 (ti (ti (an e3071 (ti trivial))))) trivial)) (ti trivial)) (Wv.refl _)
theorem eqD2_2 (z0 : Int) : [vi 1, vi 10000000, VV.tr (List.map vi ([z0] : List Int)) (([z0] : List Int).length)] = [vi 1, vi 10000000, VV.tr [vi z0] 1] := by first | rfl | (simp only [unfr_vi, List.map_cons, List.map_nil, un_i, un_tr, List.length_map, List.length_cons, List.length_nil]; done) | (simp only [unfr_vi, List.map_cons, List.map_nil, un_i, un_tr, List.length_map, List.length_cons, List.length_nil]; rfl) | (simp only [unfr_vi, List.map_cons, List.map_nil, un_i, un_tr, List.length_map, List.length_cons, List.length_nil, List.length_cons, List.length_nil, List.length_append]; done)
def arD2_2 (z0 : ((Bool × Int) × ((List Int) × Int × Int) × ((List Int) × Int × Int) × ((List Int) × Int × Int))) : List Ans := (.n :: .v (VV.fn 114 [VV.tp [VV.tr (List.map vi z0.2.1.1) z0.2.1.1.length] 0, VV.tp [vi z0.2.1.2.1] 0, VV.tp [vi z0.2.1.2.2] 0]) :: .n :: [])
def arD2_3 (z0 : ((Bool × Int) × ((List Int) × Int × Int) × ((List Int) × Int × Int) × ((List Int) × Int × Int))) : List Ans := (.n :: .v (VV.fn 114 [VV.tp [VV.tr (List.map vi z0.2.2.1.1) z0.2.2.1.1.length] 0, VV.tp [vi z0.2.2.1.2.1] 0, VV.tp [vi z0.2.2.1.2.2] 0]) :: .n :: [])
def arD2_4 (z0 : ((Bool × Int) × ((List Int) × Int × Int) × ((List Int) × Int × Int) × ((List Int) × Int × Int))) : List Ans := (.n :: .v (VV.fn 114 [VV.tp [VV.tr (List.map vi z0.2.2.2.1) z0.2.2.2.1.length] 0, VV.tp [vi z0.2.2.2.2.1] 0, VV.tp [vi z0.2.2.2.2.2] 0]) :: .n :: [])
def ngrind_firstOf_c0_Lgrind_need_1_grind_within_1_grind_within_1_grind_within_1 (k : Nat) (a0 : ((Bool × Int) × ((List Int) × Int × Int) × ((List Int) × Int × Int) × ((List Int) × Int × Int))) : Option Int :=
 (ngrind_need_1 k a0.1.1 a0.1.2).bind fun r3139 => (if r3139 = 0 then ((ngrind_within_1 k a0.2.1.1 a0.2.1.2.1 a0.2.1.2.2).bind fun r3145 => (if r3145 = 0 then ((ngrind_within_1 k a0.2.2.1.1 a0.2.2.1.2.1 a0.2.2.1.2.2).bind fun r3151 => (if r3151 = 0 then ((ngrind_within_1 k a0.2.2.2.1 a0.2.2.2.2.1 a0.2.2.2.2.2).bind fun r3157 => (if r3157 = 0 then (some 0) else (some r3157))) else (some r3151))) else (some r3145))) else (some r3139))
theorem ngrind_firstOf_c0_Lgrind_need_1_grind_within_1_grind_within_1_grind_within_1_ok (k : Nat) (a0 : ((Bool × Int) × ((List Int) × Int × Int) × ((List Int) × Int × Int) × ((List Int) × Int × Int))) (r : Int) (h : ngrind_firstOf_c0_Lgrind_need_1_grind_within_1_grind_within_1_grind_within_1 k a0 = some r) : VC Go.Proofs.Try.prog 49 [VV.tr ([VV.fn 102 [VV.tp [vb a0.1.1] 0, VV.tp [vi a0.1.2] 0], VV.fn 114 [VV.tp [VV.tr (List.map vi a0.2.1.1) a0.2.1.1.length] 0, VV.tp [vi a0.2.1.2.1] 0, VV.tp [vi a0.2.1.2.2] 0], VV.fn 114 [VV.tp [VV.tr (List.map vi a0.2.2.1.1) a0.2.2.1.1.length] 0, VV.tp [vi a0.2.2.1.2.1] 0, VV.tp [vi a0.2.2.1.2.2] 0], VV.fn 114 [VV.tp [VV.tr (List.map vi a0.2.2.2.1) a0.2.2.2.1.length] 0, VV.tp [vi a0.2.2.2.2.1] 0, VV.tp [vi a0.2.2.2.2.2] 0]]) 4] (vi r) := by
 unfold ngrind_firstOf_c0_Lgrind_need_1_grind_within_1_grind_within_1_grind_within_1 at h
 have e3137 := (show (0 : Int) <= 0 /\ (0 : Int) < ((4 : Nat) : Int) from ⟨by decide, by decide⟩)
 have e3138 := (show loadL Go.Proofs.Try.prog 98 ((0 : Int).toNat * 1) ([VV.fn 102 [VV.tp [vb a0.1.1] 0, VV.tp [vi a0.1.2] 0], VV.fn 114 [VV.tp [VV.tr (List.map vi a0.2.1.1) a0.2.1.1.length] 0, VV.tp [vi a0.2.1.2.1] 0, VV.tp [vi a0.2.1.2.2] 0], VV.fn 114 [VV.tp [VV.tr (List.map vi a0.2.2.1.1) a0.2.2.1.1.length] 0, VV.tp [vi a0.2.2.1.2.1] 0, VV.tp [vi a0.2.2.1.2.2] 0], VV.fn 114 [VV.tp [VV.tr (List.map vi a0.2.2.2.1) a0.2.2.2.1.length] 0, VV.tp [vi a0.2.2.2.2.1] 0, VV.tp [vi a0.2.2.2.2.2] 0]]) = some (VV.fn 102 [VV.tp [vb a0.1.1] 0, VV.tp [vi a0.1.2] 0]) from (ld_one ag98 rfl))
 obtain ⟨r3139, h3140, h⟩ := bs h
 have e3141 := (ngrind_need_1_ok k a0.1.1 a0.1.2 _ h3140)
 rcases ifs h with ⟨h3142, h⟩ | ⟨h3142, h⟩
 ·have e3143 := (show (0 : Int) <= 1 /\ (1 : Int) < ((4 : Nat) : Int) from ⟨by decide, by decide⟩)
  have e3144 := (show loadL Go.Proofs.Try.prog 98 ((1 : Int).toNat * 1) ([VV.fn 102 [VV.tp [vb a0.1.1] 0, VV.tp [vi a0.1.2] 0], VV.fn 114 [VV.tp [VV.tr (List.map vi a0.2.1.1) a0.2.1.1.length] 0, VV.tp [vi a0.2.1.2.1] 0, VV.tp [vi a0.2.1.2.2] 0], VV.fn 114 [VV.tp [VV.tr (List.map vi a0.2.2.1.1) a0.2.2.1.1.length] 0, VV.tp [vi a0.2.2.1.2.1] 0, VV.tp [vi a0.2.2.1.2.2] 0], VV.fn 114 [VV.tp [VV.tr (List.map vi a0.2.2.2.1) a0.2.2.2.1.length] 0, VV.tp [vi a0.2.2.2.2.1] 0, VV.tp [vi a0.2.2.2.2.2] 0]]) = some (VV.fn 114 [VV.tp [VV.tr (List.map vi a0.2.1.1) a0.2.1.1.length] 0, VV.tp [vi a0.2.1.2.1] 0, VV.tp [vi a0.2.1.2.2] 0]) from (ld_one ag98 rfl))
  obtain ⟨r3145, h3146, h⟩ := bs h
  have e3147 := (ngrind_within_1_ok k a0.2.1.1 a0.2.1.2.1 a0.2.1.2.2 _ h3146)
  rcases ifs h with ⟨h3148, h⟩ | ⟨h3148, h⟩
  ·have e3149 := (show (0 : Int) <= 2 /\ (2 : Int) < ((4 : Nat) : Int) from ⟨by decide, by decide⟩)
   have e3150 := (show loadL Go.Proofs.Try.prog 98 ((2 : Int).toNat * 1) ([VV.fn 102 [VV.tp [vb a0.1.1] 0, VV.tp [vi a0.1.2] 0], VV.fn 114 [VV.tp [VV.tr (List.map vi a0.2.1.1) a0.2.1.1.length] 0, VV.tp [vi a0.2.1.2.1] 0, VV.tp [vi a0.2.1.2.2] 0], VV.fn 114 [VV.tp [VV.tr (List.map vi a0.2.2.1.1) a0.2.2.1.1.length] 0, VV.tp [vi a0.2.2.1.2.1] 0, VV.tp [vi a0.2.2.1.2.2] 0], VV.fn 114 [VV.tp [VV.tr (List.map vi a0.2.2.2.1) a0.2.2.2.1.length] 0, VV.tp [vi a0.2.2.2.2.1] 0, VV.tp [vi a0.2.2.2.2.2] 0]]) = some (VV.fn 114 [VV.tp [VV.tr (List.map vi a0.2.2.1.1) a0.2.2.1.1.length] 0, VV.tp [vi a0.2.2.1.2.1] 0, VV.tp [vi a0.2.2.1.2.2] 0]) from (ld_one ag98 rfl))
   obtain ⟨r3151, h3152, h⟩ := bs h
   have e3153 := (ngrind_within_1_ok k a0.2.2.1.1 a0.2.2.1.2.1 a0.2.2.1.2.2 _ h3152)
   rcases ifs h with ⟨h3154, h⟩ | ⟨h3154, h⟩
   ·have e3155 := (show (0 : Int) <= 3 /\ (3 : Int) < ((4 : Nat) : Int) from ⟨by decide, by decide⟩)
    have e3156 := (show loadL Go.Proofs.Try.prog 98 ((3 : Int).toNat * 1) ([VV.fn 102 [VV.tp [vb a0.1.1] 0, VV.tp [vi a0.1.2] 0], VV.fn 114 [VV.tp [VV.tr (List.map vi a0.2.1.1) a0.2.1.1.length] 0, VV.tp [vi a0.2.1.2.1] 0, VV.tp [vi a0.2.1.2.2] 0], VV.fn 114 [VV.tp [VV.tr (List.map vi a0.2.2.1.1) a0.2.2.1.1.length] 0, VV.tp [vi a0.2.2.1.2.1] 0, VV.tp [vi a0.2.2.1.2.2] 0], VV.fn 114 [VV.tp [VV.tr (List.map vi a0.2.2.2.1) a0.2.2.2.1.length] 0, VV.tp [vi a0.2.2.2.2.1] 0, VV.tp [vi a0.2.2.2.2.2] 0]]) = some (VV.fn 114 [VV.tp [VV.tr (List.map vi a0.2.2.2.1) a0.2.2.2.1.length] 0, VV.tp [vi a0.2.2.2.2.1] 0, VV.tp [vi a0.2.2.2.2.2] 0]) from (ld_one ag98 rfl))
    obtain ⟨r3157, h3158, h⟩ := bs h
    have e3159 := (ngrind_within_1_ok k a0.2.2.2.1 a0.2.2.2.2.1 a0.2.2.2.2.2 _ h3158)
    rcases ifs h with ⟨h3160, h⟩ | ⟨h3160, h⟩
    ·injection h with h; subst h
     exact fun_ok pm pn Go.Proofs.Try.func49 (r0 := vi 0) (ans := [.reg (.n :: []), .reg (nN 3 []), .unr 6, .reg (.n :: []), .br true, .reg (.n :: .v (VV.fn 102 [VV.tp [vb a0.1.1] 0, VV.tp [vi a0.1.2] 0]) :: .n :: []), .reg (.n :: .call (vi r3139) :: .n :: []), .reg (.n :: .n :: []), .br false, .reg (.n :: .n :: []), .reg (.n :: []), .br true, .reg (arD2_2 a0), .reg (.n :: .call (vi r3145) :: .n :: []), .reg (.n :: .n :: []), .br false, .reg (.n :: .n :: []), .reg (.n :: []), .br true, .reg (arD2_3 a0), .reg (.n :: .call (vi r3151) :: .n :: []), .reg (.n :: .n :: []), .br false, .reg (.n :: .n :: []), .reg (.n :: []), .br true, .reg (arD2_4 a0), .reg (.n :: .call (vi r3157) :: .n :: []), .reg (.n :: .n :: []), .br false, .reg (.n :: .n :: []), .reg (.n :: []), .br false, .reg (.n :: [])]) (fr := true) (by kernel_rfl) (an (an (ti trivial) (an (an (ti (ti (ti trivial))) (an (an (ti trivial) (an (an (show (decide ((0 : Int) < 4)) = true from (decide_eq_true (by decide))) trivial) (an (an (an e3137 (an e3138 (ti trivial))) (an (ti (an e3141 (ti trivial))) (an (ti (ti trivial)) (an (not_f (decide_eq_true h3142)) trivial)))) (ti (ti trivial))))) (an (an (ti trivial) (an (an (show (decide ((1 : Int) < 4)) = true from (decide_eq_true (by decide))) trivial) (an (an (an e3143 (an e3144 (ti trivial))) (an (ti (an e3147 (ti trivial))) (an (ti (ti trivial)) (an (not_f (decide_eq_true h3148)) trivial)))) (ti (ti trivial))))) (an (an (ti trivial) (an (an (show (decide ((2 : Int) < 4)) = true from (decide_eq_true (by decide))) trivial) (an (an (an e3149 (an e3150 (ti trivial))) (an (ti (an e3153 (ti trivial))) (an (ti (ti trivial)) (an (not_f (decide_eq_true h3154)) trivial)))) (ti (ti trivial))))) (an (an (ti trivial) (an (an (show (decide ((3 : Int) < 4)) = true from (decide_eq_true (by decide))) trivial) (an (an (an e3155 (an e3156 (ti trivial))) (an (ti (an e3159 (ti trivial))) (an (ti (ti trivial)) (an (not_f (decide_eq_true h3160)) trivial)))) (ti (ti trivial))))) (an (ti trivial) (an (show (decide ((4 : Int) < 4)) = false from (decide_eq_false (by decide))) trivial))))))) (an (ti trivial) trivial))) (ti trivial)) (Wv.refl _)
    ·injection h with h; subst h
     exact fun_ok pm pn Go.Proofs.Try.func49 (r0 := vi r3157) (ans := [.reg (.n :: []), .reg (nN 3 []), .unr 5, .reg (.n :: []), .br true, .reg (.n :: .v (VV.fn 102 [VV.tp [vb a0.1.1] 0, VV.tp [vi a0.1.2] 0]) :: .n :: []), .reg (.n :: .call (vi r3139) :: .n :: []), .reg (.n :: .n :: []), .br false, .reg (.n :: .n :: []), .reg (.n :: []), .br true, .reg (arD2_2 a0), .reg (.n :: .call (vi r3145) :: .n :: []), .reg (.n :: .n :: []), .br false, .reg (.n :: .n :: []), .reg (.n :: []), .br true, .reg (arD2_3 a0), .reg (.n :: .call (vi r3151) :: .n :: []), .reg (.n :: .n :: []), .br false, .reg (.n :: .n :: []), .reg (.n :: []), .br true, .reg (arD2_4 a0), .reg (.n :: .call (vi r3157) :: .n :: []), .reg (.n :: .n :: []), .br true, .reg (.n :: .n :: [])]) (fr := true) (by kernel_rfl) (an (an (ti trivial) (an (ti (ti (ti trivial))) (an (an (ti trivial) (an (an (show (decide ((0 : Int) < 4)) = true from (decide_eq_true (by decide))) trivial) (an (an (an e3137 (an e3138 (ti trivial))) (an (ti (an e3141 (ti trivial))) (an (ti (ti trivial)) (an (not_f (decide_eq_true h3142)) trivial)))) (ti (ti trivial))))) (an (an (ti trivial) (an (an (show (decide ((1 : Int) < 4)) = true from (decide_eq_true (by decide))) trivial) (an (an (an e3143 (an e3144 (ti trivial))) (an (ti (an e3147 (ti trivial))) (an (ti (ti trivial)) (an (not_f (decide_eq_true h3148)) trivial)))) (ti (ti trivial))))) (an (an (ti trivial) (an (an (show (decide ((2 : Int) < 4)) = true from (decide_eq_true (by decide))) trivial) (an (an (an e3149 (an e3150 (ti trivial))) (an (ti (an e3153 (ti trivial))) (an (ti (ti trivial)) (an (not_f (decide_eq_true h3154)) trivial)))) (ti (ti trivial))))) (an (ti trivial) (an (an (show (decide ((3 : Int) < 4)) = true from (decide_eq_true (by decide))) trivial) (an (an e3155 (an e3156 (ti trivial))) (an (ti (an e3159 (ti trivial))) (an (ti (ti trivial)) (an (not_t (decide_eq_false h3160)) (an (ti (ti trivial)) trivial)))))))))))) (ti trivial)) (Wv.refl _)
   ·injection h with h; subst h
    exact fun_ok pm pn Go.Proofs.Try.func49 (r0 := vi r3151) (ans := [.reg (.n :: []), .reg (nN 3 []), .unr 4, .reg (.n :: []), .br true, .reg (.n :: .v (VV.fn 102 [VV.tp [vb a0.1.1] 0, VV.tp [vi a0.1.2] 0]) :: .n :: []), .reg (.n :: .call (vi r3139) :: .n :: []), .reg (.n :: .n :: []), .br false, .reg (.n :: .n :: []), .reg (.n :: []), .br true, .reg (arD2_2 a0), .reg (.n :: .call (vi r3145) :: .n :: []), .reg (.n :: .n :: []), .br false, .reg (.n :: .n :: []), .reg (.n :: []), .br true, .reg (arD2_3 a0), .reg (.n :: .call (vi r3151) :: .n :: []), .reg (.n :: .n :: []), .br true, .reg (.n :: .n :: [])]) (fr := true) (by kernel_rfl) (an (an (ti trivial) (an (ti (ti (ti trivial))) (an (an (ti trivial) (an (an (show (decide ((0 : Int) < 4)) = true from (decide_eq_true (by decide))) trivial) (an (an (an e3137 (an e3138 (ti trivial))) (an (ti (an e3141 (ti trivial))) (an (ti (ti trivial)) (an (not_f (decide_eq_true h3142)) trivial)))) (ti (ti trivial))))) (an (an (ti trivial) (an (an (show (decide ((1 : Int) < 4)) = true from (decide_eq_true (by decide))) trivial) (an (an (an e3143 (an e3144 (ti trivial))) (an (ti (an e3147 (ti trivial))) (an (ti (ti trivial)) (an (not_f (decide_eq_true h3148)) trivial)))) (ti (ti trivial))))) (an (ti trivial) (an (an (show (decide ((2 : Int) < 4)) = true from (decide_eq_true (by decide))) trivial) (an (an e3149 (an e3150 (ti trivial))) (an (ti (an e3153 (ti trivial))) (an (ti (ti trivial)) (an (not_t (decide_eq_false h3154)) (an (ti (ti trivial)) trivial))))))))))) (ti trivial)) (Wv.refl _)
  ·injection h with h; subst h
   exact fun_ok pm pn Go.Proofs.Try.func49 (r0 := vi r3145) (ans := [.reg (.n :: []), .reg (nN 3 []), .unr 3, .reg (.n :: []), .br true, .reg (.n :: .v (VV.fn 102 [VV.tp [vb a0.1.1] 0, VV.tp [vi a0.1.2] 0]) :: .n :: []), .reg (.n :: .call (vi r3139) :: .n :: []), .reg (.n :: .n :: []), .br false, .reg (.n :: .n :: []), .reg (.n :: []), .br true, .reg (arD2_2 a0), .reg (.n :: .call (vi r3145) :: .n :: []), .reg (.n :: .n :: []), .br true, .reg (.n :: .n :: [])]) (fr := true) (by kernel_rfl) (an (an (ti trivial) (an (ti (ti (ti trivial))) (an (an (ti trivial) (an (an (show (decide ((0 : Int) < 4)) = true from (decide_eq_true (by decide))) trivial) (an (an (an e3137 (an e3138 (ti trivial))) (an (ti (an e3141 (ti trivial))) (an (ti (ti trivial)) (an (not_f (decide_eq_true h3142)) trivial)))) (ti (ti trivial))))) (an (ti trivial) (an (an (show (decide ((1 : Int) < 4)) = true from (decide_eq_true (by decide))) trivial) (an (an e3143 (an e3144 (ti trivial))) (an (ti (an e3147 (ti trivial))) (an (ti (ti trivial)) (an (not_t (decide_eq_false h3148)) (an (ti (ti trivial)) trivial)))))))))) (ti trivial)) (Wv.refl _)
 ·injection h with h; subst h
  exact fun_ok pm pn Go.Proofs.Try.func49 (r0 := vi r3139) (ans := [.reg (.n :: []), .reg (nN 3 []), .unr 2, .reg (.n :: []), .br true, .reg (.n :: .v (VV.fn 102 [VV.tp [vb a0.1.1] 0, VV.tp [vi a0.1.2] 0]) :: .n :: []), .reg (.n :: .call (vi r3139) :: .n :: []), .reg (.n :: .n :: []), .br true, .reg (.n :: .n :: [])]) (fr := true) (by kernel_rfl) (an (an (ti trivial) (an (ti (ti (ti trivial))) (an (ti trivial) (an (an (show (decide ((0 : Int) < 4)) = true from (decide_eq_true (by decide))) trivial) (an (an e3137 (an e3138 (ti trivial))) (an (ti (an e3141 (ti trivial))) (an (ti (ti trivial)) (an (not_t (decide_eq_false h3142)) (an (ti (ti trivial)) trivial))))))))) (ti trivial)) (Wv.refl _)
theorem eqD2_3 (z0 : (Bool × Int)) (z1 : ((List Int) × Int × Int)) (z2 : ((List Int) × Int × Int)) (z3 : ((List Int) × Int × Int)) : [VV.tr ([VV.fn 102 [VV.tp [vb (((z0, z1, z2, z3).1).1)] 0, VV.tp [vi (((z0, z1, z2, z3).1).2)] 0], VV.fn 114 [VV.tp [VV.tr (List.map vi (((z0, z1, z2, z3).2.1).1)) ((((z0, z1, z2, z3).2.1).1).length)] 0, VV.tp [vi (((z0, z1, z2, z3).2.1).2.1)] 0, VV.tp [vi (((z0, z1, z2, z3).2.1).2.2)] 0], VV.fn 114 [VV.tp [VV.tr (List.map vi (((z0, z1, z2, z3).2.2.1).1)) ((((z0, z1, z2, z3).2.2.1).1).length)] 0, VV.tp [vi (((z0, z1, z2, z3).2.2.1).2.1)] 0, VV.tp [vi (((z0, z1, z2, z3).2.2.1).2.2)] 0], VV.fn 114 [VV.tp [VV.tr (List.map vi (((z0, z1, z2, z3).2.2.2).1)) ((((z0, z1, z2, z3).2.2.2).1).length)] 0, VV.tp [vi (((z0, z1, z2, z3).2.2.2).2.1)] 0, VV.tp [vi (((z0, z1, z2, z3).2.2.2).2.2)] 0]]) 4] = [VV.tr (List.drop 0 (List.map unfr [VV.fn 102 [VV.tp [vb z0.1] 0, VV.tp [vi z0.2] 0], VV.fn 114 [VV.tp [VV.tr (List.map vi z1.1) z1.1.length] 0, VV.tp [vi z1.2.1] 0, VV.tp [vi z1.2.2] 0], VV.fn 114 [VV.tp [VV.tr (List.map vi z2.1) z2.1.length] 0, VV.tp [vi z2.2.1] 0, VV.tp [vi z2.2.2] 0], VV.fn 114 [VV.tp [VV.tr (List.map vi z3.1) z3.1.length] 0, VV.tp [vi z3.2.1] 0, VV.tp [vi z3.2.2] 0]])) 4] := by first | rfl | (simp only [drop0, unfr_vi, unfr_vb, List.map_cons, List.map_nil, un_i, un_b, un_tr, List.length_map, List.length_cons, List.length_nil]; done) | (simp only [drop0, unfr_vi, unfr_vb, List.map_cons, List.map_nil, un_i, un_b, un_tr, List.length_map, List.length_cons, List.length_nil]; rfl) | (simp only [drop0, unfr_vi, unfr_vb, List.map_cons, List.map_nil, un_i, un_b, un_tr, List.length_map, List.length_cons, List.length_nil, List.length_cons, List.length_nil, List.length_append]; done)
def arD2_5 (z0 : (List Int)) (z1 : (List SStroke)) (z2 : Int) (z3 : (List Int)) (z4 : (Bool × Int)) (z5 : Int) (z6 : ((List Int) × Int × Int)) (z7 : ((List Int) × Int × Int)) (z8 : ((List Int) × Int × Int)) (z9 : Int) : List Ans := (.n :: .v (VV.tr (List.map vi z0) z0.length) :: .n :: .v (VV.tr (List.flatMap c_SStroke z1) z1.length) :: .call (vi z2) :: nN 3 (.v (VV.tr (List.map vi z3) z3.length) :: .n :: .v (VV.tr (List.flatMap c_SStroke z1) z1.length) :: .call (vi z2) :: .n :: .b true :: .call (VV.fn 102 [VV.tp [vb z4.1] 0, VV.tp [vi z4.2] 0]) :: .n :: .v (vi z5) :: .v VV.any :: .call (VV.fn 114 [VV.tp [VV.tr (List.map vi z6.1) z6.1.length] 0, VV.tp [vi z6.2.1] 0, VV.tp [vi z6.2.2] 0]) :: .n :: .v (VV.tr (List.map vi z0) z0.length) :: .call (VV.fn 114 [VV.tp [VV.tr (List.map vi z7.1) z7.1.length] 0, VV.tp [vi z7.2.1] 0, VV.tp [vi z7.2.2] 0]) :: .n :: .v (VV.tr (List.map vi z3) z3.length) :: .call (VV.fn 114 [VV.tp [VV.tr (List.map vi z8.1) z8.1.length] 0, VV.tp [vi z8.2.1] 0, VV.tp [vi z8.2.2] 0]) :: .n :: .call (vi z9) :: .n :: []))
def arD2_6 (z0 : (List Int)) (z1 : (List SStroke)) (z2 : Int) (z3 : (Bool × Int)) (z4 : Int) (z5 : ((List Int) × Int × Int)) (z6 : ((List Int) × Int × Int)) (z7 : (List Int)) (z8 : ((List Int) × Int × Int)) (z9 : Int) : List Ans := (.n :: .v (VV.tr (List.map vi z0) z0.length) :: .n :: .v (VV.tr (List.flatMap c_SStroke z1) z1.length) :: .call (vi z2) :: .n :: .n :: nS 6 (.b false :: .call (VV.fn 102 [VV.tp [vb z3.1] 0, VV.tp [vi z3.2] 0]) :: .n :: .v (vi z4) :: .v VV.any :: .call (VV.fn 114 [VV.tp [VV.tr (List.map vi z5.1) z5.1.length] 0, VV.tp [vi z5.2.1] 0, VV.tp [vi z5.2.2] 0]) :: .n :: .v (VV.tr (List.map vi z0) z0.length) :: .call (VV.fn 114 [VV.tp [VV.tr (List.map vi z6.1) z6.1.length] 0, VV.tp [vi z6.2.1] 0, VV.tp [vi z6.2.2] 0]) :: .n :: .v (VV.tr (List.map vi z7) z7.length) :: .call (VV.fn 114 [VV.tp [VV.tr (List.map vi z8.1) z8.1.length] 0, VV.tp [vi z8.2.1] 0, VV.tp [vi z8.2.2] 0]) :: .n :: .call (vi z9) :: .n :: []))
def ngrind_validWeights_1 (k : Nat) (q0_0 : (List Int)) (q0_1 : (List Int)) (q0_2 : Int) (q1_0 : (List SStroke)) : Option Int :=
 (ngrind_zonesOf k q1_0).bind fun r3185 => (if (q0_0.length : Int) = r3185 then ((ngrind_need k (decide ((q0_1.length : Int) = r3185)) 10).bind fun r3192 => ((ngrind_within k 1 10000000 ([q0_2] : List Int)).bind fun r3196 => ((ngrind_within k 0 1000000000 q0_0).bind fun r3200 => ((ngrind_within k 0 1000000000 q0_1).bind fun r3204 => ((ngrind_firstOf_c0_Lgrind_need_1_grind_within_1_grind_within_1_grind_within_1 k (r3192, r3196, r3200, r3204)).bind fun r3207 => (some r3207)))))) else ((ngrind_need k false 10).bind fun r3211 => ((ngrind_within k 1 10000000 ([q0_2] : List Int)).bind fun r3214 => ((ngrind_within k 0 1000000000 q0_0).bind fun r3218 => ((ngrind_within k 0 1000000000 q0_1).bind fun r3222 => ((ngrind_firstOf_c0_Lgrind_need_1_grind_within_1_grind_within_1_grind_within_1 k (r3211, r3214, r3218, r3222)).bind fun r3225 => (some r3225)))))))
theorem ngrind_validWeights_1_ok (k : Nat) (q0_0 : (List Int)) (q0_1 : (List Int)) (q0_2 : Int) (q1_0 : (List SStroke)) (r : Int) (h : ngrind_validWeights_1 k q0_0 q0_1 q0_2 q1_0 = some r) : VC Go.Proofs.Try.prog 100 [VV.tp [VV.tr (List.map vi q0_0) q0_0.length, VV.tr (List.map vi q0_1) q0_1.length, vi q0_2] 0, VV.tp [VV.tr (List.flatMap c_SStroke q1_0) q1_0.length] 0] (vi r) := by
 unfold ngrind_validWeights_1 at h
 have e3183 := (show loadL Go.Proofs.Try.prog 23 0 [VV.tr (List.map vi q0_0) q0_0.length, VV.tr (List.map vi q0_1) q0_1.length, vi q0_2] = some (VV.tr (List.map vi q0_0) q0_0.length) from (ld_one ag23 rfl))
 have e3184 := (show loadL Go.Proofs.Try.prog 22 0 [VV.tr (List.flatMap c_SStroke q1_0) q1_0.length] = some (VV.tr (List.flatMap c_SStroke q1_0) q1_0.length) from (ld_one ag22 rfl))
 obtain ⟨r3185, h3186, h⟩ := bs h
 rcases ifs h with ⟨h3187, h⟩ | ⟨h3187, h⟩
 ·have e3188 := (an (decide_eq_true h3187) (show loadL Go.Proofs.Try.prog 23 1 [VV.tr (List.map vi q0_0) q0_0.length, VV.tr (List.map vi q0_1) q0_1.length, vi q0_2] = some (VV.tr (List.map vi q0_1) q0_1.length) from (ld_one ag23 rfl)))
  have e3189 := (an (decide_eq_true h3187) (show loadL Go.Proofs.Try.prog 22 0 [VV.tr (List.flatMap c_SStroke q1_0) q1_0.length] = some (VV.tr (List.flatMap c_SStroke q1_0) q1_0.length) from (ld_one ag22 rfl)))
  have e3191 := (an (decide_eq_true h3187) (ngrind_zonesOf_ok k q1_0 _ h3186))
  obtain ⟨r3192, h3193, h⟩ := bs h
  have e3194 := (ngrind_need_ok k (decide ((q0_1.length : Int) = r3185)) 10 _ h3193)
  have e3195 := (show loadL Go.Proofs.Try.prog 3 2 [VV.tr (List.map vi q0_0) q0_0.length, VV.tr (List.map vi q0_1) q0_1.length, vi q0_2] = some (vi q0_2) from (ld_one ag3 rfl))
  obtain ⟨r3196, h3197, h⟩ := bs h
  have e3198 := (VC.args (ngrind_within_ok k 1 10000000 ([q0_2] : List Int) _ h3197) (eqD2_2 q0_2))
  have e3199 := (show loadL Go.Proofs.Try.prog 23 0 [VV.tr (List.map vi q0_0) q0_0.length, VV.tr (List.map vi q0_1) q0_1.length, vi q0_2] = some (VV.tr (List.map vi q0_0) q0_0.length) from (ld_one ag23 rfl))
  obtain ⟨r3200, h3201, h⟩ := bs h
  have e3202 := (ngrind_within_ok k 0 1000000000 q0_0 _ h3201)
  have e3203 := (show loadL Go.Proofs.Try.prog 23 1 [VV.tr (List.map vi q0_0) q0_0.length, VV.tr (List.map vi q0_1) q0_1.length, vi q0_2] = some (VV.tr (List.map vi q0_1) q0_1.length) from (ld_one ag23 rfl))
  obtain ⟨r3204, h3205, h⟩ := bs h
  have e3206 := (ngrind_within_ok k 0 1000000000 q0_1 _ h3205)
  obtain ⟨r3207, h3208, h⟩ := bs h
  have e3209 := (VC.args (ngrind_firstOf_c0_Lgrind_need_1_grind_within_1_grind_within_1_grind_within_1_ok k (r3192, r3196, r3200, r3204) _ h3208) (eqD2_3 r3192 r3196 r3200 r3204))
  have e3210 := (ti (an e3183 (ti (an e3184 (an (ngrind_zonesOf_ok k q1_0 _ h3186) (ti (ti (an (an (decide_eq_true h3187) trivial) (an e3188 (an (an (decide_eq_true h3187) trivial) (an e3189 (an e3191 (an (an (decide_eq_true h3187) trivial) (an (decide_eq_true h3187) (an e3194 (ti (an e3195 (ti (an e3198 (ti (an e3199 (an e3202 (ti (an e3203 (an e3206 (ti (an e3209 (ti trivial))))))))))))))))))))))))))))
  injection h with h; subst h
  exact fun_ok pm pn Go.Proofs.Try.func100 (r0 := vi r3207) (ans := [.reg (.n :: []), .reg (arD2_5 q0_0 q1_0 r3185 q0_1 r3192 q0_2 r3196 r3200 r3204 r3207)]) (fr := true) (by kernel_rfl) (an (an (ti trivial) (an e3210 trivial)) (ti trivial)) (Wv.refl _)
 ·obtain ⟨r3211, h3212, h⟩ := bs h
  have e3213 := (show loadL Go.Proofs.Try.prog 3 2 [VV.tr (List.map vi q0_0) q0_0.length, VV.tr (List.map vi q0_1) q0_1.length, vi q0_2] = some (vi q0_2) from (ld_one ag3 rfl))
  obtain ⟨r3214, h3215, h⟩ := bs h
  have e3216 := (VC.args (ngrind_within_ok k 1 10000000 ([q0_2] : List Int) _ h3215) (eqD2_2 q0_2))
  have e3217 := (show loadL Go.Proofs.Try.prog 23 0 [VV.tr (List.map vi q0_0) q0_0.length, VV.tr (List.map vi q0_1) q0_1.length, vi q0_2] = some (VV.tr (List.map vi q0_0) q0_0.length) from (ld_one ag23 rfl))
  obtain ⟨r3218, h3219, h⟩ := bs h
  have e3220 := (ngrind_within_ok k 0 1000000000 q0_0 _ h3219)
  have e3221 := (show loadL Go.Proofs.Try.prog 23 1 [VV.tr (List.map vi q0_0) q0_0.length, VV.tr (List.map vi q0_1) q0_1.length, vi q0_2] = some (VV.tr (List.map vi q0_1) q0_1.length) from (ld_one ag23 rfl))
  obtain ⟨r3222, h3223, h⟩ := bs h
  have e3224 := (ngrind_within_ok k 0 1000000000 q0_1 _ h3223)
  obtain ⟨r3225, h3226, h⟩ := bs h
  have e3227 := (VC.args (ngrind_firstOf_c0_Lgrind_need_1_grind_within_1_grind_within_1_grind_within_1_ok k (r3211, r3214, r3218, r3222) _ h3226) (eqD2_3 r3211 r3214 r3218 r3222))
  have e3228 := (ti (an e3183 (ti (an e3184 (an (ngrind_zonesOf_ok k q1_0 _ h3186) (ti (ti (an (decide_eq_false h3187) (an (decide_eq_false h3187) (an (decide_eq_false h3187) (an (decide_eq_false h3187) (an (decide_eq_false h3187) (an (decide_eq_false h3187) (an (decide_eq_false h3187) (an (ngrind_need_ok k false 10 _ h3212) (ti (an e3213 (ti (an e3216 (ti (an e3217 (an e3220 (ti (an e3221 (an e3224 (ti (an e3227 (ti trivial))))))))))))))))))))))))))))
  injection h with h; subst h
  exact fun_ok pm pn Go.Proofs.Try.func100 (r0 := vi r3225) (ans := [.reg (.n :: []), .reg (arD2_6 q0_0 q1_0 r3185 r3211 q0_2 r3214 r3218 q0_1 r3222 r3225)]) (fr := true) (by kernel_rfl) (an (an (ti trivial) (an e3228 trivial)) (ti trivial)) (Wv.refl _)
def arD2_7 (z0 : (List SStroke)) (z1 : Int) (z2 : Int) : List Ans := (.n :: .n :: .v (vi (((z0.getD z1.toNat default).Wear).getD z2.toNat 0)) :: .n :: .n :: [])
def arD2_8 (z0 : (List Int)) (z1 : Int) (z2 : (List Int)) : List Ans := (nN 3 (.v (VV.tr (List.map vi z0) z0.length) :: .n :: .n :: .v (vi (z0.getD z1.toNat 0)) :: .n :: .v (VV.tr (List.map vi z2) z2.length) :: .n :: .n :: .v (vi (z2.getD z1.toNat 0)) :: nN 4 []))
def ngrind_pullsAtMost_1_l0_0_h (a0 : Int) (q0_0 : (List SStroke)) (q1_0 : (List Int)) (q1_1 : (List Int)) (q1_2 : Int) (q2_0 : Int) (x15 : Int) (x6 : Int) : VS := ⟨mkA [(2, VV.tp [VV.tr (List.map vi q1_0) q1_0.length, VV.tr (List.map vi q1_1) q1_1.length, vi q1_2] 0), (3, VV.tp [vi q2_0] 0), (6, vi x6), (13, VV.tr (List.map vi ((q0_0.getD a0.toNat default).Wear)) (((q0_0.getD a0.toNat default).Wear).length)), (14, vi (((q0_0.getD a0.toNat default).Wear).length : Int)), (15, vi x15)], [], .nil⟩
def ngrind_pullsAtMost_1_l0_0_e0 (a0 : Int) (q0_0 : (List SStroke)) (q1_0 : (List Int)) (q1_1 : (List Int)) (q1_2 : Int) (q2_0 : Int) (r : Int) : VS := ⟨mkA [(3, VV.tp [vi q2_0] 0), (6, vi r)], [], .nil⟩
def ngrind_pullsAtMost_1_l0_0 (k : Nat) (a0 : Int) (q0_0 : (List SStroke)) (q1_0 : (List Int)) (q1_1 : (List Int)) (q1_2 : Int) (q2_0 : Int) : Nat -> Int -> Int -> Option (Int)
 | 0, _, _ => none
 | fuel + 1, x15, x6 => if x15 < (((q0_0.getD a0.toNat default).Wear).length : Int) then (if 0 <= x15 /\ x15 < (((q0_0.getD a0.toNat default).Wear).length : Int) then (if 0 <= x15 /\ x15 < (q1_0.length : Int) then (if 0 <= x15 /\ x15 < (q1_1.length : Int) then (ngrind_pullsAtMost_1_l0_0 k a0 q0_0 q1_0 q1_1 q1_2 q2_0 fuel (w64 (x15 + 1)) (w64 (x6 + (w64 ((((q0_0.getD a0.toNat default).Wear).getD x15.toNat 0) * (w64 ((q1_0.getD x15.toNat 0) - (q1_1.getD x15.toNat 0)))))))) else none) else none) else none) else (some x6)
theorem ngrind_pullsAtMost_1_l0_0_ok (k : Nat) (a0 : Int) (q0_0 : (List SStroke)) (q1_0 : (List Int)) (q1_1 : (List Int)) (q1_2 : Int) (q2_0 : Int) : ∀ (fuel : Nat) (x15 : Int) (x6 : Int) (r : Int), ngrind_pullsAtMost_1_l0_0 k a0 q0_0 q1_0 q1_1 q1_2 q2_0 fuel x15 x6 = some r -> (VLoop none Go.Proofs.Try.prog (szF Go.Proofs.Try.f101) (bodyOf Go.Proofs.Try.f101 0) (ngrind_pullsAtMost_1_l0_0_h a0 q0_0 q1_0 q1_1 q1_2 q2_0 x15 x6) (.exit 0) (ngrind_pullsAtMost_1_l0_0_e0 a0 q0_0 q1_0 q1_1 q1_2 q2_0 r)) := by
 intro fuel
 induction fuel with
 | zero => intro x15 x6 r h; rw [ngrind_pullsAtMost_1_l0_0.eq_1] at h; cases h
 | succ fuel ih =>
  intro x15 x6 r h
  rw [ngrind_pullsAtMost_1_l0_0.eq_2] at h
  rcases ifs h with ⟨h3301, h⟩ | ⟨h3301, h⟩
  ·obtain ⟨h3302, h⟩ := ifn h
   have e3303 := (show loadL Go.Proofs.Try.prog 3 (x15.toNat * 1) (List.map vi ((q0_0.getD a0.toNat default).Wear)) = some (vi (((q0_0.getD a0.toNat default).Wear).getD x15.toNat 0)) from ld_map ag3 vi ((q0_0.getD a0.toNat default).Wear) 0 h3302 (by omega))
   have e3304 := (show loadL Go.Proofs.Try.prog 23 0 [VV.tr (List.map vi q1_0) q1_0.length, VV.tr (List.map vi q1_1) q1_1.length, vi q1_2] = some (VV.tr (List.map vi q1_0) q1_0.length) from (ld_one ag23 rfl))
   obtain ⟨h3305, h⟩ := ifn h
   have e3306 := (show loadL Go.Proofs.Try.prog 3 (x15.toNat * 1) (List.map vi q1_0) = some (vi (q1_0.getD x15.toNat 0)) from ld_map ag3 vi q1_0 0 h3305 (by omega))
   have e3307 := (show loadL Go.Proofs.Try.prog 23 1 [VV.tr (List.map vi q1_0) q1_0.length, VV.tr (List.map vi q1_1) q1_1.length, vi q1_2] = some (VV.tr (List.map vi q1_1) q1_1.length) from (ld_one ag23 rfl))
   obtain ⟨h3308, h⟩ := ifn h
   have e3309 := (show loadL Go.Proofs.Try.prog 3 (x15.toNat * 1) (List.map vi q1_1) = some (vi (q1_1.getD x15.toNat 0)) from ld_map ag3 vi q1_1 0 h3308 (by omega))
   have e3310 := (ti (ti (ti (an e3304 (ti (an h3305 (an e3306 (ti (an e3307 (ti (an h3308 (an e3309 (ti (ti (ti (ti trivial))))))))))))))))
   have h2 := ih _ _ _ h
   obtain ⟨q, hv, hq⟩ := pkR (rd := none) (P := Go.Proofs.Try.prog) (fn := Go.Proofs.Try.f101) (k := 0) (s := (ngrind_pullsAtMost_1_l0_0_h a0 q0_0 q1_0 q1_1 q1_2 q2_0 x15 x6)) (ans := [.reg (.n :: []), .br true, .reg (arD2_7 q0_0 a0 x15), .reg (arD2_8 q1_0 x15 q1_1), .reg (.n :: .n :: [])]) (c := ⟨[(2, none), (3, none), (6, none), (13, none), (14, none), (15, none)], [], []⟩) (e := .normal) (s1 := (ngrind_pullsAtMost_1_l0_0_h a0 q0_0 q1_0 q1_1 q1_2 q2_0 (w64 (x15 + 1)) (w64 (x6 + (w64 ((((q0_0.getD a0.toNat default).Wear).getD x15.toNat 0) * (w64 ((q1_0.getD x15.toNat 0) - (q1_1.getD x15.toNat 0))))))))) (an (an (ti trivial) (an (an (decide_eq_true h3301) trivial) (an (an (ti (an h3302 (an e3303 (ti (ti trivial))))) e3310) (ti (ti trivial))))) (ti trivial)) (by kernel_rfl)
   exact round_next pm pn hv hq h2
  ·injection h with h; subst h
   exact round_stop (c := ⟨[(3, none), (6, none)], [], []⟩) (s1 := (ngrind_pullsAtMost_1_l0_0_e0 a0 q0_0 q1_0 q1_1 q1_2 q2_0 x6)) pm pn (ans := [.reg (.n :: []), .br false]) (by kernel_rfl) (by intro e; cases e) (an (an (ti trivial) (an (decide_eq_false h3301) trivial)) (ti trivial))
def arD2_9 (z0 : (List SStroke)) (z1 : Int) : List Ans := (.v (VV.tr (List.flatMap c_SStroke z0) z0.length) :: nN 3 (.v (VV.tr (List.map vi ((z0.getD z1.toNat default).Wear)) (((z0.getD z1.toNat default).Wear).length)) :: .n :: .n :: []))
def ngrind_pullsAtMost_1 (k : Nat) (a0 : Int) (q0_0 : (List SStroke)) (q1_0 : (List Int)) (q1_1 : (List Int)) (q1_2 : Int) (q2_0 : Int) : Option Int :=
 if 0 <= a0 /\ a0 < (q0_0.length : Int) then ((ngrind_pullsAtMost_1_l0_0 k a0 q0_0 q1_0 q1_1 q1_2 q2_0 k 0 0).bind fun r3312 => (if q2_0 < r3312 then (some 22) else (some 0))) else none
theorem ngrind_pullsAtMost_1_ok (k : Nat) (a0 : Int) (q0_0 : (List SStroke)) (q1_0 : (List Int)) (q1_1 : (List Int)) (q1_2 : Int) (q2_0 : Int) (r : Int) (h : ngrind_pullsAtMost_1 k a0 q0_0 q1_0 q1_1 q1_2 q2_0 = some r) : VC Go.Proofs.Try.prog 101 [vi a0, VV.tp [VV.tr (List.flatMap c_SStroke q0_0) q0_0.length] 0, VV.tp [VV.tr (List.map vi q1_0) q1_0.length, VV.tr (List.map vi q1_1) q1_1.length, vi q1_2] 0, VV.tp [vi q2_0] 0] (vi r) := by
 unfold ngrind_pullsAtMost_1 at h
 have e3277 := (show loadL Go.Proofs.Try.prog 22 0 [VV.tr (List.flatMap c_SStroke q0_0) q0_0.length] = some (VV.tr (List.flatMap c_SStroke q0_0) q0_0.length) from (ld_one ag22 rfl))
 obtain ⟨h3278, h⟩ := ifn h
 have e3279 := (show loadL Go.Proofs.Try.prog 23 (a0.toNat * 2 + 1) (List.flatMap c_SStroke q0_0) = some (VV.tr (List.map vi ((q0_0.getD a0.toNat default).Wear)) (((q0_0.getD a0.toNat default).Wear).length)) from (ld_flat ag23 c_SStroke 2 1 len_c_SStroke (by omega) q0_0 default h3278 (by omega)).trans rfl)
 have e3280 := (an e3277 (ti (an h3278 (ti (an e3279 (ti (ti trivial)))))))
 obtain ⟨r3312, h3311, h⟩ := bs h
 have hph3311 := ngrind_pullsAtMost_1_l0_0_ok k a0 q0_0 q1_0 q1_1 q1_2 q2_0 _ _ _ _ h3311
 have e3313 := (an (ti trivial) (VRun.loop hph3311))
 have e3314 := (show loadL Go.Proofs.Try.prog 3 0 [vi q2_0] = some (vi q2_0) from (ld_one ag3 rfl))
 rcases ifs h with ⟨h3315, h⟩ | ⟨h3315, h⟩
 ·injection h with h; subst h
  exact fun_ok pm pn Go.Proofs.Try.func101 (r0 := vi 22) (ans := [.reg (.n :: []), .reg (.n :: []), .reg (arD2_9 q0_0 a0), .sub ⟨[(2, none), (3, none), (6, none), (13, none), (14, none), (15, none)], [], []⟩ (.exit 0) (ngrind_pullsAtMost_1_l0_0_e0 a0 q0_0 q1_0 q1_1 q1_2 q2_0 r3312), .reg (.n :: .v (vi q2_0) :: .n :: []), .br true, .reg (.n :: [])]) (fr := true) (by kernel_rfl) (an (an (ti trivial) (an (ti trivial) (an (an e3280 e3313) (an (ti (an e3314 (ti trivial))) (an (decide_eq_true h3315) (an (ti trivial) trivial)))))) (ti trivial)) (Wv.refl _)
 ·injection h with h; subst h
  exact fun_ok pm pn Go.Proofs.Try.func101 (r0 := vi 0) (ans := [.reg (.n :: []), .reg (.n :: []), .reg (arD2_9 q0_0 a0), .sub ⟨[(2, none), (3, none), (6, none), (13, none), (14, none), (15, none)], [], []⟩ (.exit 0) (ngrind_pullsAtMost_1_l0_0_e0 a0 q0_0 q1_0 q1_1 q1_2 q2_0 r3312), .reg (.n :: .v (vi q2_0) :: .n :: []), .br false, .reg (.n :: [])]) (fr := true) (by kernel_rfl) (an (an (ti trivial) (an (ti trivial) (an (an e3280 e3313) (an (an (ti (an e3314 (ti trivial))) (an (decide_eq_false h3315) trivial)) (an (ti trivial) trivial))))) (ti trivial)) (Wv.refl _)
def arD2_10 (z0 : ((List SStroke) × (List Int) × (List Int) × Int × Int)) (z1 : Int) : List Ans := (.v (VV.fn 101 [VV.tp [VV.tr (List.flatMap c_SStroke z0.1) z0.1.length] 0, VV.tp [VV.tr (List.map vi z0.2.1) z0.2.1.length, VV.tr (List.map vi z0.2.2.1) z0.2.2.1.length, vi z0.2.2.2.1] 0, VV.tp [vi z0.2.2.2.2] 0]) :: .n :: .call (vi z1) :: .n :: [])
def ngrind_each_1_k_grind_pullsAtMost_1_l0_0_h (q0_0 : Int) (q1_0 : ((List SStroke) × (List Int) × (List Int) × Int × Int)) (x6 : Int) : VS := ⟨mkA [(1, VV.tp [VV.fn 101 [VV.tp [VV.tr (List.flatMap c_SStroke q1_0.1) q1_0.1.length] 0, VV.tp [VV.tr (List.map vi q1_0.2.1) q1_0.2.1.length, VV.tr (List.map vi q1_0.2.2.1) q1_0.2.2.1.length, vi q1_0.2.2.2.1] 0, VV.tp [vi q1_0.2.2.2.2] 0]] 0), (5, vi q0_0), (6, vi x6)], [], .nil⟩
def ngrind_each_1_k_grind_pullsAtMost_1_l0_0_e0 (q0_0 : Int) (q1_0 : ((List SStroke) × (List Int) × (List Int) × Int × Int)) (r : Int) : VS := ⟨mkA [(2, vi r)], [], .nil⟩
def ngrind_each_1_k_grind_pullsAtMost_1_l0_0_e1 (q0_0 : Int) (q1_0 : ((List SStroke) × (List Int) × (List Int) × Int × Int)) (r : Unit) : VS := ⟨mkA [], [], .nil⟩
def ngrind_each_1_k_grind_pullsAtMost_1_l0_0 (k : Nat) (q0_0 : Int) (q1_0 : ((List SStroke) × (List Int) × (List Int) × Int × Int)) : Nat -> Int -> Option (Sum Int Unit)
 | 0, _ => none
 | fuel + 1, x6 => if x6 < q0_0 then ((ngrind_pullsAtMost_1 k x6 q1_0.1 q1_0.2.1 q1_0.2.2.1 q1_0.2.2.2.1 q1_0.2.2.2.2).bind fun r3353 => (if r3353 = 0 then (ngrind_each_1_k_grind_pullsAtMost_1_l0_0 k q0_0 q1_0 fuel (w64 (x6 + 1))) else (some (.inl r3353)))) else (some (.inr ()))
theorem ngrind_each_1_k_grind_pullsAtMost_1_l0_0_ok (k : Nat) (q0_0 : Int) (q1_0 : ((List SStroke) × (List Int) × (List Int) × Int × Int)) : ∀ (fuel : Nat) (x6 : Int) (r : Sum Int Unit), ngrind_each_1_k_grind_pullsAtMost_1_l0_0 k q0_0 q1_0 fuel x6 = some r -> (match r with | .inl r => VLoop none Go.Proofs.Try.prog (szF Go.Proofs.Try.f117) (bodyOf Go.Proofs.Try.f117 0) (ngrind_each_1_k_grind_pullsAtMost_1_l0_0_h q0_0 q1_0 x6) .ret (ngrind_each_1_k_grind_pullsAtMost_1_l0_0_e0 q0_0 q1_0 r) | .inr r => VLoop none Go.Proofs.Try.prog (szF Go.Proofs.Try.f117) (bodyOf Go.Proofs.Try.f117 0) (ngrind_each_1_k_grind_pullsAtMost_1_l0_0_h q0_0 q1_0 x6) (.exit 0) (ngrind_each_1_k_grind_pullsAtMost_1_l0_0_e1 q0_0 q1_0 r)) := by
 intro fuel
 induction fuel with
 | zero => intro x6 r h; rw [ngrind_each_1_k_grind_pullsAtMost_1_l0_0.eq_1] at h; cases h
 | succ fuel ih =>
  intro x6 r h
  rw [ngrind_each_1_k_grind_pullsAtMost_1_l0_0.eq_2] at h
  rcases ifs h with ⟨h3351, h⟩ | ⟨h3351, h⟩
  ·have e3352 := (show loadL Go.Proofs.Try.prog 140 0 [VV.fn 101 [VV.tp [VV.tr (List.flatMap c_SStroke q1_0.1) q1_0.1.length] 0, VV.tp [VV.tr (List.map vi q1_0.2.1) q1_0.2.1.length, VV.tr (List.map vi q1_0.2.2.1) q1_0.2.2.1.length, vi q1_0.2.2.2.1] 0, VV.tp [vi q1_0.2.2.2.2] 0]] = some (VV.fn 101 [VV.tp [VV.tr (List.flatMap c_SStroke q1_0.1) q1_0.1.length] 0, VV.tp [VV.tr (List.map vi q1_0.2.1) q1_0.2.1.length, VV.tr (List.map vi q1_0.2.2.1) q1_0.2.2.1.length, vi q1_0.2.2.2.1] 0, VV.tp [vi q1_0.2.2.2.2] 0]) from (ld_one ag140 rfl))
   obtain ⟨r3353, h3354, h⟩ := bs h
   have e3355 := (ngrind_pullsAtMost_1_ok k x6 q1_0.1 q1_0.2.1 q1_0.2.2.1 q1_0.2.2.2.1 q1_0.2.2.2.2 _ h3354)
   rcases ifs h with ⟨h3356, h⟩ | ⟨h3356, h⟩
   ·have h2 := ih _ _ h
    obtain ⟨q, hv, hq⟩ := pkR (rd := none) (P := Go.Proofs.Try.prog) (fn := Go.Proofs.Try.f117) (k := 0) (s := (ngrind_each_1_k_grind_pullsAtMost_1_l0_0_h q0_0 q1_0 x6)) (ans := [.reg (.n :: []), .br true, .reg (.n :: .n :: []), .reg (arD2_10 q1_0 r3353), .reg (.n :: .n :: []), .br false, .reg (.n :: .n :: [])]) (c := ⟨[(1, none), (5, none), (6, none)], [], []⟩) (e := .normal) (s1 := (ngrind_each_1_k_grind_pullsAtMost_1_l0_0_h q0_0 q1_0 (w64 (x6 + 1)))) (an (an (ti trivial) (an (an (decide_eq_true h3351) trivial) (an (an (ti (ti trivial)) (an (an e3352 (ti (an e3355 (ti trivial)))) (an (ti (ti trivial)) (an (not_f (decide_eq_true h3356)) trivial)))) (ti (ti trivial))))) (ti trivial)) (by kernel_rfl)
    cases r with
    | inl r => exact round_next pm pn hv hq h2
    | inr r =>
     exact round_next pm pn hv hq h2
   ·injection h with h; subst h
    exact round_stop (c := ⟨[(2, none)], [], []⟩) (s1 := (ngrind_each_1_k_grind_pullsAtMost_1_l0_0_e0 q0_0 q1_0 r3353)) pm pn (ans := [.reg (.n :: []), .br true, .reg (.n :: .n :: []), .reg (arD2_10 q1_0 r3353), .reg (.n :: .n :: []), .br true, .reg (.n :: .n :: [])]) (by kernel_rfl) (by intro e; cases e) (an (an (ti trivial) (an (an (decide_eq_true h3351) trivial) (an (ti (ti trivial)) (an (an e3352 (ti (an e3355 (ti trivial)))) (an (ti (ti trivial)) (an (not_t (decide_eq_false h3356)) (an (ti (ti trivial)) trivial))))))) (ti trivial))
  ·injection h with h; subst h
   exact round_stop (c := ⟨[], [], []⟩) (s1 := (ngrind_each_1_k_grind_pullsAtMost_1_l0_0_e1 q0_0 q1_0 ())) pm pn (ans := [.reg (.n :: []), .br false]) (by kernel_rfl) (by intro e; cases e) (an (an (ti trivial) (an (decide_eq_false h3351) trivial)) (ti trivial))
def ngrind_each_1_k_grind_pullsAtMost_1 (k : Nat) (q0_0 : Int) (q1_0 : ((List SStroke) × (List Int) × (List Int) × Int × Int)) : Option Int :=
 (ngrind_each_1_k_grind_pullsAtMost_1_l0_0 k q0_0 q1_0 k 0).bind fun r3358 => (match r3358 with | .inl r3359 => (some r3359) | .inr r3360 => (some 0))
theorem ngrind_each_1_k_grind_pullsAtMost_1_ok (k : Nat) (q0_0 : Int) (q1_0 : ((List SStroke) × (List Int) × (List Int) × Int × Int)) (r : Int) (h : ngrind_each_1_k_grind_pullsAtMost_1 k q0_0 q1_0 = some r) : VC Go.Proofs.Try.prog 117 [VV.tp [vi q0_0] 0, VV.tp [VV.fn 101 [VV.tp [VV.tr (List.flatMap c_SStroke q1_0.1) q1_0.1.length] 0, VV.tp [VV.tr (List.map vi q1_0.2.1) q1_0.2.1.length, VV.tr (List.map vi q1_0.2.2.1) q1_0.2.2.1.length, vi q1_0.2.2.2.1] 0, VV.tp [vi q1_0.2.2.2.2] 0]] 0] (vi r) := by
 unfold ngrind_each_1_k_grind_pullsAtMost_1 at h
 have e3338 := (show loadL Go.Proofs.Try.prog 3 0 [vi q0_0] = some (vi q0_0) from (ld_one ag3 rfl))
 obtain ⟨r3358, h3357, h⟩ := bs h
 have hph3357 := ngrind_each_1_k_grind_pullsAtMost_1_l0_0_ok k q0_0 q1_0 _ _ _ h3357
 cases r3358 with
 | inl r3359 =>
  dsimp only at h
  have e3361 := (an (ti trivial) (VRun.loop hph3357))
  injection h with h; subst h
  exact fun_ok pm pn Go.Proofs.Try.func117 (r0 := vi r3359) (ans := [.reg (.n :: []), .reg (.v (vi q0_0) :: .n :: []), .sub ⟨[(1, none), (5, none), (6, none)], [], []⟩ .ret (ngrind_each_1_k_grind_pullsAtMost_1_l0_0_e0 q0_0 q1_0 r3359)]) (fr := true) (by kernel_rfl) (an (an (ti trivial) (an (an e3338 (ti trivial)) e3361)) (ti trivial)) (Wv.refl _)
 | inr r3360 =>
  dsimp only at h
  have e3362 := (an (ti trivial) (VRun.loop hph3357))
  injection h with h; subst h
  exact fun_ok pm pn Go.Proofs.Try.func117 (r0 := vi 0) (ans := [.reg (.n :: []), .reg (.v (vi q0_0) :: .n :: []), .sub ⟨[(1, none), (5, none), (6, none)], [], []⟩ (.exit 0) (ngrind_each_1_k_grind_pullsAtMost_1_l0_0_e1 q0_0 q1_0 r3360), .reg (.n :: [])]) (fr := true) (by kernel_rfl) (an (an (ti trivial) (an (an (an e3338 (ti trivial)) e3362) (an (ti trivial) trivial))) (ti trivial)) (Wv.refl _)
def arD2_11 (z0 : ((List SStroke) × ((List Int) × (List Int) × (List SStroke)) × ((List Int) × (List Int) × Int × (List SStroke)) × (Int × ((List SStroke) × (List Int) × (List Int) × Int × Int)))) : List Ans := (.n :: .v (VV.fn 89 [VV.tp [VV.tr (List.flatMap c_SStroke z0.1) z0.1.length] 0]) :: .n :: [])
def arD2_12 (z0 : ((List SStroke) × ((List Int) × (List Int) × (List SStroke)) × ((List Int) × (List Int) × Int × (List SStroke)) × (Int × ((List SStroke) × (List Int) × (List Int) × Int × Int)))) : List Ans := (.n :: .v (VV.fn 91 [VV.tp [VV.tr (List.map vi z0.2.1.1) z0.2.1.1.length, VV.tr (List.map vi z0.2.1.2.1) z0.2.1.2.1.length] 0, VV.tp [VV.tr (List.flatMap c_SStroke z0.2.1.2.2) z0.2.1.2.2.length] 0]) :: .n :: [])
def arD2_13 (z0 : ((List SStroke) × ((List Int) × (List Int) × (List SStroke)) × ((List Int) × (List Int) × Int × (List SStroke)) × (Int × ((List SStroke) × (List Int) × (List Int) × Int × Int)))) : List Ans := (.n :: .v (VV.fn 100 [VV.tp [VV.tr (List.map vi z0.2.2.1.1) z0.2.2.1.1.length, VV.tr (List.map vi z0.2.2.1.2.1) z0.2.2.1.2.1.length, vi z0.2.2.1.2.2.1] 0, VV.tp [VV.tr (List.flatMap c_SStroke z0.2.2.1.2.2.2) z0.2.2.1.2.2.2.length] 0]) :: .n :: [])
def arD2_14 (z0 : ((List SStroke) × ((List Int) × (List Int) × (List SStroke)) × ((List Int) × (List Int) × Int × (List SStroke)) × (Int × ((List SStroke) × (List Int) × (List Int) × Int × Int)))) : List Ans := (.n :: .v (VV.fn 117 [VV.tp [vi z0.2.2.2.1] 0, VV.tp [VV.fn 101 [VV.tp [VV.tr (List.flatMap c_SStroke z0.2.2.2.2.1) z0.2.2.2.2.1.length] 0, VV.tp [VV.tr (List.map vi z0.2.2.2.2.2.1) z0.2.2.2.2.2.1.length, VV.tr (List.map vi z0.2.2.2.2.2.2.1) z0.2.2.2.2.2.2.1.length, vi z0.2.2.2.2.2.2.2.1] 0, VV.tp [vi z0.2.2.2.2.2.2.2.2] 0]] 0]) :: .n :: [])
def ngrind_firstOf_c0_Lgrind_validStrokes_1_grind_validDemand_1_grind_validWeights_1_grind_each_1_grind_pullsAtMost_1 (k : Nat) (a0 : ((List SStroke) × ((List Int) × (List Int) × (List SStroke)) × ((List Int) × (List Int) × Int × (List SStroke)) × (Int × ((List SStroke) × (List Int) × (List Int) × Int × Int)))) : Option Int :=
 (ngrind_validStrokes_1 k a0.1).bind fun r3369 => (if r3369 = 0 then ((ngrind_validDemand_1 k a0.2.1.1 a0.2.1.2.1 a0.2.1.2.2).bind fun r3375 => (if r3375 = 0 then ((ngrind_validWeights_1 k a0.2.2.1.1 a0.2.2.1.2.1 a0.2.2.1.2.2.1 a0.2.2.1.2.2.2).bind fun r3381 => (if r3381 = 0 then ((ngrind_each_1_k_grind_pullsAtMost_1 k a0.2.2.2.1 a0.2.2.2.2).bind fun r3387 => (if r3387 = 0 then (some 0) else (some r3387))) else (some r3381))) else (some r3375))) else (some r3369))
theorem ngrind_firstOf_c0_Lgrind_validStrokes_1_grind_validDemand_1_grind_validWeights_1_grind_each_1_grind_pullsAtMost_1_ok (k : Nat) (a0 : ((List SStroke) × ((List Int) × (List Int) × (List SStroke)) × ((List Int) × (List Int) × Int × (List SStroke)) × (Int × ((List SStroke) × (List Int) × (List Int) × Int × Int)))) (r : Int) (h : ngrind_firstOf_c0_Lgrind_validStrokes_1_grind_validDemand_1_grind_validWeights_1_grind_each_1_grind_pullsAtMost_1 k a0 = some r) : VC Go.Proofs.Try.prog 49 [VV.tr ([VV.fn 89 [VV.tp [VV.tr (List.flatMap c_SStroke a0.1) a0.1.length] 0], VV.fn 91 [VV.tp [VV.tr (List.map vi a0.2.1.1) a0.2.1.1.length, VV.tr (List.map vi a0.2.1.2.1) a0.2.1.2.1.length] 0, VV.tp [VV.tr (List.flatMap c_SStroke a0.2.1.2.2) a0.2.1.2.2.length] 0], VV.fn 100 [VV.tp [VV.tr (List.map vi a0.2.2.1.1) a0.2.2.1.1.length, VV.tr (List.map vi a0.2.2.1.2.1) a0.2.2.1.2.1.length, vi a0.2.2.1.2.2.1] 0, VV.tp [VV.tr (List.flatMap c_SStroke a0.2.2.1.2.2.2) a0.2.2.1.2.2.2.length] 0], VV.fn 117 [VV.tp [vi a0.2.2.2.1] 0, VV.tp [VV.fn 101 [VV.tp [VV.tr (List.flatMap c_SStroke a0.2.2.2.2.1) a0.2.2.2.2.1.length] 0, VV.tp [VV.tr (List.map vi a0.2.2.2.2.2.1) a0.2.2.2.2.2.1.length, VV.tr (List.map vi a0.2.2.2.2.2.2.1) a0.2.2.2.2.2.2.1.length, vi a0.2.2.2.2.2.2.2.1] 0, VV.tp [vi a0.2.2.2.2.2.2.2.2] 0]] 0]]) 4] (vi r) := by
 unfold ngrind_firstOf_c0_Lgrind_validStrokes_1_grind_validDemand_1_grind_validWeights_1_grind_each_1_grind_pullsAtMost_1 at h
 have e3367 := (show (0 : Int) <= 0 /\ (0 : Int) < ((4 : Nat) : Int) from ⟨by decide, by decide⟩)
 have e3368 := (show loadL Go.Proofs.Try.prog 98 ((0 : Int).toNat * 1) ([VV.fn 89 [VV.tp [VV.tr (List.flatMap c_SStroke a0.1) a0.1.length] 0], VV.fn 91 [VV.tp [VV.tr (List.map vi a0.2.1.1) a0.2.1.1.length, VV.tr (List.map vi a0.2.1.2.1) a0.2.1.2.1.length] 0, VV.tp [VV.tr (List.flatMap c_SStroke a0.2.1.2.2) a0.2.1.2.2.length] 0], VV.fn 100 [VV.tp [VV.tr (List.map vi a0.2.2.1.1) a0.2.2.1.1.length, VV.tr (List.map vi a0.2.2.1.2.1) a0.2.2.1.2.1.length, vi a0.2.2.1.2.2.1] 0, VV.tp [VV.tr (List.flatMap c_SStroke a0.2.2.1.2.2.2) a0.2.2.1.2.2.2.length] 0], VV.fn 117 [VV.tp [vi a0.2.2.2.1] 0, VV.tp [VV.fn 101 [VV.tp [VV.tr (List.flatMap c_SStroke a0.2.2.2.2.1) a0.2.2.2.2.1.length] 0, VV.tp [VV.tr (List.map vi a0.2.2.2.2.2.1) a0.2.2.2.2.2.1.length, VV.tr (List.map vi a0.2.2.2.2.2.2.1) a0.2.2.2.2.2.2.1.length, vi a0.2.2.2.2.2.2.2.1] 0, VV.tp [vi a0.2.2.2.2.2.2.2.2] 0]] 0]]) = some (VV.fn 89 [VV.tp [VV.tr (List.flatMap c_SStroke a0.1) a0.1.length] 0]) from (ld_one ag98 rfl))
 obtain ⟨r3369, h3370, h⟩ := bs h
 have e3371 := (ngrind_validStrokes_1_ok k a0.1 _ h3370)
 rcases ifs h with ⟨h3372, h⟩ | ⟨h3372, h⟩
 ·have e3373 := (show (0 : Int) <= 1 /\ (1 : Int) < ((4 : Nat) : Int) from ⟨by decide, by decide⟩)
  have e3374 := (show loadL Go.Proofs.Try.prog 98 ((1 : Int).toNat * 1) ([VV.fn 89 [VV.tp [VV.tr (List.flatMap c_SStroke a0.1) a0.1.length] 0], VV.fn 91 [VV.tp [VV.tr (List.map vi a0.2.1.1) a0.2.1.1.length, VV.tr (List.map vi a0.2.1.2.1) a0.2.1.2.1.length] 0, VV.tp [VV.tr (List.flatMap c_SStroke a0.2.1.2.2) a0.2.1.2.2.length] 0], VV.fn 100 [VV.tp [VV.tr (List.map vi a0.2.2.1.1) a0.2.2.1.1.length, VV.tr (List.map vi a0.2.2.1.2.1) a0.2.2.1.2.1.length, vi a0.2.2.1.2.2.1] 0, VV.tp [VV.tr (List.flatMap c_SStroke a0.2.2.1.2.2.2) a0.2.2.1.2.2.2.length] 0], VV.fn 117 [VV.tp [vi a0.2.2.2.1] 0, VV.tp [VV.fn 101 [VV.tp [VV.tr (List.flatMap c_SStroke a0.2.2.2.2.1) a0.2.2.2.2.1.length] 0, VV.tp [VV.tr (List.map vi a0.2.2.2.2.2.1) a0.2.2.2.2.2.1.length, VV.tr (List.map vi a0.2.2.2.2.2.2.1) a0.2.2.2.2.2.2.1.length, vi a0.2.2.2.2.2.2.2.1] 0, VV.tp [vi a0.2.2.2.2.2.2.2.2] 0]] 0]]) = some (VV.fn 91 [VV.tp [VV.tr (List.map vi a0.2.1.1) a0.2.1.1.length, VV.tr (List.map vi a0.2.1.2.1) a0.2.1.2.1.length] 0, VV.tp [VV.tr (List.flatMap c_SStroke a0.2.1.2.2) a0.2.1.2.2.length] 0]) from (ld_one ag98 rfl))
  obtain ⟨r3375, h3376, h⟩ := bs h
  have e3377 := (ngrind_validDemand_1_ok k a0.2.1.1 a0.2.1.2.1 a0.2.1.2.2 _ h3376)
  rcases ifs h with ⟨h3378, h⟩ | ⟨h3378, h⟩
  ·have e3379 := (show (0 : Int) <= 2 /\ (2 : Int) < ((4 : Nat) : Int) from ⟨by decide, by decide⟩)
   have e3380 := (show loadL Go.Proofs.Try.prog 98 ((2 : Int).toNat * 1) ([VV.fn 89 [VV.tp [VV.tr (List.flatMap c_SStroke a0.1) a0.1.length] 0], VV.fn 91 [VV.tp [VV.tr (List.map vi a0.2.1.1) a0.2.1.1.length, VV.tr (List.map vi a0.2.1.2.1) a0.2.1.2.1.length] 0, VV.tp [VV.tr (List.flatMap c_SStroke a0.2.1.2.2) a0.2.1.2.2.length] 0], VV.fn 100 [VV.tp [VV.tr (List.map vi a0.2.2.1.1) a0.2.2.1.1.length, VV.tr (List.map vi a0.2.2.1.2.1) a0.2.2.1.2.1.length, vi a0.2.2.1.2.2.1] 0, VV.tp [VV.tr (List.flatMap c_SStroke a0.2.2.1.2.2.2) a0.2.2.1.2.2.2.length] 0], VV.fn 117 [VV.tp [vi a0.2.2.2.1] 0, VV.tp [VV.fn 101 [VV.tp [VV.tr (List.flatMap c_SStroke a0.2.2.2.2.1) a0.2.2.2.2.1.length] 0, VV.tp [VV.tr (List.map vi a0.2.2.2.2.2.1) a0.2.2.2.2.2.1.length, VV.tr (List.map vi a0.2.2.2.2.2.2.1) a0.2.2.2.2.2.2.1.length, vi a0.2.2.2.2.2.2.2.1] 0, VV.tp [vi a0.2.2.2.2.2.2.2.2] 0]] 0]]) = some (VV.fn 100 [VV.tp [VV.tr (List.map vi a0.2.2.1.1) a0.2.2.1.1.length, VV.tr (List.map vi a0.2.2.1.2.1) a0.2.2.1.2.1.length, vi a0.2.2.1.2.2.1] 0, VV.tp [VV.tr (List.flatMap c_SStroke a0.2.2.1.2.2.2) a0.2.2.1.2.2.2.length] 0]) from (ld_one ag98 rfl))
   obtain ⟨r3381, h3382, h⟩ := bs h
   have e3383 := (ngrind_validWeights_1_ok k a0.2.2.1.1 a0.2.2.1.2.1 a0.2.2.1.2.2.1 a0.2.2.1.2.2.2 _ h3382)
   rcases ifs h with ⟨h3384, h⟩ | ⟨h3384, h⟩
   ·have e3385 := (show (0 : Int) <= 3 /\ (3 : Int) < ((4 : Nat) : Int) from ⟨by decide, by decide⟩)
    have e3386 := (show loadL Go.Proofs.Try.prog 98 ((3 : Int).toNat * 1) ([VV.fn 89 [VV.tp [VV.tr (List.flatMap c_SStroke a0.1) a0.1.length] 0], VV.fn 91 [VV.tp [VV.tr (List.map vi a0.2.1.1) a0.2.1.1.length, VV.tr (List.map vi a0.2.1.2.1) a0.2.1.2.1.length] 0, VV.tp [VV.tr (List.flatMap c_SStroke a0.2.1.2.2) a0.2.1.2.2.length] 0], VV.fn 100 [VV.tp [VV.tr (List.map vi a0.2.2.1.1) a0.2.2.1.1.length, VV.tr (List.map vi a0.2.2.1.2.1) a0.2.2.1.2.1.length, vi a0.2.2.1.2.2.1] 0, VV.tp [VV.tr (List.flatMap c_SStroke a0.2.2.1.2.2.2) a0.2.2.1.2.2.2.length] 0], VV.fn 117 [VV.tp [vi a0.2.2.2.1] 0, VV.tp [VV.fn 101 [VV.tp [VV.tr (List.flatMap c_SStroke a0.2.2.2.2.1) a0.2.2.2.2.1.length] 0, VV.tp [VV.tr (List.map vi a0.2.2.2.2.2.1) a0.2.2.2.2.2.1.length, VV.tr (List.map vi a0.2.2.2.2.2.2.1) a0.2.2.2.2.2.2.1.length, vi a0.2.2.2.2.2.2.2.1] 0, VV.tp [vi a0.2.2.2.2.2.2.2.2] 0]] 0]]) = some (VV.fn 117 [VV.tp [vi a0.2.2.2.1] 0, VV.tp [VV.fn 101 [VV.tp [VV.tr (List.flatMap c_SStroke a0.2.2.2.2.1) a0.2.2.2.2.1.length] 0, VV.tp [VV.tr (List.map vi a0.2.2.2.2.2.1) a0.2.2.2.2.2.1.length, VV.tr (List.map vi a0.2.2.2.2.2.2.1) a0.2.2.2.2.2.2.1.length, vi a0.2.2.2.2.2.2.2.1] 0, VV.tp [vi a0.2.2.2.2.2.2.2.2] 0]] 0]) from (ld_one ag98 rfl))
    obtain ⟨r3387, h3388, h⟩ := bs h
    have e3389 := (ngrind_each_1_k_grind_pullsAtMost_1_ok k a0.2.2.2.1 a0.2.2.2.2 _ h3388)
    rcases ifs h with ⟨h3390, h⟩ | ⟨h3390, h⟩
    ·injection h with h; subst h
     exact fun_ok pm pn Go.Proofs.Try.func49 (r0 := vi 0) (ans := [.reg (.n :: []), .reg (nN 3 []), .unr 6, .reg (.n :: []), .br true, .reg (arD2_11 a0), .reg (.n :: .call (vi r3369) :: .n :: []), .reg (.n :: .n :: []), .br false, .reg (.n :: .n :: []), .reg (.n :: []), .br true, .reg (arD2_12 a0), .reg (.n :: .call (vi r3375) :: .n :: []), .reg (.n :: .n :: []), .br false, .reg (.n :: .n :: []), .reg (.n :: []), .br true, .reg (arD2_13 a0), .reg (.n :: .call (vi r3381) :: .n :: []), .reg (.n :: .n :: []), .br false, .reg (.n :: .n :: []), .reg (.n :: []), .br true, .reg (arD2_14 a0), .reg (.n :: .call (vi r3387) :: .n :: []), .reg (.n :: .n :: []), .br false, .reg (.n :: .n :: []), .reg (.n :: []), .br false, .reg (.n :: [])]) (fr := true) (by kernel_rfl) (an (an (ti trivial) (an (an (ti (ti (ti trivial))) (an (an (ti trivial) (an (an (show (decide ((0 : Int) < 4)) = true from (decide_eq_true (by decide))) trivial) (an (an (an e3367 (an e3368 (ti trivial))) (an (ti (an e3371 (ti trivial))) (an (ti (ti trivial)) (an (not_f (decide_eq_true h3372)) trivial)))) (ti (ti trivial))))) (an (an (ti trivial) (an (an (show (decide ((1 : Int) < 4)) = true from (decide_eq_true (by decide))) trivial) (an (an (an e3373 (an e3374 (ti trivial))) (an (ti (an e3377 (ti trivial))) (an (ti (ti trivial)) (an (not_f (decide_eq_true h3378)) trivial)))) (ti (ti trivial))))) (an (an (ti trivial) (an (an (show (decide ((2 : Int) < 4)) = true from (decide_eq_true (by decide))) trivial) (an (an (an e3379 (an e3380 (ti trivial))) (an (ti (an e3383 (ti trivial))) (an (ti (ti trivial)) (an (not_f (decide_eq_true h3384)) trivial)))) (ti (ti trivial))))) (an (an (ti trivial) (an (an (show (decide ((3 : Int) < 4)) = true from (decide_eq_true (by decide))) trivial) (an (an (an e3385 (an e3386 (ti trivial))) (an (ti (an e3389 (ti trivial))) (an (ti (ti trivial)) (an (not_f (decide_eq_true h3390)) trivial)))) (ti (ti trivial))))) (an (ti trivial) (an (show (decide ((4 : Int) < 4)) = false from (decide_eq_false (by decide))) trivial))))))) (an (ti trivial) trivial))) (ti trivial)) (Wv.refl _)
    ·injection h with h; subst h
     exact fun_ok pm pn Go.Proofs.Try.func49 (r0 := vi r3387) (ans := [.reg (.n :: []), .reg (nN 3 []), .unr 5, .reg (.n :: []), .br true, .reg (arD2_11 a0), .reg (.n :: .call (vi r3369) :: .n :: []), .reg (.n :: .n :: []), .br false, .reg (.n :: .n :: []), .reg (.n :: []), .br true, .reg (arD2_12 a0), .reg (.n :: .call (vi r3375) :: .n :: []), .reg (.n :: .n :: []), .br false, .reg (.n :: .n :: []), .reg (.n :: []), .br true, .reg (arD2_13 a0), .reg (.n :: .call (vi r3381) :: .n :: []), .reg (.n :: .n :: []), .br false, .reg (.n :: .n :: []), .reg (.n :: []), .br true, .reg (arD2_14 a0), .reg (.n :: .call (vi r3387) :: .n :: []), .reg (.n :: .n :: []), .br true, .reg (.n :: .n :: [])]) (fr := true) (by kernel_rfl) (an (an (ti trivial) (an (ti (ti (ti trivial))) (an (an (ti trivial) (an (an (show (decide ((0 : Int) < 4)) = true from (decide_eq_true (by decide))) trivial) (an (an (an e3367 (an e3368 (ti trivial))) (an (ti (an e3371 (ti trivial))) (an (ti (ti trivial)) (an (not_f (decide_eq_true h3372)) trivial)))) (ti (ti trivial))))) (an (an (ti trivial) (an (an (show (decide ((1 : Int) < 4)) = true from (decide_eq_true (by decide))) trivial) (an (an (an e3373 (an e3374 (ti trivial))) (an (ti (an e3377 (ti trivial))) (an (ti (ti trivial)) (an (not_f (decide_eq_true h3378)) trivial)))) (ti (ti trivial))))) (an (an (ti trivial) (an (an (show (decide ((2 : Int) < 4)) = true from (decide_eq_true (by decide))) trivial) (an (an (an e3379 (an e3380 (ti trivial))) (an (ti (an e3383 (ti trivial))) (an (ti (ti trivial)) (an (not_f (decide_eq_true h3384)) trivial)))) (ti (ti trivial))))) (an (ti trivial) (an (an (show (decide ((3 : Int) < 4)) = true from (decide_eq_true (by decide))) trivial) (an (an e3385 (an e3386 (ti trivial))) (an (ti (an e3389 (ti trivial))) (an (ti (ti trivial)) (an (not_t (decide_eq_false h3390)) (an (ti (ti trivial)) trivial)))))))))))) (ti trivial)) (Wv.refl _)
   ·injection h with h; subst h
    exact fun_ok pm pn Go.Proofs.Try.func49 (r0 := vi r3381) (ans := [.reg (.n :: []), .reg (nN 3 []), .unr 4, .reg (.n :: []), .br true, .reg (arD2_11 a0), .reg (.n :: .call (vi r3369) :: .n :: []), .reg (.n :: .n :: []), .br false, .reg (.n :: .n :: []), .reg (.n :: []), .br true, .reg (arD2_12 a0), .reg (.n :: .call (vi r3375) :: .n :: []), .reg (.n :: .n :: []), .br false, .reg (.n :: .n :: []), .reg (.n :: []), .br true, .reg (arD2_13 a0), .reg (.n :: .call (vi r3381) :: .n :: []), .reg (.n :: .n :: []), .br true, .reg (.n :: .n :: [])]) (fr := true) (by kernel_rfl) (an (an (ti trivial) (an (ti (ti (ti trivial))) (an (an (ti trivial) (an (an (show (decide ((0 : Int) < 4)) = true from (decide_eq_true (by decide))) trivial) (an (an (an e3367 (an e3368 (ti trivial))) (an (ti (an e3371 (ti trivial))) (an (ti (ti trivial)) (an (not_f (decide_eq_true h3372)) trivial)))) (ti (ti trivial))))) (an (an (ti trivial) (an (an (show (decide ((1 : Int) < 4)) = true from (decide_eq_true (by decide))) trivial) (an (an (an e3373 (an e3374 (ti trivial))) (an (ti (an e3377 (ti trivial))) (an (ti (ti trivial)) (an (not_f (decide_eq_true h3378)) trivial)))) (ti (ti trivial))))) (an (ti trivial) (an (an (show (decide ((2 : Int) < 4)) = true from (decide_eq_true (by decide))) trivial) (an (an e3379 (an e3380 (ti trivial))) (an (ti (an e3383 (ti trivial))) (an (ti (ti trivial)) (an (not_t (decide_eq_false h3384)) (an (ti (ti trivial)) trivial))))))))))) (ti trivial)) (Wv.refl _)
  ·injection h with h; subst h
   exact fun_ok pm pn Go.Proofs.Try.func49 (r0 := vi r3375) (ans := [.reg (.n :: []), .reg (nN 3 []), .unr 3, .reg (.n :: []), .br true, .reg (arD2_11 a0), .reg (.n :: .call (vi r3369) :: .n :: []), .reg (.n :: .n :: []), .br false, .reg (.n :: .n :: []), .reg (.n :: []), .br true, .reg (arD2_12 a0), .reg (.n :: .call (vi r3375) :: .n :: []), .reg (.n :: .n :: []), .br true, .reg (.n :: .n :: [])]) (fr := true) (by kernel_rfl) (an (an (ti trivial) (an (ti (ti (ti trivial))) (an (an (ti trivial) (an (an (show (decide ((0 : Int) < 4)) = true from (decide_eq_true (by decide))) trivial) (an (an (an e3367 (an e3368 (ti trivial))) (an (ti (an e3371 (ti trivial))) (an (ti (ti trivial)) (an (not_f (decide_eq_true h3372)) trivial)))) (ti (ti trivial))))) (an (ti trivial) (an (an (show (decide ((1 : Int) < 4)) = true from (decide_eq_true (by decide))) trivial) (an (an e3373 (an e3374 (ti trivial))) (an (ti (an e3377 (ti trivial))) (an (ti (ti trivial)) (an (not_t (decide_eq_false h3378)) (an (ti (ti trivial)) trivial)))))))))) (ti trivial)) (Wv.refl _)
 ·injection h with h; subst h
  exact fun_ok pm pn Go.Proofs.Try.func49 (r0 := vi r3369) (ans := [.reg (.n :: []), .reg (nN 3 []), .unr 2, .reg (.n :: []), .br true, .reg (arD2_11 a0), .reg (.n :: .call (vi r3369) :: .n :: []), .reg (.n :: .n :: []), .br true, .reg (.n :: .n :: [])]) (fr := true) (by kernel_rfl) (an (an (ti trivial) (an (ti (ti (ti trivial))) (an (ti trivial) (an (an (show (decide ((0 : Int) < 4)) = true from (decide_eq_true (by decide))) trivial) (an (an e3367 (an e3368 (ti trivial))) (an (ti (an e3371 (ti trivial))) (an (ti (ti trivial)) (an (not_t (decide_eq_false h3372)) (an (ti (ti trivial)) trivial))))))))) (ti trivial)) (Wv.refl _)
theorem eqD2_4 (z0 : (List SStroke)) (z1 : ((List Int) × (List Int) × (List SStroke))) (z2 : ((List Int) × (List Int) × Int × (List SStroke))) (z3 : (Int × ((List SStroke) × (List Int) × (List Int) × Int × Int))) : [VV.tr ([VV.fn 89 [VV.tp [VV.tr (List.flatMap c_SStroke ((z0, z1, z2, z3).1)) (((z0, z1, z2, z3).1).length)] 0], VV.fn 91 [VV.tp [VV.tr (List.map vi (((z0, z1, z2, z3).2.1).1)) ((((z0, z1, z2, z3).2.1).1).length), VV.tr (List.map vi (((z0, z1, z2, z3).2.1).2.1)) ((((z0, z1, z2, z3).2.1).2.1).length)] 0, VV.tp [VV.tr (List.flatMap c_SStroke (((z0, z1, z2, z3).2.1).2.2)) ((((z0, z1, z2, z3).2.1).2.2).length)] 0], VV.fn 100 [VV.tp [VV.tr (List.map vi (((z0, z1, z2, z3).2.2.1).1)) ((((z0, z1, z2, z3).2.2.1).1).length), VV.tr (List.map vi (((z0, z1, z2, z3).2.2.1).2.1)) ((((z0, z1, z2, z3).2.2.1).2.1).length), vi (((z0, z1, z2, z3).2.2.1).2.2.1)] 0, VV.tp [VV.tr (List.flatMap c_SStroke (((z0, z1, z2, z3).2.2.1).2.2.2)) ((((z0, z1, z2, z3).2.2.1).2.2.2).length)] 0], VV.fn 117 [VV.tp [vi (((z0, z1, z2, z3).2.2.2).1)] 0, VV.tp [VV.fn 101 [VV.tp [VV.tr (List.flatMap c_SStroke ((((z0, z1, z2, z3).2.2.2).2).1)) (((((z0, z1, z2, z3).2.2.2).2).1).length)] 0, VV.tp [VV.tr (List.map vi ((((z0, z1, z2, z3).2.2.2).2).2.1)) (((((z0, z1, z2, z3).2.2.2).2).2.1).length), VV.tr (List.map vi ((((z0, z1, z2, z3).2.2.2).2).2.2.1)) (((((z0, z1, z2, z3).2.2.2).2).2.2.1).length), vi ((((z0, z1, z2, z3).2.2.2).2).2.2.2.1)] 0, VV.tp [vi ((((z0, z1, z2, z3).2.2.2).2).2.2.2.2)] 0]] 0]]) 4] = [VV.tr (List.drop 0 (List.map unfr [VV.fn 89 [VV.tp [VV.tr (List.flatMap c_SStroke z0) z0.length] 0], VV.fn 91 [VV.tp [VV.tr (List.map vi z1.1) z1.1.length, VV.tr (List.map vi z1.2.1) z1.2.1.length] 0, VV.tp [VV.tr (List.flatMap c_SStroke z1.2.2) z1.2.2.length] 0], VV.fn 100 [VV.tp [VV.tr (List.map vi z2.1) z2.1.length, VV.tr (List.map vi z2.2.1) z2.2.1.length, vi z2.2.2.1] 0, VV.tp [VV.tr (List.flatMap c_SStroke z2.2.2.2) z2.2.2.2.length] 0], VV.fn 117 [VV.tp [vi z3.1] 0, VV.tp [VV.fn 101 [VV.tp [VV.tr (List.flatMap c_SStroke z3.2.1) z3.2.1.length] 0, VV.tp [VV.tr (List.map vi z3.2.2.1) z3.2.2.1.length, VV.tr (List.map vi z3.2.2.2.1) z3.2.2.2.1.length, vi z3.2.2.2.2.1] 0, VV.tp [vi z3.2.2.2.2.2] 0]] 0]])) 4] := by first | rfl | (simp only [drop0, unfr_vi, List.map_cons, List.map_nil, un_i, un_tr, List.length_map, List.length_cons, List.length_nil, unfr_c_SStroke]; done) | (simp only [drop0, unfr_vi, List.map_cons, List.map_nil, un_i, un_tr, List.length_map, List.length_cons, List.length_nil, unfr_c_SStroke]; rfl) | (simp only [drop0, unfr_vi, List.map_cons, List.map_nil, un_i, un_tr, List.length_map, List.length_cons, List.length_nil, unfr_c_SStroke, c_SStroke, List.length_cons, List.length_nil, List.length_append]; done)
def arD2_15 (z0 : SGrindProof) (z1 : Int) (z2 : SGrindDemand) : List Ans := (nN 5 (.v (vi (z0.Low.getD z1.toNat 0)) :: nN 4 (.v (vi (z2.Low.getD z1.toNat 0)) :: nN 5 (.v (vi (z0.High.getD z1.toNat 0)) :: nN 4 (.v (vi (z2.High.getD z1.toNat 0)) :: nN 4 [])))))
def ngrind_boundTimesDen_l0_0_h (a0 : SGrindDemand) (a1 : SGrindProof) (x10 : Int) (x5 : Int) : VS := ⟨mkA [(2, VV.pt 0 0), (3, VV.pt 1 0), (5, vi x5), (9, vi (a0.Low.length : Int)), (10, vi x10)], [some ⟨true, 1, c_SGrindDemand a0⟩, some ⟨true, 1, c_SGrindProof a1⟩], .nil⟩
def ngrind_boundTimesDen_l0_0_e0 (a0 : SGrindDemand) (a1 : SGrindProof) (r : Int) : VS := ⟨mkA [(5, vi r)], [], .nil⟩
def ngrind_boundTimesDen_l0_0 (k : Nat) (a0 : SGrindDemand) (a1 : SGrindProof) : Nat -> Int -> Int -> Option (Int)
 | 0, _, _ => none
 | fuel + 1, x10, x5 => if x10 < (a0.Low.length : Int) then (if 0 <= x10 /\ x10 < (a1.Low.length : Int) then (if 0 <= x10 /\ x10 < (a0.Low.length : Int) then (if 0 <= x10 /\ x10 < (a1.High.length : Int) then (if 0 <= x10 /\ x10 < (a0.High.length : Int) then (ngrind_boundTimesDen_l0_0 k a0 a1 fuel (w64 (x10 + 1)) (w64 (x5 + (w64 ((w64 ((a1.Low.getD x10.toNat 0) * (a0.Low.getD x10.toNat 0))) - (w64 ((a1.High.getD x10.toNat 0) * (a0.High.getD x10.toNat 0)))))))) else none) else none) else none) else none) else (some x5)
theorem ngrind_boundTimesDen_l0_0_ok (k : Nat) (a0 : SGrindDemand) (a1 : SGrindProof) : ∀ (fuel : Nat) (x10 : Int) (x5 : Int) (r : Int), ngrind_boundTimesDen_l0_0 k a0 a1 fuel x10 x5 = some r -> (VLoop none Go.Proofs.Try.prog (szF Go.Proofs.Try.f75) (bodyOf Go.Proofs.Try.f75 0) (ngrind_boundTimesDen_l0_0_h a0 a1 x10 x5) (.exit 0) (ngrind_boundTimesDen_l0_0_e0 a0 a1 r)) := by
 intro fuel
 induction fuel with
 | zero => intro x10 x5 r h; rw [ngrind_boundTimesDen_l0_0.eq_1] at h; cases h
 | succ fuel ih =>
  intro x10 x5 r h
  rw [ngrind_boundTimesDen_l0_0.eq_2] at h
  rcases ifs h with ⟨h3449, h⟩ | ⟨h3449, h⟩
  ·obtain ⟨h3450, h⟩ := ifn h
   have e3451 := (show loadL Go.Proofs.Try.prog 3 (x10.toNat * 1) (List.map vi a1.Low) = some (vi (a1.Low.getD x10.toNat 0)) from ld_map ag3 vi a1.Low 0 h3450 (by omega))
   obtain ⟨h3452, h⟩ := ifn h
   have e3453 := (show loadL Go.Proofs.Try.prog 3 (x10.toNat * 1) (List.map vi a0.Low) = some (vi (a0.Low.getD x10.toNat 0)) from ld_map ag3 vi a0.Low 0 h3452 (by omega))
   obtain ⟨h3454, h⟩ := ifn h
   have e3455 := (show loadL Go.Proofs.Try.prog 3 (x10.toNat * 1) (List.map vi a1.High) = some (vi (a1.High.getD x10.toNat 0)) from ld_map ag3 vi a1.High 0 h3454 (by omega))
   obtain ⟨h3456, h⟩ := ifn h
   have e3457 := (show loadL Go.Proofs.Try.prog 3 (x10.toNat * 1) (List.map vi a0.High) = some (vi (a0.High.getD x10.toNat 0)) from ld_map ag3 vi a0.High 0 h3456 (by omega))
   have e3458 := (ti (ti (ti (ti (an h3450 (an e3451 (ti (ti (ti (an h3452 (an e3453 (ti (ti (ti (ti (an h3454 (an e3455 (ti (ti (ti (an h3456 (an e3457 (ti (ti (ti (ti trivial))))))))))))))))))))))))))
   have h2 := ih _ _ _ h
   obtain ⟨q, hv, hq⟩ := pkR (rd := none) (P := Go.Proofs.Try.prog) (fn := Go.Proofs.Try.f75) (k := 0) (s := (ngrind_boundTimesDen_l0_0_h a0 a1 x10 x5)) (ans := [.reg (.n :: []), .br true, .reg (.n :: .n :: []), .reg (arD2_15 a1 x10 a0), .reg (.n :: .n :: [])]) (c := ⟨[(2, none), (3, none), (5, none), (9, none), (10, none)], [none, none], []⟩) (e := .normal) (s1 := (ngrind_boundTimesDen_l0_0_h a0 a1 (w64 (x10 + 1)) (w64 (x5 + (w64 ((w64 ((a1.Low.getD x10.toNat 0) * (a0.Low.getD x10.toNat 0))) - (w64 ((a1.High.getD x10.toNat 0) * (a0.High.getD x10.toNat 0))))))))) (an (an (ti trivial) (an (an (decide_eq_true h3449) trivial) (an (an (ti (ti trivial)) e3458) (ti (ti trivial))))) (ti trivial)) (by kernel_rfl)
   exact round_next pm pn hv hq h2
  ·injection h with h; subst h
   exact round_stop (c := ⟨[(5, none)], [], []⟩) (s1 := (ngrind_boundTimesDen_l0_0_e0 a0 a1 x5)) pm pn (ans := [.reg (.n :: []), .br false]) (by kernel_rfl) (by intro e; cases e) (an (an (ti trivial) (an (decide_eq_false h3449) trivial)) (ti trivial))
def ngrind_boundTimesDen (k : Nat) (a0 : SGrindDemand) (a1 : SGrindProof) : Option Int :=
 (ngrind_boundTimesDen_l0_0 k a0 a1 k 0 0).bind fun r3460 => (some r3460)
theorem ngrind_boundTimesDen_ok (k : Nat) (a0 : SGrindDemand) (a1 : SGrindProof) (r : Int) (h : ngrind_boundTimesDen k a0 a1 = some r) : VC Go.Proofs.Try.prog 75 [VV.ag (c_SGrindDemand a0), VV.ag (c_SGrindProof a1)] (vi r) := by
 unfold ngrind_boundTimesDen at h
 obtain ⟨r3460, h3459, h⟩ := bs h
 have hph3459 := ngrind_boundTimesDen_l0_0_ok k a0 a1 _ _ _ _ h3459
 have e3461 := (an (ti trivial) (VRun.loop hph3459))
 injection h with h; subst h
 exact fun_ok pm pn Go.Proofs.Try.func75 (r0 := vi r3460) (ans := [.reg (nN 3 []), .reg (.n :: []), .reg (nN 4 []), .sub ⟨[(2, none), (3, none), (5, none), (9, none), (10, none)], [none, none], []⟩ (.exit 0) (ngrind_boundTimesDen_l0_0_e0 a0 a1 r3460), .reg (.n :: .n :: [])]) (fr := true) (by kernel_rfl) (an (an (ti (ti (ti trivial))) (an (ti trivial) (an (an (ti (ti (ti (ti trivial)))) e3461) (an (ti (ti trivial)) trivial)))) (ti trivial)) (Wv.refl _)
def arD2_16 (z0 : (List SStroke)) (z1 : ((List Int) × (List Int) × (List SStroke))) (z2 : ((List Int) × (List Int) × Int × (List SStroke))) (z3 : (Int × ((List SStroke) × (List Int) × (List Int) × Int × Int))) (z4 : Int) : List Ans := (.n :: .call (VV.fn 89 [VV.tp [VV.tr (List.flatMap c_SStroke z0) z0.length] 0]) :: .n :: .n :: .call (VV.fn 91 [VV.tp [VV.tr (List.map vi z1.1) z1.1.length, VV.tr (List.map vi z1.2.1) z1.2.1.length] 0, VV.tp [VV.tr (List.flatMap c_SStroke z1.2.2) z1.2.2.length] 0]) :: .n :: .n :: .call (VV.fn 100 [VV.tp [VV.tr (List.map vi z2.1) z2.1.length, VV.tr (List.map vi z2.2.1) z2.2.1.length, vi z2.2.2.1] 0, VV.tp [VV.tr (List.flatMap c_SStroke z2.2.2.2) z2.2.2.2.length] 0]) :: nN 4 (.call (VV.fn 117 [VV.tp [vi z3.1] 0, VV.tp [VV.fn 101 [VV.tp [VV.tr (List.flatMap c_SStroke z3.2.1) z3.2.1.length] 0, VV.tp [VV.tr (List.map vi z3.2.2.1) z3.2.2.1.length, VV.tr (List.map vi z3.2.2.2.1) z3.2.2.2.1.length, vi z3.2.2.2.2.1] 0, VV.tp [vi z3.2.2.2.2.2] 0]] 0]) :: .n :: .call (vi z4) :: .n :: []))
def ngrind_CheckProof (k : Nat) (a0 : (List SStroke)) (a1 : SGrindDemand) (a2 : SGrindProof) : Option (Int × Int) :=
 (ngrind_validStrokes k a0).bind fun r3465 => ((ngrind_validDemand k a0 a1).bind fun r3467 => ((ngrind_validWeights k a0 a2).bind fun r3469 => ((ngrind_pullsAtMost k a2.Den a0 a2).bind fun r3472 => ((ngrind_firstOf_c0_Lgrind_validStrokes_1_grind_validDemand_1_grind_validWeights_1_grind_each_1_grind_pullsAtMost_1 k (r3465, r3467, r3469, r3472)).bind fun r3475 => (if r3475 = 0 then ((ngrind_boundTimesDen k a1 a2).bind fun r3480 => (some (r3480, 0))) else (some (0, r3475)))))))
theorem ngrind_CheckProof_ok (k : Nat) (a0 : (List SStroke)) (a1 : SGrindDemand) (a2 : SGrindProof) (r : (Int × Int)) (h : ngrind_CheckProof k a0 a1 a2 = some r) : VC Go.Proofs.Try.prog 35 [VV.tr (List.flatMap c_SStroke a0) a0.length, VV.ag (c_SGrindDemand a1), VV.ag (c_SGrindProof a2)] (VV.tu [vi r.1, vi r.2]) := by
 unfold ngrind_CheckProof at h
 obtain ⟨r3465, h3466, h⟩ := bs h
 obtain ⟨r3467, h3468, h⟩ := bs h
 obtain ⟨r3469, h3470, h⟩ := bs h
 have e3471 := (ngrind_validWeights_ok k a0 a2 _ h3470)
 obtain ⟨r3472, h3473, h⟩ := bs h
 have e3474 := (ngrind_pullsAtMost_ok k a2.Den a0 a2 _ h3473)
 obtain ⟨r3475, h3476, h⟩ := bs h
 have e3477 := (VC.args (ngrind_firstOf_c0_Lgrind_validStrokes_1_grind_validDemand_1_grind_validWeights_1_grind_each_1_grind_pullsAtMost_1_ok k (r3465, r3467, r3469, r3472) _ h3476) (eqD2_4 r3465 r3467 r3469 r3472))
 have e3478 := (ti (an (ngrind_validStrokes_ok k a0 _ h3466) (ti (ti (an (ngrind_validDemand_ok k a0 a1 _ h3468) (ti (ti (an e3471 (ti (ti (ti (ti (an e3474 (ti (an e3477 (ti trivial))))))))))))))))
 rcases ifs h with ⟨h3479, h⟩ | ⟨h3479, h⟩
 ·obtain ⟨r3480, h3481, h⟩ := bs h
  have e3482 := (ngrind_boundTimesDen_ok k a1 a2 _ h3481)
  injection h with h; subst h
  exact fun_ok pm pn Go.Proofs.Try.func35 (r0 := VV.tu [vi r3480, vi 0]) (ans := [.reg (nN 4 []), .reg (arD2_16 r3465 r3467 r3469 r3472 r3475), .reg (.n :: .n :: []), .br false, .reg (.n :: .n :: .call (vi r3480) :: .n :: .n :: [])]) (fr := true) (by kernel_rfl) (an (an (ti (ti (ti (ti trivial)))) (an e3478 (an (an (ti (ti trivial)) (an (not_f (decide_eq_true h3479)) trivial)) (an (ti (ti (an e3482 (ti (ti trivial))))) trivial)))) (ti (ti trivial))) (Wv.refl _)
 ·injection h with h; subst h
  exact fun_ok pm pn Go.Proofs.Try.func35 (r0 := VV.tu [vi 0, vi r3475]) (ans := [.reg (nN 4 []), .reg (arD2_16 r3465 r3467 r3469 r3472 r3475), .reg (.n :: .n :: []), .br true, .reg (nN 3 [])]) (fr := true) (by kernel_rfl) (an (an (ti (ti (ti (ti trivial)))) (an e3478 (an (ti (ti trivial)) (an (not_t (decide_eq_false h3479)) (an (ti (ti (ti trivial))) trivial))))) (ti (ti trivial))) (Wv.refl _)
def arD2_17 (z0 : SGrindProof) (z1 : Int) (z2 : Bool) (z3 : Bool) : List Ans := (nN 4 (.v (vi (z0.Low.getD z1.toNat 0)) :: .call (vb z2) :: nN 6 (.v (vi (z0.High.getD z1.toNat 0)) :: .call (vb z3) :: .n :: .b false :: [])))
def arD2_18 (z0 : SGrindProof) (z1 : Int) (z2 : Bool) : List Ans := (nN 4 (.v (vi (z0.Low.getD z1.toNat 0)) :: .call (vb z2) :: .n :: .n :: nS 7 (.b true :: [])))
def nspeculumref04_WeightsErr_l0_0_h (a0 : SGrindProof) (a1 : Int) (x5 : Int) : VS := ⟨mkA [(1, vi a1), (2, VV.pt 0 0), (5, vi x5)], [some ⟨true, 1, c_SGrindProof a0⟩], .nil⟩
def nspeculumref04_WeightsErr_l0_0_e0 (a0 : SGrindProof) (a1 : Int) (r : Unit) : VS := ⟨mkA [(4, vi 2)], [], .nil⟩
def nspeculumref04_WeightsErr_l0_0_e1 (a0 : SGrindProof) (a1 : Int) (r : Unit) : VS := ⟨mkA [], [], .nil⟩
def nspeculumref04_WeightsErr_l0_0 (k : Nat) (a0 : SGrindProof) (a1 : Int) : Nat -> Int -> Option (Sum Unit Unit)
 | 0, _ => none
 | fuel + 1, x5 => if x5 < a1 then (if 0 <= x5 /\ x5 < (a0.Low.length : Int) then ((nspeculumbase_Within k (a0.Low.getD x5.toNat 0) 0 1000000000).bind fun r3592 => (if r3592 = true then (if 0 <= x5 /\ x5 < (a0.High.length : Int) then ((nspeculumbase_Within k (a0.High.getD x5.toNat 0) 0 1000000000).bind fun r3598 => (if r3598 = true then (nspeculumref04_WeightsErr_l0_0 k a0 a1 fuel (w64 (x5 + 1))) else (some (.inl ())))) else none) else (some (.inl ())))) else none) else (some (.inr ()))
theorem nspeculumref04_WeightsErr_l0_0_ok (k : Nat) (a0 : SGrindProof) (a1 : Int) : ∀ (fuel : Nat) (x5 : Int) (r : Sum Unit Unit), nspeculumref04_WeightsErr_l0_0 k a0 a1 fuel x5 = some r -> (match r with | .inl r => VLoop none Go.Proofs.Try.prog (szF Go.Proofs.Try.f77) (bodyOf Go.Proofs.Try.f77 0) (nspeculumref04_WeightsErr_l0_0_h a0 a1 x5) .ret (nspeculumref04_WeightsErr_l0_0_e0 a0 a1 r) | .inr r => VLoop none Go.Proofs.Try.prog (szF Go.Proofs.Try.f77) (bodyOf Go.Proofs.Try.f77 0) (nspeculumref04_WeightsErr_l0_0_h a0 a1 x5) (.exit 0) (nspeculumref04_WeightsErr_l0_0_e1 a0 a1 r)) := by
 intro fuel
 induction fuel with
 | zero => intro x5 r h; rw [nspeculumref04_WeightsErr_l0_0.eq_1] at h; cases h
 | succ fuel ih =>
  intro x5 r h
  rw [nspeculumref04_WeightsErr_l0_0.eq_2] at h
  rcases ifs h with ⟨h3589, h⟩ | ⟨h3589, h⟩
  ·obtain ⟨h3590, h⟩ := ifn h
   have e3591 := (show loadL Go.Proofs.Try.prog 3 (x5.toNat * 1) (List.map vi a0.Low) = some (vi (a0.Low.getD x5.toNat 0)) from ld_map ag3 vi a0.Low 0 h3590 (by omega))
   obtain ⟨r3592, h3593, h⟩ := bs h
   have e3594 := (nspeculumbase_Within_ok k (a0.Low.getD x5.toNat 0) 0 1000000000 _ h3593)
   rcases ifs h with ⟨h3595, h⟩ | ⟨h3595, h⟩
   ·obtain ⟨h3596, h⟩ := ifn h
    have e3597 := (an (not_f h3595) (show loadL Go.Proofs.Try.prog 3 (x5.toNat * 1) (List.map vi a0.High) = some (vi (a0.High.getD x5.toNat 0)) from ld_map ag3 vi a0.High 0 h3596 (by omega)))
    obtain ⟨r3598, h3599, h⟩ := bs h
    have e3600 := (an (not_f h3595) (nspeculumbase_Within_ok k (a0.High.getD x5.toNat 0) 0 1000000000 _ h3599))
    have e3601 := (ti (ti (ti (an h3590 (an e3591 (an e3594 (ti (ti (an (an (not_f h3595) trivial) (an (an (not_f h3595) trivial) (an (an (not_f h3595) trivial) (an (an (not_f h3595) h3596) (an e3597 (an e3600 (an (an (not_f h3595) trivial) (an (not_f h3595) trivial))))))))))))))))
    rcases ifs h with ⟨h3602, h⟩ | ⟨h3602, h⟩
    ·have h2 := ih _ _ h
     obtain ⟨q, hv, hq⟩ := pkR (rd := none) (P := Go.Proofs.Try.prog) (fn := Go.Proofs.Try.f77) (k := 0) (s := (nspeculumref04_WeightsErr_l0_0_h a0 a1 x5)) (ans := [.reg (nN 3 []), .br true, .reg (arD2_17 a0 x5 r3592 r3598), .br false, .reg (nN 3 [])]) (c := ⟨[(1, none), (2, none), (5, none)], [none], []⟩) (e := .normal) (s1 := (nspeculumref04_WeightsErr_l0_0_h a0 a1 (w64 (x5 + 1)))) (an (an (an (ti (ti (ti trivial))) (an (decide_eq_true h3589) trivial)) (an (an e3601 (an (not_f h3602) trivial)) (ti (ti (ti trivial))))) (ti trivial)) (by kernel_rfl)
     cases r with
     | inl r => exact round_next pm pn hv hq h2
     | inr r =>
      exact round_next pm pn hv hq h2
    ·injection h with h; subst h
     exact round_stop (c := ⟨[(4, none)], [], []⟩) (s1 := (nspeculumref04_WeightsErr_l0_0_e0 a0 a1 ())) pm pn (ans := [.reg (nN 3 []), .br true, .reg (arD2_17 a0 x5 r3592 r3598), .br true, .reg (.n :: [])]) (by kernel_rfl) (by intro e; cases e) (an (an (an (ti (ti (ti trivial))) (an (decide_eq_true h3589) trivial)) (an e3601 (an (not_t (bool_f h3602)) (an (ti trivial) trivial)))) (ti trivial))
   ·have e3603 := (ti (ti (ti (an h3590 (an e3591 (an e3594 (ti (ti (an (not_t (bool_f h3595)) (an (not_t (bool_f h3595)) (an (not_t (bool_f h3595)) (an (not_t (bool_f h3595)) (an (not_t (bool_f h3595)) (an (not_t (bool_f h3595)) (an (not_t (bool_f h3595)) (an (not_t (bool_f h3595)) trivial))))))))))))))))
    injection h with h; subst h
    exact round_stop (c := ⟨[(4, none)], [], []⟩) (s1 := (nspeculumref04_WeightsErr_l0_0_e0 a0 a1 ())) pm pn (ans := [.reg (nN 3 []), .br true, .reg (arD2_18 a0 x5 r3592), .br true, .reg (.n :: [])]) (by kernel_rfl) (by intro e; cases e) (an (an (an (ti (ti (ti trivial))) (an (decide_eq_true h3589) trivial)) (an e3603 (an rt (an (ti trivial) trivial)))) (ti trivial))
  ·injection h with h; subst h
   exact round_stop (c := ⟨[], [], []⟩) (s1 := (nspeculumref04_WeightsErr_l0_0_e1 a0 a1 ())) pm pn (ans := [.reg (nN 3 []), .br false]) (by kernel_rfl) (by intro e; cases e) (an (an (ti (ti (ti trivial))) (an (decide_eq_false h3589) trivial)) (ti trivial))
def nspeculumref04_WeightsErr (k : Nat) (a0 : SGrindProof) (a1 : Int) : Option Int :=
 if (a0.Low.length : Int) = a1 then (if (a0.High.length : Int) = a1 then ((nspeculumbase_Within k a0.Den 1 10000000).bind fun r3555 => (if r3555 = true then ((nspeculumref04_WeightsErr_l0_0 k a0 a1 k 0).bind fun r3605 => (match r3605 with | .inl r3606 => (some 2) | .inr r3607 => (some 0))) else (some 2))) else (some 10)) else (some 10)
theorem nspeculumref04_WeightsErr_ok (k : Nat) (a0 : SGrindProof) (a1 : Int) (r : Int) (h : nspeculumref04_WeightsErr k a0 a1 = some r) : VC Go.Proofs.Try.prog 77 [VV.ag (c_SGrindProof a0), vi a1] (vi r) := by
 unfold nspeculumref04_WeightsErr at h
 rcases ifs h with ⟨h3547, h⟩ | ⟨h3547, h⟩
 ·have e3548 := (an (not_f (decide_eq_true h3547)) trivial)
  have e3549 := (an (not_f (decide_eq_true h3547)) trivial)
  have e3550 := (an (not_f (decide_eq_true h3547)) trivial)
  have e3551 := (an (not_f (decide_eq_true h3547)) trivial)
  have e3552 := (an (not_f (decide_eq_true h3547)) trivial)
  have e3553 := (ti (ti (ti (ti (ti (ti (an e3548 (an e3549 (an e3550 (an e3551 (an e3552 (an (not_f (decide_eq_true h3547)) trivial))))))))))))
  rcases ifs h with ⟨h3554, h⟩ | ⟨h3554, h⟩
  ·obtain ⟨r3555, h3556, h⟩ := bs h
   have e3557 := (nspeculumbase_Within_ok k a0.Den 1 10000000 _ h3556)
   rcases ifs h with ⟨h3558, h⟩ | ⟨h3558, h⟩
   ·obtain ⟨r3605, h3604, h⟩ := bs h
    have hph3604 := nspeculumref04_WeightsErr_l0_0_ok k a0 a1 _ _ _ h3604
    cases r3605 with
    | inl r3606 =>
     dsimp only at h
     have e3608 := (an (ti trivial) (VRun.loop hph3604))
     injection h with h; subst h
     exact fun_ok pm pn Go.Proofs.Try.func77 (r0 := vi 2) (ans := [.reg (.n :: .n :: []), .reg (nN 11 (.b false :: [])), .br false, .reg (.n :: .n :: .call (vb r3555) :: .n :: []), .br false, .reg (.n :: []), .sub ⟨[(1, none), (2, none), (5, none)], [none], []⟩ .ret (nspeculumref04_WeightsErr_l0_0_e0 a0 a1 r3606)]) (fr := true) (by kernel_rfl) (an (an (ti (ti trivial)) (an (an e3553 (an (not_f (decide_eq_true h3554)) trivial)) (an (an (ti (ti (an e3557 (ti trivial)))) (an (not_f h3558) trivial)) (an (ti trivial) e3608)))) (ti trivial)) (Wv.refl _)
    | inr r3607 =>
     dsimp only at h
     have e3609 := (an (ti trivial) (VRun.loop hph3604))
     injection h with h; subst h
     exact fun_ok pm pn Go.Proofs.Try.func77 (r0 := vi 0) (ans := [.reg (.n :: .n :: []), .reg (nN 11 (.b false :: [])), .br false, .reg (.n :: .n :: .call (vb r3555) :: .n :: []), .br false, .reg (.n :: []), .sub ⟨[(1, none), (2, none), (5, none)], [none], []⟩ (.exit 0) (nspeculumref04_WeightsErr_l0_0_e1 a0 a1 r3607), .reg (.n :: [])]) (fr := true) (by kernel_rfl) (an (an (ti (ti trivial)) (an (an e3553 (an (not_f (decide_eq_true h3554)) trivial)) (an (an (ti (ti (an e3557 (ti trivial)))) (an (not_f h3558) trivial)) (an (an (ti trivial) e3609) (an (ti trivial) trivial))))) (ti trivial)) (Wv.refl _)
   ·injection h with h; subst h
    exact fun_ok pm pn Go.Proofs.Try.func77 (r0 := vi 2) (ans := [.reg (.n :: .n :: []), .reg (nN 11 (.b false :: [])), .br false, .reg (.n :: .n :: .call (vb r3555) :: .n :: []), .br true, .reg (.n :: [])]) (fr := true) (by kernel_rfl) (an (an (ti (ti trivial)) (an (an e3553 (an (not_f (decide_eq_true h3554)) trivial)) (an (ti (ti (an e3557 (ti trivial)))) (an (not_t (bool_f h3558)) (an (ti trivial) trivial))))) (ti trivial)) (Wv.refl _)
  ·injection h with h; subst h
   exact fun_ok pm pn Go.Proofs.Try.func77 (r0 := vi 10) (ans := [.reg (.n :: .n :: []), .reg (nN 11 (.b false :: [])), .br true, .reg (.n :: [])]) (fr := true) (by kernel_rfl) (an (an (ti (ti trivial)) (an e3553 (an (not_t (decide_eq_false h3554)) (an (ti trivial) trivial)))) (ti trivial)) (Wv.refl _)
 ·have e3610 := (ti (ti (ti (ti (ti (ti (an (not_t (decide_eq_false h3547)) (an (not_t (decide_eq_false h3547)) (an (not_t (decide_eq_false h3547)) (an (not_t (decide_eq_false h3547)) (an (not_t (decide_eq_false h3547)) (an (not_t (decide_eq_false h3547)) trivial))))))))))))
  injection h with h; subst h
  exact fun_ok pm pn Go.Proofs.Try.func77 (r0 := vi 10) (ans := [.reg (.n :: .n :: []), .reg (nN 6 (nS 5 (.b true :: []))), .br true, .reg (.n :: [])]) (fr := true) (by kernel_rfl) (an (an (ti (ti trivial)) (an e3610 (an rt (an (ti trivial) trivial)))) (ti trivial)) (Wv.refl _)
def arD2_20 (z0 : (List SStroke)) (z1 : Int) (z2 : Int) (z3 : SGrindProof) : List Ans := (nN 5 (.v (VV.tr (List.map vi ((z0.getD z1.toNat default).Wear)) (((z0.getD z1.toNat default).Wear).length)) :: .n :: .n :: .v (vi (((z0.getD z1.toNat default).Wear).getD z2.toNat 0)) :: nN 4 (.v (vi (z3.Low.getD z2.toNat 0)) :: nN 4 (.v (vi (z3.High.getD z2.toNat 0)) :: nN 4 []))))
def nspeculumref04_pull_l1_0_h (a0 : (List SStroke)) (a1 : SGrindProof) (x5 : Int) (x6 : Int) (x7 : Int) (x8 : Int) : VS := ⟨mkA [(0, VV.tr (List.flatMap c_SStroke a0) a0.length), (3, VV.pt 0 0), (5, vi x5), (6, vi x6), (7, vi x7), (8, vi x8)], [some ⟨true, 1, c_SGrindProof a1⟩], .nil⟩
def nspeculumref04_pull_l1_0_e0 (a0 : (List SStroke)) (a1 : SGrindProof) (x5 : Int) (x6 : Int) (r : Int) : VS := ⟨mkA [(0, VV.tr (List.flatMap c_SStroke a0) a0.length), (3, VV.pt 0 0), (5, vi x5), (6, vi x6), (7, vi r)], [some ⟨true, 1, c_SGrindProof a1⟩], .nil⟩
def nspeculumref04_pull_l1_0 (k : Nat) (a0 : (List SStroke)) (a1 : SGrindProof) (x5 : Int) (x6 : Int) : Nat -> Int -> Int -> Option (Int)
 | 0, _, _ => none
 | fuel + 1, x7, x8 => if x8 < (a1.Low.length : Int) then (if 0 <= x6 /\ x6 < (a0.length : Int) then (if 0 <= x8 /\ x8 < (((a0.getD x6.toNat default).Wear).length : Int) then (if 0 <= x8 /\ x8 < (a1.Low.length : Int) then (if 0 <= x8 /\ x8 < (a1.High.length : Int) then (nspeculumref04_pull_l1_0 k a0 a1 x5 x6 fuel (w64 (x7 + (w64 ((((a0.getD x6.toNat default).Wear).getD x8.toNat 0) * (w64 ((a1.Low.getD x8.toNat 0) - (a1.High.getD x8.toNat 0))))))) (w64 (x8 + 1))) else none) else none) else none) else none) else (some x7)
theorem nspeculumref04_pull_l1_0_ok (k : Nat) (a0 : (List SStroke)) (a1 : SGrindProof) (x5 : Int) (x6 : Int) : ∀ (fuel : Nat) (x7 : Int) (x8 : Int) (r : Int), nspeculumref04_pull_l1_0 k a0 a1 x5 x6 fuel x7 x8 = some r -> (VLoop none Go.Proofs.Try.prog (szF Go.Proofs.Try.f78) (bodyOf Go.Proofs.Try.f78 1) (nspeculumref04_pull_l1_0_h a0 a1 x5 x6 x7 x8) (.exit 2) (nspeculumref04_pull_l1_0_e0 a0 a1 x5 x6 r)) := by
 intro fuel
 induction fuel with
 | zero => intro x7 x8 r h; rw [nspeculumref04_pull_l1_0.eq_1] at h; cases h
 | succ fuel ih =>
  intro x7 x8 r h
  rw [nspeculumref04_pull_l1_0.eq_2] at h
  rcases ifs h with ⟨h3825, h⟩ | ⟨h3825, h⟩
  ·obtain ⟨h3826, h⟩ := ifn h
   have e3827 := (show loadL Go.Proofs.Try.prog 23 (x6.toNat * 2 + 1) (List.flatMap c_SStroke a0) = some (VV.tr (List.map vi ((a0.getD x6.toNat default).Wear)) (((a0.getD x6.toNat default).Wear).length)) from (ld_flat ag23 c_SStroke 2 1 len_c_SStroke (by omega) a0 default h3826 (by omega)).trans rfl)
   obtain ⟨h3828, h⟩ := ifn h
   have e3829 := (show loadL Go.Proofs.Try.prog 3 (x8.toNat * 1) (List.map vi ((a0.getD x6.toNat default).Wear)) = some (vi (((a0.getD x6.toNat default).Wear).getD x8.toNat 0)) from ld_map ag3 vi ((a0.getD x6.toNat default).Wear) 0 h3828 (by omega))
   obtain ⟨h3830, h⟩ := ifn h
   have e3831 := (show loadL Go.Proofs.Try.prog 3 (x8.toNat * 1) (List.map vi a1.Low) = some (vi (a1.Low.getD x8.toNat 0)) from ld_map ag3 vi a1.Low 0 h3830 (by omega))
   obtain ⟨h3832, h⟩ := ifn h
   have e3833 := (show loadL Go.Proofs.Try.prog 3 (x8.toNat * 1) (List.map vi a1.High) = some (vi (a1.High.getD x8.toNat 0)) from ld_map ag3 vi a1.High 0 h3832 (by omega))
   have e3834 := (ti (ti (ti (an h3826 (ti (an e3827 (ti (an h3828 (an e3829 (ti (ti (ti (an h3830 (an e3831 (ti (ti (ti (an h3832 (an e3833 (ti (ti (ti (ti trivial)))))))))))))))))))))))
   have h2 := ih _ _ _ h
   obtain ⟨q, hv, hq⟩ := pkR (rd := none) (P := Go.Proofs.Try.prog) (fn := Go.Proofs.Try.f78) (k := 1) (s := (nspeculumref04_pull_l1_0_h a0 a1 x5 x6 x7 x8)) (ans := [.reg (nN 5 []), .br true, .reg (arD2_20 a0 x6 x8 a1), .reg (nN 3 [])]) (c := ⟨[(0, none), (3, none), (5, none), (6, none), (7, none), (8, none)], [none], []⟩) (e := .normal) (s1 := (nspeculumref04_pull_l1_0_h a0 a1 x5 x6 (w64 (x7 + (w64 ((((a0.getD x6.toNat default).Wear).getD x8.toNat 0) * (w64 ((a1.Low.getD x8.toNat 0) - (a1.High.getD x8.toNat 0))))))) (w64 (x8 + 1)))) (an (an (an (ti (ti (ti (ti (ti trivial))))) (an (decide_eq_true h3825) trivial)) (an e3834 (ti (ti (ti trivial))))) (ti trivial)) (by kernel_rfl)
   exact round_next pm pn hv hq h2
  ·injection h with h; subst h
   exact round_stop (c := ⟨[(0, none), (3, none), (5, none), (6, none), (7, none)], [none], []⟩) (s1 := (nspeculumref04_pull_l1_0_e0 a0 a1 x5 x6 x7)) pm pn (ans := [.reg (nN 5 []), .br false]) (by kernel_rfl) (by intro e; cases e) (an (an (ti (ti (ti (ti (ti trivial))))) (an (decide_eq_false h3825) trivial)) (ti trivial))
def nspeculumref04_pull_l0_0_h (a0 : (List SStroke)) (a1 : SGrindProof) (x5 : Int) (x6 : Int) : VS := ⟨mkA [(0, VV.tr (List.flatMap c_SStroke a0) a0.length), (3, VV.pt 0 0), (5, vi x5), (6, vi x6)], [some ⟨true, 1, c_SGrindProof a1⟩], .nil⟩
def nspeculumref04_pull_l0_0_e0 (a0 : (List SStroke)) (a1 : SGrindProof) (r : Int) : VS := ⟨mkA [(5, vi r)], [], .nil⟩
def nspeculumref04_pull_l0_0 (k : Nat) (a0 : (List SStroke)) (a1 : SGrindProof) : Nat -> Int -> Int -> Option (Int)
 | 0, _, _ => none
 | fuel + 1, x5, x6 => if x6 < (a0.length : Int) then ((nspeculumref04_pull_l1_0 k a0 a1 x5 x6 k 0 0).bind fun r3836 => (if x6 = 0 then (nspeculumref04_pull_l0_0 k a0 a1 fuel r3836 (w64 (x6 + 1))) else (if x5 < r3836 then (nspeculumref04_pull_l0_0 k a0 a1 fuel r3836 (w64 (x6 + 1))) else (nspeculumref04_pull_l0_0 k a0 a1 fuel x5 (w64 (x6 + 1)))))) else (some x5)
theorem nspeculumref04_pull_l0_0_ok (k : Nat) (a0 : (List SStroke)) (a1 : SGrindProof) : ∀ (fuel : Nat) (x5 : Int) (x6 : Int) (r : Int), nspeculumref04_pull_l0_0 k a0 a1 fuel x5 x6 = some r -> (VLoop none Go.Proofs.Try.prog (szF Go.Proofs.Try.f78) (bodyOf Go.Proofs.Try.f78 0) (nspeculumref04_pull_l0_0_h a0 a1 x5 x6) (.exit 0) (nspeculumref04_pull_l0_0_e0 a0 a1 r)) := by
 intro fuel
 induction fuel with
 | zero => intro x5 x6 r h; rw [nspeculumref04_pull_l0_0.eq_1] at h; cases h
 | succ fuel ih =>
  intro x5 x6 r h
  rw [nspeculumref04_pull_l0_0.eq_2] at h
  rcases ifs h with ⟨h3804, h⟩ | ⟨h3804, h⟩
  ·obtain ⟨r3836, h3835, h⟩ := bs h
   have hph3835 := nspeculumref04_pull_l1_0_ok k a0 a1 x5 x6 _ _ _ _ h3835
   have e3837 := (an (ti trivial) (VRun.loop hph3835))
   rcases ifs h with ⟨h3838, h⟩ | ⟨h3838, h⟩
   ·have e3839 := (ti (ti (ti (an (decide_eq_true h3838) (an (decide_eq_true h3838) (an (decide_eq_true h3838) (an (decide_eq_true h3838) trivial)))))))
    have h2 := ih _ _ _ h
    obtain ⟨q, hv, hq⟩ := pkR (rd := none) (P := Go.Proofs.Try.prog) (fn := Go.Proofs.Try.f78) (k := 0) (s := (nspeculumref04_pull_l0_0_h a0 a1 x5 x6)) (ans := [.reg (nN 4 []), .br true, .reg (.n :: []), .reg (.n :: []), .sub ⟨[(0, none), (3, none), (5, none), (6, none), (7, none), (8, none)], [none], []⟩ (.exit 2) (nspeculumref04_pull_l1_0_e0 a0 a1 x5 x6 r3836), .reg (nN 3 (nS 3 (.b true :: []))), .br true, .reg (.n :: .n :: []), .reg (nN 3 [])]) (c := ⟨[(0, none), (3, none), (5, none), (6, none)], [none], []⟩) (e := .normal) (s1 := (nspeculumref04_pull_l0_0_h a0 a1 r3836 (w64 (x6 + 1)))) (an (an (an (ti (ti (ti (ti trivial)))) (an (decide_eq_true h3804) trivial)) (an (an (ti trivial) (an (an (ti trivial) e3837) (an e3839 (an rt (ti (ti trivial)))))) (ti (ti (ti trivial))))) (ti trivial)) (by kernel_rfl)
    exact round_next pm pn hv hq h2
   ·have e3840 := (ti (ti (ti (an (an (decide_eq_false h3838) trivial) (an (an (decide_eq_false h3838) trivial) (an (an (decide_eq_false h3838) trivial) (an (decide_eq_false h3838) trivial)))))))
    rcases ifs h with ⟨h3841, h⟩ | ⟨h3841, h⟩
    ·have h2 := ih _ _ _ h
     obtain ⟨q, hv, hq⟩ := pkR (rd := none) (P := Go.Proofs.Try.prog) (fn := Go.Proofs.Try.f78) (k := 0) (s := (nspeculumref04_pull_l0_0_h a0 a1 x5 x6)) (ans := [.reg (nN 4 []), .br true, .reg (.n :: []), .reg (.n :: []), .sub ⟨[(0, none), (3, none), (5, none), (6, none), (7, none), (8, none)], [none], []⟩ (.exit 2) (nspeculumref04_pull_l1_0_e0 a0 a1 x5 x6 r3836), .reg (nN 6 (.b false :: [])), .br true, .reg (.n :: .n :: []), .reg (nN 3 [])]) (c := ⟨[(0, none), (3, none), (5, none), (6, none)], [none], []⟩) (e := .normal) (s1 := (nspeculumref04_pull_l0_0_h a0 a1 r3836 (w64 (x6 + 1)))) (an (an (an (ti (ti (ti (ti trivial)))) (an (decide_eq_true h3804) trivial)) (an (an (ti trivial) (an (an (ti trivial) e3837) (an e3840 (an (decide_eq_true h3841) (ti (ti trivial)))))) (ti (ti (ti trivial))))) (ti trivial)) (by kernel_rfl)
     exact round_next pm pn hv hq h2
    ·have h2 := ih _ _ _ h
     obtain ⟨q, hv, hq⟩ := pkR (rd := none) (P := Go.Proofs.Try.prog) (fn := Go.Proofs.Try.f78) (k := 0) (s := (nspeculumref04_pull_l0_0_h a0 a1 x5 x6)) (ans := [.reg (nN 4 []), .br true, .reg (.n :: []), .reg (.n :: []), .sub ⟨[(0, none), (3, none), (5, none), (6, none), (7, none), (8, none)], [none], []⟩ (.exit 2) (nspeculumref04_pull_l1_0_e0 a0 a1 x5 x6 r3836), .reg (nN 6 (.b false :: [])), .br false, .reg (nN 3 [])]) (c := ⟨[(0, none), (3, none), (5, none), (6, none)], [none], []⟩) (e := .normal) (s1 := (nspeculumref04_pull_l0_0_h a0 a1 x5 (w64 (x6 + 1)))) (an (an (an (ti (ti (ti (ti trivial)))) (an (decide_eq_true h3804) trivial)) (an (an (ti trivial) (an (an (ti trivial) e3837) (an e3840 (an (decide_eq_false h3841) trivial)))) (ti (ti (ti trivial))))) (ti trivial)) (by kernel_rfl)
     exact round_next pm pn hv hq h2
  ·injection h with h; subst h
   exact round_stop (c := ⟨[(5, none)], [], []⟩) (s1 := (nspeculumref04_pull_l0_0_e0 a0 a1 x5)) pm pn (ans := [.reg (nN 4 []), .br false]) (by kernel_rfl) (by intro e; cases e) (an (an (ti (ti (ti (ti trivial)))) (an (decide_eq_false h3804) trivial)) (ti trivial))
def nspeculumref04_pull (k : Nat) (a0 : (List SStroke)) (a1 : SGrindProof) : Option Int :=
 (nspeculumref04_pull_l0_0 k a0 a1 k 0 0).bind fun r3843 => (some r3843)
theorem nspeculumref04_pull_ok (k : Nat) (a0 : (List SStroke)) (a1 : SGrindProof) (r : Int) (h : nspeculumref04_pull k a0 a1 = some r) : VC Go.Proofs.Try.prog 78 [VV.tr (List.flatMap c_SStroke a0) a0.length, VV.ag (c_SGrindProof a1)] (vi r) := by
 unfold nspeculumref04_pull at h
 obtain ⟨r3843, h3842, h⟩ := bs h
 have hph3842 := nspeculumref04_pull_l0_0_ok k a0 a1 _ _ _ _ h3842
 have e3844 := (an (ti trivial) (VRun.loop hph3842))
 injection h with h; subst h
 exact fun_ok pm pn Go.Proofs.Try.func78 (r0 := vi r3843) (ans := [.reg (.n :: .n :: []), .reg (.n :: []), .reg (.n :: []), .sub ⟨[(0, none), (3, none), (5, none), (6, none)], [none], []⟩ (.exit 0) (nspeculumref04_pull_l0_0_e0 a0 a1 r3843), .reg (.n :: .n :: [])]) (fr := true) (by kernel_rfl) (an (an (ti (ti trivial)) (an (ti trivial) (an (an (ti trivial) e3844) (an (ti (ti trivial)) trivial)))) (ti trivial)) (Wv.refl _)
def arD2_21 (z0 : SGrindProof) (z1 : Int) (z2 : SGrindDemand) : List Ans := (nN 5 (.v (vi (z0.Low.getD z1.toNat 0)) :: nN 4 (.v (vi (z2.Low.getD z1.toNat 0)) :: nN 6 (.v (vi (z0.High.getD z1.toNat 0)) :: nN 4 (.v (vi (z2.High.getD z1.toNat 0)) :: nN 3 [])))))
def nspeculumref04_Bound_l0_0_h (a0 : SGrindDemand) (a1 : SGrindProof) (x5 : Int) (x6 : Int) : VS := ⟨mkA [(2, VV.pt 0 0), (3, VV.pt 1 0), (5, vi x5), (6, vi x6)], [some ⟨true, 1, c_SGrindDemand a0⟩, some ⟨true, 1, c_SGrindProof a1⟩], .nil⟩
def nspeculumref04_Bound_l0_0_e0 (a0 : SGrindDemand) (a1 : SGrindProof) (r : Int) : VS := ⟨mkA [(5, vi r)], [], .nil⟩
def nspeculumref04_Bound_l0_0 (k : Nat) (a0 : SGrindDemand) (a1 : SGrindProof) : Nat -> Int -> Int -> Option (Int)
 | 0, _, _ => none
 | fuel + 1, x5, x6 => if x6 < (a1.Low.length : Int) then (if 0 <= x6 /\ x6 < (a1.Low.length : Int) then (if 0 <= x6 /\ x6 < (a0.Low.length : Int) then (if 0 <= x6 /\ x6 < (a1.High.length : Int) then (if 0 <= x6 /\ x6 < (a0.High.length : Int) then (nspeculumref04_Bound_l0_0 k a0 a1 fuel (w64 ((w64 (x5 + (w64 ((a1.Low.getD x6.toNat 0) * (a0.Low.getD x6.toNat 0))))) - (w64 ((a1.High.getD x6.toNat 0) * (a0.High.getD x6.toNat 0))))) (w64 (x6 + 1))) else none) else none) else none) else none) else (some x5)
theorem nspeculumref04_Bound_l0_0_ok (k : Nat) (a0 : SGrindDemand) (a1 : SGrindProof) : ∀ (fuel : Nat) (x5 : Int) (x6 : Int) (r : Int), nspeculumref04_Bound_l0_0 k a0 a1 fuel x5 x6 = some r -> (VLoop none Go.Proofs.Try.prog (szF Go.Proofs.Try.f79) (bodyOf Go.Proofs.Try.f79 0) (nspeculumref04_Bound_l0_0_h a0 a1 x5 x6) (.exit 0) (nspeculumref04_Bound_l0_0_e0 a0 a1 r)) := by
 intro fuel
 induction fuel with
 | zero => intro x5 x6 r h; rw [nspeculumref04_Bound_l0_0.eq_1] at h; cases h
 | succ fuel ih =>
  intro x5 x6 r h
  rw [nspeculumref04_Bound_l0_0.eq_2] at h
  rcases ifs h with ⟨h3902, h⟩ | ⟨h3902, h⟩
  ·obtain ⟨h3903, h⟩ := ifn h
   have e3904 := (show loadL Go.Proofs.Try.prog 3 (x6.toNat * 1) (List.map vi a1.Low) = some (vi (a1.Low.getD x6.toNat 0)) from ld_map ag3 vi a1.Low 0 h3903 (by omega))
   obtain ⟨h3905, h⟩ := ifn h
   have e3906 := (show loadL Go.Proofs.Try.prog 3 (x6.toNat * 1) (List.map vi a0.Low) = some (vi (a0.Low.getD x6.toNat 0)) from ld_map ag3 vi a0.Low 0 h3905 (by omega))
   obtain ⟨h3907, h⟩ := ifn h
   have e3908 := (show loadL Go.Proofs.Try.prog 3 (x6.toNat * 1) (List.map vi a1.High) = some (vi (a1.High.getD x6.toNat 0)) from ld_map ag3 vi a1.High 0 h3907 (by omega))
   obtain ⟨h3909, h⟩ := ifn h
   have e3910 := (show loadL Go.Proofs.Try.prog 3 (x6.toNat * 1) (List.map vi a0.High) = some (vi (a0.High.getD x6.toNat 0)) from ld_map ag3 vi a0.High 0 h3909 (by omega))
   have e3911 := (ti (ti (ti (ti (an h3903 (an e3904 (ti (ti (ti (an h3905 (an e3906 (ti (ti (ti (ti (ti (an h3907 (an e3908 (ti (ti (ti (an h3909 (an e3910 (ti (ti (ti trivial))))))))))))))))))))))))))
   have h2 := ih _ _ _ h
   obtain ⟨q, hv, hq⟩ := pkR (rd := none) (P := Go.Proofs.Try.prog) (fn := Go.Proofs.Try.f79) (k := 0) (s := (nspeculumref04_Bound_l0_0_h a0 a1 x5 x6)) (ans := [.reg (nN 5 []), .br true, .reg (arD2_21 a1 x6 a0), .reg (nN 3 [])]) (c := ⟨[(2, none), (3, none), (5, none), (6, none)], [none, none], []⟩) (e := .normal) (s1 := (nspeculumref04_Bound_l0_0_h a0 a1 (w64 ((w64 (x5 + (w64 ((a1.Low.getD x6.toNat 0) * (a0.Low.getD x6.toNat 0))))) - (w64 ((a1.High.getD x6.toNat 0) * (a0.High.getD x6.toNat 0))))) (w64 (x6 + 1)))) (an (an (an (ti (ti (ti (ti (ti trivial))))) (an (decide_eq_true h3902) trivial)) (an e3911 (ti (ti (ti trivial))))) (ti trivial)) (by kernel_rfl)
   exact round_next pm pn hv hq h2
  ·injection h with h; subst h
   exact round_stop (c := ⟨[(5, none)], [], []⟩) (s1 := (nspeculumref04_Bound_l0_0_e0 a0 a1 x5)) pm pn (ans := [.reg (nN 5 []), .br false]) (by kernel_rfl) (by intro e; cases e) (an (an (ti (ti (ti (ti (ti trivial))))) (an (decide_eq_false h3902) trivial)) (ti trivial))
def nspeculumref04_Bound (k : Nat) (a0 : SGrindDemand) (a1 : SGrindProof) : Option Int :=
 (nspeculumref04_Bound_l0_0 k a0 a1 k 0 0).bind fun r3913 => (some r3913)
theorem nspeculumref04_Bound_ok (k : Nat) (a0 : SGrindDemand) (a1 : SGrindProof) (r : Int) (h : nspeculumref04_Bound k a0 a1 = some r) : VC Go.Proofs.Try.prog 79 [VV.ag (c_SGrindDemand a0), VV.ag (c_SGrindProof a1)] (vi r) := by
 unfold nspeculumref04_Bound at h
 obtain ⟨r3913, h3912, h⟩ := bs h
 have hph3912 := nspeculumref04_Bound_l0_0_ok k a0 a1 _ _ _ _ h3912
 have e3914 := (an (ti trivial) (VRun.loop hph3912))
 injection h with h; subst h
 exact fun_ok pm pn Go.Proofs.Try.func79 (r0 := vi r3913) (ans := [.reg (nN 3 []), .reg (.n :: []), .reg (.n :: []), .sub ⟨[(2, none), (3, none), (5, none), (6, none)], [none, none], []⟩ (.exit 0) (nspeculumref04_Bound_l0_0_e0 a0 a1 r3913), .reg (.n :: .n :: [])]) (fr := true) (by kernel_rfl) (an (an (ti (ti (ti trivial))) (an (ti trivial) (an (an (ti trivial) e3914) (an (ti (ti trivial)) trivial)))) (ti trivial)) (Wv.refl _)
def nspeculumref04_CheckProof (k : Nat) (a0 : (List SStroke)) (a1 : SGrindDemand) (a2 : SGrindProof) : Option (Int × Int) :=
 (nspeculumref04_WeightsErr k a2 (a1.Low.length : Int)).bind fun r3918 => (if r3918 = 0 then ((nspeculumref04_pull k a0 a2).bind fun r3922 => (if a2.Den < r3922 then (some (0, 22)) else ((nspeculumref04_Bound k a1 a2).bind fun r3926 => (some (r3926, 0))))) else (some (0, r3918)))
theorem nspeculumref04_CheckProof_ok (k : Nat) (a0 : (List SStroke)) (a1 : SGrindDemand) (a2 : SGrindProof) (r : (Int × Int)) (h : nspeculumref04_CheckProof k a0 a1 a2 = some r) : VC Go.Proofs.Try.prog 38 [VV.tr (List.flatMap c_SStroke a0) a0.length, VV.ag (c_SGrindDemand a1), VV.ag (c_SGrindProof a2)] (VV.tu [vi r.1, vi r.2]) := by
 unfold nspeculumref04_CheckProof at h
 obtain ⟨r3918, h3919, h⟩ := bs h
 have e3920 := (nspeculumref04_WeightsErr_ok k a2 (a1.Low.length : Int) _ h3919)
 rcases ifs h with ⟨h3921, h⟩ | ⟨h3921, h⟩
 ·obtain ⟨r3922, h3923, h⟩ := bs h
  have e3924 := (nspeculumref04_pull_ok k a0 a2 _ h3923)
  rcases ifs h with ⟨h3925, h⟩ | ⟨h3925, h⟩
  ·injection h with h; subst h
   exact fun_ok pm pn Go.Proofs.Try.func38 (r0 := VV.tu [vi 0, vi 22]) (ans := [.reg (nN 4 []), .reg (nN 4 (.call (vi r3918) :: .n :: [])), .reg (.n :: .n :: []), .br false, .reg (.n :: .n :: .call (vi r3922) :: nN 3 []), .br true, .reg (.n :: .n :: [])]) (fr := true) (by kernel_rfl) (an (an (ti (ti (ti (ti trivial)))) (an (an (ti (ti (ti (ti (an e3920 (ti trivial)))))) (an (ti (ti trivial)) (an (not_f (decide_eq_true h3921)) trivial))) (an (ti (ti (an e3924 (ti (ti (ti trivial)))))) (an (decide_eq_true h3925) (an (ti (ti trivial)) trivial))))) (ti (ti trivial))) (Wv.refl _)
  ·obtain ⟨r3926, h3927, h⟩ := bs h
   have e3928 := (nspeculumref04_Bound_ok k a1 a2 _ h3927)
   injection h with h; subst h
   exact fun_ok pm pn Go.Proofs.Try.func38 (r0 := VV.tu [vi r3926, vi 0]) (ans := [.reg (nN 4 []), .reg (nN 4 (.call (vi r3918) :: .n :: [])), .reg (.n :: .n :: []), .br false, .reg (.n :: .n :: .call (vi r3922) :: nN 3 []), .br false, .reg (.n :: .n :: .call (vi r3926) :: .n :: .n :: [])]) (fr := true) (by kernel_rfl) (an (an (ti (ti (ti (ti trivial)))) (an (an (ti (ti (ti (ti (an e3920 (ti trivial)))))) (an (ti (ti trivial)) (an (not_f (decide_eq_true h3921)) trivial))) (an (an (ti (ti (an e3924 (ti (ti (ti trivial)))))) (an (decide_eq_false h3925) trivial)) (an (ti (ti (an e3928 (ti (ti trivial))))) trivial)))) (ti (ti trivial))) (Wv.refl _)
 ·injection h with h; subst h
  exact fun_ok pm pn Go.Proofs.Try.func38 (r0 := VV.tu [vi 0, vi r3918]) (ans := [.reg (nN 4 []), .reg (nN 4 (.call (vi r3918) :: .n :: [])), .reg (.n :: .n :: []), .br true, .reg (nN 3 [])]) (fr := true) (by kernel_rfl) (an (an (ti (ti (ti (ti trivial)))) (an (ti (ti (ti (ti (an e3920 (ti trivial)))))) (an (ti (ti trivial)) (an (not_t (decide_eq_false h3921)) (an (ti (ti (ti trivial))) trivial))))) (ti (ti trivial))) (Wv.refl _)
end Go.Proofs.Ytbaegoglpijnnab.Vg

import Derived.Test.YtbaegoglpijnnabK4
namespace Go.Proofs.Ytbaegoglpijnnab.Vg
set_option maxRecDepth 100000
set_option maxHeartbeats 4000000
set_option linter.unusedVariables false
set_option linter.unusedSimpArgs false
open Go Go.Proofs.Ytbaegoglpijnnab.Ev Go.Proofs.Ytbaegoglpijnnab.Vv
structure SGrindDemand where
 Low : (List Int)
 High : (List Int)
 deriving Inhabited
def c_SGrindDemand (x : SGrindDemand) : List VV := [VV.tr (List.map vi x.Low) x.Low.length, VV.tr (List.map vi x.High) x.High.length]
def g_SGrindDemand (x : SGrindDemand) : List VV := [VV.fr (List.map vi x.Low) x.Low.length, VV.fr (List.map vi x.High) x.High.length]
theorem unfr_c_SGrindDemand (xs : List SGrindDemand) : (xs.flatMap c_SGrindDemand).map unfr = xs.flatMap c_SGrindDemand := unfr_flat2 (fun _ => rfl) xs
theorem unfr_g_SGrindDemand (xs : List SGrindDemand) : (xs.flatMap g_SGrindDemand).map unfr = xs.flatMap c_SGrindDemand := unfr_flat2 (fun _ => rfl) xs
structure SGrindPlan where
 Minutes : (List Int)
 Den : Int
 deriving Inhabited
def c_SGrindPlan (x : SGrindPlan) : List VV := [VV.tr (List.map vi x.Minutes) x.Minutes.length, vi x.Den]
def g_SGrindPlan (x : SGrindPlan) : List VV := [VV.fr (List.map vi x.Minutes) x.Minutes.length, vi x.Den]
theorem unfr_g_SGrindPlan (xs : List SGrindPlan) : (xs.flatMap g_SGrindPlan).map unfr = xs.flatMap c_SGrindPlan := unfr_flat2 (fun _ => rfl) xs
theorem ag140 : isAggT Go.Proofs.Try.prog 140 = some false := by kernel_rfl
def nspeculumlaw04_slim (k : Nat) (a0 : SGrindDemand) : Option Bool :=
 if (a0.Low.length : Int) <= 43 then (some (decide ((a0.High.length : Int) <= 43))) else (some false)
theorem nspeculumlaw04_slim_ok (k : Nat) (a0 : SGrindDemand) (r : Bool) (h : nspeculumlaw04_slim k a0 = some r) : VC Go.Proofs.Try.prog 11 [VV.ag (c_SGrindDemand a0)] (vb r) := by
 unfold nspeculumlaw04_slim at h
 rcases ifs h with ⟨h2100, h⟩ | ⟨h2100, h⟩
 ·have e2101 := (ti (ti (ti (ti (ti (an (an (decide_eq_true h2100) trivial) (an (an (decide_eq_true h2100) trivial) (an (an (decide_eq_true h2100) trivial) (an (an (decide_eq_true h2100) trivial) (an (decide_eq_true h2100) (ti trivial)))))))))))
  injection h with h; subst h
  exact fun_ok pm pn Go.Proofs.Try.func11 (r0 := vb (decide ((a0.High.length : Int) <= 43))) (ans := [.reg (.n :: .n :: []), .reg (nN 9 (.b true :: .n :: []))]) (fr := true) (by kernel_rfl) (an (an (ti (ti trivial)) (an e2101 trivial)) (ti trivial)) (Wv.refl _)
 ·have e2102 := (ti (ti (ti (ti (ti (an (decide_eq_false h2100) (an (decide_eq_false h2100) (an (decide_eq_false h2100) (an (decide_eq_false h2100) (an (decide_eq_false h2100) (ti trivial)))))))))))
  injection h with h; subst h
  exact fun_ok pm pn Go.Proofs.Try.func11 (r0 := vb false) (ans := [.reg (.n :: .n :: []), .reg (nN 5 (nS 4 (.b false :: .n :: [])))]) (fr := true) (by kernel_rfl) (an (an (ti (ti trivial)) (an e2102 trivial)) (ti trivial)) (Wv.refl _)
def arD1_0 (z0 : (List Int)) (z1 : (List Int)) : List Ans := (.n :: .n :: .call (VV.fr (List.map vi z0) z0.length) :: .n :: .n :: .call (VV.fr (List.map vi z1) z1.length) :: .n :: .n :: [])
theorem eqD1_0 (z0 : (List Int)) (z1 : (List Int)) : VV.ag [VV.fr (List.map vi z0) z0.length, VV.fr (List.map vi z1) z1.length] = VV.ag (g_SGrindDemand (⟨z0, z1⟩ : SGrindDemand)) := by first | rfl | (simp only [unfr_vi, List.map_cons, List.map_nil, un_i, un_fr, List.length_map, List.length_cons, List.length_nil, unfr_g_SGrindDemand]; done) | (simp only [unfr_vi, List.map_cons, List.map_nil, un_i, un_fr, List.length_map, List.length_cons, List.length_nil, unfr_g_SGrindDemand]; rfl) | (simp only [unfr_vi, List.map_cons, List.map_nil, un_i, un_fr, List.length_map, List.length_cons, List.length_nil, unfr_g_SGrindDemand, g_SGrindDemand, List.length_cons, List.length_nil, List.length_append]; done)
def nspeculumlaw04_demand (k : Nat) (a0 : SGrindDemand) : Option SGrindDemand :=
 (nspeculumbase_CopyInts k a0.Low).bind fun r2110 => ((nspeculumbase_CopyInts k a0.High).bind fun r2113 => (some (⟨r2110, r2113⟩ : SGrindDemand)))
theorem nspeculumlaw04_demand_ok (k : Nat) (a0 : SGrindDemand) (r : SGrindDemand) (h : nspeculumlaw04_demand k a0 = some r) : VC Go.Proofs.Try.prog 15 [VV.ag (c_SGrindDemand a0)] (VV.ag (g_SGrindDemand r)) := by
 unfold nspeculumlaw04_demand at h
 obtain ⟨r2110, h2111, h⟩ := bs h
 have e2112 := (show VC Go.Proofs.Try.prog 55 [VV.tr (List.map vi a0.Low) a0.Low.length] (VV.fr (List.map vi r2110) r2110.length) from (VC.weak (nspeculumbase_CopyInts_ok k a0.Low _ h2111) (Wv.fw rfl rfl)))
 obtain ⟨r2113, h2114, h⟩ := bs h
 have e2115 := (show VC Go.Proofs.Try.prog 55 [VV.tr (List.map vi a0.High) a0.High.length] (VV.fr (List.map vi r2113) r2113.length) from (VC.weak (nspeculumbase_CopyInts_ok k a0.High _ h2114) (Wv.fw rfl rfl)))
 have e2116 := (ti (ti (an e2112 (ti (ti (an e2115 (ti (ti trivial))))))))
 injection h with h; subst h
 exact fun_ok pm pn Go.Proofs.Try.func15 (r0 := VV.ag [VV.fr (List.map vi r2110) r2110.length, VV.fr (List.map vi r2113) r2113.length]) (ans := [.reg (.n :: .n :: []), .reg (arD1_0 r2110 r2113)]) (fr := true) (by kernel_rfl) (an (an (ti (ti trivial)) (an e2116 trivial)) (an (ti (ti (ti trivial))) trivial)) (Wv.of_eq (eqD1_0 r2110 r2113))
theorem eqD1_1 (z0 : (List Int)) (z1 : SGrindPlan) : VV.ag [VV.fr (List.map vi z0) z0.length, vi z1.Den] = VV.ag (g_SGrindPlan (⟨z0, z1.Den⟩ : SGrindPlan)) := by first | rfl | (simp only [unfr_vi, List.map_cons, List.map_nil, un_i, un_fr, List.length_map, List.length_cons, List.length_nil, unfr_g_SGrindPlan]; done) | (simp only [unfr_vi, List.map_cons, List.map_nil, un_i, un_fr, List.length_map, List.length_cons, List.length_nil, unfr_g_SGrindPlan]; rfl) | (simp only [unfr_vi, List.map_cons, List.map_nil, un_i, un_fr, List.length_map, List.length_cons, List.length_nil, unfr_g_SGrindPlan, g_SGrindPlan, List.length_cons, List.length_nil, List.length_append]; done)
def nspeculumlaw04_plan (k : Nat) (a0 : SGrindPlan) : Option SGrindPlan :=
 (nspeculumbase_CopyInts k a0.Minutes).bind fun r2120 => (some (⟨r2120, a0.Den⟩ : SGrindPlan))
theorem nspeculumlaw04_plan_ok (k : Nat) (a0 : SGrindPlan) (r : SGrindPlan) (h : nspeculumlaw04_plan k a0 = some r) : VC Go.Proofs.Try.prog 27 [VV.ag (c_SGrindPlan a0)] (VV.ag (g_SGrindPlan r)) := by
 unfold nspeculumlaw04_plan at h
 obtain ⟨r2120, h2121, h⟩ := bs h
 have e2122 := (show VC Go.Proofs.Try.prog 55 [VV.tr (List.map vi a0.Minutes) a0.Minutes.length] (VV.fr (List.map vi r2120) r2120.length) from (VC.weak (nspeculumbase_CopyInts_ok k a0.Minutes _ h2121) (Wv.fw rfl rfl)))
 injection h with h; subst h
 exact fun_ok pm pn Go.Proofs.Try.func27 (r0 := VV.ag [VV.fr (List.map vi r2120) r2120.length, vi a0.Den]) (ans := [.reg (.n :: .n :: []), .reg (.n :: .n :: .call (VV.fr (List.map vi r2120) r2120.length) :: nN 4 [])]) (fr := true) (by kernel_rfl) (an (an (ti (ti trivial)) (an (ti (ti (an e2122 (ti (ti (ti (ti trivial))))))) trivial)) (an (ti (ti (ti trivial))) trivial)) (Wv.of_eq (eqD1_1 r2120 a0))
def ngrind_validStrokes (k : Nat) (a0 : (List SStroke)) : Option (List SStroke) :=
 some a0
theorem ngrind_validStrokes_ok (k : Nat) (a0 : (List SStroke)) (r : (List SStroke)) (h : ngrind_validStrokes k a0 = some r) : VC Go.Proofs.Try.prog 50 [VV.tr (List.flatMap c_SStroke a0) a0.length] (VV.fn 89 [VV.tp [VV.tr (List.flatMap c_SStroke r) r.length] 0]) := by
 unfold ngrind_validStrokes at h
 injection h with h; subst h
 exact fun_ok pm pn Go.Proofs.Try.func50 (r0 := VV.fn 89 [VV.tp [VV.tr (List.flatMap c_SStroke a0) a0.length] 0]) (ans := [.reg (.n :: .n :: []), .frz 0, .reg (.n :: .n :: [])]) (fr := false) (by kernel_rfl) (an (an (ti (ti trivial)) (an (ti (ti trivial)) trivial)) (ti trivial)) (Wv.refl _)
def ngrind_validDemand (k : Nat) (a0 : (List SStroke)) (a1 : SGrindDemand) : Option ((List Int) × (List Int) × (List SStroke)) :=
 some (a1.Low, a1.High, a0)
theorem ngrind_validDemand_ok (k : Nat) (a0 : (List SStroke)) (a1 : SGrindDemand) (r : ((List Int) × (List Int) × (List SStroke))) (h : ngrind_validDemand k a0 a1 = some r) : VC Go.Proofs.Try.prog 51 [VV.tr (List.flatMap c_SStroke a0) a0.length, VV.ag (c_SGrindDemand a1)] (VV.fn 91 [VV.tp [VV.tr (List.map vi r.1) r.1.length, VV.tr (List.map vi r.2.1) r.2.1.length] 0, VV.tp [VV.tr (List.flatMap c_SStroke r.2.2) r.2.2.length] 0]) := by
 unfold ngrind_validDemand at h
 injection h with h; subst h
 exact fun_ok pm pn Go.Proofs.Try.func51 (r0 := VV.fn 91 [VV.tp [VV.tr (List.map vi a1.Low) a1.Low.length, VV.tr (List.map vi a1.High) a1.High.length] 0, VV.tp [VV.tr (List.flatMap c_SStroke a0) a0.length] 0]) (ans := [.reg (nN 3 []), .frz 0, .frz 1, .reg (.n :: .n :: [])]) (fr := false) (by kernel_rfl) (an (an (ti (ti (ti trivial))) (an (ti (ti trivial)) trivial)) (ti trivial)) (Wv.of_eq rfl)
def ngrind_validPlan (k : Nat) (a0 : (List SStroke)) (a1 : SGrindPlan) : Option ((List Int) × Int × (List SStroke)) :=
 some (a1.Minutes, a1.Den, a0)
theorem ngrind_validPlan_ok (k : Nat) (a0 : (List SStroke)) (a1 : SGrindPlan) (r : ((List Int) × Int × (List SStroke))) (h : ngrind_validPlan k a0 a1 = some r) : VC Go.Proofs.Try.prog 65 [VV.tr (List.flatMap c_SStroke a0) a0.length, VV.ag (c_SGrindPlan a1)] (VV.fn 99 [VV.tp [VV.tr (List.map vi r.1) r.1.length, vi r.2.1] 0, VV.tp [VV.tr (List.flatMap c_SStroke r.2.2) r.2.2.length] 0]) := by
 unfold ngrind_validPlan at h
 injection h with h; subst h
 exact fun_ok pm pn Go.Proofs.Try.func65 (r0 := VV.fn 99 [VV.tp [VV.tr (List.map vi a1.Minutes) a1.Minutes.length, vi a1.Den] 0, VV.tp [VV.tr (List.flatMap c_SStroke a0) a0.length] 0]) (ans := [.reg (nN 3 []), .frz 0, .frz 1, .reg (.n :: .n :: [])]) (fr := false) (by kernel_rfl) (an (an (ti (ti (ti trivial))) (an (ti (ti trivial)) trivial)) (ti trivial)) (Wv.of_eq rfl)
def arD1_1 (z0 : (List SStroke)) (z1 : (Int × Int)) : List Ans := (.v (VV.tr (List.flatMap c_SStroke z0) z0.length) :: .call (VV.tu [vi z1.1, vi z1.2]) :: nN 5 [])
def ngrind_validStrokes_1 (k : Nat) (q0_0 : (List SStroke)) : Option Int :=
 (ngrind_CheckStrokes k q0_0).bind fun r2136 => (some r2136.2)
theorem ngrind_validStrokes_1_ok (k : Nat) (q0_0 : (List SStroke)) (r : Int) (h : ngrind_validStrokes_1 k q0_0 = some r) : VC Go.Proofs.Try.prog 89 [VV.tp [VV.tr (List.flatMap c_SStroke q0_0) q0_0.length] 0] (vi r) := by
 unfold ngrind_validStrokes_1 at h
 have e2135 := (show loadL Go.Proofs.Try.prog 22 0 [VV.tr (List.flatMap c_SStroke q0_0) q0_0.length] = some (VV.tr (List.flatMap c_SStroke q0_0) q0_0.length) from (ld_one ag22 rfl))
 obtain ⟨r2136, h2137, h⟩ := bs h
 have e2138 := (an e2135 (an (ngrind_CheckStrokes_ok k q0_0 _ h2137) (ti (ti (ti (ti (ti trivial)))))))
 injection h with h; subst h
 exact fun_ok pm pn Go.Proofs.Try.func89 (r0 := vi r2136.2) (ans := [.reg (.n :: []), .reg (arD1_1 q0_0 r2136), .reg (.n :: .n :: [])]) (fr := true) (by kernel_rfl) (an (an (ti trivial) (an e2138 (an (ti (ti trivial)) trivial))) (ti trivial)) (Wv.refl _)
def ngrind_each_c1_grind_validDemand_1_1 (k : Nat) (a0 : Int) (a1 : ((List Int) × (List Int))) : Option (Int × ((List Int) × (List Int))) :=
 some (a0, a1)
theorem ngrind_each_c1_grind_validDemand_1_1_ok (k : Nat) (a0 : Int) (a1 : ((List Int) × (List Int))) (r : (Int × ((List Int) × (List Int)))) (h : ngrind_each_c1_grind_validDemand_1_1 k a0 a1 = some r) : VC Go.Proofs.Try.prog 92 [vi a0, VV.fn 93 [VV.tp [VV.tr (List.map vi a1.1) a1.1.length, VV.tr (List.map vi a1.2) a1.2.length] 0]] (VV.fn 117 [VV.tp [vi r.1] 0, VV.tp [VV.fn 93 [VV.tp [VV.tr (List.map vi r.2.1) r.2.1.length, VV.tr (List.map vi r.2.2) r.2.2.length] 0]] 0]) := by
 unfold ngrind_each_c1_grind_validDemand_1_1 at h
 injection h with h; subst h
 exact fun_ok pm pn Go.Proofs.Try.func92 (r0 := VV.fn 117 [VV.tp [vi a0] 0, VV.tp [VV.fn 93 [VV.tp [VV.tr (List.map vi a1.1) a1.1.length, VV.tr (List.map vi a1.2) a1.2.length] 0]] 0]) (ans := [.reg (nN 3 []), .frz 0, .frz 1, .reg (.n :: .n :: [])]) (fr := false) (by kernel_rfl) (an (an (ti (ti (ti trivial))) (an (ti (ti trivial)) trivial)) (ti trivial)) (Wv.of_eq rfl)
theorem eqD1_2 (z0 : Int) (z1 : (List Int)) (z2 : (List Int)) : [vi z0, VV.fn 93 [VV.tp [VV.tr (List.map vi ((z1, z2).1)) (((z1, z2).1).length), VV.tr (List.map vi ((z1, z2).2)) (((z1, z2).2).length)] 0]] = [vi z0, VV.fn 93 [VV.tp [VV.tr (List.map vi z1) z1.length, VV.tr (List.map vi z2) z2.length] 0]] := by first | rfl | (simp only [unfr_vi, List.map_cons, List.map_nil, un_i, un_tr, List.length_map, List.length_cons, List.length_nil]; done) | (simp only [unfr_vi, List.map_cons, List.map_nil, un_i, un_tr, List.length_map, List.length_cons, List.length_nil]; rfl) | (simp only [unfr_vi, List.map_cons, List.map_nil, un_i, un_tr, List.length_map, List.length_cons, List.length_nil, List.length_cons, List.length_nil, List.length_append]; done)
theorem eqD1_3 (z0 : (List Int)) (z1 : Int) (z2 : (List Int)) : [vi 0, vi 10000, VV.tr (List.map vi ([(z0.getD z1.toNat 0), (z2.getD z1.toNat 0)] : List Int)) (([(z0.getD z1.toNat 0), (z2.getD z1.toNat 0)] : List Int).length)] = [vi 0, vi 10000, VV.tr [vi (z0.getD z1.toNat 0), vi (z2.getD z1.toNat 0)] 2] := by first | rfl | (simp only [unfr_vi, List.map_cons, List.map_nil, un_i, un_tr, List.length_map, List.length_cons, List.length_nil]; done) | (simp only [unfr_vi, List.map_cons, List.map_nil, un_i, un_tr, List.length_map, List.length_cons, List.length_nil]; rfl) | (simp only [unfr_vi, List.map_cons, List.map_nil, un_i, un_tr, List.length_map, List.length_cons, List.length_nil, List.length_cons, List.length_nil, List.length_append]; done)
def arD1_2 (z0 : (((List Int) × Int × Int) × (Bool × Int))) : List Ans := (.n :: .v (VV.fn 114 [VV.tp [VV.tr (List.map vi z0.1.1) z0.1.1.length] 0, VV.tp [vi z0.1.2.1] 0, VV.tp [vi z0.1.2.2] 0]) :: .n :: [])
def ngrind_firstOf_c0_Lgrind_within_1_grind_need_1 (k : Nat) (a0 : (((List Int) × Int × Int) × (Bool × Int))) : Option Int :=
 (ngrind_within_1 k a0.1.1 a0.1.2.1 a0.1.2.2).bind fun r2203 => (if r2203 = 0 then ((ngrind_need_1 k a0.2.1 a0.2.2).bind fun r2209 => (if r2209 = 0 then (some 0) else (some r2209))) else (some r2203))
theorem ngrind_firstOf_c0_Lgrind_within_1_grind_need_1_ok (k : Nat) (a0 : (((List Int) × Int × Int) × (Bool × Int))) (r : Int) (h : ngrind_firstOf_c0_Lgrind_within_1_grind_need_1 k a0 = some r) : VC Go.Proofs.Try.prog 49 [VV.tr ([VV.fn 114 [VV.tp [VV.tr (List.map vi a0.1.1) a0.1.1.length] 0, VV.tp [vi a0.1.2.1] 0, VV.tp [vi a0.1.2.2] 0], VV.fn 102 [VV.tp [vb a0.2.1] 0, VV.tp [vi a0.2.2] 0]]) 2] (vi r) := by
 unfold ngrind_firstOf_c0_Lgrind_within_1_grind_need_1 at h
 have e2201 := (show (0 : Int) <= 0 /\ (0 : Int) < ((2 : Nat) : Int) from ⟨by decide, by decide⟩)
 have e2202 := (show loadL Go.Proofs.Try.prog 98 ((0 : Int).toNat * 1) ([VV.fn 114 [VV.tp [VV.tr (List.map vi a0.1.1) a0.1.1.length] 0, VV.tp [vi a0.1.2.1] 0, VV.tp [vi a0.1.2.2] 0], VV.fn 102 [VV.tp [vb a0.2.1] 0, VV.tp [vi a0.2.2] 0]]) = some (VV.fn 114 [VV.tp [VV.tr (List.map vi a0.1.1) a0.1.1.length] 0, VV.tp [vi a0.1.2.1] 0, VV.tp [vi a0.1.2.2] 0]) from (ld_one ag98 rfl))
 obtain ⟨r2203, h2204, h⟩ := bs h
 have e2205 := (ngrind_within_1_ok k a0.1.1 a0.1.2.1 a0.1.2.2 _ h2204)
 rcases ifs h with ⟨h2206, h⟩ | ⟨h2206, h⟩
 ·have e2207 := (show (0 : Int) <= 1 /\ (1 : Int) < ((2 : Nat) : Int) from ⟨by decide, by decide⟩)
  have e2208 := (show loadL Go.Proofs.Try.prog 98 ((1 : Int).toNat * 1) ([VV.fn 114 [VV.tp [VV.tr (List.map vi a0.1.1) a0.1.1.length] 0, VV.tp [vi a0.1.2.1] 0, VV.tp [vi a0.1.2.2] 0], VV.fn 102 [VV.tp [vb a0.2.1] 0, VV.tp [vi a0.2.2] 0]]) = some (VV.fn 102 [VV.tp [vb a0.2.1] 0, VV.tp [vi a0.2.2] 0]) from (ld_one ag98 rfl))
  obtain ⟨r2209, h2210, h⟩ := bs h
  have e2211 := (ngrind_need_1_ok k a0.2.1 a0.2.2 _ h2210)
  rcases ifs h with ⟨h2212, h⟩ | ⟨h2212, h⟩
  ·injection h with h; subst h
   exact fun_ok pm pn Go.Proofs.Try.func49 (r0 := vi 0) (ans := [.reg (.n :: []), .reg (nN 3 []), .unr 4, .reg (.n :: []), .br true, .reg (arD1_2 a0), .reg (.n :: .call (vi r2203) :: .n :: []), .reg (.n :: .n :: []), .br false, .reg (.n :: .n :: []), .reg (.n :: []), .br true, .reg (.n :: .v (VV.fn 102 [VV.tp [vb a0.2.1] 0, VV.tp [vi a0.2.2] 0]) :: .n :: []), .reg (.n :: .call (vi r2209) :: .n :: []), .reg (.n :: .n :: []), .br false, .reg (.n :: .n :: []), .reg (.n :: []), .br false, .reg (.n :: [])]) (fr := true) (by kernel_rfl) (an (an (ti trivial) (an (an (ti (ti (ti trivial))) (an (an (ti trivial) (an (an (show (decide ((0 : Int) < 2)) = true from (decide_eq_true (by decide))) trivial) (an (an (an e2201 (an e2202 (ti trivial))) (an (ti (an e2205 (ti trivial))) (an (ti (ti trivial)) (an (not_f (decide_eq_true h2206)) trivial)))) (ti (ti trivial))))) (an (an (ti trivial) (an (an (show (decide ((1 : Int) < 2)) = true from (decide_eq_true (by decide))) trivial) (an (an (an e2207 (an e2208 (ti trivial))) (an (ti (an e2211 (ti trivial))) (an (ti (ti trivial)) (an (not_f (decide_eq_true h2212)) trivial)))) (ti (ti trivial))))) (an (ti trivial) (an (show (decide ((2 : Int) < 2)) = false from (decide_eq_false (by decide))) trivial))))) (an (ti trivial) trivial))) (ti trivial)) (Wv.refl _)
  ·injection h with h; subst h
   exact fun_ok pm pn Go.Proofs.Try.func49 (r0 := vi r2209) (ans := [.reg (.n :: []), .reg (nN 3 []), .unr 3, .reg (.n :: []), .br true, .reg (arD1_2 a0), .reg (.n :: .call (vi r2203) :: .n :: []), .reg (.n :: .n :: []), .br false, .reg (.n :: .n :: []), .reg (.n :: []), .br true, .reg (.n :: .v (VV.fn 102 [VV.tp [vb a0.2.1] 0, VV.tp [vi a0.2.2] 0]) :: .n :: []), .reg (.n :: .call (vi r2209) :: .n :: []), .reg (.n :: .n :: []), .br true, .reg (.n :: .n :: [])]) (fr := true) (by kernel_rfl) (an (an (ti trivial) (an (ti (ti (ti trivial))) (an (an (ti trivial) (an (an (show (decide ((0 : Int) < 2)) = true from (decide_eq_true (by decide))) trivial) (an (an (an e2201 (an e2202 (ti trivial))) (an (ti (an e2205 (ti trivial))) (an (ti (ti trivial)) (an (not_f (decide_eq_true h2206)) trivial)))) (ti (ti trivial))))) (an (ti trivial) (an (an (show (decide ((1 : Int) < 2)) = true from (decide_eq_true (by decide))) trivial) (an (an e2207 (an e2208 (ti trivial))) (an (ti (an e2211 (ti trivial))) (an (ti (ti trivial)) (an (not_t (decide_eq_false h2212)) (an (ti (ti trivial)) trivial)))))))))) (ti trivial)) (Wv.refl _)
 ·injection h with h; subst h
  exact fun_ok pm pn Go.Proofs.Try.func49 (r0 := vi r2203) (ans := [.reg (.n :: []), .reg (nN 3 []), .unr 2, .reg (.n :: []), .br true, .reg (arD1_2 a0), .reg (.n :: .call (vi r2203) :: .n :: []), .reg (.n :: .n :: []), .br true, .reg (.n :: .n :: [])]) (fr := true) (by kernel_rfl) (an (an (ti trivial) (an (ti (ti (ti trivial))) (an (ti trivial) (an (an (show (decide ((0 : Int) < 2)) = true from (decide_eq_true (by decide))) trivial) (an (an e2201 (an e2202 (ti trivial))) (an (ti (an e2205 (ti trivial))) (an (ti (ti trivial)) (an (not_t (decide_eq_false h2206)) (an (ti (ti trivial)) trivial))))))))) (ti trivial)) (Wv.refl _)
theorem eqD1_4 (z0 : ((List Int) × Int × Int)) (z1 : (Bool × Int)) : [VV.tr ([VV.fn 114 [VV.tp [VV.tr (List.map vi (((z0, z1).1).1)) ((((z0, z1).1).1).length)] 0, VV.tp [vi (((z0, z1).1).2.1)] 0, VV.tp [vi (((z0, z1).1).2.2)] 0], VV.fn 102 [VV.tp [vb (((z0, z1).2).1)] 0, VV.tp [vi (((z0, z1).2).2)] 0]]) 2] = [VV.tr (List.drop 0 (List.map unfr [VV.fn 114 [VV.tp [VV.tr (List.map vi z0.1) z0.1.length] 0, VV.tp [vi z0.2.1] 0, VV.tp [vi z0.2.2] 0], VV.fn 102 [VV.tp [vb z1.1] 0, VV.tp [vi z1.2] 0]])) 2] := by first | rfl | (simp only [drop0, unfr_vi, unfr_vb, List.map_cons, List.map_nil, un_i, un_b, un_tr, List.length_map, List.length_cons, List.length_nil]; done) | (simp only [drop0, unfr_vi, unfr_vb, List.map_cons, List.map_nil, un_i, un_b, un_tr, List.length_map, List.length_cons, List.length_nil]; rfl) | (simp only [drop0, unfr_vi, unfr_vb, List.map_cons, List.map_nil, un_i, un_b, un_tr, List.length_map, List.length_cons, List.length_nil, List.length_cons, List.length_nil, List.length_append]; done)
def arD1_3 (z0 : (List Int)) (z1 : Int) (z2 : (List Int)) (z3 : ((List Int) × Int × Int)) (z4 : (Bool × Int)) (z5 : Int) : List Ans := (.n :: .v (VV.tr (List.map vi z0) z0.length) :: .n :: .n :: .v (vi (z0.getD z1.toNat 0)) :: .n :: .v (VV.tr (List.map vi z2) z2.length) :: .n :: .n :: .v (vi (z2.getD z1.toNat 0)) :: .v VV.any :: .call (VV.fn 114 [VV.tp [VV.tr (List.map vi z3.1) z3.1.length] 0, VV.tp [vi z3.2.1] 0, VV.tp [vi z3.2.2] 0]) :: .n :: .v (VV.tr (List.map vi z2) z2.length) :: .n :: .n :: .v (vi (z2.getD z1.toNat 0)) :: .n :: .v (VV.tr (List.map vi z0) z0.length) :: .n :: .n :: .v (vi (z0.getD z1.toNat 0)) :: .n :: .call (VV.fn 102 [VV.tp [vb z4.1] 0, VV.tp [vi z4.2] 0]) :: .n :: .call (vi z5) :: .n :: [])
def ngrind_validDemand_1_1 (k : Nat) (a0 : Int) (q0_0 : (List Int)) (q0_1 : (List Int)) : Option Int :=
 if 0 <= a0 /\ a0 < (q0_0.length : Int) then (if 0 <= a0 /\ a0 < (q0_1.length : Int) then ((ngrind_within k 0 10000 ([(q0_0.getD a0.toNat 0), (q0_1.getD a0.toNat 0)] : List Int)).bind fun r2223 => ((ngrind_need k (decide ((q0_0.getD a0.toNat 0) <= (q0_1.getD a0.toNat 0))) 9).bind fun r2230 => ((ngrind_firstOf_c0_Lgrind_within_1_grind_need_1 k (r2223, r2230)).bind fun r2233 => (some r2233)))) else none) else none
theorem ngrind_validDemand_1_1_ok (k : Nat) (a0 : Int) (q0_0 : (List Int)) (q0_1 : (List Int)) (r : Int) (h : ngrind_validDemand_1_1 k a0 q0_0 q0_1 = some r) : VC Go.Proofs.Try.prog 93 [vi a0, VV.tp [VV.tr (List.map vi q0_0) q0_0.length, VV.tr (List.map vi q0_1) q0_1.length] 0] (vi r) := by
 unfold ngrind_validDemand_1_1 at h
 have e2217 := (show loadL Go.Proofs.Try.prog 23 0 [VV.tr (List.map vi q0_0) q0_0.length, VV.tr (List.map vi q0_1) q0_1.length] = some (VV.tr (List.map vi q0_0) q0_0.length) from (ld_one ag23 rfl))
 obtain ⟨h2218, h⟩ := ifn h
 have e2219 := (show loadL Go.Proofs.Try.prog 3 (a0.toNat * 1) (List.map vi q0_0) = some (vi (q0_0.getD a0.toNat 0)) from ld_map ag3 vi q0_0 0 h2218 (by omega))
 have e2220 := (show loadL Go.Proofs.Try.prog 23 1 [VV.tr (List.map vi q0_0) q0_0.length, VV.tr (List.map vi q0_1) q0_1.length] = some (VV.tr (List.map vi q0_1) q0_1.length) from (ld_one ag23 rfl))
 obtain ⟨h2221, h⟩ := ifn h
 have e2222 := (show loadL Go.Proofs.Try.prog 3 (a0.toNat * 1) (List.map vi q0_1) = some (vi (q0_1.getD a0.toNat 0)) from ld_map ag3 vi q0_1 0 h2221 (by omega))
 obtain ⟨r2223, h2224, h⟩ := bs h
 have e2225 := (VC.args (ngrind_within_ok k 0 10000 ([(q0_0.getD a0.toNat 0), (q0_1.getD a0.toNat 0)] : List Int) _ h2224) (eqD1_3 q0_0 a0 q0_1))
 have e2226 := (show loadL Go.Proofs.Try.prog 23 1 [VV.tr (List.map vi q0_0) q0_0.length, VV.tr (List.map vi q0_1) q0_1.length] = some (VV.tr (List.map vi q0_1) q0_1.length) from (ld_one ag23 rfl))
 have e2227 := (show loadL Go.Proofs.Try.prog 3 (a0.toNat * 1) (List.map vi q0_1) = some (vi (q0_1.getD a0.toNat 0)) from ld_map ag3 vi q0_1 0 h2221 (by omega))
 have e2228 := (show loadL Go.Proofs.Try.prog 23 0 [VV.tr (List.map vi q0_0) q0_0.length, VV.tr (List.map vi q0_1) q0_1.length] = some (VV.tr (List.map vi q0_0) q0_0.length) from (ld_one ag23 rfl))
 have e2229 := (show loadL Go.Proofs.Try.prog 3 (a0.toNat * 1) (List.map vi q0_0) = some (vi (q0_0.getD a0.toNat 0)) from ld_map ag3 vi q0_0 0 h2218 (by omega))
 obtain ⟨r2230, h2231, h⟩ := bs h
 have e2232 := (ngrind_need_ok k (decide ((q0_0.getD a0.toNat 0) <= (q0_1.getD a0.toNat 0))) 9 _ h2231)
 obtain ⟨r2233, h2234, h⟩ := bs h
 have e2235 := (VC.args (ngrind_firstOf_c0_Lgrind_within_1_grind_need_1_ok k (r2223, r2230) _ h2234) (eqD1_4 r2223 r2230))
 have e2236 := (ti (an e2217 (ti (an h2218 (an e2219 (ti (an e2220 (ti (an h2221 (an e2222 (ti (an e2225 (ti (an e2226 (ti (an h2221 (an e2227 (ti (an e2228 (ti (an h2218 (an e2229 (ti (an e2232 (ti (an e2235 (ti trivial)))))))))))))))))))))))))))
 injection h with h; subst h
 exact fun_ok pm pn Go.Proofs.Try.func93 (r0 := vi r2233) (ans := [.reg (.n :: []), .reg (arD1_3 q0_0 a0 q0_1 r2223 r2230 r2233)]) (fr := true) (by kernel_rfl) (an (an (ti trivial) (an e2236 trivial)) (ti trivial)) (Wv.refl _)
def arD1_4 (z0 : ((List Int) × (List Int))) (z1 : Int) : List Ans := (.v (VV.fn 93 [VV.tp [VV.tr (List.map vi z0.1) z0.1.length, VV.tr (List.map vi z0.2) z0.2.length] 0]) :: .n :: .call (vi z1) :: .n :: [])
def ngrind_each_1_k_grind_validDemand_1_1_l0_0_h (q0_0 : Int) (q1_0 : ((List Int) × (List Int))) (x6 : Int) : VS := ⟨mkA [(1, VV.tp [VV.fn 93 [VV.tp [VV.tr (List.map vi q1_0.1) q1_0.1.length, VV.tr (List.map vi q1_0.2) q1_0.2.length] 0]] 0), (5, vi q0_0), (6, vi x6)], [], .nil⟩
def ngrind_each_1_k_grind_validDemand_1_1_l0_0_e0 (q0_0 : Int) (q1_0 : ((List Int) × (List Int))) (r : Int) : VS := ⟨mkA [(2, vi r)], [], .nil⟩
def ngrind_each_1_k_grind_validDemand_1_1_l0_0_e1 (q0_0 : Int) (q1_0 : ((List Int) × (List Int))) (r : Unit) : VS := ⟨mkA [], [], .nil⟩
def ngrind_each_1_k_grind_validDemand_1_1_l0_0 (k : Nat) (q0_0 : Int) (q1_0 : ((List Int) × (List Int))) : Nat -> Int -> Option (Sum Int Unit)
 | 0, _ => none
 | fuel + 1, x6 => if x6 < q0_0 then ((ngrind_validDemand_1_1 k x6 q1_0.1 q1_0.2).bind fun r2274 => (if r2274 = 0 then (ngrind_each_1_k_grind_validDemand_1_1_l0_0 k q0_0 q1_0 fuel (w64 (x6 + 1))) else (some (.inl r2274)))) else (some (.inr ()))
theorem ngrind_each_1_k_grind_validDemand_1_1_l0_0_ok (k : Nat) (q0_0 : Int) (q1_0 : ((List Int) × (List Int))) : ∀ (fuel : Nat) (x6 : Int) (r : Sum Int Unit), ngrind_each_1_k_grind_validDemand_1_1_l0_0 k q0_0 q1_0 fuel x6 = some r -> (match r with | .inl r => VLoop none Go.Proofs.Try.prog (szF Go.Proofs.Try.f117) (bodyOf Go.Proofs.Try.f117 0) (ngrind_each_1_k_grind_validDemand_1_1_l0_0_h q0_0 q1_0 x6) .ret (ngrind_each_1_k_grind_validDemand_1_1_l0_0_e0 q0_0 q1_0 r) | .inr r => VLoop none Go.Proofs.Try.prog (szF Go.Proofs.Try.f117) (bodyOf Go.Proofs.Try.f117 0) (ngrind_each_1_k_grind_validDemand_1_1_l0_0_h q0_0 q1_0 x6) (.exit 0) (ngrind_each_1_k_grind_validDemand_1_1_l0_0_e1 q0_0 q1_0 r)) := by
 intro fuel
 induction fuel with
 | zero => intro x6 r h; rw [ngrind_each_1_k_grind_validDemand_1_1_l0_0.eq_1] at h; cases h
 | succ fuel ih =>
  intro x6 r h
  rw [ngrind_each_1_k_grind_validDemand_1_1_l0_0.eq_2] at h
  rcases ifs h with ⟨h2272, h⟩ | ⟨h2272, h⟩
  ·have e2273 := (show loadL Go.Proofs.Try.prog 140 0 [VV.fn 93 [VV.tp [VV.tr (List.map vi q1_0.1) q1_0.1.length, VV.tr (List.map vi q1_0.2) q1_0.2.length] 0]] = some (VV.fn 93 [VV.tp [VV.tr (List.map vi q1_0.1) q1_0.1.length, VV.tr (List.map vi q1_0.2) q1_0.2.length] 0]) from (ld_one ag140 rfl))
   obtain ⟨r2274, h2275, h⟩ := bs h
   have e2276 := (ngrind_validDemand_1_1_ok k x6 q1_0.1 q1_0.2 _ h2275)
   rcases ifs h with ⟨h2277, h⟩ | ⟨h2277, h⟩
   ·have h2 := ih _ _ h
    obtain ⟨q, hv, hq⟩ := pkR (rd := none) (P := Go.Proofs.Try.prog) (fn := Go.Proofs.Try.f117) (k := 0) (s := (ngrind_each_1_k_grind_validDemand_1_1_l0_0_h q0_0 q1_0 x6)) (ans := [.reg (.n :: []), .br true, .reg (.n :: .n :: []), .reg (arD1_4 q1_0 r2274), .reg (.n :: .n :: []), .br false, .reg (.n :: .n :: [])]) (c := ⟨[(1, none), (5, none), (6, none)], [], []⟩) (e := .normal) (s1 := (ngrind_each_1_k_grind_validDemand_1_1_l0_0_h q0_0 q1_0 (w64 (x6 + 1)))) (an (an (ti trivial) (an (an (decide_eq_true h2272) trivial) (an (an (ti (ti trivial)) (an (an e2273 (ti (an e2276 (ti trivial)))) (an (ti (ti trivial)) (an (not_f (decide_eq_true h2277)) trivial)))) (ti (ti trivial))))) (ti trivial)) (by kernel_rfl)
    cases r with
    | inl r => exact round_next pm pn hv hq h2
    | inr r =>
     exact round_next pm pn hv hq h2
   ·injection h with h; subst h
    exact round_stop (c := ⟨[(2, none)], [], []⟩) (s1 := (ngrind_each_1_k_grind_validDemand_1_1_l0_0_e0 q0_0 q1_0 r2274)) pm pn (ans := [.reg (.n :: []), .br true, .reg (.n :: .n :: []), .reg (arD1_4 q1_0 r2274), .reg (.n :: .n :: []), .br true, .reg (.n :: .n :: [])]) (by kernel_rfl) (by intro e; cases e) (an (an (ti trivial) (an (an (decide_eq_true h2272) trivial) (an (ti (ti trivial)) (an (an e2273 (ti (an e2276 (ti trivial)))) (an (ti (ti trivial)) (an (not_t (decide_eq_false h2277)) (an (ti (ti trivial)) trivial))))))) (ti trivial))
  ·injection h with h; subst h
   exact round_stop (c := ⟨[], [], []⟩) (s1 := (ngrind_each_1_k_grind_validDemand_1_1_l0_0_e1 q0_0 q1_0 ())) pm pn (ans := [.reg (.n :: []), .br false]) (by kernel_rfl) (by intro e; cases e) (an (an (ti trivial) (an (decide_eq_false h2272) trivial)) (ti trivial))
def ngrind_each_1_k_grind_validDemand_1_1 (k : Nat) (q0_0 : Int) (q1_0 : ((List Int) × (List Int))) : Option Int :=
 (ngrind_each_1_k_grind_validDemand_1_1_l0_0 k q0_0 q1_0 k 0).bind fun r2279 => (match r2279 with | .inl r2280 => (some r2280) | .inr r2281 => (some 0))
theorem ngrind_each_1_k_grind_validDemand_1_1_ok (k : Nat) (q0_0 : Int) (q1_0 : ((List Int) × (List Int))) (r : Int) (h : ngrind_each_1_k_grind_validDemand_1_1 k q0_0 q1_0 = some r) : VC Go.Proofs.Try.prog 117 [VV.tp [vi q0_0] 0, VV.tp [VV.fn 93 [VV.tp [VV.tr (List.map vi q1_0.1) q1_0.1.length, VV.tr (List.map vi q1_0.2) q1_0.2.length] 0]] 0] (vi r) := by
 unfold ngrind_each_1_k_grind_validDemand_1_1 at h
 have e2259 := (show loadL Go.Proofs.Try.prog 3 0 [vi q0_0] = some (vi q0_0) from (ld_one ag3 rfl))
 obtain ⟨r2279, h2278, h⟩ := bs h
 have hph2278 := ngrind_each_1_k_grind_validDemand_1_1_l0_0_ok k q0_0 q1_0 _ _ _ h2278
 cases r2279 with
 | inl r2280 =>
  dsimp only at h
  have e2282 := (an (ti trivial) (VRun.loop hph2278))
  injection h with h; subst h
  exact fun_ok pm pn Go.Proofs.Try.func117 (r0 := vi r2280) (ans := [.reg (.n :: []), .reg (.v (vi q0_0) :: .n :: []), .sub ⟨[(1, none), (5, none), (6, none)], [], []⟩ .ret (ngrind_each_1_k_grind_validDemand_1_1_l0_0_e0 q0_0 q1_0 r2280)]) (fr := true) (by kernel_rfl) (an (an (ti trivial) (an (an e2259 (ti trivial)) e2282)) (ti trivial)) (Wv.refl _)
 | inr r2281 =>
  dsimp only at h
  have e2283 := (an (ti trivial) (VRun.loop hph2278))
  injection h with h; subst h
  exact fun_ok pm pn Go.Proofs.Try.func117 (r0 := vi 0) (ans := [.reg (.n :: []), .reg (.v (vi q0_0) :: .n :: []), .sub ⟨[(1, none), (5, none), (6, none)], [], []⟩ (.exit 0) (ngrind_each_1_k_grind_validDemand_1_1_l0_0_e1 q0_0 q1_0 r2281), .reg (.n :: [])]) (fr := true) (by kernel_rfl) (an (an (ti trivial) (an (an (an e2259 (ti trivial)) e2283) (an (ti trivial) trivial))) (ti trivial)) (Wv.refl _)
def arD1_5 (z0 : ((Bool × Int) × (Int × ((List Int) × (List Int))))) : List Ans := (.n :: .v (VV.fn 117 [VV.tp [vi z0.2.1] 0, VV.tp [VV.fn 93 [VV.tp [VV.tr (List.map vi z0.2.2.1) z0.2.2.1.length, VV.tr (List.map vi z0.2.2.2) z0.2.2.2.length] 0]] 0]) :: .n :: [])
def ngrind_firstOf_c0_Lgrind_need_1_grind_each_1_grind_validDemand_1_1 (k : Nat) (a0 : ((Bool × Int) × (Int × ((List Int) × (List Int))))) : Option Int :=
 (ngrind_need_1 k a0.1.1 a0.1.2).bind fun r2290 => (if r2290 = 0 then ((ngrind_each_1_k_grind_validDemand_1_1 k a0.2.1 a0.2.2).bind fun r2296 => (if r2296 = 0 then (some 0) else (some r2296))) else (some r2290))
theorem ngrind_firstOf_c0_Lgrind_need_1_grind_each_1_grind_validDemand_1_1_ok (k : Nat) (a0 : ((Bool × Int) × (Int × ((List Int) × (List Int))))) (r : Int) (h : ngrind_firstOf_c0_Lgrind_need_1_grind_each_1_grind_validDemand_1_1 k a0 = some r) : VC Go.Proofs.Try.prog 49 [VV.tr ([VV.fn 102 [VV.tp [vb a0.1.1] 0, VV.tp [vi a0.1.2] 0], VV.fn 117 [VV.tp [vi a0.2.1] 0, VV.tp [VV.fn 93 [VV.tp [VV.tr (List.map vi a0.2.2.1) a0.2.2.1.length, VV.tr (List.map vi a0.2.2.2) a0.2.2.2.length] 0]] 0]]) 2] (vi r) := by
 unfold ngrind_firstOf_c0_Lgrind_need_1_grind_each_1_grind_validDemand_1_1 at h
 have e2288 := (show (0 : Int) <= 0 /\ (0 : Int) < ((2 : Nat) : Int) from ⟨by decide, by decide⟩)
 have e2289 := (show loadL Go.Proofs.Try.prog 98 ((0 : Int).toNat * 1) ([VV.fn 102 [VV.tp [vb a0.1.1] 0, VV.tp [vi a0.1.2] 0], VV.fn 117 [VV.tp [vi a0.2.1] 0, VV.tp [VV.fn 93 [VV.tp [VV.tr (List.map vi a0.2.2.1) a0.2.2.1.length, VV.tr (List.map vi a0.2.2.2) a0.2.2.2.length] 0]] 0]]) = some (VV.fn 102 [VV.tp [vb a0.1.1] 0, VV.tp [vi a0.1.2] 0]) from (ld_one ag98 rfl))
 obtain ⟨r2290, h2291, h⟩ := bs h
 have e2292 := (ngrind_need_1_ok k a0.1.1 a0.1.2 _ h2291)
 rcases ifs h with ⟨h2293, h⟩ | ⟨h2293, h⟩
 ·have e2294 := (show (0 : Int) <= 1 /\ (1 : Int) < ((2 : Nat) : Int) from ⟨by decide, by decide⟩)
  have e2295 := (show loadL Go.Proofs.Try.prog 98 ((1 : Int).toNat * 1) ([VV.fn 102 [VV.tp [vb a0.1.1] 0, VV.tp [vi a0.1.2] 0], VV.fn 117 [VV.tp [vi a0.2.1] 0, VV.tp [VV.fn 93 [VV.tp [VV.tr (List.map vi a0.2.2.1) a0.2.2.1.length, VV.tr (List.map vi a0.2.2.2) a0.2.2.2.length] 0]] 0]]) = some (VV.fn 117 [VV.tp [vi a0.2.1] 0, VV.tp [VV.fn 93 [VV.tp [VV.tr (List.map vi a0.2.2.1) a0.2.2.1.length, VV.tr (List.map vi a0.2.2.2) a0.2.2.2.length] 0]] 0]) from (ld_one ag98 rfl))
  obtain ⟨r2296, h2297, h⟩ := bs h
  have e2298 := (ngrind_each_1_k_grind_validDemand_1_1_ok k a0.2.1 a0.2.2 _ h2297)
  rcases ifs h with ⟨h2299, h⟩ | ⟨h2299, h⟩
  ·injection h with h; subst h
   exact fun_ok pm pn Go.Proofs.Try.func49 (r0 := vi 0) (ans := [.reg (.n :: []), .reg (nN 3 []), .unr 4, .reg (.n :: []), .br true, .reg (.n :: .v (VV.fn 102 [VV.tp [vb a0.1.1] 0, VV.tp [vi a0.1.2] 0]) :: .n :: []), .reg (.n :: .call (vi r2290) :: .n :: []), .reg (.n :: .n :: []), .br false, .reg (.n :: .n :: []), .reg (.n :: []), .br true, .reg (arD1_5 a0), .reg (.n :: .call (vi r2296) :: .n :: []), .reg (.n :: .n :: []), .br false, .reg (.n :: .n :: []), .reg (.n :: []), .br false, .reg (.n :: [])]) (fr := true) (by kernel_rfl) (an (an (ti trivial) (an (an (ti (ti (ti trivial))) (an (an (ti trivial) (an (an (show (decide ((0 : Int) < 2)) = true from (decide_eq_true (by decide))) trivial) (an (an (an e2288 (an e2289 (ti trivial))) (an (ti (an e2292 (ti trivial))) (an (ti (ti trivial)) (an (not_f (decide_eq_true h2293)) trivial)))) (ti (ti trivial))))) (an (an (ti trivial) (an (an (show (decide ((1 : Int) < 2)) = true from (decide_eq_true (by decide))) trivial) (an (an (an e2294 (an e2295 (ti trivial))) (an (ti (an e2298 (ti trivial))) (an (ti (ti trivial)) (an (not_f (decide_eq_true h2299)) trivial)))) (ti (ti trivial))))) (an (ti trivial) (an (show (decide ((2 : Int) < 2)) = false from (decide_eq_false (by decide))) trivial))))) (an (ti trivial) trivial))) (ti trivial)) (Wv.refl _)
  ·injection h with h; subst h
   exact fun_ok pm pn Go.Proofs.Try.func49 (r0 := vi r2296) (ans := [.reg (.n :: []), .reg (nN 3 []), .unr 3, .reg (.n :: []), .br true, .reg (.n :: .v (VV.fn 102 [VV.tp [vb a0.1.1] 0, VV.tp [vi a0.1.2] 0]) :: .n :: []), .reg (.n :: .call (vi r2290) :: .n :: []), .reg (.n :: .n :: []), .br false, .reg (.n :: .n :: []), .reg (.n :: []), .br true, .reg (arD1_5 a0), .reg (.n :: .call (vi r2296) :: .n :: []), .reg (.n :: .n :: []), .br true, .reg (.n :: .n :: [])]) (fr := true) (by kernel_rfl) (an (an (ti trivial) (an (ti (ti (ti trivial))) (an (an (ti trivial) (an (an (show (decide ((0 : Int) < 2)) = true from (decide_eq_true (by decide))) trivial) (an (an (an e2288 (an e2289 (ti trivial))) (an (ti (an e2292 (ti trivial))) (an (ti (ti trivial)) (an (not_f (decide_eq_true h2293)) trivial)))) (ti (ti trivial))))) (an (ti trivial) (an (an (show (decide ((1 : Int) < 2)) = true from (decide_eq_true (by decide))) trivial) (an (an e2294 (an e2295 (ti trivial))) (an (ti (an e2298 (ti trivial))) (an (ti (ti trivial)) (an (not_t (decide_eq_false h2299)) (an (ti (ti trivial)) trivial)))))))))) (ti trivial)) (Wv.refl _)
 ·injection h with h; subst h
  exact fun_ok pm pn Go.Proofs.Try.func49 (r0 := vi r2290) (ans := [.reg (.n :: []), .reg (nN 3 []), .unr 2, .reg (.n :: []), .br true, .reg (.n :: .v (VV.fn 102 [VV.tp [vb a0.1.1] 0, VV.tp [vi a0.1.2] 0]) :: .n :: []), .reg (.n :: .call (vi r2290) :: .n :: []), .reg (.n :: .n :: []), .br true, .reg (.n :: .n :: [])]) (fr := true) (by kernel_rfl) (an (an (ti trivial) (an (ti (ti (ti trivial))) (an (ti trivial) (an (an (show (decide ((0 : Int) < 2)) = true from (decide_eq_true (by decide))) trivial) (an (an e2288 (an e2289 (ti trivial))) (an (ti (an e2292 (ti trivial))) (an (ti (ti trivial)) (an (not_t (decide_eq_false h2293)) (an (ti (ti trivial)) trivial))))))))) (ti trivial)) (Wv.refl _)
theorem eqD1_5 (z0 : (Bool × Int)) (z1 : (Int × ((List Int) × (List Int)))) : [VV.tr ([VV.fn 102 [VV.tp [vb (((z0, z1).1).1)] 0, VV.tp [vi (((z0, z1).1).2)] 0], VV.fn 117 [VV.tp [vi (((z0, z1).2).1)] 0, VV.tp [VV.fn 93 [VV.tp [VV.tr (List.map vi ((((z0, z1).2).2).1)) (((((z0, z1).2).2).1).length), VV.tr (List.map vi ((((z0, z1).2).2).2)) (((((z0, z1).2).2).2).length)] 0]] 0]]) 2] = [VV.tr (List.drop 0 (List.map unfr [VV.fn 102 [VV.tp [vb z0.1] 0, VV.tp [vi z0.2] 0], VV.fn 117 [VV.tp [vi z1.1] 0, VV.tp [VV.fn 93 [VV.tp [VV.tr (List.map vi z1.2.1) z1.2.1.length, VV.tr (List.map vi z1.2.2) z1.2.2.length] 0]] 0]])) 2] := by first | rfl | (simp only [drop0, unfr_vi, unfr_vb, List.map_cons, List.map_nil, un_i, un_b, un_tr, List.length_map, List.length_cons, List.length_nil]; done) | (simp only [drop0, unfr_vi, unfr_vb, List.map_cons, List.map_nil, un_i, un_b, un_tr, List.length_map, List.length_cons, List.length_nil]; rfl) | (simp only [drop0, unfr_vi, unfr_vb, List.map_cons, List.map_nil, un_i, un_b, un_tr, List.length_map, List.length_cons, List.length_nil, List.length_cons, List.length_nil, List.length_append]; done)
def arD1_6 (z0 : (List Int)) (z1 : (List SStroke)) (z2 : Int) (z3 : (List Int)) (z4 : (Bool × Int)) (z5 : (Int × ((List Int) × (List Int)))) (z6 : Int) : List Ans := (.n :: .v (VV.tr (List.map vi z0) z0.length) :: .n :: .v (VV.tr (List.flatMap c_SStroke z1) z1.length) :: .call (vi z2) :: nN 3 (.v (VV.tr (List.map vi z3) z3.length) :: .n :: .v (VV.tr (List.flatMap c_SStroke z1) z1.length) :: .call (vi z2) :: .n :: .b true :: .call (VV.fn 102 [VV.tp [vb z4.1] 0, VV.tp [vi z4.2] 0]) :: .v (VV.tr (List.flatMap c_SStroke z1) z1.length) :: .call (vi z2) :: .n :: .call (VV.fn 117 [VV.tp [vi z5.1] 0, VV.tp [VV.fn 93 [VV.tp [VV.tr (List.map vi z5.2.1) z5.2.1.length, VV.tr (List.map vi z5.2.2) z5.2.2.length] 0]] 0]) :: .n :: .call (vi z6) :: .n :: []))
def arD1_7 (z0 : (List Int)) (z1 : (List SStroke)) (z2 : Int) (z3 : (Bool × Int)) (z4 : (Int × ((List Int) × (List Int)))) (z5 : Int) : List Ans := (.n :: .v (VV.tr (List.map vi z0) z0.length) :: .n :: .v (VV.tr (List.flatMap c_SStroke z1) z1.length) :: .call (vi z2) :: .n :: .n :: nS 6 (.b false :: .call (VV.fn 102 [VV.tp [vb z3.1] 0, VV.tp [vi z3.2] 0]) :: .v (VV.tr (List.flatMap c_SStroke z1) z1.length) :: .call (vi z2) :: .n :: .call (VV.fn 117 [VV.tp [vi z4.1] 0, VV.tp [VV.fn 93 [VV.tp [VV.tr (List.map vi z4.2.1) z4.2.1.length, VV.tr (List.map vi z4.2.2) z4.2.2.length] 0]] 0]) :: .n :: .call (vi z5) :: .n :: []))
def ngrind_validDemand_1 (k : Nat) (q0_0 : (List Int)) (q0_1 : (List Int)) (q1_0 : (List SStroke)) : Option Int :=
 (ngrind_zonesOf k q1_0).bind fun r2317 => (if (q0_0.length : Int) = r2317 then ((ngrind_need k (decide ((q0_1.length : Int) = r2317)) 10).bind fun r2324 => ((ngrind_each_c1_grind_validDemand_1_1 k r2317 (q0_0, q0_1)).bind fun r2329 => ((ngrind_firstOf_c0_Lgrind_need_1_grind_each_1_grind_validDemand_1_1 k (r2324, r2329)).bind fun r2332 => (some r2332)))) else ((ngrind_need k false 10).bind fun r2336 => ((ngrind_each_c1_grind_validDemand_1_1 k r2317 (q0_0, q0_1)).bind fun r2340 => ((ngrind_firstOf_c0_Lgrind_need_1_grind_each_1_grind_validDemand_1_1 k (r2336, r2340)).bind fun r2343 => (some r2343)))))
theorem ngrind_validDemand_1_ok (k : Nat) (q0_0 : (List Int)) (q0_1 : (List Int)) (q1_0 : (List SStroke)) (r : Int) (h : ngrind_validDemand_1 k q0_0 q0_1 q1_0 = some r) : VC Go.Proofs.Try.prog 91 [VV.tp [VV.tr (List.map vi q0_0) q0_0.length, VV.tr (List.map vi q0_1) q0_1.length] 0, VV.tp [VV.tr (List.flatMap c_SStroke q1_0) q1_0.length] 0] (vi r) := by
 unfold ngrind_validDemand_1 at h
 have e2315 := (show loadL Go.Proofs.Try.prog 23 0 [VV.tr (List.map vi q0_0) q0_0.length, VV.tr (List.map vi q0_1) q0_1.length] = some (VV.tr (List.map vi q0_0) q0_0.length) from (ld_one ag23 rfl))
 have e2316 := (show loadL Go.Proofs.Try.prog 22 0 [VV.tr (List.flatMap c_SStroke q1_0) q1_0.length] = some (VV.tr (List.flatMap c_SStroke q1_0) q1_0.length) from (ld_one ag22 rfl))
 obtain ⟨r2317, h2318, h⟩ := bs h
 rcases ifs h with ⟨h2319, h⟩ | ⟨h2319, h⟩
 ·have e2320 := (an (decide_eq_true h2319) (show loadL Go.Proofs.Try.prog 23 1 [VV.tr (List.map vi q0_0) q0_0.length, VV.tr (List.map vi q0_1) q0_1.length] = some (VV.tr (List.map vi q0_1) q0_1.length) from (ld_one ag23 rfl)))
  have e2321 := (an (decide_eq_true h2319) (show loadL Go.Proofs.Try.prog 22 0 [VV.tr (List.flatMap c_SStroke q1_0) q1_0.length] = some (VV.tr (List.flatMap c_SStroke q1_0) q1_0.length) from (ld_one ag22 rfl)))
  have e2323 := (an (decide_eq_true h2319) (ngrind_zonesOf_ok k q1_0 _ h2318))
  obtain ⟨r2324, h2325, h⟩ := bs h
  have e2326 := (ngrind_need_ok k (decide ((q0_1.length : Int) = r2317)) 10 _ h2325)
  have e2327 := (show loadL Go.Proofs.Try.prog 22 0 [VV.tr (List.flatMap c_SStroke q1_0) q1_0.length] = some (VV.tr (List.flatMap c_SStroke q1_0) q1_0.length) from (ld_one ag22 rfl))
  obtain ⟨r2329, h2330, h⟩ := bs h
  have e2331 := (VC.args (ngrind_each_c1_grind_validDemand_1_1_ok k r2317 (q0_0, q0_1) _ h2330) (eqD1_2 r2317 q0_0 q0_1))
  obtain ⟨r2332, h2333, h⟩ := bs h
  have e2334 := (VC.args (ngrind_firstOf_c0_Lgrind_need_1_grind_each_1_grind_validDemand_1_1_ok k (r2324, r2329) _ h2333) (eqD1_5 r2324 r2329))
  have e2335 := (ti (an e2315 (ti (an e2316 (an (ngrind_zonesOf_ok k q1_0 _ h2318) (ti (ti (an (an (decide_eq_true h2319) trivial) (an e2320 (an (an (decide_eq_true h2319) trivial) (an e2321 (an e2323 (an (an (decide_eq_true h2319) trivial) (an (decide_eq_true h2319) (an e2326 (an e2327 (an (ngrind_zonesOf_ok k q1_0 _ h2318) (ti (an e2331 (ti (an e2334 (ti trivial))))))))))))))))))))))
  injection h with h; subst h
  exact fun_ok pm pn Go.Proofs.Try.func91 (r0 := vi r2332) (ans := [.reg (.n :: []), .reg (arD1_6 q0_0 q1_0 r2317 q0_1 r2324 r2329 r2332)]) (fr := true) (by kernel_rfl) (an (an (ti trivial) (an e2335 trivial)) (ti trivial)) (Wv.refl _)
 ·obtain ⟨r2336, h2337, h⟩ := bs h
  have e2338 := (show loadL Go.Proofs.Try.prog 22 0 [VV.tr (List.flatMap c_SStroke q1_0) q1_0.length] = some (VV.tr (List.flatMap c_SStroke q1_0) q1_0.length) from (ld_one ag22 rfl))
  obtain ⟨r2340, h2341, h⟩ := bs h
  have e2342 := (VC.args (ngrind_each_c1_grind_validDemand_1_1_ok k r2317 (q0_0, q0_1) _ h2341) (eqD1_2 r2317 q0_0 q0_1))
  obtain ⟨r2343, h2344, h⟩ := bs h
  have e2345 := (VC.args (ngrind_firstOf_c0_Lgrind_need_1_grind_each_1_grind_validDemand_1_1_ok k (r2336, r2340) _ h2344) (eqD1_5 r2336 r2340))
  have e2346 := (ti (an e2315 (ti (an e2316 (an (ngrind_zonesOf_ok k q1_0 _ h2318) (ti (ti (an (decide_eq_false h2319) (an (decide_eq_false h2319) (an (decide_eq_false h2319) (an (decide_eq_false h2319) (an (decide_eq_false h2319) (an (decide_eq_false h2319) (an (decide_eq_false h2319) (an (ngrind_need_ok k false 10 _ h2337) (an e2338 (an (ngrind_zonesOf_ok k q1_0 _ h2318) (ti (an e2342 (ti (an e2345 (ti trivial))))))))))))))))))))))
  injection h with h; subst h
  exact fun_ok pm pn Go.Proofs.Try.func91 (r0 := vi r2343) (ans := [.reg (.n :: []), .reg (arD1_7 q0_0 q1_0 r2317 r2336 r2340 r2343)]) (fr := true) (by kernel_rfl) (an (an (ti trivial) (an e2346 trivial)) (ti trivial)) (Wv.refl _)
theorem eqD1_6 (z0 : Int) : [vi 1, vi 10000000, VV.tr (List.map vi ([z0] : List Int)) (([z0] : List Int).length)] = [vi 1, vi 10000000, VV.tr [vi z0] 1] := by first | rfl | (simp only [unfr_vi, List.map_cons, List.map_nil, un_i, un_tr, List.length_map, List.length_cons, List.length_nil]; done) | (simp only [unfr_vi, List.map_cons, List.map_nil, un_i, un_tr, List.length_map, List.length_cons, List.length_nil]; rfl) | (simp only [unfr_vi, List.map_cons, List.map_nil, un_i, un_tr, List.length_map, List.length_cons, List.length_nil, List.length_cons, List.length_nil, List.length_append]; done)
def arD1_8 (z0 : ((Bool × Int) × ((List Int) × Int × Int) × ((List Int) × Int × Int))) : List Ans := (.n :: .v (VV.fn 114 [VV.tp [VV.tr (List.map vi z0.2.1.1) z0.2.1.1.length] 0, VV.tp [vi z0.2.1.2.1] 0, VV.tp [vi z0.2.1.2.2] 0]) :: .n :: [])
def arD1_9 (z0 : ((Bool × Int) × ((List Int) × Int × Int) × ((List Int) × Int × Int))) : List Ans := (.n :: .v (VV.fn 114 [VV.tp [VV.tr (List.map vi z0.2.2.1) z0.2.2.1.length] 0, VV.tp [vi z0.2.2.2.1] 0, VV.tp [vi z0.2.2.2.2] 0]) :: .n :: [])
def ngrind_firstOf_c0_Lgrind_need_1_grind_within_1_grind_within_1 (k : Nat) (a0 : ((Bool × Int) × ((List Int) × Int × Int) × ((List Int) × Int × Int))) : Option Int :=
 (ngrind_need_1 k a0.1.1 a0.1.2).bind fun r2386 => (if r2386 = 0 then ((ngrind_within_1 k a0.2.1.1 a0.2.1.2.1 a0.2.1.2.2).bind fun r2392 => (if r2392 = 0 then ((ngrind_within_1 k a0.2.2.1 a0.2.2.2.1 a0.2.2.2.2).bind fun r2398 => (if r2398 = 0 then (some 0) else (some r2398))) else (some r2392))) else (some r2386))
theorem ngrind_firstOf_c0_Lgrind_need_1_grind_within_1_grind_within_1_ok (k : Nat) (a0 : ((Bool × Int) × ((List Int) × Int × Int) × ((List Int) × Int × Int))) (r : Int) (h : ngrind_firstOf_c0_Lgrind_need_1_grind_within_1_grind_within_1 k a0 = some r) : VC Go.Proofs.Try.prog 49 [VV.tr ([VV.fn 102 [VV.tp [vb a0.1.1] 0, VV.tp [vi a0.1.2] 0], VV.fn 114 [VV.tp [VV.tr (List.map vi a0.2.1.1) a0.2.1.1.length] 0, VV.tp [vi a0.2.1.2.1] 0, VV.tp [vi a0.2.1.2.2] 0], VV.fn 114 [VV.tp [VV.tr (List.map vi a0.2.2.1) a0.2.2.1.length] 0, VV.tp [vi a0.2.2.2.1] 0, VV.tp [vi a0.2.2.2.2] 0]]) 3] (vi r) := by
 unfold ngrind_firstOf_c0_Lgrind_need_1_grind_within_1_grind_within_1 at h
 have e2384 := (show (0 : Int) <= 0 /\ (0 : Int) < ((3 : Nat) : Int) from ⟨by decide, by decide⟩)
 have e2385 := (show loadL Go.Proofs.Try.prog 98 ((0 : Int).toNat * 1) ([VV.fn 102 [VV.tp [vb a0.1.1] 0, VV.tp [vi a0.1.2] 0], VV.fn 114 [VV.tp [VV.tr (List.map vi a0.2.1.1) a0.2.1.1.length] 0, VV.tp [vi a0.2.1.2.1] 0, VV.tp [vi a0.2.1.2.2] 0], VV.fn 114 [VV.tp [VV.tr (List.map vi a0.2.2.1) a0.2.2.1.length] 0, VV.tp [vi a0.2.2.2.1] 0, VV.tp [vi a0.2.2.2.2] 0]]) = some (VV.fn 102 [VV.tp [vb a0.1.1] 0, VV.tp [vi a0.1.2] 0]) from (ld_one ag98 rfl))
 obtain ⟨r2386, h2387, h⟩ := bs h
 have e2388 := (ngrind_need_1_ok k a0.1.1 a0.1.2 _ h2387)
 rcases ifs h with ⟨h2389, h⟩ | ⟨h2389, h⟩
 ·have e2390 := (show (0 : Int) <= 1 /\ (1 : Int) < ((3 : Nat) : Int) from ⟨by decide, by decide⟩)
  have e2391 := (show loadL Go.Proofs.Try.prog 98 ((1 : Int).toNat * 1) ([VV.fn 102 [VV.tp [vb a0.1.1] 0, VV.tp [vi a0.1.2] 0], VV.fn 114 [VV.tp [VV.tr (List.map vi a0.2.1.1) a0.2.1.1.length] 0, VV.tp [vi a0.2.1.2.1] 0, VV.tp [vi a0.2.1.2.2] 0], VV.fn 114 [VV.tp [VV.tr (List.map vi a0.2.2.1) a0.2.2.1.length] 0, VV.tp [vi a0.2.2.2.1] 0, VV.tp [vi a0.2.2.2.2] 0]]) = some (VV.fn 114 [VV.tp [VV.tr (List.map vi a0.2.1.1) a0.2.1.1.length] 0, VV.tp [vi a0.2.1.2.1] 0, VV.tp [vi a0.2.1.2.2] 0]) from (ld_one ag98 rfl))
  obtain ⟨r2392, h2393, h⟩ := bs h
  have e2394 := (ngrind_within_1_ok k a0.2.1.1 a0.2.1.2.1 a0.2.1.2.2 _ h2393)
  rcases ifs h with ⟨h2395, h⟩ | ⟨h2395, h⟩
  ·have e2396 := (show (0 : Int) <= 2 /\ (2 : Int) < ((3 : Nat) : Int) from ⟨by decide, by decide⟩)
   have e2397 := (show loadL Go.Proofs.Try.prog 98 ((2 : Int).toNat * 1) ([VV.fn 102 [VV.tp [vb a0.1.1] 0, VV.tp [vi a0.1.2] 0], VV.fn 114 [VV.tp [VV.tr (List.map vi a0.2.1.1) a0.2.1.1.length] 0, VV.tp [vi a0.2.1.2.1] 0, VV.tp [vi a0.2.1.2.2] 0], VV.fn 114 [VV.tp [VV.tr (List.map vi a0.2.2.1) a0.2.2.1.length] 0, VV.tp [vi a0.2.2.2.1] 0, VV.tp [vi a0.2.2.2.2] 0]]) = some (VV.fn 114 [VV.tp [VV.tr (List.map vi a0.2.2.1) a0.2.2.1.length] 0, VV.tp [vi a0.2.2.2.1] 0, VV.tp [vi a0.2.2.2.2] 0]) from (ld_one ag98 rfl))
   obtain ⟨r2398, h2399, h⟩ := bs h
   have e2400 := (ngrind_within_1_ok k a0.2.2.1 a0.2.2.2.1 a0.2.2.2.2 _ h2399)
   rcases ifs h with ⟨h2401, h⟩ | ⟨h2401, h⟩
   ·injection h with h; subst h
    exact fun_ok pm pn Go.Proofs.Try.func49 (r0 := vi 0) (ans := [.reg (.n :: []), .reg (nN 3 []), .unr 5, .reg (.n :: []), .br true, .reg (.n :: .v (VV.fn 102 [VV.tp [vb a0.1.1] 0, VV.tp [vi a0.1.2] 0]) :: .n :: []), .reg (.n :: .call (vi r2386) :: .n :: []), .reg (.n :: .n :: []), .br false, .reg (.n :: .n :: []), .reg (.n :: []), .br true, .reg (arD1_8 a0), .reg (.n :: .call (vi r2392) :: .n :: []), .reg (.n :: .n :: []), .br false, .reg (.n :: .n :: []), .reg (.n :: []), .br true, .reg (arD1_9 a0), .reg (.n :: .call (vi r2398) :: .n :: []), .reg (.n :: .n :: []), .br false, .reg (.n :: .n :: []), .reg (.n :: []), .br false, .reg (.n :: [])]) (fr := true) (by kernel_rfl) (an (an (ti trivial) (an (an (ti (ti (ti trivial))) (an (an (ti trivial) (an (an (show (decide ((0 : Int) < 3)) = true from (decide_eq_true (by decide))) trivial) (an (an (an e2384 (an e2385 (ti trivial))) (an (ti (an e2388 (ti trivial))) (an (ti (ti trivial)) (an (not_f (decide_eq_true h2389)) trivial)))) (ti (ti trivial))))) (an (an (ti trivial) (an (an (show (decide ((1 : Int) < 3)) = true from (decide_eq_true (by decide))) trivial) (an (an (an e2390 (an e2391 (ti trivial))) (an (ti (an e2394 (ti trivial))) (an (ti (ti trivial)) (an (not_f (decide_eq_true h2395)) trivial)))) (ti (ti trivial))))) (an (an (ti trivial) (an (an (show (decide ((2 : Int) < 3)) = true from (decide_eq_true (by decide))) trivial) (an (an (an e2396 (an e2397 (ti trivial))) (an (ti (an e2400 (ti trivial))) (an (ti (ti trivial)) (an (not_f (decide_eq_true h2401)) trivial)))) (ti (ti trivial))))) (an (ti trivial) (an (show (decide ((3 : Int) < 3)) = false from (decide_eq_false (by decide))) trivial)))))) (an (ti trivial) trivial))) (ti trivial)) (Wv.refl _)
   ·injection h with h; subst h
    exact fun_ok pm pn Go.Proofs.Try.func49 (r0 := vi r2398) (ans := [.reg (.n :: []), .reg (nN 3 []), .unr 4, .reg (.n :: []), .br true, .reg (.n :: .v (VV.fn 102 [VV.tp [vb a0.1.1] 0, VV.tp [vi a0.1.2] 0]) :: .n :: []), .reg (.n :: .call (vi r2386) :: .n :: []), .reg (.n :: .n :: []), .br false, .reg (.n :: .n :: []), .reg (.n :: []), .br true, .reg (arD1_8 a0), .reg (.n :: .call (vi r2392) :: .n :: []), .reg (.n :: .n :: []), .br false, .reg (.n :: .n :: []), .reg (.n :: []), .br true, .reg (arD1_9 a0), .reg (.n :: .call (vi r2398) :: .n :: []), .reg (.n :: .n :: []), .br true, .reg (.n :: .n :: [])]) (fr := true) (by kernel_rfl) (an (an (ti trivial) (an (ti (ti (ti trivial))) (an (an (ti trivial) (an (an (show (decide ((0 : Int) < 3)) = true from (decide_eq_true (by decide))) trivial) (an (an (an e2384 (an e2385 (ti trivial))) (an (ti (an e2388 (ti trivial))) (an (ti (ti trivial)) (an (not_f (decide_eq_true h2389)) trivial)))) (ti (ti trivial))))) (an (an (ti trivial) (an (an (show (decide ((1 : Int) < 3)) = true from (decide_eq_true (by decide))) trivial) (an (an (an e2390 (an e2391 (ti trivial))) (an (ti (an e2394 (ti trivial))) (an (ti (ti trivial)) (an (not_f (decide_eq_true h2395)) trivial)))) (ti (ti trivial))))) (an (ti trivial) (an (an (show (decide ((2 : Int) < 3)) = true from (decide_eq_true (by decide))) trivial) (an (an e2396 (an e2397 (ti trivial))) (an (ti (an e2400 (ti trivial))) (an (ti (ti trivial)) (an (not_t (decide_eq_false h2401)) (an (ti (ti trivial)) trivial))))))))))) (ti trivial)) (Wv.refl _)
  ·injection h with h; subst h
   exact fun_ok pm pn Go.Proofs.Try.func49 (r0 := vi r2392) (ans := [.reg (.n :: []), .reg (nN 3 []), .unr 3, .reg (.n :: []), .br true, .reg (.n :: .v (VV.fn 102 [VV.tp [vb a0.1.1] 0, VV.tp [vi a0.1.2] 0]) :: .n :: []), .reg (.n :: .call (vi r2386) :: .n :: []), .reg (.n :: .n :: []), .br false, .reg (.n :: .n :: []), .reg (.n :: []), .br true, .reg (arD1_8 a0), .reg (.n :: .call (vi r2392) :: .n :: []), .reg (.n :: .n :: []), .br true, .reg (.n :: .n :: [])]) (fr := true) (by kernel_rfl) (an (an (ti trivial) (an (ti (ti (ti trivial))) (an (an (ti trivial) (an (an (show (decide ((0 : Int) < 3)) = true from (decide_eq_true (by decide))) trivial) (an (an (an e2384 (an e2385 (ti trivial))) (an (ti (an e2388 (ti trivial))) (an (ti (ti trivial)) (an (not_f (decide_eq_true h2389)) trivial)))) (ti (ti trivial))))) (an (ti trivial) (an (an (show (decide ((1 : Int) < 3)) = true from (decide_eq_true (by decide))) trivial) (an (an e2390 (an e2391 (ti trivial))) (an (ti (an e2394 (ti trivial))) (an (ti (ti trivial)) (an (not_t (decide_eq_false h2395)) (an (ti (ti trivial)) trivial)))))))))) (ti trivial)) (Wv.refl _)
 ·injection h with h; subst h
  exact fun_ok pm pn Go.Proofs.Try.func49 (r0 := vi r2386) (ans := [.reg (.n :: []), .reg (nN 3 []), .unr 2, .reg (.n :: []), .br true, .reg (.n :: .v (VV.fn 102 [VV.tp [vb a0.1.1] 0, VV.tp [vi a0.1.2] 0]) :: .n :: []), .reg (.n :: .call (vi r2386) :: .n :: []), .reg (.n :: .n :: []), .br true, .reg (.n :: .n :: [])]) (fr := true) (by kernel_rfl) (an (an (ti trivial) (an (ti (ti (ti trivial))) (an (ti trivial) (an (an (show (decide ((0 : Int) < 3)) = true from (decide_eq_true (by decide))) trivial) (an (an e2384 (an e2385 (ti trivial))) (an (ti (an e2388 (ti trivial))) (an (ti (ti trivial)) (an (not_t (decide_eq_false h2389)) (an (ti (ti trivial)) trivial))))))))) (ti trivial)) (Wv.refl _)
theorem eqD1_7 (z0 : (Bool × Int)) (z1 : ((List Int) × Int × Int)) (z2 : ((List Int) × Int × Int)) : [VV.tr ([VV.fn 102 [VV.tp [vb (((z0, z1, z2).1).1)] 0, VV.tp [vi (((z0, z1, z2).1).2)] 0], VV.fn 114 [VV.tp [VV.tr (List.map vi (((z0, z1, z2).2.1).1)) ((((z0, z1, z2).2.1).1).length)] 0, VV.tp [vi (((z0, z1, z2).2.1).2.1)] 0, VV.tp [vi (((z0, z1, z2).2.1).2.2)] 0], VV.fn 114 [VV.tp [VV.tr (List.map vi (((z0, z1, z2).2.2).1)) ((((z0, z1, z2).2.2).1).length)] 0, VV.tp [vi (((z0, z1, z2).2.2).2.1)] 0, VV.tp [vi (((z0, z1, z2).2.2).2.2)] 0]]) 3] = [VV.tr (List.drop 0 (List.map unfr [VV.fn 102 [VV.tp [vb z0.1] 0, VV.tp [vi z0.2] 0], VV.fn 114 [VV.tp [VV.tr (List.map vi z1.1) z1.1.length] 0, VV.tp [vi z1.2.1] 0, VV.tp [vi z1.2.2] 0], VV.fn 114 [VV.tp [VV.tr (List.map vi z2.1) z2.1.length] 0, VV.tp [vi z2.2.1] 0, VV.tp [vi z2.2.2] 0]])) 3] := by first | rfl | (simp only [drop0, unfr_vi, unfr_vb, List.map_cons, List.map_nil, un_i, un_b, un_tr, List.length_map, List.length_cons, List.length_nil]; done) | (simp only [drop0, unfr_vi, unfr_vb, List.map_cons, List.map_nil, un_i, un_b, un_tr, List.length_map, List.length_cons, List.length_nil]; rfl) | (simp only [drop0, unfr_vi, unfr_vb, List.map_cons, List.map_nil, un_i, un_b, un_tr, List.length_map, List.length_cons, List.length_nil, List.length_cons, List.length_nil, List.length_append]; done)
def arD1_10 (z0 : (List Int)) (z1 : (List SStroke)) (z2 : (Bool × Int)) (z3 : Int) (z4 : ((List Int) × Int × Int)) (z5 : ((List Int) × Int × Int)) (z6 : Int) : List Ans := (.n :: .v (VV.tr (List.map vi z0) z0.length) :: .n :: .v (VV.tr (List.flatMap c_SStroke z1) z1.length) :: .n :: .n :: .call (VV.fn 102 [VV.tp [vb z2.1] 0, VV.tp [vi z2.2] 0]) :: .n :: .v (vi z3) :: .v VV.any :: .call (VV.fn 114 [VV.tp [VV.tr (List.map vi z4.1) z4.1.length] 0, VV.tp [vi z4.2.1] 0, VV.tp [vi z4.2.2] 0]) :: .n :: .v (VV.tr (List.map vi z0) z0.length) :: .call (VV.fn 114 [VV.tp [VV.tr (List.map vi z5.1) z5.1.length] 0, VV.tp [vi z5.2.1] 0, VV.tp [vi z5.2.2] 0]) :: .n :: .call (vi z6) :: .n :: [])
def ngrind_validPlan_1 (k : Nat) (q0_0 : (List Int)) (q0_1 : Int) (q1_0 : (List SStroke)) : Option Int :=
 (ngrind_need k (decide ((q0_0.length : Int) = (q1_0.length : Int))) 10).bind fun r2408 => ((ngrind_within k 1 10000000 ([q0_1] : List Int)).bind fun r2412 => ((ngrind_within k 0 1000000000 q0_0).bind fun r2416 => ((ngrind_firstOf_c0_Lgrind_need_1_grind_within_1_grind_within_1 k (r2408, r2412, r2416)).bind fun r2419 => (some r2419))))
theorem ngrind_validPlan_1_ok (k : Nat) (q0_0 : (List Int)) (q0_1 : Int) (q1_0 : (List SStroke)) (r : Int) (h : ngrind_validPlan_1 k q0_0 q0_1 q1_0 = some r) : VC Go.Proofs.Try.prog 99 [VV.tp [VV.tr (List.map vi q0_0) q0_0.length, vi q0_1] 0, VV.tp [VV.tr (List.flatMap c_SStroke q1_0) q1_0.length] 0] (vi r) := by
 unfold ngrind_validPlan_1 at h
 have e2406 := (show loadL Go.Proofs.Try.prog 23 0 [VV.tr (List.map vi q0_0) q0_0.length, vi q0_1] = some (VV.tr (List.map vi q0_0) q0_0.length) from (ld_one ag23 rfl))
 have e2407 := (show loadL Go.Proofs.Try.prog 22 0 [VV.tr (List.flatMap c_SStroke q1_0) q1_0.length] = some (VV.tr (List.flatMap c_SStroke q1_0) q1_0.length) from (ld_one ag22 rfl))
 obtain ⟨r2408, h2409, h⟩ := bs h
 have e2410 := (ngrind_need_ok k (decide ((q0_0.length : Int) = (q1_0.length : Int))) 10 _ h2409)
 have e2411 := (show loadL Go.Proofs.Try.prog 3 1 [VV.tr (List.map vi q0_0) q0_0.length, vi q0_1] = some (vi q0_1) from (ld_one ag3 rfl))
 obtain ⟨r2412, h2413, h⟩ := bs h
 have e2414 := (VC.args (ngrind_within_ok k 1 10000000 ([q0_1] : List Int) _ h2413) (eqD1_6 q0_1))
 have e2415 := (show loadL Go.Proofs.Try.prog 23 0 [VV.tr (List.map vi q0_0) q0_0.length, vi q0_1] = some (VV.tr (List.map vi q0_0) q0_0.length) from (ld_one ag23 rfl))
 obtain ⟨r2416, h2417, h⟩ := bs h
 have e2418 := (ngrind_within_ok k 0 1000000000 q0_0 _ h2417)
 obtain ⟨r2419, h2420, h⟩ := bs h
 have e2421 := (VC.args (ngrind_firstOf_c0_Lgrind_need_1_grind_within_1_grind_within_1_ok k (r2408, r2412, r2416) _ h2420) (eqD1_7 r2408 r2412 r2416))
 have e2422 := (ti (an e2406 (ti (an e2407 (ti (ti (an e2410 (ti (an e2411 (ti (an e2414 (ti (an e2415 (an e2418 (ti (an e2421 (ti trivial)))))))))))))))))
 injection h with h; subst h
 exact fun_ok pm pn Go.Proofs.Try.func99 (r0 := vi r2419) (ans := [.reg (.n :: []), .reg (arD1_10 q0_0 q1_0 r2408 q0_1 r2412 r2416 r2419)]) (fr := true) (by kernel_rfl) (an (an (ti trivial) (an e2422 trivial)) (ti trivial)) (Wv.refl _)
def arD1_11 (z0 : ((List SStroke) × ((List Int) × (List Int) × (List SStroke)) × ((List Int) × Int × (List SStroke)))) : List Ans := (.n :: .v (VV.fn 89 [VV.tp [VV.tr (List.flatMap c_SStroke z0.1) z0.1.length] 0]) :: .n :: [])
def arD1_12 (z0 : ((List SStroke) × ((List Int) × (List Int) × (List SStroke)) × ((List Int) × Int × (List SStroke)))) : List Ans := (.n :: .v (VV.fn 91 [VV.tp [VV.tr (List.map vi z0.2.1.1) z0.2.1.1.length, VV.tr (List.map vi z0.2.1.2.1) z0.2.1.2.1.length] 0, VV.tp [VV.tr (List.flatMap c_SStroke z0.2.1.2.2) z0.2.1.2.2.length] 0]) :: .n :: [])
def arD1_13 (z0 : ((List SStroke) × ((List Int) × (List Int) × (List SStroke)) × ((List Int) × Int × (List SStroke)))) : List Ans := (.n :: .v (VV.fn 99 [VV.tp [VV.tr (List.map vi z0.2.2.1) z0.2.2.1.length, vi z0.2.2.2.1] 0, VV.tp [VV.tr (List.flatMap c_SStroke z0.2.2.2.2) z0.2.2.2.2.length] 0]) :: .n :: [])
def ngrind_firstOf_c0_Lgrind_validStrokes_1_grind_validDemand_1_grind_validPlan_1 (k : Nat) (a0 : ((List SStroke) × ((List Int) × (List Int) × (List SStroke)) × ((List Int) × Int × (List SStroke)))) : Option Int :=
 (ngrind_validStrokes_1 k a0.1).bind fun r2429 => (if r2429 = 0 then ((ngrind_validDemand_1 k a0.2.1.1 a0.2.1.2.1 a0.2.1.2.2).bind fun r2435 => (if r2435 = 0 then ((ngrind_validPlan_1 k a0.2.2.1 a0.2.2.2.1 a0.2.2.2.2).bind fun r2441 => (if r2441 = 0 then (some 0) else (some r2441))) else (some r2435))) else (some r2429))
theorem ngrind_firstOf_c0_Lgrind_validStrokes_1_grind_validDemand_1_grind_validPlan_1_ok (k : Nat) (a0 : ((List SStroke) × ((List Int) × (List Int) × (List SStroke)) × ((List Int) × Int × (List SStroke)))) (r : Int) (h : ngrind_firstOf_c0_Lgrind_validStrokes_1_grind_validDemand_1_grind_validPlan_1 k a0 = some r) : VC Go.Proofs.Try.prog 49 [VV.tr ([VV.fn 89 [VV.tp [VV.tr (List.flatMap c_SStroke a0.1) a0.1.length] 0], VV.fn 91 [VV.tp [VV.tr (List.map vi a0.2.1.1) a0.2.1.1.length, VV.tr (List.map vi a0.2.1.2.1) a0.2.1.2.1.length] 0, VV.tp [VV.tr (List.flatMap c_SStroke a0.2.1.2.2) a0.2.1.2.2.length] 0], VV.fn 99 [VV.tp [VV.tr (List.map vi a0.2.2.1) a0.2.2.1.length, vi a0.2.2.2.1] 0, VV.tp [VV.tr (List.flatMap c_SStroke a0.2.2.2.2) a0.2.2.2.2.length] 0]]) 3] (vi r) := by
 unfold ngrind_firstOf_c0_Lgrind_validStrokes_1_grind_validDemand_1_grind_validPlan_1 at h
 have e2427 := (show (0 : Int) <= 0 /\ (0 : Int) < ((3 : Nat) : Int) from ⟨by decide, by decide⟩)
 have e2428 := (show loadL Go.Proofs.Try.prog 98 ((0 : Int).toNat * 1) ([VV.fn 89 [VV.tp [VV.tr (List.flatMap c_SStroke a0.1) a0.1.length] 0], VV.fn 91 [VV.tp [VV.tr (List.map vi a0.2.1.1) a0.2.1.1.length, VV.tr (List.map vi a0.2.1.2.1) a0.2.1.2.1.length] 0, VV.tp [VV.tr (List.flatMap c_SStroke a0.2.1.2.2) a0.2.1.2.2.length] 0], VV.fn 99 [VV.tp [VV.tr (List.map vi a0.2.2.1) a0.2.2.1.length, vi a0.2.2.2.1] 0, VV.tp [VV.tr (List.flatMap c_SStroke a0.2.2.2.2) a0.2.2.2.2.length] 0]]) = some (VV.fn 89 [VV.tp [VV.tr (List.flatMap c_SStroke a0.1) a0.1.length] 0]) from (ld_one ag98 rfl))
 obtain ⟨r2429, h2430, h⟩ := bs h
 have e2431 := (ngrind_validStrokes_1_ok k a0.1 _ h2430)
 rcases ifs h with ⟨h2432, h⟩ | ⟨h2432, h⟩
 ·have e2433 := (show (0 : Int) <= 1 /\ (1 : Int) < ((3 : Nat) : Int) from ⟨by decide, by decide⟩)
  have e2434 := (show loadL Go.Proofs.Try.prog 98 ((1 : Int).toNat * 1) ([VV.fn 89 [VV.tp [VV.tr (List.flatMap c_SStroke a0.1) a0.1.length] 0], VV.fn 91 [VV.tp [VV.tr (List.map vi a0.2.1.1) a0.2.1.1.length, VV.tr (List.map vi a0.2.1.2.1) a0.2.1.2.1.length] 0, VV.tp [VV.tr (List.flatMap c_SStroke a0.2.1.2.2) a0.2.1.2.2.length] 0], VV.fn 99 [VV.tp [VV.tr (List.map vi a0.2.2.1) a0.2.2.1.length, vi a0.2.2.2.1] 0, VV.tp [VV.tr (List.flatMap c_SStroke a0.2.2.2.2) a0.2.2.2.2.length] 0]]) = some (VV.fn 91 [VV.tp [VV.tr (List.map vi a0.2.1.1) a0.2.1.1.length, VV.tr (List.map vi a0.2.1.2.1) a0.2.1.2.1.length] 0, VV.tp [VV.tr (List.flatMap c_SStroke a0.2.1.2.2) a0.2.1.2.2.length] 0]) from (ld_one ag98 rfl))
  obtain ⟨r2435, h2436, h⟩ := bs h
  have e2437 := (ngrind_validDemand_1_ok k a0.2.1.1 a0.2.1.2.1 a0.2.1.2.2 _ h2436)
  rcases ifs h with ⟨h2438, h⟩ | ⟨h2438, h⟩
  ·have e2439 := (show (0 : Int) <= 2 /\ (2 : Int) < ((3 : Nat) : Int) from ⟨by decide, by decide⟩)
   have e2440 := (show loadL Go.Proofs.Try.prog 98 ((2 : Int).toNat * 1) ([VV.fn 89 [VV.tp [VV.tr (List.flatMap c_SStroke a0.1) a0.1.length] 0], VV.fn 91 [VV.tp [VV.tr (List.map vi a0.2.1.1) a0.2.1.1.length, VV.tr (List.map vi a0.2.1.2.1) a0.2.1.2.1.length] 0, VV.tp [VV.tr (List.flatMap c_SStroke a0.2.1.2.2) a0.2.1.2.2.length] 0], VV.fn 99 [VV.tp [VV.tr (List.map vi a0.2.2.1) a0.2.2.1.length, vi a0.2.2.2.1] 0, VV.tp [VV.tr (List.flatMap c_SStroke a0.2.2.2.2) a0.2.2.2.2.length] 0]]) = some (VV.fn 99 [VV.tp [VV.tr (List.map vi a0.2.2.1) a0.2.2.1.length, vi a0.2.2.2.1] 0, VV.tp [VV.tr (List.flatMap c_SStroke a0.2.2.2.2) a0.2.2.2.2.length] 0]) from (ld_one ag98 rfl))
   obtain ⟨r2441, h2442, h⟩ := bs h
   have e2443 := (ngrind_validPlan_1_ok k a0.2.2.1 a0.2.2.2.1 a0.2.2.2.2 _ h2442)
   rcases ifs h with ⟨h2444, h⟩ | ⟨h2444, h⟩
   ·injection h with h; subst h
    exact fun_ok pm pn Go.Proofs.Try.func49 (r0 := vi 0) (ans := [.reg (.n :: []), .reg (nN 3 []), .unr 5, .reg (.n :: []), .br true, .reg (arD1_11 a0), .reg (.n :: .call (vi r2429) :: .n :: []), .reg (.n :: .n :: []), .br false, .reg (.n :: .n :: []), .reg (.n :: []), .br true, .reg (arD1_12 a0), .reg (.n :: .call (vi r2435) :: .n :: []), .reg (.n :: .n :: []), .br false, .reg (.n :: .n :: []), .reg (.n :: []), .br true, .reg (arD1_13 a0), .reg (.n :: .call (vi r2441) :: .n :: []), .reg (.n :: .n :: []), .br false, .reg (.n :: .n :: []), .reg (.n :: []), .br false, .reg (.n :: [])]) (fr := true) (by kernel_rfl) (an (an (ti trivial) (an (an (ti (ti (ti trivial))) (an (an (ti trivial) (an (an (show (decide ((0 : Int) < 3)) = true from (decide_eq_true (by decide))) trivial) (an (an (an e2427 (an e2428 (ti trivial))) (an (ti (an e2431 (ti trivial))) (an (ti (ti trivial)) (an (not_f (decide_eq_true h2432)) trivial)))) (ti (ti trivial))))) (an (an (ti trivial) (an (an (show (decide ((1 : Int) < 3)) = true from (decide_eq_true (by decide))) trivial) (an (an (an e2433 (an e2434 (ti trivial))) (an (ti (an e2437 (ti trivial))) (an (ti (ti trivial)) (an (not_f (decide_eq_true h2438)) trivial)))) (ti (ti trivial))))) (an (an (ti trivial) (an (an (show (decide ((2 : Int) < 3)) = true from (decide_eq_true (by decide))) trivial) (an (an (an e2439 (an e2440 (ti trivial))) (an (ti (an e2443 (ti trivial))) (an (ti (ti trivial)) (an (not_f (decide_eq_true h2444)) trivial)))) (ti (ti trivial))))) (an (ti trivial) (an (show (decide ((3 : Int) < 3)) = false from (decide_eq_false (by decide))) trivial)))))) (an (ti trivial) trivial))) (ti trivial)) (Wv.refl _)
   ·injection h with h; subst h
    exact fun_ok pm pn Go.Proofs.Try.func49 (r0 := vi r2441) (ans := [.reg (.n :: []), .reg (nN 3 []), .unr 4, .reg (.n :: []), .br true, .reg (arD1_11 a0), .reg (.n :: .call (vi r2429) :: .n :: []), .reg (.n :: .n :: []), .br false, .reg (.n :: .n :: []), .reg (.n :: []), .br true, .reg (arD1_12 a0), .reg (.n :: .call (vi r2435) :: .n :: []), .reg (.n :: .n :: []), .br false, .reg (.n :: .n :: []), .reg (.n :: []), .br true, .reg (arD1_13 a0), .reg (.n :: .call (vi r2441) :: .n :: []), .reg (.n :: .n :: []), .br true, .reg (.n :: .n :: [])]) (fr := true) (by kernel_rfl) (an (an (ti trivial) (an (ti (ti (ti trivial))) (an (an (ti trivial) (an (an (show (decide ((0 : Int) < 3)) = true from (decide_eq_true (by decide))) trivial) (an (an (an e2427 (an e2428 (ti trivial))) (an (ti (an e2431 (ti trivial))) (an (ti (ti trivial)) (an (not_f (decide_eq_true h2432)) trivial)))) (ti (ti trivial))))) (an (an (ti trivial) (an (an (show (decide ((1 : Int) < 3)) = true from (decide_eq_true (by decide))) trivial) (an (an (an e2433 (an e2434 (ti trivial))) (an (ti (an e2437 (ti trivial))) (an (ti (ti trivial)) (an (not_f (decide_eq_true h2438)) trivial)))) (ti (ti trivial))))) (an (ti trivial) (an (an (show (decide ((2 : Int) < 3)) = true from (decide_eq_true (by decide))) trivial) (an (an e2439 (an e2440 (ti trivial))) (an (ti (an e2443 (ti trivial))) (an (ti (ti trivial)) (an (not_t (decide_eq_false h2444)) (an (ti (ti trivial)) trivial))))))))))) (ti trivial)) (Wv.refl _)
  ·injection h with h; subst h
   exact fun_ok pm pn Go.Proofs.Try.func49 (r0 := vi r2435) (ans := [.reg (.n :: []), .reg (nN 3 []), .unr 3, .reg (.n :: []), .br true, .reg (arD1_11 a0), .reg (.n :: .call (vi r2429) :: .n :: []), .reg (.n :: .n :: []), .br false, .reg (.n :: .n :: []), .reg (.n :: []), .br true, .reg (arD1_12 a0), .reg (.n :: .call (vi r2435) :: .n :: []), .reg (.n :: .n :: []), .br true, .reg (.n :: .n :: [])]) (fr := true) (by kernel_rfl) (an (an (ti trivial) (an (ti (ti (ti trivial))) (an (an (ti trivial) (an (an (show (decide ((0 : Int) < 3)) = true from (decide_eq_true (by decide))) trivial) (an (an (an e2427 (an e2428 (ti trivial))) (an (ti (an e2431 (ti trivial))) (an (ti (ti trivial)) (an (not_f (decide_eq_true h2432)) trivial)))) (ti (ti trivial))))) (an (ti trivial) (an (an (show (decide ((1 : Int) < 3)) = true from (decide_eq_true (by decide))) trivial) (an (an e2433 (an e2434 (ti trivial))) (an (ti (an e2437 (ti trivial))) (an (ti (ti trivial)) (an (not_t (decide_eq_false h2438)) (an (ti (ti trivial)) trivial)))))))))) (ti trivial)) (Wv.refl _)
 ·injection h with h; subst h
  exact fun_ok pm pn Go.Proofs.Try.func49 (r0 := vi r2429) (ans := [.reg (.n :: []), .reg (nN 3 []), .unr 2, .reg (.n :: []), .br true, .reg (arD1_11 a0), .reg (.n :: .call (vi r2429) :: .n :: []), .reg (.n :: .n :: []), .br true, .reg (.n :: .n :: [])]) (fr := true) (by kernel_rfl) (an (an (ti trivial) (an (ti (ti (ti trivial))) (an (ti trivial) (an (an (show (decide ((0 : Int) < 3)) = true from (decide_eq_true (by decide))) trivial) (an (an e2427 (an e2428 (ti trivial))) (an (ti (an e2431 (ti trivial))) (an (ti (ti trivial)) (an (not_t (decide_eq_false h2432)) (an (ti (ti trivial)) trivial))))))))) (ti trivial)) (Wv.refl _)
theorem eqD1_8 (z0 : (List SStroke)) (z1 : ((List Int) × (List Int) × (List SStroke))) (z2 : ((List Int) × Int × (List SStroke))) : [VV.tr ([VV.fn 89 [VV.tp [VV.tr (List.flatMap c_SStroke ((z0, z1, z2).1)) (((z0, z1, z2).1).length)] 0], VV.fn 91 [VV.tp [VV.tr (List.map vi (((z0, z1, z2).2.1).1)) ((((z0, z1, z2).2.1).1).length), VV.tr (List.map vi (((z0, z1, z2).2.1).2.1)) ((((z0, z1, z2).2.1).2.1).length)] 0, VV.tp [VV.tr (List.flatMap c_SStroke (((z0, z1, z2).2.1).2.2)) ((((z0, z1, z2).2.1).2.2).length)] 0], VV.fn 99 [VV.tp [VV.tr (List.map vi (((z0, z1, z2).2.2).1)) ((((z0, z1, z2).2.2).1).length), vi (((z0, z1, z2).2.2).2.1)] 0, VV.tp [VV.tr (List.flatMap c_SStroke (((z0, z1, z2).2.2).2.2)) ((((z0, z1, z2).2.2).2.2).length)] 0]]) 3] = [VV.tr (List.drop 0 (List.map unfr [VV.fn 89 [VV.tp [VV.tr (List.flatMap c_SStroke z0) z0.length] 0], VV.fn 91 [VV.tp [VV.tr (List.map vi z1.1) z1.1.length, VV.tr (List.map vi z1.2.1) z1.2.1.length] 0, VV.tp [VV.tr (List.flatMap c_SStroke z1.2.2) z1.2.2.length] 0], VV.fn 99 [VV.tp [VV.tr (List.map vi z2.1) z2.1.length, vi z2.2.1] 0, VV.tp [VV.tr (List.flatMap c_SStroke z2.2.2) z2.2.2.length] 0]])) 3] := by first | rfl | (simp only [drop0, unfr_vi, List.map_cons, List.map_nil, un_i, un_tr, List.length_map, List.length_cons, List.length_nil, unfr_c_SStroke]; done) | (simp only [drop0, unfr_vi, List.map_cons, List.map_nil, un_i, un_tr, List.length_map, List.length_cons, List.length_nil, unfr_c_SStroke]; rfl) | (simp only [drop0, unfr_vi, List.map_cons, List.map_nil, un_i, un_tr, List.length_map, List.length_cons, List.length_nil, unfr_c_SStroke, c_SStroke, List.length_cons, List.length_nil, List.length_append]; done)
def arD1_14 (z0 : (List SStroke)) (z1 : Int) (z2 : Int) : List Ans := (nN 6 (.v (VV.tr (List.map vi ((z0.getD z1.toNat default).Wear)) (((z0.getD z1.toNat default).Wear).length)) :: .n :: .n :: .v (vi (((z0.getD z1.toNat default).Wear).getD z2.toNat 0)) :: nN 3 []))
def ngrind_wearTimesDen_l0_0_h (a0 : (List SStroke)) (a1 : SGrindPlan) (a2 : Int) (x13 : Int) (x7 : Int) : VS := ⟨mkA [(0, VV.tr (List.flatMap c_SStroke a0) a0.length), (2, vi a2), (7, vi x7), (11, VV.tr (List.map vi a1.Minutes) a1.Minutes.length), (12, vi (a1.Minutes.length : Int)), (13, vi x13)], [], .nil⟩
def ngrind_wearTimesDen_l0_0_e0 (a0 : (List SStroke)) (a1 : SGrindPlan) (a2 : Int) (r : Int) : VS := ⟨mkA [(7, vi r)], [], .nil⟩
def ngrind_wearTimesDen_l0_0 (k : Nat) (a0 : (List SStroke)) (a1 : SGrindPlan) (a2 : Int) : Nat -> Int -> Int -> Option (Int)
 | 0, _, _ => none
 | fuel + 1, x13, x7 => if x13 < (a1.Minutes.length : Int) then (if 0 <= x13 /\ x13 < (a1.Minutes.length : Int) then (if 0 <= x13 /\ x13 < (a0.length : Int) then (if 0 <= a2 /\ a2 < (((a0.getD x13.toNat default).Wear).length : Int) then (ngrind_wearTimesDen_l0_0 k a0 a1 a2 fuel (w64 (x13 + 1)) (w64 (x7 + (w64 ((a1.Minutes.getD x13.toNat 0) * (((a0.getD x13.toNat default).Wear).getD a2.toNat 0)))))) else none) else none) else none) else (some x7)
theorem ngrind_wearTimesDen_l0_0_ok (k : Nat) (a0 : (List SStroke)) (a1 : SGrindPlan) (a2 : Int) : ∀ (fuel : Nat) (x13 : Int) (x7 : Int) (r : Int), ngrind_wearTimesDen_l0_0 k a0 a1 a2 fuel x13 x7 = some r -> (VLoop none Go.Proofs.Try.prog (szF Go.Proofs.Try.f67) (bodyOf Go.Proofs.Try.f67 0) (ngrind_wearTimesDen_l0_0_h a0 a1 a2 x13 x7) (.exit 0) (ngrind_wearTimesDen_l0_0_e0 a0 a1 a2 r)) := by
 intro fuel
 induction fuel with
 | zero => intro x13 x7 r h; rw [ngrind_wearTimesDen_l0_0.eq_1] at h; cases h
 | succ fuel ih =>
  intro x13 x7 r h
  rw [ngrind_wearTimesDen_l0_0.eq_2] at h
  rcases ifs h with ⟨h2494, h⟩ | ⟨h2494, h⟩
  ·obtain ⟨h2495, h⟩ := ifn h
   have e2496 := (show loadL Go.Proofs.Try.prog 3 (x13.toNat * 1) (List.map vi a1.Minutes) = some (vi (a1.Minutes.getD x13.toNat 0)) from ld_map ag3 vi a1.Minutes 0 h2495 (by omega))
   obtain ⟨h2497, h⟩ := ifn h
   have e2498 := (show loadL Go.Proofs.Try.prog 23 (x13.toNat * 2 + 1) (List.flatMap c_SStroke a0) = some (VV.tr (List.map vi ((a0.getD x13.toNat default).Wear)) (((a0.getD x13.toNat default).Wear).length)) from (ld_flat ag23 c_SStroke 2 1 len_c_SStroke (by omega) a0 default h2497 (by omega)).trans rfl)
   obtain ⟨h2499, h⟩ := ifn h
   have e2500 := (show loadL Go.Proofs.Try.prog 3 (a2.toNat * 1) (List.map vi ((a0.getD x13.toNat default).Wear)) = some (vi (((a0.getD x13.toNat default).Wear).getD a2.toNat 0)) from ld_map ag3 vi ((a0.getD x13.toNat default).Wear) 0 h2499 (by omega))
   have e2501 := (ti (ti (ti (ti (an h2497 (ti (an e2498 (ti (an h2499 (an e2500 (ti (ti (ti trivial)))))))))))))
   have h2 := ih _ _ _ h
   obtain ⟨q, hv, hq⟩ := pkR (rd := none) (P := Go.Proofs.Try.prog) (fn := Go.Proofs.Try.f67) (k := 0) (s := (ngrind_wearTimesDen_l0_0_h a0 a1 a2 x13 x7)) (ans := [.reg (.n :: []), .br true, .reg (.n :: .n :: .v (vi (a1.Minutes.getD x13.toNat 0)) :: .n :: .n :: []), .reg (arD1_14 a0 x13 a2), .reg (.n :: .n :: [])]) (c := ⟨[(0, none), (2, none), (7, none), (11, none), (12, none), (13, none)], [], []⟩) (e := .normal) (s1 := (ngrind_wearTimesDen_l0_0_h a0 a1 a2 (w64 (x13 + 1)) (w64 (x7 + (w64 ((a1.Minutes.getD x13.toNat 0) * (((a0.getD x13.toNat default).Wear).getD a2.toNat 0))))))) (an (an (ti trivial) (an (an (decide_eq_true h2494) trivial) (an (an (ti (an h2495 (an e2496 (ti (ti trivial))))) e2501) (ti (ti trivial))))) (ti trivial)) (by kernel_rfl)
   exact round_next pm pn hv hq h2
  ·injection h with h; subst h
   exact round_stop (c := ⟨[(7, none)], [], []⟩) (s1 := (ngrind_wearTimesDen_l0_0_e0 a0 a1 a2 x7)) pm pn (ans := [.reg (.n :: []), .br false]) (by kernel_rfl) (by intro e; cases e) (an (an (ti trivial) (an (decide_eq_false h2494) trivial)) (ti trivial))
def ngrind_wearTimesDen (k : Nat) (a0 : (List SStroke)) (a1 : SGrindPlan) (a2 : Int) : Option Int :=
 (ngrind_wearTimesDen_l0_0 k a0 a1 a2 k 0 0).bind fun r2503 => (some r2503)
theorem ngrind_wearTimesDen_ok (k : Nat) (a0 : (List SStroke)) (a1 : SGrindPlan) (a2 : Int) (r : Int) (h : ngrind_wearTimesDen k a0 a1 a2 = some r) : VC Go.Proofs.Try.prog 67 [VV.tr (List.flatMap c_SStroke a0) a0.length, VV.ag (c_SGrindPlan a1), vi a2] (vi r) := by
 unfold ngrind_wearTimesDen at h
 obtain ⟨r2503, h2502, h⟩ := bs h
 have hph2502 := ngrind_wearTimesDen_l0_0_ok k a0 a1 a2 _ _ _ _ h2502
 have e2504 := (an (ti trivial) (VRun.loop hph2502))
 injection h with h; subst h
 exact fun_ok pm pn Go.Proofs.Try.func67 (r0 := vi r2503) (ans := [.reg (.n :: .n :: []), .reg (.n :: []), .reg (nN 4 []), .sub ⟨[(0, none), (2, none), (7, none), (11, none), (12, none), (13, none)], [], []⟩ (.exit 0) (ngrind_wearTimesDen_l0_0_e0 a0 a1 a2 r2503), .reg (.n :: .n :: [])]) (fr := true) (by kernel_rfl) (an (an (ti (ti trivial)) (an (ti trivial) (an (an (ti (ti (ti (ti trivial)))) e2504) (an (ti (ti trivial)) trivial)))) (ti trivial)) (Wv.refl _)
def arD1_15 (z0 : Int) (z1 : SGrindDemand) (z2 : Int) (z3 : Bool) : List Ans := (nN 3 (.call (vi z0) :: nN 4 (.v (vi (z1.Low.getD z2.toNat 0)) :: nN 7 (.v (vi (z1.High.getD z2.toNat 0)) :: nN 3 (.call (vb z3) :: .n :: [])))))
def ngrind_CheckPlan_l0_0_h (a0 : (List SStroke)) (a1 : SGrindDemand) (a2 : SGrindPlan) (x29 : Int) : VS := ⟨mkA [(0, VV.tr (List.flatMap c_SStroke a0) a0.length), (4, VV.pt 0 0), (5, VV.pt 1 0), (28, vi (a1.Low.length : Int)), (29, vi x29)], [some ⟨true, 1, c_SGrindDemand a1⟩, some ⟨true, 1, c_SGrindPlan a2⟩], .nil⟩
def ngrind_CheckPlan_l0_0_e0 (a0 : (List SStroke)) (a1 : SGrindDemand) (a2 : SGrindPlan) (r : Int) : VS := ⟨mkA [(6, vi r), (7, vi 26)], [], .nil⟩
def ngrind_CheckPlan_l0_0_e1 (a0 : (List SStroke)) (a1 : SGrindDemand) (a2 : SGrindPlan) (r : Unit) : VS := ⟨mkA [(5, VV.pt 1 0)], [some ⟨true, 1, c_SGrindDemand a1⟩, some ⟨true, 1, c_SGrindPlan a2⟩], .nil⟩
def ngrind_CheckPlan_l0_0 (k : Nat) (a0 : (List SStroke)) (a1 : SGrindDemand) (a2 : SGrindPlan) : Nat -> Int -> Option (Sum Int Unit)
 | 0, _ => none
 | fuel + 1, x29 => if x29 < (a1.Low.length : Int) then ((ngrind_wearTimesDen k a0 a2 x29).bind fun r2599 => (if 0 <= x29 /\ x29 < (a1.Low.length : Int) then (if 0 <= x29 /\ x29 < (a1.High.length : Int) then ((ngrind_isWithin k r2599 (w64 ((a1.Low.getD x29.toNat 0) * a2.Den)) (w64 ((a1.High.getD x29.toNat 0) * a2.Den))).bind fun r2606 => (if r2606 = true then (ngrind_CheckPlan_l0_0 k a0 a1 a2 fuel (w64 (x29 + 1))) else (some (.inl x29)))) else none) else none)) else (some (.inr ()))
theorem ngrind_CheckPlan_l0_0_ok (k : Nat) (a0 : (List SStroke)) (a1 : SGrindDemand) (a2 : SGrindPlan) : ∀ (fuel : Nat) (x29 : Int) (r : Sum Int Unit), ngrind_CheckPlan_l0_0 k a0 a1 a2 fuel x29 = some r -> (match r with | .inl r => VLoop none Go.Proofs.Try.prog (szF Go.Proofs.Try.f26) (bodyOf Go.Proofs.Try.f26 0) (ngrind_CheckPlan_l0_0_h a0 a1 a2 x29) .ret (ngrind_CheckPlan_l0_0_e0 a0 a1 a2 r) | .inr r => VLoop none Go.Proofs.Try.prog (szF Go.Proofs.Try.f26) (bodyOf Go.Proofs.Try.f26 0) (ngrind_CheckPlan_l0_0_h a0 a1 a2 x29) (.exit 0) (ngrind_CheckPlan_l0_0_e1 a0 a1 a2 r)) := by
 intro fuel
 induction fuel with
 | zero => intro x29 r h; rw [ngrind_CheckPlan_l0_0.eq_1] at h; cases h
 | succ fuel ih =>
  intro x29 r h
  rw [ngrind_CheckPlan_l0_0.eq_2] at h
  rcases ifs h with ⟨h2598, h⟩ | ⟨h2598, h⟩
  ·obtain ⟨r2599, h2600, h⟩ := bs h
   have e2601 := (ngrind_wearTimesDen_ok k a0 a2 x29 _ h2600)
   obtain ⟨h2602, h⟩ := ifn h
   have e2603 := (show loadL Go.Proofs.Try.prog 3 (x29.toNat * 1) (List.map vi a1.Low) = some (vi (a1.Low.getD x29.toNat 0)) from ld_map ag3 vi a1.Low 0 h2602 (by omega))
   obtain ⟨h2604, h⟩ := ifn h
   have e2605 := (show loadL Go.Proofs.Try.prog 3 (x29.toNat * 1) (List.map vi a1.High) = some (vi (a1.High.getD x29.toNat 0)) from ld_map ag3 vi a1.High 0 h2604 (by omega))
   obtain ⟨r2606, h2607, h⟩ := bs h
   have e2608 := (ngrind_isWithin_ok k r2599 (w64 ((a1.Low.getD x29.toNat 0) * a2.Den)) (w64 ((a1.High.getD x29.toNat 0) * a2.Den)) _ h2607)
   have e2609 := (ti (ti (ti (an e2601 (ti (ti (ti (an h2602 (an e2603 (ti (ti (ti (ti (ti (ti (an h2604 (an e2605 (ti (ti (ti (an e2608 (ti trivial))))))))))))))))))))))
   rcases ifs h with ⟨h2610, h⟩ | ⟨h2610, h⟩
   ·have h2 := ih _ _ h
    obtain ⟨q, hv, hq⟩ := pkR (rd := none) (P := Go.Proofs.Try.prog) (fn := Go.Proofs.Try.f26) (k := 0) (s := (ngrind_CheckPlan_l0_0_h a0 a1 a2 x29)) (ans := [.reg (.n :: []), .br true, .reg (.n :: .n :: []), .reg (arD1_15 r2599 a1 x29 r2606), .br false, .reg (.n :: .n :: [])]) (c := ⟨[(0, none), (4, none), (5, none), (28, none), (29, none)], [none, none], []⟩) (e := .normal) (s1 := (ngrind_CheckPlan_l0_0_h a0 a1 a2 (w64 (x29 + 1)))) (an (an (ti trivial) (an (an (decide_eq_true h2598) trivial) (an (an (ti (ti trivial)) (an e2609 (an (not_f h2610) trivial))) (ti (ti trivial))))) (ti trivial)) (by kernel_rfl)
    cases r with
    | inl r => exact round_next pm pn hv hq h2
    | inr r =>
     exact round_next pm pn hv hq h2
   ·injection h with h; subst h
    exact round_stop (c := ⟨[(6, none), (7, none)], [], []⟩) (s1 := (ngrind_CheckPlan_l0_0_e0 a0 a1 a2 x29)) pm pn (ans := [.reg (.n :: []), .br true, .reg (.n :: .n :: []), .reg (arD1_15 r2599 a1 x29 r2606), .br true, .reg (nN 3 [])]) (by kernel_rfl) (by intro e; cases e) (an (an (ti trivial) (an (an (decide_eq_true h2598) trivial) (an (ti (ti trivial)) (an e2609 (an (not_t (bool_f h2610)) (an (ti (ti (ti trivial))) trivial)))))) (ti trivial))
  ·injection h with h; subst h
   exact round_stop (c := ⟨[(5, none)], [none, none], []⟩) (s1 := (ngrind_CheckPlan_l0_0_e1 a0 a1 a2 ())) pm pn (ans := [.reg (.n :: []), .br false]) (by kernel_rfl) (by intro e; cases e) (an (an (ti trivial) (an (decide_eq_false h2598) trivial)) (ti trivial))
def arD1_16 (z0 : (List SStroke)) (z1 : ((List Int) × (List Int) × (List SStroke))) (z2 : ((List Int) × Int × (List SStroke))) (z3 : Int) : List Ans := (.n :: .call (VV.fn 89 [VV.tp [VV.tr (List.flatMap c_SStroke z0) z0.length] 0]) :: .n :: .n :: .call (VV.fn 91 [VV.tp [VV.tr (List.map vi z1.1) z1.1.length, VV.tr (List.map vi z1.2.1) z1.2.1.length] 0, VV.tp [VV.tr (List.flatMap c_SStroke z1.2.2) z1.2.2.length] 0]) :: .n :: .n :: .call (VV.fn 99 [VV.tp [VV.tr (List.map vi z2.1) z2.1.length, vi z2.2.1] 0, VV.tp [VV.tr (List.flatMap c_SStroke z2.2.2) z2.2.2.length] 0]) :: .n :: .call (vi z3) :: .n :: [])
def ngrind_CheckPlan_l1_0_h (a2 : SGrindPlan) (x10 : Int) (x59 : Int) : VS := ⟨mkA [(10, vi x10), (57, VV.tr (List.map vi a2.Minutes) a2.Minutes.length), (58, vi (a2.Minutes.length : Int)), (59, vi x59)], [], .nil⟩
def ngrind_CheckPlan_l1_0_e0 (a2 : SGrindPlan) (r : Int) : VS := ⟨mkA [(10, vi r)], [], .nil⟩
def ngrind_CheckPlan_l1_0 (k : Nat) (a2 : SGrindPlan) : Nat -> Int -> Int -> Option (Int)
 | 0, _, _ => none
 | fuel + 1, x10, x59 => if x59 < (a2.Minutes.length : Int) then (if 0 <= x59 /\ x59 < (a2.Minutes.length : Int) then (ngrind_CheckPlan_l1_0 k a2 fuel (w64 (x10 + (a2.Minutes.getD x59.toNat 0))) (w64 (x59 + 1))) else none) else (some x10)
theorem ngrind_CheckPlan_l1_0_ok (k : Nat) (a2 : SGrindPlan) : ∀ (fuel : Nat) (x10 : Int) (x59 : Int) (r : Int), ngrind_CheckPlan_l1_0 k a2 fuel x10 x59 = some r -> (VLoop none Go.Proofs.Try.prog (szF Go.Proofs.Try.f26) (bodyOf Go.Proofs.Try.f26 1) (ngrind_CheckPlan_l1_0_h a2 x10 x59) (.exit 2) (ngrind_CheckPlan_l1_0_e0 a2 r)) := by
 intro fuel
 induction fuel with
 | zero => intro x10 x59 r h; rw [ngrind_CheckPlan_l1_0.eq_1] at h; cases h
 | succ fuel ih =>
  intro x10 x59 r h
  rw [ngrind_CheckPlan_l1_0.eq_2] at h
  rcases ifs h with ⟨h2623, h⟩ | ⟨h2623, h⟩
  ·obtain ⟨h2624, h⟩ := ifn h
   have e2625 := (show loadL Go.Proofs.Try.prog 3 (x59.toNat * 1) (List.map vi a2.Minutes) = some (vi (a2.Minutes.getD x59.toNat 0)) from ld_map ag3 vi a2.Minutes 0 h2624 (by omega))
   have h2 := ih _ _ _ h
   obtain ⟨q, hv, hq⟩ := pkR (rd := none) (P := Go.Proofs.Try.prog) (fn := Go.Proofs.Try.f26) (k := 1) (s := (ngrind_CheckPlan_l1_0_h a2 x10 x59)) (ans := [.reg (.n :: []), .br true, .reg (.n :: .v (vi (a2.Minutes.getD x59.toNat 0)) :: .n :: []), .reg (nN 4 []), .reg (.n :: .n :: [])]) (c := ⟨[(10, none), (57, none), (58, none), (59, none)], [], []⟩) (e := .normal) (s1 := (ngrind_CheckPlan_l1_0_h a2 (w64 (x10 + (a2.Minutes.getD x59.toNat 0))) (w64 (x59 + 1)))) (an (an (ti trivial) (an (an (decide_eq_true h2623) trivial) (an (an (an h2624 (an e2625 (ti trivial))) (ti (ti (ti (ti trivial))))) (ti (ti trivial))))) (ti trivial)) (by kernel_rfl)
   exact round_next pm pn hv hq h2
  ·injection h with h; subst h
   exact round_stop (c := ⟨[(10, none)], [], []⟩) (s1 := (ngrind_CheckPlan_l1_0_e0 a2 x10)) pm pn (ans := [.reg (.n :: []), .br false]) (by kernel_rfl) (by intro e; cases e) (an (an (ti trivial) (an (decide_eq_false h2623) trivial)) (ti trivial))
def ngrind_CheckPlan (k : Nat) (a0 : (List SStroke)) (a1 : SGrindDemand) (a2 : SGrindPlan) : Option (Int × Int) :=
 (ngrind_validStrokes k a0).bind fun r2561 => ((ngrind_validDemand k a0 a1).bind fun r2563 => ((ngrind_validPlan k a0 a2).bind fun r2565 => ((ngrind_firstOf_c0_Lgrind_validStrokes_1_grind_validDemand_1_grind_validPlan_1 k (r2561, r2563, r2565)).bind fun r2567 => (if r2567 = 0 then ((ngrind_CheckPlan_l0_0 k a0 a1 a2 k 0).bind fun r2612 => (match r2612 with | .inl r2613 => (some (r2613, 26)) | .inr r2614 => ((ngrind_CheckPlan_l1_0 k a2 k 0 0).bind fun r2627 => (some (r2627, 0))))) else (some (0, r2567))))))
theorem ngrind_CheckPlan_ok (k : Nat) (a0 : (List SStroke)) (a1 : SGrindDemand) (a2 : SGrindPlan) (r : (Int × Int)) (h : ngrind_CheckPlan k a0 a1 a2 = some r) : VC Go.Proofs.Try.prog 26 [VV.tr (List.flatMap c_SStroke a0) a0.length, VV.ag (c_SGrindDemand a1), VV.ag (c_SGrindPlan a2)] (VV.tu [vi r.1, vi r.2]) := by
 unfold ngrind_CheckPlan at h
 obtain ⟨r2561, h2562, h⟩ := bs h
 obtain ⟨r2563, h2564, h⟩ := bs h
 obtain ⟨r2565, h2566, h⟩ := bs h
 obtain ⟨r2567, h2568, h⟩ := bs h
 have e2569 := (VC.args (ngrind_firstOf_c0_Lgrind_validStrokes_1_grind_validDemand_1_grind_validPlan_1_ok k (r2561, r2563, r2565) _ h2568) (eqD1_8 r2561 r2563 r2565))
 have e2570 := (ti (an (ngrind_validStrokes_ok k a0 _ h2562) (ti (ti (an (ngrind_validDemand_ok k a0 a1 _ h2564) (ti (ti (an (ngrind_validPlan_ok k a0 a2 _ h2566) (ti (an e2569 (ti trivial)))))))))))
 rcases ifs h with ⟨h2571, h⟩ | ⟨h2571, h⟩
 ·obtain ⟨r2612, h2611, h⟩ := bs h
  have hph2611 := ngrind_CheckPlan_l0_0_ok k a0 a1 a2 _ _ _ h2611
  cases r2612 with
  | inl r2613 =>
   dsimp only at h
   have e2615 := (an (ti trivial) (VRun.loop hph2611))
   injection h with h; subst h
   exact fun_ok pm pn Go.Proofs.Try.func26 (r0 := VV.tu [vi r2613, vi 26]) (ans := [.reg (nN 4 []), .reg (arD1_16 r2561 r2563 r2565 r2567), .reg (.n :: .n :: []), .br false, .reg (nN 4 []), .sub ⟨[(0, none), (4, none), (5, none), (28, none), (29, none)], [none, none], []⟩ .ret (ngrind_CheckPlan_l0_0_e0 a0 a1 a2 r2613)]) (fr := true) (by kernel_rfl) (an (an (ti (ti (ti (ti trivial)))) (an (an e2570 (an (ti (ti trivial)) (an (not_f (decide_eq_true h2571)) trivial))) (an (ti (ti (ti (ti trivial)))) e2615))) (ti (ti trivial))) (Wv.refl _)
  | inr r2614 =>
   dsimp only at h
   have e2616 := (an (ti trivial) (VRun.loop hph2611))
   obtain ⟨r2627, h2626, h⟩ := bs h
   have hph2626 := ngrind_CheckPlan_l1_0_ok k a2 _ _ _ _ h2626
   have e2628 := (an (ti trivial) (VRun.loop hph2626))
   injection h with h; subst h
   exact fun_ok pm pn Go.Proofs.Try.func26 (r0 := VV.tu [vi r2627, vi 0]) (ans := [.reg (nN 4 []), .reg (arD1_16 r2561 r2563 r2565 r2567), .reg (.n :: .n :: []), .br false, .reg (nN 4 []), .sub ⟨[(0, none), (4, none), (5, none), (28, none), (29, none)], [none, none], []⟩ (.exit 0) (ngrind_CheckPlan_l0_0_e1 a0 a1 a2 r2614), .reg (.n :: []), .reg (nN 4 []), .sub ⟨[(10, none), (57, none), (58, none), (59, none)], [], []⟩ (.exit 2) (ngrind_CheckPlan_l1_0_e0 a2 r2627), .reg (nN 3 [])]) (fr := true) (by kernel_rfl) (an (an (ti (ti (ti (ti trivial)))) (an (an e2570 (an (ti (ti trivial)) (an (not_f (decide_eq_true h2571)) trivial))) (an (an (ti (ti (ti (ti trivial)))) e2616) (an (ti trivial) (an (an (ti (ti (ti (ti trivial)))) e2628) (an (ti (ti (ti trivial))) trivial)))))) (ti (ti trivial))) (Wv.refl _)
 ·injection h with h; subst h
  exact fun_ok pm pn Go.Proofs.Try.func26 (r0 := VV.tu [vi 0, vi r2567]) (ans := [.reg (nN 4 []), .reg (arD1_16 r2561 r2563 r2565 r2567), .reg (.n :: .n :: []), .br true, .reg (nN 3 [])]) (fr := true) (by kernel_rfl) (an (an (ti (ti (ti (ti trivial)))) (an e2570 (an (ti (ti trivial)) (an (not_t (decide_eq_false h2571)) (an (ti (ti (ti trivial))) trivial))))) (ti (ti trivial))) (Wv.refl _)
def arD1_17 (z0 : SGrindDemand) (z1 : Int) (z2 : Bool) (z3 : Bool) : List Ans := (nN 4 (.v (vi (z0.Low.getD z1.toNat 0)) :: .call (vb z2) :: nN 6 (.v (vi (z0.High.getD z1.toNat 0)) :: .call (vb z3) :: .n :: .b false :: [])))
def arD1_18 (z0 : SGrindDemand) (z1 : Int) : List Ans := (nN 4 (.v (vi (z0.High.getD z1.toNat 0)) :: nN 4 (.v (vi (z0.Low.getD z1.toNat 0)) :: .n :: [])))
def arD1_19 (z0 : SGrindDemand) (z1 : Int) (z2 : Bool) : List Ans := (nN 4 (.v (vi (z0.Low.getD z1.toNat 0)) :: .call (vb z2) :: .n :: .n :: nS 7 (.b true :: [])))
def nspeculumref04_CheckDemand_l0_0_h (a1 : SGrindDemand) (r2705 : (Int × Int)) (x7 : Int) : VS := ⟨mkA [(3, VV.pt 0 0), (5, vi r2705.1), (7, vi x7)], [some ⟨true, 1, c_SGrindDemand a1⟩], .nil⟩
def nspeculumref04_CheckDemand_l0_0_e0 (a1 : SGrindDemand) (r2705 : (Int × Int)) (r : Int) : VS := ⟨mkA [(4, vi r)], [], .nil⟩
def nspeculumref04_CheckDemand_l0_0_e1 (a1 : SGrindDemand) (r2705 : (Int × Int)) (r : Unit) : VS := ⟨mkA [], [], .nil⟩
def nspeculumref04_CheckDemand_l0_0 (k : Nat) (a1 : SGrindDemand) (r2705 : (Int × Int)) : Nat -> Int -> Option (Sum Int Unit)
 | 0, _ => none
 | fuel + 1, x7 => if x7 < r2705.1 then (if 0 <= x7 /\ x7 < (a1.Low.length : Int) then ((nspeculumbase_Within k (a1.Low.getD x7.toNat 0) 0 10000).bind fun r2758 => (if r2758 = true then (if 0 <= x7 /\ x7 < (a1.High.length : Int) then ((nspeculumbase_Within k (a1.High.getD x7.toNat 0) 0 10000).bind fun r2764 => (if r2764 = true then (if (a1.High.getD x7.toNat 0) < (a1.Low.getD x7.toNat 0) then (some (.inl 9)) else (nspeculumref04_CheckDemand_l0_0 k a1 r2705 fuel (w64 (x7 + 1)))) else (some (.inl 2)))) else none) else (some (.inl 2)))) else none) else (some (.inr ()))
theorem nspeculumref04_CheckDemand_l0_0_ok (k : Nat) (a1 : SGrindDemand) (r2705 : (Int × Int)) : ∀ (fuel : Nat) (x7 : Int) (r : Sum Int Unit), nspeculumref04_CheckDemand_l0_0 k a1 r2705 fuel x7 = some r -> (match r with | .inl r => VLoop none Go.Proofs.Try.prog (szF Go.Proofs.Try.f19) (bodyOf Go.Proofs.Try.f19 0) (nspeculumref04_CheckDemand_l0_0_h a1 r2705 x7) .ret (nspeculumref04_CheckDemand_l0_0_e0 a1 r2705 r) | .inr r => VLoop none Go.Proofs.Try.prog (szF Go.Proofs.Try.f19) (bodyOf Go.Proofs.Try.f19 0) (nspeculumref04_CheckDemand_l0_0_h a1 r2705 x7) (.exit 0) (nspeculumref04_CheckDemand_l0_0_e1 a1 r2705 r)) := by
 intro fuel
 induction fuel with
 | zero => intro x7 r h; rw [nspeculumref04_CheckDemand_l0_0.eq_1] at h; cases h
 | succ fuel ih =>
  intro x7 r h
  rw [nspeculumref04_CheckDemand_l0_0.eq_2] at h
  rcases ifs h with ⟨h2755, h⟩ | ⟨h2755, h⟩
  ·obtain ⟨h2756, h⟩ := ifn h
   have e2757 := (show loadL Go.Proofs.Try.prog 3 (x7.toNat * 1) (List.map vi a1.Low) = some (vi (a1.Low.getD x7.toNat 0)) from ld_map ag3 vi a1.Low 0 h2756 (by omega))
   obtain ⟨r2758, h2759, h⟩ := bs h
   have e2760 := (nspeculumbase_Within_ok k (a1.Low.getD x7.toNat 0) 0 10000 _ h2759)
   rcases ifs h with ⟨h2761, h⟩ | ⟨h2761, h⟩
   ·obtain ⟨h2762, h⟩ := ifn h
    have e2763 := (an (not_f h2761) (show loadL Go.Proofs.Try.prog 3 (x7.toNat * 1) (List.map vi a1.High) = some (vi (a1.High.getD x7.toNat 0)) from ld_map ag3 vi a1.High 0 h2762 (by omega)))
    obtain ⟨r2764, h2765, h⟩ := bs h
    have e2766 := (an (not_f h2761) (nspeculumbase_Within_ok k (a1.High.getD x7.toNat 0) 0 10000 _ h2765))
    have e2767 := (ti (ti (ti (an h2756 (an e2757 (an e2760 (ti (ti (an (an (not_f h2761) trivial) (an (an (not_f h2761) trivial) (an (an (not_f h2761) trivial) (an (an (not_f h2761) h2762) (an e2763 (an e2766 (an (an (not_f h2761) trivial) (an (not_f h2761) trivial))))))))))))))))
    rcases ifs h with ⟨h2768, h⟩ | ⟨h2768, h⟩
    ·have e2769 := (show loadL Go.Proofs.Try.prog 3 (x7.toNat * 1) (List.map vi a1.High) = some (vi (a1.High.getD x7.toNat 0)) from ld_map ag3 vi a1.High 0 h2762 (by omega))
     have e2770 := (show loadL Go.Proofs.Try.prog 3 (x7.toNat * 1) (List.map vi a1.Low) = some (vi (a1.Low.getD x7.toNat 0)) from ld_map ag3 vi a1.Low 0 h2756 (by omega))
     have e2771 := (ti (ti (ti (an h2762 (an e2769 (ti (ti (ti (an h2756 (an e2770 (ti trivial)))))))))))
     rcases ifs h with ⟨h2772, h⟩ | ⟨h2772, h⟩
     ·injection h with h; subst h
      exact round_stop (c := ⟨[(4, none)], [], []⟩) (s1 := (nspeculumref04_CheckDemand_l0_0_e0 a1 r2705 9)) pm pn (ans := [.reg (nN 3 []), .br true, .reg (arD1_17 a1 x7 r2758 r2764), .br false, .reg (arD1_18 a1 x7), .br true, .reg (.n :: [])]) (by kernel_rfl) (by intro e; cases e) (an (an (an (ti (ti (ti trivial))) (an (decide_eq_true h2755) trivial)) (an (an e2767 (an (not_f h2768) trivial)) (an e2771 (an (decide_eq_true h2772) (an (ti trivial) trivial))))) (ti trivial))
     ·have h2 := ih _ _ h
      obtain ⟨q, hv, hq⟩ := pkR (rd := none) (P := Go.Proofs.Try.prog) (fn := Go.Proofs.Try.f19) (k := 0) (s := (nspeculumref04_CheckDemand_l0_0_h a1 r2705 x7)) (ans := [.reg (nN 3 []), .br true, .reg (arD1_17 a1 x7 r2758 r2764), .br false, .reg (arD1_18 a1 x7), .br false, .reg (nN 3 [])]) (c := ⟨[(3, none), (5, none), (7, none)], [none], []⟩) (e := .normal) (s1 := (nspeculumref04_CheckDemand_l0_0_h a1 r2705 (w64 (x7 + 1)))) (an (an (an (ti (ti (ti trivial))) (an (decide_eq_true h2755) trivial)) (an (an (an e2767 (an (not_f h2768) trivial)) (an e2771 (an (decide_eq_false h2772) trivial))) (ti (ti (ti trivial))))) (ti trivial)) (by kernel_rfl)
      cases r with
      | inl r => exact round_next pm pn hv hq h2
      | inr r =>
       exact round_next pm pn hv hq h2
    ·injection h with h; subst h
     exact round_stop (c := ⟨[(4, none)], [], []⟩) (s1 := (nspeculumref04_CheckDemand_l0_0_e0 a1 r2705 2)) pm pn (ans := [.reg (nN 3 []), .br true, .reg (arD1_17 a1 x7 r2758 r2764), .br true, .reg (.n :: [])]) (by kernel_rfl) (by intro e; cases e) (an (an (an (ti (ti (ti trivial))) (an (decide_eq_true h2755) trivial)) (an e2767 (an (not_t (bool_f h2768)) (an (ti trivial) trivial)))) (ti trivial))
   ·have e2773 := (ti (ti (ti (an h2756 (an e2757 (an e2760 (ti (ti (an (not_t (bool_f h2761)) (an (not_t (bool_f h2761)) (an (not_t (bool_f h2761)) (an (not_t (bool_f h2761)) (an (not_t (bool_f h2761)) (an (not_t (bool_f h2761)) (an (not_t (bool_f h2761)) (an (not_t (bool_f h2761)) trivial))))))))))))))))
    injection h with h; subst h
    exact round_stop (c := ⟨[(4, none)], [], []⟩) (s1 := (nspeculumref04_CheckDemand_l0_0_e0 a1 r2705 2)) pm pn (ans := [.reg (nN 3 []), .br true, .reg (arD1_19 a1 x7 r2758), .br true, .reg (.n :: [])]) (by kernel_rfl) (by intro e; cases e) (an (an (an (ti (ti (ti trivial))) (an (decide_eq_true h2755) trivial)) (an e2773 (an rt (an (ti trivial) trivial)))) (ti trivial))
  ·injection h with h; subst h
   exact round_stop (c := ⟨[], [], []⟩) (s1 := (nspeculumref04_CheckDemand_l0_0_e1 a1 r2705 ())) pm pn (ans := [.reg (nN 3 []), .br false]) (by kernel_rfl) (by intro e; cases e) (an (an (ti (ti (ti trivial))) (an (decide_eq_false h2755) trivial)) (ti trivial))
def nspeculumref04_CheckDemand (k : Nat) (a0 : (List SStroke)) (a1 : SGrindDemand) : Option Int :=
 (nspeculumref04_CheckStrokes k a0).bind fun r2705 => (if r2705.2 = 0 then (if (a1.Low.length : Int) = r2705.1 then (if (a1.High.length : Int) = r2705.1 then ((nspeculumref04_CheckDemand_l0_0 k a1 r2705 k 0).bind fun r2775 => (match r2775 with | .inl r2776 => (some r2776) | .inr r2777 => (some 0))) else (some 10)) else (some 10)) else (some r2705.2))
theorem nspeculumref04_CheckDemand_ok (k : Nat) (a0 : (List SStroke)) (a1 : SGrindDemand) (r : Int) (h : nspeculumref04_CheckDemand k a0 a1 = some r) : VC Go.Proofs.Try.prog 19 [VV.tr (List.flatMap c_SStroke a0) a0.length, VV.ag (c_SGrindDemand a1)] (vi r) := by
 unfold nspeculumref04_CheckDemand at h
 obtain ⟨r2705, h2706, h⟩ := bs h
 have e2707 := (nspeculumref04_CheckStrokes_ok k a0 _ h2706)
 rcases ifs h with ⟨h2708, h⟩ | ⟨h2708, h⟩
 ·rcases ifs h with ⟨h2709, h⟩ | ⟨h2709, h⟩
  ·have e2710 := (an (not_f (decide_eq_true h2709)) trivial)
   have e2711 := (an (not_f (decide_eq_true h2709)) trivial)
   have e2712 := (an (not_f (decide_eq_true h2709)) trivial)
   have e2713 := (an (not_f (decide_eq_true h2709)) trivial)
   have e2714 := (an (not_f (decide_eq_true h2709)) trivial)
   have e2715 := (ti (ti (ti (ti (ti (ti (an e2710 (an e2711 (an e2712 (an e2713 (an e2714 (an (not_f (decide_eq_true h2709)) trivial))))))))))))
   rcases ifs h with ⟨h2716, h⟩ | ⟨h2716, h⟩
   ·obtain ⟨r2775, h2774, h⟩ := bs h
    have hph2774 := nspeculumref04_CheckDemand_l0_0_ok k a1 r2705 _ _ _ h2774
    cases r2775 with
    | inl r2776 =>
     dsimp only at h
     have e2778 := (an (ti trivial) (VRun.loop hph2774))
     injection h with h; subst h
     exact fun_ok pm pn Go.Proofs.Try.func19 (r0 := vi r2776) (ans := [.reg (.n :: .n :: []), .reg (.n :: .call (VV.tu [vi r2705.1, vi r2705.2]) :: nN 5 []), .reg (.n :: .n :: []), .br false, .reg (nN 11 (.b false :: [])), .br false, .reg (.n :: []), .sub ⟨[(3, none), (5, none), (7, none)], [none], []⟩ .ret (nspeculumref04_CheckDemand_l0_0_e0 a1 r2705 r2776)]) (fr := true) (by kernel_rfl) (an (an (ti (ti trivial)) (an (ti (an e2707 (ti (ti (ti (ti (ti trivial))))))) (an (an (ti (ti trivial)) (an (not_f (decide_eq_true h2708)) trivial)) (an (an e2715 (an (not_f (decide_eq_true h2716)) trivial)) (an (ti trivial) e2778))))) (ti trivial)) (Wv.refl _)
    | inr r2777 =>
     dsimp only at h
     have e2779 := (an (ti trivial) (VRun.loop hph2774))
     injection h with h; subst h
     exact fun_ok pm pn Go.Proofs.Try.func19 (r0 := vi 0) (ans := [.reg (.n :: .n :: []), .reg (.n :: .call (VV.tu [vi r2705.1, vi r2705.2]) :: nN 5 []), .reg (.n :: .n :: []), .br false, .reg (nN 11 (.b false :: [])), .br false, .reg (.n :: []), .sub ⟨[(3, none), (5, none), (7, none)], [none], []⟩ (.exit 0) (nspeculumref04_CheckDemand_l0_0_e1 a1 r2705 r2777), .reg (.n :: [])]) (fr := true) (by kernel_rfl) (an (an (ti (ti trivial)) (an (ti (an e2707 (ti (ti (ti (ti (ti trivial))))))) (an (an (ti (ti trivial)) (an (not_f (decide_eq_true h2708)) trivial)) (an (an e2715 (an (not_f (decide_eq_true h2716)) trivial)) (an (an (ti trivial) e2779) (an (ti trivial) trivial)))))) (ti trivial)) (Wv.refl _)
   ·injection h with h; subst h
    exact fun_ok pm pn Go.Proofs.Try.func19 (r0 := vi 10) (ans := [.reg (.n :: .n :: []), .reg (.n :: .call (VV.tu [vi r2705.1, vi r2705.2]) :: nN 5 []), .reg (.n :: .n :: []), .br false, .reg (nN 11 (.b false :: [])), .br true, .reg (.n :: [])]) (fr := true) (by kernel_rfl) (an (an (ti (ti trivial)) (an (ti (an e2707 (ti (ti (ti (ti (ti trivial))))))) (an (an (ti (ti trivial)) (an (not_f (decide_eq_true h2708)) trivial)) (an e2715 (an (not_t (decide_eq_false h2716)) (an (ti trivial) trivial)))))) (ti trivial)) (Wv.refl _)
  ·have e2780 := (ti (ti (ti (ti (ti (ti (an (not_t (decide_eq_false h2709)) (an (not_t (decide_eq_false h2709)) (an (not_t (decide_eq_false h2709)) (an (not_t (decide_eq_false h2709)) (an (not_t (decide_eq_false h2709)) (an (not_t (decide_eq_false h2709)) trivial))))))))))))
   injection h with h; subst h
   exact fun_ok pm pn Go.Proofs.Try.func19 (r0 := vi 10) (ans := [.reg (.n :: .n :: []), .reg (.n :: .call (VV.tu [vi r2705.1, vi r2705.2]) :: nN 5 []), .reg (.n :: .n :: []), .br false, .reg (nN 6 (nS 5 (.b true :: []))), .br true, .reg (.n :: [])]) (fr := true) (by kernel_rfl) (an (an (ti (ti trivial)) (an (ti (an e2707 (ti (ti (ti (ti (ti trivial))))))) (an (an (ti (ti trivial)) (an (not_f (decide_eq_true h2708)) trivial)) (an e2780 (an rt (an (ti trivial) trivial)))))) (ti trivial)) (Wv.refl _)
 ·injection h with h; subst h
  exact fun_ok pm pn Go.Proofs.Try.func19 (r0 := vi r2705.2) (ans := [.reg (.n :: .n :: []), .reg (.n :: .call (VV.tu [vi r2705.1, vi r2705.2]) :: nN 5 []), .reg (.n :: .n :: []), .br true, .reg (.n :: .n :: [])]) (fr := true) (by kernel_rfl) (an (an (ti (ti trivial)) (an (ti (an e2707 (ti (ti (ti (ti (ti trivial))))))) (an (ti (ti trivial)) (an (not_t (decide_eq_false h2708)) (an (ti (ti trivial)) trivial))))) (ti trivial)) (Wv.refl _)
def nspeculumref04_PlanErr_l0_0_h (a1 : SGrindPlan) (x5 : Int) : VS := ⟨mkA [(3, VV.pt 0 0), (5, vi x5)], [some ⟨true, 1, c_SGrindPlan a1⟩], .nil⟩
def nspeculumref04_PlanErr_l0_0_e0 (a1 : SGrindPlan) (r : Unit) : VS := ⟨mkA [(4, vi 2)], [], .nil⟩
def nspeculumref04_PlanErr_l0_0_e1 (a1 : SGrindPlan) (r : Unit) : VS := ⟨mkA [], [], .nil⟩
def nspeculumref04_PlanErr_l0_0 (k : Nat) (a1 : SGrindPlan) : Nat -> Int -> Option (Sum Unit Unit)
 | 0, _ => none
 | fuel + 1, x5 => if x5 < (a1.Minutes.length : Int) then (if 0 <= x5 /\ x5 < (a1.Minutes.length : Int) then ((nspeculumbase_Within k (a1.Minutes.getD x5.toNat 0) 0 1000000000).bind fun r2840 => (if r2840 = true then (nspeculumref04_PlanErr_l0_0 k a1 fuel (w64 (x5 + 1))) else (some (.inl ())))) else none) else (some (.inr ()))
theorem nspeculumref04_PlanErr_l0_0_ok (k : Nat) (a1 : SGrindPlan) : ∀ (fuel : Nat) (x5 : Int) (r : Sum Unit Unit), nspeculumref04_PlanErr_l0_0 k a1 fuel x5 = some r -> (match r with | .inl r => VLoop none Go.Proofs.Try.prog (szF Go.Proofs.Try.f30) (bodyOf Go.Proofs.Try.f30 0) (nspeculumref04_PlanErr_l0_0_h a1 x5) .ret (nspeculumref04_PlanErr_l0_0_e0 a1 r) | .inr r => VLoop none Go.Proofs.Try.prog (szF Go.Proofs.Try.f30) (bodyOf Go.Proofs.Try.f30 0) (nspeculumref04_PlanErr_l0_0_h a1 x5) (.exit 0) (nspeculumref04_PlanErr_l0_0_e1 a1 r)) := by
 intro fuel
 induction fuel with
 | zero => intro x5 r h; rw [nspeculumref04_PlanErr_l0_0.eq_1] at h; cases h
 | succ fuel ih =>
  intro x5 r h
  rw [nspeculumref04_PlanErr_l0_0.eq_2] at h
  rcases ifs h with ⟨h2837, h⟩ | ⟨h2837, h⟩
  ·obtain ⟨h2838, h⟩ := ifn h
   have e2839 := (show loadL Go.Proofs.Try.prog 3 (x5.toNat * 1) (List.map vi a1.Minutes) = some (vi (a1.Minutes.getD x5.toNat 0)) from ld_map ag3 vi a1.Minutes 0 h2838 (by omega))
   obtain ⟨r2840, h2841, h⟩ := bs h
   have e2842 := (nspeculumbase_Within_ok k (a1.Minutes.getD x5.toNat 0) 0 1000000000 _ h2841)
   have e2843 := (ti (ti (ti (an h2838 (an e2839 (an e2842 (ti trivial)))))))
   rcases ifs h with ⟨h2844, h⟩ | ⟨h2844, h⟩
   ·have h2 := ih _ _ h
    obtain ⟨q, hv, hq⟩ := pkR (rd := none) (P := Go.Proofs.Try.prog) (fn := Go.Proofs.Try.f30) (k := 0) (s := (nspeculumref04_PlanErr_l0_0_h a1 x5)) (ans := [.reg (nN 5 []), .br true, .reg (nN 4 (.v (vi (a1.Minutes.getD x5.toNat 0)) :: .call (vb r2840) :: .n :: [])), .br false, .reg (nN 3 [])]) (c := ⟨[(3, none), (5, none)], [none], []⟩) (e := .normal) (s1 := (nspeculumref04_PlanErr_l0_0_h a1 (w64 (x5 + 1)))) (an (an (an (ti (ti (ti (ti (ti trivial))))) (an (decide_eq_true h2837) trivial)) (an (an e2843 (an (not_f h2844) trivial)) (ti (ti (ti trivial))))) (ti trivial)) (by kernel_rfl)
    cases r with
    | inl r => exact round_next pm pn hv hq h2
    | inr r =>
     exact round_next pm pn hv hq h2
   ·injection h with h; subst h
    exact round_stop (c := ⟨[(4, none)], [], []⟩) (s1 := (nspeculumref04_PlanErr_l0_0_e0 a1 ())) pm pn (ans := [.reg (nN 5 []), .br true, .reg (nN 4 (.v (vi (a1.Minutes.getD x5.toNat 0)) :: .call (vb r2840) :: .n :: [])), .br true, .reg (.n :: [])]) (by kernel_rfl) (by intro e; cases e) (an (an (an (ti (ti (ti (ti (ti trivial))))) (an (decide_eq_true h2837) trivial)) (an e2843 (an (not_t (bool_f h2844)) (an (ti trivial) trivial)))) (ti trivial))
  ·injection h with h; subst h
   exact round_stop (c := ⟨[], [], []⟩) (s1 := (nspeculumref04_PlanErr_l0_0_e1 a1 ())) pm pn (ans := [.reg (nN 5 []), .br false]) (by kernel_rfl) (by intro e; cases e) (an (an (ti (ti (ti (ti (ti trivial))))) (an (decide_eq_false h2837) trivial)) (ti trivial))
def nspeculumref04_PlanErr (k : Nat) (a0 : (List SStroke)) (a1 : SGrindPlan) : Option Int :=
 if (a1.Minutes.length : Int) = (a0.length : Int) then ((nspeculumbase_Within k a1.Den 1 10000000).bind fun r2817 => (if r2817 = true then ((nspeculumref04_PlanErr_l0_0 k a1 k 0).bind fun r2846 => (match r2846 with | .inl r2847 => (some 2) | .inr r2848 => (some 0))) else (some 2))) else (some 10)
theorem nspeculumref04_PlanErr_ok (k : Nat) (a0 : (List SStroke)) (a1 : SGrindPlan) (r : Int) (h : nspeculumref04_PlanErr k a0 a1 = some r) : VC Go.Proofs.Try.prog 30 [VV.tr (List.flatMap c_SStroke a0) a0.length, VV.ag (c_SGrindPlan a1)] (vi r) := by
 unfold nspeculumref04_PlanErr at h
 rcases ifs h with ⟨h2816, h⟩ | ⟨h2816, h⟩
 ·obtain ⟨r2817, h2818, h⟩ := bs h
  have e2819 := (nspeculumbase_Within_ok k a1.Den 1 10000000 _ h2818)
  rcases ifs h with ⟨h2820, h⟩ | ⟨h2820, h⟩
  ·obtain ⟨r2846, h2845, h⟩ := bs h
   have hph2845 := nspeculumref04_PlanErr_l0_0_ok k a1 _ _ _ h2845
   cases r2846 with
   | inl r2847 =>
    dsimp only at h
    have e2849 := (an (ti trivial) (VRun.loop hph2845))
    injection h with h; subst h
    exact fun_ok pm pn Go.Proofs.Try.func30 (r0 := vi 2) (ans := [.reg (.n :: .n :: []), .reg (nN 6 []), .br false, .reg (.n :: .n :: .call (vb r2817) :: .n :: []), .br false, .reg (.n :: []), .sub ⟨[(3, none), (5, none)], [none], []⟩ .ret (nspeculumref04_PlanErr_l0_0_e0 a1 r2847)]) (fr := true) (by kernel_rfl) (an (an (ti (ti trivial)) (an (an (ti (ti (ti (ti (ti (ti trivial)))))) (an (not_f (decide_eq_true h2816)) trivial)) (an (an (ti (ti (an e2819 (ti trivial)))) (an (not_f h2820) trivial)) (an (ti trivial) e2849)))) (ti trivial)) (Wv.refl _)
   | inr r2848 =>
    dsimp only at h
    have e2850 := (an (ti trivial) (VRun.loop hph2845))
    injection h with h; subst h
    exact fun_ok pm pn Go.Proofs.Try.func30 (r0 := vi 0) (ans := [.reg (.n :: .n :: []), .reg (nN 6 []), .br false, .reg (.n :: .n :: .call (vb r2817) :: .n :: []), .br false, .reg (.n :: []), .sub ⟨[(3, none), (5, none)], [none], []⟩ (.exit 0) (nspeculumref04_PlanErr_l0_0_e1 a1 r2848), .reg (.n :: [])]) (fr := true) (by kernel_rfl) (an (an (ti (ti trivial)) (an (an (ti (ti (ti (ti (ti (ti trivial)))))) (an (not_f (decide_eq_true h2816)) trivial)) (an (an (ti (ti (an e2819 (ti trivial)))) (an (not_f h2820) trivial)) (an (an (ti trivial) e2850) (an (ti trivial) trivial))))) (ti trivial)) (Wv.refl _)
  ·injection h with h; subst h
   exact fun_ok pm pn Go.Proofs.Try.func30 (r0 := vi 2) (ans := [.reg (.n :: .n :: []), .reg (nN 6 []), .br false, .reg (.n :: .n :: .call (vb r2817) :: .n :: []), .br true, .reg (.n :: [])]) (fr := true) (by kernel_rfl) (an (an (ti (ti trivial)) (an (an (ti (ti (ti (ti (ti (ti trivial)))))) (an (not_f (decide_eq_true h2816)) trivial)) (an (ti (ti (an e2819 (ti trivial)))) (an (not_t (bool_f h2820)) (an (ti trivial) trivial))))) (ti trivial)) (Wv.refl _)
 ·injection h with h; subst h
  exact fun_ok pm pn Go.Proofs.Try.func30 (r0 := vi 10) (ans := [.reg (.n :: .n :: []), .reg (nN 6 []), .br true, .reg (.n :: [])]) (fr := true) (by kernel_rfl) (an (an (ti (ti trivial)) (an (ti (ti (ti (ti (ti (ti trivial)))))) (an (not_t (decide_eq_false h2816)) (an (ti trivial) trivial)))) (ti trivial)) (Wv.refl _)
def arD1_20 (z0 : SGrindPlan) (z1 : Int) (z2 : (List SStroke)) (z3 : Int) : List Ans := (nN 5 (.v (vi (z0.Minutes.getD z1.toNat 0)) :: nN 4 (.v (VV.tr (List.map vi ((z2.getD z1.toNat default).Wear)) (((z2.getD z1.toNat default).Wear).length)) :: .n :: .n :: .v (vi (((z2.getD z1.toNat default).Wear).getD z3.toNat 0)) :: nN 3 [])))
def nspeculumref04_wearBy_l0_0_h (a0 : (List SStroke)) (a1 : SGrindPlan) (a2 : Int) (x7 : Int) (x8 : Int) : VS := ⟨mkA [(0, VV.tr (List.flatMap c_SStroke a0) a0.length), (2, vi a2), (4, VV.pt 0 0), (7, vi x7), (8, vi x8)], [some ⟨true, 1, c_SGrindPlan a1⟩], .nil⟩
def nspeculumref04_wearBy_l0_0_e0 (a0 : (List SStroke)) (a1 : SGrindPlan) (a2 : Int) (r : Int) : VS := ⟨mkA [(7, vi r)], [], .nil⟩
def nspeculumref04_wearBy_l0_0 (k : Nat) (a0 : (List SStroke)) (a1 : SGrindPlan) (a2 : Int) : Nat -> Int -> Int -> Option (Int)
 | 0, _, _ => none
 | fuel + 1, x7, x8 => if x8 < (a0.length : Int) then (if 0 <= x8 /\ x8 < (a1.Minutes.length : Int) then (if 0 <= x8 /\ x8 < (a0.length : Int) then (if 0 <= a2 /\ a2 < (((a0.getD x8.toNat default).Wear).length : Int) then (nspeculumref04_wearBy_l0_0 k a0 a1 a2 fuel (w64 (x7 + (w64 ((a1.Minutes.getD x8.toNat 0) * (((a0.getD x8.toNat default).Wear).getD a2.toNat 0))))) (w64 (x8 + 1))) else none) else none) else none) else (some x7)
theorem nspeculumref04_wearBy_l0_0_ok (k : Nat) (a0 : (List SStroke)) (a1 : SGrindPlan) (a2 : Int) : ∀ (fuel : Nat) (x7 : Int) (x8 : Int) (r : Int), nspeculumref04_wearBy_l0_0 k a0 a1 a2 fuel x7 x8 = some r -> (VLoop none Go.Proofs.Try.prog (szF Go.Proofs.Try.f70) (bodyOf Go.Proofs.Try.f70 0) (nspeculumref04_wearBy_l0_0_h a0 a1 a2 x7 x8) (.exit 0) (nspeculumref04_wearBy_l0_0_e0 a0 a1 a2 r)) := by
 intro fuel
 induction fuel with
 | zero => intro x7 x8 r h; rw [nspeculumref04_wearBy_l0_0.eq_1] at h; cases h
 | succ fuel ih =>
  intro x7 x8 r h
  rw [nspeculumref04_wearBy_l0_0.eq_2] at h
  rcases ifs h with ⟨h2899, h⟩ | ⟨h2899, h⟩
  ·obtain ⟨h2900, h⟩ := ifn h
   have e2901 := (show loadL Go.Proofs.Try.prog 3 (x8.toNat * 1) (List.map vi a1.Minutes) = some (vi (a1.Minutes.getD x8.toNat 0)) from ld_map ag3 vi a1.Minutes 0 h2900 (by omega))
   obtain ⟨h2902, h⟩ := ifn h
   have e2903 := (show loadL Go.Proofs.Try.prog 23 (x8.toNat * 2 + 1) (List.flatMap c_SStroke a0) = some (VV.tr (List.map vi ((a0.getD x8.toNat default).Wear)) (((a0.getD x8.toNat default).Wear).length)) from (ld_flat ag23 c_SStroke 2 1 len_c_SStroke (by omega) a0 default h2902 (by omega)).trans rfl)
   obtain ⟨h2904, h⟩ := ifn h
   have e2905 := (show loadL Go.Proofs.Try.prog 3 (a2.toNat * 1) (List.map vi ((a0.getD x8.toNat default).Wear)) = some (vi (((a0.getD x8.toNat default).Wear).getD a2.toNat 0)) from ld_map ag3 vi ((a0.getD x8.toNat default).Wear) 0 h2904 (by omega))
   have e2906 := (ti (ti (ti (ti (an h2900 (an e2901 (ti (ti (an h2902 (ti (an e2903 (ti (an h2904 (an e2905 (ti (ti (ti trivial)))))))))))))))))
   have h2 := ih _ _ _ h
   obtain ⟨q, hv, hq⟩ := pkR (rd := none) (P := Go.Proofs.Try.prog) (fn := Go.Proofs.Try.f70) (k := 0) (s := (nspeculumref04_wearBy_l0_0_h a0 a1 a2 x7 x8)) (ans := [.reg (nN 4 []), .br true, .reg (arD1_20 a1 x8 a0 a2), .reg (nN 3 [])]) (c := ⟨[(0, none), (2, none), (4, none), (7, none), (8, none)], [none], []⟩) (e := .normal) (s1 := (nspeculumref04_wearBy_l0_0_h a0 a1 a2 (w64 (x7 + (w64 ((a1.Minutes.getD x8.toNat 0) * (((a0.getD x8.toNat default).Wear).getD a2.toNat 0))))) (w64 (x8 + 1)))) (an (an (an (ti (ti (ti (ti trivial)))) (an (decide_eq_true h2899) trivial)) (an e2906 (ti (ti (ti trivial))))) (ti trivial)) (by kernel_rfl)
   exact round_next pm pn hv hq h2
  ·injection h with h; subst h
   exact round_stop (c := ⟨[(7, none)], [], []⟩) (s1 := (nspeculumref04_wearBy_l0_0_e0 a0 a1 a2 x7)) pm pn (ans := [.reg (nN 4 []), .br false]) (by kernel_rfl) (by intro e; cases e) (an (an (ti (ti (ti (ti trivial)))) (an (decide_eq_false h2899) trivial)) (ti trivial))
def nspeculumref04_wearBy (k : Nat) (a0 : (List SStroke)) (a1 : SGrindPlan) (a2 : Int) : Option Int :=
 (nspeculumref04_wearBy_l0_0 k a0 a1 a2 k 0 0).bind fun r2908 => (some r2908)
theorem nspeculumref04_wearBy_ok (k : Nat) (a0 : (List SStroke)) (a1 : SGrindPlan) (a2 : Int) (r : Int) (h : nspeculumref04_wearBy k a0 a1 a2 = some r) : VC Go.Proofs.Try.prog 70 [VV.tr (List.flatMap c_SStroke a0) a0.length, VV.ag (c_SGrindPlan a1), vi a2] (vi r) := by
 unfold nspeculumref04_wearBy at h
 obtain ⟨r2908, h2907, h⟩ := bs h
 have hph2907 := nspeculumref04_wearBy_l0_0_ok k a0 a1 a2 _ _ _ _ h2907
 have e2909 := (an (ti trivial) (VRun.loop hph2907))
 injection h with h; subst h
 exact fun_ok pm pn Go.Proofs.Try.func70 (r0 := vi r2908) (ans := [.reg (.n :: .n :: []), .reg (.n :: []), .reg (.n :: []), .sub ⟨[(0, none), (2, none), (4, none), (7, none), (8, none)], [none], []⟩ (.exit 0) (nspeculumref04_wearBy_l0_0_e0 a0 a1 a2 r2908), .reg (.n :: .n :: [])]) (fr := true) (by kernel_rfl) (an (an (ti (ti trivial)) (an (ti trivial) (an (an (ti trivial) e2909) (an (ti (ti trivial)) trivial)))) (ti trivial)) (Wv.refl _)
def nspeculumref04_CheckPlan_l0_0_h (a0 : (List SStroke)) (a1 : SGrindDemand) (a2 : SGrindPlan) (x9 : Int) : VS := ⟨mkA [(0, VV.tr (List.flatMap c_SStroke a0) a0.length), (4, VV.pt 0 0), (5, VV.pt 1 0), (9, vi x9)], [some ⟨true, 1, c_SGrindDemand a1⟩, some ⟨true, 1, c_SGrindPlan a2⟩], .nil⟩
def nspeculumref04_CheckPlan_l0_0_e0 (a0 : (List SStroke)) (a1 : SGrindDemand) (a2 : SGrindPlan) (r : Int) : VS := ⟨mkA [(6, vi r), (7, vi 26)], [], .nil⟩
def nspeculumref04_CheckPlan_l0_0_e1 (a0 : (List SStroke)) (a1 : SGrindDemand) (a2 : SGrindPlan) (r : Unit) : VS := ⟨mkA [(5, VV.pt 1 0)], [some ⟨true, 1, c_SGrindDemand a1⟩, some ⟨true, 1, c_SGrindPlan a2⟩], .nil⟩
def nspeculumref04_CheckPlan_l0_0 (k : Nat) (a0 : (List SStroke)) (a1 : SGrindDemand) (a2 : SGrindPlan) : Nat -> Int -> Option (Sum Int Unit)
 | 0, _ => none
 | fuel + 1, x9 => if x9 < (a1.Low.length : Int) then ((nspeculumref04_wearBy k a0 a2 x9).bind fun r3000 => (if 0 <= x9 /\ x9 < (a1.Low.length : Int) then (if 0 <= x9 /\ x9 < (a1.High.length : Int) then ((nspeculumbase_Within k r3000 (w64 ((a1.Low.getD x9.toNat 0) * a2.Den)) (w64 ((a1.High.getD x9.toNat 0) * a2.Den))).bind fun r3007 => (if r3007 = true then (nspeculumref04_CheckPlan_l0_0 k a0 a1 a2 fuel (w64 (x9 + 1))) else (some (.inl x9)))) else none) else none)) else (some (.inr ()))
theorem nspeculumref04_CheckPlan_l0_0_ok (k : Nat) (a0 : (List SStroke)) (a1 : SGrindDemand) (a2 : SGrindPlan) : ∀ (fuel : Nat) (x9 : Int) (r : Sum Int Unit), nspeculumref04_CheckPlan_l0_0 k a0 a1 a2 fuel x9 = some r -> (match r with | .inl r => VLoop none Go.Proofs.Try.prog (szF Go.Proofs.Try.f33) (bodyOf Go.Proofs.Try.f33 0) (nspeculumref04_CheckPlan_l0_0_h a0 a1 a2 x9) .ret (nspeculumref04_CheckPlan_l0_0_e0 a0 a1 a2 r) | .inr r => VLoop none Go.Proofs.Try.prog (szF Go.Proofs.Try.f33) (bodyOf Go.Proofs.Try.f33 0) (nspeculumref04_CheckPlan_l0_0_h a0 a1 a2 x9) (.exit 0) (nspeculumref04_CheckPlan_l0_0_e1 a0 a1 a2 r)) := by
 intro fuel
 induction fuel with
 | zero => intro x9 r h; rw [nspeculumref04_CheckPlan_l0_0.eq_1] at h; cases h
 | succ fuel ih =>
  intro x9 r h
  rw [nspeculumref04_CheckPlan_l0_0.eq_2] at h
  rcases ifs h with ⟨h2999, h⟩ | ⟨h2999, h⟩
  ·obtain ⟨r3000, h3001, h⟩ := bs h
   have e3002 := (nspeculumref04_wearBy_ok k a0 a2 x9 _ h3001)
   obtain ⟨h3003, h⟩ := ifn h
   have e3004 := (show loadL Go.Proofs.Try.prog 3 (x9.toNat * 1) (List.map vi a1.Low) = some (vi (a1.Low.getD x9.toNat 0)) from ld_map ag3 vi a1.Low 0 h3003 (by omega))
   obtain ⟨h3005, h⟩ := ifn h
   have e3006 := (show loadL Go.Proofs.Try.prog 3 (x9.toNat * 1) (List.map vi a1.High) = some (vi (a1.High.getD x9.toNat 0)) from ld_map ag3 vi a1.High 0 h3005 (by omega))
   obtain ⟨r3007, h3008, h⟩ := bs h
   have e3009 := (nspeculumbase_Within_ok k r3000 (w64 ((a1.Low.getD x9.toNat 0) * a2.Den)) (w64 ((a1.High.getD x9.toNat 0) * a2.Den)) _ h3008)
   have e3010 := (ti (ti (ti (an e3002 (ti (ti (ti (an h3003 (an e3004 (ti (ti (ti (ti (ti (ti (an h3005 (an e3006 (ti (ti (ti (an e3009 (ti trivial))))))))))))))))))))))
   rcases ifs h with ⟨h3011, h⟩ | ⟨h3011, h⟩
   ·have h2 := ih _ _ h
    obtain ⟨q, hv, hq⟩ := pkR (rd := none) (P := Go.Proofs.Try.prog) (fn := Go.Proofs.Try.f33) (k := 0) (s := (nspeculumref04_CheckPlan_l0_0_h a0 a1 a2 x9)) (ans := [.reg (nN 5 []), .br true, .reg (arD1_15 r3000 a1 x9 r3007), .br false, .reg (nN 3 [])]) (c := ⟨[(0, none), (4, none), (5, none), (9, none)], [none, none], []⟩) (e := .normal) (s1 := (nspeculumref04_CheckPlan_l0_0_h a0 a1 a2 (w64 (x9 + 1)))) (an (an (an (ti (ti (ti (ti (ti trivial))))) (an (decide_eq_true h2999) trivial)) (an (an e3010 (an (not_f h3011) trivial)) (ti (ti (ti trivial))))) (ti trivial)) (by kernel_rfl)
    cases r with
    | inl r => exact round_next pm pn hv hq h2
    | inr r =>
     exact round_next pm pn hv hq h2
   ·injection h with h; subst h
    exact round_stop (c := ⟨[(6, none), (7, none)], [], []⟩) (s1 := (nspeculumref04_CheckPlan_l0_0_e0 a0 a1 a2 x9)) pm pn (ans := [.reg (nN 5 []), .br true, .reg (arD1_15 r3000 a1 x9 r3007), .br true, .reg (nN 3 [])]) (by kernel_rfl) (by intro e; cases e) (an (an (an (ti (ti (ti (ti (ti trivial))))) (an (decide_eq_true h2999) trivial)) (an e3010 (an (not_t (bool_f h3011)) (an (ti (ti (ti trivial))) trivial)))) (ti trivial))
  ·injection h with h; subst h
   exact round_stop (c := ⟨[(5, none)], [none, none], []⟩) (s1 := (nspeculumref04_CheckPlan_l0_0_e1 a0 a1 a2 ())) pm pn (ans := [.reg (nN 5 []), .br false]) (by kernel_rfl) (by intro e; cases e) (an (an (ti (ti (ti (ti (ti trivial))))) (an (decide_eq_false h2999) trivial)) (ti trivial))
def nspeculumref04_CheckPlan_l1_0_h (a1 : SGrindDemand) (a2 : SGrindPlan) (x10 : Int) (x11 : Int) : VS := ⟨mkA [(5, VV.pt 1 0), (10, vi x10), (11, vi x11)], [some ⟨true, 1, c_SGrindDemand a1⟩, some ⟨true, 1, c_SGrindPlan a2⟩], .nil⟩
def nspeculumref04_CheckPlan_l1_0_e0 (a1 : SGrindDemand) (a2 : SGrindPlan) (r : Int) : VS := ⟨mkA [(10, vi r)], [], .nil⟩
def nspeculumref04_CheckPlan_l1_0 (k : Nat) (a1 : SGrindDemand) (a2 : SGrindPlan) : Nat -> Int -> Int -> Option (Int)
 | 0, _, _ => none
 | fuel + 1, x10, x11 => if x11 < (a2.Minutes.length : Int) then (if 0 <= x11 /\ x11 < (a2.Minutes.length : Int) then (nspeculumref04_CheckPlan_l1_0 k a1 a2 fuel (w64 (x10 + (a2.Minutes.getD x11.toNat 0))) (w64 (x11 + 1))) else none) else (some x10)
theorem nspeculumref04_CheckPlan_l1_0_ok (k : Nat) (a1 : SGrindDemand) (a2 : SGrindPlan) : ∀ (fuel : Nat) (x10 : Int) (x11 : Int) (r : Int), nspeculumref04_CheckPlan_l1_0 k a1 a2 fuel x10 x11 = some r -> (VLoop none Go.Proofs.Try.prog (szF Go.Proofs.Try.f33) (bodyOf Go.Proofs.Try.f33 1) (nspeculumref04_CheckPlan_l1_0_h a1 a2 x10 x11) (.exit 2) (nspeculumref04_CheckPlan_l1_0_e0 a1 a2 r)) := by
 intro fuel
 induction fuel with
 | zero => intro x10 x11 r h; rw [nspeculumref04_CheckPlan_l1_0.eq_1] at h; cases h
 | succ fuel ih =>
  intro x10 x11 r h
  rw [nspeculumref04_CheckPlan_l1_0.eq_2] at h
  rcases ifs h with ⟨h3026, h⟩ | ⟨h3026, h⟩
  ·obtain ⟨h3027, h⟩ := ifn h
   have e3028 := (show loadL Go.Proofs.Try.prog 3 (x11.toNat * 1) (List.map vi a2.Minutes) = some (vi (a2.Minutes.getD x11.toNat 0)) from ld_map ag3 vi a2.Minutes 0 h3027 (by omega))
   have e3029 := (ti (ti (ti (ti (an h3027 (an e3028 (ti (ti trivial))))))))
   have h2 := ih _ _ _ h
   obtain ⟨q, hv, hq⟩ := pkR (rd := none) (P := Go.Proofs.Try.prog) (fn := Go.Proofs.Try.f33) (k := 1) (s := (nspeculumref04_CheckPlan_l1_0_h a1 a2 x10 x11)) (ans := [.reg (nN 5 []), .br true, .reg (nN 5 (.v (vi (a2.Minutes.getD x11.toNat 0)) :: .n :: .n :: [])), .reg (nN 3 [])]) (c := ⟨[(5, none), (10, none), (11, none)], [none, none], []⟩) (e := .normal) (s1 := (nspeculumref04_CheckPlan_l1_0_h a1 a2 (w64 (x10 + (a2.Minutes.getD x11.toNat 0))) (w64 (x11 + 1)))) (an (an (an (ti (ti (ti (ti (ti trivial))))) (an (decide_eq_true h3026) trivial)) (an e3029 (ti (ti (ti trivial))))) (ti trivial)) (by kernel_rfl)
   exact round_next pm pn hv hq h2
  ·injection h with h; subst h
   exact round_stop (c := ⟨[(10, none)], [], []⟩) (s1 := (nspeculumref04_CheckPlan_l1_0_e0 a1 a2 x10)) pm pn (ans := [.reg (nN 5 []), .br false]) (by kernel_rfl) (by intro e; cases e) (an (an (ti (ti (ti (ti (ti trivial))))) (an (decide_eq_false h3026) trivial)) (ti trivial))
def nspeculumref04_CheckPlan (k : Nat) (a0 : (List SStroke)) (a1 : SGrindDemand) (a2 : SGrindPlan) : Option (Int × Int) :=
 (nspeculumref04_PlanErr k a0 a2).bind fun r2969 => (if r2969 = 0 then ((nspeculumref04_CheckPlan_l0_0 k a0 a1 a2 k 0).bind fun r3013 => (match r3013 with | .inl r3014 => (some (r3014, 26)) | .inr r3015 => ((nspeculumref04_CheckPlan_l1_0 k a1 a2 k 0 0).bind fun r3031 => (some (r3031, 0))))) else (some (0, r2969)))
theorem nspeculumref04_CheckPlan_ok (k : Nat) (a0 : (List SStroke)) (a1 : SGrindDemand) (a2 : SGrindPlan) (r : (Int × Int)) (h : nspeculumref04_CheckPlan k a0 a1 a2 = some r) : VC Go.Proofs.Try.prog 33 [VV.tr (List.flatMap c_SStroke a0) a0.length, VV.ag (c_SGrindDemand a1), VV.ag (c_SGrindPlan a2)] (VV.tu [vi r.1, vi r.2]) := by
 unfold nspeculumref04_CheckPlan at h
 obtain ⟨r2969, h2970, h⟩ := bs h
 have e2971 := (nspeculumref04_PlanErr_ok k a0 a2 _ h2970)
 rcases ifs h with ⟨h2972, h⟩ | ⟨h2972, h⟩
 ·obtain ⟨r3013, h3012, h⟩ := bs h
  have hph3012 := nspeculumref04_CheckPlan_l0_0_ok k a0 a1 a2 _ _ _ h3012
  cases r3013 with
  | inl r3014 =>
   dsimp only at h
   have e3016 := (an (ti trivial) (VRun.loop hph3012))
   injection h with h; subst h
   exact fun_ok pm pn Go.Proofs.Try.func33 (r0 := VV.tu [vi r3014, vi 26]) (ans := [.reg (nN 4 []), .reg (.n :: .n :: .call (vi r2969) :: .n :: []), .reg (.n :: .n :: []), .br false, .reg (.n :: []), .sub ⟨[(0, none), (4, none), (5, none), (9, none)], [none, none], []⟩ .ret (nspeculumref04_CheckPlan_l0_0_e0 a0 a1 a2 r3014)]) (fr := true) (by kernel_rfl) (an (an (ti (ti (ti (ti trivial)))) (an (an (ti (ti (an e2971 (ti trivial)))) (an (ti (ti trivial)) (an (not_f (decide_eq_true h2972)) trivial))) (an (ti trivial) e3016))) (ti (ti trivial))) (Wv.refl _)
  | inr r3015 =>
   dsimp only at h
   have e3017 := (an (ti trivial) (VRun.loop hph3012))
   obtain ⟨r3031, h3030, h⟩ := bs h
   have hph3030 := nspeculumref04_CheckPlan_l1_0_ok k a1 a2 _ _ _ _ h3030
   have e3032 := (an (ti trivial) (VRun.loop hph3030))
   injection h with h; subst h
   exact fun_ok pm pn Go.Proofs.Try.func33 (r0 := VV.tu [vi r3031, vi 0]) (ans := [.reg (nN 4 []), .reg (.n :: .n :: .call (vi r2969) :: .n :: []), .reg (.n :: .n :: []), .br false, .reg (.n :: []), .sub ⟨[(0, none), (4, none), (5, none), (9, none)], [none, none], []⟩ (.exit 0) (nspeculumref04_CheckPlan_l0_0_e1 a0 a1 a2 r3015), .reg (.n :: []), .reg (.n :: []), .sub ⟨[(5, none), (10, none), (11, none)], [none, none], []⟩ (.exit 2) (nspeculumref04_CheckPlan_l1_0_e0 a1 a2 r3031), .reg (nN 3 [])]) (fr := true) (by kernel_rfl) (an (an (ti (ti (ti (ti trivial)))) (an (an (ti (ti (an e2971 (ti trivial)))) (an (ti (ti trivial)) (an (not_f (decide_eq_true h2972)) trivial))) (an (an (ti trivial) e3017) (an (ti trivial) (an (an (ti trivial) e3032) (an (ti (ti (ti trivial))) trivial)))))) (ti (ti trivial))) (Wv.refl _)
 ·injection h with h; subst h
  exact fun_ok pm pn Go.Proofs.Try.func33 (r0 := VV.tu [vi 0, vi r2969]) (ans := [.reg (nN 4 []), .reg (.n :: .n :: .call (vi r2969) :: .n :: []), .reg (.n :: .n :: []), .br true, .reg (nN 3 [])]) (fr := true) (by kernel_rfl) (an (an (ti (ti (ti (ti trivial)))) (an (ti (ti (an e2971 (ti trivial)))) (an (ti (ti trivial)) (an (not_t (decide_eq_false h2972)) (an (ti (ti (ti trivial))) trivial))))) (ti (ti trivial))) (Wv.refl _)
end Go.Proofs.Ytbaegoglpijnnab.Vg

import Derived.Test.YtbaegoglpijnnabK4
namespace Go.Proofs.Ytbaegoglpijnnab.Vg
set_option maxRecDepth 100000
set_option maxHeartbeats 4000000
set_option linter.unusedVariables false
set_option linter.unusedSimpArgs false
open Go Go.Proofs.Ytbaegoglpijnnab.Ev Go.Proofs.Ytbaegoglpijnnab.Vv
open List (flatMap length_cons length_nil length_map length_append map_cons map_nil length_replicate)
structure SGrindDemand where
 Low : (List Int)
 High : (List Int)
 deriving Inhabited
def c_SGrindDemand (x : SGrindDemand) : List VV := [VV.tr (List.map vi x.Low) x.Low.length, VV.tr (List.map vi x.High) x.High.length]
def g_SGrindDemand (x : SGrindDemand) : List VV := [VV.fr (List.map vi x.Low) x.Low.length, VV.fr (List.map vi x.High) x.High.length]
theorem unfr_c_SGrindDemand (xs : List SGrindDemand) : (xs.flatMap c_SGrindDemand).map unfr = xs.flatMap c_SGrindDemand := unfr_flat2 (fun _ => rfl) xs
theorem unfr_g_SGrindDemand (xs : List SGrindDemand) : (xs.flatMap g_SGrindDemand).map unfr = xs.flatMap c_SGrindDemand := unfr_flat2 (fun _ => rfl) xs
structure SGrindPlan where
 Minutes : (List Int)
 Den : Int
 deriving Inhabited
def c_SGrindPlan (x : SGrindPlan) : List VV := [VV.tr (List.map vi x.Minutes) x.Minutes.length, vi x.Den]
def g_SGrindPlan (x : SGrindPlan) : List VV := [VV.fr (List.map vi x.Minutes) x.Minutes.length, vi x.Den]
theorem unfr_c_SGrindPlan (xs : List SGrindPlan) : (xs.flatMap c_SGrindPlan).map unfr = xs.flatMap c_SGrindPlan := unfr_flat2 (fun _ => rfl) xs
theorem unfr_g_SGrindPlan (xs : List SGrindPlan) : (xs.flatMap g_SGrindPlan).map unfr = xs.flatMap c_SGrindPlan := unfr_flat2 (fun _ => rfl) xs
theorem ag140 : isAggT Try.prog 140 = some false := by kernel_rfl
def nspeculumlaw04_slim (k : Nat) (a0 : SGrindDemand) : Option Bool :=
 if (a0.Low.length : Int) <= 43 then (some (decide ((a0.High.length : Int) <= 43))) else (some false)
theorem nspeculumlaw04_slim_ok (k : Nat) (a0 : SGrindDemand) (r : Bool) (h : nspeculumlaw04_slim k a0 = some r) : VC Try.prog 11 [VV.ag (c_SGrindDemand a0)] (vb r) := by
 unfold nspeculumlaw04_slim at h
 rcases ifs h with ⟨h2100, h⟩ | ⟨h2100, h⟩
 ·have e2101 := (ti (ti (ti (ti (ti (an (an (decide_eq_true h2100) trivial) (an (an (decide_eq_true h2100) trivial) (an (an (decide_eq_true h2100) trivial) (an (an (decide_eq_true h2100) trivial) (an (decide_eq_true h2100) (ti trivial)))))))))))
  injection h with h; subst h
  exact fun_ok pm pn Try.func11 (r0 := vb (decide ((a0.High.length : Int) <= 43))) (ans := [.reg (.n :: .n :: []), .reg (nN 9 (.b true :: .n :: []))]) (fr := true) (by kernel_rfl) (an (an (ti (ti trivial)) (an e2101 trivial)) (ti trivial)) (Wv.refl _)
 ·have e2102 := (ti (ti (ti (ti (ti (an (decide_eq_false h2100) (an (decide_eq_false h2100) (an (decide_eq_false h2100) (an (decide_eq_false h2100) (an (decide_eq_false h2100) (ti trivial)))))))))))
  injection h with h; subst h
  exact fun_ok pm pn Try.func11 (r0 := vb false) (ans := [.reg (.n :: .n :: []), .reg (nN 5 (nS 4 (.b false :: .n :: [])))]) (fr := true) (by kernel_rfl) (an (an (ti (ti trivial)) (an e2102 trivial)) (ti trivial)) (Wv.refl _)
def arD1_0 (z0 : (List Int)) (z1 : (List Int)) : List Ans := (.n :: .n :: .call (VV.fr (List.map vi z0) z0.length) :: .n :: .n :: .call (VV.fr (List.map vi z1) z1.length) :: .n :: .n :: [])
theorem eqD1_0 (z0 : (List Int)) (z1 : (List Int)) : VV.ag [VV.fr (List.map vi z0) z0.length, VV.fr (List.map vi z1) z1.length] = VV.ag (g_SGrindDemand (⟨z0, z1⟩ : SGrindDemand)) := by first | rfl | (simp only [unfr_vi, map_cons, map_nil, un_i, un_fr, length_map, length_cons, length_nil, unfr_g_SGrindDemand]; done) | (simp only [unfr_vi, map_cons, map_nil, un_i, un_fr, length_map, length_cons, length_nil, unfr_g_SGrindDemand]; rfl) | (simp only [unfr_vi, map_cons, map_nil, un_i, un_fr, length_map, length_cons, length_nil, unfr_g_SGrindDemand, g_SGrindDemand, length_cons, length_nil, length_append]; done)
def nspeculumlaw04_demand (k : Nat) (a0 : SGrindDemand) : Option SGrindDemand :=
 (nspeculumbase_CopyInts k a0.Low).bind fun r2110 => ((nspeculumbase_CopyInts k a0.High).bind fun r2113 => (some (⟨r2110, r2113⟩ : SGrindDemand)))
theorem nspeculumlaw04_demand_ok (k : Nat) (a0 : SGrindDemand) (r : SGrindDemand) (h : nspeculumlaw04_demand k a0 = some r) : VC Try.prog 15 [VV.ag (c_SGrindDemand a0)] (VV.ag (g_SGrindDemand r)) := by
 unfold nspeculumlaw04_demand at h
 obtain ⟨r2110, h2111, h⟩ := bs h
 have e2112 := (show VC Try.prog 55 [VV.tr (List.map vi a0.Low) a0.Low.length] (VV.fr (List.map vi r2110) r2110.length) from (VC.weak (nspeculumbase_CopyInts_ok k a0.Low _ h2111) (Wv.fw rfl rfl)))
 obtain ⟨r2113, h2114, h⟩ := bs h
 have e2115 := (show VC Try.prog 55 [VV.tr (List.map vi a0.High) a0.High.length] (VV.fr (List.map vi r2113) r2113.length) from (VC.weak (nspeculumbase_CopyInts_ok k a0.High _ h2114) (Wv.fw rfl rfl)))
 have e2116 := (ti (ti (an e2112 (ti (ti (an e2115 (ti (ti trivial))))))))
 injection h with h; subst h
 exact fun_ok pm pn Try.func15 (r0 := VV.ag [VV.fr (List.map vi r2110) r2110.length, VV.fr (List.map vi r2113) r2113.length]) (ans := [.reg (.n :: .n :: []), .reg (arD1_0 r2110 r2113)]) (fr := true) (by kernel_rfl) (an (an (ti (ti trivial)) (an e2116 trivial)) (an (ti (ti (ti trivial))) trivial)) (Wv.of_eq (eqD1_0 r2110 r2113))
def ngrind_validStrokes (k : Nat) (a0 : (List SStroke)) : Option (List SStroke) :=
 some a0
theorem ngrind_validStrokes_ok (k : Nat) (a0 : (List SStroke)) (r : (List SStroke)) (h : ngrind_validStrokes k a0 = some r) : VC Try.prog 50 [VV.tr (flatMap c_SStroke a0) a0.length] (VV.fn 89 [VV.tp [VV.tr (flatMap c_SStroke r) r.length] 0]) := by
 unfold ngrind_validStrokes at h
 injection h with h; subst h
 exact fun_ok pm pn Try.func50 (r0 := VV.fn 89 [VV.tp [VV.tr (flatMap c_SStroke a0) a0.length] 0]) (ans := [.reg (.n :: .n :: []), .frz 0, .reg (.n :: .n :: [])]) (fr := false) (by kernel_rfl) (an (an (ti (ti trivial)) (an (ti (ti trivial)) trivial)) (ti trivial)) (Wv.refl _)
def ngrind_validDemand (k : Nat) (a0 : (List SStroke)) (a1 : SGrindDemand) : Option ((List Int) × (List Int) × (List SStroke)) :=
 some (a1.Low, a1.High, a0)
theorem ngrind_validDemand_ok (k : Nat) (a0 : (List SStroke)) (a1 : SGrindDemand) (r : ((List Int) × (List Int) × (List SStroke))) (h : ngrind_validDemand k a0 a1 = some r) : VC Try.prog 51 [VV.tr (flatMap c_SStroke a0) a0.length, VV.ag (c_SGrindDemand a1)] (VV.fn 91 [VV.tp [VV.tr (List.map vi r.1) r.1.length, VV.tr (List.map vi r.2.1) r.2.1.length] 0, VV.tp [VV.tr (flatMap c_SStroke r.2.2) r.2.2.length] 0]) := by
 unfold ngrind_validDemand at h
 injection h with h; subst h
 exact fun_ok pm pn Try.func51 (r0 := VV.fn 91 [VV.tp [VV.tr (List.map vi a1.Low) a1.Low.length, VV.tr (List.map vi a1.High) a1.High.length] 0, VV.tp [VV.tr (flatMap c_SStroke a0) a0.length] 0]) (ans := [.reg (nN 3 []), .frz 0, .frz 1, .reg (.n :: .n :: [])]) (fr := false) (by kernel_rfl) (an (an (ti (ti (ti trivial))) (an (ti (ti trivial)) trivial)) (ti trivial)) (Wv.of_eq rfl)
def arD1_1 (z0 : (List SStroke)) (z1 : (Int × Int)) : List Ans := (.v (VV.tr (flatMap c_SStroke z0) z0.length) :: .call (VV.tu [vi z1.1, vi z1.2]) :: nN 5 [])
def ngrind_validStrokes_1 (k : Nat) (q0_0 : (List SStroke)) : Option Int :=
 (ngrind_CheckStrokes k q0_0).bind fun r2136 => (some r2136.2)
theorem ngrind_validStrokes_1_ok (k : Nat) (q0_0 : (List SStroke)) (r : Int) (h : ngrind_validStrokes_1 k q0_0 = some r) : VC Try.prog 89 [VV.tp [VV.tr (flatMap c_SStroke q0_0) q0_0.length] 0] (vi r) := by
 unfold ngrind_validStrokes_1 at h
 have e2135 := (show loadL Try.prog 22 0 [VV.tr (flatMap c_SStroke q0_0) q0_0.length] = some (VV.tr (flatMap c_SStroke q0_0) q0_0.length) from (ld_one ag22 rfl))
 obtain ⟨r2136, h2137, h⟩ := bs h
 have e2138 := (an e2135 (an (ngrind_CheckStrokes_ok k q0_0 _ h2137) (ti (ti (ti (ti (ti trivial)))))))
 injection h with h; subst h
 exact fun_ok pm pn Try.func89 (r0 := vi r2136.2) (ans := [.reg (.n :: []), .reg (arD1_1 q0_0 r2136), .reg (.n :: .n :: [])]) (fr := true) (by kernel_rfl) (an (an (ti trivial) (an e2138 (an (ti (ti trivial)) trivial))) (ti trivial)) (Wv.refl _)
def ngrind_each_c1_grind_validDemand_1_1 (k : Nat) (a0 : Int) (a1 : ((List Int) × (List Int))) : Option (Int × ((List Int) × (List Int))) :=
 some (a0, a1)
theorem ngrind_each_c1_grind_validDemand_1_1_ok (k : Nat) (a0 : Int) (a1 : ((List Int) × (List Int))) (r : (Int × ((List Int) × (List Int)))) (h : ngrind_each_c1_grind_validDemand_1_1 k a0 a1 = some r) : VC Try.prog 92 [vi a0, VV.fn 93 [VV.tp [VV.tr (List.map vi a1.1) a1.1.length, VV.tr (List.map vi a1.2) a1.2.length] 0]] (VV.fn 117 [VV.tp [vi r.1] 0, VV.tp [VV.fn 93 [VV.tp [VV.tr (List.map vi r.2.1) r.2.1.length, VV.tr (List.map vi r.2.2) r.2.2.length] 0]] 0]) := by
 unfold ngrind_each_c1_grind_validDemand_1_1 at h
 injection h with h; subst h
 exact fun_ok pm pn Try.func92 (r0 := VV.fn 117 [VV.tp [vi a0] 0, VV.tp [VV.fn 93 [VV.tp [VV.tr (List.map vi a1.1) a1.1.length, VV.tr (List.map vi a1.2) a1.2.length] 0]] 0]) (ans := [.reg (nN 3 []), .frz 0, .frz 1, .reg (.n :: .n :: [])]) (fr := false) (by kernel_rfl) (an (an (ti (ti (ti trivial))) (an (ti (ti trivial)) trivial)) (ti trivial)) (Wv.of_eq rfl)
theorem eqD1_2 (z0 : Int) (z1 : (List Int)) (z2 : (List Int)) : [vi z0, VV.fn 93 [VV.tp [VV.tr (List.map vi ((z1, z2).1)) (((z1, z2).1).length), VV.tr (List.map vi ((z1, z2).2)) (((z1, z2).2).length)] 0]] = [vi z0, VV.fn 93 [VV.tp [VV.tr (List.map vi z1) z1.length, VV.tr (List.map vi z2) z2.length] 0]] := by first | rfl | (simp only [unfr_vi, map_cons, map_nil, un_i, un_tr, length_map, length_cons, length_nil]; done) | (simp only [unfr_vi, map_cons, map_nil, un_i, un_tr, length_map, length_cons, length_nil]; rfl) | (simp only [unfr_vi, map_cons, map_nil, un_i, un_tr, length_map, length_cons, length_nil, length_cons, length_nil, length_append]; done)
theorem eqD1_3 (z0 : (List Int)) (z1 : Int) (z2 : (List Int)) : [vi 0, vi 10000, VV.tr (List.map vi ([(z0.getD z1.toNat 0), (z2.getD z1.toNat 0)] : List Int)) (([(z0.getD z1.toNat 0), (z2.getD z1.toNat 0)] : List Int).length)] = [vi 0, vi 10000, VV.tr [vi (z0.getD z1.toNat 0), vi (z2.getD z1.toNat 0)] 2] := by first | rfl | (simp only [unfr_vi, map_cons, map_nil, un_i, un_tr, length_map, length_cons, length_nil]; done) | (simp only [unfr_vi, map_cons, map_nil, un_i, un_tr, length_map, length_cons, length_nil]; rfl) | (simp only [unfr_vi, map_cons, map_nil, un_i, un_tr, length_map, length_cons, length_nil, length_cons, length_nil, length_append]; done)
def arD1_2 (z0 : (((List Int) × Int × Int) × (Bool × Int))) : List Ans := (.n :: .v (VV.fn 114 [VV.tp [VV.tr (List.map vi z0.1.1) z0.1.1.length] 0, VV.tp [vi z0.1.2.1] 0, VV.tp [vi z0.1.2.2] 0]) :: .n :: [])
def ngrind_firstOf_c0_Lgrind_within_1_grind_need_1 (k : Nat) (a0 : (((List Int) × Int × Int) × (Bool × Int))) : Option Int :=
 (ngrind_within_1 k a0.1.1 a0.1.2.1 a0.1.2.2).bind fun r2203 => (if r2203 = 0 then ((ngrind_need_1 k a0.2.1 a0.2.2).bind fun r2209 => (if r2209 = 0 then (some 0) else (some r2209))) else (some r2203))
theorem ngrind_firstOf_c0_Lgrind_within_1_grind_need_1_ok (k : Nat) (a0 : (((List Int) × Int × Int) × (Bool × Int))) (r : Int) (h : ngrind_firstOf_c0_Lgrind_within_1_grind_need_1 k a0 = some r) : VC Try.prog 49 [VV.tr ([VV.fn 114 [VV.tp [VV.tr (List.map vi a0.1.1) a0.1.1.length] 0, VV.tp [vi a0.1.2.1] 0, VV.tp [vi a0.1.2.2] 0], VV.fn 102 [VV.tp [vb a0.2.1] 0, VV.tp [vi a0.2.2] 0]]) 2] (vi r) := by
 unfold ngrind_firstOf_c0_Lgrind_within_1_grind_need_1 at h
 have e2201 := (show (0 : Int) <= 0 /\ (0 : Int) < ((2 : Nat) : Int) from ⟨by decide, by decide⟩)
 have e2202 := (show loadL Try.prog 98 ((0 : Int).toNat * 1) ([VV.fn 114 [VV.tp [VV.tr (List.map vi a0.1.1) a0.1.1.length] 0, VV.tp [vi a0.1.2.1] 0, VV.tp [vi a0.1.2.2] 0], VV.fn 102 [VV.tp [vb a0.2.1] 0, VV.tp [vi a0.2.2] 0]]) = some (VV.fn 114 [VV.tp [VV.tr (List.map vi a0.1.1) a0.1.1.length] 0, VV.tp [vi a0.1.2.1] 0, VV.tp [vi a0.1.2.2] 0]) from (ld_one ag98 rfl))
 obtain ⟨r2203, h2204, h⟩ := bs h
 have e2205 := (ngrind_within_1_ok k a0.1.1 a0.1.2.1 a0.1.2.2 _ h2204)
 rcases ifs h with ⟨h2206, h⟩ | ⟨h2206, h⟩
 ·have e2207 := (show (0 : Int) <= 1 /\ (1 : Int) < ((2 : Nat) : Int) from ⟨by decide, by decide⟩)
  have e2208 := (show loadL Try.prog 98 ((1 : Int).toNat * 1) ([VV.fn 114 [VV.tp [VV.tr (List.map vi a0.1.1) a0.1.1.length] 0, VV.tp [vi a0.1.2.1] 0, VV.tp [vi a0.1.2.2] 0], VV.fn 102 [VV.tp [vb a0.2.1] 0, VV.tp [vi a0.2.2] 0]]) = some (VV.fn 102 [VV.tp [vb a0.2.1] 0, VV.tp [vi a0.2.2] 0]) from (ld_one ag98 rfl))
  obtain ⟨r2209, h2210, h⟩ := bs h
  have e2211 := (ngrind_need_1_ok k a0.2.1 a0.2.2 _ h2210)
  rcases ifs h with ⟨h2212, h⟩ | ⟨h2212, h⟩
  ·injection h with h; subst h
   exact fun_ok pm pn Try.func49 (r0 := vi 0) (ans := [.reg (.n :: []), .reg (nN 3 []), .unr 4, .reg (.n :: []), .br true, .reg (arD1_2 a0), .reg (.n :: .call (vi r2203) :: .n :: []), .reg (.n :: .n :: []), .br false, .reg (.n :: .n :: []), .reg (.n :: []), .br true, .reg (.n :: .v (VV.fn 102 [VV.tp [vb a0.2.1] 0, VV.tp [vi a0.2.2] 0]) :: .n :: []), .reg (.n :: .call (vi r2209) :: .n :: []), .reg (.n :: .n :: []), .br false, .reg (.n :: .n :: []), .reg (.n :: []), .br false, .reg (.n :: [])]) (fr := true) (by kernel_rfl) (an (an (ti trivial) (an (an (ti (ti (ti trivial))) (an (an (ti trivial) (an (an (show (decide ((0 : Int) < 2)) = true from (decide_eq_true (by decide))) trivial) (an (an (an e2201 (an e2202 (ti trivial))) (an (ti (an e2205 (ti trivial))) (an (ti (ti trivial)) (an (not_f (decide_eq_true h2206)) trivial)))) (ti (ti trivial))))) (an (an (ti trivial) (an (an (show (decide ((1 : Int) < 2)) = true from (decide_eq_true (by decide))) trivial) (an (an (an e2207 (an e2208 (ti trivial))) (an (ti (an e2211 (ti trivial))) (an (ti (ti trivial)) (an (not_f (decide_eq_true h2212)) trivial)))) (ti (ti trivial))))) (an (ti trivial) (an (show (decide ((2 : Int) < 2)) = false from (decide_eq_false (by decide))) trivial))))) (an (ti trivial) trivial))) (ti trivial)) (Wv.refl _)
  ·injection h with h; subst h
   exact fun_ok pm pn Try.func49 (r0 := vi r2209) (ans := [.reg (.n :: []), .reg (nN 3 []), .unr 3, .reg (.n :: []), .br true, .reg (arD1_2 a0), .reg (.n :: .call (vi r2203) :: .n :: []), .reg (.n :: .n :: []), .br false, .reg (.n :: .n :: []), .reg (.n :: []), .br true, .reg (.n :: .v (VV.fn 102 [VV.tp [vb a0.2.1] 0, VV.tp [vi a0.2.2] 0]) :: .n :: []), .reg (.n :: .call (vi r2209) :: .n :: []), .reg (.n :: .n :: []), .br true, .reg (.n :: .n :: [])]) (fr := true) (by kernel_rfl) (an (an (ti trivial) (an (ti (ti (ti trivial))) (an (an (ti trivial) (an (an (show (decide ((0 : Int) < 2)) = true from (decide_eq_true (by decide))) trivial) (an (an (an e2201 (an e2202 (ti trivial))) (an (ti (an e2205 (ti trivial))) (an (ti (ti trivial)) (an (not_f (decide_eq_true h2206)) trivial)))) (ti (ti trivial))))) (an (ti trivial) (an (an (show (decide ((1 : Int) < 2)) = true from (decide_eq_true (by decide))) trivial) (an (an e2207 (an e2208 (ti trivial))) (an (ti (an e2211 (ti trivial))) (an (ti (ti trivial)) (an (not_t (decide_eq_false h2212)) (an (ti (ti trivial)) trivial)))))))))) (ti trivial)) (Wv.refl _)
 ·injection h with h; subst h
  exact fun_ok pm pn Try.func49 (r0 := vi r2203) (ans := [.reg (.n :: []), .reg (nN 3 []), .unr 2, .reg (.n :: []), .br true, .reg (arD1_2 a0), .reg (.n :: .call (vi r2203) :: .n :: []), .reg (.n :: .n :: []), .br true, .reg (.n :: .n :: [])]) (fr := true) (by kernel_rfl) (an (an (ti trivial) (an (ti (ti (ti trivial))) (an (ti trivial) (an (an (show (decide ((0 : Int) < 2)) = true from (decide_eq_true (by decide))) trivial) (an (an e2201 (an e2202 (ti trivial))) (an (ti (an e2205 (ti trivial))) (an (ti (ti trivial)) (an (not_t (decide_eq_false h2206)) (an (ti (ti trivial)) trivial))))))))) (ti trivial)) (Wv.refl _)
theorem eqD1_4 (z0 : ((List Int) × Int × Int)) (z1 : (Bool × Int)) : [VV.tr ([VV.fn 114 [VV.tp [VV.tr (List.map vi (((z0, z1).1).1)) ((((z0, z1).1).1).length)] 0, VV.tp [vi (((z0, z1).1).2.1)] 0, VV.tp [vi (((z0, z1).1).2.2)] 0], VV.fn 102 [VV.tp [vb (((z0, z1).2).1)] 0, VV.tp [vi (((z0, z1).2).2)] 0]]) 2] = [VV.tr (List.drop 0 (List.map unfr [VV.fn 114 [VV.tp [VV.tr (List.map vi z0.1) z0.1.length] 0, VV.tp [vi z0.2.1] 0, VV.tp [vi z0.2.2] 0], VV.fn 102 [VV.tp [vb z1.1] 0, VV.tp [vi z1.2] 0]])) 2] := by first | rfl | (simp only [drop0, unfr_vi, unfr_vb, map_cons, map_nil, un_i, un_b, un_tr, length_map, length_cons, length_nil]; done) | (simp only [drop0, unfr_vi, unfr_vb, map_cons, map_nil, un_i, un_b, un_tr, length_map, length_cons, length_nil]; rfl) | (simp only [drop0, unfr_vi, unfr_vb, map_cons, map_nil, un_i, un_b, un_tr, length_map, length_cons, length_nil, length_cons, length_nil, length_append]; done)
def arD1_3 (z0 : (List Int)) (z1 : Int) (z2 : (List Int)) (z3 : ((List Int) × Int × Int)) (z4 : (Bool × Int)) (z5 : Int) : List Ans := (.n :: .v (VV.tr (List.map vi z0) z0.length) :: .n :: .n :: .v (vi (z0.getD z1.toNat 0)) :: .n :: .v (VV.tr (List.map vi z2) z2.length) :: .n :: .n :: .v (vi (z2.getD z1.toNat 0)) :: .v VV.any :: .call (VV.fn 114 [VV.tp [VV.tr (List.map vi z3.1) z3.1.length] 0, VV.tp [vi z3.2.1] 0, VV.tp [vi z3.2.2] 0]) :: .n :: .v (VV.tr (List.map vi z2) z2.length) :: .n :: .n :: .v (vi (z2.getD z1.toNat 0)) :: .n :: .v (VV.tr (List.map vi z0) z0.length) :: .n :: .n :: .v (vi (z0.getD z1.toNat 0)) :: .n :: .call (VV.fn 102 [VV.tp [vb z4.1] 0, VV.tp [vi z4.2] 0]) :: .n :: .call (vi z5) :: .n :: [])
def ngrind_validDemand_1_1 (k : Nat) (a0 : Int) (q0_0 : (List Int)) (q0_1 : (List Int)) : Option Int :=
 if 0 <= a0 /\ a0 < (q0_0.length : Int) then (if 0 <= a0 /\ a0 < (q0_1.length : Int) then ((ngrind_within k 0 10000 ([(q0_0.getD a0.toNat 0), (q0_1.getD a0.toNat 0)] : List Int)).bind fun r2223 => ((ngrind_need k (decide ((q0_0.getD a0.toNat 0) <= (q0_1.getD a0.toNat 0))) 9).bind fun r2230 => ((ngrind_firstOf_c0_Lgrind_within_1_grind_need_1 k (r2223, r2230)).bind fun r2233 => (some r2233)))) else none) else none
theorem ngrind_validDemand_1_1_ok (k : Nat) (a0 : Int) (q0_0 : (List Int)) (q0_1 : (List Int)) (r : Int) (h : ngrind_validDemand_1_1 k a0 q0_0 q0_1 = some r) : VC Try.prog 93 [vi a0, VV.tp [VV.tr (List.map vi q0_0) q0_0.length, VV.tr (List.map vi q0_1) q0_1.length] 0] (vi r) := by
 unfold ngrind_validDemand_1_1 at h
 have e2217 := (show loadL Try.prog 23 0 [VV.tr (List.map vi q0_0) q0_0.length, VV.tr (List.map vi q0_1) q0_1.length] = some (VV.tr (List.map vi q0_0) q0_0.length) from (ld_one ag23 rfl))
 obtain ⟨h2218, h⟩ := ifn h
 have e2219 := (show loadL Try.prog 3 (a0.toNat * 1) (List.map vi q0_0) = some (vi (q0_0.getD a0.toNat 0)) from ld_map ag3 vi q0_0 0 h2218 (by omega))
 have e2220 := (show loadL Try.prog 23 1 [VV.tr (List.map vi q0_0) q0_0.length, VV.tr (List.map vi q0_1) q0_1.length] = some (VV.tr (List.map vi q0_1) q0_1.length) from (ld_one ag23 rfl))
 obtain ⟨h2221, h⟩ := ifn h
 have e2222 := (show loadL Try.prog 3 (a0.toNat * 1) (List.map vi q0_1) = some (vi (q0_1.getD a0.toNat 0)) from ld_map ag3 vi q0_1 0 h2221 (by omega))
 obtain ⟨r2223, h2224, h⟩ := bs h
 have e2225 := (VC.args (ngrind_within_ok k 0 10000 ([(q0_0.getD a0.toNat 0), (q0_1.getD a0.toNat 0)] : List Int) _ h2224) (eqD1_3 q0_0 a0 q0_1))
 have e2226 := (show loadL Try.prog 23 1 [VV.tr (List.map vi q0_0) q0_0.length, VV.tr (List.map vi q0_1) q0_1.length] = some (VV.tr (List.map vi q0_1) q0_1.length) from (ld_one ag23 rfl))
 have e2227 := (show loadL Try.prog 3 (a0.toNat * 1) (List.map vi q0_1) = some (vi (q0_1.getD a0.toNat 0)) from ld_map ag3 vi q0_1 0 h2221 (by omega))
 have e2228 := (show loadL Try.prog 23 0 [VV.tr (List.map vi q0_0) q0_0.length, VV.tr (List.map vi q0_1) q0_1.length] = some (VV.tr (List.map vi q0_0) q0_0.length) from (ld_one ag23 rfl))
 have e2229 := (show loadL Try.prog 3 (a0.toNat * 1) (List.map vi q0_0) = some (vi (q0_0.getD a0.toNat 0)) from ld_map ag3 vi q0_0 0 h2218 (by omega))
 obtain ⟨r2230, h2231, h⟩ := bs h
 have e2232 := (ngrind_need_ok k (decide ((q0_0.getD a0.toNat 0) <= (q0_1.getD a0.toNat 0))) 9 _ h2231)
 obtain ⟨r2233, h2234, h⟩ := bs h
 have e2235 := (VC.args (ngrind_firstOf_c0_Lgrind_within_1_grind_need_1_ok k (r2223, r2230) _ h2234) (eqD1_4 r2223 r2230))
 have e2236 := (ti (an e2217 (ti (an h2218 (an e2219 (ti (an e2220 (ti (an h2221 (an e2222 (ti (an e2225 (ti (an e2226 (ti (an h2221 (an e2227 (ti (an e2228 (ti (an h2218 (an e2229 (ti (an e2232 (ti (an e2235 (ti trivial)))))))))))))))))))))))))))
 injection h with h; subst h
 exact fun_ok pm pn Try.func93 (r0 := vi r2233) (ans := [.reg (.n :: []), .reg (arD1_3 q0_0 a0 q0_1 r2223 r2230 r2233)]) (fr := true) (by kernel_rfl) (an (an (ti trivial) (an e2236 trivial)) (ti trivial)) (Wv.refl _)
def arD1_4 (z0 : ((List Int) × (List Int))) (z1 : Int) : List Ans := (.v (VV.fn 93 [VV.tp [VV.tr (List.map vi z0.1) z0.1.length, VV.tr (List.map vi z0.2) z0.2.length] 0]) :: .n :: .call (vi z1) :: .n :: [])
def ngrind_each_1_k_grind_validDemand_1_1_l0_0_h (q0_0 : Int) (q1_0 : ((List Int) × (List Int))) (x6 : Int) : VS := ⟨mkA [(1, VV.tp [VV.fn 93 [VV.tp [VV.tr (List.map vi q1_0.1) q1_0.1.length, VV.tr (List.map vi q1_0.2) q1_0.2.length] 0]] 0), (5, vi q0_0), (6, vi x6)], [], .nil⟩
def ngrind_each_1_k_grind_validDemand_1_1_l0_0_e0 (q0_0 : Int) (q1_0 : ((List Int) × (List Int))) (r : Int) : VS := ⟨mkA [(2, vi r)], [], .nil⟩
def ngrind_each_1_k_grind_validDemand_1_1_l0_0_e1 (q0_0 : Int) (q1_0 : ((List Int) × (List Int))) (r : Unit) : VS := ⟨mkA [], [], .nil⟩
def ngrind_each_1_k_grind_validDemand_1_1_l0_0 (k : Nat) (q0_0 : Int) (q1_0 : ((List Int) × (List Int))) : Nat -> Int -> Option (Sum Int Unit)
 | 0, _ => none
 | fuel + 1, x6 => if x6 < q0_0 then ((ngrind_validDemand_1_1 k x6 q1_0.1 q1_0.2).bind fun r2274 => (if r2274 = 0 then (ngrind_each_1_k_grind_validDemand_1_1_l0_0 k q0_0 q1_0 fuel (w64 (x6 + 1))) else (some (.inl r2274)))) else (some (.inr ()))
theorem ngrind_each_1_k_grind_validDemand_1_1_l0_0_ok (k : Nat) (q0_0 : Int) (q1_0 : ((List Int) × (List Int))) : ∀ (fuel : Nat) (x6 : Int) (r : Sum Int Unit), ngrind_each_1_k_grind_validDemand_1_1_l0_0 k q0_0 q1_0 fuel x6 = some r -> (match r with | .inl r => VLoop none Try.prog (szF Try.f117) (bodyOf Try.f117 0) (ngrind_each_1_k_grind_validDemand_1_1_l0_0_h q0_0 q1_0 x6) .ret (ngrind_each_1_k_grind_validDemand_1_1_l0_0_e0 q0_0 q1_0 r) | .inr r => VLoop none Try.prog (szF Try.f117) (bodyOf Try.f117 0) (ngrind_each_1_k_grind_validDemand_1_1_l0_0_h q0_0 q1_0 x6) (.exit 0) (ngrind_each_1_k_grind_validDemand_1_1_l0_0_e1 q0_0 q1_0 r)) := by
 intro fuel
 induction fuel with
 | zero => intro x6 r h; rw [ngrind_each_1_k_grind_validDemand_1_1_l0_0.eq_1] at h; cases h
 | succ fuel ih =>
  intro x6 r h
  rw [ngrind_each_1_k_grind_validDemand_1_1_l0_0.eq_2] at h
  rcases ifs h with ⟨h2272, h⟩ | ⟨h2272, h⟩
  ·have e2273 := (show loadL Try.prog 140 0 [VV.fn 93 [VV.tp [VV.tr (List.map vi q1_0.1) q1_0.1.length, VV.tr (List.map vi q1_0.2) q1_0.2.length] 0]] = some (VV.fn 93 [VV.tp [VV.tr (List.map vi q1_0.1) q1_0.1.length, VV.tr (List.map vi q1_0.2) q1_0.2.length] 0]) from (ld_one ag140 rfl))
   obtain ⟨r2274, h2275, h⟩ := bs h
   have e2276 := (ngrind_validDemand_1_1_ok k x6 q1_0.1 q1_0.2 _ h2275)
   rcases ifs h with ⟨h2277, h⟩ | ⟨h2277, h⟩
   ·have h2 := ih _ _ h
    obtain ⟨q, hv, hq⟩ := pkR (rd := none) (P := Try.prog) (fn := Try.f117) (k := 0) (s := (ngrind_each_1_k_grind_validDemand_1_1_l0_0_h q0_0 q1_0 x6)) (ans := [.reg (.n :: []), .br true, .reg (.n :: .n :: []), .reg (arD1_4 q1_0 r2274), .reg (.n :: .n :: []), .br false, .reg (.n :: .n :: [])]) (c := ⟨[(1, none), (5, none), (6, none)], [], []⟩) (e := .normal) (s1 := (ngrind_each_1_k_grind_validDemand_1_1_l0_0_h q0_0 q1_0 (w64 (x6 + 1)))) (an (an (ti trivial) (an (an (decide_eq_true h2272) trivial) (an (an (ti (ti trivial)) (an (an e2273 (ti (an e2276 (ti trivial)))) (an (ti (ti trivial)) (an (not_f (decide_eq_true h2277)) trivial)))) (ti (ti trivial))))) (ti trivial)) (by kernel_rfl)
    cases r with
    | inl r => exact round_next pm pn hv hq h2
    | inr r =>
     exact round_next pm pn hv hq h2
   ·injection h with h; subst h
    exact round_stop (c := ⟨[(2, none)], [], []⟩) (s1 := (ngrind_each_1_k_grind_validDemand_1_1_l0_0_e0 q0_0 q1_0 r2274)) pm pn (ans := [.reg (.n :: []), .br true, .reg (.n :: .n :: []), .reg (arD1_4 q1_0 r2274), .reg (.n :: .n :: []), .br true, .reg (.n :: .n :: [])]) (by kernel_rfl) (by intro e; cases e) (an (an (ti trivial) (an (an (decide_eq_true h2272) trivial) (an (ti (ti trivial)) (an (an e2273 (ti (an e2276 (ti trivial)))) (an (ti (ti trivial)) (an (not_t (decide_eq_false h2277)) (an (ti (ti trivial)) trivial))))))) (ti trivial))
  ·injection h with h; subst h
   exact round_stop (c := ⟨[], [], []⟩) (s1 := (ngrind_each_1_k_grind_validDemand_1_1_l0_0_e1 q0_0 q1_0 ())) pm pn (ans := [.reg (.n :: []), .br false]) (by kernel_rfl) (by intro e; cases e) (an (an (ti trivial) (an (decide_eq_false h2272) trivial)) (ti trivial))
def ngrind_each_1_k_grind_validDemand_1_1 (k : Nat) (q0_0 : Int) (q1_0 : ((List Int) × (List Int))) : Option Int :=
 (ngrind_each_1_k_grind_validDemand_1_1_l0_0 k q0_0 q1_0 k 0).bind fun r2279 => (match r2279 with | .inl r2280 => (some r2280) | .inr r2281 => (some 0))
theorem ngrind_each_1_k_grind_validDemand_1_1_ok (k : Nat) (q0_0 : Int) (q1_0 : ((List Int) × (List Int))) (r : Int) (h : ngrind_each_1_k_grind_validDemand_1_1 k q0_0 q1_0 = some r) : VC Try.prog 117 [VV.tp [vi q0_0] 0, VV.tp [VV.fn 93 [VV.tp [VV.tr (List.map vi q1_0.1) q1_0.1.length, VV.tr (List.map vi q1_0.2) q1_0.2.length] 0]] 0] (vi r) := by
 unfold ngrind_each_1_k_grind_validDemand_1_1 at h
 have e2259 := (show loadL Try.prog 3 0 [vi q0_0] = some (vi q0_0) from (ld_one ag3 rfl))
 obtain ⟨r2279, h2278, h⟩ := bs h
 have hph2278 := ngrind_each_1_k_grind_validDemand_1_1_l0_0_ok k q0_0 q1_0 _ _ _ h2278
 cases r2279 with
 | inl r2280 =>
  dsimp only at h
  have e2282 := (an (ti trivial) (VRun.loop hph2278))
  injection h with h; subst h
  exact fun_ok pm pn Try.func117 (r0 := vi r2280) (ans := [.reg (.n :: []), .reg (.v (vi q0_0) :: .n :: []), .sub ⟨[(1, none), (5, none), (6, none)], [], []⟩ .ret (ngrind_each_1_k_grind_validDemand_1_1_l0_0_e0 q0_0 q1_0 r2280)]) (fr := true) (by kernel_rfl) (an (an (ti trivial) (an (an e2259 (ti trivial)) e2282)) (ti trivial)) (Wv.refl _)
 | inr r2281 =>
  dsimp only at h
  have e2283 := (an (ti trivial) (VRun.loop hph2278))
  injection h with h; subst h
  exact fun_ok pm pn Try.func117 (r0 := vi 0) (ans := [.reg (.n :: []), .reg (.v (vi q0_0) :: .n :: []), .sub ⟨[(1, none), (5, none), (6, none)], [], []⟩ (.exit 0) (ngrind_each_1_k_grind_validDemand_1_1_l0_0_e1 q0_0 q1_0 r2281), .reg (.n :: [])]) (fr := true) (by kernel_rfl) (an (an (ti trivial) (an (an (an e2259 (ti trivial)) e2283) (an (ti trivial) trivial))) (ti trivial)) (Wv.refl _)
def arD1_5 (z0 : ((Bool × Int) × (Int × ((List Int) × (List Int))))) : List Ans := (.n :: .v (VV.fn 117 [VV.tp [vi z0.2.1] 0, VV.tp [VV.fn 93 [VV.tp [VV.tr (List.map vi z0.2.2.1) z0.2.2.1.length, VV.tr (List.map vi z0.2.2.2) z0.2.2.2.length] 0]] 0]) :: .n :: [])
def ngrind_firstOf_c0_Lgrind_need_1_grind_each_1_grind_validDemand_1_1 (k : Nat) (a0 : ((Bool × Int) × (Int × ((List Int) × (List Int))))) : Option Int :=
 (ngrind_need_1 k a0.1.1 a0.1.2).bind fun r2290 => (if r2290 = 0 then ((ngrind_each_1_k_grind_validDemand_1_1 k a0.2.1 a0.2.2).bind fun r2296 => (if r2296 = 0 then (some 0) else (some r2296))) else (some r2290))
theorem ngrind_firstOf_c0_Lgrind_need_1_grind_each_1_grind_validDemand_1_1_ok (k : Nat) (a0 : ((Bool × Int) × (Int × ((List Int) × (List Int))))) (r : Int) (h : ngrind_firstOf_c0_Lgrind_need_1_grind_each_1_grind_validDemand_1_1 k a0 = some r) : VC Try.prog 49 [VV.tr ([VV.fn 102 [VV.tp [vb a0.1.1] 0, VV.tp [vi a0.1.2] 0], VV.fn 117 [VV.tp [vi a0.2.1] 0, VV.tp [VV.fn 93 [VV.tp [VV.tr (List.map vi a0.2.2.1) a0.2.2.1.length, VV.tr (List.map vi a0.2.2.2) a0.2.2.2.length] 0]] 0]]) 2] (vi r) := by
 unfold ngrind_firstOf_c0_Lgrind_need_1_grind_each_1_grind_validDemand_1_1 at h
 have e2288 := (show (0 : Int) <= 0 /\ (0 : Int) < ((2 : Nat) : Int) from ⟨by decide, by decide⟩)
 have e2289 := (show loadL Try.prog 98 ((0 : Int).toNat * 1) ([VV.fn 102 [VV.tp [vb a0.1.1] 0, VV.tp [vi a0.1.2] 0], VV.fn 117 [VV.tp [vi a0.2.1] 0, VV.tp [VV.fn 93 [VV.tp [VV.tr (List.map vi a0.2.2.1) a0.2.2.1.length, VV.tr (List.map vi a0.2.2.2) a0.2.2.2.length] 0]] 0]]) = some (VV.fn 102 [VV.tp [vb a0.1.1] 0, VV.tp [vi a0.1.2] 0]) from (ld_one ag98 rfl))
 obtain ⟨r2290, h2291, h⟩ := bs h
 have e2292 := (ngrind_need_1_ok k a0.1.1 a0.1.2 _ h2291)
 rcases ifs h with ⟨h2293, h⟩ | ⟨h2293, h⟩
 ·have e2294 := (show (0 : Int) <= 1 /\ (1 : Int) < ((2 : Nat) : Int) from ⟨by decide, by decide⟩)
  have e2295 := (show loadL Try.prog 98 ((1 : Int).toNat * 1) ([VV.fn 102 [VV.tp [vb a0.1.1] 0, VV.tp [vi a0.1.2] 0], VV.fn 117 [VV.tp [vi a0.2.1] 0, VV.tp [VV.fn 93 [VV.tp [VV.tr (List.map vi a0.2.2.1) a0.2.2.1.length, VV.tr (List.map vi a0.2.2.2) a0.2.2.2.length] 0]] 0]]) = some (VV.fn 117 [VV.tp [vi a0.2.1] 0, VV.tp [VV.fn 93 [VV.tp [VV.tr (List.map vi a0.2.2.1) a0.2.2.1.length, VV.tr (List.map vi a0.2.2.2) a0.2.2.2.length] 0]] 0]) from (ld_one ag98 rfl))
  obtain ⟨r2296, h2297, h⟩ := bs h
  have e2298 := (ngrind_each_1_k_grind_validDemand_1_1_ok k a0.2.1 a0.2.2 _ h2297)
  rcases ifs h with ⟨h2299, h⟩ | ⟨h2299, h⟩
  ·injection h with h; subst h
   exact fun_ok pm pn Try.func49 (r0 := vi 0) (ans := [.reg (.n :: []), .reg (nN 3 []), .unr 4, .reg (.n :: []), .br true, .reg (.n :: .v (VV.fn 102 [VV.tp [vb a0.1.1] 0, VV.tp [vi a0.1.2] 0]) :: .n :: []), .reg (.n :: .call (vi r2290) :: .n :: []), .reg (.n :: .n :: []), .br false, .reg (.n :: .n :: []), .reg (.n :: []), .br true, .reg (arD1_5 a0), .reg (.n :: .call (vi r2296) :: .n :: []), .reg (.n :: .n :: []), .br false, .reg (.n :: .n :: []), .reg (.n :: []), .br false, .reg (.n :: [])]) (fr := true) (by kernel_rfl) (an (an (ti trivial) (an (an (ti (ti (ti trivial))) (an (an (ti trivial) (an (an (show (decide ((0 : Int) < 2)) = true from (decide_eq_true (by decide))) trivial) (an (an (an e2288 (an e2289 (ti trivial))) (an (ti (an e2292 (ti trivial))) (an (ti (ti trivial)) (an (not_f (decide_eq_true h2293)) trivial)))) (ti (ti trivial))))) (an (an (ti trivial) (an (an (show (decide ((1 : Int) < 2)) = true from (decide_eq_true (by decide))) trivial) (an (an (an e2294 (an e2295 (ti trivial))) (an (ti (an e2298 (ti trivial))) (an (ti (ti trivial)) (an (not_f (decide_eq_true h2299)) trivial)))) (ti (ti trivial))))) (an (ti trivial) (an (show (decide ((2 : Int) < 2)) = false from (decide_eq_false (by decide))) trivial))))) (an (ti trivial) trivial))) (ti trivial)) (Wv.refl _)
  ·injection h with h; subst h
   exact fun_ok pm pn Try.func49 (r0 := vi r2296) (ans := [.reg (.n :: []), .reg (nN 3 []), .unr 3, .reg (.n :: []), .br true, .reg (.n :: .v (VV.fn 102 [VV.tp [vb a0.1.1] 0, VV.tp [vi a0.1.2] 0]) :: .n :: []), .reg (.n :: .call (vi r2290) :: .n :: []), .reg (.n :: .n :: []), .br false, .reg (.n :: .n :: []), .reg (.n :: []), .br true, .reg (arD1_5 a0), .reg (.n :: .call (vi r2296) :: .n :: []), .reg (.n :: .n :: []), .br true, .reg (.n :: .n :: [])]) (fr := true) (by kernel_rfl) (an (an (ti trivial) (an (ti (ti (ti trivial))) (an (an (ti trivial) (an (an (show (decide ((0 : Int) < 2)) = true from (decide_eq_true (by decide))) trivial) (an (an (an e2288 (an e2289 (ti trivial))) (an (ti (an e2292 (ti trivial))) (an (ti (ti trivial)) (an (not_f (decide_eq_true h2293)) trivial)))) (ti (ti trivial))))) (an (ti trivial) (an (an (show (decide ((1 : Int) < 2)) = true from (decide_eq_true (by decide))) trivial) (an (an e2294 (an e2295 (ti trivial))) (an (ti (an e2298 (ti trivial))) (an (ti (ti trivial)) (an (not_t (decide_eq_false h2299)) (an (ti (ti trivial)) trivial)))))))))) (ti trivial)) (Wv.refl _)
 ·injection h with h; subst h
  exact fun_ok pm pn Try.func49 (r0 := vi r2290) (ans := [.reg (.n :: []), .reg (nN 3 []), .unr 2, .reg (.n :: []), .br true, .reg (.n :: .v (VV.fn 102 [VV.tp [vb a0.1.1] 0, VV.tp [vi a0.1.2] 0]) :: .n :: []), .reg (.n :: .call (vi r2290) :: .n :: []), .reg (.n :: .n :: []), .br true, .reg (.n :: .n :: [])]) (fr := true) (by kernel_rfl) (an (an (ti trivial) (an (ti (ti (ti trivial))) (an (ti trivial) (an (an (show (decide ((0 : Int) < 2)) = true from (decide_eq_true (by decide))) trivial) (an (an e2288 (an e2289 (ti trivial))) (an (ti (an e2292 (ti trivial))) (an (ti (ti trivial)) (an (not_t (decide_eq_false h2293)) (an (ti (ti trivial)) trivial))))))))) (ti trivial)) (Wv.refl _)
theorem eqD1_5 (z0 : (Bool × Int)) (z1 : (Int × ((List Int) × (List Int)))) : [VV.tr ([VV.fn 102 [VV.tp [vb (((z0, z1).1).1)] 0, VV.tp [vi (((z0, z1).1).2)] 0], VV.fn 117 [VV.tp [vi (((z0, z1).2).1)] 0, VV.tp [VV.fn 93 [VV.tp [VV.tr (List.map vi ((((z0, z1).2).2).1)) (((((z0, z1).2).2).1).length), VV.tr (List.map vi ((((z0, z1).2).2).2)) (((((z0, z1).2).2).2).length)] 0]] 0]]) 2] = [VV.tr (List.drop 0 (List.map unfr [VV.fn 102 [VV.tp [vb z0.1] 0, VV.tp [vi z0.2] 0], VV.fn 117 [VV.tp [vi z1.1] 0, VV.tp [VV.fn 93 [VV.tp [VV.tr (List.map vi z1.2.1) z1.2.1.length, VV.tr (List.map vi z1.2.2) z1.2.2.length] 0]] 0]])) 2] := by first | rfl | (simp only [drop0, unfr_vi, unfr_vb, map_cons, map_nil, un_i, un_b, un_tr, length_map, length_cons, length_nil]; done) | (simp only [drop0, unfr_vi, unfr_vb, map_cons, map_nil, un_i, un_b, un_tr, length_map, length_cons, length_nil]; rfl) | (simp only [drop0, unfr_vi, unfr_vb, map_cons, map_nil, un_i, un_b, un_tr, length_map, length_cons, length_nil, length_cons, length_nil, length_append]; done)
def arD1_6 (z0 : (List Int)) (z1 : (List SStroke)) (z2 : Int) (z3 : (List Int)) (z4 : (Bool × Int)) (z5 : (Int × ((List Int) × (List Int)))) (z6 : Int) : List Ans := (.n :: .v (VV.tr (List.map vi z0) z0.length) :: .n :: .v (VV.tr (flatMap c_SStroke z1) z1.length) :: .call (vi z2) :: nN 3 (.v (VV.tr (List.map vi z3) z3.length) :: .n :: .v (VV.tr (flatMap c_SStroke z1) z1.length) :: .call (vi z2) :: .n :: .b true :: .call (VV.fn 102 [VV.tp [vb z4.1] 0, VV.tp [vi z4.2] 0]) :: .v (VV.tr (flatMap c_SStroke z1) z1.length) :: .call (vi z2) :: .n :: .call (VV.fn 117 [VV.tp [vi z5.1] 0, VV.tp [VV.fn 93 [VV.tp [VV.tr (List.map vi z5.2.1) z5.2.1.length, VV.tr (List.map vi z5.2.2) z5.2.2.length] 0]] 0]) :: .n :: .call (vi z6) :: .n :: []))
def arD1_7 (z0 : (List Int)) (z1 : (List SStroke)) (z2 : Int) (z3 : (Bool × Int)) (z4 : (Int × ((List Int) × (List Int)))) (z5 : Int) : List Ans := (.n :: .v (VV.tr (List.map vi z0) z0.length) :: .n :: .v (VV.tr (flatMap c_SStroke z1) z1.length) :: .call (vi z2) :: .n :: .n :: nS 6 (.b false :: .call (VV.fn 102 [VV.tp [vb z3.1] 0, VV.tp [vi z3.2] 0]) :: .v (VV.tr (flatMap c_SStroke z1) z1.length) :: .call (vi z2) :: .n :: .call (VV.fn 117 [VV.tp [vi z4.1] 0, VV.tp [VV.fn 93 [VV.tp [VV.tr (List.map vi z4.2.1) z4.2.1.length, VV.tr (List.map vi z4.2.2) z4.2.2.length] 0]] 0]) :: .n :: .call (vi z5) :: .n :: []))
def ngrind_validDemand_1 (k : Nat) (q0_0 : (List Int)) (q0_1 : (List Int)) (q1_0 : (List SStroke)) : Option Int :=
 (ngrind_zonesOf k q1_0).bind fun r2317 => (if (q0_0.length : Int) = r2317 then ((ngrind_need k (decide ((q0_1.length : Int) = r2317)) 10).bind fun r2324 => ((ngrind_each_c1_grind_validDemand_1_1 k r2317 (q0_0, q0_1)).bind fun r2329 => ((ngrind_firstOf_c0_Lgrind_need_1_grind_each_1_grind_validDemand_1_1 k (r2324, r2329)).bind fun r2332 => (some r2332)))) else ((ngrind_need k false 10).bind fun r2336 => ((ngrind_each_c1_grind_validDemand_1_1 k r2317 (q0_0, q0_1)).bind fun r2340 => ((ngrind_firstOf_c0_Lgrind_need_1_grind_each_1_grind_validDemand_1_1 k (r2336, r2340)).bind fun r2343 => (some r2343)))))
theorem ngrind_validDemand_1_ok (k : Nat) (q0_0 : (List Int)) (q0_1 : (List Int)) (q1_0 : (List SStroke)) (r : Int) (h : ngrind_validDemand_1 k q0_0 q0_1 q1_0 = some r) : VC Try.prog 91 [VV.tp [VV.tr (List.map vi q0_0) q0_0.length, VV.tr (List.map vi q0_1) q0_1.length] 0, VV.tp [VV.tr (flatMap c_SStroke q1_0) q1_0.length] 0] (vi r) := by
 unfold ngrind_validDemand_1 at h
 have e2315 := (show loadL Try.prog 23 0 [VV.tr (List.map vi q0_0) q0_0.length, VV.tr (List.map vi q0_1) q0_1.length] = some (VV.tr (List.map vi q0_0) q0_0.length) from (ld_one ag23 rfl))
 have e2316 := (show loadL Try.prog 22 0 [VV.tr (flatMap c_SStroke q1_0) q1_0.length] = some (VV.tr (flatMap c_SStroke q1_0) q1_0.length) from (ld_one ag22 rfl))
 obtain ⟨r2317, h2318, h⟩ := bs h
 rcases ifs h with ⟨h2319, h⟩ | ⟨h2319, h⟩
 ·have e2320 := (an (decide_eq_true h2319) (show loadL Try.prog 23 1 [VV.tr (List.map vi q0_0) q0_0.length, VV.tr (List.map vi q0_1) q0_1.length] = some (VV.tr (List.map vi q0_1) q0_1.length) from (ld_one ag23 rfl)))
  have e2321 := (an (decide_eq_true h2319) (show loadL Try.prog 22 0 [VV.tr (flatMap c_SStroke q1_0) q1_0.length] = some (VV.tr (flatMap c_SStroke q1_0) q1_0.length) from (ld_one ag22 rfl)))
  have e2323 := (an (decide_eq_true h2319) (ngrind_zonesOf_ok k q1_0 _ h2318))
  obtain ⟨r2324, h2325, h⟩ := bs h
  have e2326 := (ngrind_need_ok k (decide ((q0_1.length : Int) = r2317)) 10 _ h2325)
  have e2327 := (show loadL Try.prog 22 0 [VV.tr (flatMap c_SStroke q1_0) q1_0.length] = some (VV.tr (flatMap c_SStroke q1_0) q1_0.length) from (ld_one ag22 rfl))
  obtain ⟨r2329, h2330, h⟩ := bs h
  have e2331 := (VC.args (ngrind_each_c1_grind_validDemand_1_1_ok k r2317 (q0_0, q0_1) _ h2330) (eqD1_2 r2317 q0_0 q0_1))
  obtain ⟨r2332, h2333, h⟩ := bs h
  have e2334 := (VC.args (ngrind_firstOf_c0_Lgrind_need_1_grind_each_1_grind_validDemand_1_1_ok k (r2324, r2329) _ h2333) (eqD1_5 r2324 r2329))
  have e2335 := (ti (an e2315 (ti (an e2316 (an (ngrind_zonesOf_ok k q1_0 _ h2318) (ti (ti (an (an (decide_eq_true h2319) trivial) (an e2320 (an (an (decide_eq_true h2319) trivial) (an e2321 (an e2323 (an (an (decide_eq_true h2319) trivial) (an (decide_eq_true h2319) (an e2326 (an e2327 (an (ngrind_zonesOf_ok k q1_0 _ h2318) (ti (an e2331 (ti (an e2334 (ti trivial))))))))))))))))))))))
  injection h with h; subst h
  exact fun_ok pm pn Try.func91 (r0 := vi r2332) (ans := [.reg (.n :: []), .reg (arD1_6 q0_0 q1_0 r2317 q0_1 r2324 r2329 r2332)]) (fr := true) (by kernel_rfl) (an (an (ti trivial) (an e2335 trivial)) (ti trivial)) (Wv.refl _)
 ·obtain ⟨r2336, h2337, h⟩ := bs h
  have e2338 := (show loadL Try.prog 22 0 [VV.tr (flatMap c_SStroke q1_0) q1_0.length] = some (VV.tr (flatMap c_SStroke q1_0) q1_0.length) from (ld_one ag22 rfl))
  obtain ⟨r2340, h2341, h⟩ := bs h
  have e2342 := (VC.args (ngrind_each_c1_grind_validDemand_1_1_ok k r2317 (q0_0, q0_1) _ h2341) (eqD1_2 r2317 q0_0 q0_1))
  obtain ⟨r2343, h2344, h⟩ := bs h
  have e2345 := (VC.args (ngrind_firstOf_c0_Lgrind_need_1_grind_each_1_grind_validDemand_1_1_ok k (r2336, r2340) _ h2344) (eqD1_5 r2336 r2340))
  have e2346 := (ti (an e2315 (ti (an e2316 (an (ngrind_zonesOf_ok k q1_0 _ h2318) (ti (ti (an (decide_eq_false h2319) (an (decide_eq_false h2319) (an (decide_eq_false h2319) (an (decide_eq_false h2319) (an (decide_eq_false h2319) (an (decide_eq_false h2319) (an (decide_eq_false h2319) (an (ngrind_need_ok k false 10 _ h2337) (an e2338 (an (ngrind_zonesOf_ok k q1_0 _ h2318) (ti (an e2342 (ti (an e2345 (ti trivial))))))))))))))))))))))
  injection h with h; subst h
  exact fun_ok pm pn Try.func91 (r0 := vi r2343) (ans := [.reg (.n :: []), .reg (arD1_7 q0_0 q1_0 r2317 r2336 r2340 r2343)]) (fr := true) (by kernel_rfl) (an (an (ti trivial) (an e2346 trivial)) (ti trivial)) (Wv.refl _)
end Go.Proofs.Ytbaegoglpijnnab.Vg

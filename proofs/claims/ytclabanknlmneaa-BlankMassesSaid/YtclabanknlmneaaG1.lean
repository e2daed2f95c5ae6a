/- Written by a program out of the program: what Go functions do, as plain functions, and their contracts. -/
import Derived.Test.YtclabanknlmneaaWa
namespace Go.Proofs.Ytclabanknlmneaa.Vg
set_option maxRecDepth 100000
set_option maxHeartbeats 4000000
set_option linter.unusedVariables false
set_option linter.unusedSimpArgs false
open Go Go.Proofs.Ytclabanknlmneaa.Ev Go.Proofs.Ytclabanknlmneaa.Vv
structure SGlassPart where
  Outer : Int
  Inner : Int
  From : Int
  To : Int
  Count : Int
  Cut : Bool
  deriving Inhabited
def c_SGlassPart (x : SGlassPart) : List VV := [vi x.Outer, vi x.Inner, vi x.From, vi x.To, vi x.Count, vb x.Cut]
theorem len_c_SGlassPart (x : SGlassPart) : (c_SGlassPart x).length = 6 := rfl
theorem still_c_SGlassPart (xs : List SGlassPart) : (xs.flatMap c_SGlassPart).all VV.still = true := all_flat (fun _ => rfl) xs
theorem isC_c_SGlassPart (xs : List SGlassPart) : (xs.flatMap c_SGlassPart).all VV.isC = true := all_flat (fun _ => rfl) xs
theorem new0_c_SGlassPart (xs : List SGlassPart) : (xs.flatMap c_SGlassPart).all new0 = true := all_flat (fun _ => rfl) xs
theorem unfr_c_SGlassPart (xs : List SGlassPart) : (xs.flatMap c_SGlassPart).map unfr = xs.flatMap c_SGlassPart := unfr_flat (fun _ => rfl) xs
structure SGlassCap where
  Radius : Int
  Height : Int
  At : Int
  Up : Bool
  Cut : Bool
  deriving Inhabited
def c_SGlassCap (x : SGlassCap) : List VV := [vi x.Radius, vi x.Height, vi x.At, vb x.Up, vb x.Cut]
theorem len_c_SGlassCap (x : SGlassCap) : (c_SGlassCap x).length = 5 := rfl
theorem still_c_SGlassCap (xs : List SGlassCap) : (xs.flatMap c_SGlassCap).all VV.still = true := all_flat (fun _ => rfl) xs
theorem isC_c_SGlassCap (xs : List SGlassCap) : (xs.flatMap c_SGlassCap).all VV.isC = true := all_flat (fun _ => rfl) xs
theorem new0_c_SGlassCap (xs : List SGlassCap) : (xs.flatMap c_SGlassCap).all new0 = true := all_flat (fun _ => rfl) xs
theorem unfr_c_SGlassCap (xs : List SGlassCap) : (xs.flatMap c_SGlassCap).map unfr = xs.flatMap c_SGlassCap := unfr_flat (fun _ => rfl) xs
structure SGlass where
  Density : Int
  Thick : Int
  Parts : (List SGlassPart)
  Caps : (List SGlassCap)
  deriving Inhabited
def c_SGlass (x : SGlass) : List VV := [vi x.Density, vi x.Thick, VV.tr (List.flatMap c_SGlassPart x.Parts) x.Parts.length, VV.tr (List.flatMap c_SGlassCap x.Caps) x.Caps.length]
theorem len_c_SGlass (x : SGlass) : (c_SGlass x).length = 4 := rfl
def g_SGlass (x : SGlass) : List VV := [vi x.Density, vi x.Thick, VV.fr (List.flatMap c_SGlassPart x.Parts) x.Parts.length, VV.fr (List.flatMap c_SGlassCap x.Caps) x.Caps.length]
theorem len_g_SGlass (x : SGlass) : (g_SGlass x).length = 4 := rfl
theorem still_c_SGlass (xs : List SGlass) : (xs.flatMap c_SGlass).all VV.still = true := all_flat (fun _ => rfl) xs
theorem still_g_SGlass (xs : List SGlass) : (xs.flatMap g_SGlass).all VV.still = true := all_flat (fun _ => rfl) xs
theorem unfr_c_SGlass (xs : List SGlass) : (xs.flatMap c_SGlass).map unfr = xs.flatMap c_SGlass := unfr_flat2 (fun _ => rfl) xs
theorem unfr_g_SGlass (xs : List SGlass) : (xs.flatMap g_SGlass).map unfr = xs.flatMap c_SGlass := unfr_flat2 (fun _ => rfl) xs
theorem new0_g_SGlass (xs : List SGlass) : (xs.flatMap g_SGlass).all new0 = true := all_flat (fun _ => rfl) xs
structure SRange where
  Lo : Int
  Hi : Int
  deriving Inhabited
def c_SRange (x : SRange) : List VV := [vi x.Lo, vi x.Hi]
theorem len_c_SRange (x : SRange) : (c_SRange x).length = 2 := rfl
theorem still_c_SRange (xs : List SRange) : (xs.flatMap c_SRange).all VV.still = true := all_flat (fun _ => rfl) xs
theorem isC_c_SRange (xs : List SRange) : (xs.flatMap c_SRange).all VV.isC = true := all_flat (fun _ => rfl) xs
theorem new0_c_SRange (xs : List SRange) : (xs.flatMap c_SRange).all new0 = true := all_flat (fun _ => rfl) xs
theorem unfr_c_SRange (xs : List SRange) : (xs.flatMap c_SRange).map unfr = xs.flatMap c_SRange := unfr_flat (fun _ => rfl) xs
theorem ag3 : isAggT Go.Proofs.Try.prog 3 = some false := by kernel_rfl
theorem ag4 : isAggT Go.Proofs.Try.prog 4 = some false := by kernel_rfl
theorem ag22 : isAggT Go.Proofs.Try.prog 22 = some false := by kernel_rfl
theorem ag23 : isAggT Go.Proofs.Try.prog 23 = some false := by kernel_rfl
theorem ag25 : isAggT Go.Proofs.Try.prog 25 = some true := by kernel_rfl
theorem sz25 : szOf Go.Proofs.Try.prog 25 = some 4 := by kernel_rfl
theorem ag28 : isAggT Go.Proofs.Try.prog 28 = some false := by kernel_rfl
theorem ag41 : isAggT Go.Proofs.Try.prog 41 = some true := by kernel_rfl
theorem sz41 : szOf Go.Proofs.Try.prog 41 = some 6 := by kernel_rfl
theorem ag89 : isAggT Go.Proofs.Try.prog 89 = some true := by kernel_rfl
theorem sz89 : szOf Go.Proofs.Try.prog 89 = some 5 := by kernel_rfl
theorem ag92 : isAggT Go.Proofs.Try.prog 92 = some false := by kernel_rfl
theorem ag97 : isAggT Go.Proofs.Try.prog 97 = some false := by kernel_rfl
theorem ag100 : isAggT Go.Proofs.Try.prog 100 = some false := by kernel_rfl
def nblank_isWithin (k : Nat) (a0 : Int) (a1 : Int) (a2 : Int) : Option Bool :=
  if a1 ≤ a0 then (some (decide (a0 ≤ a2))) else (some false)
theorem nblank_isWithin_ok (k : Nat) (a0 : Int) (a1 : Int) (a2 : Int) (r : Bool) (h : nblank_isWithin k a0 a1 a2 = some r) : VC Go.Proofs.Try.prog 68 [vi a0, vi a1, vi a2] (vb r) := by
 unfold nblank_isWithin at h
 rcases ifs h with ⟨h5, h⟩ | ⟨h5, h⟩
 ·have e6 := (ti (ti (ti (ti (an (an (decide_eq_true h5) trivial) (an (an (decide_eq_true h5) trivial) (an (an (decide_eq_true h5) trivial) (an (decide_eq_true h5) (ti trivial)))))))))
  injection h with h; subst h
  exact fun_ok pm pn Go.Proofs.Try.func68 (r0 := vb (decide (a0 ≤ a2))) (ans := [.reg (.n :: []), .reg (nN 7 (.b true :: .n :: []))]) (fr := true) (by kernel_rfl) (an (an (ti trivial) (an e6 trivial)) (ti trivial)) (Wv.refl _)
 ·have e7 := (ti (ti (ti (ti (an (decide_eq_false h5) (an (decide_eq_false h5) (an (decide_eq_false h5) (an (decide_eq_false h5) (ti trivial)))))))))
  injection h with h; subst h
  exact fun_ok pm pn Go.Proofs.Try.func68 (r0 := vb false) (ans := [.reg (.n :: []), .reg (nN 4 (nS 3 (.b false :: .n :: [])))]) (fr := true) (by kernel_rfl) (an (an (ti trivial) (an e7 trivial)) (ti trivial)) (Wv.refl _)
def nblank_need (k : Nat) (a0 : Bool) (a1 : Int) : Option (Bool × Int) :=
  some (a0, a1)
theorem nblank_need_ok (k : Nat) (a0 : Bool) (a1 : Int) (r : (Bool × Int)) (h : nblank_need k a0 a1 = some r) : VC Go.Proofs.Try.prog 55 [vb a0, vi a1] (VV.fn 85 [VV.tp [vb r.1] 0, VV.tp [vi r.2] 0]) := by
 unfold nblank_need at h
 injection h with h; subst h
 exact fun_ok pm pn Go.Proofs.Try.func55 (r0 := VV.fn 85 [VV.tp [vb a0] 0, VV.tp [vi a1] 0]) (ans := [.reg (nN 3 []), .frz 0, .frz 1, .reg (.n :: .n :: [])]) (fr := false) (by kernel_rfl) (an (an (ti (ti (ti trivial))) (an (ti (ti trivial)) trivial)) (ti trivial)) (Wv.of_eq rfl)
def arG1_0 (z0 : Bool) (z1 : (Bool × Int)) : List Ans := (nN 3 (.call (vb z0) :: .call (VV.fn 85 [VV.tp [vb z1.1] 0, VV.tp [vi z1.2] 0]) :: .n :: []))
def nblank_within (k : Nat) (a0 : Int) (a1 : Int) (a2 : Int) : Option (Bool × Int) :=
  (nblank_isWithin k a0 a1 a2).bind fun r13 => ((nblank_need k r13 2).bind fun r15 => (some r15))
theorem nblank_within_ok (k : Nat) (a0 : Int) (a1 : Int) (a2 : Int) (r : (Bool × Int)) (h : nblank_within k a0 a1 a2 = some r) : VC Go.Proofs.Try.prog 54 [vi a0, vi a1, vi a2] (VV.fn 85 [VV.tp [vb r.1] 0, VV.tp [vi r.2] 0]) := by
 unfold nblank_within at h
 obtain ⟨r13, h14, h⟩ := bs h
 obtain ⟨r15, h16, h⟩ := bs h
 have e17 := (ti (ti (ti (an (nblank_isWithin_ok k a0 a1 a2 _ h14) (an (nblank_need_ok k r13 2 _ h16) (ti trivial))))))
 injection h with h; subst h
 exact fun_ok pm pn Go.Proofs.Try.func54 (r0 := VV.fn 85 [VV.tp [vb r15.1] 0, VV.tp [vi r15.2] 0]) (ans := [.reg (.n :: []), .reg (arG1_0 r13 r15)]) (fr := false) (by kernel_rfl) (an (an (ti trivial) (an e17 trivial)) (ti trivial)) (Wv.refl _)
def nblank_each_api_GlassPart__c1_136 (k : Nat) (a0 : (List SGlassPart)) (a1 : (Int × Int × (List SGlassPart) × (List SGlassCap))) : Option ((List SGlassPart) × (Int × Int × (List SGlassPart) × (List SGlassCap))) :=
  some (a0, a1)
theorem nblank_each_api_GlassPart__c1_136_ok (k : Nat) (a0 : (List SGlassPart)) (a1 : (Int × Int × (List SGlassPart) × (List SGlassCap))) (r : ((List SGlassPart) × (Int × Int × (List SGlassPart) × (List SGlassCap)))) (h : nblank_each_api_GlassPart__c1_136 k a0 a1 = some r) : VC Go.Proofs.Try.prog 56 [VV.tr (List.flatMap c_SGlassPart a0) a0.length, VV.fn 57 [VV.tp [vi a1.1, vi a1.2.1, VV.tr (List.flatMap c_SGlassPart a1.2.2.1) a1.2.2.1.length, VV.tr (List.flatMap c_SGlassCap a1.2.2.2) a1.2.2.2.length] 0]] (VV.fn 86 [VV.tp [VV.tr (List.flatMap c_SGlassPart r.1) r.1.length] 0, VV.tp [VV.fn 57 [VV.tp [vi r.2.1, vi r.2.2.1, VV.tr (List.flatMap c_SGlassPart r.2.2.2.1) r.2.2.2.1.length, VV.tr (List.flatMap c_SGlassCap r.2.2.2.2) r.2.2.2.2.length] 0]] 0]) := by
 unfold nblank_each_api_GlassPart__c1_136 at h
 injection h with h; subst h
 exact fun_ok pm pn Go.Proofs.Try.func56 (r0 := VV.fn 86 [VV.tp [VV.tr (List.flatMap c_SGlassPart a0) a0.length] 0, VV.tp [VV.fn 57 [VV.tp [vi a1.1, vi a1.2.1, VV.tr (List.flatMap c_SGlassPart a1.2.2.1) a1.2.2.1.length, VV.tr (List.flatMap c_SGlassCap a1.2.2.2) a1.2.2.2.length] 0]] 0]) (ans := [.reg (nN 3 []), .frz 0, .frz 1, .reg (.n :: .n :: [])]) (fr := false) (by kernel_rfl) (an (an (ti (ti (ti trivial))) (an (ti (ti trivial)) trivial)) (ti trivial)) (Wv.of_eq rfl)
theorem eqG1_0 (z0 : SGlass) : [VV.tr (List.flatMap c_SGlassPart z0.Parts) z0.Parts.length, VV.fn 57 [VV.tp [vi ((z0.Density, z0.Thick, z0.Parts, z0.Caps).1), vi ((z0.Density, z0.Thick, z0.Parts, z0.Caps).2.1), VV.tr (List.flatMap c_SGlassPart ((z0.Density, z0.Thick, z0.Parts, z0.Caps).2.2.1)) (((z0.Density, z0.Thick, z0.Parts, z0.Caps).2.2.1).length), VV.tr (List.flatMap c_SGlassCap ((z0.Density, z0.Thick, z0.Parts, z0.Caps).2.2.2)) (((z0.Density, z0.Thick, z0.Parts, z0.Caps).2.2.2).length)] 0]] = [VV.tr (List.flatMap c_SGlassPart z0.Parts) z0.Parts.length, VV.fn 57 [VV.tp [vi z0.Density, vi z0.Thick, VV.tr (List.flatMap c_SGlassPart z0.Parts) z0.Parts.length, VV.tr (List.flatMap c_SGlassCap z0.Caps) z0.Caps.length] 0]] := by first | rfl | simp only [unfr_vi, List.map_cons, List.map_nil, un_i, un_tr, List.length_cons, List.length_nil, unfr_c_SGlassPart, unfr_c_SGlassCap]
def nblank_each_api_GlassCap__c1_138 (k : Nat) (a0 : (List SGlassCap)) (a1 : (Int × Int × (List SGlassPart) × (List SGlassCap))) : Option ((List SGlassCap) × (Int × Int × (List SGlassPart) × (List SGlassCap))) :=
  some (a0, a1)
theorem nblank_each_api_GlassCap__c1_138_ok (k : Nat) (a0 : (List SGlassCap)) (a1 : (Int × Int × (List SGlassPart) × (List SGlassCap))) (r : ((List SGlassCap) × (Int × Int × (List SGlassPart) × (List SGlassCap)))) (h : nblank_each_api_GlassCap__c1_138 k a0 a1 = some r) : VC Go.Proofs.Try.prog 59 [VV.tr (List.flatMap c_SGlassCap a0) a0.length, VV.fn 60 [VV.tp [vi a1.1, vi a1.2.1, VV.tr (List.flatMap c_SGlassPart a1.2.2.1) a1.2.2.1.length, VV.tr (List.flatMap c_SGlassCap a1.2.2.2) a1.2.2.2.length] 0]] (VV.fn 87 [VV.tp [VV.tr (List.flatMap c_SGlassCap r.1) r.1.length] 0, VV.tp [VV.fn 60 [VV.tp [vi r.2.1, vi r.2.2.1, VV.tr (List.flatMap c_SGlassPart r.2.2.2.1) r.2.2.2.1.length, VV.tr (List.flatMap c_SGlassCap r.2.2.2.2) r.2.2.2.2.length] 0]] 0]) := by
 unfold nblank_each_api_GlassCap__c1_138 at h
 injection h with h; subst h
 exact fun_ok pm pn Go.Proofs.Try.func59 (r0 := VV.fn 87 [VV.tp [VV.tr (List.flatMap c_SGlassCap a0) a0.length] 0, VV.tp [VV.fn 60 [VV.tp [vi a1.1, vi a1.2.1, VV.tr (List.flatMap c_SGlassPart a1.2.2.1) a1.2.2.1.length, VV.tr (List.flatMap c_SGlassCap a1.2.2.2) a1.2.2.2.length] 0]] 0]) (ans := [.reg (nN 3 []), .frz 0, .frz 1, .reg (.n :: .n :: [])]) (fr := false) (by kernel_rfl) (an (an (ti (ti (ti trivial))) (an (ti (ti trivial)) trivial)) (ti trivial)) (Wv.of_eq rfl)
theorem eqG1_1 (z0 : SGlass) : [VV.tr (List.flatMap c_SGlassCap z0.Caps) z0.Caps.length, VV.fn 60 [VV.tp [vi ((z0.Density, z0.Thick, z0.Parts, z0.Caps).1), vi ((z0.Density, z0.Thick, z0.Parts, z0.Caps).2.1), VV.tr (List.flatMap c_SGlassPart ((z0.Density, z0.Thick, z0.Parts, z0.Caps).2.2.1)) (((z0.Density, z0.Thick, z0.Parts, z0.Caps).2.2.1).length), VV.tr (List.flatMap c_SGlassCap ((z0.Density, z0.Thick, z0.Parts, z0.Caps).2.2.2)) (((z0.Density, z0.Thick, z0.Parts, z0.Caps).2.2.2).length)] 0]] = [VV.tr (List.flatMap c_SGlassCap z0.Caps) z0.Caps.length, VV.fn 60 [VV.tp [vi z0.Density, vi z0.Thick, VV.tr (List.flatMap c_SGlassPart z0.Parts) z0.Parts.length, VV.tr (List.flatMap c_SGlassCap z0.Caps) z0.Caps.length] 0]] := by first | rfl | simp only [unfr_vi, List.map_cons, List.map_nil, un_i, un_tr, List.length_cons, List.length_nil, unfr_c_SGlassPart, unfr_c_SGlassCap]
def nblank_need_1 (k : Nat) (q0_0 : Bool) (q1_0 : Int) : Option Int :=
  if q0_0 = true then (some 0) else (some q1_0)
theorem nblank_need_1_ok (k : Nat) (q0_0 : Bool) (q1_0 : Int) (r : Int) (h : nblank_need_1 k q0_0 q1_0 = some r) : VC Go.Proofs.Try.prog 85 [VV.tp [vb q0_0] 0, VV.tp [vi q1_0] 0] (vi r) := by
 unfold nblank_need_1 at h
 have e46 := (show loadL Go.Proofs.Try.prog 4 0 [vb q0_0] = some (vb q0_0) from (ld_one ag4 rfl))
 rcases ifs h with ⟨h47, h⟩ | ⟨h47, h⟩
 ·injection h with h; subst h
  exact fun_ok pm pn Go.Proofs.Try.func85 (r0 := vi 0) (ans := [.reg (.n :: []), .reg (.v (vb q0_0) :: []), .br true, .reg (.n :: [])]) (fr := true) (by kernel_rfl) (an (an (ti trivial) (an (an e46 trivial) (an h47 (an (ti trivial) trivial)))) (ti trivial)) (Wv.refl _)
 ·have e48 := (show loadL Go.Proofs.Try.prog 28 0 [vi q1_0] = some (vi q1_0) from (ld_one ag28 rfl))
  injection h with h; subst h
  exact fun_ok pm pn Go.Proofs.Try.func85 (r0 := vi q1_0) (ans := [.reg (.n :: []), .reg (.v (vb q0_0) :: []), .br false, .reg (.v (vi q1_0) :: .n :: [])]) (fr := true) (by kernel_rfl) (an (an (ti trivial) (an (an (an e46 trivial) (an (bool_f h47) trivial)) (an (an e48 (ti trivial)) trivial))) (ti trivial)) (Wv.refl _)
def arG1_1 (z0 : ((Bool × Int) × (Bool × Int) × (Bool × Int) × (Bool × Int) × (Bool × Int) × (Bool × Int) × (Bool × Int))) : List Ans := (.n :: .v (VV.fn 85 [VV.tp [vb z0.2.2.2.2.1.1] 0, VV.tp [vi z0.2.2.2.2.1.2] 0]) :: .n :: [])
def arG1_2 (z0 : ((Bool × Int) × (Bool × Int) × (Bool × Int) × (Bool × Int) × (Bool × Int) × (Bool × Int) × (Bool × Int))) : List Ans := (.n :: .v (VV.fn 85 [VV.tp [vb z0.2.2.2.2.2.1.1] 0, VV.tp [vi z0.2.2.2.2.2.1.2] 0]) :: .n :: [])
def arG1_3 (z0 : ((Bool × Int) × (Bool × Int) × (Bool × Int) × (Bool × Int) × (Bool × Int) × (Bool × Int) × (Bool × Int))) : List Ans := (.n :: .v (VV.fn 85 [VV.tp [vb z0.2.2.2.2.2.2.1] 0, VV.tp [vi z0.2.2.2.2.2.2.2] 0]) :: .n :: [])
def nblank_firstOf_c0_142 (k : Nat) (a0 : ((Bool × Int) × (Bool × Int) × (Bool × Int) × (Bool × Int) × (Bool × Int) × (Bool × Int) × (Bool × Int))) : Option Int :=
  (nblank_need_1 k a0.1.1 a0.1.2).bind fun r136 => (if r136 = 0 then ((nblank_need_1 k a0.2.1.1 a0.2.1.2).bind fun r142 => (if r142 = 0 then ((nblank_need_1 k a0.2.2.1.1 a0.2.2.1.2).bind fun r148 => (if r148 = 0 then ((nblank_need_1 k a0.2.2.2.1.1 a0.2.2.2.1.2).bind fun r154 => (if r154 = 0 then ((nblank_need_1 k a0.2.2.2.2.1.1 a0.2.2.2.2.1.2).bind fun r160 => (if r160 = 0 then ((nblank_need_1 k a0.2.2.2.2.2.1.1 a0.2.2.2.2.2.1.2).bind fun r166 => (if r166 = 0 then ((nblank_need_1 k a0.2.2.2.2.2.2.1 a0.2.2.2.2.2.2.2).bind fun r172 => (if r172 = 0 then (some 0) else (some r172))) else (some r166))) else (some r160))) else (some r154))) else (some r148))) else (some r142))) else (some r136))
theorem nblank_firstOf_c0_142_ok (k : Nat) (a0 : ((Bool × Int) × (Bool × Int) × (Bool × Int) × (Bool × Int) × (Bool × Int) × (Bool × Int) × (Bool × Int))) (r : Int) (h : nblank_firstOf_c0_142 k a0 = some r) : VC Go.Proofs.Try.prog 53 [VV.tr ([VV.fn 85 [VV.tp [vb a0.1.1] 0, VV.tp [vi a0.1.2] 0], VV.fn 85 [VV.tp [vb a0.2.1.1] 0, VV.tp [vi a0.2.1.2] 0], VV.fn 85 [VV.tp [vb a0.2.2.1.1] 0, VV.tp [vi a0.2.2.1.2] 0], VV.fn 85 [VV.tp [vb a0.2.2.2.1.1] 0, VV.tp [vi a0.2.2.2.1.2] 0], VV.fn 85 [VV.tp [vb a0.2.2.2.2.1.1] 0, VV.tp [vi a0.2.2.2.2.1.2] 0], VV.fn 85 [VV.tp [vb a0.2.2.2.2.2.1.1] 0, VV.tp [vi a0.2.2.2.2.2.1.2] 0], VV.fn 85 [VV.tp [vb a0.2.2.2.2.2.2.1] 0, VV.tp [vi a0.2.2.2.2.2.2.2] 0]]) 7] (vi r) := by
 unfold nblank_firstOf_c0_142 at h
 have e134 := (show (0 : Int) ≤ 0 ∧ (0 : Int) < ((7 : Nat) : Int) from ⟨by decide, by decide⟩)
 have e135 := (show loadL Go.Proofs.Try.prog 92 ((0 : Int).toNat * 1) ([VV.fn 85 [VV.tp [vb a0.1.1] 0, VV.tp [vi a0.1.2] 0], VV.fn 85 [VV.tp [vb a0.2.1.1] 0, VV.tp [vi a0.2.1.2] 0], VV.fn 85 [VV.tp [vb a0.2.2.1.1] 0, VV.tp [vi a0.2.2.1.2] 0], VV.fn 85 [VV.tp [vb a0.2.2.2.1.1] 0, VV.tp [vi a0.2.2.2.1.2] 0], VV.fn 85 [VV.tp [vb a0.2.2.2.2.1.1] 0, VV.tp [vi a0.2.2.2.2.1.2] 0], VV.fn 85 [VV.tp [vb a0.2.2.2.2.2.1.1] 0, VV.tp [vi a0.2.2.2.2.2.1.2] 0], VV.fn 85 [VV.tp [vb a0.2.2.2.2.2.2.1] 0, VV.tp [vi a0.2.2.2.2.2.2.2] 0]]) = some (VV.fn 85 [VV.tp [vb a0.1.1] 0, VV.tp [vi a0.1.2] 0]) from (ld_one ag92 rfl))
 obtain ⟨r136, h137, h⟩ := bs h
 have e138 := (nblank_need_1_ok k a0.1.1 a0.1.2 _ h137)
 rcases ifs h with ⟨h139, h⟩ | ⟨h139, h⟩
 ·have e140 := (show (0 : Int) ≤ 1 ∧ (1 : Int) < ((7 : Nat) : Int) from ⟨by decide, by decide⟩)
  have e141 := (show loadL Go.Proofs.Try.prog 92 ((1 : Int).toNat * 1) ([VV.fn 85 [VV.tp [vb a0.1.1] 0, VV.tp [vi a0.1.2] 0], VV.fn 85 [VV.tp [vb a0.2.1.1] 0, VV.tp [vi a0.2.1.2] 0], VV.fn 85 [VV.tp [vb a0.2.2.1.1] 0, VV.tp [vi a0.2.2.1.2] 0], VV.fn 85 [VV.tp [vb a0.2.2.2.1.1] 0, VV.tp [vi a0.2.2.2.1.2] 0], VV.fn 85 [VV.tp [vb a0.2.2.2.2.1.1] 0, VV.tp [vi a0.2.2.2.2.1.2] 0], VV.fn 85 [VV.tp [vb a0.2.2.2.2.2.1.1] 0, VV.tp [vi a0.2.2.2.2.2.1.2] 0], VV.fn 85 [VV.tp [vb a0.2.2.2.2.2.2.1] 0, VV.tp [vi a0.2.2.2.2.2.2.2] 0]]) = some (VV.fn 85 [VV.tp [vb a0.2.1.1] 0, VV.tp [vi a0.2.1.2] 0]) from (ld_one ag92 rfl))
  obtain ⟨r142, h143, h⟩ := bs h
  have e144 := (nblank_need_1_ok k a0.2.1.1 a0.2.1.2 _ h143)
  rcases ifs h with ⟨h145, h⟩ | ⟨h145, h⟩
  ·have e146 := (show (0 : Int) ≤ 2 ∧ (2 : Int) < ((7 : Nat) : Int) from ⟨by decide, by decide⟩)
   have e147 := (show loadL Go.Proofs.Try.prog 92 ((2 : Int).toNat * 1) ([VV.fn 85 [VV.tp [vb a0.1.1] 0, VV.tp [vi a0.1.2] 0], VV.fn 85 [VV.tp [vb a0.2.1.1] 0, VV.tp [vi a0.2.1.2] 0], VV.fn 85 [VV.tp [vb a0.2.2.1.1] 0, VV.tp [vi a0.2.2.1.2] 0], VV.fn 85 [VV.tp [vb a0.2.2.2.1.1] 0, VV.tp [vi a0.2.2.2.1.2] 0], VV.fn 85 [VV.tp [vb a0.2.2.2.2.1.1] 0, VV.tp [vi a0.2.2.2.2.1.2] 0], VV.fn 85 [VV.tp [vb a0.2.2.2.2.2.1.1] 0, VV.tp [vi a0.2.2.2.2.2.1.2] 0], VV.fn 85 [VV.tp [vb a0.2.2.2.2.2.2.1] 0, VV.tp [vi a0.2.2.2.2.2.2.2] 0]]) = some (VV.fn 85 [VV.tp [vb a0.2.2.1.1] 0, VV.tp [vi a0.2.2.1.2] 0]) from (ld_one ag92 rfl))
   obtain ⟨r148, h149, h⟩ := bs h
   have e150 := (nblank_need_1_ok k a0.2.2.1.1 a0.2.2.1.2 _ h149)
   rcases ifs h with ⟨h151, h⟩ | ⟨h151, h⟩
   ·have e152 := (show (0 : Int) ≤ 3 ∧ (3 : Int) < ((7 : Nat) : Int) from ⟨by decide, by decide⟩)
    have e153 := (show loadL Go.Proofs.Try.prog 92 ((3 : Int).toNat * 1) ([VV.fn 85 [VV.tp [vb a0.1.1] 0, VV.tp [vi a0.1.2] 0], VV.fn 85 [VV.tp [vb a0.2.1.1] 0, VV.tp [vi a0.2.1.2] 0], VV.fn 85 [VV.tp [vb a0.2.2.1.1] 0, VV.tp [vi a0.2.2.1.2] 0], VV.fn 85 [VV.tp [vb a0.2.2.2.1.1] 0, VV.tp [vi a0.2.2.2.1.2] 0], VV.fn 85 [VV.tp [vb a0.2.2.2.2.1.1] 0, VV.tp [vi a0.2.2.2.2.1.2] 0], VV.fn 85 [VV.tp [vb a0.2.2.2.2.2.1.1] 0, VV.tp [vi a0.2.2.2.2.2.1.2] 0], VV.fn 85 [VV.tp [vb a0.2.2.2.2.2.2.1] 0, VV.tp [vi a0.2.2.2.2.2.2.2] 0]]) = some (VV.fn 85 [VV.tp [vb a0.2.2.2.1.1] 0, VV.tp [vi a0.2.2.2.1.2] 0]) from (ld_one ag92 rfl))
    obtain ⟨r154, h155, h⟩ := bs h
    have e156 := (nblank_need_1_ok k a0.2.2.2.1.1 a0.2.2.2.1.2 _ h155)
    rcases ifs h with ⟨h157, h⟩ | ⟨h157, h⟩
    ·have e158 := (show (0 : Int) ≤ 4 ∧ (4 : Int) < ((7 : Nat) : Int) from ⟨by decide, by decide⟩)
     have e159 := (show loadL Go.Proofs.Try.prog 92 ((4 : Int).toNat * 1) ([VV.fn 85 [VV.tp [vb a0.1.1] 0, VV.tp [vi a0.1.2] 0], VV.fn 85 [VV.tp [vb a0.2.1.1] 0, VV.tp [vi a0.2.1.2] 0], VV.fn 85 [VV.tp [vb a0.2.2.1.1] 0, VV.tp [vi a0.2.2.1.2] 0], VV.fn 85 [VV.tp [vb a0.2.2.2.1.1] 0, VV.tp [vi a0.2.2.2.1.2] 0], VV.fn 85 [VV.tp [vb a0.2.2.2.2.1.1] 0, VV.tp [vi a0.2.2.2.2.1.2] 0], VV.fn 85 [VV.tp [vb a0.2.2.2.2.2.1.1] 0, VV.tp [vi a0.2.2.2.2.2.1.2] 0], VV.fn 85 [VV.tp [vb a0.2.2.2.2.2.2.1] 0, VV.tp [vi a0.2.2.2.2.2.2.2] 0]]) = some (VV.fn 85 [VV.tp [vb a0.2.2.2.2.1.1] 0, VV.tp [vi a0.2.2.2.2.1.2] 0]) from (ld_one ag92 rfl))
     obtain ⟨r160, h161, h⟩ := bs h
     have e162 := (nblank_need_1_ok k a0.2.2.2.2.1.1 a0.2.2.2.2.1.2 _ h161)
     rcases ifs h with ⟨h163, h⟩ | ⟨h163, h⟩
     ·have e164 := (show (0 : Int) ≤ 5 ∧ (5 : Int) < ((7 : Nat) : Int) from ⟨by decide, by decide⟩)
      have e165 := (show loadL Go.Proofs.Try.prog 92 ((5 : Int).toNat * 1) ([VV.fn 85 [VV.tp [vb a0.1.1] 0, VV.tp [vi a0.1.2] 0], VV.fn 85 [VV.tp [vb a0.2.1.1] 0, VV.tp [vi a0.2.1.2] 0], VV.fn 85 [VV.tp [vb a0.2.2.1.1] 0, VV.tp [vi a0.2.2.1.2] 0], VV.fn 85 [VV.tp [vb a0.2.2.2.1.1] 0, VV.tp [vi a0.2.2.2.1.2] 0], VV.fn 85 [VV.tp [vb a0.2.2.2.2.1.1] 0, VV.tp [vi a0.2.2.2.2.1.2] 0], VV.fn 85 [VV.tp [vb a0.2.2.2.2.2.1.1] 0, VV.tp [vi a0.2.2.2.2.2.1.2] 0], VV.fn 85 [VV.tp [vb a0.2.2.2.2.2.2.1] 0, VV.tp [vi a0.2.2.2.2.2.2.2] 0]]) = some (VV.fn 85 [VV.tp [vb a0.2.2.2.2.2.1.1] 0, VV.tp [vi a0.2.2.2.2.2.1.2] 0]) from (ld_one ag92 rfl))
      obtain ⟨r166, h167, h⟩ := bs h
      have e168 := (nblank_need_1_ok k a0.2.2.2.2.2.1.1 a0.2.2.2.2.2.1.2 _ h167)
      rcases ifs h with ⟨h169, h⟩ | ⟨h169, h⟩
      ·have e170 := (show (0 : Int) ≤ 6 ∧ (6 : Int) < ((7 : Nat) : Int) from ⟨by decide, by decide⟩)
       have e171 := (show loadL Go.Proofs.Try.prog 92 ((6 : Int).toNat * 1) ([VV.fn 85 [VV.tp [vb a0.1.1] 0, VV.tp [vi a0.1.2] 0], VV.fn 85 [VV.tp [vb a0.2.1.1] 0, VV.tp [vi a0.2.1.2] 0], VV.fn 85 [VV.tp [vb a0.2.2.1.1] 0, VV.tp [vi a0.2.2.1.2] 0], VV.fn 85 [VV.tp [vb a0.2.2.2.1.1] 0, VV.tp [vi a0.2.2.2.1.2] 0], VV.fn 85 [VV.tp [vb a0.2.2.2.2.1.1] 0, VV.tp [vi a0.2.2.2.2.1.2] 0], VV.fn 85 [VV.tp [vb a0.2.2.2.2.2.1.1] 0, VV.tp [vi a0.2.2.2.2.2.1.2] 0], VV.fn 85 [VV.tp [vb a0.2.2.2.2.2.2.1] 0, VV.tp [vi a0.2.2.2.2.2.2.2] 0]]) = some (VV.fn 85 [VV.tp [vb a0.2.2.2.2.2.2.1] 0, VV.tp [vi a0.2.2.2.2.2.2.2] 0]) from (ld_one ag92 rfl))
       obtain ⟨r172, h173, h⟩ := bs h
       have e174 := (nblank_need_1_ok k a0.2.2.2.2.2.2.1 a0.2.2.2.2.2.2.2 _ h173)
       rcases ifs h with ⟨h175, h⟩ | ⟨h175, h⟩
       ·injection h with h; subst h
        exact fun_ok pm pn Go.Proofs.Try.func53 (r0 := vi 0) (ans := [.reg (.n :: []), .reg (nN 3 []), .unr 9, .reg (.n :: []), .br true, .reg (.n :: .v (VV.fn 85 [VV.tp [vb a0.1.1] 0, VV.tp [vi a0.1.2] 0]) :: .n :: []), .reg (.n :: .call (vi r136) :: .n :: []), .reg (.n :: .n :: []), .br false, .reg (.n :: .n :: []), .reg (.n :: []), .br true, .reg (.n :: .v (VV.fn 85 [VV.tp [vb a0.2.1.1] 0, VV.tp [vi a0.2.1.2] 0]) :: .n :: []), .reg (.n :: .call (vi r142) :: .n :: []), .reg (.n :: .n :: []), .br false, .reg (.n :: .n :: []), .reg (.n :: []), .br true, .reg (.n :: .v (VV.fn 85 [VV.tp [vb a0.2.2.1.1] 0, VV.tp [vi a0.2.2.1.2] 0]) :: .n :: []), .reg (.n :: .call (vi r148) :: .n :: []), .reg (.n :: .n :: []), .br false, .reg (.n :: .n :: []), .reg (.n :: []), .br true, .reg (.n :: .v (VV.fn 85 [VV.tp [vb a0.2.2.2.1.1] 0, VV.tp [vi a0.2.2.2.1.2] 0]) :: .n :: []), .reg (.n :: .call (vi r154) :: .n :: []), .reg (.n :: .n :: []), .br false, .reg (.n :: .n :: []), .reg (.n :: []), .br true, .reg (arG1_1 a0), .reg (.n :: .call (vi r160) :: .n :: []), .reg (.n :: .n :: []), .br false, .reg (.n :: .n :: []), .reg (.n :: []), .br true, .reg (arG1_2 a0), .reg (.n :: .call (vi r166) :: .n :: []), .reg (.n :: .n :: []), .br false, .reg (.n :: .n :: []), .reg (.n :: []), .br true, .reg (arG1_3 a0), .reg (.n :: .call (vi r172) :: .n :: []), .reg (.n :: .n :: []), .br false, .reg (.n :: .n :: []), .reg (.n :: []), .br false, .reg (.n :: [])]) (fr := true) (by kernel_rfl) (an (an (ti trivial) (an (an (ti (ti (ti trivial))) (an (an (ti trivial) (an (an (show (decide ((0 : Int) < 7)) = true from (decide_eq_true (by decide))) trivial) (an (an (an e134 (an e135 (ti trivial))) (an (ti (an e138 (ti trivial))) (an (ti (ti trivial)) (an (not_f (decide_eq_true h139)) trivial)))) (ti (ti trivial))))) (an (an (ti trivial) (an (an (show (decide ((1 : Int) < 7)) = true from (decide_eq_true (by decide))) trivial) (an (an (an e140 (an e141 (ti trivial))) (an (ti (an e144 (ti trivial))) (an (ti (ti trivial)) (an (not_f (decide_eq_true h145)) trivial)))) (ti (ti trivial))))) (an (an (ti trivial) (an (an (show (decide ((2 : Int) < 7)) = true from (decide_eq_true (by decide))) trivial) (an (an (an e146 (an e147 (ti trivial))) (an (ti (an e150 (ti trivial))) (an (ti (ti trivial)) (an (not_f (decide_eq_true h151)) trivial)))) (ti (ti trivial))))) (an (an (ti trivial) (an (an (show (decide ((3 : Int) < 7)) = true from (decide_eq_true (by decide))) trivial) (an (an (an e152 (an e153 (ti trivial))) (an (ti (an e156 (ti trivial))) (an (ti (ti trivial)) (an (not_f (decide_eq_true h157)) trivial)))) (ti (ti trivial))))) (an (an (ti trivial) (an (an (show (decide ((4 : Int) < 7)) = true from (decide_eq_true (by decide))) trivial) (an (an (an e158 (an e159 (ti trivial))) (an (ti (an e162 (ti trivial))) (an (ti (ti trivial)) (an (not_f (decide_eq_true h163)) trivial)))) (ti (ti trivial))))) (an (an (ti trivial) (an (an (show (decide ((5 : Int) < 7)) = true from (decide_eq_true (by decide))) trivial) (an (an (an e164 (an e165 (ti trivial))) (an (ti (an e168 (ti trivial))) (an (ti (ti trivial)) (an (not_f (decide_eq_true h169)) trivial)))) (ti (ti trivial))))) (an (an (ti trivial) (an (an (show (decide ((6 : Int) < 7)) = true from (decide_eq_true (by decide))) trivial) (an (an (an e170 (an e171 (ti trivial))) (an (ti (an e174 (ti trivial))) (an (ti (ti trivial)) (an (not_f (decide_eq_true h175)) trivial)))) (ti (ti trivial))))) (an (ti trivial) (an (show (decide ((7 : Int) < 7)) = false from (decide_eq_false (by decide))) trivial)))))))))) (an (ti trivial) trivial))) (ti trivial)) (Wv.refl _)
       ·injection h with h; subst h
        exact fun_ok pm pn Go.Proofs.Try.func53 (r0 := vi r172) (ans := [.reg (.n :: []), .reg (nN 3 []), .unr 8, .reg (.n :: []), .br true, .reg (.n :: .v (VV.fn 85 [VV.tp [vb a0.1.1] 0, VV.tp [vi a0.1.2] 0]) :: .n :: []), .reg (.n :: .call (vi r136) :: .n :: []), .reg (.n :: .n :: []), .br false, .reg (.n :: .n :: []), .reg (.n :: []), .br true, .reg (.n :: .v (VV.fn 85 [VV.tp [vb a0.2.1.1] 0, VV.tp [vi a0.2.1.2] 0]) :: .n :: []), .reg (.n :: .call (vi r142) :: .n :: []), .reg (.n :: .n :: []), .br false, .reg (.n :: .n :: []), .reg (.n :: []), .br true, .reg (.n :: .v (VV.fn 85 [VV.tp [vb a0.2.2.1.1] 0, VV.tp [vi a0.2.2.1.2] 0]) :: .n :: []), .reg (.n :: .call (vi r148) :: .n :: []), .reg (.n :: .n :: []), .br false, .reg (.n :: .n :: []), .reg (.n :: []), .br true, .reg (.n :: .v (VV.fn 85 [VV.tp [vb a0.2.2.2.1.1] 0, VV.tp [vi a0.2.2.2.1.2] 0]) :: .n :: []), .reg (.n :: .call (vi r154) :: .n :: []), .reg (.n :: .n :: []), .br false, .reg (.n :: .n :: []), .reg (.n :: []), .br true, .reg (arG1_1 a0), .reg (.n :: .call (vi r160) :: .n :: []), .reg (.n :: .n :: []), .br false, .reg (.n :: .n :: []), .reg (.n :: []), .br true, .reg (arG1_2 a0), .reg (.n :: .call (vi r166) :: .n :: []), .reg (.n :: .n :: []), .br false, .reg (.n :: .n :: []), .reg (.n :: []), .br true, .reg (arG1_3 a0), .reg (.n :: .call (vi r172) :: .n :: []), .reg (.n :: .n :: []), .br true, .reg (.n :: .n :: [])]) (fr := true) (by kernel_rfl) (an (an (ti trivial) (an (ti (ti (ti trivial))) (an (an (ti trivial) (an (an (show (decide ((0 : Int) < 7)) = true from (decide_eq_true (by decide))) trivial) (an (an (an e134 (an e135 (ti trivial))) (an (ti (an e138 (ti trivial))) (an (ti (ti trivial)) (an (not_f (decide_eq_true h139)) trivial)))) (ti (ti trivial))))) (an (an (ti trivial) (an (an (show (decide ((1 : Int) < 7)) = true from (decide_eq_true (by decide))) trivial) (an (an (an e140 (an e141 (ti trivial))) (an (ti (an e144 (ti trivial))) (an (ti (ti trivial)) (an (not_f (decide_eq_true h145)) trivial)))) (ti (ti trivial))))) (an (an (ti trivial) (an (an (show (decide ((2 : Int) < 7)) = true from (decide_eq_true (by decide))) trivial) (an (an (an e146 (an e147 (ti trivial))) (an (ti (an e150 (ti trivial))) (an (ti (ti trivial)) (an (not_f (decide_eq_true h151)) trivial)))) (ti (ti trivial))))) (an (an (ti trivial) (an (an (show (decide ((3 : Int) < 7)) = true from (decide_eq_true (by decide))) trivial) (an (an (an e152 (an e153 (ti trivial))) (an (ti (an e156 (ti trivial))) (an (ti (ti trivial)) (an (not_f (decide_eq_true h157)) trivial)))) (ti (ti trivial))))) (an (an (ti trivial) (an (an (show (decide ((4 : Int) < 7)) = true from (decide_eq_true (by decide))) trivial) (an (an (an e158 (an e159 (ti trivial))) (an (ti (an e162 (ti trivial))) (an (ti (ti trivial)) (an (not_f (decide_eq_true h163)) trivial)))) (ti (ti trivial))))) (an (an (ti trivial) (an (an (show (decide ((5 : Int) < 7)) = true from (decide_eq_true (by decide))) trivial) (an (an (an e164 (an e165 (ti trivial))) (an (ti (an e168 (ti trivial))) (an (ti (ti trivial)) (an (not_f (decide_eq_true h169)) trivial)))) (ti (ti trivial))))) (an (ti trivial) (an (an (show (decide ((6 : Int) < 7)) = true from (decide_eq_true (by decide))) trivial) (an (an e170 (an e171 (ti trivial))) (an (ti (an e174 (ti trivial))) (an (ti (ti trivial)) (an (not_t (decide_eq_false h175)) (an (ti (ti trivial)) trivial))))))))))))))) (ti trivial)) (Wv.refl _)
      ·injection h with h; subst h
       exact fun_ok pm pn Go.Proofs.Try.func53 (r0 := vi r166) (ans := [.reg (.n :: []), .reg (nN 3 []), .unr 7, .reg (.n :: []), .br true, .reg (.n :: .v (VV.fn 85 [VV.tp [vb a0.1.1] 0, VV.tp [vi a0.1.2] 0]) :: .n :: []), .reg (.n :: .call (vi r136) :: .n :: []), .reg (.n :: .n :: []), .br false, .reg (.n :: .n :: []), .reg (.n :: []), .br true, .reg (.n :: .v (VV.fn 85 [VV.tp [vb a0.2.1.1] 0, VV.tp [vi a0.2.1.2] 0]) :: .n :: []), .reg (.n :: .call (vi r142) :: .n :: []), .reg (.n :: .n :: []), .br false, .reg (.n :: .n :: []), .reg (.n :: []), .br true, .reg (.n :: .v (VV.fn 85 [VV.tp [vb a0.2.2.1.1] 0, VV.tp [vi a0.2.2.1.2] 0]) :: .n :: []), .reg (.n :: .call (vi r148) :: .n :: []), .reg (.n :: .n :: []), .br false, .reg (.n :: .n :: []), .reg (.n :: []), .br true, .reg (.n :: .v (VV.fn 85 [VV.tp [vb a0.2.2.2.1.1] 0, VV.tp [vi a0.2.2.2.1.2] 0]) :: .n :: []), .reg (.n :: .call (vi r154) :: .n :: []), .reg (.n :: .n :: []), .br false, .reg (.n :: .n :: []), .reg (.n :: []), .br true, .reg (arG1_1 a0), .reg (.n :: .call (vi r160) :: .n :: []), .reg (.n :: .n :: []), .br false, .reg (.n :: .n :: []), .reg (.n :: []), .br true, .reg (arG1_2 a0), .reg (.n :: .call (vi r166) :: .n :: []), .reg (.n :: .n :: []), .br true, .reg (.n :: .n :: [])]) (fr := true) (by kernel_rfl) (an (an (ti trivial) (an (ti (ti (ti trivial))) (an (an (ti trivial) (an (an (show (decide ((0 : Int) < 7)) = true from (decide_eq_true (by decide))) trivial) (an (an (an e134 (an e135 (ti trivial))) (an (ti (an e138 (ti trivial))) (an (ti (ti trivial)) (an (not_f (decide_eq_true h139)) trivial)))) (ti (ti trivial))))) (an (an (ti trivial) (an (an (show (decide ((1 : Int) < 7)) = true from (decide_eq_true (by decide))) trivial) (an (an (an e140 (an e141 (ti trivial))) (an (ti (an e144 (ti trivial))) (an (ti (ti trivial)) (an (not_f (decide_eq_true h145)) trivial)))) (ti (ti trivial))))) (an (an (ti trivial) (an (an (show (decide ((2 : Int) < 7)) = true from (decide_eq_true (by decide))) trivial) (an (an (an e146 (an e147 (ti trivial))) (an (ti (an e150 (ti trivial))) (an (ti (ti trivial)) (an (not_f (decide_eq_true h151)) trivial)))) (ti (ti trivial))))) (an (an (ti trivial) (an (an (show (decide ((3 : Int) < 7)) = true from (decide_eq_true (by decide))) trivial) (an (an (an e152 (an e153 (ti trivial))) (an (ti (an e156 (ti trivial))) (an (ti (ti trivial)) (an (not_f (decide_eq_true h157)) trivial)))) (ti (ti trivial))))) (an (an (ti trivial) (an (an (show (decide ((4 : Int) < 7)) = true from (decide_eq_true (by decide))) trivial) (an (an (an e158 (an e159 (ti trivial))) (an (ti (an e162 (ti trivial))) (an (ti (ti trivial)) (an (not_f (decide_eq_true h163)) trivial)))) (ti (ti trivial))))) (an (ti trivial) (an (an (show (decide ((5 : Int) < 7)) = true from (decide_eq_true (by decide))) trivial) (an (an e164 (an e165 (ti trivial))) (an (ti (an e168 (ti trivial))) (an (ti (ti trivial)) (an (not_t (decide_eq_false h169)) (an (ti (ti trivial)) trivial)))))))))))))) (ti trivial)) (Wv.refl _)
     ·injection h with h; subst h
      exact fun_ok pm pn Go.Proofs.Try.func53 (r0 := vi r160) (ans := [.reg (.n :: []), .reg (nN 3 []), .unr 6, .reg (.n :: []), .br true, .reg (.n :: .v (VV.fn 85 [VV.tp [vb a0.1.1] 0, VV.tp [vi a0.1.2] 0]) :: .n :: []), .reg (.n :: .call (vi r136) :: .n :: []), .reg (.n :: .n :: []), .br false, .reg (.n :: .n :: []), .reg (.n :: []), .br true, .reg (.n :: .v (VV.fn 85 [VV.tp [vb a0.2.1.1] 0, VV.tp [vi a0.2.1.2] 0]) :: .n :: []), .reg (.n :: .call (vi r142) :: .n :: []), .reg (.n :: .n :: []), .br false, .reg (.n :: .n :: []), .reg (.n :: []), .br true, .reg (.n :: .v (VV.fn 85 [VV.tp [vb a0.2.2.1.1] 0, VV.tp [vi a0.2.2.1.2] 0]) :: .n :: []), .reg (.n :: .call (vi r148) :: .n :: []), .reg (.n :: .n :: []), .br false, .reg (.n :: .n :: []), .reg (.n :: []), .br true, .reg (.n :: .v (VV.fn 85 [VV.tp [vb a0.2.2.2.1.1] 0, VV.tp [vi a0.2.2.2.1.2] 0]) :: .n :: []), .reg (.n :: .call (vi r154) :: .n :: []), .reg (.n :: .n :: []), .br false, .reg (.n :: .n :: []), .reg (.n :: []), .br true, .reg (arG1_1 a0), .reg (.n :: .call (vi r160) :: .n :: []), .reg (.n :: .n :: []), .br true, .reg (.n :: .n :: [])]) (fr := true) (by kernel_rfl) (an (an (ti trivial) (an (ti (ti (ti trivial))) (an (an (ti trivial) (an (an (show (decide ((0 : Int) < 7)) = true from (decide_eq_true (by decide))) trivial) (an (an (an e134 (an e135 (ti trivial))) (an (ti (an e138 (ti trivial))) (an (ti (ti trivial)) (an (not_f (decide_eq_true h139)) trivial)))) (ti (ti trivial))))) (an (an (ti trivial) (an (an (show (decide ((1 : Int) < 7)) = true from (decide_eq_true (by decide))) trivial) (an (an (an e140 (an e141 (ti trivial))) (an (ti (an e144 (ti trivial))) (an (ti (ti trivial)) (an (not_f (decide_eq_true h145)) trivial)))) (ti (ti trivial))))) (an (an (ti trivial) (an (an (show (decide ((2 : Int) < 7)) = true from (decide_eq_true (by decide))) trivial) (an (an (an e146 (an e147 (ti trivial))) (an (ti (an e150 (ti trivial))) (an (ti (ti trivial)) (an (not_f (decide_eq_true h151)) trivial)))) (ti (ti trivial))))) (an (an (ti trivial) (an (an (show (decide ((3 : Int) < 7)) = true from (decide_eq_true (by decide))) trivial) (an (an (an e152 (an e153 (ti trivial))) (an (ti (an e156 (ti trivial))) (an (ti (ti trivial)) (an (not_f (decide_eq_true h157)) trivial)))) (ti (ti trivial))))) (an (ti trivial) (an (an (show (decide ((4 : Int) < 7)) = true from (decide_eq_true (by decide))) trivial) (an (an e158 (an e159 (ti trivial))) (an (ti (an e162 (ti trivial))) (an (ti (ti trivial)) (an (not_t (decide_eq_false h163)) (an (ti (ti trivial)) trivial))))))))))))) (ti trivial)) (Wv.refl _)
    ·injection h with h; subst h
     exact fun_ok pm pn Go.Proofs.Try.func53 (r0 := vi r154) (ans := [.reg (.n :: []), .reg (nN 3 []), .unr 5, .reg (.n :: []), .br true, .reg (.n :: .v (VV.fn 85 [VV.tp [vb a0.1.1] 0, VV.tp [vi a0.1.2] 0]) :: .n :: []), .reg (.n :: .call (vi r136) :: .n :: []), .reg (.n :: .n :: []), .br false, .reg (.n :: .n :: []), .reg (.n :: []), .br true, .reg (.n :: .v (VV.fn 85 [VV.tp [vb a0.2.1.1] 0, VV.tp [vi a0.2.1.2] 0]) :: .n :: []), .reg (.n :: .call (vi r142) :: .n :: []), .reg (.n :: .n :: []), .br false, .reg (.n :: .n :: []), .reg (.n :: []), .br true, .reg (.n :: .v (VV.fn 85 [VV.tp [vb a0.2.2.1.1] 0, VV.tp [vi a0.2.2.1.2] 0]) :: .n :: []), .reg (.n :: .call (vi r148) :: .n :: []), .reg (.n :: .n :: []), .br false, .reg (.n :: .n :: []), .reg (.n :: []), .br true, .reg (.n :: .v (VV.fn 85 [VV.tp [vb a0.2.2.2.1.1] 0, VV.tp [vi a0.2.2.2.1.2] 0]) :: .n :: []), .reg (.n :: .call (vi r154) :: .n :: []), .reg (.n :: .n :: []), .br true, .reg (.n :: .n :: [])]) (fr := true) (by kernel_rfl) (an (an (ti trivial) (an (ti (ti (ti trivial))) (an (an (ti trivial) (an (an (show (decide ((0 : Int) < 7)) = true from (decide_eq_true (by decide))) trivial) (an (an (an e134 (an e135 (ti trivial))) (an (ti (an e138 (ti trivial))) (an (ti (ti trivial)) (an (not_f (decide_eq_true h139)) trivial)))) (ti (ti trivial))))) (an (an (ti trivial) (an (an (show (decide ((1 : Int) < 7)) = true from (decide_eq_true (by decide))) trivial) (an (an (an e140 (an e141 (ti trivial))) (an (ti (an e144 (ti trivial))) (an (ti (ti trivial)) (an (not_f (decide_eq_true h145)) trivial)))) (ti (ti trivial))))) (an (an (ti trivial) (an (an (show (decide ((2 : Int) < 7)) = true from (decide_eq_true (by decide))) trivial) (an (an (an e146 (an e147 (ti trivial))) (an (ti (an e150 (ti trivial))) (an (ti (ti trivial)) (an (not_f (decide_eq_true h151)) trivial)))) (ti (ti trivial))))) (an (ti trivial) (an (an (show (decide ((3 : Int) < 7)) = true from (decide_eq_true (by decide))) trivial) (an (an e152 (an e153 (ti trivial))) (an (ti (an e156 (ti trivial))) (an (ti (ti trivial)) (an (not_t (decide_eq_false h157)) (an (ti (ti trivial)) trivial)))))))))))) (ti trivial)) (Wv.refl _)
   ·injection h with h; subst h
    exact fun_ok pm pn Go.Proofs.Try.func53 (r0 := vi r148) (ans := [.reg (.n :: []), .reg (nN 3 []), .unr 4, .reg (.n :: []), .br true, .reg (.n :: .v (VV.fn 85 [VV.tp [vb a0.1.1] 0, VV.tp [vi a0.1.2] 0]) :: .n :: []), .reg (.n :: .call (vi r136) :: .n :: []), .reg (.n :: .n :: []), .br false, .reg (.n :: .n :: []), .reg (.n :: []), .br true, .reg (.n :: .v (VV.fn 85 [VV.tp [vb a0.2.1.1] 0, VV.tp [vi a0.2.1.2] 0]) :: .n :: []), .reg (.n :: .call (vi r142) :: .n :: []), .reg (.n :: .n :: []), .br false, .reg (.n :: .n :: []), .reg (.n :: []), .br true, .reg (.n :: .v (VV.fn 85 [VV.tp [vb a0.2.2.1.1] 0, VV.tp [vi a0.2.2.1.2] 0]) :: .n :: []), .reg (.n :: .call (vi r148) :: .n :: []), .reg (.n :: .n :: []), .br true, .reg (.n :: .n :: [])]) (fr := true) (by kernel_rfl) (an (an (ti trivial) (an (ti (ti (ti trivial))) (an (an (ti trivial) (an (an (show (decide ((0 : Int) < 7)) = true from (decide_eq_true (by decide))) trivial) (an (an (an e134 (an e135 (ti trivial))) (an (ti (an e138 (ti trivial))) (an (ti (ti trivial)) (an (not_f (decide_eq_true h139)) trivial)))) (ti (ti trivial))))) (an (an (ti trivial) (an (an (show (decide ((1 : Int) < 7)) = true from (decide_eq_true (by decide))) trivial) (an (an (an e140 (an e141 (ti trivial))) (an (ti (an e144 (ti trivial))) (an (ti (ti trivial)) (an (not_f (decide_eq_true h145)) trivial)))) (ti (ti trivial))))) (an (ti trivial) (an (an (show (decide ((2 : Int) < 7)) = true from (decide_eq_true (by decide))) trivial) (an (an e146 (an e147 (ti trivial))) (an (ti (an e150 (ti trivial))) (an (ti (ti trivial)) (an (not_t (decide_eq_false h151)) (an (ti (ti trivial)) trivial))))))))))) (ti trivial)) (Wv.refl _)
  ·injection h with h; subst h
   exact fun_ok pm pn Go.Proofs.Try.func53 (r0 := vi r142) (ans := [.reg (.n :: []), .reg (nN 3 []), .unr 3, .reg (.n :: []), .br true, .reg (.n :: .v (VV.fn 85 [VV.tp [vb a0.1.1] 0, VV.tp [vi a0.1.2] 0]) :: .n :: []), .reg (.n :: .call (vi r136) :: .n :: []), .reg (.n :: .n :: []), .br false, .reg (.n :: .n :: []), .reg (.n :: []), .br true, .reg (.n :: .v (VV.fn 85 [VV.tp [vb a0.2.1.1] 0, VV.tp [vi a0.2.1.2] 0]) :: .n :: []), .reg (.n :: .call (vi r142) :: .n :: []), .reg (.n :: .n :: []), .br true, .reg (.n :: .n :: [])]) (fr := true) (by kernel_rfl) (an (an (ti trivial) (an (ti (ti (ti trivial))) (an (an (ti trivial) (an (an (show (decide ((0 : Int) < 7)) = true from (decide_eq_true (by decide))) trivial) (an (an (an e134 (an e135 (ti trivial))) (an (ti (an e138 (ti trivial))) (an (ti (ti trivial)) (an (not_f (decide_eq_true h139)) trivial)))) (ti (ti trivial))))) (an (ti trivial) (an (an (show (decide ((1 : Int) < 7)) = true from (decide_eq_true (by decide))) trivial) (an (an e140 (an e141 (ti trivial))) (an (ti (an e144 (ti trivial))) (an (ti (ti trivial)) (an (not_t (decide_eq_false h145)) (an (ti (ti trivial)) trivial)))))))))) (ti trivial)) (Wv.refl _)
 ·injection h with h; subst h
  exact fun_ok pm pn Go.Proofs.Try.func53 (r0 := vi r136) (ans := [.reg (.n :: []), .reg (nN 3 []), .unr 2, .reg (.n :: []), .br true, .reg (.n :: .v (VV.fn 85 [VV.tp [vb a0.1.1] 0, VV.tp [vi a0.1.2] 0]) :: .n :: []), .reg (.n :: .call (vi r136) :: .n :: []), .reg (.n :: .n :: []), .br true, .reg (.n :: .n :: [])]) (fr := true) (by kernel_rfl) (an (an (ti trivial) (an (ti (ti (ti trivial))) (an (ti trivial) (an (an (show (decide ((0 : Int) < 7)) = true from (decide_eq_true (by decide))) trivial) (an (an e134 (an e135 (ti trivial))) (an (ti (an e138 (ti trivial))) (an (ti (ti trivial)) (an (not_t (decide_eq_false h139)) (an (ti (ti trivial)) trivial))))))))) (ti trivial)) (Wv.refl _)
theorem eqG1_2 (z0 : (Bool × Int)) (z1 : (Bool × Int)) (z2 : (Bool × Int)) (z3 : (Bool × Int)) (z4 : (Bool × Int)) (z5 : (Bool × Int)) (z6 : (Bool × Int)) : [VV.tr ([VV.fn 85 [VV.tp [vb (((z0, z1, z2, z3, z4, z5, z6).1).1)] 0, VV.tp [vi (((z0, z1, z2, z3, z4, z5, z6).1).2)] 0], VV.fn 85 [VV.tp [vb (((z0, z1, z2, z3, z4, z5, z6).2.1).1)] 0, VV.tp [vi (((z0, z1, z2, z3, z4, z5, z6).2.1).2)] 0], VV.fn 85 [VV.tp [vb (((z0, z1, z2, z3, z4, z5, z6).2.2.1).1)] 0, VV.tp [vi (((z0, z1, z2, z3, z4, z5, z6).2.2.1).2)] 0], VV.fn 85 [VV.tp [vb (((z0, z1, z2, z3, z4, z5, z6).2.2.2.1).1)] 0, VV.tp [vi (((z0, z1, z2, z3, z4, z5, z6).2.2.2.1).2)] 0], VV.fn 85 [VV.tp [vb (((z0, z1, z2, z3, z4, z5, z6).2.2.2.2.1).1)] 0, VV.tp [vi (((z0, z1, z2, z3, z4, z5, z6).2.2.2.2.1).2)] 0], VV.fn 85 [VV.tp [vb (((z0, z1, z2, z3, z4, z5, z6).2.2.2.2.2.1).1)] 0, VV.tp [vi (((z0, z1, z2, z3, z4, z5, z6).2.2.2.2.2.1).2)] 0], VV.fn 85 [VV.tp [vb (((z0, z1, z2, z3, z4, z5, z6).2.2.2.2.2.2).1)] 0, VV.tp [vi (((z0, z1, z2, z3, z4, z5, z6).2.2.2.2.2.2).2)] 0]]) 7] = [VV.tr (List.drop 0 (List.map unfr [VV.fn 85 [VV.tp [vb z0.1] 0, VV.tp [vi z0.2] 0], VV.fn 85 [VV.tp [vb z1.1] 0, VV.tp [vi z1.2] 0], VV.fn 85 [VV.tp [vb z2.1] 0, VV.tp [vi z2.2] 0], VV.fn 85 [VV.tp [vb z3.1] 0, VV.tp [vi z3.2] 0], VV.fn 85 [VV.tp [vb z4.1] 0, VV.tp [vi z4.2] 0], VV.fn 85 [VV.tp [vb z5.1] 0, VV.tp [vi z5.2] 0], VV.fn 85 [VV.tp [vb z6.1] 0, VV.tp [vi z6.2] 0]])) 7] := by first | rfl | simp only [drop0, unfr_vi, unfr_vb, List.map_cons, List.map_nil, un_i, un_b, un_tr]
def arG1_4 (z0 : (Bool × Int)) (z1 : (Bool × Int)) (z2 : (Bool × Int)) (z3 : (Bool × Int)) (z4 : (Bool × Int)) (z5 : (Bool × Int)) (z6 : (Bool × Int)) (z7 : Int) : List Ans := (.n :: .n :: .call (VV.fn 85 [VV.tp [vb z0.1] 0, VV.tp [vi z0.2] 0]) :: nN 5 (.call (VV.fn 85 [VV.tp [vb z1.1] 0, VV.tp [vi z1.2] 0]) :: nN 3 (.call (VV.fn 85 [VV.tp [vb z2.1] 0, VV.tp [vi z2.2] 0]) :: nN 3 (.call (VV.fn 85 [VV.tp [vb z3.1] 0, VV.tp [vi z3.2] 0]) :: .n :: .n :: .call (VV.fn 85 [VV.tp [vb z4.1] 0, VV.tp [vi z4.2] 0]) :: nN 5 (.call (VV.fn 85 [VV.tp [vb z5.1] 0, VV.tp [vi z5.2] 0]) :: nN 4 (nS 3 (.b true :: .call (VV.fn 85 [VV.tp [vb z6.1] 0, VV.tp [vi z6.2] 0]) :: .n :: .call (vi z7) :: .n :: [])))))))
def arG1_5 (z0 : (Bool × Int)) (z1 : (Bool × Int)) (z2 : (Bool × Int)) (z3 : (Bool × Int)) (z4 : (Bool × Int)) (z5 : (Bool × Int)) (z6 : (Bool × Int)) (z7 : Int) : List Ans := (.n :: .n :: .call (VV.fn 85 [VV.tp [vb z0.1] 0, VV.tp [vi z0.2] 0]) :: nN 5 (.call (VV.fn 85 [VV.tp [vb z1.1] 0, VV.tp [vi z1.2] 0]) :: nN 3 (.call (VV.fn 85 [VV.tp [vb z2.1] 0, VV.tp [vi z2.2] 0]) :: nN 3 (.call (VV.fn 85 [VV.tp [vb z3.1] 0, VV.tp [vi z3.2] 0]) :: .n :: .n :: .call (VV.fn 85 [VV.tp [vb z4.1] 0, VV.tp [vi z4.2] 0]) :: nN 5 (.call (VV.fn 85 [VV.tp [vb z5.1] 0, VV.tp [vi z5.2] 0]) :: nN 7 (.b false :: .call (VV.fn 85 [VV.tp [vb z6.1] 0, VV.tp [vi z6.2] 0]) :: .n :: .call (vi z7) :: .n :: []))))))
def nblank_checkPart (k : Nat) (a0 : SGlassPart) (a1 : Int) : Option Int :=
  (nblank_within k a0.Outer 1 1000).bind fun r187 => ((nblank_within k a0.Inner 0 (w64 (a0.Outer - 1))).bind fun r190 => ((nblank_within k a0.From 0 a1).bind fun r193 => ((nblank_within k a0.To 0 a1).bind fun r196 => ((nblank_within k a0.Count 0 100).bind fun r198 => ((nblank_need k (decide (a0.From < a0.To)) 9).bind fun r201 => (if a0.Count = 0 then ((nblank_need k true 3).bind fun r205 => ((nblank_firstOf_c0_142 k (r187, r190, r193, r196, r198, r201, r205)).bind fun r207 => (some r207))) else ((nblank_need k (decide (a0.Inner = 0)) 3).bind fun r211 => ((nblank_firstOf_c0_142 k (r187, r190, r193, r196, r198, r201, r211)).bind fun r214 => (some r214)))))))))
theorem nblank_checkPart_ok (k : Nat) (a0 : SGlassPart) (a1 : Int) (r : Int) (h : nblank_checkPart k a0 a1 = some r) : VC Go.Proofs.Try.prog 58 [VV.ag (c_SGlassPart a0), vi a1] (vi r) := by
 unfold nblank_checkPart at h
 obtain ⟨r187, h188, h⟩ := bs h
 have e189 := (nblank_within_ok k a0.Outer 1 1000 _ h188)
 obtain ⟨r190, h191, h⟩ := bs h
 have e192 := (nblank_within_ok k a0.Inner 0 (w64 (a0.Outer - 1)) _ h191)
 obtain ⟨r193, h194, h⟩ := bs h
 have e195 := (nblank_within_ok k a0.From 0 a1 _ h194)
 obtain ⟨r196, h197, h⟩ := bs h
 obtain ⟨r198, h199, h⟩ := bs h
 have e200 := (nblank_within_ok k a0.Count 0 100 _ h199)
 obtain ⟨r201, h202, h⟩ := bs h
 have e203 := (nblank_need_ok k (decide (a0.From < a0.To)) 9 _ h202)
 rcases ifs h with ⟨h204, h⟩ | ⟨h204, h⟩
 ·obtain ⟨r205, h206, h⟩ := bs h
  obtain ⟨r207, h208, h⟩ := bs h
  have e209 := (VC.args (nblank_firstOf_c0_142_ok k (r187, r190, r193, r196, r198, r201, r205) _ h208) (eqG1_2 r187 r190 r193 r196 r198 r201 r205))
  have e210 := (ti (ti (an e189 (ti (ti (ti (ti (ti (an e192 (ti (ti (ti (an e195 (ti (ti (ti (an (nblank_within_ok k a0.To 0 a1 _ h197) (ti (ti (an e200 (ti (ti (ti (ti (ti (an e203 (ti (ti (ti (ti (an (decide_eq_true h204) (an (decide_eq_true h204) (an (decide_eq_true h204) (an (decide_eq_true h204) (an (nblank_need_ok k true 3 _ h206) (ti (an e209 (ti trivial))))))))))))))))))))))))))))))))))))))
  injection h with h; subst h
  exact fun_ok pm pn Go.Proofs.Try.func58 (r0 := vi r207) (ans := [.reg (.n :: .n :: []), .reg (arG1_4 r187 r190 r193 r196 r198 r201 r205 r207)]) (fr := true) (by kernel_rfl) (an (an (ti (ti trivial)) (an e210 trivial)) (ti trivial)) (Wv.refl _)
 ·obtain ⟨r211, h212, h⟩ := bs h
  have e213 := (nblank_need_ok k (decide (a0.Inner = 0)) 3 _ h212)
  obtain ⟨r214, h215, h⟩ := bs h
  have e216 := (VC.args (nblank_firstOf_c0_142_ok k (r187, r190, r193, r196, r198, r201, r211) _ h215) (eqG1_2 r187 r190 r193 r196 r198 r201 r211))
  have e217 := (ti (ti (an e189 (ti (ti (ti (ti (ti (an e192 (ti (ti (ti (an e195 (ti (ti (ti (an (nblank_within_ok k a0.To 0 a1 _ h197) (ti (ti (an e200 (ti (ti (ti (ti (ti (an e203 (ti (ti (ti (ti (an (an (decide_eq_false h204) trivial) (an (an (decide_eq_false h204) trivial) (an (an (decide_eq_false h204) trivial) (an (decide_eq_false h204) (an e213 (ti (an e216 (ti trivial))))))))))))))))))))))))))))))))))))))
  injection h with h; subst h
  exact fun_ok pm pn Go.Proofs.Try.func58 (r0 := vi r214) (ans := [.reg (.n :: .n :: []), .reg (arG1_5 r187 r190 r193 r196 r198 r201 r211 r214)]) (fr := true) (by kernel_rfl) (an (an (ti (ti trivial)) (an e217 trivial)) (ti trivial)) (Wv.refl _)
def nblank_CheckGlass_1 (k : Nat) (a0 : SGlassPart) (q0_0 : Int) (q0_1 : Int) (q0_2 : (List SGlassPart)) (q0_3 : (List SGlassCap)) : Option Int :=
  (nblank_checkPart k a0 q0_1).bind fun r222 => (some r222)
theorem nblank_CheckGlass_1_ok (k : Nat) (a0 : SGlassPart) (q0_0 : Int) (q0_1 : Int) (q0_2 : (List SGlassPart)) (q0_3 : (List SGlassCap)) (r : Int) (h : nblank_CheckGlass_1 k a0 q0_0 q0_1 q0_2 q0_3 = some r) : VC Go.Proofs.Try.prog 57 [VV.ag (c_SGlassPart a0), VV.tp [vi q0_0, vi q0_1, VV.tr (List.flatMap c_SGlassPart q0_2) q0_2.length, VV.tr (List.flatMap c_SGlassCap q0_3) q0_3.length] 0] (vi r) := by
 unfold nblank_CheckGlass_1 at h
 have e221 := (show loadL Go.Proofs.Try.prog 3 1 [vi q0_0, vi q0_1, VV.tr (List.flatMap c_SGlassPart q0_2) q0_2.length, VV.tr (List.flatMap c_SGlassCap q0_3) q0_3.length] = some (vi q0_1) from (ld_one ag3 rfl))
 obtain ⟨r222, h223, h⟩ := bs h
 have e224 := (ti (ti (an e221 (an (nblank_checkPart_ok k a0 q0_1 _ h223) (ti trivial)))))
 injection h with h; subst h
 exact fun_ok pm pn Go.Proofs.Try.func57 (r0 := vi r222) (ans := [.reg (.n :: .n :: []), .reg (.n :: .n :: .v (vi q0_1) :: .call (vi r222) :: .n :: [])]) (fr := true) (by kernel_rfl) (an (an (ti (ti trivial)) (an e224 trivial)) (ti trivial)) (Wv.refl _)
def arG1_6 (z0 : (Int × Int × (List SGlassPart) × (List SGlassCap))) (z1 : Int) : List Ans := (.v (VV.fn 57 [VV.tp [vi z0.1, vi z0.2.1, VV.tr (List.flatMap c_SGlassPart z0.2.2.1) z0.2.2.1.length, VV.tr (List.flatMap c_SGlassCap z0.2.2.2) z0.2.2.2.length] 0]) :: .n :: .call (vi z1) :: .n :: [])
def nblank_each_api_GlassPart_1_k22_136_l0_0_h (q0_0 : (List SGlassPart)) (q1_0 : (Int × Int × (List SGlassPart) × (List SGlassCap))) (x8 : Int) : VS := ⟨mkA [(1, VV.tp [VV.fn 57 [VV.tp [vi q1_0.1, vi q1_0.2.1, VV.tr (List.flatMap c_SGlassPart q1_0.2.2.1) q1_0.2.2.1.length, VV.tr (List.flatMap c_SGlassCap q1_0.2.2.2) q1_0.2.2.2.length] 0]] 0), (6, VV.tr (List.flatMap c_SGlassPart q0_0) q0_0.length), (7, vi (q0_0.length : Int)), (8, vi x8)], [], .nil⟩
def nblank_each_api_GlassPart_1_k22_136_l0_0_e0 (q0_0 : (List SGlassPart)) (q1_0 : (Int × Int × (List SGlassPart) × (List SGlassCap))) (r : Int) : VS := ⟨mkA [(2, vi r)], [], .nil⟩
def nblank_each_api_GlassPart_1_k22_136_l0_0_e1 (q0_0 : (List SGlassPart)) (q1_0 : (Int × Int × (List SGlassPart) × (List SGlassCap))) (r : Unit) : VS := ⟨mkA [], [], .nil⟩
def nblank_each_api_GlassPart_1_k22_136_l0_0 (k : Nat) (q0_0 : (List SGlassPart)) (q1_0 : (Int × Int × (List SGlassPart) × (List SGlassCap))) : Nat → Int → Option (Sum Int Unit)
  | 0, _ => none
  | fuel + 1, x8 => if x8 < (q0_0.length : Int) then (if 0 ≤ x8 ∧ x8 < (q0_0.length : Int) then ((nblank_CheckGlass_1 k (q0_0.getD x8.toNat default) q1_0.1 q1_0.2.1 q1_0.2.2.1 q1_0.2.2.2).bind fun r272 => (if r272 = 0 then (nblank_each_api_GlassPart_1_k22_136_l0_0 k q0_0 q1_0 fuel (w64 (x8 + 1))) else (some (.inl r272)))) else none) else (some (.inr ()))
theorem nblank_each_api_GlassPart_1_k22_136_l0_0_ok (k : Nat) (q0_0 : (List SGlassPart)) (q1_0 : (Int × Int × (List SGlassPart) × (List SGlassCap))) : ∀ (fuel : Nat) (x8 : Int) (r : Sum Int Unit), nblank_each_api_GlassPart_1_k22_136_l0_0 k q0_0 q1_0 fuel x8 = some r → (match r with | .inl r => VLoop none Go.Proofs.Try.prog (szF Go.Proofs.Try.f86) (bodyOf Go.Proofs.Try.f86 0) (nblank_each_api_GlassPart_1_k22_136_l0_0_h q0_0 q1_0 x8) .ret (nblank_each_api_GlassPart_1_k22_136_l0_0_e0 q0_0 q1_0 r) | .inr r => VLoop none Go.Proofs.Try.prog (szF Go.Proofs.Try.f86) (bodyOf Go.Proofs.Try.f86 0) (nblank_each_api_GlassPart_1_k22_136_l0_0_h q0_0 q1_0 x8) (.exit 0) (nblank_each_api_GlassPart_1_k22_136_l0_0_e1 q0_0 q1_0 r)) := by
 intro fuel
 induction fuel with
 | zero => intro x8 r h; rw [nblank_each_api_GlassPart_1_k22_136_l0_0.eq_1] at h; cases h
 | succ fuel ih =>
  intro x8 r h
  rw [nblank_each_api_GlassPart_1_k22_136_l0_0.eq_2] at h
  rcases ifs h with ⟨h268, h⟩ | ⟨h268, h⟩
  ·obtain ⟨h269, h⟩ := ifn h
   have e270 := (show loadL Go.Proofs.Try.prog 41 (x8.toNat * 6) (List.flatMap c_SGlassPart q0_0) = some (VV.ag (c_SGlassPart (q0_0.getD x8.toNat default))) from ld_whole ag41 c_SGlassPart 6 sz41 len_c_SGlassPart q0_0 default h269 (by omega))
   have e271 := (show loadL Go.Proofs.Try.prog 97 0 [VV.fn 57 [VV.tp [vi q1_0.1, vi q1_0.2.1, VV.tr (List.flatMap c_SGlassPart q1_0.2.2.1) q1_0.2.2.1.length, VV.tr (List.flatMap c_SGlassCap q1_0.2.2.2) q1_0.2.2.2.length] 0]] = some (VV.fn 57 [VV.tp [vi q1_0.1, vi q1_0.2.1, VV.tr (List.flatMap c_SGlassPart q1_0.2.2.1) q1_0.2.2.1.length, VV.tr (List.flatMap c_SGlassCap q1_0.2.2.2) q1_0.2.2.2.length] 0]) from (ld_one ag97 rfl))
   obtain ⟨r272, h273, h⟩ := bs h
   have e274 := (nblank_CheckGlass_1_ok k (q0_0.getD x8.toNat default) q1_0.1 q1_0.2.1 q1_0.2.2.1 q1_0.2.2.2 _ h273)
   rcases ifs h with ⟨h275, h⟩ | ⟨h275, h⟩
   ·have h2 := ih _ _ h
    obtain ⟨q, hv, hq⟩ := pkR (rd := none) (P := Go.Proofs.Try.prog) (fn := Go.Proofs.Try.f86) (k := 0) (s := (nblank_each_api_GlassPart_1_k22_136_l0_0_h q0_0 q1_0 x8)) (ans := [.reg (.n :: []), .br true, .reg (.n :: .v (VV.ag (c_SGlassPart (q0_0.getD x8.toNat default))) :: .n :: .n :: []), .reg (arG1_6 q1_0 r272), .reg (.n :: .n :: []), .br false, .reg (.n :: .n :: [])]) (c := ⟨[(1, none), (6, none), (7, none), (8, none)], [], []⟩) (e := .normal) (s1 := (nblank_each_api_GlassPart_1_k22_136_l0_0_h q0_0 q1_0 (w64 (x8 + 1)))) (an (an (ti trivial) (an (an (decide_eq_true h268) trivial) (an (an (an h269 (an e270 (ti (ti trivial)))) (an (an e271 (ti (an e274 (ti trivial)))) (an (ti (ti trivial)) (an (not_f (decide_eq_true h275)) trivial)))) (ti (ti trivial))))) (ti trivial)) (by kernel_rfl)
    cases r with
    | inl r => exact round_next pm pn hv hq h2
    | inr r =>
     exact round_next pm pn hv hq h2
   ·injection h with h; subst h
    exact round_stop (c := ⟨[(2, none)], [], []⟩) (s1 := (nblank_each_api_GlassPart_1_k22_136_l0_0_e0 q0_0 q1_0 r272)) pm pn (ans := [.reg (.n :: []), .br true, .reg (.n :: .v (VV.ag (c_SGlassPart (q0_0.getD x8.toNat default))) :: .n :: .n :: []), .reg (arG1_6 q1_0 r272), .reg (.n :: .n :: []), .br true, .reg (.n :: .n :: [])]) (by kernel_rfl) (by intro e; cases e) (an (an (ti trivial) (an (an (decide_eq_true h268) trivial) (an (an h269 (an e270 (ti (ti trivial)))) (an (an e271 (ti (an e274 (ti trivial)))) (an (ti (ti trivial)) (an (not_t (decide_eq_false h275)) (an (ti (ti trivial)) trivial))))))) (ti trivial))
  ·injection h with h; subst h
   exact round_stop (c := ⟨[], [], []⟩) (s1 := (nblank_each_api_GlassPart_1_k22_136_l0_0_e1 q0_0 q1_0 ())) pm pn (ans := [.reg (.n :: []), .br false]) (by kernel_rfl) (by intro e; cases e) (an (an (ti trivial) (an (decide_eq_false h268) trivial)) (ti trivial))
def nblank_each_api_GlassPart_1_k22_136 (k : Nat) (q0_0 : (List SGlassPart)) (q1_0 : (Int × Int × (List SGlassPart) × (List SGlassCap))) : Option Int :=
  (nblank_each_api_GlassPart_1_k22_136_l0_0 k q0_0 q1_0 k 0).bind fun r277 => (match r277 with | .inl r278 => (some r278) | .inr r279 => (some 0))
theorem nblank_each_api_GlassPart_1_k22_136_ok (k : Nat) (q0_0 : (List SGlassPart)) (q1_0 : (Int × Int × (List SGlassPart) × (List SGlassCap))) (r : Int) (h : nblank_each_api_GlassPart_1_k22_136 k q0_0 q1_0 = some r) : VC Go.Proofs.Try.prog 86 [VV.tp [VV.tr (List.flatMap c_SGlassPart q0_0) q0_0.length] 0, VV.tp [VV.fn 57 [VV.tp [vi q1_0.1, vi q1_0.2.1, VV.tr (List.flatMap c_SGlassPart q1_0.2.2.1) q1_0.2.2.1.length, VV.tr (List.flatMap c_SGlassCap q1_0.2.2.2) q1_0.2.2.2.length] 0]] 0] (vi r) := by
 unfold nblank_each_api_GlassPart_1_k22_136 at h
 have e251 := (show loadL Go.Proofs.Try.prog 22 0 [VV.tr (List.flatMap c_SGlassPart q0_0) q0_0.length] = some (VV.tr (List.flatMap c_SGlassPart q0_0) q0_0.length) from (ld_one ag22 rfl))
 obtain ⟨r277, h276, h⟩ := bs h
 have hph276 := nblank_each_api_GlassPart_1_k22_136_l0_0_ok k q0_0 q1_0 _ _ _ h276
 cases r277 with
 | inl r278 =>
  dsimp only at h
  have e280 := (an (ti trivial) (VRun.loop hph276))
  injection h with h; subst h
  exact fun_ok pm pn Go.Proofs.Try.func86 (r0 := vi r278) (ans := [.reg (.n :: []), .reg (.v (VV.tr (List.flatMap c_SGlassPart q0_0) q0_0.length) :: .n :: .n :: []), .sub ⟨[(1, none), (6, none), (7, none), (8, none)], [], []⟩ .ret (nblank_each_api_GlassPart_1_k22_136_l0_0_e0 q0_0 q1_0 r278)]) (fr := true) (by kernel_rfl) (an (an (ti trivial) (an (an e251 (ti (ti trivial))) e280)) (ti trivial)) (Wv.refl _)
 | inr r279 =>
  dsimp only at h
  have e281 := (an (ti trivial) (VRun.loop hph276))
  injection h with h; subst h
  exact fun_ok pm pn Go.Proofs.Try.func86 (r0 := vi 0) (ans := [.reg (.n :: []), .reg (.v (VV.tr (List.flatMap c_SGlassPart q0_0) q0_0.length) :: .n :: .n :: []), .sub ⟨[(1, none), (6, none), (7, none), (8, none)], [], []⟩ (.exit 0) (nblank_each_api_GlassPart_1_k22_136_l0_0_e1 q0_0 q1_0 r279), .reg (.n :: [])]) (fr := true) (by kernel_rfl) (an (an (ti trivial) (an (an (an e251 (ti (ti trivial))) e281) (an (ti trivial) trivial))) (ti trivial)) (Wv.refl _)
def nblank_rim (k : Nat) (a0 : SGlassCap) : Option Int :=
  if a0.Up = true then (some (w64 (a0.At + a0.Height))) else (some (w64 (a0.At - a0.Height)))
theorem nblank_rim_ok (k : Nat) (a0 : SGlassCap) (r : Int) (h : nblank_rim k a0 = some r) : VC Go.Proofs.Try.prog 88 [VV.ag (c_SGlassCap a0)] (vi r) := by
 unfold nblank_rim at h
 rcases ifs h with ⟨h309, h⟩ | ⟨h309, h⟩
 ·injection h with h; subst h
  exact fun_ok pm pn Go.Proofs.Try.func88 (r0 := vi (w64 (a0.At + a0.Height))) (ans := [.reg (.n :: .n :: []), .reg (.n :: .n :: []), .br true, .reg (nN 6 [])]) (fr := true) (by kernel_rfl) (an (an (ti (ti trivial)) (an (ti (ti trivial)) (an h309 (an (ti (ti (ti (ti (ti (ti trivial)))))) trivial)))) (ti trivial)) (Wv.refl _)
 ·injection h with h; subst h
  exact fun_ok pm pn Go.Proofs.Try.func88 (r0 := vi (w64 (a0.At - a0.Height))) (ans := [.reg (.n :: .n :: []), .reg (.n :: .n :: []), .br false, .reg (nN 6 [])]) (fr := true) (by kernel_rfl) (an (an (ti (ti trivial)) (an (an (ti (ti trivial)) (an (bool_f h309) trivial)) (an (ti (ti (ti (ti (ti (ti trivial)))))) trivial))) (ti trivial)) (Wv.refl _)
def nblank_firstOf_c0_143 (k : Nat) (a0 : ((Bool × Int) × (Bool × Int) × (Bool × Int) × (Bool × Int))) : Option Int :=
  (nblank_need_1 k a0.1.1 a0.1.2).bind fun r340 => (if r340 = 0 then ((nblank_need_1 k a0.2.1.1 a0.2.1.2).bind fun r346 => (if r346 = 0 then ((nblank_need_1 k a0.2.2.1.1 a0.2.2.1.2).bind fun r352 => (if r352 = 0 then ((nblank_need_1 k a0.2.2.2.1 a0.2.2.2.2).bind fun r358 => (if r358 = 0 then (some 0) else (some r358))) else (some r352))) else (some r346))) else (some r340))
theorem nblank_firstOf_c0_143_ok (k : Nat) (a0 : ((Bool × Int) × (Bool × Int) × (Bool × Int) × (Bool × Int))) (r : Int) (h : nblank_firstOf_c0_143 k a0 = some r) : VC Go.Proofs.Try.prog 53 [VV.tr ([VV.fn 85 [VV.tp [vb a0.1.1] 0, VV.tp [vi a0.1.2] 0], VV.fn 85 [VV.tp [vb a0.2.1.1] 0, VV.tp [vi a0.2.1.2] 0], VV.fn 85 [VV.tp [vb a0.2.2.1.1] 0, VV.tp [vi a0.2.2.1.2] 0], VV.fn 85 [VV.tp [vb a0.2.2.2.1] 0, VV.tp [vi a0.2.2.2.2] 0]]) 4] (vi r) := by
 unfold nblank_firstOf_c0_143 at h
 have e338 := (show (0 : Int) ≤ 0 ∧ (0 : Int) < ((4 : Nat) : Int) from ⟨by decide, by decide⟩)
 have e339 := (show loadL Go.Proofs.Try.prog 92 ((0 : Int).toNat * 1) ([VV.fn 85 [VV.tp [vb a0.1.1] 0, VV.tp [vi a0.1.2] 0], VV.fn 85 [VV.tp [vb a0.2.1.1] 0, VV.tp [vi a0.2.1.2] 0], VV.fn 85 [VV.tp [vb a0.2.2.1.1] 0, VV.tp [vi a0.2.2.1.2] 0], VV.fn 85 [VV.tp [vb a0.2.2.2.1] 0, VV.tp [vi a0.2.2.2.2] 0]]) = some (VV.fn 85 [VV.tp [vb a0.1.1] 0, VV.tp [vi a0.1.2] 0]) from (ld_one ag92 rfl))
 obtain ⟨r340, h341, h⟩ := bs h
 have e342 := (nblank_need_1_ok k a0.1.1 a0.1.2 _ h341)
 rcases ifs h with ⟨h343, h⟩ | ⟨h343, h⟩
 ·have e344 := (show (0 : Int) ≤ 1 ∧ (1 : Int) < ((4 : Nat) : Int) from ⟨by decide, by decide⟩)
  have e345 := (show loadL Go.Proofs.Try.prog 92 ((1 : Int).toNat * 1) ([VV.fn 85 [VV.tp [vb a0.1.1] 0, VV.tp [vi a0.1.2] 0], VV.fn 85 [VV.tp [vb a0.2.1.1] 0, VV.tp [vi a0.2.1.2] 0], VV.fn 85 [VV.tp [vb a0.2.2.1.1] 0, VV.tp [vi a0.2.2.1.2] 0], VV.fn 85 [VV.tp [vb a0.2.2.2.1] 0, VV.tp [vi a0.2.2.2.2] 0]]) = some (VV.fn 85 [VV.tp [vb a0.2.1.1] 0, VV.tp [vi a0.2.1.2] 0]) from (ld_one ag92 rfl))
  obtain ⟨r346, h347, h⟩ := bs h
  have e348 := (nblank_need_1_ok k a0.2.1.1 a0.2.1.2 _ h347)
  rcases ifs h with ⟨h349, h⟩ | ⟨h349, h⟩
  ·have e350 := (show (0 : Int) ≤ 2 ∧ (2 : Int) < ((4 : Nat) : Int) from ⟨by decide, by decide⟩)
   have e351 := (show loadL Go.Proofs.Try.prog 92 ((2 : Int).toNat * 1) ([VV.fn 85 [VV.tp [vb a0.1.1] 0, VV.tp [vi a0.1.2] 0], VV.fn 85 [VV.tp [vb a0.2.1.1] 0, VV.tp [vi a0.2.1.2] 0], VV.fn 85 [VV.tp [vb a0.2.2.1.1] 0, VV.tp [vi a0.2.2.1.2] 0], VV.fn 85 [VV.tp [vb a0.2.2.2.1] 0, VV.tp [vi a0.2.2.2.2] 0]]) = some (VV.fn 85 [VV.tp [vb a0.2.2.1.1] 0, VV.tp [vi a0.2.2.1.2] 0]) from (ld_one ag92 rfl))
   obtain ⟨r352, h353, h⟩ := bs h
   have e354 := (nblank_need_1_ok k a0.2.2.1.1 a0.2.2.1.2 _ h353)
   rcases ifs h with ⟨h355, h⟩ | ⟨h355, h⟩
   ·have e356 := (show (0 : Int) ≤ 3 ∧ (3 : Int) < ((4 : Nat) : Int) from ⟨by decide, by decide⟩)
    have e357 := (show loadL Go.Proofs.Try.prog 92 ((3 : Int).toNat * 1) ([VV.fn 85 [VV.tp [vb a0.1.1] 0, VV.tp [vi a0.1.2] 0], VV.fn 85 [VV.tp [vb a0.2.1.1] 0, VV.tp [vi a0.2.1.2] 0], VV.fn 85 [VV.tp [vb a0.2.2.1.1] 0, VV.tp [vi a0.2.2.1.2] 0], VV.fn 85 [VV.tp [vb a0.2.2.2.1] 0, VV.tp [vi a0.2.2.2.2] 0]]) = some (VV.fn 85 [VV.tp [vb a0.2.2.2.1] 0, VV.tp [vi a0.2.2.2.2] 0]) from (ld_one ag92 rfl))
    obtain ⟨r358, h359, h⟩ := bs h
    have e360 := (nblank_need_1_ok k a0.2.2.2.1 a0.2.2.2.2 _ h359)
    rcases ifs h with ⟨h361, h⟩ | ⟨h361, h⟩
    ·injection h with h; subst h
     exact fun_ok pm pn Go.Proofs.Try.func53 (r0 := vi 0) (ans := [.reg (.n :: []), .reg (nN 3 []), .unr 6, .reg (.n :: []), .br true, .reg (.n :: .v (VV.fn 85 [VV.tp [vb a0.1.1] 0, VV.tp [vi a0.1.2] 0]) :: .n :: []), .reg (.n :: .call (vi r340) :: .n :: []), .reg (.n :: .n :: []), .br false, .reg (.n :: .n :: []), .reg (.n :: []), .br true, .reg (.n :: .v (VV.fn 85 [VV.tp [vb a0.2.1.1] 0, VV.tp [vi a0.2.1.2] 0]) :: .n :: []), .reg (.n :: .call (vi r346) :: .n :: []), .reg (.n :: .n :: []), .br false, .reg (.n :: .n :: []), .reg (.n :: []), .br true, .reg (.n :: .v (VV.fn 85 [VV.tp [vb a0.2.2.1.1] 0, VV.tp [vi a0.2.2.1.2] 0]) :: .n :: []), .reg (.n :: .call (vi r352) :: .n :: []), .reg (.n :: .n :: []), .br false, .reg (.n :: .n :: []), .reg (.n :: []), .br true, .reg (.n :: .v (VV.fn 85 [VV.tp [vb a0.2.2.2.1] 0, VV.tp [vi a0.2.2.2.2] 0]) :: .n :: []), .reg (.n :: .call (vi r358) :: .n :: []), .reg (.n :: .n :: []), .br false, .reg (.n :: .n :: []), .reg (.n :: []), .br false, .reg (.n :: [])]) (fr := true) (by kernel_rfl) (an (an (ti trivial) (an (an (ti (ti (ti trivial))) (an (an (ti trivial) (an (an (show (decide ((0 : Int) < 4)) = true from (decide_eq_true (by decide))) trivial) (an (an (an e338 (an e339 (ti trivial))) (an (ti (an e342 (ti trivial))) (an (ti (ti trivial)) (an (not_f (decide_eq_true h343)) trivial)))) (ti (ti trivial))))) (an (an (ti trivial) (an (an (show (decide ((1 : Int) < 4)) = true from (decide_eq_true (by decide))) trivial) (an (an (an e344 (an e345 (ti trivial))) (an (ti (an e348 (ti trivial))) (an (ti (ti trivial)) (an (not_f (decide_eq_true h349)) trivial)))) (ti (ti trivial))))) (an (an (ti trivial) (an (an (show (decide ((2 : Int) < 4)) = true from (decide_eq_true (by decide))) trivial) (an (an (an e350 (an e351 (ti trivial))) (an (ti (an e354 (ti trivial))) (an (ti (ti trivial)) (an (not_f (decide_eq_true h355)) trivial)))) (ti (ti trivial))))) (an (an (ti trivial) (an (an (show (decide ((3 : Int) < 4)) = true from (decide_eq_true (by decide))) trivial) (an (an (an e356 (an e357 (ti trivial))) (an (ti (an e360 (ti trivial))) (an (ti (ti trivial)) (an (not_f (decide_eq_true h361)) trivial)))) (ti (ti trivial))))) (an (ti trivial) (an (show (decide ((4 : Int) < 4)) = false from (decide_eq_false (by decide))) trivial))))))) (an (ti trivial) trivial))) (ti trivial)) (Wv.refl _)
    ·injection h with h; subst h
     exact fun_ok pm pn Go.Proofs.Try.func53 (r0 := vi r358) (ans := [.reg (.n :: []), .reg (nN 3 []), .unr 5, .reg (.n :: []), .br true, .reg (.n :: .v (VV.fn 85 [VV.tp [vb a0.1.1] 0, VV.tp [vi a0.1.2] 0]) :: .n :: []), .reg (.n :: .call (vi r340) :: .n :: []), .reg (.n :: .n :: []), .br false, .reg (.n :: .n :: []), .reg (.n :: []), .br true, .reg (.n :: .v (VV.fn 85 [VV.tp [vb a0.2.1.1] 0, VV.tp [vi a0.2.1.2] 0]) :: .n :: []), .reg (.n :: .call (vi r346) :: .n :: []), .reg (.n :: .n :: []), .br false, .reg (.n :: .n :: []), .reg (.n :: []), .br true, .reg (.n :: .v (VV.fn 85 [VV.tp [vb a0.2.2.1.1] 0, VV.tp [vi a0.2.2.1.2] 0]) :: .n :: []), .reg (.n :: .call (vi r352) :: .n :: []), .reg (.n :: .n :: []), .br false, .reg (.n :: .n :: []), .reg (.n :: []), .br true, .reg (.n :: .v (VV.fn 85 [VV.tp [vb a0.2.2.2.1] 0, VV.tp [vi a0.2.2.2.2] 0]) :: .n :: []), .reg (.n :: .call (vi r358) :: .n :: []), .reg (.n :: .n :: []), .br true, .reg (.n :: .n :: [])]) (fr := true) (by kernel_rfl) (an (an (ti trivial) (an (ti (ti (ti trivial))) (an (an (ti trivial) (an (an (show (decide ((0 : Int) < 4)) = true from (decide_eq_true (by decide))) trivial) (an (an (an e338 (an e339 (ti trivial))) (an (ti (an e342 (ti trivial))) (an (ti (ti trivial)) (an (not_f (decide_eq_true h343)) trivial)))) (ti (ti trivial))))) (an (an (ti trivial) (an (an (show (decide ((1 : Int) < 4)) = true from (decide_eq_true (by decide))) trivial) (an (an (an e344 (an e345 (ti trivial))) (an (ti (an e348 (ti trivial))) (an (ti (ti trivial)) (an (not_f (decide_eq_true h349)) trivial)))) (ti (ti trivial))))) (an (an (ti trivial) (an (an (show (decide ((2 : Int) < 4)) = true from (decide_eq_true (by decide))) trivial) (an (an (an e350 (an e351 (ti trivial))) (an (ti (an e354 (ti trivial))) (an (ti (ti trivial)) (an (not_f (decide_eq_true h355)) trivial)))) (ti (ti trivial))))) (an (ti trivial) (an (an (show (decide ((3 : Int) < 4)) = true from (decide_eq_true (by decide))) trivial) (an (an e356 (an e357 (ti trivial))) (an (ti (an e360 (ti trivial))) (an (ti (ti trivial)) (an (not_t (decide_eq_false h361)) (an (ti (ti trivial)) trivial)))))))))))) (ti trivial)) (Wv.refl _)
   ·injection h with h; subst h
    exact fun_ok pm pn Go.Proofs.Try.func53 (r0 := vi r352) (ans := [.reg (.n :: []), .reg (nN 3 []), .unr 4, .reg (.n :: []), .br true, .reg (.n :: .v (VV.fn 85 [VV.tp [vb a0.1.1] 0, VV.tp [vi a0.1.2] 0]) :: .n :: []), .reg (.n :: .call (vi r340) :: .n :: []), .reg (.n :: .n :: []), .br false, .reg (.n :: .n :: []), .reg (.n :: []), .br true, .reg (.n :: .v (VV.fn 85 [VV.tp [vb a0.2.1.1] 0, VV.tp [vi a0.2.1.2] 0]) :: .n :: []), .reg (.n :: .call (vi r346) :: .n :: []), .reg (.n :: .n :: []), .br false, .reg (.n :: .n :: []), .reg (.n :: []), .br true, .reg (.n :: .v (VV.fn 85 [VV.tp [vb a0.2.2.1.1] 0, VV.tp [vi a0.2.2.1.2] 0]) :: .n :: []), .reg (.n :: .call (vi r352) :: .n :: []), .reg (.n :: .n :: []), .br true, .reg (.n :: .n :: [])]) (fr := true) (by kernel_rfl) (an (an (ti trivial) (an (ti (ti (ti trivial))) (an (an (ti trivial) (an (an (show (decide ((0 : Int) < 4)) = true from (decide_eq_true (by decide))) trivial) (an (an (an e338 (an e339 (ti trivial))) (an (ti (an e342 (ti trivial))) (an (ti (ti trivial)) (an (not_f (decide_eq_true h343)) trivial)))) (ti (ti trivial))))) (an (an (ti trivial) (an (an (show (decide ((1 : Int) < 4)) = true from (decide_eq_true (by decide))) trivial) (an (an (an e344 (an e345 (ti trivial))) (an (ti (an e348 (ti trivial))) (an (ti (ti trivial)) (an (not_f (decide_eq_true h349)) trivial)))) (ti (ti trivial))))) (an (ti trivial) (an (an (show (decide ((2 : Int) < 4)) = true from (decide_eq_true (by decide))) trivial) (an (an e350 (an e351 (ti trivial))) (an (ti (an e354 (ti trivial))) (an (ti (ti trivial)) (an (not_t (decide_eq_false h355)) (an (ti (ti trivial)) trivial))))))))))) (ti trivial)) (Wv.refl _)
  ·injection h with h; subst h
   exact fun_ok pm pn Go.Proofs.Try.func53 (r0 := vi r346) (ans := [.reg (.n :: []), .reg (nN 3 []), .unr 3, .reg (.n :: []), .br true, .reg (.n :: .v (VV.fn 85 [VV.tp [vb a0.1.1] 0, VV.tp [vi a0.1.2] 0]) :: .n :: []), .reg (.n :: .call (vi r340) :: .n :: []), .reg (.n :: .n :: []), .br false, .reg (.n :: .n :: []), .reg (.n :: []), .br true, .reg (.n :: .v (VV.fn 85 [VV.tp [vb a0.2.1.1] 0, VV.tp [vi a0.2.1.2] 0]) :: .n :: []), .reg (.n :: .call (vi r346) :: .n :: []), .reg (.n :: .n :: []), .br true, .reg (.n :: .n :: [])]) (fr := true) (by kernel_rfl) (an (an (ti trivial) (an (ti (ti (ti trivial))) (an (an (ti trivial) (an (an (show (decide ((0 : Int) < 4)) = true from (decide_eq_true (by decide))) trivial) (an (an (an e338 (an e339 (ti trivial))) (an (ti (an e342 (ti trivial))) (an (ti (ti trivial)) (an (not_f (decide_eq_true h343)) trivial)))) (ti (ti trivial))))) (an (ti trivial) (an (an (show (decide ((1 : Int) < 4)) = true from (decide_eq_true (by decide))) trivial) (an (an e344 (an e345 (ti trivial))) (an (ti (an e348 (ti trivial))) (an (ti (ti trivial)) (an (not_t (decide_eq_false h349)) (an (ti (ti trivial)) trivial)))))))))) (ti trivial)) (Wv.refl _)
 ·injection h with h; subst h
  exact fun_ok pm pn Go.Proofs.Try.func53 (r0 := vi r340) (ans := [.reg (.n :: []), .reg (nN 3 []), .unr 2, .reg (.n :: []), .br true, .reg (.n :: .v (VV.fn 85 [VV.tp [vb a0.1.1] 0, VV.tp [vi a0.1.2] 0]) :: .n :: []), .reg (.n :: .call (vi r340) :: .n :: []), .reg (.n :: .n :: []), .br true, .reg (.n :: .n :: [])]) (fr := true) (by kernel_rfl) (an (an (ti trivial) (an (ti (ti (ti trivial))) (an (ti trivial) (an (an (show (decide ((0 : Int) < 4)) = true from (decide_eq_true (by decide))) trivial) (an (an e338 (an e339 (ti trivial))) (an (ti (an e342 (ti trivial))) (an (ti (ti trivial)) (an (not_t (decide_eq_false h343)) (an (ti (ti trivial)) trivial))))))))) (ti trivial)) (Wv.refl _)
theorem eqG1_3 (z0 : (Bool × Int)) (z1 : (Bool × Int)) (z2 : (Bool × Int)) (z3 : (Bool × Int)) : [VV.tr ([VV.fn 85 [VV.tp [vb (((z0, z1, z2, z3).1).1)] 0, VV.tp [vi (((z0, z1, z2, z3).1).2)] 0], VV.fn 85 [VV.tp [vb (((z0, z1, z2, z3).2.1).1)] 0, VV.tp [vi (((z0, z1, z2, z3).2.1).2)] 0], VV.fn 85 [VV.tp [vb (((z0, z1, z2, z3).2.2.1).1)] 0, VV.tp [vi (((z0, z1, z2, z3).2.2.1).2)] 0], VV.fn 85 [VV.tp [vb (((z0, z1, z2, z3).2.2.2).1)] 0, VV.tp [vi (((z0, z1, z2, z3).2.2.2).2)] 0]]) 4] = [VV.tr (List.drop 0 (List.map unfr [VV.fn 85 [VV.tp [vb z0.1] 0, VV.tp [vi z0.2] 0], VV.fn 85 [VV.tp [vb z1.1] 0, VV.tp [vi z1.2] 0], VV.fn 85 [VV.tp [vb z2.1] 0, VV.tp [vi z2.2] 0], VV.fn 85 [VV.tp [vb z3.1] 0, VV.tp [vi z3.2] 0]])) 4] := by first | rfl | simp only [drop0, unfr_vi, unfr_vb, List.map_cons, List.map_nil, un_i, un_b, un_tr]
def arG1_7 (z0 : (Bool × Int)) (z1 : (Bool × Int)) (z2 : (Bool × Int)) (z3 : Int) (z4 : (Bool × Int)) (z5 : Int) : List Ans := (.n :: .n :: .call (VV.fn 85 [VV.tp [vb z0.1] 0, VV.tp [vi z0.2] 0]) :: nN 5 (.call (VV.fn 85 [VV.tp [vb z1.1] 0, VV.tp [vi z1.2] 0]) :: nN 3 (.call (VV.fn 85 [VV.tp [vb z2.1] 0, VV.tp [vi z2.2] 0]) :: .n :: .call (vi z3) :: .n :: .call (VV.fn 85 [VV.tp [vb z4.1] 0, VV.tp [vi z4.2] 0]) :: .n :: .call (vi z5) :: .n :: [])))
def nblank_checkCap (k : Nat) (a0 : SGlassCap) (a1 : Int) : Option Int :=
  (nblank_within k a0.Radius 1 100000).bind fun r366 => ((nblank_within k a0.Height 1 (minI a0.Radius 500)).bind fun r369 => ((nblank_within k a0.At 0 a1).bind fun r372 => ((nblank_rim k a0).bind fun r374 => ((nblank_within k r374 0 a1).bind fun r376 => ((nblank_firstOf_c0_143 k (r366, r369, r372, r376)).bind fun r378 => (some r378))))))
theorem nblank_checkCap_ok (k : Nat) (a0 : SGlassCap) (a1 : Int) (r : Int) (h : nblank_checkCap k a0 a1 = some r) : VC Go.Proofs.Try.prog 61 [VV.ag (c_SGlassCap a0), vi a1] (vi r) := by
 unfold nblank_checkCap at h
 obtain ⟨r366, h367, h⟩ := bs h
 have e368 := (nblank_within_ok k a0.Radius 1 100000 _ h367)
 obtain ⟨r369, h370, h⟩ := bs h
 have e371 := (nblank_within_ok k a0.Height 1 (minI a0.Radius 500) _ h370)
 obtain ⟨r372, h373, h⟩ := bs h
 obtain ⟨r374, h375, h⟩ := bs h
 obtain ⟨r376, h377, h⟩ := bs h
 obtain ⟨r378, h379, h⟩ := bs h
 have e380 := (VC.args (nblank_firstOf_c0_143_ok k (r366, r369, r372, r376) _ h379) (eqG1_3 r366 r369 r372 r376))
 have e381 := (ti (ti (an e368 (ti (ti (ti (ti (ti (an e371 (ti (ti (ti (an (nblank_within_ok k a0.At 0 a1 _ h373) (ti (an (nblank_rim_ok k a0 _ h375) (ti (an (nblank_within_ok k r374 0 a1 _ h377) (ti (an e380 (ti trivial))))))))))))))))))))
 injection h with h; subst h
 exact fun_ok pm pn Go.Proofs.Try.func61 (r0 := vi r378) (ans := [.reg (.n :: .n :: []), .reg (arG1_7 r366 r369 r372 r374 r376 r378)]) (fr := true) (by kernel_rfl) (an (an (ti (ti trivial)) (an e381 trivial)) (ti trivial)) (Wv.refl _)
def nblank_CheckGlass_2 (k : Nat) (a0 : SGlassCap) (q0_0 : Int) (q0_1 : Int) (q0_2 : (List SGlassPart)) (q0_3 : (List SGlassCap)) : Option Int :=
  (nblank_checkCap k a0 q0_1).bind fun r386 => (some r386)
theorem nblank_CheckGlass_2_ok (k : Nat) (a0 : SGlassCap) (q0_0 : Int) (q0_1 : Int) (q0_2 : (List SGlassPart)) (q0_3 : (List SGlassCap)) (r : Int) (h : nblank_CheckGlass_2 k a0 q0_0 q0_1 q0_2 q0_3 = some r) : VC Go.Proofs.Try.prog 60 [VV.ag (c_SGlassCap a0), VV.tp [vi q0_0, vi q0_1, VV.tr (List.flatMap c_SGlassPart q0_2) q0_2.length, VV.tr (List.flatMap c_SGlassCap q0_3) q0_3.length] 0] (vi r) := by
 unfold nblank_CheckGlass_2 at h
 have e385 := (show loadL Go.Proofs.Try.prog 3 1 [vi q0_0, vi q0_1, VV.tr (List.flatMap c_SGlassPart q0_2) q0_2.length, VV.tr (List.flatMap c_SGlassCap q0_3) q0_3.length] = some (vi q0_1) from (ld_one ag3 rfl))
 obtain ⟨r386, h387, h⟩ := bs h
 have e388 := (ti (ti (an e385 (an (nblank_checkCap_ok k a0 q0_1 _ h387) (ti trivial)))))
 injection h with h; subst h
 exact fun_ok pm pn Go.Proofs.Try.func60 (r0 := vi r386) (ans := [.reg (.n :: .n :: []), .reg (.n :: .n :: .v (vi q0_1) :: .call (vi r386) :: .n :: [])]) (fr := true) (by kernel_rfl) (an (an (ti (ti trivial)) (an e388 trivial)) (ti trivial)) (Wv.refl _)
def arG1_8 (z0 : (Int × Int × (List SGlassPart) × (List SGlassCap))) (z1 : Int) : List Ans := (.v (VV.fn 60 [VV.tp [vi z0.1, vi z0.2.1, VV.tr (List.flatMap c_SGlassPart z0.2.2.1) z0.2.2.1.length, VV.tr (List.flatMap c_SGlassCap z0.2.2.2) z0.2.2.2.length] 0]) :: .n :: .call (vi z1) :: .n :: [])
def nblank_each_api_GlassCap_1_k23_138_l0_0_h (q0_0 : (List SGlassCap)) (q1_0 : (Int × Int × (List SGlassPart) × (List SGlassCap))) (x8 : Int) : VS := ⟨mkA [(1, VV.tp [VV.fn 60 [VV.tp [vi q1_0.1, vi q1_0.2.1, VV.tr (List.flatMap c_SGlassPart q1_0.2.2.1) q1_0.2.2.1.length, VV.tr (List.flatMap c_SGlassCap q1_0.2.2.2) q1_0.2.2.2.length] 0]] 0), (6, VV.tr (List.flatMap c_SGlassCap q0_0) q0_0.length), (7, vi (q0_0.length : Int)), (8, vi x8)], [], .nil⟩
def nblank_each_api_GlassCap_1_k23_138_l0_0_e0 (q0_0 : (List SGlassCap)) (q1_0 : (Int × Int × (List SGlassPart) × (List SGlassCap))) (r : Int) : VS := ⟨mkA [(2, vi r)], [], .nil⟩
def nblank_each_api_GlassCap_1_k23_138_l0_0_e1 (q0_0 : (List SGlassCap)) (q1_0 : (Int × Int × (List SGlassPart) × (List SGlassCap))) (r : Unit) : VS := ⟨mkA [], [], .nil⟩
def nblank_each_api_GlassCap_1_k23_138_l0_0 (k : Nat) (q0_0 : (List SGlassCap)) (q1_0 : (Int × Int × (List SGlassPart) × (List SGlassCap))) : Nat → Int → Option (Sum Int Unit)
  | 0, _ => none
  | fuel + 1, x8 => if x8 < (q0_0.length : Int) then (if 0 ≤ x8 ∧ x8 < (q0_0.length : Int) then ((nblank_CheckGlass_2 k (q0_0.getD x8.toNat default) q1_0.1 q1_0.2.1 q1_0.2.2.1 q1_0.2.2.2).bind fun r436 => (if r436 = 0 then (nblank_each_api_GlassCap_1_k23_138_l0_0 k q0_0 q1_0 fuel (w64 (x8 + 1))) else (some (.inl r436)))) else none) else (some (.inr ()))
theorem nblank_each_api_GlassCap_1_k23_138_l0_0_ok (k : Nat) (q0_0 : (List SGlassCap)) (q1_0 : (Int × Int × (List SGlassPart) × (List SGlassCap))) : ∀ (fuel : Nat) (x8 : Int) (r : Sum Int Unit), nblank_each_api_GlassCap_1_k23_138_l0_0 k q0_0 q1_0 fuel x8 = some r → (match r with | .inl r => VLoop none Go.Proofs.Try.prog (szF Go.Proofs.Try.f87) (bodyOf Go.Proofs.Try.f87 0) (nblank_each_api_GlassCap_1_k23_138_l0_0_h q0_0 q1_0 x8) .ret (nblank_each_api_GlassCap_1_k23_138_l0_0_e0 q0_0 q1_0 r) | .inr r => VLoop none Go.Proofs.Try.prog (szF Go.Proofs.Try.f87) (bodyOf Go.Proofs.Try.f87 0) (nblank_each_api_GlassCap_1_k23_138_l0_0_h q0_0 q1_0 x8) (.exit 0) (nblank_each_api_GlassCap_1_k23_138_l0_0_e1 q0_0 q1_0 r)) := by
 intro fuel
 induction fuel with
 | zero => intro x8 r h; rw [nblank_each_api_GlassCap_1_k23_138_l0_0.eq_1] at h; cases h
 | succ fuel ih =>
  intro x8 r h
  rw [nblank_each_api_GlassCap_1_k23_138_l0_0.eq_2] at h
  rcases ifs h with ⟨h432, h⟩ | ⟨h432, h⟩
  ·obtain ⟨h433, h⟩ := ifn h
   have e434 := (show loadL Go.Proofs.Try.prog 89 (x8.toNat * 5) (List.flatMap c_SGlassCap q0_0) = some (VV.ag (c_SGlassCap (q0_0.getD x8.toNat default))) from ld_whole ag89 c_SGlassCap 5 sz89 len_c_SGlassCap q0_0 default h433 (by omega))
   have e435 := (show loadL Go.Proofs.Try.prog 100 0 [VV.fn 60 [VV.tp [vi q1_0.1, vi q1_0.2.1, VV.tr (List.flatMap c_SGlassPart q1_0.2.2.1) q1_0.2.2.1.length, VV.tr (List.flatMap c_SGlassCap q1_0.2.2.2) q1_0.2.2.2.length] 0]] = some (VV.fn 60 [VV.tp [vi q1_0.1, vi q1_0.2.1, VV.tr (List.flatMap c_SGlassPart q1_0.2.2.1) q1_0.2.2.1.length, VV.tr (List.flatMap c_SGlassCap q1_0.2.2.2) q1_0.2.2.2.length] 0]) from (ld_one ag100 rfl))
   obtain ⟨r436, h437, h⟩ := bs h
   have e438 := (nblank_CheckGlass_2_ok k (q0_0.getD x8.toNat default) q1_0.1 q1_0.2.1 q1_0.2.2.1 q1_0.2.2.2 _ h437)
   rcases ifs h with ⟨h439, h⟩ | ⟨h439, h⟩
   ·have h2 := ih _ _ h
    obtain ⟨q, hv, hq⟩ := pkR (rd := none) (P := Go.Proofs.Try.prog) (fn := Go.Proofs.Try.f87) (k := 0) (s := (nblank_each_api_GlassCap_1_k23_138_l0_0_h q0_0 q1_0 x8)) (ans := [.reg (.n :: []), .br true, .reg (.n :: .v (VV.ag (c_SGlassCap (q0_0.getD x8.toNat default))) :: .n :: .n :: []), .reg (arG1_8 q1_0 r436), .reg (.n :: .n :: []), .br false, .reg (.n :: .n :: [])]) (c := ⟨[(1, none), (6, none), (7, none), (8, none)], [], []⟩) (e := .normal) (s1 := (nblank_each_api_GlassCap_1_k23_138_l0_0_h q0_0 q1_0 (w64 (x8 + 1)))) (an (an (ti trivial) (an (an (decide_eq_true h432) trivial) (an (an (an h433 (an e434 (ti (ti trivial)))) (an (an e435 (ti (an e438 (ti trivial)))) (an (ti (ti trivial)) (an (not_f (decide_eq_true h439)) trivial)))) (ti (ti trivial))))) (ti trivial)) (by kernel_rfl)
    cases r with
    | inl r => exact round_next pm pn hv hq h2
    | inr r =>
     exact round_next pm pn hv hq h2
   ·injection h with h; subst h
    exact round_stop (c := ⟨[(2, none)], [], []⟩) (s1 := (nblank_each_api_GlassCap_1_k23_138_l0_0_e0 q0_0 q1_0 r436)) pm pn (ans := [.reg (.n :: []), .br true, .reg (.n :: .v (VV.ag (c_SGlassCap (q0_0.getD x8.toNat default))) :: .n :: .n :: []), .reg (arG1_8 q1_0 r436), .reg (.n :: .n :: []), .br true, .reg (.n :: .n :: [])]) (by kernel_rfl) (by intro e; cases e) (an (an (ti trivial) (an (an (decide_eq_true h432) trivial) (an (an h433 (an e434 (ti (ti trivial)))) (an (an e435 (ti (an e438 (ti trivial)))) (an (ti (ti trivial)) (an (not_t (decide_eq_false h439)) (an (ti (ti trivial)) trivial))))))) (ti trivial))
  ·injection h with h; subst h
   exact round_stop (c := ⟨[], [], []⟩) (s1 := (nblank_each_api_GlassCap_1_k23_138_l0_0_e1 q0_0 q1_0 ())) pm pn (ans := [.reg (.n :: []), .br false]) (by kernel_rfl) (by intro e; cases e) (an (an (ti trivial) (an (decide_eq_false h432) trivial)) (ti trivial))
def nblank_each_api_GlassCap_1_k23_138 (k : Nat) (q0_0 : (List SGlassCap)) (q1_0 : (Int × Int × (List SGlassPart) × (List SGlassCap))) : Option Int :=
  (nblank_each_api_GlassCap_1_k23_138_l0_0 k q0_0 q1_0 k 0).bind fun r441 => (match r441 with | .inl r442 => (some r442) | .inr r443 => (some 0))
theorem nblank_each_api_GlassCap_1_k23_138_ok (k : Nat) (q0_0 : (List SGlassCap)) (q1_0 : (Int × Int × (List SGlassPart) × (List SGlassCap))) (r : Int) (h : nblank_each_api_GlassCap_1_k23_138 k q0_0 q1_0 = some r) : VC Go.Proofs.Try.prog 87 [VV.tp [VV.tr (List.flatMap c_SGlassCap q0_0) q0_0.length] 0, VV.tp [VV.fn 60 [VV.tp [vi q1_0.1, vi q1_0.2.1, VV.tr (List.flatMap c_SGlassPart q1_0.2.2.1) q1_0.2.2.1.length, VV.tr (List.flatMap c_SGlassCap q1_0.2.2.2) q1_0.2.2.2.length] 0]] 0] (vi r) := by
 unfold nblank_each_api_GlassCap_1_k23_138 at h
 have e415 := (show loadL Go.Proofs.Try.prog 23 0 [VV.tr (List.flatMap c_SGlassCap q0_0) q0_0.length] = some (VV.tr (List.flatMap c_SGlassCap q0_0) q0_0.length) from (ld_one ag23 rfl))
 obtain ⟨r441, h440, h⟩ := bs h
 have hph440 := nblank_each_api_GlassCap_1_k23_138_l0_0_ok k q0_0 q1_0 _ _ _ h440
 cases r441 with
 | inl r442 =>
  dsimp only at h
  have e444 := (an (ti trivial) (VRun.loop hph440))
  injection h with h; subst h
  exact fun_ok pm pn Go.Proofs.Try.func87 (r0 := vi r442) (ans := [.reg (.n :: []), .reg (.v (VV.tr (List.flatMap c_SGlassCap q0_0) q0_0.length) :: .n :: .n :: []), .sub ⟨[(1, none), (6, none), (7, none), (8, none)], [], []⟩ .ret (nblank_each_api_GlassCap_1_k23_138_l0_0_e0 q0_0 q1_0 r442)]) (fr := true) (by kernel_rfl) (an (an (ti trivial) (an (an e415 (ti (ti trivial))) e444)) (ti trivial)) (Wv.refl _)
 | inr r443 =>
  dsimp only at h
  have e445 := (an (ti trivial) (VRun.loop hph440))
  injection h with h; subst h
  exact fun_ok pm pn Go.Proofs.Try.func87 (r0 := vi 0) (ans := [.reg (.n :: []), .reg (.v (VV.tr (List.flatMap c_SGlassCap q0_0) q0_0.length) :: .n :: .n :: []), .sub ⟨[(1, none), (6, none), (7, none), (8, none)], [], []⟩ (.exit 0) (nblank_each_api_GlassCap_1_k23_138_l0_0_e1 q0_0 q1_0 r443), .reg (.n :: [])]) (fr := true) (by kernel_rfl) (an (an (ti trivial) (an (an (an e415 (ti (ti trivial))) e445) (an (ti trivial) trivial))) (ti trivial)) (Wv.refl _)
def nblank_signed (k : Nat) (a0 : Int) (a1 : Bool) : Option Int :=
  if a1 = true then (some (w64 (0 - a0))) else (some a0)
theorem nblank_signed_ok (k : Nat) (a0 : Int) (a1 : Bool) (r : Int) (h : nblank_signed k a0 a1 = some r) : VC Go.Proofs.Try.prog 93 [vi a0, vb a1] (vi r) := by
 unfold nblank_signed at h
 rcases ifs h with ⟨h458, h⟩ | ⟨h458, h⟩
 ·injection h with h; subst h
  exact fun_ok pm pn Go.Proofs.Try.func93 (r0 := vi (w64 (0 - a0))) (ans := [.reg (.n :: []), .reg (.n :: []), .br true, .reg (nN 3 [])]) (fr := true) (by kernel_rfl) (an (an (ti trivial) (an (ti trivial) (an h458 (an (ti (ti (ti trivial))) trivial)))) (ti trivial)) (Wv.refl _)
 ·injection h with h; subst h
  exact fun_ok pm pn Go.Proofs.Try.func93 (r0 := vi a0) (ans := [.reg (.n :: []), .reg (.n :: []), .br false, .reg (.n :: .n :: [])]) (fr := true) (by kernel_rfl) (an (an (ti trivial) (an (an (ti trivial) (an (bool_f h458) trivial)) (an (ti (ti trivial)) trivial))) (ti trivial)) (Wv.refl _)
def nblank_partVolume (k : Nat) (a0 : SGlassPart) : Option Int :=
  (nblank_signed k (w64 ((w64 ((w64 (3 * (w64 ((w64 (a0.Outer * a0.Outer)) - (w64 (a0.Inner * a0.Inner)))))) * (w64 (a0.To - a0.From)))) * (maxI a0.Count 1))) a0.Cut).bind fun r464 => (some r464)
theorem nblank_partVolume_ok (k : Nat) (a0 : SGlassPart) (r : Int) (h : nblank_partVolume k a0 = some r) : VC Go.Proofs.Try.prog 82 [VV.ag (c_SGlassPart a0)] (vi r) := by
 unfold nblank_partVolume at h
 have e463 := (ti (ti (ti (ti (ti (ti (ti (ti (ti (ti (ti (ti (ti (ti (ti (ti (ti (ti (ti trivial)))))))))))))))))))
 obtain ⟨r464, h465, h⟩ := bs h
 have e466 := (nblank_signed_ok k (w64 ((w64 ((w64 (3 * (w64 ((w64 (a0.Outer * a0.Outer)) - (w64 (a0.Inner * a0.Inner)))))) * (w64 (a0.To - a0.From)))) * (maxI a0.Count 1))) a0.Cut _ h465)
 have e467 := (ti (ti (ti (ti (ti (ti (ti (an e466 (ti trivial)))))))))
 injection h with h; subst h
 exact fun_ok pm pn Go.Proofs.Try.func82 (r0 := vi r464) (ans := [.reg (.n :: .n :: []), .reg (nN 19 []), .reg (nN 7 (.call (vi r464) :: .n :: []))]) (fr := true) (by kernel_rfl) (an (an (ti (ti trivial)) (an e463 (an e467 trivial))) (ti trivial)) (Wv.refl _)
def nblank_capVolume (k : Nat) (a0 : SGlassCap) : Option Int :=
  (nblank_signed k (w64 ((w64 ((w64 (4 * a0.Height)) * a0.Height)) * (w64 ((w64 (3 * a0.Radius)) - a0.Height)))) a0.Cut).bind fun r493 => (some r493)
theorem nblank_capVolume_ok (k : Nat) (a0 : SGlassCap) (r : Int) (h : nblank_capVolume k a0 = some r) : VC Go.Proofs.Try.prog 83 [VV.ag (c_SGlassCap a0)] (vi r) := by
 unfold nblank_capVolume at h
 obtain ⟨r493, h494, h⟩ := bs h
 have e495 := (nblank_signed_ok k (w64 ((w64 ((w64 (4 * a0.Height)) * a0.Height)) * (w64 ((w64 (3 * a0.Radius)) - a0.Height)))) a0.Cut _ h494)
 have e496 := (ti (ti (ti (ti (ti (ti (ti (ti (ti (ti (ti (ti (ti (ti (ti (an e495 (ti trivial)))))))))))))))))
 injection h with h; subst h
 exact fun_ok pm pn Go.Proofs.Try.func83 (r0 := vi r493) (ans := [.reg (.n :: .n :: []), .reg (nN 15 (.call (vi r493) :: .n :: []))]) (fr := true) (by kernel_rfl) (an (an (ti (ti trivial)) (an e496 trivial)) (ti trivial)) (Wv.refl _)
def nblank_volumeOf_l0_0_h (a0 : SGlass) (x11 : Int) (x3 : Int) : VS := ⟨mkA [(1, VV.pt 0 0), (3, vi x3), (9, VV.tr (List.flatMap c_SGlassPart a0.Parts) a0.Parts.length), (10, vi (a0.Parts.length : Int)), (11, vi x11)], [some ⟨true, 1, c_SGlass a0⟩], .nil⟩
def nblank_volumeOf_l0_0_e0 (a0 : SGlass) (r : Int) : VS := ⟨mkA [(1, VV.pt 0 0), (3, vi r)], [some ⟨true, 1, c_SGlass a0⟩], .nil⟩
def nblank_volumeOf_l0_0 (k : Nat) (a0 : SGlass) : Nat → Int → Int → Option (Int)
  | 0, _, _ => none
  | fuel + 1, x11, x3 => if x11 < (a0.Parts.length : Int) then (if 0 ≤ x11 ∧ x11 < (a0.Parts.length : Int) then ((nblank_partVolume k (a0.Parts.getD x11.toNat default)).bind fun r530 => (nblank_volumeOf_l0_0 k a0 fuel (w64 (x11 + 1)) (w64 (x3 + r530)))) else none) else (some x3)
theorem nblank_volumeOf_l0_0_ok (k : Nat) (a0 : SGlass) : ∀ (fuel : Nat) (x11 : Int) (x3 : Int) (r : Int), nblank_volumeOf_l0_0 k a0 fuel x11 x3 = some r → (VLoop none Go.Proofs.Try.prog (szF Go.Proofs.Try.f48) (bodyOf Go.Proofs.Try.f48 0) (nblank_volumeOf_l0_0_h a0 x11 x3) (.exit 0) (nblank_volumeOf_l0_0_e0 a0 r)) := by
 intro fuel
 induction fuel with
 | zero => intro x11 x3 r h; rw [nblank_volumeOf_l0_0.eq_1] at h; cases h
 | succ fuel ih =>
  intro x11 x3 r h
  rw [nblank_volumeOf_l0_0.eq_2] at h
  rcases ifs h with ⟨h527, h⟩ | ⟨h527, h⟩
  ·obtain ⟨h528, h⟩ := ifn h
   have e529 := (show loadL Go.Proofs.Try.prog 41 (x11.toNat * 6) (List.flatMap c_SGlassPart a0.Parts) = some (VV.ag (c_SGlassPart (a0.Parts.getD x11.toNat default))) from ld_whole ag41 c_SGlassPart 6 sz41 len_c_SGlassPart a0.Parts default h528 (by omega))
   obtain ⟨r530, h531, h⟩ := bs h
   have e532 := (nblank_partVolume_ok k (a0.Parts.getD x11.toNat default) _ h531)
   have h2 := ih _ _ _ h
   obtain ⟨q, hv, hq⟩ := pkR (rd := none) (P := Go.Proofs.Try.prog) (fn := Go.Proofs.Try.f48) (k := 0) (s := (nblank_volumeOf_l0_0_h a0 x11 x3)) (ans := [.reg (.n :: []), .br true, .reg (.n :: .v (VV.ag (c_SGlassPart (a0.Parts.getD x11.toNat default))) :: .n :: .n :: []), .reg (.n :: .n :: .call (vi r530) :: .n :: .n :: []), .reg (.n :: .n :: [])]) (c := ⟨[(1, none), (3, none), (9, none), (10, none), (11, none)], [none], []⟩) (e := .normal) (s1 := (nblank_volumeOf_l0_0_h a0 (w64 (x11 + 1)) (w64 (x3 + r530)))) (an (an (ti trivial) (an (an (decide_eq_true h527) trivial) (an (an (an h528 (an e529 (ti (ti trivial)))) (ti (ti (an e532 (ti (ti trivial)))))) (ti (ti trivial))))) (ti trivial)) (by kernel_rfl)
   exact round_next pm pn hv hq h2
  ·injection h with h; subst h
   exact round_stop (c := ⟨[(1, none), (3, none)], [none], []⟩) (s1 := (nblank_volumeOf_l0_0_e0 a0 x3)) pm pn (ans := [.reg (.n :: []), .br false]) (by kernel_rfl) (by intro e; cases e) (an (an (ti trivial) (an (decide_eq_false h527) trivial)) (ti trivial))
def nblank_volumeOf_l1_0_h (a0 : SGlass) (x23 : Int) (x3 : Int) : VS := ⟨mkA [(3, vi x3), (21, VV.tr (List.flatMap c_SGlassCap a0.Caps) a0.Caps.length), (22, vi (a0.Caps.length : Int)), (23, vi x23)], [], .nil⟩
def nblank_volumeOf_l1_0_e0 (a0 : SGlass) (r : Int) : VS := ⟨mkA [(3, vi r)], [], .nil⟩
def nblank_volumeOf_l1_0 (k : Nat) (a0 : SGlass) : Nat → Int → Int → Option (Int)
  | 0, _, _ => none
  | fuel + 1, x23, x3 => if x23 < (a0.Caps.length : Int) then (if 0 ≤ x23 ∧ x23 < (a0.Caps.length : Int) then ((nblank_capVolume k (a0.Caps.getD x23.toNat default)).bind fun r551 => (nblank_volumeOf_l1_0 k a0 fuel (w64 (x23 + 1)) (w64 (x3 + r551)))) else none) else (some x3)
theorem nblank_volumeOf_l1_0_ok (k : Nat) (a0 : SGlass) : ∀ (fuel : Nat) (x23 : Int) (x3 : Int) (r : Int), nblank_volumeOf_l1_0 k a0 fuel x23 x3 = some r → (VLoop none Go.Proofs.Try.prog (szF Go.Proofs.Try.f48) (bodyOf Go.Proofs.Try.f48 1) (nblank_volumeOf_l1_0_h a0 x23 x3) (.exit 2) (nblank_volumeOf_l1_0_e0 a0 r)) := by
 intro fuel
 induction fuel with
 | zero => intro x23 x3 r h; rw [nblank_volumeOf_l1_0.eq_1] at h; cases h
 | succ fuel ih =>
  intro x23 x3 r h
  rw [nblank_volumeOf_l1_0.eq_2] at h
  rcases ifs h with ⟨h548, h⟩ | ⟨h548, h⟩
  ·obtain ⟨h549, h⟩ := ifn h
   have e550 := (show loadL Go.Proofs.Try.prog 89 (x23.toNat * 5) (List.flatMap c_SGlassCap a0.Caps) = some (VV.ag (c_SGlassCap (a0.Caps.getD x23.toNat default))) from ld_whole ag89 c_SGlassCap 5 sz89 len_c_SGlassCap a0.Caps default h549 (by omega))
   obtain ⟨r551, h552, h⟩ := bs h
   have e553 := (nblank_capVolume_ok k (a0.Caps.getD x23.toNat default) _ h552)
   have h2 := ih _ _ _ h
   obtain ⟨q, hv, hq⟩ := pkR (rd := none) (P := Go.Proofs.Try.prog) (fn := Go.Proofs.Try.f48) (k := 1) (s := (nblank_volumeOf_l1_0_h a0 x23 x3)) (ans := [.reg (.n :: []), .br true, .reg (.n :: .v (VV.ag (c_SGlassCap (a0.Caps.getD x23.toNat default))) :: .n :: .n :: []), .reg (.n :: .n :: .call (vi r551) :: .n :: .n :: []), .reg (.n :: .n :: [])]) (c := ⟨[(3, none), (21, none), (22, none), (23, none)], [], []⟩) (e := .normal) (s1 := (nblank_volumeOf_l1_0_h a0 (w64 (x23 + 1)) (w64 (x3 + r551)))) (an (an (ti trivial) (an (an (decide_eq_true h548) trivial) (an (an (an h549 (an e550 (ti (ti trivial)))) (ti (ti (an e553 (ti (ti trivial)))))) (ti (ti trivial))))) (ti trivial)) (by kernel_rfl)
   exact round_next pm pn hv hq h2
  ·injection h with h; subst h
   exact round_stop (c := ⟨[(3, none)], [], []⟩) (s1 := (nblank_volumeOf_l1_0_e0 a0 x3)) pm pn (ans := [.reg (.n :: []), .br false]) (by kernel_rfl) (by intro e; cases e) (an (an (ti trivial) (an (decide_eq_false h548) trivial)) (ti trivial))
def nblank_volumeOf (k : Nat) (a0 : SGlass) : Option Int :=
  (nblank_volumeOf_l0_0 k a0 k 0 0).bind fun r534 => ((nblank_volumeOf_l1_0 k a0 k 0 r534).bind fun r555 => (some r555))
theorem nblank_volumeOf_ok (k : Nat) (a0 : SGlass) (r : Int) (h : nblank_volumeOf k a0 = some r) : VC Go.Proofs.Try.prog 48 [VV.ag (c_SGlass a0)] (vi r) := by
 unfold nblank_volumeOf at h
 obtain ⟨r534, h533, h⟩ := bs h
 have hph533 := nblank_volumeOf_l0_0_ok k a0 _ _ _ _ h533
 have e535 := (an (ti trivial) (VRun.loop hph533))
 obtain ⟨r555, h554, h⟩ := bs h
 have hph554 := nblank_volumeOf_l1_0_ok k a0 _ _ _ _ h554
 have e556 := (an (ti trivial) (VRun.loop hph554))
 injection h with h; subst h
 exact fun_ok pm pn Go.Proofs.Try.func48 (r0 := vi r555) (ans := [.reg (.n :: .n :: []), .reg (.n :: []), .reg (nN 4 []), .sub ⟨[(1, none), (3, none), (9, none), (10, none), (11, none)], [none], []⟩ (.exit 0) (nblank_volumeOf_l0_0_e0 a0 r534), .reg (nN 4 []), .sub ⟨[(3, none), (21, none), (22, none), (23, none)], [], []⟩ (.exit 2) (nblank_volumeOf_l1_0_e0 a0 r555), .reg (.n :: .n :: [])]) (fr := true) (by kernel_rfl) (an (an (ti (ti trivial)) (an (ti trivial) (an (an (ti (ti (ti (ti trivial)))) e535) (an (an (ti (ti (ti (ti trivial)))) e556) (an (ti (ti trivial)) trivial))))) (ti trivial)) (Wv.refl _)
theorem eqG1_4 (z0 : Int) (z1 : Int) (z2 : (List SGlassPart)) (z3 : (List SGlassCap)) : [VV.ag (c_SGlass (⟨z0, z1, z2, z3⟩ : SGlass))] = [VV.ag [vi z0, vi z1, VV.tr (List.flatMap c_SGlassPart z2) z2.length, VV.tr (List.flatMap c_SGlassCap z3) z3.length]] := by first | rfl | simp only [unfr_vi, List.map_cons, List.map_nil, un_i, un_tr, List.length_cons, List.length_nil, unfr_c_SGlass, unfr_c_SGlassPart, unfr_c_SGlassCap]
def arG1_9 (z0 : Int) (z1 : Int) (z2 : (List SGlassPart)) (z3 : (List SGlassCap)) (z4 : Int) (z5 : (Bool × Int)) (z6 : Int) : List Ans := (.v (VV.ag [vi z0, vi z1, VV.tr (List.flatMap c_SGlassPart z2) z2.length, VV.tr (List.flatMap c_SGlassCap z3) z3.length]) :: .call (vi z4) :: .n :: .call (VV.fn 85 [VV.tp [vb z5.1] 0, VV.tp [vi z5.2] 0]) :: .call (vi z6) :: .n :: [])
def nblank_CheckGlass_3 (k : Nat) (q0_0 : Int) (q0_1 : Int) (q0_2 : (List SGlassPart)) (q0_3 : (List SGlassCap)) : Option Int :=
  (nblank_volumeOf k (⟨q0_0, q0_1, q0_2, q0_3⟩ : SGlass)).bind fun r568 => ((nblank_need k (decide (0 < r568)) 11).bind fun r571 => ((nblank_need_1 k r571.1 r571.2).bind fun r574 => (some r574)))
theorem nblank_CheckGlass_3_ok (k : Nat) (q0_0 : Int) (q0_1 : Int) (q0_2 : (List SGlassPart)) (q0_3 : (List SGlassCap)) (r : Int) (h : nblank_CheckGlass_3 k q0_0 q0_1 q0_2 q0_3 = some r) : VC Go.Proofs.Try.prog 62 [VV.tp [vi q0_0, vi q0_1, VV.tr (List.flatMap c_SGlassPart q0_2) q0_2.length, VV.tr (List.flatMap c_SGlassCap q0_3) q0_3.length] 0] (vi r) := by
 unfold nblank_CheckGlass_3 at h
 have e567 := (show loadL Go.Proofs.Try.prog 25 0 [vi q0_0, vi q0_1, VV.tr (List.flatMap c_SGlassPart q0_2) q0_2.length, VV.tr (List.flatMap c_SGlassCap q0_3) q0_3.length] = some (VV.ag [vi q0_0, vi q0_1, VV.tr (List.flatMap c_SGlassPart q0_2) q0_2.length, VV.tr (List.flatMap c_SGlassCap q0_3) q0_3.length]) from (ld_all ag25 sz25 rfl))
 obtain ⟨r568, h569, h⟩ := bs h
 have e570 := (VC.args (nblank_volumeOf_ok k (⟨q0_0, q0_1, q0_2, q0_3⟩ : SGlass) _ h569) (eqG1_4 q0_0 q0_1 q0_2 q0_3))
 obtain ⟨r571, h572, h⟩ := bs h
 have e573 := (nblank_need_ok k (decide (0 < r568)) 11 _ h572)
 obtain ⟨r574, h575, h⟩ := bs h
 have e576 := (nblank_need_1_ok k r571.1 r571.2 _ h575)
 have e577 := (an e567 (an e570 (ti (an e573 (an e576 (ti trivial))))))
 injection h with h; subst h
 exact fun_ok pm pn Go.Proofs.Try.func62 (r0 := vi r574) (ans := [.reg (.n :: []), .reg (arG1_9 q0_0 q0_1 q0_2 q0_3 r568 r571 r574)]) (fr := true) (by kernel_rfl) (an (an (ti trivial) (an e577 trivial)) (ti trivial)) (Wv.refl _)
def arG1_10 (z0 : ((Bool × Int) × (Bool × Int) × (Bool × Int) × ((List SGlassPart) × (Int × Int × (List SGlassPart) × (List SGlassCap))) × (Bool × Int) × ((List SGlassCap) × (Int × Int × (List SGlassPart) × (List SGlassCap))) × (Int × Int × (List SGlassPart) × (List SGlassCap)))) : List Ans := (.n :: .v (VV.fn 86 [VV.tp [VV.tr (List.flatMap c_SGlassPart z0.2.2.2.1.1) z0.2.2.2.1.1.length] 0, VV.tp [VV.fn 57 [VV.tp [vi z0.2.2.2.1.2.1, vi z0.2.2.2.1.2.2.1, VV.tr (List.flatMap c_SGlassPart z0.2.2.2.1.2.2.2.1) z0.2.2.2.1.2.2.2.1.length, VV.tr (List.flatMap c_SGlassCap z0.2.2.2.1.2.2.2.2) z0.2.2.2.1.2.2.2.2.length] 0]] 0]) :: .n :: [])
def arG1_11 (z0 : ((Bool × Int) × (Bool × Int) × (Bool × Int) × ((List SGlassPart) × (Int × Int × (List SGlassPart) × (List SGlassCap))) × (Bool × Int) × ((List SGlassCap) × (Int × Int × (List SGlassPart) × (List SGlassCap))) × (Int × Int × (List SGlassPart) × (List SGlassCap)))) : List Ans := (.n :: .v (VV.fn 85 [VV.tp [vb z0.2.2.2.2.1.1] 0, VV.tp [vi z0.2.2.2.2.1.2] 0]) :: .n :: [])
def arG1_12 (z0 : ((Bool × Int) × (Bool × Int) × (Bool × Int) × ((List SGlassPart) × (Int × Int × (List SGlassPart) × (List SGlassCap))) × (Bool × Int) × ((List SGlassCap) × (Int × Int × (List SGlassPart) × (List SGlassCap))) × (Int × Int × (List SGlassPart) × (List SGlassCap)))) : List Ans := (.n :: .v (VV.fn 87 [VV.tp [VV.tr (List.flatMap c_SGlassCap z0.2.2.2.2.2.1.1) z0.2.2.2.2.2.1.1.length] 0, VV.tp [VV.fn 60 [VV.tp [vi z0.2.2.2.2.2.1.2.1, vi z0.2.2.2.2.2.1.2.2.1, VV.tr (List.flatMap c_SGlassPart z0.2.2.2.2.2.1.2.2.2.1) z0.2.2.2.2.2.1.2.2.2.1.length, VV.tr (List.flatMap c_SGlassCap z0.2.2.2.2.2.1.2.2.2.2) z0.2.2.2.2.2.1.2.2.2.2.length] 0]] 0]) :: .n :: [])
def arG1_13 (z0 : ((Bool × Int) × (Bool × Int) × (Bool × Int) × ((List SGlassPart) × (Int × Int × (List SGlassPart) × (List SGlassCap))) × (Bool × Int) × ((List SGlassCap) × (Int × Int × (List SGlassPart) × (List SGlassCap))) × (Int × Int × (List SGlassPart) × (List SGlassCap)))) : List Ans := (.n :: .v (VV.fn 62 [VV.tp [vi z0.2.2.2.2.2.2.1, vi z0.2.2.2.2.2.2.2.1, VV.tr (List.flatMap c_SGlassPart z0.2.2.2.2.2.2.2.2.1) z0.2.2.2.2.2.2.2.2.1.length, VV.tr (List.flatMap c_SGlassCap z0.2.2.2.2.2.2.2.2.2) z0.2.2.2.2.2.2.2.2.2.length] 0]) :: .n :: [])
def nblank_firstOf_c0_141 (k : Nat) (a0 : ((Bool × Int) × (Bool × Int) × (Bool × Int) × ((List SGlassPart) × (Int × Int × (List SGlassPart) × (List SGlassCap))) × (Bool × Int) × ((List SGlassCap) × (Int × Int × (List SGlassPart) × (List SGlassCap))) × (Int × Int × (List SGlassPart) × (List SGlassCap)))) : Option Int :=
  (nblank_need_1 k a0.1.1 a0.1.2).bind fun r584 => (if r584 = 0 then ((nblank_need_1 k a0.2.1.1 a0.2.1.2).bind fun r590 => (if r590 = 0 then ((nblank_need_1 k a0.2.2.1.1 a0.2.2.1.2).bind fun r596 => (if r596 = 0 then ((nblank_each_api_GlassPart_1_k22_136 k a0.2.2.2.1.1 a0.2.2.2.1.2).bind fun r602 => (if r602 = 0 then ((nblank_need_1 k a0.2.2.2.2.1.1 a0.2.2.2.2.1.2).bind fun r608 => (if r608 = 0 then ((nblank_each_api_GlassCap_1_k23_138 k a0.2.2.2.2.2.1.1 a0.2.2.2.2.2.1.2).bind fun r614 => (if r614 = 0 then ((nblank_CheckGlass_3 k a0.2.2.2.2.2.2.1 a0.2.2.2.2.2.2.2.1 a0.2.2.2.2.2.2.2.2.1 a0.2.2.2.2.2.2.2.2.2).bind fun r620 => (if r620 = 0 then (some 0) else (some r620))) else (some r614))) else (some r608))) else (some r602))) else (some r596))) else (some r590))) else (some r584))
theorem nblank_firstOf_c0_141_ok (k : Nat) (a0 : ((Bool × Int) × (Bool × Int) × (Bool × Int) × ((List SGlassPart) × (Int × Int × (List SGlassPart) × (List SGlassCap))) × (Bool × Int) × ((List SGlassCap) × (Int × Int × (List SGlassPart) × (List SGlassCap))) × (Int × Int × (List SGlassPart) × (List SGlassCap)))) (r : Int) (h : nblank_firstOf_c0_141 k a0 = some r) : VC Go.Proofs.Try.prog 53 [VV.tr ([VV.fn 85 [VV.tp [vb a0.1.1] 0, VV.tp [vi a0.1.2] 0], VV.fn 85 [VV.tp [vb a0.2.1.1] 0, VV.tp [vi a0.2.1.2] 0], VV.fn 85 [VV.tp [vb a0.2.2.1.1] 0, VV.tp [vi a0.2.2.1.2] 0], VV.fn 86 [VV.tp [VV.tr (List.flatMap c_SGlassPart a0.2.2.2.1.1) a0.2.2.2.1.1.length] 0, VV.tp [VV.fn 57 [VV.tp [vi a0.2.2.2.1.2.1, vi a0.2.2.2.1.2.2.1, VV.tr (List.flatMap c_SGlassPart a0.2.2.2.1.2.2.2.1) a0.2.2.2.1.2.2.2.1.length, VV.tr (List.flatMap c_SGlassCap a0.2.2.2.1.2.2.2.2) a0.2.2.2.1.2.2.2.2.length] 0]] 0], VV.fn 85 [VV.tp [vb a0.2.2.2.2.1.1] 0, VV.tp [vi a0.2.2.2.2.1.2] 0], VV.fn 87 [VV.tp [VV.tr (List.flatMap c_SGlassCap a0.2.2.2.2.2.1.1) a0.2.2.2.2.2.1.1.length] 0, VV.tp [VV.fn 60 [VV.tp [vi a0.2.2.2.2.2.1.2.1, vi a0.2.2.2.2.2.1.2.2.1, VV.tr (List.flatMap c_SGlassPart a0.2.2.2.2.2.1.2.2.2.1) a0.2.2.2.2.2.1.2.2.2.1.length, VV.tr (List.flatMap c_SGlassCap a0.2.2.2.2.2.1.2.2.2.2) a0.2.2.2.2.2.1.2.2.2.2.length] 0]] 0], VV.fn 62 [VV.tp [vi a0.2.2.2.2.2.2.1, vi a0.2.2.2.2.2.2.2.1, VV.tr (List.flatMap c_SGlassPart a0.2.2.2.2.2.2.2.2.1) a0.2.2.2.2.2.2.2.2.1.length, VV.tr (List.flatMap c_SGlassCap a0.2.2.2.2.2.2.2.2.2) a0.2.2.2.2.2.2.2.2.2.length] 0]]) 7] (vi r) := by
 unfold nblank_firstOf_c0_141 at h
 have e582 := (show (0 : Int) ≤ 0 ∧ (0 : Int) < ((7 : Nat) : Int) from ⟨by decide, by decide⟩)
 have e583 := (show loadL Go.Proofs.Try.prog 92 ((0 : Int).toNat * 1) ([VV.fn 85 [VV.tp [vb a0.1.1] 0, VV.tp [vi a0.1.2] 0], VV.fn 85 [VV.tp [vb a0.2.1.1] 0, VV.tp [vi a0.2.1.2] 0], VV.fn 85 [VV.tp [vb a0.2.2.1.1] 0, VV.tp [vi a0.2.2.1.2] 0], VV.fn 86 [VV.tp [VV.tr (List.flatMap c_SGlassPart a0.2.2.2.1.1) a0.2.2.2.1.1.length] 0, VV.tp [VV.fn 57 [VV.tp [vi a0.2.2.2.1.2.1, vi a0.2.2.2.1.2.2.1, VV.tr (List.flatMap c_SGlassPart a0.2.2.2.1.2.2.2.1) a0.2.2.2.1.2.2.2.1.length, VV.tr (List.flatMap c_SGlassCap a0.2.2.2.1.2.2.2.2) a0.2.2.2.1.2.2.2.2.length] 0]] 0], VV.fn 85 [VV.tp [vb a0.2.2.2.2.1.1] 0, VV.tp [vi a0.2.2.2.2.1.2] 0], VV.fn 87 [VV.tp [VV.tr (List.flatMap c_SGlassCap a0.2.2.2.2.2.1.1) a0.2.2.2.2.2.1.1.length] 0, VV.tp [VV.fn 60 [VV.tp [vi a0.2.2.2.2.2.1.2.1, vi a0.2.2.2.2.2.1.2.2.1, VV.tr (List.flatMap c_SGlassPart a0.2.2.2.2.2.1.2.2.2.1) a0.2.2.2.2.2.1.2.2.2.1.length, VV.tr (List.flatMap c_SGlassCap a0.2.2.2.2.2.1.2.2.2.2) a0.2.2.2.2.2.1.2.2.2.2.length] 0]] 0], VV.fn 62 [VV.tp [vi a0.2.2.2.2.2.2.1, vi a0.2.2.2.2.2.2.2.1, VV.tr (List.flatMap c_SGlassPart a0.2.2.2.2.2.2.2.2.1) a0.2.2.2.2.2.2.2.2.1.length, VV.tr (List.flatMap c_SGlassCap a0.2.2.2.2.2.2.2.2.2) a0.2.2.2.2.2.2.2.2.2.length] 0]]) = some (VV.fn 85 [VV.tp [vb a0.1.1] 0, VV.tp [vi a0.1.2] 0]) from (ld_one ag92 rfl))
 obtain ⟨r584, h585, h⟩ := bs h
 have e586 := (nblank_need_1_ok k a0.1.1 a0.1.2 _ h585)
 rcases ifs h with ⟨h587, h⟩ | ⟨h587, h⟩
 ·have e588 := (show (0 : Int) ≤ 1 ∧ (1 : Int) < ((7 : Nat) : Int) from ⟨by decide, by decide⟩)
  have e589 := (show loadL Go.Proofs.Try.prog 92 ((1 : Int).toNat * 1) ([VV.fn 85 [VV.tp [vb a0.1.1] 0, VV.tp [vi a0.1.2] 0], VV.fn 85 [VV.tp [vb a0.2.1.1] 0, VV.tp [vi a0.2.1.2] 0], VV.fn 85 [VV.tp [vb a0.2.2.1.1] 0, VV.tp [vi a0.2.2.1.2] 0], VV.fn 86 [VV.tp [VV.tr (List.flatMap c_SGlassPart a0.2.2.2.1.1) a0.2.2.2.1.1.length] 0, VV.tp [VV.fn 57 [VV.tp [vi a0.2.2.2.1.2.1, vi a0.2.2.2.1.2.2.1, VV.tr (List.flatMap c_SGlassPart a0.2.2.2.1.2.2.2.1) a0.2.2.2.1.2.2.2.1.length, VV.tr (List.flatMap c_SGlassCap a0.2.2.2.1.2.2.2.2) a0.2.2.2.1.2.2.2.2.length] 0]] 0], VV.fn 85 [VV.tp [vb a0.2.2.2.2.1.1] 0, VV.tp [vi a0.2.2.2.2.1.2] 0], VV.fn 87 [VV.tp [VV.tr (List.flatMap c_SGlassCap a0.2.2.2.2.2.1.1) a0.2.2.2.2.2.1.1.length] 0, VV.tp [VV.fn 60 [VV.tp [vi a0.2.2.2.2.2.1.2.1, vi a0.2.2.2.2.2.1.2.2.1, VV.tr (List.flatMap c_SGlassPart a0.2.2.2.2.2.1.2.2.2.1) a0.2.2.2.2.2.1.2.2.2.1.length, VV.tr (List.flatMap c_SGlassCap a0.2.2.2.2.2.1.2.2.2.2) a0.2.2.2.2.2.1.2.2.2.2.length] 0]] 0], VV.fn 62 [VV.tp [vi a0.2.2.2.2.2.2.1, vi a0.2.2.2.2.2.2.2.1, VV.tr (List.flatMap c_SGlassPart a0.2.2.2.2.2.2.2.2.1) a0.2.2.2.2.2.2.2.2.1.length, VV.tr (List.flatMap c_SGlassCap a0.2.2.2.2.2.2.2.2.2) a0.2.2.2.2.2.2.2.2.2.length] 0]]) = some (VV.fn 85 [VV.tp [vb a0.2.1.1] 0, VV.tp [vi a0.2.1.2] 0]) from (ld_one ag92 rfl))
  obtain ⟨r590, h591, h⟩ := bs h
  have e592 := (nblank_need_1_ok k a0.2.1.1 a0.2.1.2 _ h591)
  rcases ifs h with ⟨h593, h⟩ | ⟨h593, h⟩
  ·have e594 := (show (0 : Int) ≤ 2 ∧ (2 : Int) < ((7 : Nat) : Int) from ⟨by decide, by decide⟩)
   have e595 := (show loadL Go.Proofs.Try.prog 92 ((2 : Int).toNat * 1) ([VV.fn 85 [VV.tp [vb a0.1.1] 0, VV.tp [vi a0.1.2] 0], VV.fn 85 [VV.tp [vb a0.2.1.1] 0, VV.tp [vi a0.2.1.2] 0], VV.fn 85 [VV.tp [vb a0.2.2.1.1] 0, VV.tp [vi a0.2.2.1.2] 0], VV.fn 86 [VV.tp [VV.tr (List.flatMap c_SGlassPart a0.2.2.2.1.1) a0.2.2.2.1.1.length] 0, VV.tp [VV.fn 57 [VV.tp [vi a0.2.2.2.1.2.1, vi a0.2.2.2.1.2.2.1, VV.tr (List.flatMap c_SGlassPart a0.2.2.2.1.2.2.2.1) a0.2.2.2.1.2.2.2.1.length, VV.tr (List.flatMap c_SGlassCap a0.2.2.2.1.2.2.2.2) a0.2.2.2.1.2.2.2.2.length] 0]] 0], VV.fn 85 [VV.tp [vb a0.2.2.2.2.1.1] 0, VV.tp [vi a0.2.2.2.2.1.2] 0], VV.fn 87 [VV.tp [VV.tr (List.flatMap c_SGlassCap a0.2.2.2.2.2.1.1) a0.2.2.2.2.2.1.1.length] 0, VV.tp [VV.fn 60 [VV.tp [vi a0.2.2.2.2.2.1.2.1, vi a0.2.2.2.2.2.1.2.2.1, VV.tr (List.flatMap c_SGlassPart a0.2.2.2.2.2.1.2.2.2.1) a0.2.2.2.2.2.1.2.2.2.1.length, VV.tr (List.flatMap c_SGlassCap a0.2.2.2.2.2.1.2.2.2.2) a0.2.2.2.2.2.1.2.2.2.2.length] 0]] 0], VV.fn 62 [VV.tp [vi a0.2.2.2.2.2.2.1, vi a0.2.2.2.2.2.2.2.1, VV.tr (List.flatMap c_SGlassPart a0.2.2.2.2.2.2.2.2.1) a0.2.2.2.2.2.2.2.2.1.length, VV.tr (List.flatMap c_SGlassCap a0.2.2.2.2.2.2.2.2.2) a0.2.2.2.2.2.2.2.2.2.length] 0]]) = some (VV.fn 85 [VV.tp [vb a0.2.2.1.1] 0, VV.tp [vi a0.2.2.1.2] 0]) from (ld_one ag92 rfl))
   obtain ⟨r596, h597, h⟩ := bs h
   have e598 := (nblank_need_1_ok k a0.2.2.1.1 a0.2.2.1.2 _ h597)
   rcases ifs h with ⟨h599, h⟩ | ⟨h599, h⟩
   ·have e600 := (show (0 : Int) ≤ 3 ∧ (3 : Int) < ((7 : Nat) : Int) from ⟨by decide, by decide⟩)
    have e601 := (show loadL Go.Proofs.Try.prog 92 ((3 : Int).toNat * 1) ([VV.fn 85 [VV.tp [vb a0.1.1] 0, VV.tp [vi a0.1.2] 0], VV.fn 85 [VV.tp [vb a0.2.1.1] 0, VV.tp [vi a0.2.1.2] 0], VV.fn 85 [VV.tp [vb a0.2.2.1.1] 0, VV.tp [vi a0.2.2.1.2] 0], VV.fn 86 [VV.tp [VV.tr (List.flatMap c_SGlassPart a0.2.2.2.1.1) a0.2.2.2.1.1.length] 0, VV.tp [VV.fn 57 [VV.tp [vi a0.2.2.2.1.2.1, vi a0.2.2.2.1.2.2.1, VV.tr (List.flatMap c_SGlassPart a0.2.2.2.1.2.2.2.1) a0.2.2.2.1.2.2.2.1.length, VV.tr (List.flatMap c_SGlassCap a0.2.2.2.1.2.2.2.2) a0.2.2.2.1.2.2.2.2.length] 0]] 0], VV.fn 85 [VV.tp [vb a0.2.2.2.2.1.1] 0, VV.tp [vi a0.2.2.2.2.1.2] 0], VV.fn 87 [VV.tp [VV.tr (List.flatMap c_SGlassCap a0.2.2.2.2.2.1.1) a0.2.2.2.2.2.1.1.length] 0, VV.tp [VV.fn 60 [VV.tp [vi a0.2.2.2.2.2.1.2.1, vi a0.2.2.2.2.2.1.2.2.1, VV.tr (List.flatMap c_SGlassPart a0.2.2.2.2.2.1.2.2.2.1) a0.2.2.2.2.2.1.2.2.2.1.length, VV.tr (List.flatMap c_SGlassCap a0.2.2.2.2.2.1.2.2.2.2) a0.2.2.2.2.2.1.2.2.2.2.length] 0]] 0], VV.fn 62 [VV.tp [vi a0.2.2.2.2.2.2.1, vi a0.2.2.2.2.2.2.2.1, VV.tr (List.flatMap c_SGlassPart a0.2.2.2.2.2.2.2.2.1) a0.2.2.2.2.2.2.2.2.1.length, VV.tr (List.flatMap c_SGlassCap a0.2.2.2.2.2.2.2.2.2) a0.2.2.2.2.2.2.2.2.2.length] 0]]) = some (VV.fn 86 [VV.tp [VV.tr (List.flatMap c_SGlassPart a0.2.2.2.1.1) a0.2.2.2.1.1.length] 0, VV.tp [VV.fn 57 [VV.tp [vi a0.2.2.2.1.2.1, vi a0.2.2.2.1.2.2.1, VV.tr (List.flatMap c_SGlassPart a0.2.2.2.1.2.2.2.1) a0.2.2.2.1.2.2.2.1.length, VV.tr (List.flatMap c_SGlassCap a0.2.2.2.1.2.2.2.2) a0.2.2.2.1.2.2.2.2.length] 0]] 0]) from (ld_one ag92 rfl))
    obtain ⟨r602, h603, h⟩ := bs h
    have e604 := (nblank_each_api_GlassPart_1_k22_136_ok k a0.2.2.2.1.1 a0.2.2.2.1.2 _ h603)
    rcases ifs h with ⟨h605, h⟩ | ⟨h605, h⟩
    ·have e606 := (show (0 : Int) ≤ 4 ∧ (4 : Int) < ((7 : Nat) : Int) from ⟨by decide, by decide⟩)
     have e607 := (show loadL Go.Proofs.Try.prog 92 ((4 : Int).toNat * 1) ([VV.fn 85 [VV.tp [vb a0.1.1] 0, VV.tp [vi a0.1.2] 0], VV.fn 85 [VV.tp [vb a0.2.1.1] 0, VV.tp [vi a0.2.1.2] 0], VV.fn 85 [VV.tp [vb a0.2.2.1.1] 0, VV.tp [vi a0.2.2.1.2] 0], VV.fn 86 [VV.tp [VV.tr (List.flatMap c_SGlassPart a0.2.2.2.1.1) a0.2.2.2.1.1.length] 0, VV.tp [VV.fn 57 [VV.tp [vi a0.2.2.2.1.2.1, vi a0.2.2.2.1.2.2.1, VV.tr (List.flatMap c_SGlassPart a0.2.2.2.1.2.2.2.1) a0.2.2.2.1.2.2.2.1.length, VV.tr (List.flatMap c_SGlassCap a0.2.2.2.1.2.2.2.2) a0.2.2.2.1.2.2.2.2.length] 0]] 0], VV.fn 85 [VV.tp [vb a0.2.2.2.2.1.1] 0, VV.tp [vi a0.2.2.2.2.1.2] 0], VV.fn 87 [VV.tp [VV.tr (List.flatMap c_SGlassCap a0.2.2.2.2.2.1.1) a0.2.2.2.2.2.1.1.length] 0, VV.tp [VV.fn 60 [VV.tp [vi a0.2.2.2.2.2.1.2.1, vi a0.2.2.2.2.2.1.2.2.1, VV.tr (List.flatMap c_SGlassPart a0.2.2.2.2.2.1.2.2.2.1) a0.2.2.2.2.2.1.2.2.2.1.length, VV.tr (List.flatMap c_SGlassCap a0.2.2.2.2.2.1.2.2.2.2) a0.2.2.2.2.2.1.2.2.2.2.length] 0]] 0], VV.fn 62 [VV.tp [vi a0.2.2.2.2.2.2.1, vi a0.2.2.2.2.2.2.2.1, VV.tr (List.flatMap c_SGlassPart a0.2.2.2.2.2.2.2.2.1) a0.2.2.2.2.2.2.2.2.1.length, VV.tr (List.flatMap c_SGlassCap a0.2.2.2.2.2.2.2.2.2) a0.2.2.2.2.2.2.2.2.2.length] 0]]) = some (VV.fn 85 [VV.tp [vb a0.2.2.2.2.1.1] 0, VV.tp [vi a0.2.2.2.2.1.2] 0]) from (ld_one ag92 rfl))
     obtain ⟨r608, h609, h⟩ := bs h
     have e610 := (nblank_need_1_ok k a0.2.2.2.2.1.1 a0.2.2.2.2.1.2 _ h609)
     rcases ifs h with ⟨h611, h⟩ | ⟨h611, h⟩
     ·have e612 := (show (0 : Int) ≤ 5 ∧ (5 : Int) < ((7 : Nat) : Int) from ⟨by decide, by decide⟩)
      have e613 := (show loadL Go.Proofs.Try.prog 92 ((5 : Int).toNat * 1) ([VV.fn 85 [VV.tp [vb a0.1.1] 0, VV.tp [vi a0.1.2] 0], VV.fn 85 [VV.tp [vb a0.2.1.1] 0, VV.tp [vi a0.2.1.2] 0], VV.fn 85 [VV.tp [vb a0.2.2.1.1] 0, VV.tp [vi a0.2.2.1.2] 0], VV.fn 86 [VV.tp [VV.tr (List.flatMap c_SGlassPart a0.2.2.2.1.1) a0.2.2.2.1.1.length] 0, VV.tp [VV.fn 57 [VV.tp [vi a0.2.2.2.1.2.1, vi a0.2.2.2.1.2.2.1, VV.tr (List.flatMap c_SGlassPart a0.2.2.2.1.2.2.2.1) a0.2.2.2.1.2.2.2.1.length, VV.tr (List.flatMap c_SGlassCap a0.2.2.2.1.2.2.2.2) a0.2.2.2.1.2.2.2.2.length] 0]] 0], VV.fn 85 [VV.tp [vb a0.2.2.2.2.1.1] 0, VV.tp [vi a0.2.2.2.2.1.2] 0], VV.fn 87 [VV.tp [VV.tr (List.flatMap c_SGlassCap a0.2.2.2.2.2.1.1) a0.2.2.2.2.2.1.1.length] 0, VV.tp [VV.fn 60 [VV.tp [vi a0.2.2.2.2.2.1.2.1, vi a0.2.2.2.2.2.1.2.2.1, VV.tr (List.flatMap c_SGlassPart a0.2.2.2.2.2.1.2.2.2.1) a0.2.2.2.2.2.1.2.2.2.1.length, VV.tr (List.flatMap c_SGlassCap a0.2.2.2.2.2.1.2.2.2.2) a0.2.2.2.2.2.1.2.2.2.2.length] 0]] 0], VV.fn 62 [VV.tp [vi a0.2.2.2.2.2.2.1, vi a0.2.2.2.2.2.2.2.1, VV.tr (List.flatMap c_SGlassPart a0.2.2.2.2.2.2.2.2.1) a0.2.2.2.2.2.2.2.2.1.length, VV.tr (List.flatMap c_SGlassCap a0.2.2.2.2.2.2.2.2.2) a0.2.2.2.2.2.2.2.2.2.length] 0]]) = some (VV.fn 87 [VV.tp [VV.tr (List.flatMap c_SGlassCap a0.2.2.2.2.2.1.1) a0.2.2.2.2.2.1.1.length] 0, VV.tp [VV.fn 60 [VV.tp [vi a0.2.2.2.2.2.1.2.1, vi a0.2.2.2.2.2.1.2.2.1, VV.tr (List.flatMap c_SGlassPart a0.2.2.2.2.2.1.2.2.2.1) a0.2.2.2.2.2.1.2.2.2.1.length, VV.tr (List.flatMap c_SGlassCap a0.2.2.2.2.2.1.2.2.2.2) a0.2.2.2.2.2.1.2.2.2.2.length] 0]] 0]) from (ld_one ag92 rfl))
      obtain ⟨r614, h615, h⟩ := bs h
      have e616 := (nblank_each_api_GlassCap_1_k23_138_ok k a0.2.2.2.2.2.1.1 a0.2.2.2.2.2.1.2 _ h615)
      rcases ifs h with ⟨h617, h⟩ | ⟨h617, h⟩
      ·have e618 := (show (0 : Int) ≤ 6 ∧ (6 : Int) < ((7 : Nat) : Int) from ⟨by decide, by decide⟩)
       have e619 := (show loadL Go.Proofs.Try.prog 92 ((6 : Int).toNat * 1) ([VV.fn 85 [VV.tp [vb a0.1.1] 0, VV.tp [vi a0.1.2] 0], VV.fn 85 [VV.tp [vb a0.2.1.1] 0, VV.tp [vi a0.2.1.2] 0], VV.fn 85 [VV.tp [vb a0.2.2.1.1] 0, VV.tp [vi a0.2.2.1.2] 0], VV.fn 86 [VV.tp [VV.tr (List.flatMap c_SGlassPart a0.2.2.2.1.1) a0.2.2.2.1.1.length] 0, VV.tp [VV.fn 57 [VV.tp [vi a0.2.2.2.1.2.1, vi a0.2.2.2.1.2.2.1, VV.tr (List.flatMap c_SGlassPart a0.2.2.2.1.2.2.2.1) a0.2.2.2.1.2.2.2.1.length, VV.tr (List.flatMap c_SGlassCap a0.2.2.2.1.2.2.2.2) a0.2.2.2.1.2.2.2.2.length] 0]] 0], VV.fn 85 [VV.tp [vb a0.2.2.2.2.1.1] 0, VV.tp [vi a0.2.2.2.2.1.2] 0], VV.fn 87 [VV.tp [VV.tr (List.flatMap c_SGlassCap a0.2.2.2.2.2.1.1) a0.2.2.2.2.2.1.1.length] 0, VV.tp [VV.fn 60 [VV.tp [vi a0.2.2.2.2.2.1.2.1, vi a0.2.2.2.2.2.1.2.2.1, VV.tr (List.flatMap c_SGlassPart a0.2.2.2.2.2.1.2.2.2.1) a0.2.2.2.2.2.1.2.2.2.1.length, VV.tr (List.flatMap c_SGlassCap a0.2.2.2.2.2.1.2.2.2.2) a0.2.2.2.2.2.1.2.2.2.2.length] 0]] 0], VV.fn 62 [VV.tp [vi a0.2.2.2.2.2.2.1, vi a0.2.2.2.2.2.2.2.1, VV.tr (List.flatMap c_SGlassPart a0.2.2.2.2.2.2.2.2.1) a0.2.2.2.2.2.2.2.2.1.length, VV.tr (List.flatMap c_SGlassCap a0.2.2.2.2.2.2.2.2.2) a0.2.2.2.2.2.2.2.2.2.length] 0]]) = some (VV.fn 62 [VV.tp [vi a0.2.2.2.2.2.2.1, vi a0.2.2.2.2.2.2.2.1, VV.tr (List.flatMap c_SGlassPart a0.2.2.2.2.2.2.2.2.1) a0.2.2.2.2.2.2.2.2.1.length, VV.tr (List.flatMap c_SGlassCap a0.2.2.2.2.2.2.2.2.2) a0.2.2.2.2.2.2.2.2.2.length] 0]) from (ld_one ag92 rfl))
       obtain ⟨r620, h621, h⟩ := bs h
       have e622 := (nblank_CheckGlass_3_ok k a0.2.2.2.2.2.2.1 a0.2.2.2.2.2.2.2.1 a0.2.2.2.2.2.2.2.2.1 a0.2.2.2.2.2.2.2.2.2 _ h621)
       rcases ifs h with ⟨h623, h⟩ | ⟨h623, h⟩
       ·injection h with h; subst h
        exact fun_ok pm pn Go.Proofs.Try.func53 (r0 := vi 0) (ans := [.reg (.n :: []), .reg (nN 3 []), .unr 9, .reg (.n :: []), .br true, .reg (.n :: .v (VV.fn 85 [VV.tp [vb a0.1.1] 0, VV.tp [vi a0.1.2] 0]) :: .n :: []), .reg (.n :: .call (vi r584) :: .n :: []), .reg (.n :: .n :: []), .br false, .reg (.n :: .n :: []), .reg (.n :: []), .br true, .reg (.n :: .v (VV.fn 85 [VV.tp [vb a0.2.1.1] 0, VV.tp [vi a0.2.1.2] 0]) :: .n :: []), .reg (.n :: .call (vi r590) :: .n :: []), .reg (.n :: .n :: []), .br false, .reg (.n :: .n :: []), .reg (.n :: []), .br true, .reg (.n :: .v (VV.fn 85 [VV.tp [vb a0.2.2.1.1] 0, VV.tp [vi a0.2.2.1.2] 0]) :: .n :: []), .reg (.n :: .call (vi r596) :: .n :: []), .reg (.n :: .n :: []), .br false, .reg (.n :: .n :: []), .reg (.n :: []), .br true, .reg (arG1_10 a0), .reg (.n :: .call (vi r602) :: .n :: []), .reg (.n :: .n :: []), .br false, .reg (.n :: .n :: []), .reg (.n :: []), .br true, .reg (arG1_11 a0), .reg (.n :: .call (vi r608) :: .n :: []), .reg (.n :: .n :: []), .br false, .reg (.n :: .n :: []), .reg (.n :: []), .br true, .reg (arG1_12 a0), .reg (.n :: .call (vi r614) :: .n :: []), .reg (.n :: .n :: []), .br false, .reg (.n :: .n :: []), .reg (.n :: []), .br true, .reg (arG1_13 a0), .reg (.n :: .call (vi r620) :: .n :: []), .reg (.n :: .n :: []), .br false, .reg (.n :: .n :: []), .reg (.n :: []), .br false, .reg (.n :: [])]) (fr := true) (by kernel_rfl) (an (an (ti trivial) (an (an (ti (ti (ti trivial))) (an (an (ti trivial) (an (an (show (decide ((0 : Int) < 7)) = true from (decide_eq_true (by decide))) trivial) (an (an (an e582 (an e583 (ti trivial))) (an (ti (an e586 (ti trivial))) (an (ti (ti trivial)) (an (not_f (decide_eq_true h587)) trivial)))) (ti (ti trivial))))) (an (an (ti trivial) (an (an (show (decide ((1 : Int) < 7)) = true from (decide_eq_true (by decide))) trivial) (an (an (an e588 (an e589 (ti trivial))) (an (ti (an e592 (ti trivial))) (an (ti (ti trivial)) (an (not_f (decide_eq_true h593)) trivial)))) (ti (ti trivial))))) (an (an (ti trivial) (an (an (show (decide ((2 : Int) < 7)) = true from (decide_eq_true (by decide))) trivial) (an (an (an e594 (an e595 (ti trivial))) (an (ti (an e598 (ti trivial))) (an (ti (ti trivial)) (an (not_f (decide_eq_true h599)) trivial)))) (ti (ti trivial))))) (an (an (ti trivial) (an (an (show (decide ((3 : Int) < 7)) = true from (decide_eq_true (by decide))) trivial) (an (an (an e600 (an e601 (ti trivial))) (an (ti (an e604 (ti trivial))) (an (ti (ti trivial)) (an (not_f (decide_eq_true h605)) trivial)))) (ti (ti trivial))))) (an (an (ti trivial) (an (an (show (decide ((4 : Int) < 7)) = true from (decide_eq_true (by decide))) trivial) (an (an (an e606 (an e607 (ti trivial))) (an (ti (an e610 (ti trivial))) (an (ti (ti trivial)) (an (not_f (decide_eq_true h611)) trivial)))) (ti (ti trivial))))) (an (an (ti trivial) (an (an (show (decide ((5 : Int) < 7)) = true from (decide_eq_true (by decide))) trivial) (an (an (an e612 (an e613 (ti trivial))) (an (ti (an e616 (ti trivial))) (an (ti (ti trivial)) (an (not_f (decide_eq_true h617)) trivial)))) (ti (ti trivial))))) (an (an (ti trivial) (an (an (show (decide ((6 : Int) < 7)) = true from (decide_eq_true (by decide))) trivial) (an (an (an e618 (an e619 (ti trivial))) (an (ti (an e622 (ti trivial))) (an (ti (ti trivial)) (an (not_f (decide_eq_true h623)) trivial)))) (ti (ti trivial))))) (an (ti trivial) (an (show (decide ((7 : Int) < 7)) = false from (decide_eq_false (by decide))) trivial)))))))))) (an (ti trivial) trivial))) (ti trivial)) (Wv.refl _)
       ·injection h with h; subst h
        exact fun_ok pm pn Go.Proofs.Try.func53 (r0 := vi r620) (ans := [.reg (.n :: []), .reg (nN 3 []), .unr 8, .reg (.n :: []), .br true, .reg (.n :: .v (VV.fn 85 [VV.tp [vb a0.1.1] 0, VV.tp [vi a0.1.2] 0]) :: .n :: []), .reg (.n :: .call (vi r584) :: .n :: []), .reg (.n :: .n :: []), .br false, .reg (.n :: .n :: []), .reg (.n :: []), .br true, .reg (.n :: .v (VV.fn 85 [VV.tp [vb a0.2.1.1] 0, VV.tp [vi a0.2.1.2] 0]) :: .n :: []), .reg (.n :: .call (vi r590) :: .n :: []), .reg (.n :: .n :: []), .br false, .reg (.n :: .n :: []), .reg (.n :: []), .br true, .reg (.n :: .v (VV.fn 85 [VV.tp [vb a0.2.2.1.1] 0, VV.tp [vi a0.2.2.1.2] 0]) :: .n :: []), .reg (.n :: .call (vi r596) :: .n :: []), .reg (.n :: .n :: []), .br false, .reg (.n :: .n :: []), .reg (.n :: []), .br true, .reg (arG1_10 a0), .reg (.n :: .call (vi r602) :: .n :: []), .reg (.n :: .n :: []), .br false, .reg (.n :: .n :: []), .reg (.n :: []), .br true, .reg (arG1_11 a0), .reg (.n :: .call (vi r608) :: .n :: []), .reg (.n :: .n :: []), .br false, .reg (.n :: .n :: []), .reg (.n :: []), .br true, .reg (arG1_12 a0), .reg (.n :: .call (vi r614) :: .n :: []), .reg (.n :: .n :: []), .br false, .reg (.n :: .n :: []), .reg (.n :: []), .br true, .reg (arG1_13 a0), .reg (.n :: .call (vi r620) :: .n :: []), .reg (.n :: .n :: []), .br true, .reg (.n :: .n :: [])]) (fr := true) (by kernel_rfl) (an (an (ti trivial) (an (ti (ti (ti trivial))) (an (an (ti trivial) (an (an (show (decide ((0 : Int) < 7)) = true from (decide_eq_true (by decide))) trivial) (an (an (an e582 (an e583 (ti trivial))) (an (ti (an e586 (ti trivial))) (an (ti (ti trivial)) (an (not_f (decide_eq_true h587)) trivial)))) (ti (ti trivial))))) (an (an (ti trivial) (an (an (show (decide ((1 : Int) < 7)) = true from (decide_eq_true (by decide))) trivial) (an (an (an e588 (an e589 (ti trivial))) (an (ti (an e592 (ti trivial))) (an (ti (ti trivial)) (an (not_f (decide_eq_true h593)) trivial)))) (ti (ti trivial))))) (an (an (ti trivial) (an (an (show (decide ((2 : Int) < 7)) = true from (decide_eq_true (by decide))) trivial) (an (an (an e594 (an e595 (ti trivial))) (an (ti (an e598 (ti trivial))) (an (ti (ti trivial)) (an (not_f (decide_eq_true h599)) trivial)))) (ti (ti trivial))))) (an (an (ti trivial) (an (an (show (decide ((3 : Int) < 7)) = true from (decide_eq_true (by decide))) trivial) (an (an (an e600 (an e601 (ti trivial))) (an (ti (an e604 (ti trivial))) (an (ti (ti trivial)) (an (not_f (decide_eq_true h605)) trivial)))) (ti (ti trivial))))) (an (an (ti trivial) (an (an (show (decide ((4 : Int) < 7)) = true from (decide_eq_true (by decide))) trivial) (an (an (an e606 (an e607 (ti trivial))) (an (ti (an e610 (ti trivial))) (an (ti (ti trivial)) (an (not_f (decide_eq_true h611)) trivial)))) (ti (ti trivial))))) (an (an (ti trivial) (an (an (show (decide ((5 : Int) < 7)) = true from (decide_eq_true (by decide))) trivial) (an (an (an e612 (an e613 (ti trivial))) (an (ti (an e616 (ti trivial))) (an (ti (ti trivial)) (an (not_f (decide_eq_true h617)) trivial)))) (ti (ti trivial))))) (an (ti trivial) (an (an (show (decide ((6 : Int) < 7)) = true from (decide_eq_true (by decide))) trivial) (an (an e618 (an e619 (ti trivial))) (an (ti (an e622 (ti trivial))) (an (ti (ti trivial)) (an (not_t (decide_eq_false h623)) (an (ti (ti trivial)) trivial))))))))))))))) (ti trivial)) (Wv.refl _)
      ·injection h with h; subst h
       exact fun_ok pm pn Go.Proofs.Try.func53 (r0 := vi r614) (ans := [.reg (.n :: []), .reg (nN 3 []), .unr 7, .reg (.n :: []), .br true, .reg (.n :: .v (VV.fn 85 [VV.tp [vb a0.1.1] 0, VV.tp [vi a0.1.2] 0]) :: .n :: []), .reg (.n :: .call (vi r584) :: .n :: []), .reg (.n :: .n :: []), .br false, .reg (.n :: .n :: []), .reg (.n :: []), .br true, .reg (.n :: .v (VV.fn 85 [VV.tp [vb a0.2.1.1] 0, VV.tp [vi a0.2.1.2] 0]) :: .n :: []), .reg (.n :: .call (vi r590) :: .n :: []), .reg (.n :: .n :: []), .br false, .reg (.n :: .n :: []), .reg (.n :: []), .br true, .reg (.n :: .v (VV.fn 85 [VV.tp [vb a0.2.2.1.1] 0, VV.tp [vi a0.2.2.1.2] 0]) :: .n :: []), .reg (.n :: .call (vi r596) :: .n :: []), .reg (.n :: .n :: []), .br false, .reg (.n :: .n :: []), .reg (.n :: []), .br true, .reg (arG1_10 a0), .reg (.n :: .call (vi r602) :: .n :: []), .reg (.n :: .n :: []), .br false, .reg (.n :: .n :: []), .reg (.n :: []), .br true, .reg (arG1_11 a0), .reg (.n :: .call (vi r608) :: .n :: []), .reg (.n :: .n :: []), .br false, .reg (.n :: .n :: []), .reg (.n :: []), .br true, .reg (arG1_12 a0), .reg (.n :: .call (vi r614) :: .n :: []), .reg (.n :: .n :: []), .br true, .reg (.n :: .n :: [])]) (fr := true) (by kernel_rfl) (an (an (ti trivial) (an (ti (ti (ti trivial))) (an (an (ti trivial) (an (an (show (decide ((0 : Int) < 7)) = true from (decide_eq_true (by decide))) trivial) (an (an (an e582 (an e583 (ti trivial))) (an (ti (an e586 (ti trivial))) (an (ti (ti trivial)) (an (not_f (decide_eq_true h587)) trivial)))) (ti (ti trivial))))) (an (an (ti trivial) (an (an (show (decide ((1 : Int) < 7)) = true from (decide_eq_true (by decide))) trivial) (an (an (an e588 (an e589 (ti trivial))) (an (ti (an e592 (ti trivial))) (an (ti (ti trivial)) (an (not_f (decide_eq_true h593)) trivial)))) (ti (ti trivial))))) (an (an (ti trivial) (an (an (show (decide ((2 : Int) < 7)) = true from (decide_eq_true (by decide))) trivial) (an (an (an e594 (an e595 (ti trivial))) (an (ti (an e598 (ti trivial))) (an (ti (ti trivial)) (an (not_f (decide_eq_true h599)) trivial)))) (ti (ti trivial))))) (an (an (ti trivial) (an (an (show (decide ((3 : Int) < 7)) = true from (decide_eq_true (by decide))) trivial) (an (an (an e600 (an e601 (ti trivial))) (an (ti (an e604 (ti trivial))) (an (ti (ti trivial)) (an (not_f (decide_eq_true h605)) trivial)))) (ti (ti trivial))))) (an (an (ti trivial) (an (an (show (decide ((4 : Int) < 7)) = true from (decide_eq_true (by decide))) trivial) (an (an (an e606 (an e607 (ti trivial))) (an (ti (an e610 (ti trivial))) (an (ti (ti trivial)) (an (not_f (decide_eq_true h611)) trivial)))) (ti (ti trivial))))) (an (ti trivial) (an (an (show (decide ((5 : Int) < 7)) = true from (decide_eq_true (by decide))) trivial) (an (an e612 (an e613 (ti trivial))) (an (ti (an e616 (ti trivial))) (an (ti (ti trivial)) (an (not_t (decide_eq_false h617)) (an (ti (ti trivial)) trivial)))))))))))))) (ti trivial)) (Wv.refl _)
     ·injection h with h; subst h
      exact fun_ok pm pn Go.Proofs.Try.func53 (r0 := vi r608) (ans := [.reg (.n :: []), .reg (nN 3 []), .unr 6, .reg (.n :: []), .br true, .reg (.n :: .v (VV.fn 85 [VV.tp [vb a0.1.1] 0, VV.tp [vi a0.1.2] 0]) :: .n :: []), .reg (.n :: .call (vi r584) :: .n :: []), .reg (.n :: .n :: []), .br false, .reg (.n :: .n :: []), .reg (.n :: []), .br true, .reg (.n :: .v (VV.fn 85 [VV.tp [vb a0.2.1.1] 0, VV.tp [vi a0.2.1.2] 0]) :: .n :: []), .reg (.n :: .call (vi r590) :: .n :: []), .reg (.n :: .n :: []), .br false, .reg (.n :: .n :: []), .reg (.n :: []), .br true, .reg (.n :: .v (VV.fn 85 [VV.tp [vb a0.2.2.1.1] 0, VV.tp [vi a0.2.2.1.2] 0]) :: .n :: []), .reg (.n :: .call (vi r596) :: .n :: []), .reg (.n :: .n :: []), .br false, .reg (.n :: .n :: []), .reg (.n :: []), .br true, .reg (arG1_10 a0), .reg (.n :: .call (vi r602) :: .n :: []), .reg (.n :: .n :: []), .br false, .reg (.n :: .n :: []), .reg (.n :: []), .br true, .reg (arG1_11 a0), .reg (.n :: .call (vi r608) :: .n :: []), .reg (.n :: .n :: []), .br true, .reg (.n :: .n :: [])]) (fr := true) (by kernel_rfl) (an (an (ti trivial) (an (ti (ti (ti trivial))) (an (an (ti trivial) (an (an (show (decide ((0 : Int) < 7)) = true from (decide_eq_true (by decide))) trivial) (an (an (an e582 (an e583 (ti trivial))) (an (ti (an e586 (ti trivial))) (an (ti (ti trivial)) (an (not_f (decide_eq_true h587)) trivial)))) (ti (ti trivial))))) (an (an (ti trivial) (an (an (show (decide ((1 : Int) < 7)) = true from (decide_eq_true (by decide))) trivial) (an (an (an e588 (an e589 (ti trivial))) (an (ti (an e592 (ti trivial))) (an (ti (ti trivial)) (an (not_f (decide_eq_true h593)) trivial)))) (ti (ti trivial))))) (an (an (ti trivial) (an (an (show (decide ((2 : Int) < 7)) = true from (decide_eq_true (by decide))) trivial) (an (an (an e594 (an e595 (ti trivial))) (an (ti (an e598 (ti trivial))) (an (ti (ti trivial)) (an (not_f (decide_eq_true h599)) trivial)))) (ti (ti trivial))))) (an (an (ti trivial) (an (an (show (decide ((3 : Int) < 7)) = true from (decide_eq_true (by decide))) trivial) (an (an (an e600 (an e601 (ti trivial))) (an (ti (an e604 (ti trivial))) (an (ti (ti trivial)) (an (not_f (decide_eq_true h605)) trivial)))) (ti (ti trivial))))) (an (ti trivial) (an (an (show (decide ((4 : Int) < 7)) = true from (decide_eq_true (by decide))) trivial) (an (an e606 (an e607 (ti trivial))) (an (ti (an e610 (ti trivial))) (an (ti (ti trivial)) (an (not_t (decide_eq_false h611)) (an (ti (ti trivial)) trivial))))))))))))) (ti trivial)) (Wv.refl _)
    ·injection h with h; subst h
     exact fun_ok pm pn Go.Proofs.Try.func53 (r0 := vi r602) (ans := [.reg (.n :: []), .reg (nN 3 []), .unr 5, .reg (.n :: []), .br true, .reg (.n :: .v (VV.fn 85 [VV.tp [vb a0.1.1] 0, VV.tp [vi a0.1.2] 0]) :: .n :: []), .reg (.n :: .call (vi r584) :: .n :: []), .reg (.n :: .n :: []), .br false, .reg (.n :: .n :: []), .reg (.n :: []), .br true, .reg (.n :: .v (VV.fn 85 [VV.tp [vb a0.2.1.1] 0, VV.tp [vi a0.2.1.2] 0]) :: .n :: []), .reg (.n :: .call (vi r590) :: .n :: []), .reg (.n :: .n :: []), .br false, .reg (.n :: .n :: []), .reg (.n :: []), .br true, .reg (.n :: .v (VV.fn 85 [VV.tp [vb a0.2.2.1.1] 0, VV.tp [vi a0.2.2.1.2] 0]) :: .n :: []), .reg (.n :: .call (vi r596) :: .n :: []), .reg (.n :: .n :: []), .br false, .reg (.n :: .n :: []), .reg (.n :: []), .br true, .reg (arG1_10 a0), .reg (.n :: .call (vi r602) :: .n :: []), .reg (.n :: .n :: []), .br true, .reg (.n :: .n :: [])]) (fr := true) (by kernel_rfl) (an (an (ti trivial) (an (ti (ti (ti trivial))) (an (an (ti trivial) (an (an (show (decide ((0 : Int) < 7)) = true from (decide_eq_true (by decide))) trivial) (an (an (an e582 (an e583 (ti trivial))) (an (ti (an e586 (ti trivial))) (an (ti (ti trivial)) (an (not_f (decide_eq_true h587)) trivial)))) (ti (ti trivial))))) (an (an (ti trivial) (an (an (show (decide ((1 : Int) < 7)) = true from (decide_eq_true (by decide))) trivial) (an (an (an e588 (an e589 (ti trivial))) (an (ti (an e592 (ti trivial))) (an (ti (ti trivial)) (an (not_f (decide_eq_true h593)) trivial)))) (ti (ti trivial))))) (an (an (ti trivial) (an (an (show (decide ((2 : Int) < 7)) = true from (decide_eq_true (by decide))) trivial) (an (an (an e594 (an e595 (ti trivial))) (an (ti (an e598 (ti trivial))) (an (ti (ti trivial)) (an (not_f (decide_eq_true h599)) trivial)))) (ti (ti trivial))))) (an (ti trivial) (an (an (show (decide ((3 : Int) < 7)) = true from (decide_eq_true (by decide))) trivial) (an (an e600 (an e601 (ti trivial))) (an (ti (an e604 (ti trivial))) (an (ti (ti trivial)) (an (not_t (decide_eq_false h605)) (an (ti (ti trivial)) trivial)))))))))))) (ti trivial)) (Wv.refl _)
   ·injection h with h; subst h
    exact fun_ok pm pn Go.Proofs.Try.func53 (r0 := vi r596) (ans := [.reg (.n :: []), .reg (nN 3 []), .unr 4, .reg (.n :: []), .br true, .reg (.n :: .v (VV.fn 85 [VV.tp [vb a0.1.1] 0, VV.tp [vi a0.1.2] 0]) :: .n :: []), .reg (.n :: .call (vi r584) :: .n :: []), .reg (.n :: .n :: []), .br false, .reg (.n :: .n :: []), .reg (.n :: []), .br true, .reg (.n :: .v (VV.fn 85 [VV.tp [vb a0.2.1.1] 0, VV.tp [vi a0.2.1.2] 0]) :: .n :: []), .reg (.n :: .call (vi r590) :: .n :: []), .reg (.n :: .n :: []), .br false, .reg (.n :: .n :: []), .reg (.n :: []), .br true, .reg (.n :: .v (VV.fn 85 [VV.tp [vb a0.2.2.1.1] 0, VV.tp [vi a0.2.2.1.2] 0]) :: .n :: []), .reg (.n :: .call (vi r596) :: .n :: []), .reg (.n :: .n :: []), .br true, .reg (.n :: .n :: [])]) (fr := true) (by kernel_rfl) (an (an (ti trivial) (an (ti (ti (ti trivial))) (an (an (ti trivial) (an (an (show (decide ((0 : Int) < 7)) = true from (decide_eq_true (by decide))) trivial) (an (an (an e582 (an e583 (ti trivial))) (an (ti (an e586 (ti trivial))) (an (ti (ti trivial)) (an (not_f (decide_eq_true h587)) trivial)))) (ti (ti trivial))))) (an (an (ti trivial) (an (an (show (decide ((1 : Int) < 7)) = true from (decide_eq_true (by decide))) trivial) (an (an (an e588 (an e589 (ti trivial))) (an (ti (an e592 (ti trivial))) (an (ti (ti trivial)) (an (not_f (decide_eq_true h593)) trivial)))) (ti (ti trivial))))) (an (ti trivial) (an (an (show (decide ((2 : Int) < 7)) = true from (decide_eq_true (by decide))) trivial) (an (an e594 (an e595 (ti trivial))) (an (ti (an e598 (ti trivial))) (an (ti (ti trivial)) (an (not_t (decide_eq_false h599)) (an (ti (ti trivial)) trivial))))))))))) (ti trivial)) (Wv.refl _)
  ·injection h with h; subst h
   exact fun_ok pm pn Go.Proofs.Try.func53 (r0 := vi r590) (ans := [.reg (.n :: []), .reg (nN 3 []), .unr 3, .reg (.n :: []), .br true, .reg (.n :: .v (VV.fn 85 [VV.tp [vb a0.1.1] 0, VV.tp [vi a0.1.2] 0]) :: .n :: []), .reg (.n :: .call (vi r584) :: .n :: []), .reg (.n :: .n :: []), .br false, .reg (.n :: .n :: []), .reg (.n :: []), .br true, .reg (.n :: .v (VV.fn 85 [VV.tp [vb a0.2.1.1] 0, VV.tp [vi a0.2.1.2] 0]) :: .n :: []), .reg (.n :: .call (vi r590) :: .n :: []), .reg (.n :: .n :: []), .br true, .reg (.n :: .n :: [])]) (fr := true) (by kernel_rfl) (an (an (ti trivial) (an (ti (ti (ti trivial))) (an (an (ti trivial) (an (an (show (decide ((0 : Int) < 7)) = true from (decide_eq_true (by decide))) trivial) (an (an (an e582 (an e583 (ti trivial))) (an (ti (an e586 (ti trivial))) (an (ti (ti trivial)) (an (not_f (decide_eq_true h587)) trivial)))) (ti (ti trivial))))) (an (ti trivial) (an (an (show (decide ((1 : Int) < 7)) = true from (decide_eq_true (by decide))) trivial) (an (an e588 (an e589 (ti trivial))) (an (ti (an e592 (ti trivial))) (an (ti (ti trivial)) (an (not_t (decide_eq_false h593)) (an (ti (ti trivial)) trivial)))))))))) (ti trivial)) (Wv.refl _)
 ·injection h with h; subst h
  exact fun_ok pm pn Go.Proofs.Try.func53 (r0 := vi r584) (ans := [.reg (.n :: []), .reg (nN 3 []), .unr 2, .reg (.n :: []), .br true, .reg (.n :: .v (VV.fn 85 [VV.tp [vb a0.1.1] 0, VV.tp [vi a0.1.2] 0]) :: .n :: []), .reg (.n :: .call (vi r584) :: .n :: []), .reg (.n :: .n :: []), .br true, .reg (.n :: .n :: [])]) (fr := true) (by kernel_rfl) (an (an (ti trivial) (an (ti (ti (ti trivial))) (an (ti trivial) (an (an (show (decide ((0 : Int) < 7)) = true from (decide_eq_true (by decide))) trivial) (an (an e582 (an e583 (ti trivial))) (an (ti (an e586 (ti trivial))) (an (ti (ti trivial)) (an (not_t (decide_eq_false h587)) (an (ti (ti trivial)) trivial))))))))) (ti trivial)) (Wv.refl _)
theorem eqG1_5 (z0 : (Bool × Int)) (z1 : (Bool × Int)) (z2 : (Bool × Int)) (z3 : ((List SGlassPart) × (Int × Int × (List SGlassPart) × (List SGlassCap)))) (z4 : (Bool × Int)) (z5 : ((List SGlassCap) × (Int × Int × (List SGlassPart) × (List SGlassCap)))) (z6 : SGlass) : [VV.tr ([VV.fn 85 [VV.tp [vb (((z0, z1, z2, z3, z4, z5, (z6.Density, z6.Thick, z6.Parts, z6.Caps)).1).1)] 0, VV.tp [vi (((z0, z1, z2, z3, z4, z5, (z6.Density, z6.Thick, z6.Parts, z6.Caps)).1).2)] 0], VV.fn 85 [VV.tp [vb (((z0, z1, z2, z3, z4, z5, (z6.Density, z6.Thick, z6.Parts, z6.Caps)).2.1).1)] 0, VV.tp [vi (((z0, z1, z2, z3, z4, z5, (z6.Density, z6.Thick, z6.Parts, z6.Caps)).2.1).2)] 0], VV.fn 85 [VV.tp [vb (((z0, z1, z2, z3, z4, z5, (z6.Density, z6.Thick, z6.Parts, z6.Caps)).2.2.1).1)] 0, VV.tp [vi (((z0, z1, z2, z3, z4, z5, (z6.Density, z6.Thick, z6.Parts, z6.Caps)).2.2.1).2)] 0], VV.fn 86 [VV.tp [VV.tr (List.flatMap c_SGlassPart (((z0, z1, z2, z3, z4, z5, (z6.Density, z6.Thick, z6.Parts, z6.Caps)).2.2.2.1).1)) ((((z0, z1, z2, z3, z4, z5, (z6.Density, z6.Thick, z6.Parts, z6.Caps)).2.2.2.1).1).length)] 0, VV.tp [VV.fn 57 [VV.tp [vi ((((z0, z1, z2, z3, z4, z5, (z6.Density, z6.Thick, z6.Parts, z6.Caps)).2.2.2.1).2).1), vi ((((z0, z1, z2, z3, z4, z5, (z6.Density, z6.Thick, z6.Parts, z6.Caps)).2.2.2.1).2).2.1), VV.tr (List.flatMap c_SGlassPart ((((z0, z1, z2, z3, z4, z5, (z6.Density, z6.Thick, z6.Parts, z6.Caps)).2.2.2.1).2).2.2.1)) (((((z0, z1, z2, z3, z4, z5, (z6.Density, z6.Thick, z6.Parts, z6.Caps)).2.2.2.1).2).2.2.1).length), VV.tr (List.flatMap c_SGlassCap ((((z0, z1, z2, z3, z4, z5, (z6.Density, z6.Thick, z6.Parts, z6.Caps)).2.2.2.1).2).2.2.2)) (((((z0, z1, z2, z3, z4, z5, (z6.Density, z6.Thick, z6.Parts, z6.Caps)).2.2.2.1).2).2.2.2).length)] 0]] 0], VV.fn 85 [VV.tp [vb (((z0, z1, z2, z3, z4, z5, (z6.Density, z6.Thick, z6.Parts, z6.Caps)).2.2.2.2.1).1)] 0, VV.tp [vi (((z0, z1, z2, z3, z4, z5, (z6.Density, z6.Thick, z6.Parts, z6.Caps)).2.2.2.2.1).2)] 0], VV.fn 87 [VV.tp [VV.tr (List.flatMap c_SGlassCap (((z0, z1, z2, z3, z4, z5, (z6.Density, z6.Thick, z6.Parts, z6.Caps)).2.2.2.2.2.1).1)) ((((z0, z1, z2, z3, z4, z5, (z6.Density, z6.Thick, z6.Parts, z6.Caps)).2.2.2.2.2.1).1).length)] 0, VV.tp [VV.fn 60 [VV.tp [vi ((((z0, z1, z2, z3, z4, z5, (z6.Density, z6.Thick, z6.Parts, z6.Caps)).2.2.2.2.2.1).2).1), vi ((((z0, z1, z2, z3, z4, z5, (z6.Density, z6.Thick, z6.Parts, z6.Caps)).2.2.2.2.2.1).2).2.1), VV.tr (List.flatMap c_SGlassPart ((((z0, z1, z2, z3, z4, z5, (z6.Density, z6.Thick, z6.Parts, z6.Caps)).2.2.2.2.2.1).2).2.2.1)) (((((z0, z1, z2, z3, z4, z5, (z6.Density, z6.Thick, z6.Parts, z6.Caps)).2.2.2.2.2.1).2).2.2.1).length), VV.tr (List.flatMap c_SGlassCap ((((z0, z1, z2, z3, z4, z5, (z6.Density, z6.Thick, z6.Parts, z6.Caps)).2.2.2.2.2.1).2).2.2.2)) (((((z0, z1, z2, z3, z4, z5, (z6.Density, z6.Thick, z6.Parts, z6.Caps)).2.2.2.2.2.1).2).2.2.2).length)] 0]] 0], VV.fn 62 [VV.tp [vi (((z0, z1, z2, z3, z4, z5, (z6.Density, z6.Thick, z6.Parts, z6.Caps)).2.2.2.2.2.2).1), vi (((z0, z1, z2, z3, z4, z5, (z6.Density, z6.Thick, z6.Parts, z6.Caps)).2.2.2.2.2.2).2.1), VV.tr (List.flatMap c_SGlassPart (((z0, z1, z2, z3, z4, z5, (z6.Density, z6.Thick, z6.Parts, z6.Caps)).2.2.2.2.2.2).2.2.1)) ((((z0, z1, z2, z3, z4, z5, (z6.Density, z6.Thick, z6.Parts, z6.Caps)).2.2.2.2.2.2).2.2.1).length), VV.tr (List.flatMap c_SGlassCap (((z0, z1, z2, z3, z4, z5, (z6.Density, z6.Thick, z6.Parts, z6.Caps)).2.2.2.2.2.2).2.2.2)) ((((z0, z1, z2, z3, z4, z5, (z6.Density, z6.Thick, z6.Parts, z6.Caps)).2.2.2.2.2.2).2.2.2).length)] 0]]) 7] = [VV.tr (List.drop 0 (List.map unfr [VV.fn 85 [VV.tp [vb z0.1] 0, VV.tp [vi z0.2] 0], VV.fn 85 [VV.tp [vb z1.1] 0, VV.tp [vi z1.2] 0], VV.fn 85 [VV.tp [vb z2.1] 0, VV.tp [vi z2.2] 0], VV.fn 86 [VV.tp [VV.tr (List.flatMap c_SGlassPart z3.1) z3.1.length] 0, VV.tp [VV.fn 57 [VV.tp [vi z3.2.1, vi z3.2.2.1, VV.tr (List.flatMap c_SGlassPart z3.2.2.2.1) z3.2.2.2.1.length, VV.tr (List.flatMap c_SGlassCap z3.2.2.2.2) z3.2.2.2.2.length] 0]] 0], VV.fn 85 [VV.tp [vb z4.1] 0, VV.tp [vi z4.2] 0], VV.fn 87 [VV.tp [VV.tr (List.flatMap c_SGlassCap z5.1) z5.1.length] 0, VV.tp [VV.fn 60 [VV.tp [vi z5.2.1, vi z5.2.2.1, VV.tr (List.flatMap c_SGlassPart z5.2.2.2.1) z5.2.2.2.1.length, VV.tr (List.flatMap c_SGlassCap z5.2.2.2.2) z5.2.2.2.2.length] 0]] 0], VV.fn 62 [VV.tp [vi z6.Density, vi z6.Thick, VV.tr (List.flatMap c_SGlassPart z6.Parts) z6.Parts.length, VV.tr (List.flatMap c_SGlassCap z6.Caps) z6.Caps.length] 0]])) 7] := by first | rfl | simp only [drop0, unfr_vi, unfr_vb, List.map_cons, List.map_nil, un_i, un_b, un_tr, List.length_map, List.length_cons, List.length_nil, unfr_c_SGlassPart, unfr_c_SGlassCap]
def arG1_14 (z0 : SGlass) (z1 : (Bool × Int)) (z2 : (Bool × Int)) (z3 : (Bool × Int)) (z4 : ((List SGlassPart) × (Int × Int × (List SGlassPart) × (List SGlassCap)))) (z5 : (Bool × Int)) (z6 : ((List SGlassCap) × (Int × Int × (List SGlassPart) × (List SGlassCap)))) (z7 : Int) : List Ans := (.n :: .v (vi z0.Density) :: .call (VV.fn 85 [VV.tp [vb z1.1] 0, VV.tp [vi z1.2] 0]) :: .n :: .v (vi z0.Thick) :: .call (VV.fn 85 [VV.tp [vb z2.1] 0, VV.tp [vi z2.2] 0]) :: .n :: .v (VV.tr (List.flatMap c_SGlassPart z0.Parts) z0.Parts.length) :: .n :: .n :: .call (VV.fn 85 [VV.tp [vb z3.1] 0, VV.tp [vi z3.2] 0]) :: .n :: .v (VV.tr (List.flatMap c_SGlassPart z0.Parts) z0.Parts.length) :: .n :: .call (VV.fn 86 [VV.tp [VV.tr (List.flatMap c_SGlassPart z4.1) z4.1.length] 0, VV.tp [VV.fn 57 [VV.tp [vi z4.2.1, vi z4.2.2.1, VV.tr (List.flatMap c_SGlassPart z4.2.2.2.1) z4.2.2.2.1.length, VV.tr (List.flatMap c_SGlassCap z4.2.2.2.2) z4.2.2.2.2.length] 0]] 0]) :: .n :: .v (VV.tr (List.flatMap c_SGlassCap z0.Caps) z0.Caps.length) :: .n :: .n :: .call (VV.fn 85 [VV.tp [vb z5.1] 0, VV.tp [vi z5.2] 0]) :: .n :: .v (VV.tr (List.flatMap c_SGlassCap z0.Caps) z0.Caps.length) :: .n :: .call (VV.fn 87 [VV.tp [VV.tr (List.flatMap c_SGlassCap z6.1) z6.1.length] 0, VV.tp [VV.fn 60 [VV.tp [vi z6.2.1, vi z6.2.2.1, VV.tr (List.flatMap c_SGlassPart z6.2.2.2.1) z6.2.2.2.1.length, VV.tr (List.flatMap c_SGlassCap z6.2.2.2.2) z6.2.2.2.2.length] 0]] 0]) :: .n :: .n :: .call (vi z7) :: .n :: [])
def nblank_CheckGlass (k : Nat) (a0 : SGlass) : Option Int :=
  (nblank_within k a0.Density 1 10000).bind fun r629 => ((nblank_within k a0.Thick 1 500).bind fun r633 => ((nblank_need k (decide ((a0.Parts.length : Int) ≤ 40)) 8).bind fun r637 => ((nblank_each_api_GlassPart__c1_136 k a0.Parts (a0.Density, a0.Thick, a0.Parts, a0.Caps)).bind fun r641 => ((nblank_need k (decide ((a0.Caps.length : Int) ≤ 4)) 8).bind fun r645 => ((nblank_each_api_GlassCap__c1_138 k a0.Caps (a0.Density, a0.Thick, a0.Parts, a0.Caps)).bind fun r649 => ((nblank_firstOf_c0_141 k (r629, r633, r637, r641, r645, r649, (a0.Density, a0.Thick, a0.Parts, a0.Caps))).bind fun r652 => (some r652)))))))
theorem nblank_CheckGlass_ok (k : Nat) (a0 : SGlass) (r : Int) (h : nblank_CheckGlass k a0 = some r) : VC Go.Proofs.Try.prog 19 [VV.ag (c_SGlass a0)] (vi r) := by
 unfold nblank_CheckGlass at h
 have e628 := (show loadL Go.Proofs.Try.prog 3 0 [vi a0.Density, vi a0.Thick, VV.tr (List.flatMap c_SGlassPart a0.Parts) a0.Parts.length, VV.tr (List.flatMap c_SGlassCap a0.Caps) a0.Caps.length] = some (vi a0.Density) from (ld_one ag3 rfl))
 obtain ⟨r629, h630, h⟩ := bs h
 have e631 := (nblank_within_ok k a0.Density 1 10000 _ h630)
 have e632 := (show loadL Go.Proofs.Try.prog 3 1 [vi a0.Density, vi a0.Thick, VV.tr (List.flatMap c_SGlassPart a0.Parts) a0.Parts.length, VV.tr (List.flatMap c_SGlassCap a0.Caps) a0.Caps.length] = some (vi a0.Thick) from (ld_one ag3 rfl))
 obtain ⟨r633, h634, h⟩ := bs h
 have e635 := (nblank_within_ok k a0.Thick 1 500 _ h634)
 have e636 := (show loadL Go.Proofs.Try.prog 22 2 [vi a0.Density, vi a0.Thick, VV.tr (List.flatMap c_SGlassPart a0.Parts) a0.Parts.length, VV.tr (List.flatMap c_SGlassCap a0.Caps) a0.Caps.length] = some (VV.tr (List.flatMap c_SGlassPart a0.Parts) a0.Parts.length) from (ld_one ag22 rfl))
 obtain ⟨r637, h638, h⟩ := bs h
 have e639 := (nblank_need_ok k (decide ((a0.Parts.length : Int) ≤ 40)) 8 _ h638)
 have e640 := (show loadL Go.Proofs.Try.prog 22 2 [vi a0.Density, vi a0.Thick, VV.tr (List.flatMap c_SGlassPart a0.Parts) a0.Parts.length, VV.tr (List.flatMap c_SGlassCap a0.Caps) a0.Caps.length] = some (VV.tr (List.flatMap c_SGlassPart a0.Parts) a0.Parts.length) from (ld_one ag22 rfl))
 obtain ⟨r641, h642, h⟩ := bs h
 have e643 := (VC.args (nblank_each_api_GlassPart__c1_136_ok k a0.Parts (a0.Density, a0.Thick, a0.Parts, a0.Caps) _ h642) (eqG1_0 a0))
 have e644 := (show loadL Go.Proofs.Try.prog 23 3 [vi a0.Density, vi a0.Thick, VV.tr (List.flatMap c_SGlassPart a0.Parts) a0.Parts.length, VV.tr (List.flatMap c_SGlassCap a0.Caps) a0.Caps.length] = some (VV.tr (List.flatMap c_SGlassCap a0.Caps) a0.Caps.length) from (ld_one ag23 rfl))
 obtain ⟨r645, h646, h⟩ := bs h
 have e647 := (nblank_need_ok k (decide ((a0.Caps.length : Int) ≤ 4)) 8 _ h646)
 have e648 := (show loadL Go.Proofs.Try.prog 23 3 [vi a0.Density, vi a0.Thick, VV.tr (List.flatMap c_SGlassPart a0.Parts) a0.Parts.length, VV.tr (List.flatMap c_SGlassCap a0.Caps) a0.Caps.length] = some (VV.tr (List.flatMap c_SGlassCap a0.Caps) a0.Caps.length) from (ld_one ag23 rfl))
 obtain ⟨r649, h650, h⟩ := bs h
 have e651 := (VC.args (nblank_each_api_GlassCap__c1_138_ok k a0.Caps (a0.Density, a0.Thick, a0.Parts, a0.Caps) _ h650) (eqG1_1 a0))
 obtain ⟨r652, h653, h⟩ := bs h
 have e654 := (VC.args (nblank_firstOf_c0_141_ok k (r629, r633, r637, r641, r645, r649, (a0.Density, a0.Thick, a0.Parts, a0.Caps)) _ h653) (eqG1_5 r629 r633 r637 r641 r645 r649 a0))
 have e655 := (ti (an e628 (an e631 (ti (an e632 (an e635 (ti (an e636 (ti (ti (an e639 (ti (an e640 (ti (an e643 (ti (an e644 (ti (ti (an e647 (ti (an e648 (ti (an e651 (ti (ti (an e654 (ti trivial))))))))))))))))))))))))))))
 injection h with h; subst h
 exact fun_ok pm pn Go.Proofs.Try.func19 (r0 := vi r652) (ans := [.reg (.n :: .n :: []), .frz 0, .reg (arG1_14 a0 r629 r633 r637 r641 r645 r649 r652)]) (fr := true) (by kernel_rfl) (an (an (ti (ti trivial)) (an e655 trivial)) (ti trivial)) (Wv.refl _)
def nblank_Volume (k : Nat) (a0 : SGlass) : Option (Int × Int) :=
  (nblank_CheckGlass k a0).bind fun r663 => (if r663 = 0 then ((nblank_volumeOf k a0).bind fun r667 => (some (r667, 0))) else (some (0, r663)))
theorem nblank_Volume_ok (k : Nat) (a0 : SGlass) (r : (Int × Int)) (h : nblank_Volume k a0 = some r) : VC Go.Proofs.Try.prog 14 [VV.ag (c_SGlass a0)] (VV.tu [vi r.1, vi r.2]) := by
 unfold nblank_Volume at h
 obtain ⟨r663, h664, h⟩ := bs h
 have e665 := (ti (an (nblank_CheckGlass_ok k a0 _ h664) (ti trivial)))
 rcases ifs h with ⟨h666, h⟩ | ⟨h666, h⟩
 ·obtain ⟨r667, h668, h⟩ := bs h
  have e669 := (ti (an (nblank_volumeOf_ok k a0 _ h668) (ti (ti trivial))))
  injection h with h; subst h
  exact fun_ok pm pn Go.Proofs.Try.func14 (r0 := VV.tu [vi r667, vi 0]) (ans := [.reg (nN 3 []), .reg (.n :: .call (vi r663) :: .n :: []), .reg (.n :: .n :: []), .br false, .reg (.n :: .call (vi r667) :: .n :: .n :: [])]) (fr := true) (by kernel_rfl) (an (an (ti (ti (ti trivial))) (an (an e665 (an (ti (ti trivial)) (an (not_f (decide_eq_true h666)) trivial))) (an e669 trivial))) (ti (ti trivial))) (Wv.refl _)
 ·injection h with h; subst h
  exact fun_ok pm pn Go.Proofs.Try.func14 (r0 := VV.tu [vi 0, vi r663]) (ans := [.reg (nN 3 []), .reg (.n :: .call (vi r663) :: .n :: []), .reg (.n :: .n :: []), .br true, .reg (nN 3 [])]) (fr := true) (by kernel_rfl) (an (an (ti (ti (ti trivial))) (an e665 (an (ti (ti trivial)) (an (not_t (decide_eq_false h666)) (an (ti (ti (ti trivial))) trivial))))) (ti (ti trivial))) (Wv.refl _)
theorem eqG1_6 (z0 : Int) (z1 : Int) : VV.ag [vi (w64 ((w64 (z0.tdiv z1)) - 1)), vi (w64 ((w64 (z0.tdiv z1)) + 1))] = VV.ag (c_SRange (⟨w64 ((w64 (z0.tdiv z1)) - 1), w64 ((w64 (z0.tdiv z1)) + 1)⟩ : SRange)) := by first | rfl | simp only [unfr_vi, List.map_cons, List.map_nil, un_i, unfr_c_SRange]
theorem eqG1_7 (z0 : Int) (z1 : Int) : VV.ag [vi (w64 ((w64 (z0.tdiv z1)) - 1)), vi (w64 (z0.tdiv z1))] = VV.ag (c_SRange (⟨w64 ((w64 (z0.tdiv z1)) - 1), w64 (z0.tdiv z1)⟩ : SRange)) := by first | rfl | simp only [unfr_vi, List.map_cons, List.map_nil, un_i, unfr_c_SRange]
theorem eqG1_8 (z0 : Int) (z1 : Int) : VV.ag [vi (w64 (z0.tdiv z1)), vi (w64 ((w64 (z0.tdiv z1)) + 1))] = VV.ag (c_SRange (⟨w64 (z0.tdiv z1), w64 ((w64 (z0.tdiv z1)) + 1)⟩ : SRange)) := by first | rfl | simp only [unfr_vi, List.map_cons, List.map_nil, un_i, unfr_c_SRange]
theorem eqG1_9 (z0 : Int) (z1 : Int) : VV.ag [vi (w64 (z0.tdiv z1)), vi (w64 (z0.tdiv z1))] = VV.ag (c_SRange (⟨w64 (z0.tdiv z1), w64 (z0.tdiv z1)⟩ : SRange)) := by first | rfl | simp only [unfr_vi, List.map_cons, List.map_nil, un_i, unfr_c_SRange]
def nblank_enclose (k : Nat) (a0 : Int) (a1 : Int) : Option SRange :=
  if a1 ≠ 0 then (if (a0.tmod a1) < 0 then (if 0 < (a0.tmod a1) then (some (⟨w64 ((w64 (a0.tdiv a1)) - 1), w64 ((w64 (a0.tdiv a1)) + 1)⟩ : SRange)) else (some (⟨w64 ((w64 (a0.tdiv a1)) - 1), w64 (a0.tdiv a1)⟩ : SRange))) else (if 0 < (a0.tmod a1) then (some (⟨w64 (a0.tdiv a1), w64 ((w64 (a0.tdiv a1)) + 1)⟩ : SRange)) else (some (⟨w64 (a0.tdiv a1), w64 (a0.tdiv a1)⟩ : SRange)))) else none
theorem nblank_enclose_ok (k : Nat) (a0 : Int) (a1 : Int) (r : SRange) (h : nblank_enclose k a0 a1 = some r) : VC Go.Proofs.Try.prog 49 [vi a0, vi a1] (VV.ag (c_SRange r)) := by
 unfold nblank_enclose at h
 obtain ⟨h681, h⟩ := ifn h
 have e682 := (ti (ti (an h681 (ti (ti (an h681 (ti (ti (ti trivial)))))))))
 rcases ifs h with ⟨h683, h⟩ | ⟨h683, h⟩
 ·rcases ifs h with ⟨h684, h⟩ | ⟨h684, h⟩
  ·injection h with h; subst h
   exact fun_ok pm pn Go.Proofs.Try.func49 (r0 := VV.ag [vi (w64 ((w64 (a0.tdiv a1)) - 1)), vi (w64 ((w64 (a0.tdiv a1)) + 1))]) (ans := [.reg (.n :: []), .reg (nN 9 []), .reg (nN 4 []), .br true, .reg (nN 5 []), .reg (nN 4 []), .br true, .reg (nN 5 []), .reg (.n :: .n :: [])]) (fr := true) (by kernel_rfl) (an (an (ti trivial) (an e682 (an (an (ti (ti (an h681 (ti trivial)))) (an (decide_eq_true h683) (ti (ti (ti (ti (ti trivial))))))) (an (an (ti (ti (an h681 (ti trivial)))) (an (decide_eq_true h684) (ti (ti (ti (ti (ti trivial))))))) (an (ti (ti trivial)) trivial))))) (an (ti (ti (ti trivial))) trivial)) (Wv.of_eq (eqG1_6 a0 a1))
  ·injection h with h; subst h
   exact fun_ok pm pn Go.Proofs.Try.func49 (r0 := VV.ag [vi (w64 ((w64 (a0.tdiv a1)) - 1)), vi (w64 (a0.tdiv a1))]) (ans := [.reg (.n :: []), .reg (nN 9 []), .reg (nN 4 []), .br true, .reg (nN 5 []), .reg (nN 4 []), .br false, .reg (.n :: .n :: [])]) (fr := true) (by kernel_rfl) (an (an (ti trivial) (an e682 (an (an (ti (ti (an h681 (ti trivial)))) (an (decide_eq_true h683) (ti (ti (ti (ti (ti trivial))))))) (an (an (ti (ti (an h681 (ti trivial)))) (an (decide_eq_false h684) trivial)) (an (ti (ti trivial)) trivial))))) (an (ti (ti (ti trivial))) trivial)) (Wv.of_eq (eqG1_7 a0 a1))
 ·rcases ifs h with ⟨h685, h⟩ | ⟨h685, h⟩
  ·injection h with h; subst h
   exact fun_ok pm pn Go.Proofs.Try.func49 (r0 := VV.ag [vi (w64 (a0.tdiv a1)), vi (w64 ((w64 (a0.tdiv a1)) + 1))]) (ans := [.reg (.n :: []), .reg (nN 9 []), .reg (nN 4 []), .br false, .reg (nN 4 []), .br true, .reg (nN 5 []), .reg (.n :: .n :: [])]) (fr := true) (by kernel_rfl) (an (an (ti trivial) (an e682 (an (an (ti (ti (an h681 (ti trivial)))) (an (decide_eq_false h683) trivial)) (an (an (ti (ti (an h681 (ti trivial)))) (an (decide_eq_true h685) (ti (ti (ti (ti (ti trivial))))))) (an (ti (ti trivial)) trivial))))) (an (ti (ti (ti trivial))) trivial)) (Wv.of_eq (eqG1_8 a0 a1))
  ·injection h with h; subst h
   exact fun_ok pm pn Go.Proofs.Try.func49 (r0 := VV.ag [vi (w64 (a0.tdiv a1)), vi (w64 (a0.tdiv a1))]) (ans := [.reg (.n :: []), .reg (nN 9 []), .reg (nN 4 []), .br false, .reg (nN 4 []), .br false, .reg (.n :: .n :: [])]) (fr := true) (by kernel_rfl) (an (an (ti trivial) (an e682 (an (an (ti (ti (an h681 (ti trivial)))) (an (decide_eq_false h683) trivial)) (an (an (ti (ti (an h681 (ti trivial)))) (an (decide_eq_false h685) trivial)) (an (ti (ti trivial)) trivial))))) (an (ti (ti (ti trivial))) trivial)) (Wv.of_eq (eqG1_9 a0 a1))
theorem eqG1_10 (z0 : Int) : VV.tu [VV.ag [vi 0, vi 0], vi z0] = VV.tu [VV.ag (c_SRange (⟨0, 0⟩ : SRange)), vi z0] := by first | rfl | simp only [unfr_vi, List.map_cons, List.map_nil, un_i, unfr_c_SRange]
def nblank_Mass (k : Nat) (a0 : SGlass) : Option (SRange × Int) :=
  (nblank_CheckGlass k a0).bind fun r690 => (if r690 = 0 then ((nblank_volumeOf k a0).bind fun r694 => ((nblank_enclose k (w64 (a0.Density * r694)) 1000000000).bind fun r696 => (some (r696, 0)))) else (some ((⟨0, 0⟩ : SRange), r690)))
theorem nblank_Mass_ok (k : Nat) (a0 : SGlass) (r : (SRange × Int)) (h : nblank_Mass k a0 = some r) : VC Go.Proofs.Try.prog 16 [VV.ag (c_SGlass a0)] (VV.tu [VV.ag (c_SRange r.1), vi r.2]) := by
 unfold nblank_Mass at h
 obtain ⟨r690, h691, h⟩ := bs h
 have e692 := (ti (an (nblank_CheckGlass_ok k a0 _ h691) (ti trivial)))
 rcases ifs h with ⟨h693, h⟩ | ⟨h693, h⟩
 ·obtain ⟨r694, h695, h⟩ := bs h
  obtain ⟨r696, h697, h⟩ := bs h
  have e698 := (nblank_enclose_ok k (w64 (a0.Density * r694)) 1000000000 _ h697)
  have e699 := (ti (ti (ti (an (nblank_volumeOf_ok k a0 _ h695) (ti (an e698 (ti (ti trivial))))))))
  injection h with h; subst h
  exact fun_ok pm pn Go.Proofs.Try.func16 (r0 := VV.tu [VV.ag (c_SRange r696), vi 0]) (ans := [.reg (nN 3 []), .reg (.n :: .call (vi r690) :: .n :: []), .reg (.n :: .n :: []), .br false, .reg (nN 3 (.call (vi r694) :: .n :: .call (VV.ag (c_SRange r696)) :: .n :: .n :: []))]) (fr := true) (by kernel_rfl) (an (an (ti (ti (ti trivial))) (an (an e692 (an (ti (ti trivial)) (an (not_f (decide_eq_true h693)) trivial))) (an e699 trivial))) (an (ti (ti (ti trivial))) (ti trivial))) (Wv.refl _)
 ·injection h with h; subst h
  exact fun_ok pm pn Go.Proofs.Try.func16 (r0 := VV.tu [VV.ag [vi 0, vi 0], vi r690]) (ans := [.reg (nN 3 []), .reg (.n :: .call (vi r690) :: .n :: []), .reg (.n :: .n :: []), .br true, .reg (nN 4 [])]) (fr := true) (by kernel_rfl) (an (an (ti (ti (ti trivial))) (an e692 (an (ti (ti trivial)) (an (not_t (decide_eq_false h693)) (an (ti (ti (ti (ti trivial)))) trivial))))) (an (ti (ti (ti trivial))) (ti trivial))) (Wv.of_eq (eqG1_10 r690))
def nblank_capMoment (k : Nat) (a0 : SGlassCap) : Option Int :=
  (nblank_signed k (w64 ((w64 ((w64 ((w64 (2 * a0.Height)) * a0.Height)) * a0.Height)) * (w64 ((w64 (8 * a0.Radius)) - (w64 (3 * a0.Height)))))) a0.Cut).bind fun r741 => ((nblank_capVolume k a0).bind fun r745 => ((nblank_signed k r741 (!a0.Up)).bind fun r747 => (some (w64 ((w64 ((w64 (2 * r745)) * a0.At)) + r747)))))
theorem nblank_capMoment_ok (k : Nat) (a0 : SGlassCap) (r : Int) (h : nblank_capMoment k a0 = some r) : VC Go.Proofs.Try.prog 84 [VV.ag (c_SGlassCap a0)] (vi r) := by
 unfold nblank_capMoment at h
 obtain ⟨r741, h742, h⟩ := bs h
 have e743 := (nblank_signed_ok k (w64 ((w64 ((w64 ((w64 (2 * a0.Height)) * a0.Height)) * a0.Height)) * (w64 ((w64 (8 * a0.Radius)) - (w64 (3 * a0.Height)))))) a0.Cut _ h742)
 have e744 := (ti (ti (ti (ti (ti (ti (ti (ti (ti (ti (ti (ti (ti (ti (ti (ti (ti (ti (ti (an e743 (ti trivial)))))))))))))))))))))
 obtain ⟨r745, h746, h⟩ := bs h
 obtain ⟨r747, h748, h⟩ := bs h
 have e749 := (nblank_signed_ok k r741 (!a0.Up) _ h748)
 have e750 := (ti (an (nblank_capVolume_ok k a0 _ h746) (ti (ti (ti (ti (ti (ti (ti (ti (an e749 (ti (ti trivial)))))))))))))
 injection h with h; subst h
 exact fun_ok pm pn Go.Proofs.Try.func84 (r0 := vi (w64 ((w64 ((w64 (2 * r745)) * a0.At)) + r747))) (ans := [.reg (.n :: .n :: []), .reg (nN 19 (.call (vi r741) :: .n :: [])), .reg (.n :: .call (vi r745) :: nN 8 (.call (vi r747) :: .n :: .n :: []))]) (fr := true) (by kernel_rfl) (an (an (ti (ti trivial)) (an e744 (an e750 trivial))) (ti trivial)) (Wv.refl _)
def nblank_momentOf_l0_0_h (a0 : SGlass) (x11 : Int) (x3 : Int) : VS := ⟨mkA [(1, VV.pt 0 0), (3, vi x3), (9, VV.tr (List.flatMap c_SGlassPart a0.Parts) a0.Parts.length), (10, vi (a0.Parts.length : Int)), (11, vi x11)], [some ⟨true, 1, c_SGlass a0⟩], .nil⟩
def nblank_momentOf_l0_0_e0 (a0 : SGlass) (r : Int) : VS := ⟨mkA [(1, VV.pt 0 0), (3, vi r)], [some ⟨true, 1, c_SGlass a0⟩], .nil⟩
def nblank_momentOf_l0_0 (k : Nat) (a0 : SGlass) : Nat → Int → Int → Option (Int)
  | 0, _, _ => none
  | fuel + 1, x11, x3 => if x11 < (a0.Parts.length : Int) then (if 0 ≤ x11 ∧ x11 < (a0.Parts.length : Int) then ((nblank_partVolume k (a0.Parts.getD x11.toNat default)).bind fun r786 => (nblank_momentOf_l0_0 k a0 fuel (w64 (x11 + 1)) (w64 (x3 + (w64 (r786 * (w64 (((a0.Parts.getD x11.toNat default).From) + ((a0.Parts.getD x11.toNat default).To))))))))) else none) else (some x3)
theorem nblank_momentOf_l0_0_ok (k : Nat) (a0 : SGlass) : ∀ (fuel : Nat) (x11 : Int) (x3 : Int) (r : Int), nblank_momentOf_l0_0 k a0 fuel x11 x3 = some r → (VLoop none Go.Proofs.Try.prog (szF Go.Proofs.Try.f50) (bodyOf Go.Proofs.Try.f50 0) (nblank_momentOf_l0_0_h a0 x11 x3) (.exit 0) (nblank_momentOf_l0_0_e0 a0 r)) := by
 intro fuel
 induction fuel with
 | zero => intro x11 x3 r h; rw [nblank_momentOf_l0_0.eq_1] at h; cases h
 | succ fuel ih =>
  intro x11 x3 r h
  rw [nblank_momentOf_l0_0.eq_2] at h
  rcases ifs h with ⟨h783, h⟩ | ⟨h783, h⟩
  ·obtain ⟨h784, h⟩ := ifn h
   have e785 := (show loadL Go.Proofs.Try.prog 41 (x11.toNat * 6) (List.flatMap c_SGlassPart a0.Parts) = some (VV.ag (c_SGlassPart (a0.Parts.getD x11.toNat default))) from ld_whole ag41 c_SGlassPart 6 sz41 len_c_SGlassPart a0.Parts default h784 (by omega))
   obtain ⟨r786, h787, h⟩ := bs h
   have e788 := (nblank_partVolume_ok k (a0.Parts.getD x11.toNat default) _ h787)
   have e789 := (ti (ti (an e788 (ti (ti (ti (ti (ti (ti (ti (ti trivial)))))))))))
   have h2 := ih _ _ _ h
   obtain ⟨q, hv, hq⟩ := pkR (rd := none) (P := Go.Proofs.Try.prog) (fn := Go.Proofs.Try.f50) (k := 0) (s := (nblank_momentOf_l0_0_h a0 x11 x3)) (ans := [.reg (.n :: []), .br true, .reg (.n :: .v (VV.ag (c_SGlassPart (a0.Parts.getD x11.toNat default))) :: .n :: .n :: []), .reg (.n :: .n :: .call (vi r786) :: nN 8 []), .reg (.n :: .n :: [])]) (c := ⟨[(1, none), (3, none), (9, none), (10, none), (11, none)], [none], []⟩) (e := .normal) (s1 := (nblank_momentOf_l0_0_h a0 (w64 (x11 + 1)) (w64 (x3 + (w64 (r786 * (w64 (((a0.Parts.getD x11.toNat default).From) + ((a0.Parts.getD x11.toNat default).To))))))))) (an (an (ti trivial) (an (an (decide_eq_true h783) trivial) (an (an (an h784 (an e785 (ti (ti trivial)))) e789) (ti (ti trivial))))) (ti trivial)) (by kernel_rfl)
   exact round_next pm pn hv hq h2
  ·injection h with h; subst h
   exact round_stop (c := ⟨[(1, none), (3, none)], [none], []⟩) (s1 := (nblank_momentOf_l0_0_e0 a0 x3)) pm pn (ans := [.reg (.n :: []), .br false]) (by kernel_rfl) (by intro e; cases e) (an (an (ti trivial) (an (decide_eq_false h783) trivial)) (ti trivial))
def nblank_momentOf_l1_0_h (a0 : SGlass) (x29 : Int) (x3 : Int) : VS := ⟨mkA [(3, vi x3), (27, VV.tr (List.flatMap c_SGlassCap a0.Caps) a0.Caps.length), (28, vi (a0.Caps.length : Int)), (29, vi x29)], [], .nil⟩
def nblank_momentOf_l1_0_e0 (a0 : SGlass) (r : Int) : VS := ⟨mkA [(3, vi r)], [], .nil⟩
def nblank_momentOf_l1_0 (k : Nat) (a0 : SGlass) : Nat → Int → Int → Option (Int)
  | 0, _, _ => none
  | fuel + 1, x29, x3 => if x29 < (a0.Caps.length : Int) then (if 0 ≤ x29 ∧ x29 < (a0.Caps.length : Int) then ((nblank_capMoment k (a0.Caps.getD x29.toNat default)).bind fun r808 => (nblank_momentOf_l1_0 k a0 fuel (w64 (x29 + 1)) (w64 (x3 + r808)))) else none) else (some x3)
theorem nblank_momentOf_l1_0_ok (k : Nat) (a0 : SGlass) : ∀ (fuel : Nat) (x29 : Int) (x3 : Int) (r : Int), nblank_momentOf_l1_0 k a0 fuel x29 x3 = some r → (VLoop none Go.Proofs.Try.prog (szF Go.Proofs.Try.f50) (bodyOf Go.Proofs.Try.f50 1) (nblank_momentOf_l1_0_h a0 x29 x3) (.exit 2) (nblank_momentOf_l1_0_e0 a0 r)) := by
 intro fuel
 induction fuel with
 | zero => intro x29 x3 r h; rw [nblank_momentOf_l1_0.eq_1] at h; cases h
 | succ fuel ih =>
  intro x29 x3 r h
  rw [nblank_momentOf_l1_0.eq_2] at h
  rcases ifs h with ⟨h805, h⟩ | ⟨h805, h⟩
  ·obtain ⟨h806, h⟩ := ifn h
   have e807 := (show loadL Go.Proofs.Try.prog 89 (x29.toNat * 5) (List.flatMap c_SGlassCap a0.Caps) = some (VV.ag (c_SGlassCap (a0.Caps.getD x29.toNat default))) from ld_whole ag89 c_SGlassCap 5 sz89 len_c_SGlassCap a0.Caps default h806 (by omega))
   obtain ⟨r808, h809, h⟩ := bs h
   have e810 := (nblank_capMoment_ok k (a0.Caps.getD x29.toNat default) _ h809)
   have h2 := ih _ _ _ h
   obtain ⟨q, hv, hq⟩ := pkR (rd := none) (P := Go.Proofs.Try.prog) (fn := Go.Proofs.Try.f50) (k := 1) (s := (nblank_momentOf_l1_0_h a0 x29 x3)) (ans := [.reg (.n :: []), .br true, .reg (.n :: .v (VV.ag (c_SGlassCap (a0.Caps.getD x29.toNat default))) :: .n :: .n :: []), .reg (.n :: .n :: .call (vi r808) :: .n :: .n :: []), .reg (.n :: .n :: [])]) (c := ⟨[(3, none), (27, none), (28, none), (29, none)], [], []⟩) (e := .normal) (s1 := (nblank_momentOf_l1_0_h a0 (w64 (x29 + 1)) (w64 (x3 + r808)))) (an (an (ti trivial) (an (an (decide_eq_true h805) trivial) (an (an (an h806 (an e807 (ti (ti trivial)))) (ti (ti (an e810 (ti (ti trivial)))))) (ti (ti trivial))))) (ti trivial)) (by kernel_rfl)
   exact round_next pm pn hv hq h2
  ·injection h with h; subst h
   exact round_stop (c := ⟨[(3, none)], [], []⟩) (s1 := (nblank_momentOf_l1_0_e0 a0 x3)) pm pn (ans := [.reg (.n :: []), .br false]) (by kernel_rfl) (by intro e; cases e) (an (an (ti trivial) (an (decide_eq_false h805) trivial)) (ti trivial))
def nblank_momentOf (k : Nat) (a0 : SGlass) : Option Int :=
  (nblank_momentOf_l0_0 k a0 k 0 0).bind fun r791 => ((nblank_momentOf_l1_0 k a0 k 0 r791).bind fun r812 => (some r812))
theorem nblank_momentOf_ok (k : Nat) (a0 : SGlass) (r : Int) (h : nblank_momentOf k a0 = some r) : VC Go.Proofs.Try.prog 50 [VV.ag (c_SGlass a0)] (vi r) := by
 unfold nblank_momentOf at h
 obtain ⟨r791, h790, h⟩ := bs h
 have hph790 := nblank_momentOf_l0_0_ok k a0 _ _ _ _ h790
 have e792 := (an (ti trivial) (VRun.loop hph790))
 obtain ⟨r812, h811, h⟩ := bs h
 have hph811 := nblank_momentOf_l1_0_ok k a0 _ _ _ _ h811
 have e813 := (an (ti trivial) (VRun.loop hph811))
 injection h with h; subst h
 exact fun_ok pm pn Go.Proofs.Try.func50 (r0 := vi r812) (ans := [.reg (.n :: .n :: []), .reg (.n :: []), .reg (nN 4 []), .sub ⟨[(1, none), (3, none), (9, none), (10, none), (11, none)], [none], []⟩ (.exit 0) (nblank_momentOf_l0_0_e0 a0 r791), .reg (nN 4 []), .sub ⟨[(3, none), (27, none), (28, none), (29, none)], [], []⟩ (.exit 2) (nblank_momentOf_l1_0_e0 a0 r812), .reg (.n :: .n :: [])]) (fr := true) (by kernel_rfl) (an (an (ti (ti trivial)) (an (ti trivial) (an (an (ti (ti (ti (ti trivial)))) e792) (an (an (ti (ti (ti (ti trivial)))) e813) (an (ti (ti trivial)) trivial))))) (ti trivial)) (Wv.refl _)
def arG1_15 (z0 : Int) (z1 : Int) (z2 : SRange) : List Ans := (.n :: .call (vi z0) :: .n :: .n :: .call (vi z1) :: .n :: .call (VV.ag (c_SRange z2)) :: .n :: .n :: [])
def nblank_Centre (k : Nat) (a0 : SGlass) : Option (SRange × Int) :=
  (nblank_CheckGlass k a0).bind fun r822 => (if r822 = 0 then ((nblank_momentOf k a0).bind fun r826 => ((nblank_volumeOf k a0).bind fun r828 => ((nblank_enclose k (w64 (1000 * r826)) (w64 (2 * r828))).bind fun r830 => (some (r830, 0))))) else (some ((⟨0, 0⟩ : SRange), r822)))
theorem nblank_Centre_ok (k : Nat) (a0 : SGlass) (r : (SRange × Int)) (h : nblank_Centre k a0 = some r) : VC Go.Proofs.Try.prog 17 [VV.ag (c_SGlass a0)] (VV.tu [VV.ag (c_SRange r.1), vi r.2]) := by
 unfold nblank_Centre at h
 obtain ⟨r822, h823, h⟩ := bs h
 have e824 := (ti (an (nblank_CheckGlass_ok k a0 _ h823) (ti trivial)))
 rcases ifs h with ⟨h825, h⟩ | ⟨h825, h⟩
 ·obtain ⟨r826, h827, h⟩ := bs h
  obtain ⟨r828, h829, h⟩ := bs h
  obtain ⟨r830, h831, h⟩ := bs h
  have e832 := (nblank_enclose_ok k (w64 (1000 * r826)) (w64 (2 * r828)) _ h831)
  have e833 := (ti (an (nblank_momentOf_ok k a0 _ h827) (ti (ti (an (nblank_volumeOf_ok k a0 _ h829) (ti (an e832 (ti (ti trivial)))))))))
  injection h with h; subst h
  exact fun_ok pm pn Go.Proofs.Try.func17 (r0 := VV.tu [VV.ag (c_SRange r830), vi 0]) (ans := [.reg (nN 3 []), .reg (.n :: .call (vi r822) :: .n :: []), .reg (.n :: .n :: []), .br false, .reg (arG1_15 r826 r828 r830)]) (fr := true) (by kernel_rfl) (an (an (ti (ti (ti trivial))) (an (an e824 (an (ti (ti trivial)) (an (not_f (decide_eq_true h825)) trivial))) (an e833 trivial))) (an (ti (ti (ti trivial))) (ti trivial))) (Wv.refl _)
 ·injection h with h; subst h
  exact fun_ok pm pn Go.Proofs.Try.func17 (r0 := VV.tu [VV.ag [vi 0, vi 0], vi r822]) (ans := [.reg (nN 3 []), .reg (.n :: .call (vi r822) :: .n :: []), .reg (.n :: .n :: []), .br true, .reg (nN 4 [])]) (fr := true) (by kernel_rfl) (an (an (ti (ti (ti trivial))) (an e824 (an (ti (ti trivial)) (an (not_t (decide_eq_false h825)) (an (ti (ti (ti (ti trivial)))) trivial))))) (an (ti (ti (ti trivial))) (ti trivial))) (Wv.of_eq (eqG1_10 r822))
def nspeculumbase_Within (k : Nat) (a0 : Int) (a1 : Int) (a2 : Int) : Option Bool :=
  if a1 ≤ a0 then (some (decide (a0 ≤ a2))) else (some false)
theorem nspeculumbase_Within_ok (k : Nat) (a0 : Int) (a1 : Int) (a2 : Int) (r : Bool) (h : nspeculumbase_Within k a0 a1 a2 = some r) : VC Go.Proofs.Try.prog 30 [vi a0, vi a1, vi a2] (vb r) := by
 unfold nspeculumbase_Within at h
 rcases ifs h with ⟨h837, h⟩ | ⟨h837, h⟩
 ·have e838 := (ti (ti (ti (ti (an (an (decide_eq_true h837) trivial) (an (an (decide_eq_true h837) trivial) (an (an (decide_eq_true h837) trivial) (an (decide_eq_true h837) (ti trivial)))))))))
  injection h with h; subst h
  exact fun_ok pm pn Go.Proofs.Try.func30 (r0 := vb (decide (a0 ≤ a2))) (ans := [.reg (.n :: []), .reg (nN 7 (.b true :: .n :: []))]) (fr := true) (by kernel_rfl) (an (an (ti trivial) (an e838 trivial)) (ti trivial)) (Wv.refl _)
 ·have e839 := (ti (ti (ti (ti (an (decide_eq_false h837) (an (decide_eq_false h837) (an (decide_eq_false h837) (an (decide_eq_false h837) (ti trivial)))))))))
  injection h with h; subst h
  exact fun_ok pm pn Go.Proofs.Try.func30 (r0 := vb false) (ans := [.reg (.n :: []), .reg (nN 4 (nS 3 (.b false :: .n :: [])))]) (fr := true) (by kernel_rfl) (an (an (ti trivial) (an e839 trivial)) (ti trivial)) (Wv.refl _)
def arG1_16 (z0 : Bool) (z1 : Bool) (z2 : Bool) (z3 : Bool) (z4 : Bool) : List Ans := (.n :: .n :: .call (vb z0) :: nN 7 (.call (vb z1) :: .n :: .b false :: nN 4 (.call (vb z2) :: .n :: .b false :: nN 4 (.call (vb z3) :: .n :: .b false :: nN 3 (.call (vb z4) :: .n :: .b false :: [])))))
def arG1_17 (z0 : Bool) (z1 : Bool) (z2 : Bool) (z3 : Bool) : List Ans := (.n :: .n :: .call (vb z0) :: nN 7 (.call (vb z1) :: .n :: .b false :: nN 4 (.call (vb z2) :: .n :: .b false :: nN 4 (.call (vb z3) :: .n :: .b false :: .n :: nS 4 (.b true :: [])))))
def arG1_18 (z0 : Bool) (z1 : Bool) (z2 : Bool) : List Ans := (.n :: .n :: .call (vb z0) :: nN 7 (.call (vb z1) :: .n :: .b false :: nN 4 (.call (vb z2) :: .n :: .b false :: .n :: nS 5 (.b true :: .n :: nS 4 (.b true :: [])))))
def arG1_19 (z0 : Bool) (z1 : Bool) : List Ans := (.n :: .n :: .call (vb z0) :: nN 7 (.call (vb z1) :: .n :: .b false :: .n :: nS 5 (.b true :: .n :: nS 5 (.b true :: .n :: nS 4 (.b true :: [])))))
def arG1_20 (z0 : Bool) : List Ans := (.n :: .n :: .call (vb z0) :: .n :: .n :: nS 7 (.b true :: .n :: nS 5 (.b true :: .n :: nS 5 (.b true :: .n :: nS 4 (.b true :: [])))))
def nspeculumref03_checkPart (k : Nat) (a0 : SGlassPart) (a1 : Int) : Option Int :=
  (nspeculumbase_Within k a0.Outer 1 1000).bind fun r886 => (if r886 = true then ((nspeculumbase_Within k a0.Inner 0 (w64 (a0.Outer - 1))).bind fun r890 => (if r890 = true then ((nspeculumbase_Within k a0.From 0 a1).bind fun r894 => (if r894 = true then ((nspeculumbase_Within k a0.To 0 a1).bind fun r898 => (if r898 = true then ((nspeculumbase_Within k a0.Count 0 100).bind fun r902 => (if r902 = true then (if a0.To ≤ a0.From then (some 9) else (if a0.Count = 0 then (some 0) else (if a0.Inner = 0 then (some 0) else (some 3)))) else (some 2))) else (some 2))) else (some 2))) else (some 2))) else (some 2))
theorem nspeculumref03_checkPart_ok (k : Nat) (a0 : SGlassPart) (a1 : Int) (r : Int) (h : nspeculumref03_checkPart k a0 a1 = some r) : VC Go.Proofs.Try.prog 51 [VV.ag (c_SGlassPart a0), vi a1] (vi r) := by
 unfold nspeculumref03_checkPart at h
 obtain ⟨r886, h887, h⟩ := bs h
 have e888 := (nspeculumbase_Within_ok k a0.Outer 1 1000 _ h887)
 rcases ifs h with ⟨h889, h⟩ | ⟨h889, h⟩
 ·obtain ⟨r890, h891, h⟩ := bs h
  have e892 := (an (not_f h889) (nspeculumbase_Within_ok k a0.Inner 0 (w64 (a0.Outer - 1)) _ h891))
  rcases ifs h with ⟨h893, h⟩ | ⟨h893, h⟩
  ·obtain ⟨r894, h895, h⟩ := bs h
   have e896 := (an (not_f h893) (nspeculumbase_Within_ok k a0.From 0 a1 _ h895))
   rcases ifs h with ⟨h897, h⟩ | ⟨h897, h⟩
   ·obtain ⟨r898, h899, h⟩ := bs h
    have e900 := (an (not_f h897) (nspeculumbase_Within_ok k a0.To 0 a1 _ h899))
    rcases ifs h with ⟨h901, h⟩ | ⟨h901, h⟩
    ·obtain ⟨r902, h903, h⟩ := bs h
     have e904 := (an (not_f h901) (nspeculumbase_Within_ok k a0.Count 0 100 _ h903))
     have e905 := (ti (ti (an e888 (ti (ti (an (an (not_f h889) trivial) (an (an (not_f h889) trivial) (an (an (not_f h889) trivial) (an (an (not_f h889) trivial) (an (an (not_f h889) trivial) (an e892 (an (an (not_f h889) trivial) (an (not_f h889) (ti (an (an (not_f h893) trivial) (an (an (not_f h893) trivial) (an (an (not_f h893) trivial) (an e896 (an (an (not_f h893) trivial) (an (not_f h893) (ti (an (an (not_f h897) trivial) (an (an (not_f h897) trivial) (an (an (not_f h897) trivial) (an e900 (an (an (not_f h897) trivial) (an (not_f h897) (ti (an (an (not_f h901) trivial) (an (an (not_f h901) trivial) (an e904 (an (an (not_f h901) trivial) (an (not_f h901) trivial)))))))))))))))))))))))))))))))))
     rcases ifs h with ⟨h906, h⟩ | ⟨h906, h⟩
     ·rcases ifs h with ⟨h907, h⟩ | ⟨h907, h⟩
      ·injection h with h; subst h
       exact fun_ok pm pn Go.Proofs.Try.func51 (r0 := vi 9) (ans := [.reg (.n :: .n :: []), .reg (arG1_16 r886 r890 r894 r898 r902), .br false, .reg (nN 5 []), .br true, .reg (.n :: [])]) (fr := true) (by kernel_rfl) (an (an (ti (ti trivial)) (an (an e905 (an (not_f h906) trivial)) (an (ti (ti (ti (ti (ti trivial))))) (an (decide_eq_true h907) (an (ti trivial) trivial))))) (ti trivial)) (Wv.refl _)
      ·rcases ifs h with ⟨h908, h⟩ | ⟨h908, h⟩
       ·have e909 := (ti (ti (ti (ti (an (not_f (decide_eq_true h908)) (an (not_f (decide_eq_true h908)) (an (not_f (decide_eq_true h908)) (an (not_f (decide_eq_true h908)) trivial))))))))
        injection h with h; subst h
        exact fun_ok pm pn Go.Proofs.Try.func51 (r0 := vi 0) (ans := [.reg (.n :: .n :: []), .reg (arG1_16 r886 r890 r894 r898 r902), .br false, .reg (nN 5 []), .br false, .reg (nN 4 (nS 3 (.b false :: []))), .br false, .reg (.n :: [])]) (fr := true) (by kernel_rfl) (an (an (ti (ti trivial)) (an (an e905 (an (not_f h906) trivial)) (an (an (ti (ti (ti (ti (ti trivial))))) (an (decide_eq_false h907) trivial)) (an (an e909 (an rf trivial)) (an (ti trivial) trivial))))) (ti trivial)) (Wv.refl _)
       ·have e910 := (an (not_t (decide_eq_false h908)) trivial)
        have e911 := (an (not_t (decide_eq_false h908)) trivial)
        have e912 := (an (not_t (decide_eq_false h908)) trivial)
        have e913 := (ti (ti (ti (ti (an e910 (an e911 (an e912 (an (not_t (decide_eq_false h908)) trivial))))))))
        rcases ifs h with ⟨h914, h⟩ | ⟨h914, h⟩
        ·injection h with h; subst h
         exact fun_ok pm pn Go.Proofs.Try.func51 (r0 := vi 0) (ans := [.reg (.n :: .n :: []), .reg (arG1_16 r886 r890 r894 r898 r902), .br false, .reg (nN 5 []), .br false, .reg (nN 7 (.b true :: [])), .br false, .reg (.n :: [])]) (fr := true) (by kernel_rfl) (an (an (ti (ti trivial)) (an (an e905 (an (not_f h906) trivial)) (an (an (ti (ti (ti (ti (ti trivial))))) (an (decide_eq_false h907) trivial)) (an (an e913 (an (not_f (decide_eq_true h914)) trivial)) (an (ti trivial) trivial))))) (ti trivial)) (Wv.refl _)
        ·injection h with h; subst h
         exact fun_ok pm pn Go.Proofs.Try.func51 (r0 := vi 3) (ans := [.reg (.n :: .n :: []), .reg (arG1_16 r886 r890 r894 r898 r902), .br false, .reg (nN 5 []), .br false, .reg (nN 7 (.b true :: [])), .br true, .reg (.n :: [])]) (fr := true) (by kernel_rfl) (an (an (ti (ti trivial)) (an (an e905 (an (not_f h906) trivial)) (an (an (ti (ti (ti (ti (ti trivial))))) (an (decide_eq_false h907) trivial)) (an e913 (an (not_t (decide_eq_false h914)) (an (ti trivial) trivial)))))) (ti trivial)) (Wv.refl _)
     ·injection h with h; subst h
      exact fun_ok pm pn Go.Proofs.Try.func51 (r0 := vi 2) (ans := [.reg (.n :: .n :: []), .reg (arG1_16 r886 r890 r894 r898 r902), .br true, .reg (.n :: [])]) (fr := true) (by kernel_rfl) (an (an (ti (ti trivial)) (an e905 (an (not_t (bool_f h906)) (an (ti trivial) trivial)))) (ti trivial)) (Wv.refl _)
    ·have e915 := (ti (ti (an e888 (ti (ti (an (an (not_f h889) trivial) (an (an (not_f h889) trivial) (an (an (not_f h889) trivial) (an (an (not_f h889) trivial) (an (an (not_f h889) trivial) (an e892 (an (an (not_f h889) trivial) (an (not_f h889) (ti (an (an (not_f h893) trivial) (an (an (not_f h893) trivial) (an (an (not_f h893) trivial) (an e896 (an (an (not_f h893) trivial) (an (not_f h893) (ti (an (an (not_f h897) trivial) (an (an (not_f h897) trivial) (an (an (not_f h897) trivial) (an e900 (an (an (not_f h897) trivial) (an (not_f h897) (ti (an (not_t (bool_f h901)) (an (not_t (bool_f h901)) (an (not_t (bool_f h901)) (an (not_t (bool_f h901)) (an (not_t (bool_f h901)) trivial)))))))))))))))))))))))))))))))))
     injection h with h; subst h
     exact fun_ok pm pn Go.Proofs.Try.func51 (r0 := vi 2) (ans := [.reg (.n :: .n :: []), .reg (arG1_17 r886 r890 r894 r898), .br true, .reg (.n :: [])]) (fr := true) (by kernel_rfl) (an (an (ti (ti trivial)) (an e915 (an rt (an (ti trivial) trivial)))) (ti trivial)) (Wv.refl _)
   ·have e916 := (ti (ti (an e888 (ti (ti (an (an (not_f h889) trivial) (an (an (not_f h889) trivial) (an (an (not_f h889) trivial) (an (an (not_f h889) trivial) (an (an (not_f h889) trivial) (an e892 (an (an (not_f h889) trivial) (an (not_f h889) (ti (an (an (not_f h893) trivial) (an (an (not_f h893) trivial) (an (an (not_f h893) trivial) (an e896 (an (an (not_f h893) trivial) (an (not_f h893) (ti (an (not_t (bool_f h897)) (an (not_t (bool_f h897)) (an (not_t (bool_f h897)) (an (not_t (bool_f h897)) (an (not_t (bool_f h897)) (an (not_t (bool_f h897)) (ti (an rt (an rt (an rt (an rt (an rt trivial)))))))))))))))))))))))))))))))))
    injection h with h; subst h
    exact fun_ok pm pn Go.Proofs.Try.func51 (r0 := vi 2) (ans := [.reg (.n :: .n :: []), .reg (arG1_18 r886 r890 r894), .br true, .reg (.n :: [])]) (fr := true) (by kernel_rfl) (an (an (ti (ti trivial)) (an e916 (an rt (an (ti trivial) trivial)))) (ti trivial)) (Wv.refl _)
  ·have e917 := (ti (ti (an e888 (ti (ti (an (an (not_f h889) trivial) (an (an (not_f h889) trivial) (an (an (not_f h889) trivial) (an (an (not_f h889) trivial) (an (an (not_f h889) trivial) (an e892 (an (an (not_f h889) trivial) (an (not_f h889) (ti (an (not_t (bool_f h893)) (an (not_t (bool_f h893)) (an (not_t (bool_f h893)) (an (not_t (bool_f h893)) (an (not_t (bool_f h893)) (an (not_t (bool_f h893)) (ti (an rt (an rt (an rt (an rt (an rt (an rt (ti (an rt (an rt (an rt (an rt (an rt trivial)))))))))))))))))))))))))))))))))
   injection h with h; subst h
   exact fun_ok pm pn Go.Proofs.Try.func51 (r0 := vi 2) (ans := [.reg (.n :: .n :: []), .reg (arG1_19 r886 r890), .br true, .reg (.n :: [])]) (fr := true) (by kernel_rfl) (an (an (ti (ti trivial)) (an e917 (an rt (an (ti trivial) trivial)))) (ti trivial)) (Wv.refl _)
 ·have e918 := (ti (ti (an e888 (ti (ti (an (not_t (bool_f h889)) (an (not_t (bool_f h889)) (an (not_t (bool_f h889)) (an (not_t (bool_f h889)) (an (not_t (bool_f h889)) (an (not_t (bool_f h889)) (an (not_t (bool_f h889)) (an (not_t (bool_f h889)) (ti (an rt (an rt (an rt (an rt (an rt (an rt (ti (an rt (an rt (an rt (an rt (an rt (an rt (ti (an rt (an rt (an rt (an rt (an rt trivial)))))))))))))))))))))))))))))))))
  injection h with h; subst h
  exact fun_ok pm pn Go.Proofs.Try.func51 (r0 := vi 2) (ans := [.reg (.n :: .n :: []), .reg (arG1_20 r886), .br true, .reg (.n :: [])]) (fr := true) (by kernel_rfl) (an (an (ti (ti trivial)) (an e918 (an rt (an (ti trivial) trivial)))) (ti trivial)) (Wv.refl _)
def arG1_21 (z0 : SGlass) (z1 : Int) (z2 : Int) : List Ans := (nN 4 (.v (VV.ag (c_SGlassPart (z0.Parts.getD z1.toNat default))) :: .n :: .n :: .call (vi z2) :: .n :: []))
def arG1_22 (z0 : Bool) (z1 : Bool) (z2 : Bool) : List Ans := (.n :: .n :: .call (vb z0) :: nN 7 (.call (vb z1) :: .n :: .b false :: nN 4 (.call (vb z2) :: .n :: .b false :: [])))
def arG1_23 (z0 : Bool) (z1 : Bool) : List Ans := (.n :: .n :: .call (vb z0) :: nN 7 (.call (vb z1) :: .n :: .b false :: .n :: nS 5 (.b true :: [])))
def nspeculumref03_checkCap (k : Nat) (a0 : SGlassCap) (a1 : Int) : Option Int :=
  (nspeculumbase_Within k a0.Radius 1 100000).bind fun r974 => (if r974 = true then ((nspeculumbase_Within k a0.Height 1 (minI a0.Radius 500)).bind fun r978 => (if r978 = true then ((nspeculumbase_Within k a0.At 0 a1).bind fun r982 => (if r982 = true then (if a0.Up = true then ((nspeculumbase_Within k (w64 (a0.At + a0.Height)) 0 a1).bind fun r988 => (if r988 = true then (some 0) else (some 2))) else ((nspeculumbase_Within k (w64 (a0.At - a0.Height)) 0 a1).bind fun r992 => (if r992 = true then (some 0) else (some 2)))) else (some 2))) else (some 2))) else (some 2))
theorem nspeculumref03_checkCap_ok (k : Nat) (a0 : SGlassCap) (a1 : Int) (r : Int) (h : nspeculumref03_checkCap k a0 a1 = some r) : VC Go.Proofs.Try.prog 52 [VV.ag (c_SGlassCap a0), vi a1] (vi r) := by
 unfold nspeculumref03_checkCap at h
 obtain ⟨r974, h975, h⟩ := bs h
 have e976 := (nspeculumbase_Within_ok k a0.Radius 1 100000 _ h975)
 rcases ifs h with ⟨h977, h⟩ | ⟨h977, h⟩
 ·obtain ⟨r978, h979, h⟩ := bs h
  have e980 := (an (not_f h977) (nspeculumbase_Within_ok k a0.Height 1 (minI a0.Radius 500) _ h979))
  rcases ifs h with ⟨h981, h⟩ | ⟨h981, h⟩
  ·obtain ⟨r982, h983, h⟩ := bs h
   have e984 := (an (not_f h981) (nspeculumbase_Within_ok k a0.At 0 a1 _ h983))
   have e985 := (ti (ti (an e976 (ti (ti (an (an (not_f h977) trivial) (an (an (not_f h977) trivial) (an (an (not_f h977) trivial) (an (an (not_f h977) trivial) (an (an (not_f h977) trivial) (an e980 (an (an (not_f h977) trivial) (an (not_f h977) (ti (an (an (not_f h981) trivial) (an (an (not_f h981) trivial) (an (an (not_f h981) trivial) (an e984 (an (an (not_f h981) trivial) (an (not_f h981) trivial))))))))))))))))))))
   rcases ifs h with ⟨h986, h⟩ | ⟨h986, h⟩
   ·rcases ifs h with ⟨h987, h⟩ | ⟨h987, h⟩
    ·obtain ⟨r988, h989, h⟩ := bs h
     have e990 := (nspeculumbase_Within_ok k (w64 (a0.At + a0.Height)) 0 a1 _ h989)
     rcases ifs h with ⟨h991, h⟩ | ⟨h991, h⟩
     ·injection h with h; subst h
      exact fun_ok pm pn Go.Proofs.Try.func52 (r0 := vi 0) (ans := [.reg (.n :: .n :: []), .reg (arG1_22 r974 r978 r982), .br false, .reg (nN 6 []), .reg (.n :: .n :: []), .br true, .reg (nN 6 []), .reg (.n :: .n :: .call (vb r988) :: .n :: []), .br false, .reg (.n :: [])]) (fr := true) (by kernel_rfl) (an (an (ti (ti trivial)) (an (an e985 (an (not_f h986) trivial)) (an (ti (ti (ti (ti (ti (ti trivial)))))) (an (an (ti (ti trivial)) (an h987 (ti (ti (ti (ti (ti (ti trivial)))))))) (an (an (ti (ti (an e990 (ti trivial)))) (an (not_f h991) trivial)) (an (ti trivial) trivial)))))) (ti trivial)) (Wv.refl _)
     ·injection h with h; subst h
      exact fun_ok pm pn Go.Proofs.Try.func52 (r0 := vi 2) (ans := [.reg (.n :: .n :: []), .reg (arG1_22 r974 r978 r982), .br false, .reg (nN 6 []), .reg (.n :: .n :: []), .br true, .reg (nN 6 []), .reg (.n :: .n :: .call (vb r988) :: .n :: []), .br true, .reg (.n :: [])]) (fr := true) (by kernel_rfl) (an (an (ti (ti trivial)) (an (an e985 (an (not_f h986) trivial)) (an (ti (ti (ti (ti (ti (ti trivial)))))) (an (an (ti (ti trivial)) (an h987 (ti (ti (ti (ti (ti (ti trivial)))))))) (an (ti (ti (an e990 (ti trivial)))) (an (not_t (bool_f h991)) (an (ti trivial) trivial))))))) (ti trivial)) (Wv.refl _)
    ·obtain ⟨r992, h993, h⟩ := bs h
     have e994 := (nspeculumbase_Within_ok k (w64 (a0.At - a0.Height)) 0 a1 _ h993)
     rcases ifs h with ⟨h995, h⟩ | ⟨h995, h⟩
     ·injection h with h; subst h
      exact fun_ok pm pn Go.Proofs.Try.func52 (r0 := vi 0) (ans := [.reg (.n :: .n :: []), .reg (arG1_22 r974 r978 r982), .br false, .reg (nN 6 []), .reg (.n :: .n :: []), .br false, .reg (.n :: .n :: .call (vb r992) :: .n :: []), .br false, .reg (.n :: [])]) (fr := true) (by kernel_rfl) (an (an (ti (ti trivial)) (an (an e985 (an (not_f h986) trivial)) (an (ti (ti (ti (ti (ti (ti trivial)))))) (an (an (ti (ti trivial)) (an (bool_f h987) trivial)) (an (an (ti (ti (an e994 (ti trivial)))) (an (not_f h995) trivial)) (an (ti trivial) trivial)))))) (ti trivial)) (Wv.refl _)
     ·injection h with h; subst h
      exact fun_ok pm pn Go.Proofs.Try.func52 (r0 := vi 2) (ans := [.reg (.n :: .n :: []), .reg (arG1_22 r974 r978 r982), .br false, .reg (nN 6 []), .reg (.n :: .n :: []), .br false, .reg (.n :: .n :: .call (vb r992) :: .n :: []), .br true, .reg (.n :: [])]) (fr := true) (by kernel_rfl) (an (an (ti (ti trivial)) (an (an e985 (an (not_f h986) trivial)) (an (ti (ti (ti (ti (ti (ti trivial)))))) (an (an (ti (ti trivial)) (an (bool_f h987) trivial)) (an (ti (ti (an e994 (ti trivial)))) (an (not_t (bool_f h995)) (an (ti trivial) trivial))))))) (ti trivial)) (Wv.refl _)
   ·injection h with h; subst h
    exact fun_ok pm pn Go.Proofs.Try.func52 (r0 := vi 2) (ans := [.reg (.n :: .n :: []), .reg (arG1_22 r974 r978 r982), .br true, .reg (.n :: [])]) (fr := true) (by kernel_rfl) (an (an (ti (ti trivial)) (an e985 (an (not_t (bool_f h986)) (an (ti trivial) trivial)))) (ti trivial)) (Wv.refl _)
  ·have e996 := (ti (ti (an e976 (ti (ti (an (an (not_f h977) trivial) (an (an (not_f h977) trivial) (an (an (not_f h977) trivial) (an (an (not_f h977) trivial) (an (an (not_f h977) trivial) (an e980 (an (an (not_f h977) trivial) (an (not_f h977) (ti (an (not_t (bool_f h981)) (an (not_t (bool_f h981)) (an (not_t (bool_f h981)) (an (not_t (bool_f h981)) (an (not_t (bool_f h981)) (an (not_t (bool_f h981)) trivial))))))))))))))))))))
   injection h with h; subst h
   exact fun_ok pm pn Go.Proofs.Try.func52 (r0 := vi 2) (ans := [.reg (.n :: .n :: []), .reg (arG1_23 r974 r978), .br true, .reg (.n :: [])]) (fr := true) (by kernel_rfl) (an (an (ti (ti trivial)) (an e996 (an rt (an (ti trivial) trivial)))) (ti trivial)) (Wv.refl _)
 ·have e997 := (ti (ti (an e976 (ti (ti (an (not_t (bool_f h977)) (an (not_t (bool_f h977)) (an (not_t (bool_f h977)) (an (not_t (bool_f h977)) (an (not_t (bool_f h977)) (an (not_t (bool_f h977)) (an (not_t (bool_f h977)) (an (not_t (bool_f h977)) (ti (an rt (an rt (an rt (an rt (an rt (an rt trivial))))))))))))))))))))
  injection h with h; subst h
  exact fun_ok pm pn Go.Proofs.Try.func52 (r0 := vi 2) (ans := [.reg (.n :: .n :: []), .reg (.n :: .n :: .call (vb r974) :: .n :: .n :: nS 7 (.b true :: .n :: nS 5 (.b true :: []))), .br true, .reg (.n :: [])]) (fr := true) (by kernel_rfl) (an (an (ti (ti trivial)) (an e997 (an rt (an (ti trivial) trivial)))) (ti trivial)) (Wv.refl _)
def arG1_24 (z0 : SGlass) (z1 : Int) (z2 : Int) : List Ans := (nN 4 (.v (VV.ag (c_SGlassCap (z0.Caps.getD z1.toNat default))) :: .n :: .n :: .call (vi z2) :: .n :: []))
def nspeculumref03_partVolume (k : Nat) (a0 : SGlassPart) : Option Int :=
  some (w64 ((w64 ((w64 (3 * (w64 ((w64 (a0.Outer * a0.Outer)) - (w64 (a0.Inner * a0.Inner)))))) * (w64 (a0.To - a0.From)))) * (maxI a0.Count 1)))
theorem nspeculumref03_partVolume_ok (k : Nat) (a0 : SGlassPart) (r : Int) (h : nspeculumref03_partVolume k a0 = some r) : VC Go.Proofs.Try.prog 64 [VV.ag (c_SGlassPart a0)] (vi r) := by
 unfold nspeculumref03_partVolume at h
 have e1029 := (ti (ti (ti (ti (ti (ti (ti (ti (ti (ti (ti (ti (ti (ti (ti (ti (ti (ti (ti (ti (ti (ti (ti trivial)))))))))))))))))))))))
 injection h with h; subst h
 exact fun_ok pm pn Go.Proofs.Try.func64 (r0 := vi (w64 ((w64 ((w64 (3 * (w64 ((w64 (a0.Outer * a0.Outer)) - (w64 (a0.Inner * a0.Inner)))))) * (w64 (a0.To - a0.From)))) * (maxI a0.Count 1)))) (ans := [.reg (.n :: .n :: []), .reg (nN 23 [])]) (fr := true) (by kernel_rfl) (an (an (ti (ti trivial)) (an e1029 trivial)) (ti trivial)) (Wv.refl _)
def nspeculumref03_signed (k : Nat) (a0 : Int) (a1 : Bool) : Option Int :=
  if a1 = true then (some (w64 (0 - a0))) else (some a0)
theorem nspeculumref03_signed_ok (k : Nat) (a0 : Int) (a1 : Bool) (r : Int) (h : nspeculumref03_signed k a0 a1 = some r) : VC Go.Proofs.Try.prog 63 [vi a0, vb a1] (vi r) := by
 unfold nspeculumref03_signed at h
 rcases ifs h with ⟨h1035, h⟩ | ⟨h1035, h⟩
 ·injection h with h; subst h
  exact fun_ok pm pn Go.Proofs.Try.func63 (r0 := vi (w64 (0 - a0))) (ans := [.reg (.n :: []), .reg (.n :: []), .br true, .reg (nN 3 [])]) (fr := true) (by kernel_rfl) (an (an (ti trivial) (an (ti trivial) (an h1035 (an (ti (ti (ti trivial))) trivial)))) (ti trivial)) (Wv.refl _)
 ·injection h with h; subst h
  exact fun_ok pm pn Go.Proofs.Try.func63 (r0 := vi a0) (ans := [.reg (.n :: []), .reg (.n :: []), .br false, .reg (.n :: .n :: [])]) (fr := true) (by kernel_rfl) (an (an (ti trivial) (an (an (ti trivial) (an (bool_f h1035) trivial)) (an (ti (ti trivial)) trivial))) (ti trivial)) (Wv.refl _)
def arG1_25 (z0 : SGlass) (z1 : Int) (z2 : Int) (z3 : Int) : List Ans := (nN 5 (.v (VV.ag (c_SGlassPart (z0.Parts.getD z1.toNat default))) :: .call (vi z2) :: nN 5 (.v (vb ((z0.Parts.getD z1.toNat default).Cut)) :: .call (vi z3) :: .n :: .n :: [])))
def nspeculumref03_capVolume (k : Nat) (a0 : SGlassCap) : Option Int :=
  some (w64 ((w64 ((w64 (4 * a0.Height)) * a0.Height)) * (w64 ((w64 (3 * a0.Radius)) - a0.Height))))
theorem nspeculumref03_capVolume_ok (k : Nat) (a0 : SGlassCap) (r : Int) (h : nspeculumref03_capVolume k a0 = some r) : VC Go.Proofs.Try.prog 65 [VV.ag (c_SGlassCap a0)] (vi r) := by
 unfold nspeculumref03_capVolume at h
 have e1069 := (ti (ti (ti (ti (ti (ti (ti (ti (ti (ti (ti (ti (ti (ti trivial))))))))))))))
 injection h with h; subst h
 exact fun_ok pm pn Go.Proofs.Try.func65 (r0 := vi (w64 ((w64 ((w64 (4 * a0.Height)) * a0.Height)) * (w64 ((w64 (3 * a0.Radius)) - a0.Height))))) (ans := [.reg (.n :: .n :: []), .reg (nN 14 [])]) (fr := true) (by kernel_rfl) (an (an (ti (ti trivial)) (an e1069 trivial)) (ti trivial)) (Wv.refl _)
def arG1_26 (z0 : SGlass) (z1 : Int) (z2 : Int) (z3 : Int) : List Ans := (nN 5 (.v (VV.ag (c_SGlassCap (z0.Caps.getD z1.toNat default))) :: .call (vi z2) :: nN 5 (.v (vb ((z0.Caps.getD z1.toNat default).Cut)) :: .call (vi z3) :: .n :: .n :: [])))
def nspeculumref03_Volume_l0_0_h (a0 : SGlass) (x3 : Int) (x4 : Int) : VS := ⟨mkA [(1, VV.pt 0 0), (3, vi x3), (4, vi x4)], [some ⟨true, 1, c_SGlass a0⟩], .nil⟩
def nspeculumref03_Volume_l0_0_e0 (a0 : SGlass) (r : Int) : VS := ⟨mkA [(1, VV.pt 0 0), (3, vi r)], [some ⟨true, 1, c_SGlass a0⟩], .nil⟩
def nspeculumref03_Volume_l0_0 (k : Nat) (a0 : SGlass) : Nat → Int → Int → Option (Int)
  | 0, _, _ => none
  | fuel + 1, x3, x4 => if x4 < (a0.Parts.length : Int) then (if 0 ≤ x4 ∧ x4 < (a0.Parts.length : Int) then ((nspeculumref03_partVolume k (a0.Parts.getD x4.toNat default)).bind fun r1128 => ((nspeculumref03_signed k r1128 ((a0.Parts.getD x4.toNat default).Cut)).bind fun r1132 => (nspeculumref03_Volume_l0_0 k a0 fuel (w64 (x3 + r1132)) (w64 (x4 + 1))))) else none) else (some x3)
theorem nspeculumref03_Volume_l0_0_ok (k : Nat) (a0 : SGlass) : ∀ (fuel : Nat) (x3 : Int) (x4 : Int) (r : Int), nspeculumref03_Volume_l0_0 k a0 fuel x3 x4 = some r → (VLoop none Go.Proofs.Try.prog (szF Go.Proofs.Try.f20) (bodyOf Go.Proofs.Try.f20 0) (nspeculumref03_Volume_l0_0_h a0 x3 x4) (.exit 0) (nspeculumref03_Volume_l0_0_e0 a0 r)) := by
 intro fuel
 induction fuel with
 | zero => intro x3 x4 r h; rw [nspeculumref03_Volume_l0_0.eq_1] at h; cases h
 | succ fuel ih =>
  intro x3 x4 r h
  rw [nspeculumref03_Volume_l0_0.eq_2] at h
  rcases ifs h with ⟨h1125, h⟩ | ⟨h1125, h⟩
  ·obtain ⟨h1126, h⟩ := ifn h
   have e1127 := (show loadL Go.Proofs.Try.prog 41 (x4.toNat * 6) (List.flatMap c_SGlassPart a0.Parts) = some (VV.ag (c_SGlassPart (a0.Parts.getD x4.toNat default))) from ld_whole ag41 c_SGlassPart 6 sz41 len_c_SGlassPart a0.Parts default h1126 (by omega))
   obtain ⟨r1128, h1129, h⟩ := bs h
   have e1130 := (nspeculumref03_partVolume_ok k (a0.Parts.getD x4.toNat default) _ h1129)
   have e1131 := (show loadL Go.Proofs.Try.prog 4 (x4.toNat * 6 + 5) (List.flatMap c_SGlassPart a0.Parts) = some (vb ((a0.Parts.getD x4.toNat default).Cut)) from (ld_flat ag4 c_SGlassPart 6 5 len_c_SGlassPart (by omega) a0.Parts default h1126 (by omega)).trans rfl)
   obtain ⟨r1132, h1133, h⟩ := bs h
   have e1134 := (nspeculumref03_signed_ok k r1128 ((a0.Parts.getD x4.toNat default).Cut) _ h1133)
   have e1135 := (ti (ti (ti (ti (an h1126 (an e1127 (an e1130 (ti (ti (ti (an h1126 (ti (an e1131 (an e1134 (ti (ti trivial))))))))))))))))
   have h2 := ih _ _ _ h
   obtain ⟨q, hv, hq⟩ := pkR (rd := none) (P := Go.Proofs.Try.prog) (fn := Go.Proofs.Try.f20) (k := 0) (s := (nspeculumref03_Volume_l0_0_h a0 x3 x4)) (ans := [.reg (nN 5 []), .br true, .reg (arG1_25 a0 x4 r1128 r1132), .reg (nN 3 [])]) (c := ⟨[(1, none), (3, none), (4, none)], [none], []⟩) (e := .normal) (s1 := (nspeculumref03_Volume_l0_0_h a0 (w64 (x3 + r1132)) (w64 (x4 + 1)))) (an (an (an (ti (ti (ti (ti (ti trivial))))) (an (decide_eq_true h1125) trivial)) (an e1135 (ti (ti (ti trivial))))) (ti trivial)) (by kernel_rfl)
   exact round_next pm pn hv hq h2
  ·injection h with h; subst h
   exact round_stop (c := ⟨[(1, none), (3, none)], [none], []⟩) (s1 := (nspeculumref03_Volume_l0_0_e0 a0 x3)) pm pn (ans := [.reg (nN 5 []), .br false]) (by kernel_rfl) (by intro e; cases e) (an (an (ti (ti (ti (ti (ti trivial))))) (an (decide_eq_false h1125) trivial)) (ti trivial))
def nspeculumref03_Volume_l1_0_h (a0 : SGlass) (x3 : Int) (x5 : Int) : VS := ⟨mkA [(1, VV.pt 0 0), (3, vi x3), (5, vi x5)], [some ⟨true, 1, c_SGlass a0⟩], .nil⟩
def nspeculumref03_Volume_l1_0_e0 (a0 : SGlass) (r : Int) : VS := ⟨mkA [(3, vi r)], [], .nil⟩
def nspeculumref03_Volume_l1_0 (k : Nat) (a0 : SGlass) : Nat → Int → Int → Option (Int)
  | 0, _, _ => none
  | fuel + 1, x3, x5 => if x5 < (a0.Caps.length : Int) then (if 0 ≤ x5 ∧ x5 < (a0.Caps.length : Int) then ((nspeculumref03_capVolume k (a0.Caps.getD x5.toNat default)).bind fun r1164 => ((nspeculumref03_signed k r1164 ((a0.Caps.getD x5.toNat default).Cut)).bind fun r1168 => (nspeculumref03_Volume_l1_0 k a0 fuel (w64 (x3 + r1168)) (w64 (x5 + 1))))) else none) else (some x3)
theorem nspeculumref03_Volume_l1_0_ok (k : Nat) (a0 : SGlass) : ∀ (fuel : Nat) (x3 : Int) (x5 : Int) (r : Int), nspeculumref03_Volume_l1_0 k a0 fuel x3 x5 = some r → (VLoop none Go.Proofs.Try.prog (szF Go.Proofs.Try.f20) (bodyOf Go.Proofs.Try.f20 1) (nspeculumref03_Volume_l1_0_h a0 x3 x5) (.exit 2) (nspeculumref03_Volume_l1_0_e0 a0 r)) := by
 intro fuel
 induction fuel with
 | zero => intro x3 x5 r h; rw [nspeculumref03_Volume_l1_0.eq_1] at h; cases h
 | succ fuel ih =>
  intro x3 x5 r h
  rw [nspeculumref03_Volume_l1_0.eq_2] at h
  rcases ifs h with ⟨h1161, h⟩ | ⟨h1161, h⟩
  ·obtain ⟨h1162, h⟩ := ifn h
   have e1163 := (show loadL Go.Proofs.Try.prog 89 (x5.toNat * 5) (List.flatMap c_SGlassCap a0.Caps) = some (VV.ag (c_SGlassCap (a0.Caps.getD x5.toNat default))) from ld_whole ag89 c_SGlassCap 5 sz89 len_c_SGlassCap a0.Caps default h1162 (by omega))
   obtain ⟨r1164, h1165, h⟩ := bs h
   have e1166 := (nspeculumref03_capVolume_ok k (a0.Caps.getD x5.toNat default) _ h1165)
   have e1167 := (show loadL Go.Proofs.Try.prog 4 (x5.toNat * 5 + 4) (List.flatMap c_SGlassCap a0.Caps) = some (vb ((a0.Caps.getD x5.toNat default).Cut)) from (ld_flat ag4 c_SGlassCap 5 4 len_c_SGlassCap (by omega) a0.Caps default h1162 (by omega)).trans rfl)
   obtain ⟨r1168, h1169, h⟩ := bs h
   have e1170 := (nspeculumref03_signed_ok k r1164 ((a0.Caps.getD x5.toNat default).Cut) _ h1169)
   have e1171 := (ti (ti (ti (ti (an h1162 (an e1163 (an e1166 (ti (ti (ti (an h1162 (ti (an e1167 (an e1170 (ti (ti trivial))))))))))))))))
   have h2 := ih _ _ _ h
   obtain ⟨q, hv, hq⟩ := pkR (rd := none) (P := Go.Proofs.Try.prog) (fn := Go.Proofs.Try.f20) (k := 1) (s := (nspeculumref03_Volume_l1_0_h a0 x3 x5)) (ans := [.reg (nN 5 []), .br true, .reg (arG1_26 a0 x5 r1164 r1168), .reg (nN 3 [])]) (c := ⟨[(1, none), (3, none), (5, none)], [none], []⟩) (e := .normal) (s1 := (nspeculumref03_Volume_l1_0_h a0 (w64 (x3 + r1168)) (w64 (x5 + 1)))) (an (an (an (ti (ti (ti (ti (ti trivial))))) (an (decide_eq_true h1161) trivial)) (an e1171 (ti (ti (ti trivial))))) (ti trivial)) (by kernel_rfl)
   exact round_next pm pn hv hq h2
  ·injection h with h; subst h
   exact round_stop (c := ⟨[(3, none)], [], []⟩) (s1 := (nspeculumref03_Volume_l1_0_e0 a0 x3)) pm pn (ans := [.reg (nN 5 []), .br false]) (by kernel_rfl) (by intro e; cases e) (an (an (ti (ti (ti (ti (ti trivial))))) (an (decide_eq_false h1161) trivial)) (ti trivial))
def nspeculumref03_Volume (k : Nat) (a0 : SGlass) : Option Int :=
  (nspeculumref03_Volume_l0_0 k a0 k 0 0).bind fun r1137 => ((nspeculumref03_Volume_l1_0 k a0 k r1137 0).bind fun r1173 => (some r1173))
theorem nspeculumref03_Volume_ok (k : Nat) (a0 : SGlass) (r : Int) (h : nspeculumref03_Volume k a0 = some r) : VC Go.Proofs.Try.prog 20 [VV.ag (c_SGlass a0)] (vi r) := by
 unfold nspeculumref03_Volume at h
 obtain ⟨r1137, h1136, h⟩ := bs h
 have hph1136 := nspeculumref03_Volume_l0_0_ok k a0 _ _ _ _ h1136
 have e1138 := (an (ti trivial) (VRun.loop hph1136))
 obtain ⟨r1173, h1172, h⟩ := bs h
 have hph1172 := nspeculumref03_Volume_l1_0_ok k a0 _ _ _ _ h1172
 have e1174 := (an (ti trivial) (VRun.loop hph1172))
 injection h with h; subst h
 exact fun_ok pm pn Go.Proofs.Try.func20 (r0 := vi r1173) (ans := [.reg (.n :: .n :: []), .reg (.n :: []), .reg (.n :: []), .sub ⟨[(1, none), (3, none), (4, none)], [none], []⟩ (.exit 0) (nspeculumref03_Volume_l0_0_e0 a0 r1137), .reg (.n :: []), .sub ⟨[(1, none), (3, none), (5, none)], [none], []⟩ (.exit 2) (nspeculumref03_Volume_l1_0_e0 a0 r1173), .reg (.n :: .n :: [])]) (fr := true) (by kernel_rfl) (an (an (ti (ti trivial)) (an (ti trivial) (an (an (ti trivial) e1138) (an (an (ti trivial) e1174) (an (ti (ti trivial)) trivial))))) (ti trivial)) (Wv.refl _)
def nspeculumref03_CheckGlass_l0_0_h (a0 : SGlass) (x3 : Int) : VS := ⟨mkA [(1, VV.pt 0 0), (3, vi x3)], [some ⟨true, 1, c_SGlass a0⟩], .nil⟩
def nspeculumref03_CheckGlass_l0_0_e0 (a0 : SGlass) (r : Int) : VS := ⟨mkA [(2, vi r)], [], .nil⟩
def nspeculumref03_CheckGlass_l0_0_e1 (a0 : SGlass) (r : Unit) : VS := ⟨mkA [(1, VV.pt 0 0)], [some ⟨true, 1, c_SGlass a0⟩], .nil⟩
def nspeculumref03_CheckGlass_l0_0 (k : Nat) (a0 : SGlass) : Nat → Int → Option (Sum Int Unit)
  | 0, _ => none
  | fuel + 1, x3 => if x3 < (a0.Parts.length : Int) then (if 0 ≤ x3 ∧ x3 < (a0.Parts.length : Int) then ((nspeculumref03_checkPart k (a0.Parts.getD x3.toNat default) a0.Thick).bind fun r1209 => (if r1209 = 0 then (nspeculumref03_CheckGlass_l0_0 k a0 fuel (w64 (x3 + 1))) else (some (.inl r1209)))) else none) else (some (.inr ()))
theorem nspeculumref03_CheckGlass_l0_0_ok (k : Nat) (a0 : SGlass) : ∀ (fuel : Nat) (x3 : Int) (r : Sum Int Unit), nspeculumref03_CheckGlass_l0_0 k a0 fuel x3 = some r → (match r with | .inl r => VLoop none Go.Proofs.Try.prog (szF Go.Proofs.Try.f18) (bodyOf Go.Proofs.Try.f18 0) (nspeculumref03_CheckGlass_l0_0_h a0 x3) .ret (nspeculumref03_CheckGlass_l0_0_e0 a0 r) | .inr r => VLoop none Go.Proofs.Try.prog (szF Go.Proofs.Try.f18) (bodyOf Go.Proofs.Try.f18 0) (nspeculumref03_CheckGlass_l0_0_h a0 x3) (.exit 0) (nspeculumref03_CheckGlass_l0_0_e1 a0 r)) := by
 intro fuel
 induction fuel with
 | zero => intro x3 r h; rw [nspeculumref03_CheckGlass_l0_0.eq_1] at h; cases h
 | succ fuel ih =>
  intro x3 r h
  rw [nspeculumref03_CheckGlass_l0_0.eq_2] at h
  rcases ifs h with ⟨h1206, h⟩ | ⟨h1206, h⟩
  ·obtain ⟨h1207, h⟩ := ifn h
   have e1208 := (show loadL Go.Proofs.Try.prog 41 (x3.toNat * 6) (List.flatMap c_SGlassPart a0.Parts) = some (VV.ag (c_SGlassPart (a0.Parts.getD x3.toNat default))) from ld_whole ag41 c_SGlassPart 6 sz41 len_c_SGlassPart a0.Parts default h1207 (by omega))
   obtain ⟨r1209, h1210, h⟩ := bs h
   have e1211 := (nspeculumref03_checkPart_ok k (a0.Parts.getD x3.toNat default) a0.Thick _ h1210)
   have e1212 := (ti (ti (ti (an h1207 (an e1208 (ti (ti (an e1211 (ti trivial)))))))))
   rcases ifs h with ⟨h1213, h⟩ | ⟨h1213, h⟩
   ·have h2 := ih _ _ h
    obtain ⟨q, hv, hq⟩ := pkR (rd := none) (P := Go.Proofs.Try.prog) (fn := Go.Proofs.Try.f18) (k := 0) (s := (nspeculumref03_CheckGlass_l0_0_h a0 x3)) (ans := [.reg (nN 5 []), .br true, .reg (arG1_21 a0 x3 r1209), .reg (.n :: .n :: []), .br false, .reg (nN 3 [])]) (c := ⟨[(1, none), (3, none)], [none], []⟩) (e := .normal) (s1 := (nspeculumref03_CheckGlass_l0_0_h a0 (w64 (x3 + 1)))) (an (an (an (ti (ti (ti (ti (ti trivial))))) (an (decide_eq_true h1206) trivial)) (an (an e1212 (an (ti (ti trivial)) (an (not_f (decide_eq_true h1213)) trivial))) (ti (ti (ti trivial))))) (ti trivial)) (by kernel_rfl)
    cases r with
    | inl r => exact round_next pm pn hv hq h2
    | inr r =>
     exact round_next pm pn hv hq h2
   ·injection h with h; subst h
    exact round_stop (c := ⟨[(2, none)], [], []⟩) (s1 := (nspeculumref03_CheckGlass_l0_0_e0 a0 r1209)) pm pn (ans := [.reg (nN 5 []), .br true, .reg (arG1_21 a0 x3 r1209), .reg (.n :: .n :: []), .br true, .reg (.n :: .n :: [])]) (by kernel_rfl) (by intro e; cases e) (an (an (an (ti (ti (ti (ti (ti trivial))))) (an (decide_eq_true h1206) trivial)) (an e1212 (an (ti (ti trivial)) (an (not_t (decide_eq_false h1213)) (an (ti (ti trivial)) trivial))))) (ti trivial))
  ·injection h with h; subst h
   exact round_stop (c := ⟨[(1, none)], [none], []⟩) (s1 := (nspeculumref03_CheckGlass_l0_0_e1 a0 ())) pm pn (ans := [.reg (nN 5 []), .br false]) (by kernel_rfl) (by intro e; cases e) (an (an (ti (ti (ti (ti (ti trivial))))) (an (decide_eq_false h1206) trivial)) (ti trivial))
def nspeculumref03_CheckGlass_l1_0_h (a0 : SGlass) (x5 : Int) : VS := ⟨mkA [(1, VV.pt 0 0), (5, vi x5)], [some ⟨true, 1, c_SGlass a0⟩], .nil⟩
def nspeculumref03_CheckGlass_l1_0_e0 (a0 : SGlass) (r : Int) : VS := ⟨mkA [(2, vi r)], [], .nil⟩
def nspeculumref03_CheckGlass_l1_0_e1 (a0 : SGlass) (r : Unit) : VS := ⟨mkA [(1, VV.pt 0 0)], [some ⟨true, 1, c_SGlass a0⟩], .nil⟩
def nspeculumref03_CheckGlass_l1_0 (k : Nat) (a0 : SGlass) : Nat → Int → Option (Sum Int Unit)
  | 0, _ => none
  | fuel + 1, x5 => if x5 < (a0.Caps.length : Int) then (if 0 ≤ x5 ∧ x5 < (a0.Caps.length : Int) then ((nspeculumref03_checkCap k (a0.Caps.getD x5.toNat default) a0.Thick).bind fun r1240 => (if r1240 = 0 then (nspeculumref03_CheckGlass_l1_0 k a0 fuel (w64 (x5 + 1))) else (some (.inl r1240)))) else none) else (some (.inr ()))
theorem nspeculumref03_CheckGlass_l1_0_ok (k : Nat) (a0 : SGlass) : ∀ (fuel : Nat) (x5 : Int) (r : Sum Int Unit), nspeculumref03_CheckGlass_l1_0 k a0 fuel x5 = some r → (match r with | .inl r => VLoop none Go.Proofs.Try.prog (szF Go.Proofs.Try.f18) (bodyOf Go.Proofs.Try.f18 1) (nspeculumref03_CheckGlass_l1_0_h a0 x5) .ret (nspeculumref03_CheckGlass_l1_0_e0 a0 r) | .inr r => VLoop none Go.Proofs.Try.prog (szF Go.Proofs.Try.f18) (bodyOf Go.Proofs.Try.f18 1) (nspeculumref03_CheckGlass_l1_0_h a0 x5) (.exit 2) (nspeculumref03_CheckGlass_l1_0_e1 a0 r)) := by
 intro fuel
 induction fuel with
 | zero => intro x5 r h; rw [nspeculumref03_CheckGlass_l1_0.eq_1] at h; cases h
 | succ fuel ih =>
  intro x5 r h
  rw [nspeculumref03_CheckGlass_l1_0.eq_2] at h
  rcases ifs h with ⟨h1237, h⟩ | ⟨h1237, h⟩
  ·obtain ⟨h1238, h⟩ := ifn h
   have e1239 := (show loadL Go.Proofs.Try.prog 89 (x5.toNat * 5) (List.flatMap c_SGlassCap a0.Caps) = some (VV.ag (c_SGlassCap (a0.Caps.getD x5.toNat default))) from ld_whole ag89 c_SGlassCap 5 sz89 len_c_SGlassCap a0.Caps default h1238 (by omega))
   obtain ⟨r1240, h1241, h⟩ := bs h
   have e1242 := (nspeculumref03_checkCap_ok k (a0.Caps.getD x5.toNat default) a0.Thick _ h1241)
   have e1243 := (ti (ti (ti (an h1238 (an e1239 (ti (ti (an e1242 (ti trivial)))))))))
   rcases ifs h with ⟨h1244, h⟩ | ⟨h1244, h⟩
   ·have h2 := ih _ _ h
    obtain ⟨q, hv, hq⟩ := pkR (rd := none) (P := Go.Proofs.Try.prog) (fn := Go.Proofs.Try.f18) (k := 1) (s := (nspeculumref03_CheckGlass_l1_0_h a0 x5)) (ans := [.reg (nN 5 []), .br true, .reg (arG1_24 a0 x5 r1240), .reg (.n :: .n :: []), .br false, .reg (nN 3 [])]) (c := ⟨[(1, none), (5, none)], [none], []⟩) (e := .normal) (s1 := (nspeculumref03_CheckGlass_l1_0_h a0 (w64 (x5 + 1)))) (an (an (an (ti (ti (ti (ti (ti trivial))))) (an (decide_eq_true h1237) trivial)) (an (an e1243 (an (ti (ti trivial)) (an (not_f (decide_eq_true h1244)) trivial))) (ti (ti (ti trivial))))) (ti trivial)) (by kernel_rfl)
    cases r with
    | inl r => exact round_next pm pn hv hq h2
    | inr r =>
     exact round_next pm pn hv hq h2
   ·injection h with h; subst h
    exact round_stop (c := ⟨[(2, none)], [], []⟩) (s1 := (nspeculumref03_CheckGlass_l1_0_e0 a0 r1240)) pm pn (ans := [.reg (nN 5 []), .br true, .reg (arG1_24 a0 x5 r1240), .reg (.n :: .n :: []), .br true, .reg (.n :: .n :: [])]) (by kernel_rfl) (by intro e; cases e) (an (an (an (ti (ti (ti (ti (ti trivial))))) (an (decide_eq_true h1237) trivial)) (an e1243 (an (ti (ti trivial)) (an (not_t (decide_eq_false h1244)) (an (ti (ti trivial)) trivial))))) (ti trivial))
  ·injection h with h; subst h
   exact round_stop (c := ⟨[(1, none)], [none], []⟩) (s1 := (nspeculumref03_CheckGlass_l1_0_e1 a0 ())) pm pn (ans := [.reg (nN 5 []), .br false]) (by kernel_rfl) (by intro e; cases e) (an (an (ti (ti (ti (ti (ti trivial))))) (an (decide_eq_false h1237) trivial)) (ti trivial))
def nspeculumref03_CheckGlass (k : Nat) (a0 : SGlass) : Option Int :=
  (nspeculumbase_Within k a0.Density 1 10000).bind fun r1180 => (if r1180 = true then ((nspeculumbase_Within k a0.Thick 1 500).bind fun r1184 => (if r1184 = true then (if 40 < (a0.Parts.length : Int) then (some 8) else ((nspeculumref03_CheckGlass_l0_0 k a0 k 0).bind fun r1215 => (match r1215 with | .inl r1216 => (some r1216) | .inr r1217 => (if 4 < (a0.Caps.length : Int) then (some 8) else ((nspeculumref03_CheckGlass_l1_0 k a0 k 0).bind fun r1246 => (match r1246 with | .inl r1247 => (some r1247) | .inr r1248 => ((nspeculumref03_Volume k a0).bind fun r1251 => (if r1251 ≤ 0 then (some 11) else (some 0))))))))) else (some 2))) else (some 2))
theorem nspeculumref03_CheckGlass_ok (k : Nat) (a0 : SGlass) (r : Int) (h : nspeculumref03_CheckGlass k a0 = some r) : VC Go.Proofs.Try.prog 18 [VV.ag (c_SGlass a0)] (vi r) := by
 unfold nspeculumref03_CheckGlass at h
 obtain ⟨r1180, h1181, h⟩ := bs h
 have e1182 := (nspeculumbase_Within_ok k a0.Density 1 10000 _ h1181)
 rcases ifs h with ⟨h1183, h⟩ | ⟨h1183, h⟩
 ·obtain ⟨r1184, h1185, h⟩ := bs h
  have e1186 := (an (not_f h1183) (nspeculumbase_Within_ok k a0.Thick 1 500 _ h1185))
  have e1187 := (ti (ti (an e1182 (ti (ti (an (an (not_f h1183) trivial) (an (an (not_f h1183) trivial) (an e1186 (an (an (not_f h1183) trivial) (an (not_f h1183) trivial))))))))))
  rcases ifs h with ⟨h1188, h⟩ | ⟨h1188, h⟩
  ·rcases ifs h with ⟨h1189, h⟩ | ⟨h1189, h⟩
   ·injection h with h; subst h
    exact fun_ok pm pn Go.Proofs.Try.func18 (r0 := vi 8) (ans := [.reg (.n :: .n :: []), .reg (.n :: .n :: .call (vb r1180) :: nN 4 (.call (vb r1184) :: .n :: .b false :: [])), .br false, .reg (nN 4 []), .br true, .reg (.n :: [])]) (fr := true) (by kernel_rfl) (an (an (ti (ti trivial)) (an (an e1187 (an (not_f h1188) trivial)) (an (ti (ti (ti (ti trivial)))) (an (decide_eq_true h1189) (an (ti trivial) trivial))))) (ti trivial)) (Wv.refl _)
   ·obtain ⟨r1215, h1214, h⟩ := bs h
    have hph1214 := nspeculumref03_CheckGlass_l0_0_ok k a0 _ _ _ h1214
    cases r1215 with
    | inl r1216 =>
     dsimp only at h
     have e1218 := (an (ti trivial) (VRun.loop hph1214))
     injection h with h; subst h
     exact fun_ok pm pn Go.Proofs.Try.func18 (r0 := vi r1216) (ans := [.reg (.n :: .n :: []), .reg (.n :: .n :: .call (vb r1180) :: nN 4 (.call (vb r1184) :: .n :: .b false :: [])), .br false, .reg (nN 4 []), .br false, .reg (.n :: []), .sub ⟨[(1, none), (3, none)], [none], []⟩ .ret (nspeculumref03_CheckGlass_l0_0_e0 a0 r1216)]) (fr := true) (by kernel_rfl) (an (an (ti (ti trivial)) (an (an e1187 (an (not_f h1188) trivial)) (an (an (ti (ti (ti (ti trivial)))) (an (decide_eq_false h1189) trivial)) (an (ti trivial) e1218)))) (ti trivial)) (Wv.refl _)
    | inr r1217 =>
     dsimp only at h
     have e1219 := (an (ti trivial) (VRun.loop hph1214))
     rcases ifs h with ⟨h1220, h⟩ | ⟨h1220, h⟩
     ·injection h with h; subst h
      exact fun_ok pm pn Go.Proofs.Try.func18 (r0 := vi 8) (ans := [.reg (.n :: .n :: []), .reg (.n :: .n :: .call (vb r1180) :: nN 4 (.call (vb r1184) :: .n :: .b false :: [])), .br false, .reg (nN 4 []), .br false, .reg (.n :: []), .sub ⟨[(1, none), (3, none)], [none], []⟩ (.exit 0) (nspeculumref03_CheckGlass_l0_0_e1 a0 r1217), .reg (nN 4 []), .br true, .reg (.n :: [])]) (fr := true) (by kernel_rfl) (an (an (ti (ti trivial)) (an (an e1187 (an (not_f h1188) trivial)) (an (an (ti (ti (ti (ti trivial)))) (an (decide_eq_false h1189) trivial)) (an (an (ti trivial) e1219) (an (ti (ti (ti (ti trivial)))) (an (decide_eq_true h1220) (an (ti trivial) trivial))))))) (ti trivial)) (Wv.refl _)
     ·obtain ⟨r1246, h1245, h⟩ := bs h
      have hph1245 := nspeculumref03_CheckGlass_l1_0_ok k a0 _ _ _ h1245
      cases r1246 with
      | inl r1247 =>
       dsimp only at h
       have e1249 := (an (ti trivial) (VRun.loop hph1245))
       injection h with h; subst h
       exact fun_ok pm pn Go.Proofs.Try.func18 (r0 := vi r1247) (ans := [.reg (.n :: .n :: []), .reg (.n :: .n :: .call (vb r1180) :: nN 4 (.call (vb r1184) :: .n :: .b false :: [])), .br false, .reg (nN 4 []), .br false, .reg (.n :: []), .sub ⟨[(1, none), (3, none)], [none], []⟩ (.exit 0) (nspeculumref03_CheckGlass_l0_0_e1 a0 r1217), .reg (nN 4 []), .br false, .reg (.n :: []), .sub ⟨[(1, none), (5, none)], [none], []⟩ .ret (nspeculumref03_CheckGlass_l1_0_e0 a0 r1247)]) (fr := true) (by kernel_rfl) (an (an (ti (ti trivial)) (an (an e1187 (an (not_f h1188) trivial)) (an (an (ti (ti (ti (ti trivial)))) (an (decide_eq_false h1189) trivial)) (an (an (ti trivial) e1219) (an (an (ti (ti (ti (ti trivial)))) (an (decide_eq_false h1220) trivial)) (an (ti trivial) e1249)))))) (ti trivial)) (Wv.refl _)
      | inr r1248 =>
       dsimp only at h
       have e1250 := (an (ti trivial) (VRun.loop hph1245))
       obtain ⟨r1251, h1252, h⟩ := bs h
       have e1253 := (ti (an (nspeculumref03_Volume_ok k a0 _ h1252) (ti trivial)))
       rcases ifs h with ⟨h1254, h⟩ | ⟨h1254, h⟩
       ·injection h with h; subst h
        exact fun_ok pm pn Go.Proofs.Try.func18 (r0 := vi 11) (ans := [.reg (.n :: .n :: []), .reg (.n :: .n :: .call (vb r1180) :: nN 4 (.call (vb r1184) :: .n :: .b false :: [])), .br false, .reg (nN 4 []), .br false, .reg (.n :: []), .sub ⟨[(1, none), (3, none)], [none], []⟩ (.exit 0) (nspeculumref03_CheckGlass_l0_0_e1 a0 r1217), .reg (nN 4 []), .br false, .reg (.n :: []), .sub ⟨[(1, none), (5, none)], [none], []⟩ (.exit 2) (nspeculumref03_CheckGlass_l1_0_e1 a0 r1248), .reg (.n :: .call (vi r1251) :: .n :: []), .br true, .reg (.n :: [])]) (fr := true) (by kernel_rfl) (an (an (ti (ti trivial)) (an (an e1187 (an (not_f h1188) trivial)) (an (an (ti (ti (ti (ti trivial)))) (an (decide_eq_false h1189) trivial)) (an (an (ti trivial) e1219) (an (an (ti (ti (ti (ti trivial)))) (an (decide_eq_false h1220) trivial)) (an (an (ti trivial) e1250) (an e1253 (an (decide_eq_true h1254) (an (ti trivial) trivial))))))))) (ti trivial)) (Wv.refl _)
       ·injection h with h; subst h
        exact fun_ok pm pn Go.Proofs.Try.func18 (r0 := vi 0) (ans := [.reg (.n :: .n :: []), .reg (.n :: .n :: .call (vb r1180) :: nN 4 (.call (vb r1184) :: .n :: .b false :: [])), .br false, .reg (nN 4 []), .br false, .reg (.n :: []), .sub ⟨[(1, none), (3, none)], [none], []⟩ (.exit 0) (nspeculumref03_CheckGlass_l0_0_e1 a0 r1217), .reg (nN 4 []), .br false, .reg (.n :: []), .sub ⟨[(1, none), (5, none)], [none], []⟩ (.exit 2) (nspeculumref03_CheckGlass_l1_0_e1 a0 r1248), .reg (.n :: .call (vi r1251) :: .n :: []), .br false, .reg (.n :: [])]) (fr := true) (by kernel_rfl) (an (an (ti (ti trivial)) (an (an e1187 (an (not_f h1188) trivial)) (an (an (ti (ti (ti (ti trivial)))) (an (decide_eq_false h1189) trivial)) (an (an (ti trivial) e1219) (an (an (ti (ti (ti (ti trivial)))) (an (decide_eq_false h1220) trivial)) (an (an (ti trivial) e1250) (an (an e1253 (an (decide_eq_false h1254) trivial)) (an (ti trivial) trivial)))))))) (ti trivial)) (Wv.refl _)
  ·injection h with h; subst h
   exact fun_ok pm pn Go.Proofs.Try.func18 (r0 := vi 2) (ans := [.reg (.n :: .n :: []), .reg (.n :: .n :: .call (vb r1180) :: nN 4 (.call (vb r1184) :: .n :: .b false :: [])), .br true, .reg (.n :: [])]) (fr := true) (by kernel_rfl) (an (an (ti (ti trivial)) (an e1187 (an (not_t (bool_f h1188)) (an (ti trivial) trivial)))) (ti trivial)) (Wv.refl _)
 ·have e1255 := (ti (ti (an e1182 (ti (ti (an (not_t (bool_f h1183)) (an (not_t (bool_f h1183)) (an (not_t (bool_f h1183)) (an (not_t (bool_f h1183)) (an (not_t (bool_f h1183)) trivial))))))))))
  injection h with h; subst h
  exact fun_ok pm pn Go.Proofs.Try.func18 (r0 := vi 2) (ans := [.reg (.n :: .n :: []), .reg (.n :: .n :: .call (vb r1180) :: .n :: .n :: nS 4 (.b true :: [])), .br true, .reg (.n :: [])]) (fr := true) (by kernel_rfl) (an (an (ti (ti trivial)) (an e1255 (an rt (an (ti trivial) trivial)))) (ti trivial)) (Wv.refl _)
def nspeculumlaw03_Few (k : Nat) (a0 : SGlass) : Option Bool :=
  if (a0.Parts.length : Int) ≤ 8 then (some (decide ((a0.Caps.length : Int) ≤ 7))) else (if 40 < (a0.Parts.length : Int) then (if (a0.Parts.length : Int) ≤ 43 then (some (decide ((a0.Caps.length : Int) ≤ 7))) else (some false)) else (some false))
theorem nspeculumlaw03_Few_ok (k : Nat) (a0 : SGlass) (r : Bool) (h : nspeculumlaw03_Few k a0 = some r) : VC Go.Proofs.Try.prog 13 [VV.ag (c_SGlass a0)] (vb r) := by
 unfold nspeculumlaw03_Few at h
 rcases ifs h with ⟨h1265, h⟩ | ⟨h1265, h⟩
 ·have e1266 := (ti (ti (ti (ti (ti (an (decide_eq_true h1265) (an (decide_eq_true h1265) (an (decide_eq_true h1265) (an (decide_eq_true h1265) (an (decide_eq_true h1265) (ti (ti (ti (ti (an (decide_eq_true h1265) (an (decide_eq_true h1265) (ti (an (an rt trivial) (an (an rt trivial) (an (an rt trivial) (an (an rt trivial) (an rt (ti trivial)))))))))))))))))))))))
  injection h with h; subst h
  exact fun_ok pm pn Go.Proofs.Try.func13 (r0 := vb (decide ((a0.Caps.length : Int) ≤ 7))) (ans := [.reg (.n :: .n :: []), .reg (nN 5 (nS 10 (.b true :: nN 5 (.b true :: .n :: []))))]) (fr := true) (by kernel_rfl) (an (an (ti (ti trivial)) (an e1266 trivial)) (ti trivial)) (Wv.refl _)
 ·rcases ifs h with ⟨h1267, h⟩ | ⟨h1267, h⟩
  ·have e1268 := (an (decide_eq_false h1265) (decide_eq_true h1267))
   rcases ifs h with ⟨h1269, h⟩ | ⟨h1269, h⟩
   ·have e1270 := (ti (ti (ti (ti (ti (an (an (decide_eq_false h1265) trivial) (an (an (decide_eq_false h1265) trivial) (an (an (decide_eq_false h1265) trivial) (an (an (decide_eq_false h1265) trivial) (an (an (decide_eq_false h1265) trivial) (an (an (decide_eq_true h1267) trivial) (an (an (decide_eq_true h1267) trivial) (an (an (decide_eq_true h1267) trivial) (an (an (decide_eq_true h1267) trivial) (an e1268 (an (decide_eq_false h1265) (ti (an (an (decide_eq_true h1269) trivial) (an (an (decide_eq_true h1269) trivial) (an (an (decide_eq_true h1269) trivial) (an (an (decide_eq_true h1269) trivial) (an (decide_eq_true h1269) (ti trivial)))))))))))))))))))))))
    injection h with h; subst h
    exact fun_ok pm pn Go.Proofs.Try.func13 (r0 := vb (decide ((a0.Caps.length : Int) ≤ 7))) (ans := [.reg (.n :: .n :: []), .reg (nN 14 (.b true :: .b false :: nN 5 (.b true :: .n :: [])))]) (fr := true) (by kernel_rfl) (an (an (ti (ti trivial)) (an e1270 trivial)) (ti trivial)) (Wv.refl _)
   ·have e1271 := (ti (ti (ti (ti (ti (an (an (decide_eq_false h1265) trivial) (an (an (decide_eq_false h1265) trivial) (an (an (decide_eq_false h1265) trivial) (an (an (decide_eq_false h1265) trivial) (an (an (decide_eq_false h1265) trivial) (an (an (decide_eq_true h1267) trivial) (an (an (decide_eq_true h1267) trivial) (an (an (decide_eq_true h1267) trivial) (an (an (decide_eq_true h1267) trivial) (an e1268 (an (decide_eq_false h1265) (ti (an (decide_eq_false h1269) (an (decide_eq_false h1269) (an (decide_eq_false h1269) (an (decide_eq_false h1269) (an (decide_eq_false h1269) (ti trivial)))))))))))))))))))))))
    injection h with h; subst h
    exact fun_ok pm pn Go.Proofs.Try.func13 (r0 := vb false) (ans := [.reg (.n :: .n :: []), .reg (nN 14 (.b true :: .b false :: .n :: nS 4 (.b false :: .n :: [])))]) (fr := true) (by kernel_rfl) (an (an (ti (ti trivial)) (an e1271 trivial)) (ti trivial)) (Wv.refl _)
  ·have e1272 := (an (decide_eq_false h1265) (decide_eq_false h1267))
   have e1273 := (ti (ti (ti (ti (ti (an (an (decide_eq_false h1265) trivial) (an (an (decide_eq_false h1265) trivial) (an (an (decide_eq_false h1265) trivial) (an (an (decide_eq_false h1265) trivial) (an (an (decide_eq_false h1265) trivial) (an (decide_eq_false h1267) (an (decide_eq_false h1267) (an (decide_eq_false h1267) (an (decide_eq_false h1267) (an e1272 (an (decide_eq_false h1265) (ti (an rf (an rf (an rf (an rf (an rf (ti trivial)))))))))))))))))))))))
   injection h with h; subst h
   exact fun_ok pm pn Go.Proofs.Try.func13 (r0 := vb false) (ans := [.reg (.n :: .n :: []), .reg (nN 10 (nS 4 (.b false :: .b false :: .n :: nS 4 (.b false :: .n :: []))))]) (fr := true) (by kernel_rfl) (an (an (ti (ti trivial)) (an e1273 trivial)) (ti trivial)) (Wv.refl _)
theorem eqG1_11 (z0 : SGlass) : VV.ag [vi z0.Density, vi z0.Thick, VV.fw 6 (List.drop 0 (List.map unfr (List.flatMap c_SGlassPart z0.Parts))) z0.Parts.length, VV.fw 5 (List.drop 0 (List.map unfr (List.flatMap c_SGlassCap z0.Caps))) z0.Caps.length] = VV.ag [vi z0.Density, vi z0.Thick, VV.fw 6 (List.flatMap c_SGlassPart z0.Parts) z0.Parts.length, VV.fw 5 (List.flatMap c_SGlassCap z0.Caps) z0.Caps.length] := by first | rfl | simp only [drop0, unfr_vi, List.map_cons, List.map_nil, un_i, List.length_map, List.length_cons, List.length_nil, unfr_c_SGlassPart, unfr_c_SGlassCap]
def nspeculumlaw03_copied (k : Nat) (a0 : SGlass) : Option SGlass :=
  if a0.Parts.length ≤ 1000000000 then (if a0.Caps.length ≤ 1000000000 then (some a0) else none) else none
theorem nspeculumlaw03_copied_ok (k : Nat) (a0 : SGlass) (r : SGlass) (h : nspeculumlaw03_copied k a0 = some r) : VC Go.Proofs.Try.prog 15 [VV.ag (c_SGlass a0)] (VV.ag [vi r.Density, vi r.Thick, VV.fw 6 (List.flatMap c_SGlassPart r.Parts) r.Parts.length, VV.fw 5 (List.flatMap c_SGlassCap r.Caps) r.Caps.length]) := by
 unfold nspeculumlaw03_copied at h
 obtain ⟨h1279, h⟩ := ifn h
 have e1280 := (show List.length (List.flatMap c_SGlassPart a0.Parts) = a0.Parts.length * 6 ∧ a0.Parts.length * 48 ≤ 140737488355328 ∧ a0.Parts.length < 1099511627776 ∧ List.all (List.flatMap c_SGlassPart a0.Parts) VV.still = true from ⟨(by rw [flatMap_len len_c_SGlassPart] <;> simp), (by first | omega | (simp at h1279 ⊢; omega)), (by first | omega | (simp at h1279 ⊢; omega)), (by exact still_c_SGlassPart _)⟩)
 obtain ⟨h1281, h⟩ := ifn h
 have e1282 := (show List.length (List.flatMap c_SGlassCap a0.Caps) = a0.Caps.length * 5 ∧ a0.Caps.length * 32 ≤ 140737488355328 ∧ a0.Caps.length < 1099511627776 ∧ List.all (List.flatMap c_SGlassCap a0.Caps) VV.still = true from ⟨(by rw [flatMap_len len_c_SGlassCap] <;> simp), (by first | omega | (simp at h1281 ⊢; omega)), (by first | omega | (simp at h1281 ⊢; omega)), (by exact still_c_SGlassCap _)⟩)
 have e1283 := (ti (ti (ti (an e1280 (ti (ti (ti (an e1282 (ti (ti (ti (ti trivial))))))))))))
 injection h with h; subst h
 exact fun_ok pm pn Go.Proofs.Try.func15 (r0 := VV.ag [vi a0.Density, vi a0.Thick, VV.fw 6 (List.drop 0 (List.map unfr (List.flatMap c_SGlassPart a0.Parts))) a0.Parts.length, VV.fw 5 (List.drop 0 (List.map unfr (List.flatMap c_SGlassCap a0.Caps))) a0.Caps.length]) (ans := [.reg (.n :: .n :: []), .reg (.b true :: nN 3 (.b true :: nN 7 [])), .reg (.n :: .n :: [])]) (fr := true) (by kernel_rfl) (an (an (ti (ti trivial)) (an e1283 (an (ti (ti trivial)) trivial))) (an (ti (ti (ti (an (show List.all (List.flatMap c_SGlassPart a0.Parts) new0 = true from (by exact new0_c_SGlassPart _)) (an (show List.all (List.flatMap c_SGlassCap a0.Caps) new0 = true from (by exact new0_c_SGlassCap _)) trivial))))) trivial)) (Wv.of_eq (eqG1_11 a0))
def nspeculumbase_Floor (k : Nat) (a0 : Int) (a1 : Int) : Option Int :=
  if a1 ≠ 0 then (if (a0.tmod a1) < 0 then (some (w64 ((w64 (a0.tdiv a1)) - 1))) else (some (w64 (a0.tdiv a1)))) else none
theorem nspeculumbase_Floor_ok (k : Nat) (a0 : Int) (a1 : Int) (r : Int) (h : nspeculumbase_Floor k a0 a1 = some r) : VC Go.Proofs.Try.prog 76 [vi a0, vi a1] (vi r) := by
 unfold nspeculumbase_Floor at h
 obtain ⟨h1286, h⟩ := ifn h
 rcases ifs h with ⟨h1287, h⟩ | ⟨h1287, h⟩
 ·injection h with h; subst h
  exact fun_ok pm pn Go.Proofs.Try.func76 (r0 := vi (w64 ((w64 (a0.tdiv a1)) - 1))) (ans := [.reg (.n :: []), .reg (nN 4 []), .reg (nN 4 []), .br true, .reg (nN 3 []), .reg (.n :: .n :: [])]) (fr := true) (by kernel_rfl) (an (an (ti trivial) (an (ti (ti (an h1286 (ti trivial)))) (an (an (ti (ti (an h1286 (ti trivial)))) (an (decide_eq_true h1287) (ti (ti (ti trivial))))) (an (ti (ti trivial)) trivial)))) (ti trivial)) (Wv.refl _)
 ·injection h with h; subst h
  exact fun_ok pm pn Go.Proofs.Try.func76 (r0 := vi (w64 (a0.tdiv a1))) (ans := [.reg (.n :: []), .reg (nN 4 []), .reg (nN 4 []), .br false, .reg (.n :: .n :: [])]) (fr := true) (by kernel_rfl) (an (an (ti trivial) (an (ti (ti (an h1286 (ti trivial)))) (an (an (ti (ti (an h1286 (ti trivial)))) (an (decide_eq_false h1287) trivial)) (an (ti (ti trivial)) trivial)))) (ti trivial)) (Wv.refl _)
def nspeculumbase_Ceil (k : Nat) (a0 : Int) (a1 : Int) : Option Int :=
  (nspeculumbase_Floor k (w64 (0 - a0)) a1).bind fun r1294 => (some (w64 (0 - r1294)))
theorem nspeculumbase_Ceil_ok (k : Nat) (a0 : Int) (a1 : Int) (r : Int) (h : nspeculumbase_Ceil k a0 a1 = some r) : VC Go.Proofs.Try.prog 75 [vi a0, vi a1] (vi r) := by
 unfold nspeculumbase_Ceil at h
 obtain ⟨r1294, h1295, h⟩ := bs h
 have e1296 := (nspeculumbase_Floor_ok k (w64 (0 - a0)) a1 _ h1295)
 injection h with h; subst h
 exact fun_ok pm pn Go.Proofs.Try.func75 (r0 := vi (w64 (0 - r1294))) (ans := [.reg (.n :: []), .reg (nN 3 (.call (vi r1294) :: .n :: .n :: []))]) (fr := true) (by kernel_rfl) (an (an (ti trivial) (an (ti (ti (ti (an e1296 (ti (ti trivial)))))) trivial)) (ti trivial)) (Wv.refl _)
theorem eqG1_12 (z0 : Int) (z1 : Int) : VV.ag [vi z0, vi z1] = VV.ag (c_SRange (⟨z0, z1⟩ : SRange)) := by first | rfl | simp only [unfr_vi, List.map_cons, List.map_nil, un_i, unfr_c_SRange]
def nspeculumref03_Rounded (k : Nat) (a0 : Int) (a1 : Int) : Option SRange :=
  (nspeculumbase_Floor k a0 a1).bind fun r1300 => ((nspeculumbase_Ceil k a0 a1).bind fun r1303 => (some (⟨r1300, r1303⟩ : SRange)))
theorem nspeculumref03_Rounded_ok (k : Nat) (a0 : Int) (a1 : Int) (r : SRange) (h : nspeculumref03_Rounded k a0 a1 = some r) : VC Go.Proofs.Try.prog 32 [vi a0, vi a1] (VV.ag (c_SRange r)) := by
 unfold nspeculumref03_Rounded at h
 obtain ⟨r1300, h1301, h⟩ := bs h
 have e1302 := (nspeculumbase_Floor_ok k a0 a1 _ h1301)
 obtain ⟨r1303, h1304, h⟩ := bs h
 have e1305 := (ti (ti (an e1302 (ti (ti (an (nspeculumbase_Ceil_ok k a0 a1 _ h1304) (ti (ti trivial))))))))
 injection h with h; subst h
 exact fun_ok pm pn Go.Proofs.Try.func32 (r0 := VV.ag [vi r1300, vi r1303]) (ans := [.reg (.n :: []), .reg (.n :: .n :: .call (vi r1300) :: .n :: .n :: .call (vi r1303) :: .n :: .n :: [])]) (fr := true) (by kernel_rfl) (an (an (ti trivial) (an e1305 trivial)) (an (ti (ti (ti trivial))) trivial)) (Wv.of_eq (eqG1_12 r1300 r1303))
end Go.Proofs.Ytclabanknlmneaa.Vg

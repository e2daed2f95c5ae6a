/- Written by a program out of the program: what Go functions do, as plain functions, and their contracts. -/
import Derived.Test.YtjhclaollpkdgaaK1
namespace Go.Proofs.Ytjhclaollpkdgaa.Vg
set_option maxRecDepth 100000
set_option maxHeartbeats 4000000
set_option linter.unusedVariables false
set_option linter.unusedSimpArgs false
open Go Go.Proofs.Ytjhclaollpkdgaa.Ev Go.Proofs.Ytjhclaollpkdgaa.Vv
structure A23 where
  e0 : Int
  e1 : Int
  deriving Inhabited
def c_A23 (x : A23) : List VV := [vi x.e0, vi x.e1]
theorem len_c_A23 (x : A23) : (c_A23 x).length = 2 := rfl
theorem still_c_A23 (xs : List A23) : (xs.flatMap c_A23).all VV.still = true := all_flat (fun _ => rfl) xs
theorem isC_c_A23 (xs : List A23) : (xs.flatMap c_A23).all VV.isC = true := all_flat (fun _ => rfl) xs
theorem new0_c_A23 (xs : List A23) : (xs.flatMap c_A23).all new0 = true := all_flat (fun _ => rfl) xs
theorem unfr_c_A23 (xs : List A23) : (xs.flatMap c_A23).map unfr = xs.flatMap c_A23 := unfr_flat (fun _ => rfl) xs
structure Swork where
  sequence : (List Int)
  minutes : Int
  deriving Inhabited
def c_Swork (x : Swork) : List VV := [VV.tr (List.map vi x.sequence) x.sequence.length, vi x.minutes]
theorem len_c_Swork (x : Swork) : (c_Swork x).length = 2 := rfl
def g_Swork (x : Swork) : List VV := [VV.fr (List.map vi x.sequence) x.sequence.length, vi x.minutes]
theorem len_g_Swork (x : Swork) : (g_Swork x).length = 2 := rfl
theorem still_c_Swork (xs : List Swork) : (xs.flatMap c_Swork).all VV.still = true := all_flat (fun _ => rfl) xs
theorem still_g_Swork (xs : List Swork) : (xs.flatMap g_Swork).all VV.still = true := all_flat (fun _ => rfl) xs
theorem unfr_c_Swork (xs : List Swork) : (xs.flatMap c_Swork).map unfr = xs.flatMap c_Swork := unfr_flat2 (fun _ => rfl) xs
theorem unfr_g_Swork (xs : List Swork) : (xs.flatMap g_Swork).map unfr = xs.flatMap c_Swork := unfr_flat2 (fun _ => rfl) xs
theorem new0_g_Swork (xs : List Swork) : (xs.flatMap g_Swork).all new0 = true := all_flat (fun _ => rfl) xs
theorem ag80 : isAggT Go.Proofs.Try.prog 80 = some true := by kernel_rfl
theorem sz80 : szOf Go.Proofs.Try.prog 80 = some 3 := by kernel_rfl
def nawake (k : Nat) : Option Bool := some true
theorem nawake_ok (k : Nat) (r : Bool) (h : nawake k = some r) : VC Go.Proofs.Try.prog 6 [] (vb r) := by
  injection h with h; subst h
  exact vc_awake
def ngrind_validGrits (k : Nat) (a0 : (List SGrit)) : Option (List SGrit) :=
  some a0
theorem ngrind_validGrits_ok (k : Nat) (a0 : (List SGrit)) (r : (List SGrit)) (h : ngrind_validGrits k a0 = some r) : VC Go.Proofs.Try.prog 35 [VV.tr (List.flatMap c_SGrit a0) a0.length] (VV.fn 62 [VV.tp [VV.tr (List.flatMap c_SGrit r) r.length] 0]) := by
 unfold ngrind_validGrits at h
 injection h with h; subst h
 exact fun_ok pm pn Go.Proofs.Try.func35 (r0 := VV.fn 62 [VV.tp [VV.tr (List.flatMap c_SGrit a0) a0.length] 0]) (ans := [.reg (.n :: .n :: []), .frz 0, .reg (.n :: .n :: [])]) (fr := false) (by kernel_rfl) (an (an (ti (ti trivial)) (an (ti (ti trivial)) trivial)) (ti trivial)) (Wv.refl _)
theorem eqKQ_0 (z0 : A23) : [vi 0, vi 1000000, VV.tr (List.map vi ([z0.e0, z0.e1] : List Int)) (([z0.e0, z0.e1] : List Int).length)] = [vi 0, vi 1000000, VV.tr [vi z0.e0, vi z0.e1] 2] := by first | rfl | (simp only [unfr_vi, List.map_cons, List.map_nil, un_i, un_tr, List.length_map, List.length_cons, List.length_nil]; done) | (simp only [unfr_vi, List.map_cons, List.map_nil, un_i, un_tr, List.length_map, List.length_cons, List.length_nil]; rfl) | (simp only [unfr_vi, List.map_cons, List.map_nil, un_i, un_tr, List.length_map, List.length_cons, List.length_nil, List.length_cons, List.length_nil, List.length_append]; done)
def ngrind_validGrits_1 (k : Nat) (q0_0 : (List SGrit)) : Option Int :=
  (ngrind_CheckGrits k q0_0).bind fun r1305 => (some r1305)
theorem ngrind_validGrits_1_ok (k : Nat) (q0_0 : (List SGrit)) (r : Int) (h : ngrind_validGrits_1 k q0_0 = some r) : VC Go.Proofs.Try.prog 62 [VV.tp [VV.tr (List.flatMap c_SGrit q0_0) q0_0.length] 0] (vi r) := by
 unfold ngrind_validGrits_1 at h
 have e1304 := (show loadL Go.Proofs.Try.prog 22 0 [VV.tr (List.flatMap c_SGrit q0_0) q0_0.length] = some (VV.tr (List.flatMap c_SGrit q0_0) q0_0.length) from (ld_one ag22 rfl))
 obtain ⟨r1305, h1306, h⟩ := bs h
 have e1307 := (an e1304 (an (ngrind_CheckGrits_ok k q0_0 _ h1306) (ti trivial)))
 injection h with h; subst h
 exact fun_ok pm pn Go.Proofs.Try.func62 (r0 := vi r1305) (ans := [.reg (.n :: []), .reg (.v (VV.tr (List.flatMap c_SGrit q0_0) q0_0.length) :: .call (vi r1305) :: .n :: [])]) (fr := true) (by kernel_rfl) (an (an (ti trivial) (an e1307 trivial)) (ti trivial)) (Wv.refl _)
def arKQ_0 (z0 : ((List SGrit) × ((List Int) × Int × Int))) : List Ans := (.n :: .v (VV.fn 62 [VV.tp [VV.tr (List.flatMap c_SGrit z0.1) z0.1.length] 0]) :: .n :: [])
def arKQ_1 (z0 : ((List SGrit) × ((List Int) × Int × Int))) : List Ans := (.n :: .v (VV.fn 64 [VV.tp [VV.tr (List.map vi z0.2.1) z0.2.1.length] 0, VV.tp [vi z0.2.2.1] 0, VV.tp [vi z0.2.2.2] 0]) :: .n :: [])
def ngrind_firstOf_c0_Lgrind_validGrits_1_grind_within_1 (k : Nat) (a0 : ((List SGrit) × ((List Int) × Int × Int))) : Option Int :=
  (ngrind_validGrits_1 k a0.1).bind fun r1320 => (if r1320 = 0 then ((ngrind_within_1 k a0.2.1 a0.2.2.1 a0.2.2.2).bind fun r1326 => (if r1326 = 0 then (some 0) else (some r1326))) else (some r1320))
theorem ngrind_firstOf_c0_Lgrind_validGrits_1_grind_within_1_ok (k : Nat) (a0 : ((List SGrit) × ((List Int) × Int × Int))) (r : Int) (h : ngrind_firstOf_c0_Lgrind_validGrits_1_grind_within_1 k a0 = some r) : VC Go.Proofs.Try.prog 34 [VV.tr ([VV.fn 62 [VV.tp [VV.tr (List.flatMap c_SGrit a0.1) a0.1.length] 0], VV.fn 64 [VV.tp [VV.tr (List.map vi a0.2.1) a0.2.1.length] 0, VV.tp [vi a0.2.2.1] 0, VV.tp [vi a0.2.2.2] 0]]) 2] (vi r) := by
 unfold ngrind_firstOf_c0_Lgrind_validGrits_1_grind_within_1 at h
 have e1318 := (show (0 : Int) ≤ 0 ∧ (0 : Int) < ((2 : Nat) : Int) from ⟨by decide, by decide⟩)
 have e1319 := (show loadL Go.Proofs.Try.prog 83 ((0 : Int).toNat * 1) ([VV.fn 62 [VV.tp [VV.tr (List.flatMap c_SGrit a0.1) a0.1.length] 0], VV.fn 64 [VV.tp [VV.tr (List.map vi a0.2.1) a0.2.1.length] 0, VV.tp [vi a0.2.2.1] 0, VV.tp [vi a0.2.2.2] 0]]) = some (VV.fn 62 [VV.tp [VV.tr (List.flatMap c_SGrit a0.1) a0.1.length] 0]) from (ld_one ag83 rfl))
 obtain ⟨r1320, h1321, h⟩ := bs h
 have e1322 := (ti (an (ngrind_validGrits_1_ok k a0.1 _ h1321) (ti trivial)))
 rcases ifs h with ⟨h1323, h⟩ | ⟨h1323, h⟩
 ·have e1324 := (show (0 : Int) ≤ 1 ∧ (1 : Int) < ((2 : Nat) : Int) from ⟨by decide, by decide⟩)
  have e1325 := (show loadL Go.Proofs.Try.prog 83 ((1 : Int).toNat * 1) ([VV.fn 62 [VV.tp [VV.tr (List.flatMap c_SGrit a0.1) a0.1.length] 0], VV.fn 64 [VV.tp [VV.tr (List.map vi a0.2.1) a0.2.1.length] 0, VV.tp [vi a0.2.2.1] 0, VV.tp [vi a0.2.2.2] 0]]) = some (VV.fn 64 [VV.tp [VV.tr (List.map vi a0.2.1) a0.2.1.length] 0, VV.tp [vi a0.2.2.1] 0, VV.tp [vi a0.2.2.2] 0]) from (ld_one ag83 rfl))
  obtain ⟨r1326, h1327, h⟩ := bs h
  have e1328 := (ngrind_within_1_ok k a0.2.1 a0.2.2.1 a0.2.2.2 _ h1327)
  rcases ifs h with ⟨h1329, h⟩ | ⟨h1329, h⟩
  ·injection h with h; subst h
   exact fun_ok pm pn Go.Proofs.Try.func34 (r0 := vi 0) (ans := [.reg (.n :: []), .reg (nN 3 []), .unr 4, .reg (.n :: []), .br true, .reg (arKQ_0 a0), .reg (.n :: .call (vi r1320) :: .n :: []), .reg (.n :: .n :: []), .br false, .reg (.n :: .n :: []), .reg (.n :: []), .br true, .reg (arKQ_1 a0), .reg (.n :: .call (vi r1326) :: .n :: []), .reg (.n :: .n :: []), .br false, .reg (.n :: .n :: []), .reg (.n :: []), .br false, .reg (.n :: [])]) (fr := true) (by kernel_rfl) (an (an (ti trivial) (an (an (ti (ti (ti trivial))) (an (an (ti trivial) (an (an (show (decide ((0 : Int) < 2)) = true from (decide_eq_true (by decide))) trivial) (an (an (an e1318 (an e1319 (ti trivial))) (an e1322 (an (ti (ti trivial)) (an (not_f (decide_eq_true h1323)) trivial)))) (ti (ti trivial))))) (an (an (ti trivial) (an (an (show (decide ((1 : Int) < 2)) = true from (decide_eq_true (by decide))) trivial) (an (an (an e1324 (an e1325 (ti trivial))) (an (ti (an e1328 (ti trivial))) (an (ti (ti trivial)) (an (not_f (decide_eq_true h1329)) trivial)))) (ti (ti trivial))))) (an (ti trivial) (an (show (decide ((2 : Int) < 2)) = false from (decide_eq_false (by decide))) trivial))))) (an (ti trivial) trivial))) (ti trivial)) (Wv.refl _)
  ·injection h with h; subst h
   exact fun_ok pm pn Go.Proofs.Try.func34 (r0 := vi r1326) (ans := [.reg (.n :: []), .reg (nN 3 []), .unr 3, .reg (.n :: []), .br true, .reg (arKQ_0 a0), .reg (.n :: .call (vi r1320) :: .n :: []), .reg (.n :: .n :: []), .br false, .reg (.n :: .n :: []), .reg (.n :: []), .br true, .reg (arKQ_1 a0), .reg (.n :: .call (vi r1326) :: .n :: []), .reg (.n :: .n :: []), .br true, .reg (.n :: .n :: [])]) (fr := true) (by kernel_rfl) (an (an (ti trivial) (an (ti (ti (ti trivial))) (an (an (ti trivial) (an (an (show (decide ((0 : Int) < 2)) = true from (decide_eq_true (by decide))) trivial) (an (an (an e1318 (an e1319 (ti trivial))) (an e1322 (an (ti (ti trivial)) (an (not_f (decide_eq_true h1323)) trivial)))) (ti (ti trivial))))) (an (ti trivial) (an (an (show (decide ((1 : Int) < 2)) = true from (decide_eq_true (by decide))) trivial) (an (an e1324 (an e1325 (ti trivial))) (an (ti (an e1328 (ti trivial))) (an (ti (ti trivial)) (an (not_t (decide_eq_false h1329)) (an (ti (ti trivial)) trivial)))))))))) (ti trivial)) (Wv.refl _)
 ·injection h with h; subst h
  exact fun_ok pm pn Go.Proofs.Try.func34 (r0 := vi r1320) (ans := [.reg (.n :: []), .reg (nN 3 []), .unr 2, .reg (.n :: []), .br true, .reg (arKQ_0 a0), .reg (.n :: .call (vi r1320) :: .n :: []), .reg (.n :: .n :: []), .br true, .reg (.n :: .n :: [])]) (fr := true) (by kernel_rfl) (an (an (ti trivial) (an (ti (ti (ti trivial))) (an (ti trivial) (an (an (show (decide ((0 : Int) < 2)) = true from (decide_eq_true (by decide))) trivial) (an (an e1318 (an e1319 (ti trivial))) (an e1322 (an (ti (ti trivial)) (an (not_t (decide_eq_false h1323)) (an (ti (ti trivial)) trivial))))))))) (ti trivial)) (Wv.refl _)
theorem eqKQ_1 (z0 : (List SGrit)) (z1 : ((List Int) × Int × Int)) : [VV.tr ([VV.fn 62 [VV.tp [VV.tr (List.flatMap c_SGrit ((z0, z1).1)) (((z0, z1).1).length)] 0], VV.fn 64 [VV.tp [VV.tr (List.map vi (((z0, z1).2).1)) ((((z0, z1).2).1).length)] 0, VV.tp [vi (((z0, z1).2).2.1)] 0, VV.tp [vi (((z0, z1).2).2.2)] 0]]) 2] = [VV.tr (List.drop 0 (List.map unfr [VV.fn 62 [VV.tp [VV.tr (List.flatMap c_SGrit z0) z0.length] 0], VV.fn 64 [VV.tp [VV.tr (List.map vi z1.1) z1.1.length] 0, VV.tp [vi z1.2.1] 0, VV.tp [vi z1.2.2] 0]])) 2] := by first | rfl | (simp only [drop0, unfr_vi, List.map_cons, List.map_nil, un_i, un_tr, List.length_map, List.length_cons, List.length_nil, unfr_c_SGrit]; done) | (simp only [drop0, unfr_vi, List.map_cons, List.map_nil, un_i, un_tr, List.length_map, List.length_cons, List.length_nil, unfr_c_SGrit]; rfl) | (simp only [drop0, unfr_vi, List.map_cons, List.map_nil, un_i, un_tr, List.length_map, List.length_cons, List.length_nil, unfr_c_SGrit, c_SGrit, List.length_cons, List.length_nil, List.length_append]; done)
def ngrind_up (k : Nat) (a0 : Int) (a1 : Int) : Option Int :=
  if a1 ≠ 0 then (some (w64 ((w64 ((w64 (a0 + a1)) - 1)).tdiv a1))) else none
theorem ngrind_up_ok (k : Nat) (a0 : Int) (a1 : Int) (r : Int) (h : ngrind_up k a0 a1 = some r) : VC Go.Proofs.Try.prog 43 [vi a0, vi a1] (vi r) := by
 unfold ngrind_up at h
 obtain ⟨h1357, h⟩ := ifn h
 injection h with h; subst h
 exact fun_ok pm pn Go.Proofs.Try.func43 (r0 := vi (w64 ((w64 ((w64 (a0 + a1)) - 1)).tdiv a1))) (ans := [.reg (.n :: []), .reg (nN 7 [])]) (fr := true) (by kernel_rfl) (an (an (ti trivial) (an (ti (ti (ti (ti (ti (an h1357 (ti trivial))))))) trivial)) (ti trivial)) (Wv.refl _)
def ncmp_isNaN_int_ (k : Nat) (a0 : Int) : Option Bool :=
  some (!(decide (a0 = a0)))
theorem ncmp_isNaN_int__ok (k : Nat) (a0 : Int) (r : Bool) (h : ncmp_isNaN_int_ k a0 = some r) : VC Go.Proofs.Try.prog 85 [vi a0] (vb r) := by
 unfold ncmp_isNaN_int_ at h
 injection h with h; subst h
 exact fun_ok pm pn Go.Proofs.Try.func85 (r0 := vb (!(decide (a0 = a0)))) (ans := [.reg (.n :: []), .reg (nN 4 [])]) (fr := true) (by kernel_rfl) (an (an (ti trivial) (an (ti (ti (ti (ti trivial)))) trivial)) (ti trivial)) (Wv.refl _)
def ncmp_Compare_int_ (k : Nat) (a0 : Int) (a1 : Int) : Option Int :=
  (ncmp_isNaN_int_ k a0).bind fun r1393 => ((ncmp_isNaN_int_ k a1).bind fun r1396 => (if r1393 = true then (if r1396 = true then (some 0) else (some (-1))) else (if r1396 = true then (some 1) else (if a0 < a1 then (some (-1)) else (if a1 < a0 then (some 1) else (some 0))))))
theorem ncmp_Compare_int__ok (k : Nat) (a0 : Int) (a1 : Int) (r : Int) (h : ncmp_Compare_int_ k a0 a1 = some r) : VC Go.Proofs.Try.prog 61 [vi a0, vi a1] (vi r) := by
 unfold ncmp_Compare_int_ at h
 obtain ⟨r1393, h1394, h⟩ := bs h
 have e1395 := (ti (an (ncmp_isNaN_int__ok k a0 _ h1394) (ti trivial)))
 obtain ⟨r1396, h1397, h⟩ := bs h
 have e1398 := (ti (an (ncmp_isNaN_int__ok k a1 _ h1397) (ti trivial)))
 rcases ifs h with ⟨h1399, h⟩ | ⟨h1399, h⟩
 ·rcases ifs h with ⟨h1400, h⟩ | ⟨h1400, h⟩
  ·injection h with h; subst h
   exact fun_ok pm pn Go.Proofs.Try.func61 (r0 := vi 0) (ans := [.reg (.n :: []), .reg (.n :: .call (vb r1393) :: .n :: []), .reg (.n :: .call (vb r1396) :: .n :: []), .reg (.n :: []), .br true, .reg (.n :: []), .br true, .reg (.n :: [])]) (fr := true) (by kernel_rfl) (an (an (ti trivial) (an e1395 (an e1398 (an (ti trivial) (an h1399 (an (ti trivial) (an h1400 (an (ti trivial) trivial)))))))) (ti trivial)) (Wv.refl _)
  ·injection h with h; subst h
   exact fun_ok pm pn Go.Proofs.Try.func61 (r0 := vi (-1)) (ans := [.reg (.n :: []), .reg (.n :: .call (vb r1393) :: .n :: []), .reg (.n :: .call (vb r1396) :: .n :: []), .reg (.n :: []), .br true, .reg (.n :: []), .br false, .reg (.n :: [])]) (fr := true) (by kernel_rfl) (an (an (ti trivial) (an e1395 (an e1398 (an (ti trivial) (an h1399 (an (an (ti trivial) (an (bool_f h1400) trivial)) (an (ti trivial) trivial))))))) (ti trivial)) (Wv.refl _)
 ·rcases ifs h with ⟨h1401, h⟩ | ⟨h1401, h⟩
  ·injection h with h; subst h
   exact fun_ok pm pn Go.Proofs.Try.func61 (r0 := vi 1) (ans := [.reg (.n :: []), .reg (.n :: .call (vb r1393) :: .n :: []), .reg (.n :: .call (vb r1396) :: .n :: []), .reg (.n :: []), .br false, .reg (.n :: []), .br true, .reg (.n :: [])]) (fr := true) (by kernel_rfl) (an (an (ti trivial) (an e1395 (an e1398 (an (an (ti trivial) (an (bool_f h1399) trivial)) (an (ti trivial) (an h1401 (an (ti trivial) trivial))))))) (ti trivial)) (Wv.refl _)
  ·rcases ifs h with ⟨h1402, h⟩ | ⟨h1402, h⟩
   ·injection h with h; subst h
    exact fun_ok pm pn Go.Proofs.Try.func61 (r0 := vi (-1)) (ans := [.reg (.n :: []), .reg (.n :: .call (vb r1393) :: .n :: []), .reg (.n :: .call (vb r1396) :: .n :: []), .reg (.n :: []), .br false, .reg (.n :: []), .br false, .reg (nN 3 []), .br true, .reg (.n :: [])]) (fr := true) (by kernel_rfl) (an (an (ti trivial) (an e1395 (an e1398 (an (an (ti trivial) (an (bool_f h1399) trivial)) (an (an (ti trivial) (an (bool_f h1401) trivial)) (an (ti (ti (ti trivial))) (an (decide_eq_true h1402) (an (ti trivial) trivial)))))))) (ti trivial)) (Wv.refl _)
   ·rcases ifs h with ⟨h1403, h⟩ | ⟨h1403, h⟩
    ·injection h with h; subst h
     exact fun_ok pm pn Go.Proofs.Try.func61 (r0 := vi 1) (ans := [.reg (.n :: []), .reg (.n :: .call (vb r1393) :: .n :: []), .reg (.n :: .call (vb r1396) :: .n :: []), .reg (.n :: []), .br false, .reg (.n :: []), .br false, .reg (nN 3 []), .br false, .reg (nN 3 []), .br true, .reg (.n :: [])]) (fr := true) (by kernel_rfl) (an (an (ti trivial) (an e1395 (an e1398 (an (an (ti trivial) (an (bool_f h1399) trivial)) (an (an (ti trivial) (an (bool_f h1401) trivial)) (an (an (ti (ti (ti trivial))) (an (decide_eq_false h1402) trivial)) (an (ti (ti (ti trivial))) (an (decide_eq_true h1403) (an (ti trivial) trivial))))))))) (ti trivial)) (Wv.refl _)
    ·injection h with h; subst h
     exact fun_ok pm pn Go.Proofs.Try.func61 (r0 := vi 0) (ans := [.reg (.n :: []), .reg (.n :: .call (vb r1393) :: .n :: []), .reg (.n :: .call (vb r1396) :: .n :: []), .reg (.n :: []), .br false, .reg (.n :: []), .br false, .reg (nN 3 []), .br false, .reg (nN 3 []), .br false, .reg (.n :: [])]) (fr := true) (by kernel_rfl) (an (an (ti trivial) (an e1395 (an e1398 (an (an (ti trivial) (an (bool_f h1399) trivial)) (an (an (ti trivial) (an (bool_f h1401) trivial)) (an (an (ti (ti (ti trivial))) (an (decide_eq_false h1402) trivial)) (an (an (ti (ti (ti trivial))) (an (decide_eq_false h1403) trivial)) (an (ti trivial) trivial)))))))) (ti trivial)) (Wv.refl _)
def ncmp_Or_int__l0_0_h (a0 : (List Int)) (x8 : Int) : VS := ⟨mkA [(3, vi 0), (6, VV.tr (List.map vi a0) a0.length), (7, vi (a0.length : Int)), (8, vi x8)], [], .nil⟩
def ncmp_Or_int__l0_0_e0 (a0 : (List Int)) (r : Int) : VS := ⟨mkA [(2, vi r)], [], .nil⟩
def ncmp_Or_int__l0_0_e1 (a0 : (List Int)) (r : Unit) : VS := ⟨mkA [(3, vi 0)], [], .nil⟩
def ncmp_Or_int__l0_0 (k : Nat) (a0 : (List Int)) : Nat → Int → Option (Sum Int Unit)
  | 0, _ => none
  | fuel + 1, x8 => if x8 < (a0.length : Int) then (if 0 ≤ x8 ∧ x8 < (a0.length : Int) then (if (a0.getD x8.toNat 0) = 0 then (ncmp_Or_int__l0_0 k a0 fuel (w64 (x8 + 1))) else (some (.inl (a0.getD x8.toNat 0)))) else none) else (some (.inr ()))
theorem ncmp_Or_int__l0_0_ok (k : Nat) (a0 : (List Int)) : ∀ (fuel : Nat) (x8 : Int) (r : Sum Int Unit), ncmp_Or_int__l0_0 k a0 fuel x8 = some r → (match r with | .inl r => VLoop none Go.Proofs.Try.prog (szF Go.Proofs.Try.f87) (bodyOf Go.Proofs.Try.f87 0) (ncmp_Or_int__l0_0_h a0 x8) .ret (ncmp_Or_int__l0_0_e0 a0 r) | .inr r => VLoop none Go.Proofs.Try.prog (szF Go.Proofs.Try.f87) (bodyOf Go.Proofs.Try.f87 0) (ncmp_Or_int__l0_0_h a0 x8) (.exit 0) (ncmp_Or_int__l0_0_e1 a0 r)) := by
 intro fuel
 induction fuel with
 | zero => intro x8 r h; rw [ncmp_Or_int__l0_0.eq_1] at h; cases h
 | succ fuel ih =>
  intro x8 r h
  rw [ncmp_Or_int__l0_0.eq_2] at h
  rcases ifs h with ⟨h1436, h⟩ | ⟨h1436, h⟩
  ·obtain ⟨h1437, h⟩ := ifn h
   have e1438 := (show loadL Go.Proofs.Try.prog 3 (x8.toNat * 1) (List.map vi a0) = some (vi (a0.getD x8.toNat 0)) from ld_map ag3 vi a0 0 h1437 (by omega))
   rcases ifs h with ⟨h1439, h⟩ | ⟨h1439, h⟩
   ·have h2 := ih _ _ h
    obtain ⟨q, hv, hq⟩ := pkR (rd := none) (P := Go.Proofs.Try.prog) (fn := Go.Proofs.Try.f87) (k := 0) (s := (ncmp_Or_int__l0_0_h a0 x8)) (ans := [.reg (.n :: []), .br true, .reg (.n :: .v (vi (a0.getD x8.toNat 0)) :: .n :: []), .reg (nN 3 []), .br false, .reg (.n :: .n :: [])]) (c := ⟨[(3, none), (6, none), (7, none), (8, none)], [], []⟩) (e := .normal) (s1 := (ncmp_Or_int__l0_0_h a0 (w64 (x8 + 1)))) (an (an (ti trivial) (an (an (decide_eq_true h1436) trivial) (an (an (an h1437 (an e1438 (ti trivial))) (an (ti (ti (ti trivial))) (an (not_f (decide_eq_true h1439)) trivial))) (ti (ti trivial))))) (ti trivial)) (by kernel_rfl)
    cases r with
    | inl r => exact round_next pm pn hv hq h2
    | inr r =>
     exact round_next pm pn hv hq h2
   ·injection h with h; subst h
    exact round_stop (c := ⟨[(2, none)], [], []⟩) (s1 := (ncmp_Or_int__l0_0_e0 a0 (a0.getD x8.toNat 0))) pm pn (ans := [.reg (.n :: []), .br true, .reg (.n :: .v (vi (a0.getD x8.toNat 0)) :: .n :: []), .reg (nN 3 []), .br true, .reg (.n :: .n :: [])]) (by kernel_rfl) (by intro e; cases e) (an (an (ti trivial) (an (an (decide_eq_true h1436) trivial) (an (an h1437 (an e1438 (ti trivial))) (an (ti (ti (ti trivial))) (an (not_t (decide_eq_false h1439)) (an (ti (ti trivial)) trivial)))))) (ti trivial))
  ·injection h with h; subst h
   exact round_stop (c := ⟨[(3, none)], [], []⟩) (s1 := (ncmp_Or_int__l0_0_e1 a0 ())) pm pn (ans := [.reg (.n :: []), .br false]) (by kernel_rfl) (by intro e; cases e) (an (an (ti trivial) (an (decide_eq_false h1436) trivial)) (ti trivial))
def ncmp_Or_int_ (k : Nat) (a0 : (List Int)) : Option Int :=
  (ncmp_Or_int__l0_0 k a0 k 0).bind fun r1441 => (match r1441 with | .inl r1442 => (some r1442) | .inr r1443 => (some 0))
theorem ncmp_Or_int__ok (k : Nat) (a0 : (List Int)) (r : Int) (h : ncmp_Or_int_ k a0 = some r) : VC Go.Proofs.Try.prog 87 [VV.tr (List.map vi a0) a0.length] (vi r) := by
 unfold ncmp_Or_int_ at h
 obtain ⟨r1441, h1440, h⟩ := bs h
 have hph1440 := ncmp_Or_int__l0_0_ok k a0 _ _ _ h1440
 cases r1441 with
 | inl r1442 =>
  dsimp only at h
  have e1444 := (an (ti trivial) (VRun.loop hph1440))
  injection h with h; subst h
  exact fun_ok pm pn Go.Proofs.Try.func87 (r0 := vi r1442) (ans := [.reg (.n :: []), .reg (.n :: []), .reg (nN 3 []), .sub ⟨[(3, none), (6, none), (7, none), (8, none)], [], []⟩ .ret (ncmp_Or_int__l0_0_e0 a0 r1442)]) (fr := true) (by kernel_rfl) (an (an (ti trivial) (an (ti trivial) (an (ti (ti (ti trivial))) e1444))) (ti trivial)) (Wv.refl _)
 | inr r1443 =>
  dsimp only at h
  have e1445 := (an (ti trivial) (VRun.loop hph1440))
  injection h with h; subst h
  exact fun_ok pm pn Go.Proofs.Try.func87 (r0 := vi 0) (ans := [.reg (.n :: []), .reg (.n :: []), .reg (nN 3 []), .sub ⟨[(3, none), (6, none), (7, none), (8, none)], [], []⟩ (.exit 0) (ncmp_Or_int__l0_0_e1 a0 r1443), .reg (.n :: .n :: [])]) (fr := true) (by kernel_rfl) (an (an (ti trivial) (an (ti trivial) (an (an (ti (ti (ti trivial))) e1445) (an (ti (ti trivial)) trivial)))) (ti trivial)) (Wv.refl _)
theorem eqKQ_2 (z0 : Int) (z1 : Int) : [VV.tr (List.map vi ([z0, z1] : List Int)) (([z0, z1] : List Int).length)] = [VV.tr [vi z0, vi z1] 2] := by first | rfl | (simp only [unfr_vi, List.map_cons, List.map_nil, un_i, un_tr, List.length_map, List.length_cons, List.length_nil]; done) | (simp only [unfr_vi, List.map_cons, List.map_nil, un_i, un_tr, List.length_map, List.length_cons, List.length_nil]; rfl) | (simp only [unfr_vi, List.map_cons, List.map_nil, un_i, un_tr, List.length_map, List.length_cons, List.length_nil, List.length_cons, List.length_nil, List.length_append]; done)
def arKQ_2 (z0 : Int) (z1 : Int) (z2 : Int) : List Ans := (nN 4 (.call (vi z0) :: nN 6 (.call (vi z1) :: .v VV.any :: .call (vi z2) :: .n :: .n :: [])))
def n_grind_work_isShorter (k : Nat) (a0 : Swork) (a1 : Swork) : Option Bool :=
  (ncmp_Compare_int_ k a0.minutes a1.minutes).bind fun r1450 => ((ncmp_Compare_int_ k (a0.sequence.length : Int) (a1.sequence.length : Int)).bind fun r1453 => ((ncmp_Or_int_ k ([r1450, r1453] : List Int)).bind fun r1456 => (some (decide (r1456 < 0)))))
theorem n_grind_work_isShorter_ok (k : Nat) (a0 : Swork) (a1 : Swork) (r : Bool) (h : n_grind_work_isShorter k a0 a1 = some r) : VC Go.Proofs.Try.prog 65 [VV.ag (c_Swork a0), VV.ag (c_Swork a1)] (vb r) := by
 unfold n_grind_work_isShorter at h
 obtain ⟨r1450, h1451, h⟩ := bs h
 have e1452 := (ncmp_Compare_int__ok k a0.minutes a1.minutes _ h1451)
 obtain ⟨r1453, h1454, h⟩ := bs h
 have e1455 := (ncmp_Compare_int__ok k (a0.sequence.length : Int) (a1.sequence.length : Int) _ h1454)
 obtain ⟨r1456, h1457, h⟩ := bs h
 have e1458 := (VC.args (ncmp_Or_int__ok k ([r1450, r1453] : List Int) _ h1457) (eqKQ_2 r1450 r1453))
 have e1459 := (ti (ti (ti (ti (an e1452 (ti (ti (ti (ti (ti (ti (an e1455 (ti (an e1458 (ti (ti trivial))))))))))))))))
 injection h with h; subst h
 exact fun_ok pm pn Go.Proofs.Try.func65 (r0 := vb (decide (r1456 < 0))) (ans := [.reg (nN 3 []), .reg (arKQ_2 r1450 r1453 r1456)]) (fr := true) (by kernel_rfl) (an (an (ti (ti (ti trivial))) (an e1459 trivial)) (ti trivial)) (Wv.refl _)
theorem eqKQ_3  : vi 0 = vi ((⟨[], 0⟩ : Swork).minutes) := by first | rfl | (simp only [unfr_vi, List.map_cons, List.map_nil, un_i]; done) | (simp only [unfr_vi, List.map_cons, List.map_nil, un_i]; rfl) | (simp only [unfr_vi, List.map_cons, List.map_nil, un_i, List.length_cons, List.length_nil, List.length_append]; done)
def ngrind_shortest_l0_0_h (self37 : (List SGrit) → Int → Int → Option (Swork × Bool)) (a0 : (List SGrit)) (a1 : Int) (a2 : Int) (b1_0 : (List Int)) (b1_1 : Int) (x21 : Int) (x9 : Bool) : VS := ⟨mkA [(0, VV.tr (List.flatMap c_SGrit a0) a0.length), (1, vi a1), (2, vi a2), (6, VV.pt 0 0), (8, VV.pt 1 0), (9, vb x9), (19, VV.tr (List.flatMap c_SGrit a0) a0.length), (20, vi (a0.length : Int)), (21, vi x21)], [some ⟨true, 1, [VV.c (.slice none 0 0), vi 0]⟩, some ⟨true, 1, [VV.tr (List.map vi b1_0) b1_0.length, vi b1_1]⟩], .nil⟩
def ngrind_shortest_l0_0_e0 (self37 : (List SGrit) → Int → Int → Option (Swork × Bool)) (a0 : (List SGrit)) (a1 : Int) (a2 : Int) (r : Bool × (List Int) × Int) : VS := ⟨mkA [(6, VV.pt 0 0), (8, VV.pt 1 0), (9, vb r.1)], [some ⟨true, 1, [VV.c (.slice none 0 0), vi 0]⟩, some ⟨true, 1, [VV.tr (List.map vi r.2.1) r.2.1.length, vi r.2.2]⟩], .nil⟩
def ngrind_shortest_l0_0 (k : Nat) (self37 : (List SGrit) → Int → Int → Option (Swork × Bool)) (a0 : (List SGrit)) (a1 : Int) (a2 : Int) : Nat → (List Int) → Int → Int → Bool → Option (Bool × (List Int) × Int)
  | 0, _, _, _, _ => none
  | fuel + 1, b1_0, b1_1, x21, x9 => if x21 < (a0.length : Int) then (if 0 ≤ x21 ∧ x21 < (a0.length : Int) then (if a1 ≤ ((a0.getD x21.toNat default).Damage) then (ngrind_shortest_l0_0 k self37 a0 a1 a2 fuel b1_0 b1_1 (w64 (x21 + 1)) x9) else ((self37 a0 ((a0.getD x21.toNat default).Damage) a2).bind fun r1607 => (if ([x21] : List Int).length + r1607.1.sequence.length ≤ 1000000000 then ((ngrind_up k a1 ((a0.getD x21.toNat default).Rate)).bind fun r1613 => (if r1607.2 = true then (if x9 = true then ((n_grind_work_isShorter k (⟨([x21] : List Int) ++ r1607.1.sequence, w64 (r1613 + r1607.1.minutes)⟩ : Swork) (⟨b1_0, b1_1⟩ : Swork)).bind fun r1619 => (if r1619 = true then (ngrind_shortest_l0_0 k self37 a0 a1 a2 fuel (([x21] : List Int) ++ r1607.1.sequence) (w64 (r1613 + r1607.1.minutes)) (w64 (x21 + 1)) true) else (ngrind_shortest_l0_0 k self37 a0 a1 a2 fuel b1_0 b1_1 (w64 (x21 + 1)) x9))) else (ngrind_shortest_l0_0 k self37 a0 a1 a2 fuel (([x21] : List Int) ++ r1607.1.sequence) (w64 (r1613 + r1607.1.minutes)) (w64 (x21 + 1)) true)) else (ngrind_shortest_l0_0 k self37 a0 a1 a2 fuel b1_0 b1_1 (w64 (x21 + 1)) x9))) else none))) else none) else (some (x9, b1_0, b1_1))
theorem ngrind_shortest_l0_0_ok (k : Nat) (self37 : (List SGrit) → Int → Int → Option (Swork × Bool)) (a0 : (List SGrit)) (a1 : Int) (a2 : Int) (h1344 : ∀ (a0 : (List SGrit)) (a1 : Int) (a2 : Int) (r : (Swork × Bool)), self37 a0 a1 a2 = some r → VC Go.Proofs.Try.prog 37 [VV.tr (List.flatMap c_SGrit a0) a0.length, vi a1, vi a2] (VV.tu [VV.ag (c_Swork r.1), vb r.2])) : ∀ (fuel : Nat) (b1_0 : (List Int)) (b1_1 : Int) (x21 : Int) (x9 : Bool) (r : Bool × (List Int) × Int), ngrind_shortest_l0_0 k self37 a0 a1 a2 fuel b1_0 b1_1 x21 x9 = some r → (VLoop none Go.Proofs.Try.prog (szF Go.Proofs.Try.f37) (bodyOf Go.Proofs.Try.f37 0) (ngrind_shortest_l0_0_h self37 a0 a1 a2 b1_0 b1_1 x21 x9) (.exit 0) (ngrind_shortest_l0_0_e0 self37 a0 a1 a2 r)) := by
 intro fuel
 induction fuel with
 | zero => intro b1_0 b1_1 x21 x9 r h; rw [ngrind_shortest_l0_0.eq_1] at h; cases h
 | succ fuel ih =>
  intro b1_0 b1_1 x21 x9 r h
  rw [ngrind_shortest_l0_0.eq_2] at h
  rcases ifs h with ⟨h1603, h⟩ | ⟨h1603, h⟩
  ·obtain ⟨h1604, h⟩ := ifn h
   have e1605 := (show loadL Go.Proofs.Try.prog 80 (x21.toNat * 3) (List.flatMap c_SGrit a0) = some (VV.ag (c_SGrit (a0.getD x21.toNat default))) from ld_whole ag80 c_SGrit 3 sz80 len_c_SGrit a0 default h1604 (by omega))
   rcases ifs h with ⟨h1606, h⟩ | ⟨h1606, h⟩
   ·have h2 := ih _ _ _ _ _ h
    obtain ⟨q, hv, hq⟩ := pkR (rd := none) (P := Go.Proofs.Try.prog) (fn := Go.Proofs.Try.f37) (k := 0) (s := (ngrind_shortest_l0_0_h self37 a0 a1 a2 b1_0 b1_1 x21 x9)) (ans := [.reg (.n :: []), .br true, .reg (.n :: .n :: .v (VV.ag (c_SGrit (a0.getD x21.toNat default))) :: nN 3 []), .reg (nN 4 []), .br true, .reg (.n :: .n :: [])]) (c := ⟨[(0, none), (1, none), (2, none), (6, none), (8, none), (9, none), (19, none), (20, none), (21, none)], [none, none], []⟩) (e := .normal) (s1 := (ngrind_shortest_l0_0_h self37 a0 a1 a2 b1_0 b1_1 (w64 (x21 + 1)) x9)) (an (an (ti trivial) (an (an (decide_eq_true h1603) trivial) (an (an (ti (an h1604 (an e1605 (ti (ti (ti trivial)))))) (an (ti (ti (ti (ti trivial)))) (an (decide_eq_true h1606) trivial))) (ti (ti trivial))))) (ti trivial)) (by kernel_rfl)
    exact round_next pm pn hv hq h2
   ·obtain ⟨r1607, h1608, h⟩ := bs h
    have e1609 := (h1344 a0 ((a0.getD x21.toNat default).Damage) a2 _ h1608)
    have e1610 := (ti (ti (ti (ti (an e1609 (ti (ti (ti (ti (ti (ti trivial)))))))))))
    obtain ⟨h1611, h⟩ := ifn h
    have e1612 := (show List.length [vi x21] = 1 * 1 ∧ List.length (List.map vi r1607.1.sequence) = r1607.1.sequence.length * 1 ∧ (1 + r1607.1.sequence.length) * 8 ≤ 140737488355328 ∧ 1 + r1607.1.sequence.length < 1099511627776 ∧ List.all (List.map vi r1607.1.sequence) VV.isC = true ∧ 0 < 1 from ⟨rfl, (by simp), (by first | omega | (simp at h1611 ⊢; omega)), (by first | omega | (simp at h1611 ⊢; omega)), (by exact isC_vi _), by decide⟩)
    obtain ⟨r1613, h1614, h⟩ := bs h
    have e1615 := (ngrind_up_ok k a1 ((a0.getD x21.toNat default).Rate) _ h1614)
    have e1616 := (ti (ti (ti (ti (an e1612 (ti (ti (ti (an e1615 (ti (ti (ti (ti (ti (ti trivial)))))))))))))))
    rcases ifs h with ⟨h1617, h⟩ | ⟨h1617, h⟩
    ·rcases ifs h with ⟨h1618, h⟩ | ⟨h1618, h⟩
     ·obtain ⟨r1619, h1620, h⟩ := bs h
      have e1621 := (an (not_f h1618) (show VC Go.Proofs.Try.prog 65 [VV.ag [VV.tr ([vi x21] ++ (List.map vi r1607.1.sequence)) (1 + r1607.1.sequence.length), vi (w64 (r1613 + r1607.1.minutes))], VV.ag [VV.tr (List.map vi b1_0) b1_0.length, vi b1_1]] (vb r1619) from (VC.args (n_grind_work_isShorter_ok k (⟨([x21] : List Int) ++ r1607.1.sequence, w64 (r1613 + r1607.1.minutes)⟩ : Swork) (⟨b1_0, b1_1⟩ : Swork) _ h1620) (by first | rfl | (simp only [show [vi x21] ++ (List.map vi r1607.1.sequence) = List.map vi (([x21] : List Int) ++ r1607.1.sequence) from (by rw [show [vi x21] = List.map vi ([x21] : List Int) from rfl]; exact List.map_append.symm), drop0, unfr_vi, unfr_vb, unfr_vs, List.map_cons, List.map_nil, un_i, un_k, un_b, un_s, un_tr, un_fr, List.length_map, List.length_replicate, List.length_append, List.length_set, List.length_cons, List.length_nil, unfr_c_SGrit, unfr_c_A23, unfr_c_Swork, unfr_g_Swork]; done) | (simp only [show [vi x21] ++ (List.map vi r1607.1.sequence) = List.map vi (([x21] : List Int) ++ r1607.1.sequence) from (by rw [show [vi x21] = List.map vi ([x21] : List Int) from rfl]; exact List.map_append.symm), drop0, unfr_vi, unfr_vb, unfr_vs, List.map_cons, List.map_nil, un_i, un_k, un_b, un_s, un_tr, un_fr, List.length_map, List.length_replicate, List.length_append, List.length_set, List.length_cons, List.length_nil, unfr_c_SGrit, unfr_c_A23, unfr_c_Swork, unfr_g_Swork]; rfl) | (simp only [show [vi x21] ++ (List.map vi r1607.1.sequence) = List.map vi (([x21] : List Int) ++ r1607.1.sequence) from (by rw [show [vi x21] = List.map vi ([x21] : List Int) from rfl]; exact List.map_append.symm), drop0, unfr_vi, unfr_vb, unfr_vs, List.map_cons, List.map_nil, un_i, un_k, un_b, un_s, un_tr, un_fr, List.length_map, List.length_replicate, List.length_append, List.length_set, List.length_cons, List.length_nil, unfr_c_SGrit, unfr_c_A23, unfr_c_Swork, unfr_g_Swork, c_Swork, List.length_cons, List.length_nil, List.length_append]; done)))))
      have e1622 := (ti (ti (an (an h1617 trivial) (an (an h1617 trivial) (an (an h1617 trivial) (an (an (not_f h1618) trivial) (an (an (not_f h1618) trivial) (an e1621 (an (an h1617 (not_f h1618)) (an h1617 trivial))))))))))
      rcases ifs h with ⟨h1623, h⟩ | ⟨h1623, h⟩
      ·have h2 := ih _ _ _ _ _ h
       obtain ⟨q, hv, hq⟩ := pkR (rd := none) (P := Go.Proofs.Try.prog) (fn := Go.Proofs.Try.f37) (k := 0) (s := (ngrind_shortest_l0_0_h self37 a0 a1 a2 b1_0 b1_1 x21 x9)) (ans := [.reg (.n :: []), .br true, .reg (.n :: .n :: .v (VV.ag (c_SGrit (a0.getD x21.toNat default))) :: nN 3 []), .reg (nN 4 []), .br false, .reg (nN 4 (.call (VV.tu [VV.ag (c_Swork r1607.1), vb r1607.2]) :: nN 6 [])), .reg (.n :: .b true :: .n :: .n :: .v VV.any :: nN 3 (.call (vi r1613) :: nN 6 [])), .reg (nN 7 (.call (vb r1619) :: .b false :: .b true :: [])), .br true, .reg (nN 3 []), .reg (.n :: .n :: [])]) (c := ⟨[(0, none), (1, none), (2, none), (6, none), (8, none), (9, none), (19, none), (20, none), (21, none)], [none, some [VV.tr (List.map vi (([x21] : List Int) ++ r1607.1.sequence)) ((([x21] : List Int) ++ r1607.1.sequence).length), vi (w64 (r1613 + r1607.1.minutes))]], []⟩) (e := .normal) (s1 := (ngrind_shortest_l0_0_h self37 a0 a1 a2 (([x21] : List Int) ++ r1607.1.sequence) (w64 (r1613 + r1607.1.minutes)) (w64 (x21 + 1)) true)) (an (an (ti trivial) (an (an (decide_eq_true h1603) trivial) (an (an (ti (an h1604 (an e1605 (ti (ti (ti trivial)))))) (an (an (ti (ti (ti (ti trivial)))) (an (decide_eq_false h1606) trivial)) (an e1610 (an e1616 (an e1622 (an h1623 (ti (ti (ti trivial))))))))) (ti (ti trivial))))) (ti (an (show [VV.tr ([vi x21] ++ (List.map vi r1607.1.sequence)) (1 + r1607.1.sequence.length), vi (w64 (r1613 + r1607.1.minutes))] = [VV.tr (List.map vi (([x21] : List Int) ++ r1607.1.sequence)) ((([x21] : List Int) ++ r1607.1.sequence).length), vi (w64 (r1613 + r1607.1.minutes))] from (by first | rfl | (simp; done) | (simp [unfr, vi]; done) | (simp [unfr, vi]; omega))) trivial))) (by kernel_rfl)
       exact round_next pm pn hv hq h2
      ·have h2 := ih _ _ _ _ _ h
       obtain ⟨q, hv, hq⟩ := pkR (rd := none) (P := Go.Proofs.Try.prog) (fn := Go.Proofs.Try.f37) (k := 0) (s := (ngrind_shortest_l0_0_h self37 a0 a1 a2 b1_0 b1_1 x21 x9)) (ans := [.reg (.n :: []), .br true, .reg (.n :: .n :: .v (VV.ag (c_SGrit (a0.getD x21.toNat default))) :: nN 3 []), .reg (nN 4 []), .br false, .reg (nN 4 (.call (VV.tu [VV.ag (c_Swork r1607.1), vb r1607.2]) :: nN 6 [])), .reg (.n :: .b true :: .n :: .n :: .v VV.any :: nN 3 (.call (vi r1613) :: nN 6 [])), .reg (nN 7 (.call (vb r1619) :: .b false :: .b true :: [])), .br false, .reg (.n :: .n :: [])]) (c := ⟨[(0, none), (1, none), (2, none), (6, none), (8, none), (9, none), (19, none), (20, none), (21, none)], [none, none], []⟩) (e := .normal) (s1 := (ngrind_shortest_l0_0_h self37 a0 a1 a2 b1_0 b1_1 (w64 (x21 + 1)) x9)) (an (an (ti trivial) (an (an (decide_eq_true h1603) trivial) (an (an (ti (an h1604 (an e1605 (ti (ti (ti trivial)))))) (an (an (ti (ti (ti (ti trivial)))) (an (decide_eq_false h1606) trivial)) (an e1610 (an e1616 (an e1622 (an (bool_f h1623) trivial)))))) (ti (ti trivial))))) (ti trivial)) (by kernel_rfl)
       exact round_next pm pn hv hq h2
     ·have e1624 := (ti (ti (an (an h1617 trivial) (an (an h1617 trivial) (an (an h1617 trivial) (an (not_t (bool_f h1618)) (an (not_t (bool_f h1618)) (an (not_t (bool_f h1618)) (an (an h1617 (not_t (bool_f h1618))) (an h1617 trivial))))))))))
      have h2 := ih _ _ _ _ _ h
      obtain ⟨q, hv, hq⟩ := pkR (rd := none) (P := Go.Proofs.Try.prog) (fn := Go.Proofs.Try.f37) (k := 0) (s := (ngrind_shortest_l0_0_h self37 a0 a1 a2 b1_0 b1_1 x21 x9)) (ans := [.reg (.n :: []), .br true, .reg (.n :: .n :: .v (VV.ag (c_SGrit (a0.getD x21.toNat default))) :: nN 3 []), .reg (nN 4 []), .br false, .reg (nN 4 (.call (VV.tu [VV.ag (c_Swork r1607.1), vb r1607.2]) :: nN 6 [])), .reg (.n :: .b true :: .n :: .n :: .v VV.any :: nN 3 (.call (vi r1613) :: nN 6 [])), .reg (nN 5 (nS 3 (.b true :: .b true :: []))), .br true, .reg (nN 3 []), .reg (.n :: .n :: [])]) (c := ⟨[(0, none), (1, none), (2, none), (6, none), (8, none), (9, none), (19, none), (20, none), (21, none)], [none, some [VV.tr (List.map vi (([x21] : List Int) ++ r1607.1.sequence)) ((([x21] : List Int) ++ r1607.1.sequence).length), vi (w64 (r1613 + r1607.1.minutes))]], []⟩) (e := .normal) (s1 := (ngrind_shortest_l0_0_h self37 a0 a1 a2 (([x21] : List Int) ++ r1607.1.sequence) (w64 (r1613 + r1607.1.minutes)) (w64 (x21 + 1)) true)) (an (an (ti trivial) (an (an (decide_eq_true h1603) trivial) (an (an (ti (an h1604 (an e1605 (ti (ti (ti trivial)))))) (an (an (ti (ti (ti (ti trivial)))) (an (decide_eq_false h1606) trivial)) (an e1610 (an e1616 (an e1624 (an rt (ti (ti (ti trivial))))))))) (ti (ti trivial))))) (ti (an (show [VV.tr ([vi x21] ++ (List.map vi r1607.1.sequence)) (1 + r1607.1.sequence.length), vi (w64 (r1613 + r1607.1.minutes))] = [VV.tr (List.map vi (([x21] : List Int) ++ r1607.1.sequence)) ((([x21] : List Int) ++ r1607.1.sequence).length), vi (w64 (r1613 + r1607.1.minutes))] from (by first | rfl | (simp; done) | (simp [unfr, vi]; done) | (simp [unfr, vi]; omega))) trivial))) (by kernel_rfl)
      exact round_next pm pn hv hq h2
    ·have e1625 := (ti (ti (an (bool_f h1617) (an (bool_f h1617) (an (bool_f h1617) (ti (ti (ti (an (bool_f h1617) (an (bool_f h1617) trivial))))))))))
     have h2 := ih _ _ _ _ _ h
     obtain ⟨q, hv, hq⟩ := pkR (rd := none) (P := Go.Proofs.Try.prog) (fn := Go.Proofs.Try.f37) (k := 0) (s := (ngrind_shortest_l0_0_h self37 a0 a1 a2 b1_0 b1_1 x21 x9)) (ans := [.reg (.n :: []), .br true, .reg (.n :: .n :: .v (VV.ag (c_SGrit (a0.getD x21.toNat default))) :: nN 3 []), .reg (nN 4 []), .br false, .reg (nN 4 (.call (VV.tu [VV.ag (c_Swork r1607.1), vb r1607.2]) :: nN 6 [])), .reg (.n :: .b true :: .n :: .n :: .v VV.any :: nN 3 (.call (vi r1613) :: nN 6 [])), .reg (.n :: .n :: nS 7 (.b false :: [])), .br false, .reg (.n :: .n :: [])]) (c := ⟨[(0, none), (1, none), (2, none), (6, none), (8, none), (9, none), (19, none), (20, none), (21, none)], [none, none], []⟩) (e := .normal) (s1 := (ngrind_shortest_l0_0_h self37 a0 a1 a2 b1_0 b1_1 (w64 (x21 + 1)) x9)) (an (an (ti trivial) (an (an (decide_eq_true h1603) trivial) (an (an (ti (an h1604 (an e1605 (ti (ti (ti trivial)))))) (an (an (ti (ti (ti (ti trivial)))) (an (decide_eq_false h1606) trivial)) (an e1610 (an e1616 (an e1625 (an rf trivial)))))) (ti (ti trivial))))) (ti trivial)) (by kernel_rfl)
     exact round_next pm pn hv hq h2
  ·injection h with h; subst h
   exact round_stop (c := ⟨[(6, none), (8, none), (9, none)], [none, none], []⟩) (s1 := (ngrind_shortest_l0_0_e0 self37 a0 a1 a2 (x9, b1_0, b1_1))) pm pn (ans := [.reg (.n :: []), .br false]) (by kernel_rfl) (by intro e; cases e) (an (an (ti trivial) (an (decide_eq_false h1603) trivial)) (ti trivial))
theorem eqKQ_4 (z0 : Bool × (List Int) × Int) : VV.tu [VV.ag [VV.tr (List.map vi z0.2.1) z0.2.1.length, vi z0.2.2], vb z0.1] = VV.tu [VV.ag (c_Swork (⟨z0.2.1, z0.2.2⟩ : Swork)), vb z0.1] := by first | rfl | (simp only [unfr_vi, unfr_vb, List.map_cons, List.map_nil, un_i, un_b, un_tr, List.length_map, List.length_cons, List.length_nil, unfr_c_Swork]; done) | (simp only [unfr_vi, unfr_vb, List.map_cons, List.map_nil, un_i, un_b, un_tr, List.length_map, List.length_cons, List.length_nil, unfr_c_Swork]; rfl) | (simp only [unfr_vi, unfr_vb, List.map_cons, List.map_nil, un_i, un_b, un_tr, List.length_map, List.length_cons, List.length_nil, unfr_c_Swork, c_Swork, List.length_cons, List.length_nil, List.length_append]; done)
def ngrind_shortest_s (self37 : (List SGrit) → Int → Int → Option (Swork × Bool)) (k : Nat) (a0 : (List SGrit)) (a1 : Int) (a2 : Int) : Option (Swork × Bool) :=
  if a1 ≤ a2 then (some ((⟨[], 0⟩ : Swork), true)) else ((ngrind_shortest_l0_0 k self37 a0 a1 a2 k [] 0 0 false).bind fun r1627 => (some ((⟨r1627.2.1, r1627.2.2⟩ : Swork), r1627.1)))
theorem ngrind_shortest_s_ok (self37 : (List SGrit) → Int → Int → Option (Swork × Bool)) (k : Nat) (a0 : (List SGrit)) (a1 : Int) (a2 : Int) (h1344 : ∀ (a0 : (List SGrit)) (a1 : Int) (a2 : Int) (r : (Swork × Bool)), self37 a0 a1 a2 = some r → VC Go.Proofs.Try.prog 37 [VV.tr (List.flatMap c_SGrit a0) a0.length, vi a1, vi a2] (VV.tu [VV.ag (c_Swork r.1), vb r.2])) (r : (Swork × Bool)) (h : ngrind_shortest_s self37 k a0 a1 a2 = some r) : VC Go.Proofs.Try.prog 37 [VV.tr (List.flatMap c_SGrit a0) a0.length, vi a1, vi a2] (VV.tu [VV.ag (c_Swork r.1), vb r.2]) := by
 unfold ngrind_shortest_s at h
 rcases ifs h with ⟨h1561, h⟩ | ⟨h1561, h⟩
 ·injection h with h; subst h
  exact fun_ok pm pn Go.Proofs.Try.func37 (r0 := VV.tu [VV.ag [VV.c (.slice none 0 0), vi 0], vb true]) (ans := [.reg (.n :: .n :: []), .reg (nN 3 []), .br true, .reg (nN 3 [])]) (fr := false) (by kernel_rfl) (an (an (ti (ti trivial)) (an (ti (ti (ti trivial))) (an (decide_eq_true h1561) (an (ti (ti (ti trivial))) trivial)))) (an (ti (ti (ti trivial))) (ti trivial))) (Wv.tuL (.cons (Wv.agL (.cons (Wv.nil (k := 0)) (.cons (Wv.of_eq eqKQ_3) .nil))) (.cons (Wv.refl _) .nil)))
 ·obtain ⟨r1627, h1626, h⟩ := bs h
  have hph1626 := ngrind_shortest_l0_0_ok k self37 a0 a1 a2 h1344 _ _ _ _ _ _ h1626
  have e1628 := (an (ti trivial) (VRun.loop hph1626))
  injection h with h; subst h
  exact fun_ok pm pn Go.Proofs.Try.func37 (r0 := VV.tu [VV.ag [VV.tr (List.map vi r1627.2.1) r1627.2.1.length, vi r1627.2.2], vb r1627.1]) (ans := [.reg (.n :: .n :: []), .reg (nN 3 []), .br false, .reg (.n :: []), .reg (.n :: []), .reg (nN 3 []), .sub ⟨[(0, none), (1, none), (2, none), (6, none), (8, none), (9, none), (19, none), (20, none), (21, none)], [none, none], [.n 1 0]⟩ (.exit 0) (ngrind_shortest_l0_0_e0 self37 a0 a1 a2 r1627), .reg (nN 4 [])]) (fr := false) (by kernel_rfl) (an (an (ti (ti trivial)) (an (an (ti (ti (ti trivial))) (an (decide_eq_false h1561) trivial)) (an (ti trivial) (an (ti trivial) (an (an (ti (ti (ti trivial))) e1628) (an (ti (ti (ti (ti trivial)))) trivial)))))) (an (ti (ti (ti trivial))) (ti trivial))) (Wv.of_eq (eqKQ_4 r1627))
def ngrind_shortest : Nat → (List SGrit) → Int → Int → Option (Swork × Bool)
  | 0, _, _, _ => none
  | k + 1, a0, a1, a2 => ngrind_shortest_s (ngrind_shortest k) k a0 a1 a2
theorem ngrind_shortest_ok (k : Nat) : ∀ (a0 : (List SGrit)) (a1 : Int) (a2 : Int) (r : (Swork × Bool)) (h : ngrind_shortest k a0 a1 a2 = some r), VC Go.Proofs.Try.prog 37 [VV.tr (List.flatMap c_SGrit a0) a0.length, vi a1, vi a2] (VV.tu [VV.ag (c_Swork r.1), vb r.2]) := by
 induction k with
 | zero => intro a0 a1 a2 r h; rw [ngrind_shortest.eq_1] at h; cases h
 | succ k ih => intro a0 a1 a2 r h; rw [ngrind_shortest.eq_2] at h; exact ngrind_shortest_s_ok (ngrind_shortest k) k a0 a1 a2 ih r h
def arKQ_3 (z0 : (List SGrit)) (z1 : A23) (z2 : ((List Int) × Int × Int)) (z3 : Int) : List Ans := (.n :: .call (VV.fn 62 [VV.tp [VV.tr (List.flatMap c_SGrit z0) z0.length] 0]) :: .v (VV.tr [vi z1.e0, vi z1.e1] 2) :: .call (VV.fn 64 [VV.tp [VV.tr (List.map vi z2.1) z2.1.length] 0, VV.tp [vi z2.2.1] 0, VV.tp [vi z2.2.2] 0]) :: .n :: .call (vi z3) :: .n :: [])
def arKQ_4 (z0 : A23) (z1 : (Swork × Bool)) : List Ans := (.n :: .v (VV.tp [vi z0.e0, vi z0.e1] 0) :: .v (vi z0.e0) :: .v (VV.tp [vi z0.e0, vi z0.e1] 1) :: .v (vi z0.e1) :: .call (VV.tu [VV.ag (c_Swork z1.1), vb z1.2]) :: nN 6 [])
def ngrind_Shortest (k : Nat) (a0 : (List SGrit)) (a1 : A23) : Option ((List Int) × Int × Int) :=
  (ngrind_validGrits k a0).bind fun r1634 => ((ngrind_within k 0 1000000 ([a1.e0, a1.e1] : List Int)).bind fun r1637 => ((ngrind_firstOf_c0_Lgrind_validGrits_1_grind_within_1 k (r1634, r1637)).bind fun r1640 => (if r1640 = 0 then ((ngrind_shortest k a0 a1.e0 a1.e1).bind fun r1649 => (if r1649.2 = true then (some (r1649.1.sequence, r1649.1.minutes, 0)) else (some ([], 0, 12)))) else (some ([], 0, r1640)))))
theorem ngrind_Shortest_ok (k : Nat) (a0 : (List SGrit)) (a1 : A23) (r : ((List Int) × Int × Int)) (h : ngrind_Shortest k a0 a1 = some r) : VC Go.Proofs.Try.prog 8 [VV.tr (List.flatMap c_SGrit a0) a0.length, VV.ag (c_A23 a1)] (VV.tu [VV.tr (List.map vi r.1) r.1.length, vi r.2.1, vi r.2.2]) := by
 unfold ngrind_Shortest at h
 obtain ⟨r1634, h1635, h⟩ := bs h
 have e1636 := (show (True ∧ True ∧ 0 ≤ 2 ∧ 2 ≤ 2 ∧ 0 + 2 * 1 ≤ List.length [vi a1.e0, vi a1.e1]) ∧ VV.tr (List.take ((2 - 0) * 1) (List.drop (0 + 0 * 1) [vi a1.e0, vi a1.e1])) (2 - 0) = VV.tr [vi a1.e0, vi a1.e1] 2 from ⟨⟨trivial, trivial, Nat.zero_le _, Nat.le_refl 2, Nat.le_of_ble_eq_true rfl⟩, rfl⟩)
 obtain ⟨r1637, h1638, h⟩ := bs h
 have e1639 := (VC.args (ngrind_within_ok k 0 1000000 ([a1.e0, a1.e1] : List Int) _ h1638) (eqKQ_0 a1))
 obtain ⟨r1640, h1641, h⟩ := bs h
 have e1642 := (VC.args (ngrind_firstOf_c0_Lgrind_validGrits_1_grind_within_1_ok k (r1634, r1637) _ h1641) (eqKQ_1 r1634 r1637))
 have e1643 := (ti (an (ngrind_validGrits_ok k a0 _ h1635) (an e1636 (an e1639 (ti (an e1642 (ti trivial)))))))
 rcases ifs h with ⟨h1644, h⟩ | ⟨h1644, h⟩
 ·have e1645 := (show ((0 : Int) ≤ 0 ∧ 0 < ((2 : Nat) : Int)) ∧ VV.tp [vi a1.e0, vi a1.e1] (0 + Int.toNat 0 * 1) = VV.tp [vi a1.e0, vi a1.e1] 0 from ⟨⟨by decide, by decide⟩, rfl⟩)
  have e1646 := (show loadL Go.Proofs.Try.prog 3 0 [vi a1.e0, vi a1.e1] = some (vi a1.e0) from (ld_one ag3 rfl))
  have e1647 := (show ((0 : Int) ≤ 1 ∧ 1 < ((2 : Nat) : Int)) ∧ VV.tp [vi a1.e0, vi a1.e1] (0 + Int.toNat 1 * 1) = VV.tp [vi a1.e0, vi a1.e1] 1 from ⟨⟨by decide, by decide⟩, rfl⟩)
  have e1648 := (show loadL Go.Proofs.Try.prog 3 1 [vi a1.e0, vi a1.e1] = some (vi a1.e1) from (ld_one ag3 rfl))
  obtain ⟨r1649, h1650, h⟩ := bs h
  have e1651 := (ngrind_shortest_ok k a0 a1.e0 a1.e1 _ h1650)
  have e1652 := (ti (an e1645 (an e1646 (an e1647 (an e1648 (an e1651 (ti (ti (ti (ti (ti (ti trivial))))))))))))
  rcases ifs h with ⟨h1653, h⟩ | ⟨h1653, h⟩
  ·injection h with h; subst h
   exact fun_ok pm pn Go.Proofs.Try.func8 (r0 := VV.tu [VV.tr (List.map vi r1649.1.sequence) r1649.1.sequence.length, vi r1649.1.minutes, vi 0]) (ans := [.reg (nN 4 []), .frz 0, .reg (arKQ_3 r1634 a1 r1637 r1640), .reg (.n :: .n :: []), .br false, .reg (arKQ_4 a1 r1649), .reg (.n :: .n :: []), .br false, .reg (nN 7 [])]) (fr := false) (by kernel_rfl) (an (an (ti (ti (ti (ti trivial)))) (an (an e1643 (an (ti (ti trivial)) (an (not_f (decide_eq_true h1644)) trivial))) (an e1652 (an (an (ti (ti trivial)) (an (not_f h1653) trivial)) (an (ti (ti (ti (ti (ti (ti (ti trivial))))))) trivial))))) (ti (ti (ti trivial)))) (Wv.refl _)
  ·injection h with h; subst h
   exact fun_ok pm pn Go.Proofs.Try.func8 (r0 := VV.tu [VV.c (.slice none 0 0), vi 0, vi 12]) (ans := [.reg (nN 4 []), .frz 0, .reg (arKQ_3 r1634 a1 r1637 r1640), .reg (.n :: .n :: []), .br false, .reg (arKQ_4 a1 r1649), .reg (.n :: .n :: []), .br true, .reg (nN 3 [])]) (fr := false) (by kernel_rfl) (an (an (ti (ti (ti (ti trivial)))) (an (an e1643 (an (ti (ti trivial)) (an (not_f (decide_eq_true h1644)) trivial))) (an e1652 (an (ti (ti trivial)) (an (not_t (bool_f h1653)) (an (ti (ti (ti trivial))) trivial)))))) (ti (ti (ti trivial)))) (Wv.tuL (.cons (Wv.nil (k := 0)) (.cons (Wv.refl _) (.cons (Wv.refl _) .nil))))
 ·injection h with h; subst h
  exact fun_ok pm pn Go.Proofs.Try.func8 (r0 := VV.tu [VV.c (.slice none 0 0), vi 0, vi r1640]) (ans := [.reg (nN 4 []), .frz 0, .reg (arKQ_3 r1634 a1 r1637 r1640), .reg (.n :: .n :: []), .br true, .reg (nN 4 [])]) (fr := false) (by kernel_rfl) (an (an (ti (ti (ti (ti trivial)))) (an e1643 (an (ti (ti trivial)) (an (not_t (decide_eq_false h1644)) (an (ti (ti (ti (ti trivial)))) trivial))))) (ti (ti (ti trivial)))) (Wv.tuL (.cons (Wv.nil (k := 0)) (.cons (Wv.refl _) (.cons (Wv.refl _) .nil))))
theorem eqKQ_5 (z0 : (List SGrit)) (z1 : A23) (z2 : A23) : [VV.tr (List.flatMap c_SGrit z0) z0.length, VV.ag (c_A23 (⟨minI 1000000 (w64 (z1.e0 + z2.e0)), maxI 0 (w64 (z1.e1 - z2.e1))⟩ : A23))] = [VV.tr (List.flatMap c_SGrit z0) z0.length, VV.ag [vi (minI 1000000 (w64 (z1.e0 + z2.e0))), vi (maxI 0 (w64 (z1.e1 - z2.e1)))]] := by first | rfl | (simp only [unfr_vi, List.map_cons, List.map_nil, un_i, un_tr, List.length_cons, List.length_nil, unfr_c_SGrit, unfr_c_A23]; done) | (simp only [unfr_vi, List.map_cons, List.map_nil, un_i, un_tr, List.length_cons, List.length_nil, unfr_c_SGrit, unfr_c_A23]; rfl) | (simp only [unfr_vi, List.map_cons, List.map_nil, un_i, un_tr, List.length_cons, List.length_nil, unfr_c_SGrit, unfr_c_A23, c_SGrit, List.length_cons, List.length_nil, List.length_append]; done)
def arKQ_5  : List Ans := (nN 4 (nS 3 (.b true :: .n :: nS 4 (.b true :: .n :: nS 4 (.b true :: .n :: nS 4 (.b true :: .n :: nS 4 (.b true :: [])))))))
def arKQ_6 (z0 : Bool) (z1 : Bool) (z2 : Bool) (z3 : Bool) (z4 : Bool) : List Ans := (nN 5 (.call (vb z0) :: .n :: .b false :: nN 3 (.call (vb z1) :: .n :: .b false :: nN 3 (.call (vb z2) :: .n :: .b false :: nN 3 (.call (vb z3) :: .n :: .b false :: nN 3 (.call (vb z4) :: .n :: .b false :: []))))))
def arKQ_7 (z0 : (List SGrit)) (z1 : ((List Int) × Int × Int)) : List Ans := (.n :: .call (VV.fr (List.flatMap c_SGrit z0) z0.length) :: .n :: .call (VV.tu [VV.tr (List.map vi z1.1) z1.1.length, vi z1.2.1, vi z1.2.2]) :: nN 7 [])
def arKQ_8 (z0 : (List SGrit)) (z1 : ((List Int) × Int × Int)) : List Ans := (.n :: .call (VV.fr (List.flatMap c_SGrit z0) z0.length) :: nN 13 (.call (VV.tu [VV.tr (List.map vi z1.1) z1.1.length, vi z1.2.1, vi z1.2.2]) :: nN 7 []))
def arKQ_9 (z0 : (List SGrit)) (z1 : (List SGrit)) (z2 : ((List Int) × Int × Int)) : List Ans := (.n :: .v (VV.tr (List.flatMap c_SGrit (sl z0 (((1 : Int)).toNat) z0.length)) ((sl z0 (((1 : Int)).toNat) z0.length).length)) :: .call (VV.fr (List.flatMap c_SGrit z1) z1.length) :: .n :: .call (VV.tu [VV.tr (List.map vi z2.1) z2.1.length, vi z2.2.1, vi z2.2.2]) :: nN 7 [])
def arKQ_10 (z0 : Bool) (z1 : Bool) (z2 : Bool) (z3 : Bool) : List Ans := (nN 5 (.call (vb z0) :: .n :: .b false :: nN 3 (.call (vb z1) :: .n :: .b false :: nN 3 (.call (vb z2) :: .n :: .b false :: nN 3 (.call (vb z3) :: .n :: .b false :: .n :: nS 4 (.b true :: []))))))
def arKQ_11 (z0 : Bool) (z1 : Bool) (z2 : Bool) : List Ans := (nN 5 (.call (vb z0) :: .n :: .b false :: nN 3 (.call (vb z1) :: .n :: .b false :: nN 3 (.call (vb z2) :: .n :: .b false :: .n :: nS 4 (.b true :: .n :: nS 4 (.b true :: []))))))
def arKQ_12 (z0 : Bool) (z1 : Bool) : List Ans := (nN 5 (.call (vb z0) :: .n :: .b false :: nN 3 (.call (vb z1) :: .n :: .b false :: .n :: nS 4 (.b true :: .n :: nS 4 (.b true :: .n :: nS 4 (.b true :: []))))))
def arKQ_13 (z0 : Bool) : List Ans := (nN 5 (.call (vb z0) :: .n :: .b false :: .n :: nS 4 (.b true :: .n :: nS 4 (.b true :: .n :: nS 4 (.b true :: .n :: nS 4 (.b true :: []))))))
def nspeculumlaw04_GrindDeeper (k : Nat) (a0 : (List SGrit)) (a1 : A23) (a2 : A23) : Option Bool :=
  (nawake k).bind fun r1766 => (if r1766 = true then (if 6 < (a0.length : Int) then (some true) else ((nspeculumlaw04_gritty k a0).bind fun r1771 => (if r1771 = true then ((nspeculumbase_Within k a2.e0 0 1000).bind fun r1776 => (if r1776 = true then ((nspeculumbase_Within k a2.e1 0 1000).bind fun r1781 => (if r1781 = true then ((nspeculumbase_Within k a1.e0 0 1000000).bind fun r1786 => (if r1786 = true then ((nspeculumbase_Within k a1.e1 0 1000000).bind fun r1791 => (if r1791 = true then ((nspeculumlaw04_grits k a0).bind fun r1796 => ((ngrind_Shortest k r1796 a1).bind fun r1799 => (if r1799.2.2 = 0 then ((ngrind_Shortest k r1796 (⟨minI 1000000 (w64 (a1.e0 + a2.e0)), maxI 0 (w64 (a1.e1 - a2.e1))⟩ : A23)).bind fun r1810 => (if r1810.2.2 = 0 then (if r1810.2.1 < r1799.2.1 then (some false) else (if (a0.length : Int) = 0 then (some true) else (if 0 ≤ (1 : Int) ∧ (1 : Int) ≤ (a0.length : Int) ∧ (a0.length : Int) ≤ (a0.length : Int) then ((nspeculumlaw04_grits k (sl a0 (((1 : Int)).toNat) a0.length)).bind fun r1824 => ((ngrind_Shortest k r1824 a1).bind fun r1827 => (if r1827.2.2 = 12 then (some true) else (if r1827.2.2 = 0 then (some (decide (r1799.2.1 ≤ r1827.2.1))) else (some false))))) else none))) else (if r1810.2.2 = 12 then (if (a0.length : Int) = 0 then (some true) else (if 0 ≤ (1 : Int) ∧ (1 : Int) ≤ (a0.length : Int) ∧ (a0.length : Int) ≤ (a0.length : Int) then ((nspeculumlaw04_grits k (sl a0 (((1 : Int)).toNat) a0.length)).bind fun r1849 => ((ngrind_Shortest k r1849 a1).bind fun r1852 => (if r1852.2.2 = 12 then (some true) else (if r1852.2.2 = 0 then (some (decide (r1799.2.1 ≤ r1852.2.1))) else (some false))))) else none)) else (some false)))) else (if r1799.2.2 = 12 then ((ngrind_Shortest k r1796 (⟨minI 1000000 (w64 (a1.e0 + a2.e0)), maxI 0 (w64 (a1.e1 - a2.e1))⟩ : A23)).bind fun r1874 => (if r1874.2.2 = 0 then (some false) else (if r1874.2.2 = 12 then (if (a0.length : Int) = 0 then (some true) else (if 0 ≤ (1 : Int) ∧ (1 : Int) ≤ (a0.length : Int) ∧ (a0.length : Int) ≤ (a0.length : Int) then ((nspeculumlaw04_grits k (sl a0 (((1 : Int)).toNat) a0.length)).bind fun r1892 => ((ngrind_Shortest k r1892 a1).bind fun r1895 => (if r1895.2.2 = 12 then (some true) else (if r1895.2.2 = 0 then (some false) else (some false))))) else none)) else (some false)))) else (some true))))) else (some true))) else (some true))) else (some true))) else (some true))) else (some true)))) else (some false))
theorem nspeculumlaw04_GrindDeeper_ok (k : Nat) (a0 : (List SGrit)) (a1 : A23) (a2 : A23) (r : Bool) (h : nspeculumlaw04_GrindDeeper k a0 a1 a2 = some r) : VC Go.Proofs.Try.prog 4 [VV.tr (List.flatMap c_SGrit a0) a0.length, VV.ag (c_A23 a1), VV.ag (c_A23 a2)] (vb r) := by
 unfold nspeculumlaw04_GrindDeeper at h
 obtain ⟨r1766, h1767, h⟩ := bs h
 rcases ifs h with ⟨h1768, h⟩ | ⟨h1768, h⟩
 ·rcases ifs h with ⟨h1769, h⟩ | ⟨h1769, h⟩
  ·have e1770 := (ti (ti (ti (ti (an (decide_eq_true h1769) (an (decide_eq_true h1769) (an (decide_eq_true h1769) (an (decide_eq_true h1769) (ti (an rt (an rt (an rt (an rt (an rt (ti (an rt (an rt (an rt (an rt (an rt (ti (an rt (an rt (an rt (an rt (an rt (ti (an rt (an rt (an rt (an rt (an rt trivial))))))))))))))))))))))))))))))))
   injection h with h; subst h
   exact fun_ok pm pn Go.Proofs.Try.func4 (r0 := vb true) (ans := [.reg (nN 3 []), .reg (.call (vb r1766) :: .n :: []), .br false, .reg arKQ_5, .br true, .reg (.n :: [])]) (fr := true) (by kernel_rfl) (an (an (ti (ti (ti trivial))) (an (an (an (nawake_ok k _ h1767) (ti trivial)) (an (not_f h1768) trivial)) (an e1770 (an rt (an (ti trivial) trivial))))) (ti trivial)) (Wv.refl _)
  ·obtain ⟨r1771, h1772, h⟩ := bs h
   have e1773 := (an (decide_eq_false h1769) (nspeculumlaw04_gritty_ok k a0 _ h1772))
   rcases ifs h with ⟨h1774, h⟩ | ⟨h1774, h⟩
   ·have e1775 := (an (not_f h1774) (show (0:Int) ≤ 0 ∧ (0:Int) < ((2 : Nat) : Int) from ⟨by decide, by decide⟩))
    obtain ⟨r1776, h1777, h⟩ := bs h
    have e1778 := (an (not_f h1774) (nspeculumbase_Within_ok k a2.e0 0 1000 _ h1777))
    rcases ifs h with ⟨h1779, h⟩ | ⟨h1779, h⟩
    ·have e1780 := (an (not_f h1779) (show (0:Int) ≤ 1 ∧ (1:Int) < ((2 : Nat) : Int) from ⟨by decide, by decide⟩))
     obtain ⟨r1781, h1782, h⟩ := bs h
     have e1783 := (an (not_f h1779) (nspeculumbase_Within_ok k a2.e1 0 1000 _ h1782))
     rcases ifs h with ⟨h1784, h⟩ | ⟨h1784, h⟩
     ·have e1785 := (an (not_f h1784) (show (0:Int) ≤ 0 ∧ (0:Int) < ((2 : Nat) : Int) from ⟨by decide, by decide⟩))
      obtain ⟨r1786, h1787, h⟩ := bs h
      have e1788 := (an (not_f h1784) (nspeculumbase_Within_ok k a1.e0 0 1000000 _ h1787))
      rcases ifs h with ⟨h1789, h⟩ | ⟨h1789, h⟩
      ·have e1790 := (an (not_f h1789) (show (0:Int) ≤ 1 ∧ (1:Int) < ((2 : Nat) : Int) from ⟨by decide, by decide⟩))
       obtain ⟨r1791, h1792, h⟩ := bs h
       have e1793 := (an (not_f h1789) (nspeculumbase_Within_ok k a1.e1 0 1000000 _ h1792))
       have e1794 := (ti (ti (ti (ti (an (an (decide_eq_false h1769) trivial) (an e1773 (an (an (decide_eq_false h1769) trivial) (an (decide_eq_false h1769) (ti (an e1775 (an (an (not_f h1774) trivial) (an e1778 (an (an (not_f h1774) trivial) (an (not_f h1774) (ti (an e1780 (an (an (not_f h1779) trivial) (an e1783 (an (an (not_f h1779) trivial) (an (not_f h1779) (ti (an e1785 (an (an (not_f h1784) trivial) (an e1788 (an (an (not_f h1784) trivial) (an (not_f h1784) (ti (an e1790 (an (an (not_f h1789) trivial) (an e1793 (an (an (not_f h1789) trivial) (an (not_f h1789) trivial))))))))))))))))))))))))))))))))
       rcases ifs h with ⟨h1795, h⟩ | ⟨h1795, h⟩
       ·obtain ⟨r1796, h1797, h⟩ := bs h
        have e1798 := (show VC Go.Proofs.Try.prog 9 [VV.tr (List.flatMap c_SGrit a0) a0.length] (VV.fr (List.flatMap c_SGrit r1796) r1796.length) from (VC.weak (nspeculumlaw04_grits_ok k a0 _ h1797) (Wv.fw rfl rfl)))
        obtain ⟨r1799, h1800, h⟩ := bs h
        have e1801 := (ti (an e1798 (ti (an (ngrind_Shortest_ok k r1796 a1 _ h1800) (ti (ti (ti (ti (ti (ti (ti trivial)))))))))))
        rcases ifs h with ⟨h1802, h⟩ | ⟨h1802, h⟩
        ·have e1803 := (ti (ti (ti (an (not_f (decide_eq_true h1802)) (an (not_f (decide_eq_true h1802)) (an (not_f (decide_eq_true h1802)) trivial))))))
         have e1805 := (show VC Go.Proofs.Try.prog 9 [VV.tr (List.flatMap c_SGrit a0) a0.length] (VV.fr (List.flatMap c_SGrit r1796) r1796.length) from (VC.weak (nspeculumlaw04_grits_ok k a0 _ h1797) (Wv.fw rfl rfl)))
         have e1806 := (show (0:Int) ≤ 0 ∧ (0:Int) < ((2 : Nat) : Int) from ⟨by decide, by decide⟩)
         have e1807 := (show (0:Int) ≤ 0 ∧ (0:Int) < ((2 : Nat) : Int) from ⟨by decide, by decide⟩)
         have e1808 := (show (0:Int) ≤ 1 ∧ (1:Int) < ((2 : Nat) : Int) from ⟨by decide, by decide⟩)
         have e1809 := (show (0:Int) ≤ 1 ∧ (1:Int) < ((2 : Nat) : Int) from ⟨by decide, by decide⟩)
         obtain ⟨r1810, h1811, h⟩ := bs h
         have e1812 := (VC.args (ngrind_Shortest_ok k r1796 (⟨minI 1000000 (w64 (a1.e0 + a2.e0)), maxI 0 (w64 (a1.e1 - a2.e1))⟩ : A23) _ h1811) (eqKQ_5 r1796 a1 a2))
         have e1813 := (ti (an e1805 (an e1806 (ti (an e1807 (ti (ti (ti (an e1808 (ti (an e1809 (ti (ti (ti (ti (an e1812 (ti (ti (ti (ti (ti (ti (ti trivial)))))))))))))))))))))))
         rcases ifs h with ⟨h1814, h⟩ | ⟨h1814, h⟩
         ·have e1815 := (an (not_f (decide_eq_true h1802)) trivial)
          have e1816 := (an (not_f (decide_eq_true h1802)) trivial)
          have e1817 := (an (not_f (decide_eq_true h1802)) trivial)
          have e1818 := (an (decide_eq_true h1814) (not_f (decide_eq_true h1802)))
          have e1819 := (ti (ti (ti (an (not_f (decide_eq_true h1814)) (an (not_f (decide_eq_true h1814)) (an (not_f (decide_eq_true h1814)) (ti (an (an rf trivial) (an (an rf trivial) (an (an rf trivial) (an (an (decide_eq_true h1814) trivial) (an (an (decide_eq_true h1814) trivial) (an (an (decide_eq_true h1814) trivial) (an e1815 (an e1816 (an e1817 (an e1818 (an (an rf (decide_eq_true h1814)) (an rf trivial)))))))))))))))))))
          rcases ifs h with ⟨h1820, h⟩ | ⟨h1820, h⟩
          ·injection h with h; subst h
           exact fun_ok pm pn Go.Proofs.Try.func4 (r0 := vb false) (ans := [.reg (nN 3 []), .reg (.call (vb r1766) :: .n :: []), .br false, .reg (arKQ_6 r1771 r1776 r1781 r1786 r1791), .br false, .reg (arKQ_7 r1796 r1799), .reg (nN 3 (.skip :: .skip :: .b false :: [])), .br false, .reg (arKQ_8 r1796 r1810), .reg (nN 3 (.skip :: .skip :: .b false :: nN 10 (.b false :: .b true :: .b false :: []))), .br true, .reg (.n :: [])]) (fr := true) (by kernel_rfl) (an (an (ti (ti (ti trivial))) (an (an (an (nawake_ok k _ h1767) (ti trivial)) (an (not_f h1768) trivial)) (an (an e1794 (an (not_f h1795) trivial)) (an e1801 (an (an e1803 (an rf trivial)) (an e1813 (an e1819 (an (decide_eq_true h1820) (an (ti trivial) trivial))))))))) (ti trivial)) (Wv.refl _)
          ·rcases ifs h with ⟨h1821, h⟩ | ⟨h1821, h⟩
           ·injection h with h; subst h
            exact fun_ok pm pn Go.Proofs.Try.func4 (r0 := vb true) (ans := [.reg (nN 3 []), .reg (.call (vb r1766) :: .n :: []), .br false, .reg (arKQ_6 r1771 r1776 r1781 r1786 r1791), .br false, .reg (arKQ_7 r1796 r1799), .reg (nN 3 (.skip :: .skip :: .b false :: [])), .br false, .reg (arKQ_8 r1796 r1810), .reg (nN 3 (.skip :: .skip :: .b false :: nN 10 (.b false :: .b true :: .b false :: []))), .br false, .reg (nN 3 []), .br true, .reg (.n :: [])]) (fr := true) (by kernel_rfl) (an (an (ti (ti (ti trivial))) (an (an (an (nawake_ok k _ h1767) (ti trivial)) (an (not_f h1768) trivial)) (an (an e1794 (an (not_f h1795) trivial)) (an e1801 (an (an e1803 (an rf trivial)) (an e1813 (an (an e1819 (an (decide_eq_false h1820) trivial)) (an (ti (ti (ti trivial))) (an (decide_eq_true h1821) (an (ti trivial) trivial)))))))))) (ti trivial)) (Wv.refl _)
           ·obtain ⟨h1822, h⟩ := ifn h
            have e1823 := (show (0 ≤ (1 : Int) ∧ True ∧ ((1 : Int)).toNat ≤ a0.length ∧ a0.length ≤ a0.length ∧ a0.length * 3 ≤ List.length (List.flatMap c_SGrit a0)) ∧ VV.tr (List.take ((a0.length - ((1 : Int)).toNat) * 3) (List.drop (((1 : Int)).toNat * 3) (List.flatMap c_SGrit a0))) (a0.length - ((1 : Int)).toNat) = VV.tr (List.flatMap c_SGrit (sl a0 (((1 : Int)).toNat) a0.length)) ((sl a0 (((1 : Int)).toNat) a0.length).length) from ⟨⟨h1822.1, trivial, (by have := h1822; omega), (by have := h1822; omega), (by rw [flatMap_len len_c_SGrit]; have := h1822; omega)⟩, (by exact sl_flat len_c_SGrit a0 (((1 : Int)).toNat) a0.length (by have := h1822; omega) (by have := h1822; omega))⟩)
            obtain ⟨r1824, h1825, h⟩ := bs h
            have e1826 := (show VC Go.Proofs.Try.prog 9 [VV.tr (List.flatMap c_SGrit (sl a0 (((1 : Int)).toNat) a0.length)) ((sl a0 (((1 : Int)).toNat) a0.length).length)] (VV.fr (List.flatMap c_SGrit r1824) r1824.length) from (VC.weak (nspeculumlaw04_grits_ok k (sl a0 (((1 : Int)).toNat) a0.length) _ h1825) (Wv.fw rfl rfl)))
            obtain ⟨r1827, h1828, h⟩ := bs h
            have e1829 := (ti (an e1823 (an e1826 (ti (an (ngrind_Shortest_ok k r1824 a1 _ h1828) (ti (ti (ti (ti (ti (ti (ti trivial))))))))))))
            rcases ifs h with ⟨h1830, h⟩ | ⟨h1830, h⟩
            ·have e1831 := (ti (ti (ti (an (decide_eq_true h1830) (an (decide_eq_true h1830) (an (decide_eq_true h1830) (ti (ti (an (decide_eq_true h1830) (an (decide_eq_true h1830) (ti (ti (ti (an (decide_eq_true h1830) (an (decide_eq_true h1830) (ti trivial))))))))))))))))
             injection h with h; subst h
             exact fun_ok pm pn Go.Proofs.Try.func4 (r0 := vb true) (ans := [.reg (nN 3 []), .reg (.call (vb r1766) :: .n :: []), .br false, .reg (arKQ_6 r1771 r1776 r1781 r1786 r1791), .br false, .reg (arKQ_7 r1796 r1799), .reg (nN 3 (.skip :: .skip :: .b false :: [])), .br false, .reg (arKQ_8 r1796 r1810), .reg (nN 3 (.skip :: .skip :: .b false :: nN 10 (.b false :: .b true :: .b false :: []))), .br false, .reg (nN 3 []), .br false, .reg (arKQ_9 a0 r1824 r1827), .reg (nN 3 (nS 11 (.b true :: .n :: [])))]) (fr := true) (by kernel_rfl) (an (an (ti (ti (ti trivial))) (an (an (an (nawake_ok k _ h1767) (ti trivial)) (an (not_f h1768) trivial)) (an (an e1794 (an (not_f h1795) trivial)) (an e1801 (an (an e1803 (an rf trivial)) (an e1813 (an (an e1819 (an (decide_eq_false h1820) trivial)) (an (an (ti (ti (ti trivial))) (an (decide_eq_false h1821) trivial)) (an e1829 (an e1831 trivial)))))))))) (ti trivial)) (Wv.refl _)
            ·rcases ifs h with ⟨h1832, h⟩ | ⟨h1832, h⟩
             ·have e1833 := (an (decide_eq_false h1830) (decide_eq_true h1832))
              have e1834 := (an (decide_eq_false h1830) (decide_eq_true h1802))
              have e1835 := (ti (ti (ti (an (an (decide_eq_false h1830) trivial) (an (an (decide_eq_false h1830) trivial) (an (an (decide_eq_false h1830) trivial) (an (an (decide_eq_true h1832) trivial) (an (an (decide_eq_true h1832) trivial) (an e1833 (an (an (decide_eq_false h1830) trivial) (an (an (decide_eq_true h1802) trivial) (an (an (decide_eq_true h1802) trivial) (an (an (decide_eq_true h1802) trivial) (an e1834 (an (decide_eq_false h1830) (ti trivial))))))))))))))))
              injection h with h; subst h
              exact fun_ok pm pn Go.Proofs.Try.func4 (r0 := vb (decide (r1799.2.1 ≤ r1827.2.1))) (ans := [.reg (nN 3 []), .reg (.call (vb r1766) :: .n :: []), .br false, .reg (arKQ_6 r1771 r1776 r1781 r1786 r1791), .br false, .reg (arKQ_7 r1796 r1799), .reg (nN 3 (.skip :: .skip :: .b false :: [])), .br false, .reg (arKQ_8 r1796 r1810), .reg (nN 3 (.skip :: .skip :: .b false :: nN 10 (.b false :: .b true :: .b false :: []))), .br false, .reg (nN 3 []), .br false, .reg (arKQ_9 a0 r1824 r1827), .reg (nN 8 (.b true :: nN 4 (.b true :: .b false :: .n :: [])))]) (fr := true) (by kernel_rfl) (an (an (ti (ti (ti trivial))) (an (an (an (nawake_ok k _ h1767) (ti trivial)) (an (not_f h1768) trivial)) (an (an e1794 (an (not_f h1795) trivial)) (an e1801 (an (an e1803 (an rf trivial)) (an e1813 (an (an e1819 (an (decide_eq_false h1820) trivial)) (an (an (ti (ti (ti trivial))) (an (decide_eq_false h1821) trivial)) (an e1829 (an e1835 trivial)))))))))) (ti trivial)) (Wv.refl _)
             ·have e1836 := (an (decide_eq_false h1830) (decide_eq_false h1832))
              have e1837 := (ti (ti (ti (an (an (decide_eq_false h1830) trivial) (an (an (decide_eq_false h1830) trivial) (an (an (decide_eq_false h1830) trivial) (an (decide_eq_false h1832) (an (decide_eq_false h1832) (an e1836 (an (an (decide_eq_false h1830) trivial) (an rf (an rf (an rf (an (an (decide_eq_false h1830) rf) (an (decide_eq_false h1830) (ti trivial))))))))))))))))
              injection h with h; subst h
              exact fun_ok pm pn Go.Proofs.Try.func4 (r0 := vb false) (ans := [.reg (nN 3 []), .reg (.call (vb r1766) :: .n :: []), .br false, .reg (arKQ_6 r1771 r1776 r1781 r1786 r1791), .br false, .reg (arKQ_7 r1796 r1799), .reg (nN 3 (.skip :: .skip :: .b false :: [])), .br false, .reg (arKQ_8 r1796 r1810), .reg (nN 3 (.skip :: .skip :: .b false :: nN 10 (.b false :: .b true :: .b false :: []))), .br false, .reg (nN 3 []), .br false, .reg (arKQ_9 a0 r1824 r1827), .reg (nN 6 (.skip :: .skip :: .b false :: .n :: nS 3 (.b false :: .b false :: .n :: [])))]) (fr := true) (by kernel_rfl) (an (an (ti (ti (ti trivial))) (an (an (an (nawake_ok k _ h1767) (ti trivial)) (an (not_f h1768) trivial)) (an (an e1794 (an (not_f h1795) trivial)) (an e1801 (an (an e1803 (an rf trivial)) (an e1813 (an (an e1819 (an (decide_eq_false h1820) trivial)) (an (an (ti (ti (ti trivial))) (an (decide_eq_false h1821) trivial)) (an e1829 (an e1837 trivial)))))))))) (ti trivial)) (Wv.refl _)
         ·have e1838 := (an (not_t (decide_eq_false h1814)) trivial)
          have e1839 := (an (not_t (decide_eq_false h1814)) trivial)
          rcases ifs h with ⟨h1840, h⟩ | ⟨h1840, h⟩
          ·have e1841 := (an (not_f (decide_eq_true h1840)) trivial)
           have e1842 := (an (not_f (decide_eq_true h1840)) trivial)
           have e1843 := (an (not_f (decide_eq_true h1840)) trivial)
           have e1844 := (an (not_f (decide_eq_true h1840)) (decide_eq_false h1814))
           have e1845 := (ti (ti (ti (an e1838 (an e1839 (an (not_t (decide_eq_false h1814)) (ti (an e1841 (an e1842 (an e1843 (an (decide_eq_false h1814) (an (decide_eq_false h1814) (an (decide_eq_false h1814) (ti (ti (ti (an (decide_eq_false h1814) (an e1844 (an (not_f (decide_eq_true h1840)) trivial)))))))))))))))))))
           rcases ifs h with ⟨h1846, h⟩ | ⟨h1846, h⟩
           ·injection h with h; subst h
            exact fun_ok pm pn Go.Proofs.Try.func4 (r0 := vb true) (ans := [.reg (nN 3 []), .reg (.call (vb r1766) :: .n :: []), .br false, .reg (arKQ_6 r1771 r1776 r1781 r1786 r1791), .br false, .reg (arKQ_7 r1796 r1799), .reg (nN 3 (.skip :: .skip :: .b false :: [])), .br false, .reg (arKQ_8 r1796 r1810), .reg (nN 5 (.b true :: nN 4 (nS 7 (.b false :: .b false :: [])))), .br false, .reg (nN 3 []), .br true, .reg (.n :: [])]) (fr := true) (by kernel_rfl) (an (an (ti (ti (ti trivial))) (an (an (an (nawake_ok k _ h1767) (ti trivial)) (an (not_f h1768) trivial)) (an (an e1794 (an (not_f h1795) trivial)) (an e1801 (an (an e1803 (an rf trivial)) (an e1813 (an (an e1845 (an rf trivial)) (an (ti (ti (ti trivial))) (an (decide_eq_true h1846) (an (ti trivial) trivial)))))))))) (ti trivial)) (Wv.refl _)
           ·obtain ⟨h1847, h⟩ := ifn h
            have e1848 := (show (0 ≤ (1 : Int) ∧ True ∧ ((1 : Int)).toNat ≤ a0.length ∧ a0.length ≤ a0.length ∧ a0.length * 3 ≤ List.length (List.flatMap c_SGrit a0)) ∧ VV.tr (List.take ((a0.length - ((1 : Int)).toNat) * 3) (List.drop (((1 : Int)).toNat * 3) (List.flatMap c_SGrit a0))) (a0.length - ((1 : Int)).toNat) = VV.tr (List.flatMap c_SGrit (sl a0 (((1 : Int)).toNat) a0.length)) ((sl a0 (((1 : Int)).toNat) a0.length).length) from ⟨⟨h1847.1, trivial, (by have := h1847; omega), (by have := h1847; omega), (by rw [flatMap_len len_c_SGrit]; have := h1847; omega)⟩, (by exact sl_flat len_c_SGrit a0 (((1 : Int)).toNat) a0.length (by have := h1847; omega) (by have := h1847; omega))⟩)
            obtain ⟨r1849, h1850, h⟩ := bs h
            have e1851 := (show VC Go.Proofs.Try.prog 9 [VV.tr (List.flatMap c_SGrit (sl a0 (((1 : Int)).toNat) a0.length)) ((sl a0 (((1 : Int)).toNat) a0.length).length)] (VV.fr (List.flatMap c_SGrit r1849) r1849.length) from (VC.weak (nspeculumlaw04_grits_ok k (sl a0 (((1 : Int)).toNat) a0.length) _ h1850) (Wv.fw rfl rfl)))
            obtain ⟨r1852, h1853, h⟩ := bs h
            have e1854 := (ti (an e1848 (an e1851 (ti (an (ngrind_Shortest_ok k r1849 a1 _ h1853) (ti (ti (ti (ti (ti (ti (ti trivial))))))))))))
            rcases ifs h with ⟨h1855, h⟩ | ⟨h1855, h⟩
            ·have e1856 := (ti (ti (ti (an (decide_eq_true h1855) (an (decide_eq_true h1855) (an (decide_eq_true h1855) (ti (ti (an (decide_eq_true h1855) (an (decide_eq_true h1855) (ti (ti (ti (an (decide_eq_true h1855) (an (decide_eq_true h1855) (ti trivial))))))))))))))))
             injection h with h; subst h
             exact fun_ok pm pn Go.Proofs.Try.func4 (r0 := vb true) (ans := [.reg (nN 3 []), .reg (.call (vb r1766) :: .n :: []), .br false, .reg (arKQ_6 r1771 r1776 r1781 r1786 r1791), .br false, .reg (arKQ_7 r1796 r1799), .reg (nN 3 (.skip :: .skip :: .b false :: [])), .br false, .reg (arKQ_8 r1796 r1810), .reg (nN 5 (.b true :: nN 4 (nS 7 (.b false :: .b false :: [])))), .br false, .reg (nN 3 []), .br false, .reg (arKQ_9 a0 r1849 r1852), .reg (nN 3 (nS 11 (.b true :: .n :: [])))]) (fr := true) (by kernel_rfl) (an (an (ti (ti (ti trivial))) (an (an (an (nawake_ok k _ h1767) (ti trivial)) (an (not_f h1768) trivial)) (an (an e1794 (an (not_f h1795) trivial)) (an e1801 (an (an e1803 (an rf trivial)) (an e1813 (an (an e1845 (an rf trivial)) (an (an (ti (ti (ti trivial))) (an (decide_eq_false h1846) trivial)) (an e1854 (an e1856 trivial)))))))))) (ti trivial)) (Wv.refl _)
            ·rcases ifs h with ⟨h1857, h⟩ | ⟨h1857, h⟩
             ·have e1858 := (an (decide_eq_false h1855) (decide_eq_true h1857))
              have e1859 := (an (decide_eq_false h1855) (decide_eq_true h1802))
              have e1860 := (ti (ti (ti (an (an (decide_eq_false h1855) trivial) (an (an (decide_eq_false h1855) trivial) (an (an (decide_eq_false h1855) trivial) (an (an (decide_eq_true h1857) trivial) (an (an (decide_eq_true h1857) trivial) (an e1858 (an (an (decide_eq_false h1855) trivial) (an (an (decide_eq_true h1802) trivial) (an (an (decide_eq_true h1802) trivial) (an (an (decide_eq_true h1802) trivial) (an e1859 (an (decide_eq_false h1855) (ti trivial))))))))))))))))
              injection h with h; subst h
              exact fun_ok pm pn Go.Proofs.Try.func4 (r0 := vb (decide (r1799.2.1 ≤ r1852.2.1))) (ans := [.reg (nN 3 []), .reg (.call (vb r1766) :: .n :: []), .br false, .reg (arKQ_6 r1771 r1776 r1781 r1786 r1791), .br false, .reg (arKQ_7 r1796 r1799), .reg (nN 3 (.skip :: .skip :: .b false :: [])), .br false, .reg (arKQ_8 r1796 r1810), .reg (nN 5 (.b true :: nN 4 (nS 7 (.b false :: .b false :: [])))), .br false, .reg (nN 3 []), .br false, .reg (arKQ_9 a0 r1849 r1852), .reg (nN 8 (.b true :: nN 4 (.b true :: .b false :: .n :: [])))]) (fr := true) (by kernel_rfl) (an (an (ti (ti (ti trivial))) (an (an (an (nawake_ok k _ h1767) (ti trivial)) (an (not_f h1768) trivial)) (an (an e1794 (an (not_f h1795) trivial)) (an e1801 (an (an e1803 (an rf trivial)) (an e1813 (an (an e1845 (an rf trivial)) (an (an (ti (ti (ti trivial))) (an (decide_eq_false h1846) trivial)) (an e1854 (an e1860 trivial)))))))))) (ti trivial)) (Wv.refl _)
             ·have e1861 := (an (decide_eq_false h1855) (decide_eq_false h1857))
              have e1862 := (ti (ti (ti (an (an (decide_eq_false h1855) trivial) (an (an (decide_eq_false h1855) trivial) (an (an (decide_eq_false h1855) trivial) (an (decide_eq_false h1857) (an (decide_eq_false h1857) (an e1861 (an (an (decide_eq_false h1855) trivial) (an rf (an rf (an rf (an (an (decide_eq_false h1855) rf) (an (decide_eq_false h1855) (ti trivial))))))))))))))))
              injection h with h; subst h
              exact fun_ok pm pn Go.Proofs.Try.func4 (r0 := vb false) (ans := [.reg (nN 3 []), .reg (.call (vb r1766) :: .n :: []), .br false, .reg (arKQ_6 r1771 r1776 r1781 r1786 r1791), .br false, .reg (arKQ_7 r1796 r1799), .reg (nN 3 (.skip :: .skip :: .b false :: [])), .br false, .reg (arKQ_8 r1796 r1810), .reg (nN 5 (.b true :: nN 4 (nS 7 (.b false :: .b false :: [])))), .br false, .reg (nN 3 []), .br false, .reg (arKQ_9 a0 r1849 r1852), .reg (nN 6 (.skip :: .skip :: .b false :: .n :: nS 3 (.b false :: .b false :: .n :: [])))]) (fr := true) (by kernel_rfl) (an (an (ti (ti (ti trivial))) (an (an (an (nawake_ok k _ h1767) (ti trivial)) (an (not_f h1768) trivial)) (an (an e1794 (an (not_f h1795) trivial)) (an e1801 (an (an e1803 (an rf trivial)) (an e1813 (an (an e1845 (an rf trivial)) (an (an (ti (ti (ti trivial))) (an (decide_eq_false h1846) trivial)) (an e1854 (an e1862 trivial)))))))))) (ti trivial)) (Wv.refl _)
          ·have e1863 := (ti (ti (ti (an e1838 (an e1839 (an (not_t (decide_eq_false h1814)) (ti (an (not_t (decide_eq_false h1840)) (an (not_t (decide_eq_false h1840)) (an (not_t (decide_eq_false h1840)) (ti (ti (ti (ti (ti (ti (ti (an (not_t (decide_eq_false h1840)) (an (not_t (decide_eq_false h1840)) trivial)))))))))))))))))))
           injection h with h; subst h
           exact fun_ok pm pn Go.Proofs.Try.func4 (r0 := vb false) (ans := [.reg (nN 3 []), .reg (.call (vb r1766) :: .n :: []), .br false, .reg (arKQ_6 r1771 r1776 r1781 r1786 r1791), .br false, .reg (arKQ_7 r1796 r1799), .reg (nN 3 (.skip :: .skip :: .b false :: [])), .br false, .reg (arKQ_8 r1796 r1810), .reg (nN 5 (.b true :: .n :: nS 11 (.b true :: []))), .br true, .reg (.n :: [])]) (fr := true) (by kernel_rfl) (an (an (ti (ti (ti trivial))) (an (an (an (nawake_ok k _ h1767) (ti trivial)) (an (not_f h1768) trivial)) (an (an e1794 (an (not_f h1795) trivial)) (an e1801 (an (an e1803 (an rf trivial)) (an e1813 (an e1863 (an rt (an (ti trivial) trivial))))))))) (ti trivial)) (Wv.refl _)
        ·have e1864 := (an (not_t (decide_eq_false h1802)) trivial)
         have e1865 := (an (not_t (decide_eq_false h1802)) trivial)
         have e1866 := (ti (ti (ti (an e1864 (an e1865 (an (not_t (decide_eq_false h1802)) trivial))))))
         rcases ifs h with ⟨h1867, h⟩ | ⟨h1867, h⟩
         ·have e1869 := (show VC Go.Proofs.Try.prog 9 [VV.tr (List.flatMap c_SGrit a0) a0.length] (VV.fr (List.flatMap c_SGrit r1796) r1796.length) from (VC.weak (nspeculumlaw04_grits_ok k a0 _ h1797) (Wv.fw rfl rfl)))
          have e1870 := (show (0:Int) ≤ 0 ∧ (0:Int) < ((2 : Nat) : Int) from ⟨by decide, by decide⟩)
          have e1871 := (show (0:Int) ≤ 0 ∧ (0:Int) < ((2 : Nat) : Int) from ⟨by decide, by decide⟩)
          have e1872 := (show (0:Int) ≤ 1 ∧ (1:Int) < ((2 : Nat) : Int) from ⟨by decide, by decide⟩)
          have e1873 := (show (0:Int) ≤ 1 ∧ (1:Int) < ((2 : Nat) : Int) from ⟨by decide, by decide⟩)
          obtain ⟨r1874, h1875, h⟩ := bs h
          have e1876 := (VC.args (ngrind_Shortest_ok k r1796 (⟨minI 1000000 (w64 (a1.e0 + a2.e0)), maxI 0 (w64 (a1.e1 - a2.e1))⟩ : A23) _ h1875) (eqKQ_5 r1796 a1 a2))
          have e1877 := (ti (an e1869 (an e1870 (ti (an e1871 (ti (ti (ti (an e1872 (ti (an e1873 (ti (ti (ti (ti (an e1876 (ti (ti (ti (ti (ti (ti (ti trivial)))))))))))))))))))))))
          rcases ifs h with ⟨h1878, h⟩ | ⟨h1878, h⟩
          ·have e1879 := (an (decide_eq_true h1878) (not_t (decide_eq_false h1802)))
           have e1880 := (ti (ti (ti (an (not_f (decide_eq_true h1878)) (an (not_f (decide_eq_true h1878)) (an (not_f (decide_eq_true h1878)) (ti (an (an rf trivial) (an (an rf trivial) (an (an rf trivial) (an (an (decide_eq_true h1878) trivial) (an (an (decide_eq_true h1878) trivial) (an (an (decide_eq_true h1878) trivial) (an (not_t (decide_eq_false h1802)) (an (not_t (decide_eq_false h1802)) (an (not_t (decide_eq_false h1802)) (an e1879 (an (an rf (decide_eq_true h1878)) (an rf trivial)))))))))))))))))))
           injection h with h; subst h
           exact fun_ok pm pn Go.Proofs.Try.func4 (r0 := vb false) (ans := [.reg (nN 3 []), .reg (.call (vb r1766) :: .n :: []), .br false, .reg (arKQ_6 r1771 r1776 r1781 r1786 r1791), .br false, .reg (arKQ_7 r1796 r1799), .reg (nN 5 (.b true :: [])), .br false, .reg (arKQ_8 r1796 r1874), .reg (nN 3 (.skip :: .skip :: .b false :: nN 7 (nS 3 (.b true :: .b true :: .b false :: [])))), .br true, .reg (.n :: [])]) (fr := true) (by kernel_rfl) (an (an (ti (ti (ti trivial))) (an (an (an (nawake_ok k _ h1767) (ti trivial)) (an (not_f h1768) trivial)) (an (an e1794 (an (not_f h1795) trivial)) (an e1801 (an (an e1866 (an (not_f (decide_eq_true h1867)) trivial)) (an e1877 (an e1880 (an rt (an (ti trivial) trivial))))))))) (ti trivial)) (Wv.refl _)
          ·have e1881 := (an (not_t (decide_eq_false h1878)) trivial)
           have e1882 := (an (not_t (decide_eq_false h1878)) trivial)
           rcases ifs h with ⟨h1883, h⟩ | ⟨h1883, h⟩
           ·have e1884 := (an (not_f (decide_eq_true h1883)) trivial)
            have e1885 := (an (not_f (decide_eq_true h1883)) trivial)
            have e1886 := (an (not_f (decide_eq_true h1883)) trivial)
            have e1887 := (an (not_f (decide_eq_true h1883)) (decide_eq_false h1878))
            have e1888 := (ti (ti (ti (an e1881 (an e1882 (an (not_t (decide_eq_false h1878)) (ti (an e1884 (an e1885 (an e1886 (an (decide_eq_false h1878) (an (decide_eq_false h1878) (an (decide_eq_false h1878) (ti (ti (ti (an (decide_eq_false h1878) (an e1887 (an (not_f (decide_eq_true h1883)) trivial)))))))))))))))))))
            rcases ifs h with ⟨h1889, h⟩ | ⟨h1889, h⟩
            ·injection h with h; subst h
             exact fun_ok pm pn Go.Proofs.Try.func4 (r0 := vb true) (ans := [.reg (nN 3 []), .reg (.call (vb r1766) :: .n :: []), .br false, .reg (arKQ_6 r1771 r1776 r1781 r1786 r1791), .br false, .reg (arKQ_7 r1796 r1799), .reg (nN 5 (.b true :: [])), .br false, .reg (arKQ_8 r1796 r1874), .reg (nN 5 (.b true :: nN 4 (nS 7 (.b false :: .b false :: [])))), .br false, .reg (nN 3 []), .br true, .reg (.n :: [])]) (fr := true) (by kernel_rfl) (an (an (ti (ti (ti trivial))) (an (an (an (nawake_ok k _ h1767) (ti trivial)) (an (not_f h1768) trivial)) (an (an e1794 (an (not_f h1795) trivial)) (an e1801 (an (an e1866 (an (not_f (decide_eq_true h1867)) trivial)) (an e1877 (an (an e1888 (an rf trivial)) (an (ti (ti (ti trivial))) (an (decide_eq_true h1889) (an (ti trivial) trivial)))))))))) (ti trivial)) (Wv.refl _)
            ·obtain ⟨h1890, h⟩ := ifn h
             have e1891 := (show (0 ≤ (1 : Int) ∧ True ∧ ((1 : Int)).toNat ≤ a0.length ∧ a0.length ≤ a0.length ∧ a0.length * 3 ≤ List.length (List.flatMap c_SGrit a0)) ∧ VV.tr (List.take ((a0.length - ((1 : Int)).toNat) * 3) (List.drop (((1 : Int)).toNat * 3) (List.flatMap c_SGrit a0))) (a0.length - ((1 : Int)).toNat) = VV.tr (List.flatMap c_SGrit (sl a0 (((1 : Int)).toNat) a0.length)) ((sl a0 (((1 : Int)).toNat) a0.length).length) from ⟨⟨h1890.1, trivial, (by have := h1890; omega), (by have := h1890; omega), (by rw [flatMap_len len_c_SGrit]; have := h1890; omega)⟩, (by exact sl_flat len_c_SGrit a0 (((1 : Int)).toNat) a0.length (by have := h1890; omega) (by have := h1890; omega))⟩)
             obtain ⟨r1892, h1893, h⟩ := bs h
             have e1894 := (show VC Go.Proofs.Try.prog 9 [VV.tr (List.flatMap c_SGrit (sl a0 (((1 : Int)).toNat) a0.length)) ((sl a0 (((1 : Int)).toNat) a0.length).length)] (VV.fr (List.flatMap c_SGrit r1892) r1892.length) from (VC.weak (nspeculumlaw04_grits_ok k (sl a0 (((1 : Int)).toNat) a0.length) _ h1893) (Wv.fw rfl rfl)))
             obtain ⟨r1895, h1896, h⟩ := bs h
             have e1897 := (ti (an e1891 (an e1894 (ti (an (ngrind_Shortest_ok k r1892 a1 _ h1896) (ti (ti (ti (ti (ti (ti (ti trivial))))))))))))
             rcases ifs h with ⟨h1898, h⟩ | ⟨h1898, h⟩
             ·have e1899 := (ti (ti (ti (an (decide_eq_true h1898) (an (decide_eq_true h1898) (an (decide_eq_true h1898) (ti (ti (an (decide_eq_true h1898) (an (decide_eq_true h1898) (ti (ti (ti (an (decide_eq_true h1898) (an (decide_eq_true h1898) (ti trivial))))))))))))))))
              injection h with h; subst h
              exact fun_ok pm pn Go.Proofs.Try.func4 (r0 := vb true) (ans := [.reg (nN 3 []), .reg (.call (vb r1766) :: .n :: []), .br false, .reg (arKQ_6 r1771 r1776 r1781 r1786 r1791), .br false, .reg (arKQ_7 r1796 r1799), .reg (nN 5 (.b true :: [])), .br false, .reg (arKQ_8 r1796 r1874), .reg (nN 5 (.b true :: nN 4 (nS 7 (.b false :: .b false :: [])))), .br false, .reg (nN 3 []), .br false, .reg (arKQ_9 a0 r1892 r1895), .reg (nN 3 (nS 11 (.b true :: .n :: [])))]) (fr := true) (by kernel_rfl) (an (an (ti (ti (ti trivial))) (an (an (an (nawake_ok k _ h1767) (ti trivial)) (an (not_f h1768) trivial)) (an (an e1794 (an (not_f h1795) trivial)) (an e1801 (an (an e1866 (an (not_f (decide_eq_true h1867)) trivial)) (an e1877 (an (an e1888 (an rf trivial)) (an (an (ti (ti (ti trivial))) (an (decide_eq_false h1889) trivial)) (an e1897 (an e1899 trivial)))))))))) (ti trivial)) (Wv.refl _)
             ·rcases ifs h with ⟨h1900, h⟩ | ⟨h1900, h⟩
              ·have e1901 := (an (decide_eq_false h1898) (decide_eq_true h1900))
               have e1902 := (an (decide_eq_false h1898) (decide_eq_false h1802))
               have e1903 := (ti (ti (ti (an (an (decide_eq_false h1898) trivial) (an (an (decide_eq_false h1898) trivial) (an (an (decide_eq_false h1898) trivial) (an (an (decide_eq_true h1900) trivial) (an (an (decide_eq_true h1900) trivial) (an e1901 (an (an (decide_eq_false h1898) trivial) (an (decide_eq_false h1802) (an (decide_eq_false h1802) (an (decide_eq_false h1802) (an e1902 (an (decide_eq_false h1898) (ti trivial))))))))))))))))
               injection h with h; subst h
               exact fun_ok pm pn Go.Proofs.Try.func4 (r0 := vb false) (ans := [.reg (nN 3 []), .reg (.call (vb r1766) :: .n :: []), .br false, .reg (arKQ_6 r1771 r1776 r1781 r1786 r1791), .br false, .reg (arKQ_7 r1796 r1799), .reg (nN 5 (.b true :: [])), .br false, .reg (arKQ_8 r1796 r1874), .reg (nN 5 (.b true :: nN 4 (nS 7 (.b false :: .b false :: [])))), .br false, .reg (nN 3 []), .br false, .reg (arKQ_9 a0 r1892 r1895), .reg (nN 8 (.b true :: .n :: nS 3 (.b false :: .b false :: .n :: [])))]) (fr := true) (by kernel_rfl) (an (an (ti (ti (ti trivial))) (an (an (an (nawake_ok k _ h1767) (ti trivial)) (an (not_f h1768) trivial)) (an (an e1794 (an (not_f h1795) trivial)) (an e1801 (an (an e1866 (an (not_f (decide_eq_true h1867)) trivial)) (an e1877 (an (an e1888 (an rf trivial)) (an (an (ti (ti (ti trivial))) (an (decide_eq_false h1889) trivial)) (an e1897 (an e1903 trivial)))))))))) (ti trivial)) (Wv.refl _)
              ·have e1904 := (an (decide_eq_false h1898) (decide_eq_false h1900))
               have e1905 := (ti (ti (ti (an (an (decide_eq_false h1898) trivial) (an (an (decide_eq_false h1898) trivial) (an (an (decide_eq_false h1898) trivial) (an (decide_eq_false h1900) (an (decide_eq_false h1900) (an e1904 (an (an (decide_eq_false h1898) trivial) (an rf (an rf (an rf (an (an (decide_eq_false h1898) rf) (an (decide_eq_false h1898) (ti trivial))))))))))))))))
               injection h with h; subst h
               exact fun_ok pm pn Go.Proofs.Try.func4 (r0 := vb false) (ans := [.reg (nN 3 []), .reg (.call (vb r1766) :: .n :: []), .br false, .reg (arKQ_6 r1771 r1776 r1781 r1786 r1791), .br false, .reg (arKQ_7 r1796 r1799), .reg (nN 5 (.b true :: [])), .br false, .reg (arKQ_8 r1796 r1874), .reg (nN 5 (.b true :: nN 4 (nS 7 (.b false :: .b false :: [])))), .br false, .reg (nN 3 []), .br false, .reg (arKQ_9 a0 r1892 r1895), .reg (nN 6 (.skip :: .skip :: .b false :: .n :: nS 3 (.b false :: .b false :: .n :: [])))]) (fr := true) (by kernel_rfl) (an (an (ti (ti (ti trivial))) (an (an (an (nawake_ok k _ h1767) (ti trivial)) (an (not_f h1768) trivial)) (an (an e1794 (an (not_f h1795) trivial)) (an e1801 (an (an e1866 (an (not_f (decide_eq_true h1867)) trivial)) (an e1877 (an (an e1888 (an rf trivial)) (an (an (ti (ti (ti trivial))) (an (decide_eq_false h1889) trivial)) (an e1897 (an e1905 trivial)))))))))) (ti trivial)) (Wv.refl _)
           ·have e1906 := (ti (ti (ti (an e1881 (an e1882 (an (not_t (decide_eq_false h1878)) (ti (an (not_t (decide_eq_false h1883)) (an (not_t (decide_eq_false h1883)) (an (not_t (decide_eq_false h1883)) (ti (ti (ti (ti (ti (ti (ti (an (not_t (decide_eq_false h1883)) (an (not_t (decide_eq_false h1883)) trivial)))))))))))))))))))
            injection h with h; subst h
            exact fun_ok pm pn Go.Proofs.Try.func4 (r0 := vb false) (ans := [.reg (nN 3 []), .reg (.call (vb r1766) :: .n :: []), .br false, .reg (arKQ_6 r1771 r1776 r1781 r1786 r1791), .br false, .reg (arKQ_7 r1796 r1799), .reg (nN 5 (.b true :: [])), .br false, .reg (arKQ_8 r1796 r1874), .reg (nN 5 (.b true :: .n :: nS 11 (.b true :: []))), .br true, .reg (.n :: [])]) (fr := true) (by kernel_rfl) (an (an (ti (ti (ti trivial))) (an (an (an (nawake_ok k _ h1767) (ti trivial)) (an (not_f h1768) trivial)) (an (an e1794 (an (not_f h1795) trivial)) (an e1801 (an (an e1866 (an (not_f (decide_eq_true h1867)) trivial)) (an e1877 (an e1906 (an rt (an (ti trivial) trivial))))))))) (ti trivial)) (Wv.refl _)
         ·injection h with h; subst h
          exact fun_ok pm pn Go.Proofs.Try.func4 (r0 := vb true) (ans := [.reg (nN 3 []), .reg (.call (vb r1766) :: .n :: []), .br false, .reg (arKQ_6 r1771 r1776 r1781 r1786 r1791), .br false, .reg (arKQ_7 r1796 r1799), .reg (nN 5 (.b true :: [])), .br true, .reg (.n :: [])]) (fr := true) (by kernel_rfl) (an (an (ti (ti (ti trivial))) (an (an (an (nawake_ok k _ h1767) (ti trivial)) (an (not_f h1768) trivial)) (an (an e1794 (an (not_f h1795) trivial)) (an e1801 (an e1866 (an (not_t (decide_eq_false h1867)) (an (ti trivial) trivial))))))) (ti trivial)) (Wv.refl _)
       ·injection h with h; subst h
        exact fun_ok pm pn Go.Proofs.Try.func4 (r0 := vb true) (ans := [.reg (nN 3 []), .reg (.call (vb r1766) :: .n :: []), .br false, .reg (arKQ_6 r1771 r1776 r1781 r1786 r1791), .br true, .reg (.n :: [])]) (fr := true) (by kernel_rfl) (an (an (ti (ti (ti trivial))) (an (an (an (nawake_ok k _ h1767) (ti trivial)) (an (not_f h1768) trivial)) (an e1794 (an (not_t (bool_f h1795)) (an (ti trivial) trivial))))) (ti trivial)) (Wv.refl _)
      ·have e1907 := (ti (ti (ti (ti (an (an (decide_eq_false h1769) trivial) (an e1773 (an (an (decide_eq_false h1769) trivial) (an (decide_eq_false h1769) (ti (an e1775 (an (an (not_f h1774) trivial) (an e1778 (an (an (not_f h1774) trivial) (an (not_f h1774) (ti (an e1780 (an (an (not_f h1779) trivial) (an e1783 (an (an (not_f h1779) trivial) (an (not_f h1779) (ti (an e1785 (an (an (not_f h1784) trivial) (an e1788 (an (an (not_f h1784) trivial) (an (not_f h1784) (ti (an (not_t (bool_f h1789)) (an (not_t (bool_f h1789)) (an (not_t (bool_f h1789)) (an (not_t (bool_f h1789)) (an (not_t (bool_f h1789)) trivial))))))))))))))))))))))))))))))))
       injection h with h; subst h
       exact fun_ok pm pn Go.Proofs.Try.func4 (r0 := vb true) (ans := [.reg (nN 3 []), .reg (.call (vb r1766) :: .n :: []), .br false, .reg (arKQ_10 r1771 r1776 r1781 r1786), .br true, .reg (.n :: [])]) (fr := true) (by kernel_rfl) (an (an (ti (ti (ti trivial))) (an (an (an (nawake_ok k _ h1767) (ti trivial)) (an (not_f h1768) trivial)) (an e1907 (an rt (an (ti trivial) trivial))))) (ti trivial)) (Wv.refl _)
     ·have e1908 := (ti (ti (ti (ti (an (an (decide_eq_false h1769) trivial) (an e1773 (an (an (decide_eq_false h1769) trivial) (an (decide_eq_false h1769) (ti (an e1775 (an (an (not_f h1774) trivial) (an e1778 (an (an (not_f h1774) trivial) (an (not_f h1774) (ti (an e1780 (an (an (not_f h1779) trivial) (an e1783 (an (an (not_f h1779) trivial) (an (not_f h1779) (ti (an (not_t (bool_f h1784)) (an (not_t (bool_f h1784)) (an (not_t (bool_f h1784)) (an (not_t (bool_f h1784)) (an (not_t (bool_f h1784)) (ti (an rt (an rt (an rt (an rt (an rt trivial))))))))))))))))))))))))))))))))
      injection h with h; subst h
      exact fun_ok pm pn Go.Proofs.Try.func4 (r0 := vb true) (ans := [.reg (nN 3 []), .reg (.call (vb r1766) :: .n :: []), .br false, .reg (arKQ_11 r1771 r1776 r1781), .br true, .reg (.n :: [])]) (fr := true) (by kernel_rfl) (an (an (ti (ti (ti trivial))) (an (an (an (nawake_ok k _ h1767) (ti trivial)) (an (not_f h1768) trivial)) (an e1908 (an rt (an (ti trivial) trivial))))) (ti trivial)) (Wv.refl _)
    ·have e1909 := (ti (ti (ti (ti (an (an (decide_eq_false h1769) trivial) (an e1773 (an (an (decide_eq_false h1769) trivial) (an (decide_eq_false h1769) (ti (an e1775 (an (an (not_f h1774) trivial) (an e1778 (an (an (not_f h1774) trivial) (an (not_f h1774) (ti (an (not_t (bool_f h1779)) (an (not_t (bool_f h1779)) (an (not_t (bool_f h1779)) (an (not_t (bool_f h1779)) (an (not_t (bool_f h1779)) (ti (an rt (an rt (an rt (an rt (an rt (ti (an rt (an rt (an rt (an rt (an rt trivial))))))))))))))))))))))))))))))))
     injection h with h; subst h
     exact fun_ok pm pn Go.Proofs.Try.func4 (r0 := vb true) (ans := [.reg (nN 3 []), .reg (.call (vb r1766) :: .n :: []), .br false, .reg (arKQ_12 r1771 r1776), .br true, .reg (.n :: [])]) (fr := true) (by kernel_rfl) (an (an (ti (ti (ti trivial))) (an (an (an (nawake_ok k _ h1767) (ti trivial)) (an (not_f h1768) trivial)) (an e1909 (an rt (an (ti trivial) trivial))))) (ti trivial)) (Wv.refl _)
   ·have e1910 := (ti (ti (ti (ti (an (an (decide_eq_false h1769) trivial) (an e1773 (an (an (decide_eq_false h1769) trivial) (an (decide_eq_false h1769) (ti (an (not_t (bool_f h1774)) (an (not_t (bool_f h1774)) (an (not_t (bool_f h1774)) (an (not_t (bool_f h1774)) (an (not_t (bool_f h1774)) (ti (an rt (an rt (an rt (an rt (an rt (ti (an rt (an rt (an rt (an rt (an rt (ti (an rt (an rt (an rt (an rt (an rt trivial))))))))))))))))))))))))))))))))
    injection h with h; subst h
    exact fun_ok pm pn Go.Proofs.Try.func4 (r0 := vb true) (ans := [.reg (nN 3 []), .reg (.call (vb r1766) :: .n :: []), .br false, .reg (arKQ_13 r1771), .br true, .reg (.n :: [])]) (fr := true) (by kernel_rfl) (an (an (ti (ti (ti trivial))) (an (an (an (nawake_ok k _ h1767) (ti trivial)) (an (not_f h1768) trivial)) (an e1910 (an rt (an (ti trivial) trivial))))) (ti trivial)) (Wv.refl _)
 ·injection h with h; subst h
  exact fun_ok pm pn Go.Proofs.Try.func4 (r0 := vb false) (ans := [.reg (nN 3 []), .reg (.call (vb r1766) :: .n :: []), .br true, .reg (.n :: [])]) (fr := true) (by kernel_rfl) (an (an (ti (ti (ti trivial))) (an (an (nawake_ok k _ h1767) (ti trivial)) (an (not_t (bool_f h1768)) (an (ti trivial) trivial)))) (ti trivial)) (Wv.refl _)
end Go.Proofs.Ytjhclaollpkdgaa.Vg

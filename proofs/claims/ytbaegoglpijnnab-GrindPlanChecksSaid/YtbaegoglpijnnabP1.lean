/- Written by a program out of the program: what Go functions do, as plain functions, and their contracts. -/
import Derived.Test.YtbaegoglpijnnabD1
namespace Go.Proofs.Ytbaegoglpijnnab.Vg
set_option maxRecDepth 100000
set_option maxHeartbeats 4000000
set_option linter.unusedVariables false
set_option linter.unusedSimpArgs false
open Go Go.Proofs.Ytbaegoglpijnnab.Ev Go.Proofs.Ytbaegoglpijnnab.Vv
structure SRange where
  Lo : Int
  Hi : Int
  deriving Inhabited
def c_SRange (x : SRange) : List VV := [vi x.Lo, vi x.Hi]
theorem len_c_SRange (x : SRange) : (c_SRange x).length = 2 := rfl
theorem still_c_SRange (xs : List SRange) : (xs.flatMap c_SRange).all VV.still = true := all_flat (fun _ => rfl) xs
theorem isC_c_SRange (xs : List SRange) : (xs.flatMap c_SRange).all VV.isC = true := all_flat (fun _ => rfl) xs
theorem new0_c_SRange (xs : List SRange) : (xs.flatMap c_SRange).all new0 = true := all_flat (fun _ => rfl) xs
theorem unfr_c_SRange (xs : List SRange) : (xs.flatMap c_SRange).map unfr = xs.flatMap c_SRange := unfr_flat (fun _ => rfl) xs
theorem ag85 : isAggT Go.Proofs.Try.prog 85 = some true := by kernel_rfl
theorem sz85 : szOf Go.Proofs.Try.prog 85 = some 2 := by kernel_rfl
theorem eqok85 : EqOK Go.Proofs.Try.prog 85 [some (.i .i64), some (.i .i64)] := eqOK_of (by kernel_rfl) (by kernel_rfl) (eqT_struct Go.Proofs.Try.underlying85 (by kernel_rfl) (by kernel_rfl) (by kernel_rfl) (.cons (by decide +kernel) rfl (eqT_int Go.Proofs.Try.underlying3 (by kernel_rfl) (by kernel_rfl)) (.cons (by decide +kernel) rfl (eqT_int Go.Proofs.Try.underlying3 (by kernel_rfl) (by kernel_rfl)) .nil)))
def nawake (k : Nat) : Option Bool := some true
theorem nawake_ok (k : Nat) (r : Bool) (h : nawake k = some r) : VC Go.Proofs.Try.prog 9 [] (vb r) := by
  injection h with h; subst h
  exact vc_awake
def arP1_0 (z0 : ((List SStroke) × ((List Int) × Int × (List SStroke)))) : List Ans := (.n :: .v (VV.fn 89 [VV.tp [VV.tr (List.flatMap c_SStroke z0.1) z0.1.length] 0]) :: .n :: [])
def arP1_1 (z0 : ((List SStroke) × ((List Int) × Int × (List SStroke)))) : List Ans := (.n :: .v (VV.fn 99 [VV.tp [VV.tr (List.map vi z0.2.1) z0.2.1.length, vi z0.2.2.1] 0, VV.tp [VV.tr (List.flatMap c_SStroke z0.2.2.2) z0.2.2.2.length] 0]) :: .n :: [])
def ngrind_firstOf_c0_Lgrind_validStrokes_1_grind_validPlan_1 (k : Nat) (a0 : ((List SStroke) × ((List Int) × Int × (List SStroke)))) : Option Int :=
  (ngrind_validStrokes_1 k a0.1).bind fun r3077 => (if r3077 = 0 then ((ngrind_validPlan_1 k a0.2.1 a0.2.2.1 a0.2.2.2).bind fun r3083 => (if r3083 = 0 then (some 0) else (some r3083))) else (some r3077))
theorem ngrind_firstOf_c0_Lgrind_validStrokes_1_grind_validPlan_1_ok (k : Nat) (a0 : ((List SStroke) × ((List Int) × Int × (List SStroke)))) (r : Int) (h : ngrind_firstOf_c0_Lgrind_validStrokes_1_grind_validPlan_1 k a0 = some r) : VC Go.Proofs.Try.prog 49 [VV.tr ([VV.fn 89 [VV.tp [VV.tr (List.flatMap c_SStroke a0.1) a0.1.length] 0], VV.fn 99 [VV.tp [VV.tr (List.map vi a0.2.1) a0.2.1.length, vi a0.2.2.1] 0, VV.tp [VV.tr (List.flatMap c_SStroke a0.2.2.2) a0.2.2.2.length] 0]]) 2] (vi r) := by
 unfold ngrind_firstOf_c0_Lgrind_validStrokes_1_grind_validPlan_1 at h
 have e3075 := (show (0 : Int) ≤ 0 ∧ (0 : Int) < ((2 : Nat) : Int) from ⟨by decide, by decide⟩)
 have e3076 := (show loadL Go.Proofs.Try.prog 98 ((0 : Int).toNat * 1) ([VV.fn 89 [VV.tp [VV.tr (List.flatMap c_SStroke a0.1) a0.1.length] 0], VV.fn 99 [VV.tp [VV.tr (List.map vi a0.2.1) a0.2.1.length, vi a0.2.2.1] 0, VV.tp [VV.tr (List.flatMap c_SStroke a0.2.2.2) a0.2.2.2.length] 0]]) = some (VV.fn 89 [VV.tp [VV.tr (List.flatMap c_SStroke a0.1) a0.1.length] 0]) from (ld_one ag98 rfl))
 obtain ⟨r3077, h3078, h⟩ := bs h
 have e3079 := (ngrind_validStrokes_1_ok k a0.1 _ h3078)
 rcases ifs h with ⟨h3080, h⟩ | ⟨h3080, h⟩
 ·have e3081 := (show (0 : Int) ≤ 1 ∧ (1 : Int) < ((2 : Nat) : Int) from ⟨by decide, by decide⟩)
  have e3082 := (show loadL Go.Proofs.Try.prog 98 ((1 : Int).toNat * 1) ([VV.fn 89 [VV.tp [VV.tr (List.flatMap c_SStroke a0.1) a0.1.length] 0], VV.fn 99 [VV.tp [VV.tr (List.map vi a0.2.1) a0.2.1.length, vi a0.2.2.1] 0, VV.tp [VV.tr (List.flatMap c_SStroke a0.2.2.2) a0.2.2.2.length] 0]]) = some (VV.fn 99 [VV.tp [VV.tr (List.map vi a0.2.1) a0.2.1.length, vi a0.2.2.1] 0, VV.tp [VV.tr (List.flatMap c_SStroke a0.2.2.2) a0.2.2.2.length] 0]) from (ld_one ag98 rfl))
  obtain ⟨r3083, h3084, h⟩ := bs h
  have e3085 := (ngrind_validPlan_1_ok k a0.2.1 a0.2.2.1 a0.2.2.2 _ h3084)
  rcases ifs h with ⟨h3086, h⟩ | ⟨h3086, h⟩
  ·injection h with h; subst h
   exact fun_ok pm pn Go.Proofs.Try.func49 (r0 := vi 0) (ans := [.reg (.n :: []), .reg (nN 3 []), .unr 4, .reg (.n :: []), .br true, .reg (arP1_0 a0), .reg (.n :: .call (vi r3077) :: .n :: []), .reg (.n :: .n :: []), .br false, .reg (.n :: .n :: []), .reg (.n :: []), .br true, .reg (arP1_1 a0), .reg (.n :: .call (vi r3083) :: .n :: []), .reg (.n :: .n :: []), .br false, .reg (.n :: .n :: []), .reg (.n :: []), .br false, .reg (.n :: [])]) (fr := true) (by kernel_rfl) (an (an (ti trivial) (an (an (ti (ti (ti trivial))) (an (an (ti trivial) (an (an (show (decide ((0 : Int) < 2)) = true from (decide_eq_true (by decide))) trivial) (an (an (an e3075 (an e3076 (ti trivial))) (an (ti (an e3079 (ti trivial))) (an (ti (ti trivial)) (an (not_f (decide_eq_true h3080)) trivial)))) (ti (ti trivial))))) (an (an (ti trivial) (an (an (show (decide ((1 : Int) < 2)) = true from (decide_eq_true (by decide))) trivial) (an (an (an e3081 (an e3082 (ti trivial))) (an (ti (an e3085 (ti trivial))) (an (ti (ti trivial)) (an (not_f (decide_eq_true h3086)) trivial)))) (ti (ti trivial))))) (an (ti trivial) (an (show (decide ((2 : Int) < 2)) = false from (decide_eq_false (by decide))) trivial))))) (an (ti trivial) trivial))) (ti trivial)) (Wv.refl _)
  ·injection h with h; subst h
   exact fun_ok pm pn Go.Proofs.Try.func49 (r0 := vi r3083) (ans := [.reg (.n :: []), .reg (nN 3 []), .unr 3, .reg (.n :: []), .br true, .reg (arP1_0 a0), .reg (.n :: .call (vi r3077) :: .n :: []), .reg (.n :: .n :: []), .br false, .reg (.n :: .n :: []), .reg (.n :: []), .br true, .reg (arP1_1 a0), .reg (.n :: .call (vi r3083) :: .n :: []), .reg (.n :: .n :: []), .br true, .reg (.n :: .n :: [])]) (fr := true) (by kernel_rfl) (an (an (ti trivial) (an (ti (ti (ti trivial))) (an (an (ti trivial) (an (an (show (decide ((0 : Int) < 2)) = true from (decide_eq_true (by decide))) trivial) (an (an (an e3075 (an e3076 (ti trivial))) (an (ti (an e3079 (ti trivial))) (an (ti (ti trivial)) (an (not_f (decide_eq_true h3080)) trivial)))) (ti (ti trivial))))) (an (ti trivial) (an (an (show (decide ((1 : Int) < 2)) = true from (decide_eq_true (by decide))) trivial) (an (an e3081 (an e3082 (ti trivial))) (an (ti (an e3085 (ti trivial))) (an (ti (ti trivial)) (an (not_t (decide_eq_false h3086)) (an (ti (ti trivial)) trivial)))))))))) (ti trivial)) (Wv.refl _)
 ·injection h with h; subst h
  exact fun_ok pm pn Go.Proofs.Try.func49 (r0 := vi r3077) (ans := [.reg (.n :: []), .reg (nN 3 []), .unr 2, .reg (.n :: []), .br true, .reg (arP1_0 a0), .reg (.n :: .call (vi r3077) :: .n :: []), .reg (.n :: .n :: []), .br true, .reg (.n :: .n :: [])]) (fr := true) (by kernel_rfl) (an (an (ti trivial) (an (ti (ti (ti trivial))) (an (ti trivial) (an (an (show (decide ((0 : Int) < 2)) = true from (decide_eq_true (by decide))) trivial) (an (an e3075 (an e3076 (ti trivial))) (an (ti (an e3079 (ti trivial))) (an (ti (ti trivial)) (an (not_t (decide_eq_false h3080)) (an (ti (ti trivial)) trivial))))))))) (ti trivial)) (Wv.refl _)
theorem eqP1_0 (z0 : (List SStroke)) (z1 : ((List Int) × Int × (List SStroke))) : [VV.tr ([VV.fn 89 [VV.tp [VV.tr (List.flatMap c_SStroke ((z0, z1).1)) (((z0, z1).1).length)] 0], VV.fn 99 [VV.tp [VV.tr (List.map vi (((z0, z1).2).1)) ((((z0, z1).2).1).length), vi (((z0, z1).2).2.1)] 0, VV.tp [VV.tr (List.flatMap c_SStroke (((z0, z1).2).2.2)) ((((z0, z1).2).2.2).length)] 0]]) 2] = [VV.tr (List.drop 0 (List.map unfr [VV.fn 89 [VV.tp [VV.tr (List.flatMap c_SStroke z0) z0.length] 0], VV.fn 99 [VV.tp [VV.tr (List.map vi z1.1) z1.1.length, vi z1.2.1] 0, VV.tp [VV.tr (List.flatMap c_SStroke z1.2.2) z1.2.2.length] 0]])) 2] := by first | rfl | (simp only [drop0, unfr_vi, List.map_cons, List.map_nil, un_i, un_tr, List.length_map, List.length_cons, List.length_nil, unfr_c_SStroke]; done) | (simp only [drop0, unfr_vi, List.map_cons, List.map_nil, un_i, un_tr, List.length_map, List.length_cons, List.length_nil, unfr_c_SStroke]; rfl) | (simp only [drop0, unfr_vi, List.map_cons, List.map_nil, un_i, un_tr, List.length_map, List.length_cons, List.length_nil, unfr_c_SStroke, c_SStroke, List.length_cons, List.length_nil, List.length_append]; done)
def ngrind_up (k : Nat) (a0 : Int) (a1 : Int) : Option Int :=
  if a1 ≠ 0 then (some (w64 ((w64 ((w64 (a0 + a1)) - 1)).tdiv a1))) else none
theorem ngrind_up_ok (k : Nat) (a0 : Int) (a1 : Int) (r : Int) (h : ngrind_up k a0 a1 = some r) : VC Go.Proofs.Try.prog 69 [vi a0, vi a1] (vi r) := by
 unfold ngrind_up at h
 obtain ⟨h3103, h⟩ := ifn h
 injection h with h; subst h
 exact fun_ok pm pn Go.Proofs.Try.func69 (r0 := vi (w64 ((w64 ((w64 (a0 + a1)) - 1)).tdiv a1))) (ans := [.reg (.n :: []), .reg (nN 7 [])]) (fr := true) (by kernel_rfl) (an (an (ti trivial) (an (ti (ti (ti (ti (ti (an h3103 (ti trivial))))))) trivial)) (ti trivial)) (Wv.refl _)
def ngrind_WearBy_l0_0_h (a0 : (List SStroke)) (a1 : SGrindPlan) (r3134 : (List SStroke)) (r3136 : ((List Int) × Int × (List SStroke))) (r3143 : Int) (y2 : List SRange) (x25 : Int) : VS := ⟨mkA [(0, VV.tr (List.flatMap c_SStroke a0) a0.length), (3, VV.pt 0 0), (7, VV.rf 2 0 y2.length), (24, vi ((r3143.toNat : Nat) : Int)), (25, vi x25)], [some ⟨true, 1, c_SGrindPlan a1⟩, some ⟨false, 1, [VV.fn 89 [VV.tp [VV.tr (List.flatMap c_SStroke r3134) r3134.length] 0], VV.fn 99 [VV.tp [VV.tr (List.map vi r3136.1) r3136.1.length, vi r3136.2.1] 0, VV.tp [VV.tr (List.flatMap c_SStroke r3136.2.2) r3136.2.2.length] 0]]⟩, some ⟨false, 2, List.flatMap c_SRange y2⟩], .nil⟩
def ngrind_WearBy_l0_0_e0 (a0 : (List SStroke)) (a1 : SGrindPlan) (r3134 : (List SStroke)) (r3136 : ((List Int) × Int × (List SStroke))) (r3143 : Int) (r : (List SRange)) : VS := ⟨mkA [(7, VV.rf 2 0 r.length)], [some ⟨true, 1, c_SGrindPlan a1⟩, some ⟨false, 1, [VV.fn 89 [VV.tp [VV.tr (List.flatMap c_SStroke r3134) r3134.length] 0], VV.fn 99 [VV.tp [VV.tr (List.map vi r3136.1) r3136.1.length, vi r3136.2.1] 0, VV.tp [VV.tr (List.flatMap c_SStroke r3136.2.2) r3136.2.2.length] 0]]⟩, some ⟨false, 2, List.flatMap c_SRange r⟩], .nil⟩
def ngrind_WearBy_l0_0 (k : Nat) (a0 : (List SStroke)) (a1 : SGrindPlan) (r3134 : (List SStroke)) (r3136 : ((List Int) × Int × (List SStroke))) (r3143 : Int) : Nat → (List SRange) → Int → Option ((List SRange))
  | 0, _, _ => none
  | fuel + 1, y2, x25 => if x25 < ((r3143.toNat : Nat) : Int) then ((ngrind_wearTimesDen k a0 a1 x25).bind fun r3171 => (if a1.Den ≠ 0 then ((ngrind_up k r3171 a1.Den).bind fun r3175 => (if 0 ≤ x25 ∧ x25 < (y2.length : Int) then (ngrind_WearBy_l0_0 k a0 a1 r3134 r3136 r3143 fuel (y2.set x25.toNat (⟨w64 (r3171.tdiv a1.Den), r3175⟩ : SRange)) (w64 (x25 + 1))) else none)) else none)) else (some y2)
theorem ngrind_WearBy_l0_0_ok (k : Nat) (a0 : (List SStroke)) (a1 : SGrindPlan) (r3134 : (List SStroke)) (r3136 : ((List Int) × Int × (List SStroke))) (r3143 : Int) : ∀ (fuel : Nat) (y2 : List SRange) (x25 : Int) (r : (List SRange)), ngrind_WearBy_l0_0 k a0 a1 r3134 r3136 r3143 fuel y2 x25 = some r → (VLoop none Go.Proofs.Try.prog (szF Go.Proofs.Try.f28) (bodyOf Go.Proofs.Try.f28 0) (ngrind_WearBy_l0_0_h a0 a1 r3134 r3136 r3143 y2 x25) (.exit 0) (ngrind_WearBy_l0_0_e0 a0 a1 r3134 r3136 r3143 r)) := by
 intro fuel
 induction fuel with
 | zero => intro y2 x25 r h; rw [ngrind_WearBy_l0_0.eq_1] at h; cases h
 | succ fuel ih =>
  intro y2 x25 r h
  rw [ngrind_WearBy_l0_0.eq_2] at h
  rcases ifs h with ⟨h3170, h⟩ | ⟨h3170, h⟩
  ·obtain ⟨r3171, h3172, h⟩ := bs h
   have e3173 := (ngrind_wearTimesDen_ok k a0 a1 x25 _ h3172)
   obtain ⟨h3174, h⟩ := ifn h
   obtain ⟨r3175, h3176, h⟩ := bs h
   obtain ⟨h3177, h⟩ := ifn h
   have e3178 := (show (0 + x25.toNat * 2) + 2 ≤ List.length (List.flatMap c_SRange y2) from (by rw [flat_len len_c_SRange]; have := h3177; omega))
   have e3179 := (ti (ti (ti (ti (ti (an h3174 (ti (ti (ti (an (ngrind_up_ok k r3171 a1.Den _ h3176) (ti (an h3177 (an e3178 trivial)))))))))))))
   have h2 := ih _ _ _ h
   obtain ⟨q, hv, hq⟩ := pkR (rd := none) (P := Go.Proofs.Try.prog) (fn := Go.Proofs.Try.f28) (k := 0) (s := (ngrind_WearBy_l0_0_h a0 a1 r3134 r3136 r3143 y2 x25)) (ans := [.reg (.n :: []), .br true, .reg (.n :: .n :: []), .reg (nN 3 (.call (vi r3171) :: .n :: [])), .reg (nN 9 (.call (vi r3175) :: nN 3 [])), .reg (.n :: .n :: [])]) (c := ⟨[(0, none), (3, none), (7, some (VV.rf 2 0 ((y2.set x25.toNat (⟨w64 (r3171.tdiv a1.Den), r3175⟩ : SRange)).length))), (24, none), (25, none)], [none, none, some (List.flatMap c_SRange (y2.set x25.toNat (⟨w64 (r3171.tdiv a1.Den), r3175⟩ : SRange)))], []⟩) (e := .normal) (s1 := (ngrind_WearBy_l0_0_h a0 a1 r3134 r3136 r3143 (y2.set x25.toNat (⟨w64 (r3171.tdiv a1.Den), r3175⟩ : SRange)) (w64 (x25 + 1)))) (an (an (ti trivial) (an (an (decide_eq_true h3170) trivial) (an (an (ti (ti trivial)) (an (ti (ti (ti (an e3173 (ti trivial))))) e3179)) (ti (ti trivial))))) (an (an (show Wv (VV.rf 2 0 y2.length) (VV.rf 2 0 ((y2.set x25.toNat (⟨w64 (r3171.tdiv a1.Den), r3175⟩ : SRange)).length)) from (Wv.of_eq (by simp))) trivial) (an (show putT (0 + x25.toNat * 2) (List.flatMap c_SRange y2) [vi (w64 (r3171.tdiv a1.Den)), vi r3175] = List.flatMap c_SRange (y2.set x25.toNat (⟨w64 (r3171.tdiv a1.Den), r3175⟩ : SRange)) from (by exact putT_flat len_c_SRange y2 h3177 (⟨w64 (r3171.tdiv a1.Den), r3175⟩ : SRange) (by omega))) trivial))) (by kernel_rfl)
   exact round_next pm pn hv hq h2
  ·injection h with h; subst h
   exact round_stop (c := ⟨[(7, none)], [none, none, none], []⟩) (s1 := (ngrind_WearBy_l0_0_e0 a0 a1 r3134 r3136 r3143 y2)) pm pn (ans := [.reg (.n :: []), .br false]) (by kernel_rfl) (by intro e; cases e) (an (an (ti trivial) (an (decide_eq_false h3170) trivial)) (ti trivial))
def arP1_2 (z0 : (List SStroke)) (z1 : ((List Int) × Int × (List SStroke))) (z2 : Int) : List Ans := (.n :: .call (VV.fn 89 [VV.tp [VV.tr (List.flatMap c_SStroke z0) z0.length] 0]) :: .n :: .n :: .call (VV.fn 99 [VV.tp [VV.tr (List.map vi z1.1) z1.1.length, vi z1.2.1] 0, VV.tp [VV.tr (List.flatMap c_SStroke z1.2.2) z1.2.2.length] 0]) :: .n :: .call (vi z2) :: .n :: [])
theorem eqP1_1 (z0 : (List SRange)) : VV.tu [VV.fw 2 (List.drop 0 (List.map unfr (List.flatMap c_SRange z0))) z0.length, vi 0] = VV.tu [VV.fw 2 (List.flatMap c_SRange z0) z0.length, vi 0] := by first | rfl | (simp only [drop0, unfr_vi, List.map_cons, List.map_nil, un_i, List.length_map, List.length_cons, List.length_nil, unfr_c_SRange]; done) | (simp only [drop0, unfr_vi, List.map_cons, List.map_nil, un_i, List.length_map, List.length_cons, List.length_nil, unfr_c_SRange]; rfl) | (simp only [drop0, unfr_vi, List.map_cons, List.map_nil, un_i, List.length_map, List.length_cons, List.length_nil, unfr_c_SRange, c_SRange, List.length_cons, List.length_nil, List.length_append]; done)
def ngrind_WearBy (k : Nat) (a0 : (List SStroke)) (a1 : SGrindPlan) : Option ((List SRange) × Int) :=
  (ngrind_validStrokes k a0).bind fun r3134 => ((ngrind_validPlan k a0 a1).bind fun r3136 => ((ngrind_firstOf_c0_Lgrind_validStrokes_1_grind_validPlan_1 k (r3134, r3136)).bind fun r3138 => (if r3138 = 0 then ((ngrind_zonesOf k a0).bind fun r3143 => (if 0 ≤ r3143 ∧ r3143 ≤ 1000000000 then ((ngrind_WearBy_l0_0 k a0 a1 r3134 r3136 r3143 k (List.replicate r3143.toNat (⟨0, 0⟩ : SRange)) 0).bind fun r3181 => (some (r3181, 0))) else none)) else (some ([], r3138)))))
theorem ngrind_WearBy_ok (k : Nat) (a0 : (List SStroke)) (a1 : SGrindPlan) (r : ((List SRange) × Int)) (h : ngrind_WearBy k a0 a1 = some r) : VC Go.Proofs.Try.prog 28 [VV.tr (List.flatMap c_SStroke a0) a0.length, VV.ag (c_SGrindPlan a1)] (VV.tu [VV.fw 2 (List.flatMap c_SRange r.1) r.1.length, vi r.2]) := by
 unfold ngrind_WearBy at h
 obtain ⟨r3134, h3135, h⟩ := bs h
 obtain ⟨r3136, h3137, h⟩ := bs h
 obtain ⟨r3138, h3139, h⟩ := bs h
 have e3140 := (VC.args (ngrind_firstOf_c0_Lgrind_validStrokes_1_grind_validPlan_1_ok k (r3134, r3136) _ h3139) (eqP1_0 r3134 r3136))
 have e3141 := (ti (an (ngrind_validStrokes_ok k a0 _ h3135) (ti (ti (an (ngrind_validPlan_ok k a0 a1 _ h3137) (ti (an e3140 (ti trivial))))))))
 rcases ifs h with ⟨h3142, h⟩ | ⟨h3142, h⟩
 ·obtain ⟨r3143, h3144, h⟩ := bs h
  obtain ⟨h3145, h⟩ := ifn h
  have e3146 := (show 0 ≤ r3143 ∧ r3143 = r3143 ∧ (16 * r3143.toNat) ≤ 281474976710656 ∧ r3143 < 1099511627776 from ⟨by omega, rfl, by omega, by omega⟩)
  have e3147 := (ti (an (ngrind_zonesOf_ok k a0 _ h3144) (an e3146 (ti trivial))))
  obtain ⟨r3181, h3180, h⟩ := bs h
  have hph3180 := ngrind_WearBy_l0_0_ok k a0 a1 r3134 r3136 r3143 _ _ _ _ h3180
  have e3182 := (an (an (an (show Wv (VV.rf 2 0 r3143.toNat) (VV.rf 2 0 ((List.replicate r3143.toNat (⟨0, 0⟩ : SRange)).length)) from (Wv.of_eq (by simp))) trivial) (an (show zeroCells (.agg #[.int .i64 0, .int .i64 0]) (r3143.toNat * 2) = List.flatMap c_SRange (List.replicate r3143.toNat (⟨0, 0⟩ : SRange)) from zero_flat c_SRange (.agg #[.int .i64 0, .int .i64 0]) (⟨0, 0⟩ : SRange) 2 (by decide) rfl rfl _) trivial)) (VRun.loop hph3180))
  injection h with h; subst h
  exact fun_ok pm pn Go.Proofs.Try.func28 (r0 := VV.tu [VV.fw 2 (List.drop 0 (List.map unfr (List.flatMap c_SRange r3181))) r3181.length, vi 0]) (ans := [.reg (nN 3 []), .reg (arP1_2 r3134 r3136 r3138), .reg (.n :: .n :: []), .br false, .reg (.n :: .call (vi r3143) :: .n :: .n :: []), .reg (nN 3 []), .sub ⟨[(0, none), (3, none), (7, some (VV.rf 2 0 ((List.replicate r3143.toNat (⟨0, 0⟩ : SRange)).length))), (24, none), (25, none)], [none, none, some (List.flatMap c_SRange (List.replicate r3143.toNat (⟨0, 0⟩ : SRange)))], []⟩ (.exit 0) (ngrind_WearBy_l0_0_e0 a0 a1 r3134 r3136 r3143 r3181), .reg (nN 3 [])]) (fr := true) (by kernel_rfl) (an (an (ti (ti (ti trivial))) (an (an e3141 (an (ti (ti trivial)) (an (not_f (decide_eq_true h3142)) trivial))) (an e3147 (an (an (ti (ti (ti trivial))) e3182) (an (ti (ti (ti trivial))) trivial))))) (an (show List.all (List.flatMap c_SRange r3181) new0 = true from (by exact new0_c_SRange _)) (ti trivial))) (Wv.of_eq (eqP1_1 r3181))
 ·injection h with h; subst h
  exact fun_ok pm pn Go.Proofs.Try.func28 (r0 := VV.tu [VV.c (.slice none 0 0), vi r3138]) (ans := [.reg (nN 3 []), .reg (arP1_2 r3134 r3136 r3138), .reg (.n :: .n :: []), .br true, .reg (nN 3 [])]) (fr := true) (by kernel_rfl) (an (an (ti (ti (ti trivial))) (an e3141 (an (ti (ti trivial)) (an (not_t (decide_eq_false h3142)) (an (ti (ti (ti trivial))) trivial))))) (ti (ti trivial))) (Wv.tuL (.cons Wv.nilFw (.cons (Wv.refl _) .nil)))
def nspeculumbase_Floor (k : Nat) (a0 : Int) (a1 : Int) : Option Int :=
  if a1 ≠ 0 then (if (a0.tmod a1) < 0 then (some (w64 ((w64 (a0.tdiv a1)) - 1))) else (some (w64 (a0.tdiv a1)))) else none
theorem nspeculumbase_Floor_ok (k : Nat) (a0 : Int) (a1 : Int) (r : Int) (h : nspeculumbase_Floor k a0 a1 = some r) : VC Go.Proofs.Try.prog 71 [vi a0, vi a1] (vi r) := by
 unfold nspeculumbase_Floor at h
 obtain ⟨h3208, h⟩ := ifn h
 rcases ifs h with ⟨h3209, h⟩ | ⟨h3209, h⟩
 ·injection h with h; subst h
  exact fun_ok pm pn Go.Proofs.Try.func71 (r0 := vi (w64 ((w64 (a0.tdiv a1)) - 1))) (ans := [.reg (.n :: []), .reg (nN 4 []), .reg (nN 4 []), .br true, .reg (nN 3 []), .reg (.n :: .n :: [])]) (fr := true) (by kernel_rfl) (an (an (ti trivial) (an (ti (ti (an h3208 (ti trivial)))) (an (an (ti (ti (an h3208 (ti trivial)))) (an (decide_eq_true h3209) (ti (ti (ti trivial))))) (an (ti (ti trivial)) trivial)))) (ti trivial)) (Wv.refl _)
 ·injection h with h; subst h
  exact fun_ok pm pn Go.Proofs.Try.func71 (r0 := vi (w64 (a0.tdiv a1))) (ans := [.reg (.n :: []), .reg (nN 4 []), .reg (nN 4 []), .br false, .reg (.n :: .n :: [])]) (fr := true) (by kernel_rfl) (an (an (ti trivial) (an (ti (ti (an h3208 (ti trivial)))) (an (an (ti (ti (an h3208 (ti trivial)))) (an (decide_eq_false h3209) trivial)) (an (ti (ti trivial)) trivial)))) (ti trivial)) (Wv.refl _)
def nspeculumbase_Ceil (k : Nat) (a0 : Int) (a1 : Int) : Option Int :=
  (nspeculumbase_Floor k (w64 (0 - a0)) a1).bind fun r3216 => (some (w64 (0 - r3216)))
theorem nspeculumbase_Ceil_ok (k : Nat) (a0 : Int) (a1 : Int) (r : Int) (h : nspeculumbase_Ceil k a0 a1 = some r) : VC Go.Proofs.Try.prog 72 [vi a0, vi a1] (vi r) := by
 unfold nspeculumbase_Ceil at h
 obtain ⟨r3216, h3217, h⟩ := bs h
 have e3218 := (nspeculumbase_Floor_ok k (w64 (0 - a0)) a1 _ h3217)
 injection h with h; subst h
 exact fun_ok pm pn Go.Proofs.Try.func72 (r0 := vi (w64 (0 - r3216))) (ans := [.reg (.n :: []), .reg (nN 3 (.call (vi r3216) :: .n :: .n :: []))]) (fr := true) (by kernel_rfl) (an (an (ti trivial) (an (ti (ti (ti (an e3218 (ti (ti trivial)))))) trivial)) (ti trivial)) (Wv.refl _)
def arP1_3 (z0 : (List SStroke)) : List Ans := (nN 4 (.v (VV.tr (List.map vi ((z0.getD ((0 : Int)).toNat default).Wear)) (((z0.getD ((0 : Int)).toNat default).Wear).length)) :: .n :: .n :: []))
def nspeculumref04_WearBy_l0_0_h (a0 : (List SStroke)) (a1 : SGrindPlan) (y1 : List SRange) (x6 : Int) : VS := ⟨mkA [(0, VV.tr (List.flatMap c_SStroke a0) a0.length), (3, VV.pt 0 0), (5, VV.rf 1 0 y1.length), (6, vi x6)], [some ⟨true, 1, c_SGrindPlan a1⟩, some ⟨false, 2, List.flatMap c_SRange y1⟩], .nil⟩
def nspeculumref04_WearBy_l0_0_e0 (a0 : (List SStroke)) (a1 : SGrindPlan) (r : (List SRange)) : VS := ⟨mkA [(5, VV.rf 1 0 r.length)], [some ⟨true, 1, c_SGrindPlan a1⟩, some ⟨false, 2, List.flatMap c_SRange r⟩], .nil⟩
def nspeculumref04_WearBy_l0_0 (k : Nat) (a0 : (List SStroke)) (a1 : SGrindPlan) : Nat → (List SRange) → Int → Option ((List SRange))
  | 0, _, _ => none
  | fuel + 1, y1, x6 => if (0 : Int) ≤ 0 ∧ 0 < (a0.length : Int) then (if x6 < (((a0.getD ((0 : Int)).toNat default).Wear).length : Int) then ((nspeculumref04_wearBy k a0 a1 x6).bind fun r3328 => ((nspeculumbase_Floor k r3328 a1.Den).bind fun r3331 => ((nspeculumbase_Ceil k r3328 a1.Den).bind fun r3334 => (if y1.length + ([(⟨r3331, r3334⟩ : SRange)] : List SRange).length ≤ 1000000000 then (nspeculumref04_WearBy_l0_0 k a0 a1 fuel (y1 ++ ([(⟨r3331, r3334⟩ : SRange)] : List SRange)) (w64 (x6 + 1))) else none)))) else (some y1)) else none
theorem nspeculumref04_WearBy_l0_0_ok (k : Nat) (a0 : (List SStroke)) (a1 : SGrindPlan) : ∀ (fuel : Nat) (y1 : List SRange) (x6 : Int) (r : (List SRange)), nspeculumref04_WearBy_l0_0 k a0 a1 fuel y1 x6 = some r → (VLoop none Go.Proofs.Try.prog (szF Go.Proofs.Try.f32) (bodyOf Go.Proofs.Try.f32 0) (nspeculumref04_WearBy_l0_0_h a0 a1 y1 x6) (.exit 0) (nspeculumref04_WearBy_l0_0_e0 a0 a1 r)) := by
 intro fuel
 induction fuel with
 | zero => intro y1 x6 r h; rw [nspeculumref04_WearBy_l0_0.eq_1] at h; cases h
 | succ fuel ih =>
  intro y1 x6 r h
  rw [nspeculumref04_WearBy_l0_0.eq_2] at h
  obtain ⟨h3324, h⟩ := ifn h
  have e3325 := (show loadL Go.Proofs.Try.prog 23 (((0 : Int)).toNat * 2 + 1) (List.flatMap c_SStroke a0) = some (VV.tr (List.map vi ((a0.getD ((0 : Int)).toNat default).Wear)) (((a0.getD ((0 : Int)).toNat default).Wear).length)) from (ld_flat ag23 c_SStroke 2 1 len_c_SStroke (by omega) a0 default h3324 (by omega)).trans rfl)
  have e3326 := (ti (ti (an h3324 (ti (an e3325 (ti (ti trivial)))))))
  rcases ifs h with ⟨h3327, h⟩ | ⟨h3327, h⟩
  ·obtain ⟨r3328, h3329, h⟩ := bs h
   have e3330 := (nspeculumref04_wearBy_ok k a0 a1 x6 _ h3329)
   obtain ⟨r3331, h3332, h⟩ := bs h
   have e3333 := (nspeculumbase_Floor_ok k r3328 a1.Den _ h3332)
   obtain ⟨r3334, h3335, h⟩ := bs h
   have e3336 := (nspeculumbase_Ceil_ok k r3328 a1.Den _ h3335)
   obtain ⟨h3337, h⟩ := ifn h
   have e3338 := (show List.length (List.flatMap c_SRange y1) = y1.length * 2 ∧ List.length [vi r3331, vi r3334] = 1 * 2 ∧ (y1.length + 1) * 16 ≤ 140737488355328 ∧ y1.length + 1 < 1099511627776 ∧ List.all [vi r3331, vi r3334] VV.still = true from ⟨(by rw [flatMap_len len_c_SRange] <;> simp), (by rw [show [vi r3331, vi r3334] = List.flatMap c_SRange ([(⟨r3331, r3334⟩ : SRange)] : List SRange) from rfl]; rw [flatMap_len len_c_SRange] <;> simp), (by first | omega | (simp at h3337 ⊢; omega)), (by first | omega | (simp at h3337 ⊢; omega)), (by rw [show [vi r3331, vi r3334] = List.flatMap c_SRange ([(⟨r3331, r3334⟩ : SRange)] : List SRange) from rfl]; exact still_c_SRange _)⟩)
   have e3339 := (ti (ti (ti (ti (an e3333 (ti (ti (ti (an e3336 (ti (ti (an e3338 (ti trivial)))))))))))))
   have h2 := ih _ _ _ h
   obtain ⟨q, hv, hq⟩ := pkR (rd := none) (P := Go.Proofs.Try.prog) (fn := Go.Proofs.Try.f32) (k := 0) (s := (nspeculumref04_WearBy_l0_0_h a0 a1 y1 x6)) (ans := [.reg (arP1_3 a0), .br true, .reg (nN 3 (.call (vi r3328) :: .n :: [])), .reg (nN 4 (.call (vi r3331) :: nN 3 (.call (vi r3334) :: .n :: .v VV.any :: .n :: .n :: []))), .reg (nN 3 [])]) (c := ⟨[(0, none), (3, none), (5, some (VV.rf 1 0 ((y1 ++ ([(⟨r3331, r3334⟩ : SRange)] : List SRange)).length))), (6, none)], [none, some (List.flatMap c_SRange (y1 ++ ([(⟨r3331, r3334⟩ : SRange)] : List SRange)))], []⟩) (e := .normal) (s1 := (nspeculumref04_WearBy_l0_0_h a0 a1 (y1 ++ ([(⟨r3331, r3334⟩ : SRange)] : List SRange)) (w64 (x6 + 1)))) (an (an (an e3326 (an (decide_eq_true h3327) trivial)) (an (an (ti (ti (ti (an e3330 (ti trivial))))) e3339) (ti (ti (ti trivial))))) (an (an (show Wv (VV.rf 1 0 (y1.length + 1)) (VV.rf 1 0 ((y1 ++ ([(⟨r3331, r3334⟩ : SRange)] : List SRange)).length)) from (Wv.of_eq (by simp))) trivial) (an (show (List.flatMap c_SRange y1) ++ [vi r3331, vi r3334] = List.flatMap c_SRange (y1 ++ ([(⟨r3331, r3334⟩ : SRange)] : List SRange)) from (by rw [show [vi r3331, vi r3334] = List.flatMap c_SRange ([(⟨r3331, r3334⟩ : SRange)] : List SRange) from rfl]; exact List.flatMap_append.symm)) trivial))) (by kernel_rfl)
   exact round_next pm pn hv hq h2
  ·injection h with h; subst h
   exact round_stop (c := ⟨[(5, none)], [none, none], []⟩) (s1 := (nspeculumref04_WearBy_l0_0_e0 a0 a1 y1)) pm pn (ans := [.reg (arP1_3 a0), .br false]) (by kernel_rfl) (by intro e; cases e) (an (an e3326 (an (decide_eq_false h3327) trivial)) (ti trivial))
theorem eqP1_2 (z0 : (List SRange)) : VV.fw 2 (List.drop 0 (List.map unfr (List.flatMap c_SRange z0))) z0.length = VV.fw 2 (List.flatMap c_SRange z0) z0.length := by first | rfl | (simp only [drop0, List.map_cons, List.map_nil, List.length_map, unfr_c_SRange]; done) | (simp only [drop0, List.map_cons, List.map_nil, List.length_map, unfr_c_SRange]; rfl) | (simp only [drop0, List.map_cons, List.map_nil, List.length_map, unfr_c_SRange, c_SRange, List.length_cons, List.length_nil, List.length_append]; done)
def nspeculumref04_WearBy (k : Nat) (a0 : (List SStroke)) (a1 : SGrindPlan) : Option (List SRange) :=
  (nspeculumref04_WearBy_l0_0 k a0 a1 k ([] : List SRange) 0).bind fun r3341 => (some r3341)
theorem nspeculumref04_WearBy_ok (k : Nat) (a0 : (List SStroke)) (a1 : SGrindPlan) (r : (List SRange)) (h : nspeculumref04_WearBy k a0 a1 = some r) : VC Go.Proofs.Try.prog 32 [VV.tr (List.flatMap c_SStroke a0) a0.length, VV.ag (c_SGrindPlan a1)] (VV.fw 2 (List.flatMap c_SRange r) r.length) := by
 unfold nspeculumref04_WearBy at h
 obtain ⟨r3341, h3340, h⟩ := bs h
 have hph3340 := nspeculumref04_WearBy_l0_0_ok k a0 a1 _ _ _ _ h3340
 have e3342 := (an (ti trivial) (VRun.loop hph3340))
 injection h with h; subst h
 exact fun_ok pm pn Go.Proofs.Try.func32 (r0 := VV.fw 2 (List.drop 0 (List.map unfr (List.flatMap c_SRange r3341))) r3341.length) (ans := [.reg (.n :: .n :: []), .reg (.n :: []), .reg (.n :: []), .sub ⟨[(0, none), (3, none), (5, none), (6, none)], [none], [.t 5 2]⟩ (.exit 0) (nspeculumref04_WearBy_l0_0_e0 a0 a1 r3341), .reg (.n :: .n :: [])]) (fr := true) (by kernel_rfl) (an (an (ti (ti trivial)) (an (ti trivial) (an (an (ti trivial) e3342) (an (ti (ti trivial)) trivial)))) (an (show List.all (List.flatMap c_SRange r3341) new0 = true from (by exact new0_c_SRange _)) trivial)) (Wv.of_eq (eqP1_2 r3341))
def arP1_4 (z0 : (List SRange)) (z1 : Int) (z2 : (List SRange)) : List Ans := (nN 3 (.v (VV.ag (c_SRange (z0.getD z1.toNat default))) :: nN 3 (.v (VV.ag (c_SRange (z2.getD z1.toNat default))) :: .n :: [])))
def nspeculumbase_Ranges_l0_0_h (a0 : (List SRange)) (a1 : (List SRange)) (x5 : Int) : VS := ⟨mkA [(0, VV.tr (List.flatMap c_SRange a0) a0.length), (1, VV.tr (List.flatMap c_SRange a1) a1.length), (5, vi x5)], [], .nil⟩
def nspeculumbase_Ranges_l0_0_e0 (a0 : (List SRange)) (a1 : (List SRange)) (r : Unit) : VS := ⟨mkA [(4, vb false)], [], .nil⟩
def nspeculumbase_Ranges_l0_0_e1 (a0 : (List SRange)) (a1 : (List SRange)) (r : Unit) : VS := ⟨mkA [], [], .nil⟩
def nspeculumbase_Ranges_l0_0 (k : Nat) (a0 : (List SRange)) (a1 : (List SRange)) : Nat → Int → Option (Sum Unit Unit)
  | 0, _ => none
  | fuel + 1, x5 => if x5 < (a0.length : Int) then (if 0 ≤ x5 ∧ x5 < (a0.length : Int) then (if 0 ≤ x5 ∧ x5 < (a1.length : Int) then (if (((a0.getD x5.toNat default).Lo : Int) == ((a1.getD x5.toNat default).Lo) && (((a0.getD x5.toNat default).Hi : Int) == ((a1.getD x5.toNat default).Hi) && true)) = true then (nspeculumbase_Ranges_l0_0 k a0 a1 fuel (w64 (x5 + 1))) else (some (.inl ()))) else none) else none) else (some (.inr ()))
theorem nspeculumbase_Ranges_l0_0_ok (k : Nat) (a0 : (List SRange)) (a1 : (List SRange)) : ∀ (fuel : Nat) (x5 : Int) (r : Sum Unit Unit), nspeculumbase_Ranges_l0_0 k a0 a1 fuel x5 = some r → (match r with | .inl r => VLoop none Go.Proofs.Try.prog (szF Go.Proofs.Try.f31) (bodyOf Go.Proofs.Try.f31 0) (nspeculumbase_Ranges_l0_0_h a0 a1 x5) .ret (nspeculumbase_Ranges_l0_0_e0 a0 a1 r) | .inr r => VLoop none Go.Proofs.Try.prog (szF Go.Proofs.Try.f31) (bodyOf Go.Proofs.Try.f31 0) (nspeculumbase_Ranges_l0_0_h a0 a1 x5) (.exit 0) (nspeculumbase_Ranges_l0_0_e1 a0 a1 r)) := by
 intro fuel
 induction fuel with
 | zero => intro x5 r h; rw [nspeculumbase_Ranges_l0_0.eq_1] at h; cases h
 | succ fuel ih =>
  intro x5 r h
  rw [nspeculumbase_Ranges_l0_0.eq_2] at h
  rcases ifs h with ⟨h3394, h⟩ | ⟨h3394, h⟩
  ·obtain ⟨h3395, h⟩ := ifn h
   have e3396 := (show loadL Go.Proofs.Try.prog 85 (x5.toNat * 2) (List.flatMap c_SRange a0) = some (VV.ag (c_SRange (a0.getD x5.toNat default))) from ld_whole ag85 c_SRange 2 sz85 len_c_SRange a0 default h3395 (by omega))
   obtain ⟨h3397, h⟩ := ifn h
   have e3398 := (show loadL Go.Proofs.Try.prog 85 (x5.toNat * 2) (List.flatMap c_SRange a1) = some (VV.ag (c_SRange (a1.getD x5.toNat default))) from ld_whole ag85 c_SRange 2 sz85 len_c_SRange a1 default h3397 (by omega))
   have e3399 := (show List.map kdV [Value.int .i64 ((a0.getD x5.toNat default).Lo), Value.int .i64 ((a0.getD x5.toNat default).Hi)] = List.map kdV [Value.int .i64 ((a1.getD x5.toNat default).Lo), Value.int .i64 ((a1.getD x5.toNat default).Hi)] ∧ EqOK Go.Proofs.Try.prog 85 (List.map kdV [Value.int .i64 ((a1.getD x5.toNat default).Lo), Value.int .i64 ((a1.getD x5.toNat default).Hi)]) from ⟨rfl, eqok85⟩)
   have e3400 := (ti (ti (an h3395 (an e3396 (ti (ti (an h3397 (an e3398 (an e3399 trivial)))))))))
   rcases ifs h with ⟨h3401, h⟩ | ⟨h3401, h⟩
   ·have h2 := ih _ _ h
    obtain ⟨q, hv, hq⟩ := pkR (rd := none) (P := Go.Proofs.Try.prog) (fn := Go.Proofs.Try.f31) (k := 0) (s := (nspeculumbase_Ranges_l0_0_h a0 a1 x5)) (ans := [.reg (nN 4 []), .br true, .reg (arP1_4 a0 x5 a1), .br false, .reg (nN 3 [])]) (c := ⟨[(0, none), (1, none), (5, none)], [], []⟩) (e := .normal) (s1 := (nspeculumbase_Ranges_l0_0_h a0 a1 (w64 (x5 + 1)))) (an (an (an (ti (ti (ti (ti trivial)))) (an (decide_eq_true h3394) trivial)) (an (an e3400 (an (not_f h3401) trivial)) (ti (ti (ti trivial))))) (ti trivial)) (by kernel_rfl)
    cases r with
    | inl r => exact round_next pm pn hv hq h2
    | inr r =>
     exact round_next pm pn hv hq h2
   ·injection h with h; subst h
    exact round_stop (c := ⟨[(4, none)], [], []⟩) (s1 := (nspeculumbase_Ranges_l0_0_e0 a0 a1 ())) pm pn (ans := [.reg (nN 4 []), .br true, .reg (arP1_4 a0 x5 a1), .br true, .reg (.n :: [])]) (by kernel_rfl) (by intro e; cases e) (an (an (an (ti (ti (ti (ti trivial)))) (an (decide_eq_true h3394) trivial)) (an e3400 (an (not_t (bool_f h3401)) (an (ti trivial) trivial)))) (ti trivial))
  ·injection h with h; subst h
   exact round_stop (c := ⟨[], [], []⟩) (s1 := (nspeculumbase_Ranges_l0_0_e1 a0 a1 ())) pm pn (ans := [.reg (nN 4 []), .br false]) (by kernel_rfl) (by intro e; cases e) (an (an (ti (ti (ti (ti trivial)))) (an (decide_eq_false h3394) trivial)) (ti trivial))
def nspeculumbase_Ranges (k : Nat) (a0 : (List SRange)) (a1 : (List SRange)) : Option Bool :=
  if (a0.length : Int) = (a1.length : Int) then ((nspeculumbase_Ranges_l0_0 k a0 a1 k 0).bind fun r3403 => (match r3403 with | .inl r3404 => (some false) | .inr r3405 => (some true))) else (some false)
theorem nspeculumbase_Ranges_ok (k : Nat) (a0 : (List SRange)) (a1 : (List SRange)) (r : Bool) (h : nspeculumbase_Ranges k a0 a1 = some r) : VC Go.Proofs.Try.prog 31 [VV.tr (List.flatMap c_SRange a0) a0.length, VV.tr (List.flatMap c_SRange a1) a1.length] (vb r) := by
 unfold nspeculumbase_Ranges at h
 rcases ifs h with ⟨h3377, h⟩ | ⟨h3377, h⟩
 ·obtain ⟨r3403, h3402, h⟩ := bs h
  have hph3402 := nspeculumbase_Ranges_l0_0_ok k a0 a1 _ _ _ h3402
  cases r3403 with
  | inl r3404 =>
   dsimp only at h
   have e3406 := (an (ti trivial) (VRun.loop hph3402))
   injection h with h; subst h
   exact fun_ok pm pn Go.Proofs.Try.func31 (r0 := vb false) (ans := [.reg (.n :: []), .reg (nN 5 []), .br false, .reg (.n :: []), .sub ⟨[(0, none), (1, none), (5, none)], [], []⟩ .ret (nspeculumbase_Ranges_l0_0_e0 a0 a1 r3404)]) (fr := true) (by kernel_rfl) (an (an (ti trivial) (an (an (ti (ti (ti (ti (ti trivial))))) (an (not_f (decide_eq_true h3377)) trivial)) (an (ti trivial) e3406))) (ti trivial)) (Wv.refl _)
  | inr r3405 =>
   dsimp only at h
   have e3407 := (an (ti trivial) (VRun.loop hph3402))
   injection h with h; subst h
   exact fun_ok pm pn Go.Proofs.Try.func31 (r0 := vb true) (ans := [.reg (.n :: []), .reg (nN 5 []), .br false, .reg (.n :: []), .sub ⟨[(0, none), (1, none), (5, none)], [], []⟩ (.exit 0) (nspeculumbase_Ranges_l0_0_e1 a0 a1 r3405), .reg (.n :: [])]) (fr := true) (by kernel_rfl) (an (an (ti trivial) (an (an (ti (ti (ti (ti (ti trivial))))) (an (not_f (decide_eq_true h3377)) trivial)) (an (an (ti trivial) e3407) (an (ti trivial) trivial)))) (ti trivial)) (Wv.refl _)
 ·injection h with h; subst h
  exact fun_ok pm pn Go.Proofs.Try.func31 (r0 := vb false) (ans := [.reg (.n :: []), .reg (nN 5 []), .br true, .reg (.n :: [])]) (fr := true) (by kernel_rfl) (an (an (ti trivial) (an (ti (ti (ti (ti (ti trivial))))) (an (not_t (decide_eq_false h3377)) (an (ti trivial) trivial)))) (ti trivial)) (Wv.refl _)
def arP1_5 (z0 : Bool) (z1 : Bool) : List Ans := (.n :: .call (vb z0) :: nN 3 (.call (vb z1) :: .n :: .b false :: nN 5 (.b false :: [])))
def arP1_6 (z0 : (List SStroke)) (z1 : SGrindDemand) (z2 : SGrindPlan) (z3 : (Int × Int)) : List Ans := (.n :: .call (VV.fr (List.flatMap c_SStroke z0) z0.length) :: .n :: .call (VV.ag (g_SGrindDemand z1)) :: .n :: .call (VV.ag (g_SGrindPlan z2)) :: .call (VV.tu [vi z3.1, vi z3.2]) :: nN 5 [])
def arP1_7 (z0 : (List SStroke)) (z1 : SGrindPlan) (z2 : ((List SRange) × Int)) : List Ans := (.n :: .call (VV.fr (List.flatMap c_SStroke z0) z0.length) :: .n :: .call (VV.ag (g_SGrindPlan z1)) :: .call (VV.tu [VV.fr (List.flatMap c_SRange z2.1) z2.1.length, vi z2.2]) :: nN 5 [])
def arP1_8 (z0 : (List SRange)) (z1 : Bool) : List Ans := (nN 3 (nS 8 (.b false :: nN 10 (.call (VV.fr (List.flatMap c_SRange z0) z0.length) :: .call (vb z1) :: .n :: .b false :: .b true :: .b false :: []))))
def arP1_9 (z0 : Bool) (z1 : Bool) : List Ans := (.n :: .call (vb z0) :: nN 3 (.call (vb z1) :: .n :: .b false :: .n :: nS 4 (.b true :: [])))
def nspeculumlaw04_GrindPlanChecks (k : Nat) (a0 : (List SStroke)) (a1 : SGrindDemand) (a2 : SGrindPlan) : Option Bool :=
  (nawake k).bind fun r3497 => (if r3497 = true then ((nspeculumlaw04_Light k a0).bind fun r3500 => (if r3500 = true then ((nspeculumlaw04_slim k a1).bind fun r3503 => (if r3503 = true then (if 15 < (a2.Minutes.length : Int) then (some true) else ((nspeculumref04_Copy k a0).bind fun r3509 => ((nspeculumlaw04_demand k a1).bind fun r3512 => ((nspeculumlaw04_plan k a2).bind fun r3514 => ((ngrind_CheckPlan k r3509 r3512 r3514).bind fun r3516 => ((ngrind_WearBy k r3509 r3514).bind fun r3523 => ((nspeculumref04_CheckStrokes k a0).bind fun r3527 => (if r3527.2 = 0 then ((nspeculumref04_PlanErr k a0 a2).bind fun r3531 => (if r3531 = 0 then (if r3523.2 = 0 then ((nspeculumref04_WearBy k a0 a2).bind fun r3539 => ((nspeculumbase_Ranges k r3523.1 r3539).bind fun r3542 => (if r3542 = true then ((nspeculumref04_CheckDemand k a0 a1).bind fun r3549 => (if r3549 = 0 then ((nspeculumref04_CheckPlan k a0 a1 a2).bind fun r3553 => (if r3516.2 = r3553.2 then (some (decide (r3516.1 = r3553.1))) else (some false))) else (if r3516.2 = r3549 then (some (decide (r3516.1 = 0))) else (some false)))) else (some false)))) else (some false)) else (if r3523.2 = r3531 then (if (r3523.1.length : Int) = 0 then ((nspeculumref04_CheckDemand k a0 a1).bind fun r3580 => (if r3580 = 0 then ((nspeculumref04_CheckPlan k a0 a1 a2).bind fun r3584 => (if r3516.2 = r3584.2 then (some (decide (r3516.1 = r3584.1))) else (some false))) else (if r3516.2 = r3580 then (some (decide (r3516.1 = 0))) else (some false)))) else (some false)) else (some false)))) else (if r3523.2 = r3527.2 then (if (r3523.1.length : Int) = 0 then ((nspeculumref04_CheckDemand k a0 a1).bind fun r3612 => (if r3612 = 0 then ((nspeculumref04_CheckPlan k a0 a1 a2).bind fun r3616 => (if r3516.2 = r3616.2 then (some (decide (r3516.1 = r3616.1))) else (some false))) else (if r3516.2 = r3612 then (some (decide (r3516.1 = 0))) else (some false)))) else (some false)) else (some false)))))))))) else (some true))) else (some true))) else (some false))
theorem nspeculumlaw04_GrindPlanChecks_ok (k : Nat) (a0 : (List SStroke)) (a1 : SGrindDemand) (a2 : SGrindPlan) (r : Bool) (h : nspeculumlaw04_GrindPlanChecks k a0 a1 a2 = some r) : VC Go.Proofs.Try.prog 5 [VV.tr (List.flatMap c_SStroke a0) a0.length, VV.ag (c_SGrindDemand a1), VV.ag (c_SGrindPlan a2)] (vb r) := by
 unfold nspeculumlaw04_GrindPlanChecks at h
 obtain ⟨r3497, h3498, h⟩ := bs h
 rcases ifs h with ⟨h3499, h⟩ | ⟨h3499, h⟩
 ·obtain ⟨r3500, h3501, h⟩ := bs h
  rcases ifs h with ⟨h3502, h⟩ | ⟨h3502, h⟩
  ·obtain ⟨r3503, h3504, h⟩ := bs h
   have e3505 := (an (not_f h3502) (nspeculumlaw04_slim_ok k a1 _ h3504))
   rcases ifs h with ⟨h3506, h⟩ | ⟨h3506, h⟩
   ·have e3507 := (ti (an (nspeculumlaw04_Light_ok k a0 _ h3501) (ti (ti (an (an (not_f h3502) trivial) (an e3505 (an (an (not_f h3502) trivial) (an (not_f h3502) (ti (an (an (not_f h3506) trivial) (an (an (not_f h3506) trivial) (an (an (not_f h3506) trivial) (an (an (not_f h3506) trivial) (an (not_f h3506) trivial))))))))))))))
    rcases ifs h with ⟨h3508, h⟩ | ⟨h3508, h⟩
    ·injection h with h; subst h
     exact fun_ok pm pn Go.Proofs.Try.func5 (r0 := vb true) (ans := [.reg (nN 3 []), .reg (.call (vb r3497) :: .n :: []), .br false, .reg (arP1_5 r3500 r3503), .br true, .reg (.n :: [])]) (fr := true) (by kernel_rfl) (an (an (ti (ti (ti trivial))) (an (an (an (nawake_ok k _ h3498) (ti trivial)) (an (not_f h3499) trivial)) (an e3507 (an (decide_eq_true h3508) (an (ti trivial) trivial))))) (ti trivial)) (Wv.refl _)
    ·obtain ⟨r3509, h3510, h⟩ := bs h
     have e3511 := (show VC Go.Proofs.Try.prog 14 [VV.tr (List.flatMap c_SStroke a0) a0.length] (VV.fr (List.flatMap c_SStroke r3509) r3509.length) from (VC.weak (nspeculumref04_Copy_ok k a0 _ h3510) (Wv.fw rfl rfl)))
     obtain ⟨r3512, h3513, h⟩ := bs h
     obtain ⟨r3514, h3515, h⟩ := bs h
     obtain ⟨r3516, h3517, h⟩ := bs h
     have e3518 := (ngrind_CheckPlan_ok k r3509 r3512 r3514 _ h3517)
     have e3519 := (ti (an e3511 (ti (an (nspeculumlaw04_demand_ok k a1 _ h3513) (ti (an (nspeculumlaw04_plan_ok k a2 _ h3515) (an e3518 (ti (ti (ti (ti (ti trivial))))))))))))
     have e3521 := (show VC Go.Proofs.Try.prog 14 [VV.tr (List.flatMap c_SStroke a0) a0.length] (VV.fr (List.flatMap c_SStroke r3509) r3509.length) from (VC.weak (nspeculumref04_Copy_ok k a0 _ h3510) (Wv.fw rfl rfl)))
     obtain ⟨r3523, h3524, h⟩ := bs h
     have e3525 := (show VC Go.Proofs.Try.prog 28 [VV.tr (List.flatMap c_SStroke r3509) r3509.length, VV.ag (c_SGrindPlan r3514)] (VV.tu [VV.fr (List.flatMap c_SRange r3523.1) r3523.1.length, vi r3523.2]) from (VC.weak (ngrind_WearBy_ok k r3509 r3514 _ h3524) (Wv.tuL (.cons (Wv.fw rfl rfl) (.cons (Wv.refl _) .nil)))))
     have e3526 := (ti (an e3521 (ti (an (nspeculumlaw04_plan_ok k a2 _ h3515) (an e3525 (ti (ti (ti (ti (ti trivial))))))))))
     obtain ⟨r3527, h3528, h⟩ := bs h
     have e3529 := (nspeculumref04_CheckStrokes_ok k a0 _ h3528)
     rcases ifs h with ⟨h3530, h⟩ | ⟨h3530, h⟩
     ·obtain ⟨r3531, h3532, h⟩ := bs h
      have e3533 := (nspeculumref04_PlanErr_ok k a0 a2 _ h3532)
      rcases ifs h with ⟨h3534, h⟩ | ⟨h3534, h⟩
      ·rcases ifs h with ⟨h3535, h⟩ | ⟨h3535, h⟩
       ·have e3536 := (an (not_f (decide_eq_true h3535)) trivial)
        have e3537 := (an (not_f (decide_eq_true h3535)) trivial)
        have e3538 := (an (not_f (decide_eq_true h3535)) trivial)
        obtain ⟨r3539, h3540, h⟩ := bs h
        have e3541 := (an (not_f (decide_eq_true h3535)) (show VC Go.Proofs.Try.prog 32 [VV.tr (List.flatMap c_SStroke a0) a0.length, VV.ag (c_SGrindPlan a2)] (VV.fr (List.flatMap c_SRange r3539) r3539.length) from (VC.weak (nspeculumref04_WearBy_ok k a0 a2 _ h3540) (Wv.fw rfl rfl))))
        obtain ⟨r3542, h3543, h⟩ := bs h
        have e3544 := (an (not_f (decide_eq_true h3535)) (nspeculumbase_Ranges_ok k r3523.1 r3539 _ h3543))
        have e3545 := (an (not_f (decide_eq_true h3535)) trivial)
        have e3546 := (an (decide_eq_true h3534) (not_f (decide_eq_true h3535)))
        have e3547 := (ti (ti (ti (an (not_f (decide_eq_true h3534)) (an (not_f (decide_eq_true h3534)) (an (not_f (decide_eq_true h3534)) (an (not_f (decide_eq_true h3534)) (ti (ti (ti (an (not_f (decide_eq_true h3534)) (an (not_f (decide_eq_true h3534)) (ti (an (an rf trivial) (an (an rf trivial) (an (an rf trivial) (an (an (decide_eq_true h3534) trivial) (an (an (decide_eq_true h3534) trivial) (an (an (decide_eq_true h3534) trivial) (an e3536 (an e3537 (an e3538 (an e3541 (an e3544 (an e3545 (an e3546 (an (an rf (decide_eq_true h3534)) (an rf trivial))))))))))))))))))))))))))))
        rcases ifs h with ⟨h3548, h⟩ | ⟨h3548, h⟩
        ·obtain ⟨r3549, h3550, h⟩ := bs h
         have e3551 := (nspeculumref04_CheckDemand_ok k a0 a1 _ h3550)
         rcases ifs h with ⟨h3552, h⟩ | ⟨h3552, h⟩
         ·obtain ⟨r3553, h3554, h⟩ := bs h
          have e3555 := (nspeculumref04_CheckPlan_ok k a0 a1 a2 _ h3554)
          have e3556 := (ti (ti (ti (an e3555 (ti (ti (ti (ti (ti trivial)))))))))
          rcases ifs h with ⟨h3557, h⟩ | ⟨h3557, h⟩
          ·have e3558 := (ti (ti (ti (ti (an (an (decide_eq_true h3557) trivial) (an (an (decide_eq_true h3557) trivial) (an (an (decide_eq_true h3557) trivial) (an (decide_eq_true h3557) (ti trivial)))))))))
           injection h with h; subst h
           exact fun_ok pm pn Go.Proofs.Try.func5 (r0 := vb (decide (r3516.1 = r3553.1))) (ans := [.reg (nN 3 []), .reg (.call (vb r3497) :: .n :: []), .br false, .reg (arP1_5 r3500 r3503), .br false, .reg (arP1_6 r3509 r3512 r3514 r3516), .reg (arP1_7 r3509 r3514 r3523), .reg (.n :: .call (VV.tu [vi r3527.1, vi r3527.2]) :: nN 5 []), .reg (.n :: .n :: []), .br true, .reg (.n :: .n :: .call (vi r3531) :: .n :: []), .reg (arP1_8 r3539 r3542), .br false, .reg (.n :: []), .reg (.n :: .n :: .call (vi r3549) :: .n :: []), .reg (.n :: .n :: []), .br true, .reg (nN 3 (.call (VV.tu [vi r3553.1, vi r3553.2]) :: nN 5 [])), .reg (nN 7 (.b true :: .n :: []))]) (fr := true) (by kernel_rfl) (an (an (ti (ti (ti trivial))) (an (an (an (nawake_ok k _ h3498) (ti trivial)) (an (not_f h3499) trivial)) (an (an e3507 (an (decide_eq_false h3508) trivial)) (an e3519 (an e3526 (an (ti (an e3529 (ti (ti (ti (ti (ti trivial))))))) (an (an (ti (ti trivial)) (an (decide_eq_true h3530) (ti (ti (an e3533 (ti trivial)))))) (an (an e3547 (an (not_f h3548) trivial)) (an (ti trivial) (an (an (ti (ti (an e3551 (ti trivial)))) (an (ti (ti trivial)) (an (decide_eq_true h3552) e3556))) (an e3558 trivial))))))))))) (ti trivial)) (Wv.refl _)
          ·have e3559 := (ti (ti (ti (ti (an (decide_eq_false h3557) (an (decide_eq_false h3557) (an (decide_eq_false h3557) (an (decide_eq_false h3557) (ti trivial)))))))))
           injection h with h; subst h
           exact fun_ok pm pn Go.Proofs.Try.func5 (r0 := vb false) (ans := [.reg (nN 3 []), .reg (.call (vb r3497) :: .n :: []), .br false, .reg (arP1_5 r3500 r3503), .br false, .reg (arP1_6 r3509 r3512 r3514 r3516), .reg (arP1_7 r3509 r3514 r3523), .reg (.n :: .call (VV.tu [vi r3527.1, vi r3527.2]) :: nN 5 []), .reg (.n :: .n :: []), .br true, .reg (.n :: .n :: .call (vi r3531) :: .n :: []), .reg (arP1_8 r3539 r3542), .br false, .reg (.n :: []), .reg (.n :: .n :: .call (vi r3549) :: .n :: []), .reg (.n :: .n :: []), .br true, .reg (nN 3 (.call (VV.tu [vi r3553.1, vi r3553.2]) :: nN 5 [])), .reg (nN 4 (nS 3 (.b false :: .n :: [])))]) (fr := true) (by kernel_rfl) (an (an (ti (ti (ti trivial))) (an (an (an (nawake_ok k _ h3498) (ti trivial)) (an (not_f h3499) trivial)) (an (an e3507 (an (decide_eq_false h3508) trivial)) (an e3519 (an e3526 (an (ti (an e3529 (ti (ti (ti (ti (ti trivial))))))) (an (an (ti (ti trivial)) (an (decide_eq_true h3530) (ti (ti (an e3533 (ti trivial)))))) (an (an e3547 (an (not_f h3548) trivial)) (an (ti trivial) (an (an (ti (ti (an e3551 (ti trivial)))) (an (ti (ti trivial)) (an (decide_eq_true h3552) e3556))) (an e3559 trivial))))))))))) (ti trivial)) (Wv.refl _)
         ·rcases ifs h with ⟨h3560, h⟩ | ⟨h3560, h⟩
          ·have e3561 := (ti (ti (ti (ti (an (an (decide_eq_true h3560) trivial) (an (an (decide_eq_true h3560) trivial) (an (an (decide_eq_true h3560) trivial) (an (decide_eq_true h3560) (ti trivial)))))))))
           injection h with h; subst h
           exact fun_ok pm pn Go.Proofs.Try.func5 (r0 := vb (decide (r3516.1 = 0))) (ans := [.reg (nN 3 []), .reg (.call (vb r3497) :: .n :: []), .br false, .reg (arP1_5 r3500 r3503), .br false, .reg (arP1_6 r3509 r3512 r3514 r3516), .reg (arP1_7 r3509 r3514 r3523), .reg (.n :: .call (VV.tu [vi r3527.1, vi r3527.2]) :: nN 5 []), .reg (.n :: .n :: []), .br true, .reg (.n :: .n :: .call (vi r3531) :: .n :: []), .reg (arP1_8 r3539 r3542), .br false, .reg (.n :: []), .reg (.n :: .n :: .call (vi r3549) :: .n :: []), .reg (.n :: .n :: []), .br false, .reg (nN 7 (.b true :: .n :: []))]) (fr := true) (by kernel_rfl) (an (an (ti (ti (ti trivial))) (an (an (an (nawake_ok k _ h3498) (ti trivial)) (an (not_f h3499) trivial)) (an (an e3507 (an (decide_eq_false h3508) trivial)) (an e3519 (an e3526 (an (ti (an e3529 (ti (ti (ti (ti (ti trivial))))))) (an (an (ti (ti trivial)) (an (decide_eq_true h3530) (ti (ti (an e3533 (ti trivial)))))) (an (an e3547 (an (not_f h3548) trivial)) (an (ti trivial) (an (an (ti (ti (an e3551 (ti trivial)))) (an (ti (ti trivial)) (an (decide_eq_false h3552) trivial))) (an e3561 trivial))))))))))) (ti trivial)) (Wv.refl _)
          ·have e3562 := (ti (ti (ti (ti (an (decide_eq_false h3560) (an (decide_eq_false h3560) (an (decide_eq_false h3560) (an (decide_eq_false h3560) (ti trivial)))))))))
           injection h with h; subst h
           exact fun_ok pm pn Go.Proofs.Try.func5 (r0 := vb false) (ans := [.reg (nN 3 []), .reg (.call (vb r3497) :: .n :: []), .br false, .reg (arP1_5 r3500 r3503), .br false, .reg (arP1_6 r3509 r3512 r3514 r3516), .reg (arP1_7 r3509 r3514 r3523), .reg (.n :: .call (VV.tu [vi r3527.1, vi r3527.2]) :: nN 5 []), .reg (.n :: .n :: []), .br true, .reg (.n :: .n :: .call (vi r3531) :: .n :: []), .reg (arP1_8 r3539 r3542), .br false, .reg (.n :: []), .reg (.n :: .n :: .call (vi r3549) :: .n :: []), .reg (.n :: .n :: []), .br false, .reg (nN 4 (nS 3 (.b false :: .n :: [])))]) (fr := true) (by kernel_rfl) (an (an (ti (ti (ti trivial))) (an (an (an (nawake_ok k _ h3498) (ti trivial)) (an (not_f h3499) trivial)) (an (an e3507 (an (decide_eq_false h3508) trivial)) (an e3519 (an e3526 (an (ti (an e3529 (ti (ti (ti (ti (ti trivial))))))) (an (an (ti (ti trivial)) (an (decide_eq_true h3530) (ti (ti (an e3533 (ti trivial)))))) (an (an e3547 (an (not_f h3548) trivial)) (an (ti trivial) (an (an (ti (ti (an e3551 (ti trivial)))) (an (ti (ti trivial)) (an (decide_eq_false h3552) trivial))) (an e3562 trivial))))))))))) (ti trivial)) (Wv.refl _)
        ·injection h with h; subst h
         exact fun_ok pm pn Go.Proofs.Try.func5 (r0 := vb false) (ans := [.reg (nN 3 []), .reg (.call (vb r3497) :: .n :: []), .br false, .reg (arP1_5 r3500 r3503), .br false, .reg (arP1_6 r3509 r3512 r3514 r3516), .reg (arP1_7 r3509 r3514 r3523), .reg (.n :: .call (VV.tu [vi r3527.1, vi r3527.2]) :: nN 5 []), .reg (.n :: .n :: []), .br true, .reg (.n :: .n :: .call (vi r3531) :: .n :: []), .reg (arP1_8 r3539 r3542), .br true, .reg (.n :: [])]) (fr := true) (by kernel_rfl) (an (an (ti (ti (ti trivial))) (an (an (an (nawake_ok k _ h3498) (ti trivial)) (an (not_f h3499) trivial)) (an (an e3507 (an (decide_eq_false h3508) trivial)) (an e3519 (an e3526 (an (ti (an e3529 (ti (ti (ti (ti (ti trivial))))))) (an (an (ti (ti trivial)) (an (decide_eq_true h3530) (ti (ti (an e3533 (ti trivial)))))) (an e3547 (an (not_t (bool_f h3548)) (an (ti trivial) trivial)))))))))) (ti trivial)) (Wv.refl _)
       ·have e3563 := (an (decide_eq_true h3534) (not_t (decide_eq_false h3535)))
        have e3564 := (ti (ti (ti (an (not_f (decide_eq_true h3534)) (an (not_f (decide_eq_true h3534)) (an (not_f (decide_eq_true h3534)) (an (not_f (decide_eq_true h3534)) (ti (ti (ti (an (not_f (decide_eq_true h3534)) (an (not_f (decide_eq_true h3534)) (ti (an (an rf trivial) (an (an rf trivial) (an (an rf trivial) (an (an (decide_eq_true h3534) trivial) (an (an (decide_eq_true h3534) trivial) (an (an (decide_eq_true h3534) trivial) (an (not_t (decide_eq_false h3535)) (an (not_t (decide_eq_false h3535)) (an (not_t (decide_eq_false h3535)) (an (not_t (decide_eq_false h3535)) (an (not_t (decide_eq_false h3535)) (an (not_t (decide_eq_false h3535)) (an e3563 (an (an rf (decide_eq_true h3534)) (an rf trivial))))))))))))))))))))))))))))
        injection h with h; subst h
        exact fun_ok pm pn Go.Proofs.Try.func5 (r0 := vb false) (ans := [.reg (nN 3 []), .reg (.call (vb r3497) :: .n :: []), .br false, .reg (arP1_5 r3500 r3503), .br false, .reg (arP1_6 r3509 r3512 r3514 r3516), .reg (arP1_7 r3509 r3514 r3523), .reg (.n :: .call (VV.tu [vi r3527.1, vi r3527.2]) :: nN 5 []), .reg (.n :: .n :: []), .br true, .reg (.n :: .n :: .call (vi r3531) :: .n :: []), .reg (nN 3 (nS 8 (.b false :: nN 7 (nS 6 (.b true :: .b true :: .b false :: []))))), .br true, .reg (.n :: [])]) (fr := true) (by kernel_rfl) (an (an (ti (ti (ti trivial))) (an (an (an (nawake_ok k _ h3498) (ti trivial)) (an (not_f h3499) trivial)) (an (an e3507 (an (decide_eq_false h3508) trivial)) (an e3519 (an e3526 (an (ti (an e3529 (ti (ti (ti (ti (ti trivial))))))) (an (an (ti (ti trivial)) (an (decide_eq_true h3530) (ti (ti (an e3533 (ti trivial)))))) (an e3564 (an rt (an (ti trivial) trivial)))))))))) (ti trivial)) (Wv.refl _)
      ·have e3565 := (an (not_t (decide_eq_false h3534)) trivial)
       have e3566 := (an (not_t (decide_eq_false h3534)) trivial)
       have e3567 := (an (not_t (decide_eq_false h3534)) trivial)
       have e3568 := (an (not_t (decide_eq_false h3534)) trivial)
       rcases ifs h with ⟨h3569, h⟩ | ⟨h3569, h⟩
       ·have e3570 := (an (not_f (decide_eq_true h3569)) trivial)
        have e3571 := (an (not_f (decide_eq_true h3569)) trivial)
        have e3572 := (an (not_f (decide_eq_true h3569)) trivial)
        have e3573 := (an (not_t (decide_eq_false h3534)) (not_f (decide_eq_true h3569)))
        rcases ifs h with ⟨h3574, h⟩ | ⟨h3574, h⟩
        ·have e3575 := (an (not_f (decide_eq_true h3574)) trivial)
         have e3576 := (an (not_f (decide_eq_true h3574)) trivial)
         have e3577 := (an (not_f (decide_eq_true h3574)) trivial)
         have e3578 := (an (not_f (decide_eq_true h3574)) (decide_eq_false h3534))
         have e3579 := (ti (ti (ti (an e3565 (an e3566 (an e3567 (an e3568 (an e3570 (an e3571 (an e3572 (an e3573 (an (not_t (decide_eq_false h3534)) (ti (an e3575 (an e3576 (an e3577 (an (decide_eq_false h3534) (an (decide_eq_false h3534) (an (decide_eq_false h3534) (ti (ti (ti (ti (ti (ti (an (decide_eq_false h3534) (an e3578 (an (not_f (decide_eq_true h3574)) trivial))))))))))))))))))))))))))))
         obtain ⟨r3580, h3581, h⟩ := bs h
         have e3582 := (nspeculumref04_CheckDemand_ok k a0 a1 _ h3581)
         rcases ifs h with ⟨h3583, h⟩ | ⟨h3583, h⟩
         ·obtain ⟨r3584, h3585, h⟩ := bs h
          have e3586 := (nspeculumref04_CheckPlan_ok k a0 a1 a2 _ h3585)
          have e3587 := (ti (ti (ti (an e3586 (ti (ti (ti (ti (ti trivial)))))))))
          rcases ifs h with ⟨h3588, h⟩ | ⟨h3588, h⟩
          ·have e3589 := (ti (ti (ti (ti (an (an (decide_eq_true h3588) trivial) (an (an (decide_eq_true h3588) trivial) (an (an (decide_eq_true h3588) trivial) (an (decide_eq_true h3588) (ti trivial)))))))))
           injection h with h; subst h
           exact fun_ok pm pn Go.Proofs.Try.func5 (r0 := vb (decide (r3516.1 = r3584.1))) (ans := [.reg (nN 3 []), .reg (.call (vb r3497) :: .n :: []), .br false, .reg (arP1_5 r3500 r3503), .br false, .reg (arP1_6 r3509 r3512 r3514 r3516), .reg (arP1_7 r3509 r3514 r3523), .reg (.n :: .call (VV.tu [vi r3527.1, vi r3527.2]) :: nN 5 []), .reg (.n :: .n :: []), .br true, .reg (.n :: .n :: .call (vi r3531) :: .n :: []), .reg (nN 10 (.b false :: .b true :: nN 4 (nS 10 (.b false :: .b false :: [])))), .br false, .reg (.n :: []), .reg (.n :: .n :: .call (vi r3580) :: .n :: []), .reg (.n :: .n :: []), .br true, .reg (nN 3 (.call (VV.tu [vi r3584.1, vi r3584.2]) :: nN 5 [])), .reg (nN 7 (.b true :: .n :: []))]) (fr := true) (by kernel_rfl) (an (an (ti (ti (ti trivial))) (an (an (an (nawake_ok k _ h3498) (ti trivial)) (an (not_f h3499) trivial)) (an (an e3507 (an (decide_eq_false h3508) trivial)) (an e3519 (an e3526 (an (ti (an e3529 (ti (ti (ti (ti (ti trivial))))))) (an (an (ti (ti trivial)) (an (decide_eq_true h3530) (ti (ti (an e3533 (ti trivial)))))) (an (an e3579 (an rf trivial)) (an (ti trivial) (an (an (ti (ti (an e3582 (ti trivial)))) (an (ti (ti trivial)) (an (decide_eq_true h3583) e3587))) (an e3589 trivial))))))))))) (ti trivial)) (Wv.refl _)
          ·have e3590 := (ti (ti (ti (ti (an (decide_eq_false h3588) (an (decide_eq_false h3588) (an (decide_eq_false h3588) (an (decide_eq_false h3588) (ti trivial)))))))))
           injection h with h; subst h
           exact fun_ok pm pn Go.Proofs.Try.func5 (r0 := vb false) (ans := [.reg (nN 3 []), .reg (.call (vb r3497) :: .n :: []), .br false, .reg (arP1_5 r3500 r3503), .br false, .reg (arP1_6 r3509 r3512 r3514 r3516), .reg (arP1_7 r3509 r3514 r3523), .reg (.n :: .call (VV.tu [vi r3527.1, vi r3527.2]) :: nN 5 []), .reg (.n :: .n :: []), .br true, .reg (.n :: .n :: .call (vi r3531) :: .n :: []), .reg (nN 10 (.b false :: .b true :: nN 4 (nS 10 (.b false :: .b false :: [])))), .br false, .reg (.n :: []), .reg (.n :: .n :: .call (vi r3580) :: .n :: []), .reg (.n :: .n :: []), .br true, .reg (nN 3 (.call (VV.tu [vi r3584.1, vi r3584.2]) :: nN 5 [])), .reg (nN 4 (nS 3 (.b false :: .n :: [])))]) (fr := true) (by kernel_rfl) (an (an (ti (ti (ti trivial))) (an (an (an (nawake_ok k _ h3498) (ti trivial)) (an (not_f h3499) trivial)) (an (an e3507 (an (decide_eq_false h3508) trivial)) (an e3519 (an e3526 (an (ti (an e3529 (ti (ti (ti (ti (ti trivial))))))) (an (an (ti (ti trivial)) (an (decide_eq_true h3530) (ti (ti (an e3533 (ti trivial)))))) (an (an e3579 (an rf trivial)) (an (ti trivial) (an (an (ti (ti (an e3582 (ti trivial)))) (an (ti (ti trivial)) (an (decide_eq_true h3583) e3587))) (an e3590 trivial))))))))))) (ti trivial)) (Wv.refl _)
         ·rcases ifs h with ⟨h3591, h⟩ | ⟨h3591, h⟩
          ·have e3592 := (ti (ti (ti (ti (an (an (decide_eq_true h3591) trivial) (an (an (decide_eq_true h3591) trivial) (an (an (decide_eq_true h3591) trivial) (an (decide_eq_true h3591) (ti trivial)))))))))
           injection h with h; subst h
           exact fun_ok pm pn Go.Proofs.Try.func5 (r0 := vb (decide (r3516.1 = 0))) (ans := [.reg (nN 3 []), .reg (.call (vb r3497) :: .n :: []), .br false, .reg (arP1_5 r3500 r3503), .br false, .reg (arP1_6 r3509 r3512 r3514 r3516), .reg (arP1_7 r3509 r3514 r3523), .reg (.n :: .call (VV.tu [vi r3527.1, vi r3527.2]) :: nN 5 []), .reg (.n :: .n :: []), .br true, .reg (.n :: .n :: .call (vi r3531) :: .n :: []), .reg (nN 10 (.b false :: .b true :: nN 4 (nS 10 (.b false :: .b false :: [])))), .br false, .reg (.n :: []), .reg (.n :: .n :: .call (vi r3580) :: .n :: []), .reg (.n :: .n :: []), .br false, .reg (nN 7 (.b true :: .n :: []))]) (fr := true) (by kernel_rfl) (an (an (ti (ti (ti trivial))) (an (an (an (nawake_ok k _ h3498) (ti trivial)) (an (not_f h3499) trivial)) (an (an e3507 (an (decide_eq_false h3508) trivial)) (an e3519 (an e3526 (an (ti (an e3529 (ti (ti (ti (ti (ti trivial))))))) (an (an (ti (ti trivial)) (an (decide_eq_true h3530) (ti (ti (an e3533 (ti trivial)))))) (an (an e3579 (an rf trivial)) (an (ti trivial) (an (an (ti (ti (an e3582 (ti trivial)))) (an (ti (ti trivial)) (an (decide_eq_false h3583) trivial))) (an e3592 trivial))))))))))) (ti trivial)) (Wv.refl _)
          ·have e3593 := (ti (ti (ti (ti (an (decide_eq_false h3591) (an (decide_eq_false h3591) (an (decide_eq_false h3591) (an (decide_eq_false h3591) (ti trivial)))))))))
           injection h with h; subst h
           exact fun_ok pm pn Go.Proofs.Try.func5 (r0 := vb false) (ans := [.reg (nN 3 []), .reg (.call (vb r3497) :: .n :: []), .br false, .reg (arP1_5 r3500 r3503), .br false, .reg (arP1_6 r3509 r3512 r3514 r3516), .reg (arP1_7 r3509 r3514 r3523), .reg (.n :: .call (VV.tu [vi r3527.1, vi r3527.2]) :: nN 5 []), .reg (.n :: .n :: []), .br true, .reg (.n :: .n :: .call (vi r3531) :: .n :: []), .reg (nN 10 (.b false :: .b true :: nN 4 (nS 10 (.b false :: .b false :: [])))), .br false, .reg (.n :: []), .reg (.n :: .n :: .call (vi r3580) :: .n :: []), .reg (.n :: .n :: []), .br false, .reg (nN 4 (nS 3 (.b false :: .n :: [])))]) (fr := true) (by kernel_rfl) (an (an (ti (ti (ti trivial))) (an (an (an (nawake_ok k _ h3498) (ti trivial)) (an (not_f h3499) trivial)) (an (an e3507 (an (decide_eq_false h3508) trivial)) (an e3519 (an e3526 (an (ti (an e3529 (ti (ti (ti (ti (ti trivial))))))) (an (an (ti (ti trivial)) (an (decide_eq_true h3530) (ti (ti (an e3533 (ti trivial)))))) (an (an e3579 (an rf trivial)) (an (ti trivial) (an (an (ti (ti (an e3582 (ti trivial)))) (an (ti (ti trivial)) (an (decide_eq_false h3583) trivial))) (an e3593 trivial))))))))))) (ti trivial)) (Wv.refl _)
        ·have e3594 := (ti (ti (ti (an e3565 (an e3566 (an e3567 (an e3568 (an e3570 (an e3571 (an e3572 (an e3573 (an (not_t (decide_eq_false h3534)) (ti (an (not_t (decide_eq_false h3574)) (an (not_t (decide_eq_false h3574)) (an (not_t (decide_eq_false h3574)) (ti (ti (ti (ti (ti (ti (ti (ti (ti (ti (an (not_t (decide_eq_false h3574)) (an (not_t (decide_eq_false h3574)) trivial))))))))))))))))))))))))))))
         injection h with h; subst h
         exact fun_ok pm pn Go.Proofs.Try.func5 (r0 := vb false) (ans := [.reg (nN 3 []), .reg (.call (vb r3497) :: .n :: []), .br false, .reg (arP1_5 r3500 r3503), .br false, .reg (arP1_6 r3509 r3512 r3514 r3516), .reg (arP1_7 r3509 r3514 r3523), .reg (.n :: .call (VV.tu [vi r3527.1, vi r3527.2]) :: nN 5 []), .reg (.n :: .n :: []), .br true, .reg (.n :: .n :: .call (vi r3531) :: .n :: []), .reg (nN 10 (.b false :: .b true :: .n :: nS 14 (.b true :: []))), .br true, .reg (.n :: [])]) (fr := true) (by kernel_rfl) (an (an (ti (ti (ti trivial))) (an (an (an (nawake_ok k _ h3498) (ti trivial)) (an (not_f h3499) trivial)) (an (an e3507 (an (decide_eq_false h3508) trivial)) (an e3519 (an e3526 (an (ti (an e3529 (ti (ti (ti (ti (ti trivial))))))) (an (an (ti (ti trivial)) (an (decide_eq_true h3530) (ti (ti (an e3533 (ti trivial)))))) (an e3594 (an rt (an (ti trivial) trivial)))))))))) (ti trivial)) (Wv.refl _)
       ·have e3595 := (an (not_t (decide_eq_false h3534)) (not_t (decide_eq_false h3569)))
        have e3596 := (ti (ti (ti (an e3565 (an e3566 (an e3567 (an e3568 (an (not_t (decide_eq_false h3569)) (an (not_t (decide_eq_false h3569)) (an (not_t (decide_eq_false h3569)) (an e3595 (an (not_t (decide_eq_false h3534)) (ti (an rt (an rt (an rt (ti (ti (ti (ti (ti (ti (ti (ti (ti (ti (an rt (an rt trivial))))))))))))))))))))))))))))
        injection h with h; subst h
        exact fun_ok pm pn Go.Proofs.Try.func5 (r0 := vb false) (ans := [.reg (nN 3 []), .reg (.call (vb r3497) :: .n :: []), .br false, .reg (arP1_5 r3500 r3503), .br false, .reg (arP1_6 r3509 r3512 r3514 r3516), .reg (arP1_7 r3509 r3514 r3523), .reg (.n :: .call (VV.tu [vi r3527.1, vi r3527.2]) :: nN 5 []), .reg (.n :: .n :: []), .br true, .reg (.n :: .n :: .call (vi r3531) :: .n :: []), .reg (nN 7 (nS 3 (.b true :: .b true :: .n :: nS 14 (.b true :: [])))), .br true, .reg (.n :: [])]) (fr := true) (by kernel_rfl) (an (an (ti (ti (ti trivial))) (an (an (an (nawake_ok k _ h3498) (ti trivial)) (an (not_f h3499) trivial)) (an (an e3507 (an (decide_eq_false h3508) trivial)) (an e3519 (an e3526 (an (ti (an e3529 (ti (ti (ti (ti (ti trivial))))))) (an (an (ti (ti trivial)) (an (decide_eq_true h3530) (ti (ti (an e3533 (ti trivial)))))) (an e3596 (an rt (an (ti trivial) trivial)))))))))) (ti trivial)) (Wv.refl _)
     ·have e3597 := (an (not_t (decide_eq_false h3530)) trivial)
      have e3598 := (an (not_t (decide_eq_false h3530)) trivial)
      have e3599 := (an (not_t (decide_eq_false h3530)) trivial)
      have e3600 := (an (not_t (decide_eq_false h3530)) trivial)
      rcases ifs h with ⟨h3601, h⟩ | ⟨h3601, h⟩
      ·have e3602 := (an (not_f (decide_eq_true h3601)) trivial)
       have e3603 := (an (not_f (decide_eq_true h3601)) trivial)
       have e3604 := (an (not_f (decide_eq_true h3601)) trivial)
       have e3605 := (an (not_t (decide_eq_false h3530)) (not_f (decide_eq_true h3601)))
       rcases ifs h with ⟨h3606, h⟩ | ⟨h3606, h⟩
       ·have e3607 := (an (not_f (decide_eq_true h3606)) trivial)
        have e3608 := (an (not_f (decide_eq_true h3606)) trivial)
        have e3609 := (an (not_f (decide_eq_true h3606)) trivial)
        have e3610 := (an (not_f (decide_eq_true h3606)) (decide_eq_false h3530))
        have e3611 := (ti (ti (ti (an e3597 (an e3598 (an e3599 (an e3600 (an e3602 (an e3603 (an e3604 (an e3605 (an (not_t (decide_eq_false h3530)) (ti (an e3607 (an e3608 (an e3609 (an (decide_eq_false h3530) (an (decide_eq_false h3530) (an (decide_eq_false h3530) (ti (ti (ti (ti (ti (ti (an (decide_eq_false h3530) (an e3610 (an (not_f (decide_eq_true h3606)) trivial))))))))))))))))))))))))))))
        obtain ⟨r3612, h3613, h⟩ := bs h
        have e3614 := (nspeculumref04_CheckDemand_ok k a0 a1 _ h3613)
        rcases ifs h with ⟨h3615, h⟩ | ⟨h3615, h⟩
        ·obtain ⟨r3616, h3617, h⟩ := bs h
         have e3618 := (nspeculumref04_CheckPlan_ok k a0 a1 a2 _ h3617)
         have e3619 := (ti (ti (ti (an e3618 (ti (ti (ti (ti (ti trivial)))))))))
         rcases ifs h with ⟨h3620, h⟩ | ⟨h3620, h⟩
         ·have e3621 := (ti (ti (ti (ti (an (an (decide_eq_true h3620) trivial) (an (an (decide_eq_true h3620) trivial) (an (an (decide_eq_true h3620) trivial) (an (decide_eq_true h3620) (ti trivial)))))))))
          injection h with h; subst h
          exact fun_ok pm pn Go.Proofs.Try.func5 (r0 := vb (decide (r3516.1 = r3616.1))) (ans := [.reg (nN 3 []), .reg (.call (vb r3497) :: .n :: []), .br false, .reg (arP1_5 r3500 r3503), .br false, .reg (arP1_6 r3509 r3512 r3514 r3516), .reg (arP1_7 r3509 r3514 r3523), .reg (.n :: .call (VV.tu [vi r3527.1, vi r3527.2]) :: nN 5 []), .reg (.n :: .n :: []), .br false, .reg (nN 10 (.b false :: .b true :: nN 4 (nS 10 (.b false :: .b false :: [])))), .br false, .reg (.n :: []), .reg (.n :: .n :: .call (vi r3612) :: .n :: []), .reg (.n :: .n :: []), .br true, .reg (nN 3 (.call (VV.tu [vi r3616.1, vi r3616.2]) :: nN 5 [])), .reg (nN 7 (.b true :: .n :: []))]) (fr := true) (by kernel_rfl) (an (an (ti (ti (ti trivial))) (an (an (an (nawake_ok k _ h3498) (ti trivial)) (an (not_f h3499) trivial)) (an (an e3507 (an (decide_eq_false h3508) trivial)) (an e3519 (an e3526 (an (ti (an e3529 (ti (ti (ti (ti (ti trivial))))))) (an (an (ti (ti trivial)) (an (decide_eq_false h3530) trivial)) (an (an e3611 (an rf trivial)) (an (ti trivial) (an (an (ti (ti (an e3614 (ti trivial)))) (an (ti (ti trivial)) (an (decide_eq_true h3615) e3619))) (an e3621 trivial))))))))))) (ti trivial)) (Wv.refl _)
         ·have e3622 := (ti (ti (ti (ti (an (decide_eq_false h3620) (an (decide_eq_false h3620) (an (decide_eq_false h3620) (an (decide_eq_false h3620) (ti trivial)))))))))
          injection h with h; subst h
          exact fun_ok pm pn Go.Proofs.Try.func5 (r0 := vb false) (ans := [.reg (nN 3 []), .reg (.call (vb r3497) :: .n :: []), .br false, .reg (arP1_5 r3500 r3503), .br false, .reg (arP1_6 r3509 r3512 r3514 r3516), .reg (arP1_7 r3509 r3514 r3523), .reg (.n :: .call (VV.tu [vi r3527.1, vi r3527.2]) :: nN 5 []), .reg (.n :: .n :: []), .br false, .reg (nN 10 (.b false :: .b true :: nN 4 (nS 10 (.b false :: .b false :: [])))), .br false, .reg (.n :: []), .reg (.n :: .n :: .call (vi r3612) :: .n :: []), .reg (.n :: .n :: []), .br true, .reg (nN 3 (.call (VV.tu [vi r3616.1, vi r3616.2]) :: nN 5 [])), .reg (nN 4 (nS 3 (.b false :: .n :: [])))]) (fr := true) (by kernel_rfl) (an (an (ti (ti (ti trivial))) (an (an (an (nawake_ok k _ h3498) (ti trivial)) (an (not_f h3499) trivial)) (an (an e3507 (an (decide_eq_false h3508) trivial)) (an e3519 (an e3526 (an (ti (an e3529 (ti (ti (ti (ti (ti trivial))))))) (an (an (ti (ti trivial)) (an (decide_eq_false h3530) trivial)) (an (an e3611 (an rf trivial)) (an (ti trivial) (an (an (ti (ti (an e3614 (ti trivial)))) (an (ti (ti trivial)) (an (decide_eq_true h3615) e3619))) (an e3622 trivial))))))))))) (ti trivial)) (Wv.refl _)
        ·rcases ifs h with ⟨h3623, h⟩ | ⟨h3623, h⟩
         ·have e3624 := (ti (ti (ti (ti (an (an (decide_eq_true h3623) trivial) (an (an (decide_eq_true h3623) trivial) (an (an (decide_eq_true h3623) trivial) (an (decide_eq_true h3623) (ti trivial)))))))))
          injection h with h; subst h
          exact fun_ok pm pn Go.Proofs.Try.func5 (r0 := vb (decide (r3516.1 = 0))) (ans := [.reg (nN 3 []), .reg (.call (vb r3497) :: .n :: []), .br false, .reg (arP1_5 r3500 r3503), .br false, .reg (arP1_6 r3509 r3512 r3514 r3516), .reg (arP1_7 r3509 r3514 r3523), .reg (.n :: .call (VV.tu [vi r3527.1, vi r3527.2]) :: nN 5 []), .reg (.n :: .n :: []), .br false, .reg (nN 10 (.b false :: .b true :: nN 4 (nS 10 (.b false :: .b false :: [])))), .br false, .reg (.n :: []), .reg (.n :: .n :: .call (vi r3612) :: .n :: []), .reg (.n :: .n :: []), .br false, .reg (nN 7 (.b true :: .n :: []))]) (fr := true) (by kernel_rfl) (an (an (ti (ti (ti trivial))) (an (an (an (nawake_ok k _ h3498) (ti trivial)) (an (not_f h3499) trivial)) (an (an e3507 (an (decide_eq_false h3508) trivial)) (an e3519 (an e3526 (an (ti (an e3529 (ti (ti (ti (ti (ti trivial))))))) (an (an (ti (ti trivial)) (an (decide_eq_false h3530) trivial)) (an (an e3611 (an rf trivial)) (an (ti trivial) (an (an (ti (ti (an e3614 (ti trivial)))) (an (ti (ti trivial)) (an (decide_eq_false h3615) trivial))) (an e3624 trivial))))))))))) (ti trivial)) (Wv.refl _)
         ·have e3625 := (ti (ti (ti (ti (an (decide_eq_false h3623) (an (decide_eq_false h3623) (an (decide_eq_false h3623) (an (decide_eq_false h3623) (ti trivial)))))))))
          injection h with h; subst h
          exact fun_ok pm pn Go.Proofs.Try.func5 (r0 := vb false) (ans := [.reg (nN 3 []), .reg (.call (vb r3497) :: .n :: []), .br false, .reg (arP1_5 r3500 r3503), .br false, .reg (arP1_6 r3509 r3512 r3514 r3516), .reg (arP1_7 r3509 r3514 r3523), .reg (.n :: .call (VV.tu [vi r3527.1, vi r3527.2]) :: nN 5 []), .reg (.n :: .n :: []), .br false, .reg (nN 10 (.b false :: .b true :: nN 4 (nS 10 (.b false :: .b false :: [])))), .br false, .reg (.n :: []), .reg (.n :: .n :: .call (vi r3612) :: .n :: []), .reg (.n :: .n :: []), .br false, .reg (nN 4 (nS 3 (.b false :: .n :: [])))]) (fr := true) (by kernel_rfl) (an (an (ti (ti (ti trivial))) (an (an (an (nawake_ok k _ h3498) (ti trivial)) (an (not_f h3499) trivial)) (an (an e3507 (an (decide_eq_false h3508) trivial)) (an e3519 (an e3526 (an (ti (an e3529 (ti (ti (ti (ti (ti trivial))))))) (an (an (ti (ti trivial)) (an (decide_eq_false h3530) trivial)) (an (an e3611 (an rf trivial)) (an (ti trivial) (an (an (ti (ti (an e3614 (ti trivial)))) (an (ti (ti trivial)) (an (decide_eq_false h3615) trivial))) (an e3625 trivial))))))))))) (ti trivial)) (Wv.refl _)
       ·have e3626 := (ti (ti (ti (an e3597 (an e3598 (an e3599 (an e3600 (an e3602 (an e3603 (an e3604 (an e3605 (an (not_t (decide_eq_false h3530)) (ti (an (not_t (decide_eq_false h3606)) (an (not_t (decide_eq_false h3606)) (an (not_t (decide_eq_false h3606)) (ti (ti (ti (ti (ti (ti (ti (ti (ti (ti (an (not_t (decide_eq_false h3606)) (an (not_t (decide_eq_false h3606)) trivial))))))))))))))))))))))))))))
        injection h with h; subst h
        exact fun_ok pm pn Go.Proofs.Try.func5 (r0 := vb false) (ans := [.reg (nN 3 []), .reg (.call (vb r3497) :: .n :: []), .br false, .reg (arP1_5 r3500 r3503), .br false, .reg (arP1_6 r3509 r3512 r3514 r3516), .reg (arP1_7 r3509 r3514 r3523), .reg (.n :: .call (VV.tu [vi r3527.1, vi r3527.2]) :: nN 5 []), .reg (.n :: .n :: []), .br false, .reg (nN 10 (.b false :: .b true :: .n :: nS 14 (.b true :: []))), .br true, .reg (.n :: [])]) (fr := true) (by kernel_rfl) (an (an (ti (ti (ti trivial))) (an (an (an (nawake_ok k _ h3498) (ti trivial)) (an (not_f h3499) trivial)) (an (an e3507 (an (decide_eq_false h3508) trivial)) (an e3519 (an e3526 (an (ti (an e3529 (ti (ti (ti (ti (ti trivial))))))) (an (an (ti (ti trivial)) (an (decide_eq_false h3530) trivial)) (an e3626 (an rt (an (ti trivial) trivial)))))))))) (ti trivial)) (Wv.refl _)
      ·have e3627 := (an (not_t (decide_eq_false h3530)) (not_t (decide_eq_false h3601)))
       have e3628 := (ti (ti (ti (an e3597 (an e3598 (an e3599 (an e3600 (an (not_t (decide_eq_false h3601)) (an (not_t (decide_eq_false h3601)) (an (not_t (decide_eq_false h3601)) (an e3627 (an (not_t (decide_eq_false h3530)) (ti (an rt (an rt (an rt (ti (ti (ti (ti (ti (ti (ti (ti (ti (ti (an rt (an rt trivial))))))))))))))))))))))))))))
       injection h with h; subst h
       exact fun_ok pm pn Go.Proofs.Try.func5 (r0 := vb false) (ans := [.reg (nN 3 []), .reg (.call (vb r3497) :: .n :: []), .br false, .reg (arP1_5 r3500 r3503), .br false, .reg (arP1_6 r3509 r3512 r3514 r3516), .reg (arP1_7 r3509 r3514 r3523), .reg (.n :: .call (VV.tu [vi r3527.1, vi r3527.2]) :: nN 5 []), .reg (.n :: .n :: []), .br false, .reg (nN 7 (nS 3 (.b true :: .b true :: .n :: nS 14 (.b true :: [])))), .br true, .reg (.n :: [])]) (fr := true) (by kernel_rfl) (an (an (ti (ti (ti trivial))) (an (an (an (nawake_ok k _ h3498) (ti trivial)) (an (not_f h3499) trivial)) (an (an e3507 (an (decide_eq_false h3508) trivial)) (an e3519 (an e3526 (an (ti (an e3529 (ti (ti (ti (ti (ti trivial))))))) (an (an (ti (ti trivial)) (an (decide_eq_false h3530) trivial)) (an e3628 (an rt (an (ti trivial) trivial)))))))))) (ti trivial)) (Wv.refl _)
   ·have e3629 := (ti (an (nspeculumlaw04_Light_ok k a0 _ h3501) (ti (ti (an (an (not_f h3502) trivial) (an e3505 (an (an (not_f h3502) trivial) (an (not_f h3502) (ti (an (not_t (bool_f h3506)) (an (not_t (bool_f h3506)) (an (not_t (bool_f h3506)) (an (not_t (bool_f h3506)) (an (not_t (bool_f h3506)) trivial))))))))))))))
    injection h with h; subst h
    exact fun_ok pm pn Go.Proofs.Try.func5 (r0 := vb true) (ans := [.reg (nN 3 []), .reg (.call (vb r3497) :: .n :: []), .br false, .reg (arP1_9 r3500 r3503), .br true, .reg (.n :: [])]) (fr := true) (by kernel_rfl) (an (an (ti (ti (ti trivial))) (an (an (an (nawake_ok k _ h3498) (ti trivial)) (an (not_f h3499) trivial)) (an e3629 (an rt (an (ti trivial) trivial))))) (ti trivial)) (Wv.refl _)
  ·have e3630 := (ti (an (nspeculumlaw04_Light_ok k a0 _ h3501) (ti (ti (an (not_t (bool_f h3502)) (an (not_t (bool_f h3502)) (an (not_t (bool_f h3502)) (an (not_t (bool_f h3502)) (ti (an rt (an rt (an rt (an rt (an rt trivial))))))))))))))
   injection h with h; subst h
   exact fun_ok pm pn Go.Proofs.Try.func5 (r0 := vb true) (ans := [.reg (nN 3 []), .reg (.call (vb r3497) :: .n :: []), .br false, .reg (.n :: .call (vb r3500) :: .n :: .n :: nS 3 (.b true :: .n :: nS 4 (.b true :: []))), .br true, .reg (.n :: [])]) (fr := true) (by kernel_rfl) (an (an (ti (ti (ti trivial))) (an (an (an (nawake_ok k _ h3498) (ti trivial)) (an (not_f h3499) trivial)) (an e3630 (an rt (an (ti trivial) trivial))))) (ti trivial)) (Wv.refl _)
 ·injection h with h; subst h
  exact fun_ok pm pn Go.Proofs.Try.func5 (r0 := vb false) (ans := [.reg (nN 3 []), .reg (.call (vb r3497) :: .n :: []), .br true, .reg (.n :: [])]) (fr := true) (by kernel_rfl) (an (an (ti (ti (ti trivial))) (an (an (nawake_ok k _ h3498) (ti trivial)) (an (not_t (bool_f h3499)) (an (ti trivial) trivial)))) (ti trivial)) (Wv.refl _)
end Go.Proofs.Ytbaegoglpijnnab.Vg

import Derived.Test.YtodaannbkfmhfaaWa
namespace Go.Proofs.Ytodaannbkfmhfaa.Vg
set_option maxRecDepth 100000
set_option maxHeartbeats 4000000
set_option linter.unusedVariables false
set_option linter.unusedSimpArgs false
open Go Go.Proofs.Ytodaannbkfmhfaa.Ev Go.Proofs.Ytodaannbkfmhfaa.Vv
open List (flatMap length_cons length_nil length_map length_append map_cons map_nil length_replicate)
def v_26 (x : List Int) : VV := VV.tr (List.map vi x) x.length
def f_26 (x : List Int) : VV := VV.fr (List.map vi x) x.length
theorem still_v_26 (xs : List (List Int)) : (xs.map v_26).all VV.still = true := all_map (fun _ => rfl) xs
theorem unfr_v_26 (xs : List (List Int)) : (xs.map v_26).map unfr = xs.map v_26 := unfr_map (fun _ => rfl) xs
theorem still_f_26 (xs : List (List Int)) : (xs.map f_26).all VV.still = true := all_map (fun _ => rfl) xs
theorem unfr_f_26 (xs : List (List Int)) : (xs.map f_26).map unfr = xs.map v_26 := unfr_map (fun _ => rfl) xs
structure SStroke where
 Name : ByteArray
 Wear : (List Int)
 deriving Inhabited
def c_SStroke (x : SStroke) : List VV := [vs x.Name, VV.tr (List.map vi x.Wear) x.Wear.length]
theorem len_c_SStroke (x : SStroke) : (c_SStroke x).length = 2 := rfl
def g_SStroke (x : SStroke) : List VV := [vs x.Name, VV.fr (List.map vi x.Wear) x.Wear.length]
theorem unfr_c_SStroke (xs : List SStroke) : (xs.flatMap c_SStroke).map unfr = xs.flatMap c_SStroke := unfr_flat2 (fun _ => rfl) xs
theorem unfr_g_SStroke (xs : List SStroke) : (xs.flatMap g_SStroke).map unfr = xs.flatMap c_SStroke := unfr_flat2 (fun _ => rfl) xs
theorem ag3 : isAggT Try.prog 3 = some false := by kernel_rfl
theorem ag4 : isAggT Try.prog 4 = some false := by kernel_rfl
theorem ag9 : isAggT Try.prog 9 = some false := by kernel_rfl
theorem ag22 : isAggT Try.prog 22 = some false := by kernel_rfl
theorem ag26 : isAggT Try.prog 26 = some false := by kernel_rfl
theorem ag37 : isAggT Try.prog 37 = some false := by kernel_rfl
theorem ag62 : isAggT Try.prog 62 = some false := by kernel_rfl
def nspeculumbase_Within (k : Nat) (a0 : Int) (a1 : Int) (a2 : Int) : Option Bool :=
 if a1 <= a0 then (some (decide (a0 <= a2))) else (some false)
theorem nspeculumbase_Within_ok (k : Nat) (a0 : Int) (a1 : Int) (a2 : Int) (r : Bool) (h : nspeculumbase_Within k a0 a1 a2 = some r) : VC Try.prog 6 [vi a0, vi a1, vi a2] (vb r) := by
 unfold nspeculumbase_Within at h
 rcases ifs h with ⟨h104, h⟩ | ⟨h104, h⟩
 ·have e105 := (ti (ti (ti (ti (an (an (decide_eq_true h104) trivial) (an (an (decide_eq_true h104) trivial) (an (an (decide_eq_true h104) trivial) (an (decide_eq_true h104) (ti trivial)))))))))
  injection h with h; subst h
  exact fun_ok pm pn Try.func6 (r0 := vb (decide (a0 <= a2))) (ans := [.reg (.n :: []), .reg (nN 7 (.b true :: .n :: []))]) (fr := true) (by kernel_rfl) (an (an (ti trivial) (an e105 trivial)) (ti trivial)) (Wv.refl _)
 ·have e106 := (ti (ti (ti (ti (an (decide_eq_false h104) (an (decide_eq_false h104) (an (decide_eq_false h104) (an (decide_eq_false h104) (ti trivial)))))))))
  injection h with h; subst h
  exact fun_ok pm pn Try.func6 (r0 := vb false) (ans := [.reg (.n :: []), .reg (nN 4 (nS 3 (.b false :: .n :: [])))]) (fr := true) (by kernel_rfl) (an (an (ti trivial) (an e106 trivial)) (ti trivial)) (Wv.refl _)
def nspeculumref06_isHeight (k : Nat) (a0 : Int) : Option Bool :=
 (nspeculumbase_Within k a0 (-100000) 100000).bind fun r117 => (some r117)
theorem nspeculumref06_isHeight_ok (k : Nat) (a0 : Int) (r : Bool) (h : nspeculumref06_isHeight k a0 = some r) : VC Try.prog 32 [vi a0] (vb r) := by
 unfold nspeculumref06_isHeight at h
 obtain ⟨r117, h118, h⟩ := bs h
 have e119 := (nspeculumbase_Within_ok k a0 (-100000) 100000 _ h118)
 injection h with h; subst h
 exact fun_ok pm pn Try.func32 (r0 := vb r117) (ans := [.reg (.n :: []), .reg (.n :: .call (vb r117) :: .n :: [])]) (fr := true) (by kernel_rfl) (an (an (ti trivial) (an (ti (an e119 (ti trivial))) trivial)) (ti trivial)) (Wv.refl _)
def nspeculumref06_HeightsErr_l0_0_h (a0 : (List Int)) (x3 : Int) : VS := ⟨mkA [(0, VV.tr (List.map vi a0) a0.length), (3, vi x3)], [], .nil⟩
def nspeculumref06_HeightsErr_l0_0_e0 (a0 : (List Int)) (r : Unit) : VS := ⟨mkA [(2, vi 2)], [], .nil⟩
def nspeculumref06_HeightsErr_l0_0_e1 (a0 : (List Int)) (r : Unit) : VS := ⟨mkA [], [], .nil⟩
def nspeculumref06_HeightsErr_l0_0 (k : Nat) (a0 : (List Int)) : Nat -> Int -> Option (Sum Unit Unit)
 | 0, _ => none
 | fuel + 1, x3 => if x3 < (a0.length : Int) then (if 0 <= x3 /\ x3 < (a0.length : Int) then ((nspeculumref06_isHeight k (a0.getD x3.toNat 0)).bind fun r170 => (if r170 = true then (nspeculumref06_HeightsErr_l0_0 k a0 fuel (w64 (x3 + 1))) else (some (.inl ())))) else none) else (some (.inr ()))
theorem nspeculumref06_HeightsErr_l0_0_ok (k : Nat) (a0 : (List Int)) : ∀ (fuel : Nat) (x3 : Int) (r : Sum Unit Unit), nspeculumref06_HeightsErr_l0_0 k a0 fuel x3 = some r -> (match r with | .inl r => VLoop none Try.prog (szF Try.f13) (bodyOf Try.f13 0) (nspeculumref06_HeightsErr_l0_0_h a0 x3) .ret (nspeculumref06_HeightsErr_l0_0_e0 a0 r) | .inr r => VLoop none Try.prog (szF Try.f13) (bodyOf Try.f13 0) (nspeculumref06_HeightsErr_l0_0_h a0 x3) (.exit 0) (nspeculumref06_HeightsErr_l0_0_e1 a0 r)) := by
 intro fuel
 induction fuel with
 | zero => intro x3 r h; rw [nspeculumref06_HeightsErr_l0_0.eq_1] at h; cases h
 | succ fuel ih =>
  intro x3 r h
  rw [nspeculumref06_HeightsErr_l0_0.eq_2] at h
  rcases ifs h with ⟨h167, h⟩ | ⟨h167, h⟩
  ·obtain ⟨h168, h⟩ := ifn h
   have e169 := (show loadL Try.prog 3 (x3.toNat * 1) (List.map vi a0) = some (vi (a0.getD x3.toNat 0)) from ld_map ag3 vi a0 0 h168 (by omega))
   obtain ⟨r170, h171, h⟩ := bs h
   have e172 := (nspeculumref06_isHeight_ok k (a0.getD x3.toNat 0) _ h171)
   have e173 := (ti (ti (an h168 (an e169 (an e172 (ti trivial))))))
   rcases ifs h with ⟨h174, h⟩ | ⟨h174, h⟩
   ·have h2 := ih _ _ h
    obtain ⟨q, hv, hq⟩ := pkR (rd := none) (P := Try.prog) (fn := Try.f13) (k := 0) (s := (nspeculumref06_HeightsErr_l0_0_h a0 x3)) (ans := [.reg (nN 4 []), .br true, .reg (nN 3 (.v (vi (a0.getD x3.toNat 0)) :: .call (vb r170) :: .n :: [])), .br false, .reg (nN 3 [])]) (c := ⟨[(0, none), (3, none)], [], []⟩) (e := .normal) (s1 := (nspeculumref06_HeightsErr_l0_0_h a0 (w64 (x3 + 1)))) (an (an (an (ti (ti (ti (ti trivial)))) (an (decide_eq_true h167) trivial)) (an (an e173 (an (not_f h174) trivial)) (ti (ti (ti trivial))))) (ti trivial)) (by kernel_rfl)
    cases r with
    | inl r => exact round_next pm pn hv hq h2
    | inr r =>
     exact round_next pm pn hv hq h2
   ·injection h with h; subst h
    exact round_stop (c := ⟨[(2, none)], [], []⟩) (s1 := (nspeculumref06_HeightsErr_l0_0_e0 a0 ())) pm pn (ans := [.reg (nN 4 []), .br true, .reg (nN 3 (.v (vi (a0.getD x3.toNat 0)) :: .call (vb r170) :: .n :: [])), .br true, .reg (.n :: [])]) (by kernel_rfl) (by intro e; cases e) (an (an (an (ti (ti (ti (ti trivial)))) (an (decide_eq_true h167) trivial)) (an e173 (an (not_t (bool_f h174)) (an (ti trivial) trivial)))) (ti trivial))
  ·injection h with h; subst h
   exact round_stop (c := ⟨[], [], []⟩) (s1 := (nspeculumref06_HeightsErr_l0_0_e1 a0 ())) pm pn (ans := [.reg (nN 4 []), .br false]) (by kernel_rfl) (by intro e; cases e) (an (an (ti (ti (ti (ti trivial)))) (an (decide_eq_false h167) trivial)) (ti trivial))
def nspeculumref06_HeightsErr (k : Nat) (a0 : (List Int)) : Option Int :=
 (nspeculumbase_Within k (a0.length : Int) 1 40).bind fun r147 => (if r147 = true then ((nspeculumref06_HeightsErr_l0_0 k a0 k 0).bind fun r176 => (match r176 with | .inl r177 => (some 2) | .inr r178 => (some 0))) else (some 10))
theorem nspeculumref06_HeightsErr_ok (k : Nat) (a0 : (List Int)) (r : Int) (h : nspeculumref06_HeightsErr k a0 = some r) : VC Try.prog 13 [VV.tr (List.map vi a0) a0.length] (vi r) := by
 unfold nspeculumref06_HeightsErr at h
 obtain ⟨r147, h148, h⟩ := bs h
 have e149 := (nspeculumbase_Within_ok k (a0.length : Int) 1 40 _ h148)
 rcases ifs h with ⟨h150, h⟩ | ⟨h150, h⟩
 ·obtain ⟨r176, h175, h⟩ := bs h
  have hph175 := nspeculumref06_HeightsErr_l0_0_ok k a0 _ _ _ h175
  cases r176 with
  | inl r177 =>
   dsimp only at h
   have e179 := (an (ti trivial) (VRun.loop hph175))
   injection h with h; subst h
   exact fun_ok pm pn Try.func13 (r0 := vi 2) (ans := [.reg (.n :: []), .reg (.n :: .n :: .call (vb r147) :: .n :: []), .br false, .reg (.n :: []), .sub ⟨[(0, none), (3, none)], [], []⟩ .ret (nspeculumref06_HeightsErr_l0_0_e0 a0 r177)]) (fr := true) (by kernel_rfl) (an (an (ti trivial) (an (an (ti (ti (an e149 (ti trivial)))) (an (not_f h150) trivial)) (an (ti trivial) e179))) (ti trivial)) (Wv.refl _)
  | inr r178 =>
   dsimp only at h
   have e180 := (an (ti trivial) (VRun.loop hph175))
   injection h with h; subst h
   exact fun_ok pm pn Try.func13 (r0 := vi 0) (ans := [.reg (.n :: []), .reg (.n :: .n :: .call (vb r147) :: .n :: []), .br false, .reg (.n :: []), .sub ⟨[(0, none), (3, none)], [], []⟩ (.exit 0) (nspeculumref06_HeightsErr_l0_0_e1 a0 r178), .reg (.n :: [])]) (fr := true) (by kernel_rfl) (an (an (ti trivial) (an (an (ti (ti (an e149 (ti trivial)))) (an (not_f h150) trivial)) (an (an (ti trivial) e180) (an (ti trivial) trivial)))) (ti trivial)) (Wv.refl _)
 ·injection h with h; subst h
  exact fun_ok pm pn Try.func13 (r0 := vi 10) (ans := [.reg (.n :: []), .reg (.n :: .n :: .call (vb r147) :: .n :: []), .br true, .reg (.n :: [])]) (fr := true) (by kernel_rfl) (an (an (ti trivial) (an (ti (ti (an e149 (ti trivial)))) (an (not_t (bool_f h150)) (an (ti trivial) trivial)))) (ti trivial)) (Wv.refl _)
def nspeculumref06_TwoErr (k : Nat) (a0 : (List Int)) (a1 : (List Int)) : Option Int :=
 (nspeculumref06_HeightsErr k a0).bind fun r189 => (if r189 = 0 then (if (a1.length : Int) = (a0.length : Int) then ((nspeculumref06_HeightsErr k a1).bind fun r194 => (some r194)) else (some 10)) else (some r189))
theorem nspeculumref06_TwoErr_ok (k : Nat) (a0 : (List Int)) (a1 : (List Int)) (r : Int) (h : nspeculumref06_TwoErr k a0 a1 = some r) : VC Try.prog 5 [VV.tr (List.map vi a0) a0.length, VV.tr (List.map vi a1) a1.length] (vi r) := by
 unfold nspeculumref06_TwoErr at h
 obtain ⟨r189, h190, h⟩ := bs h
 have e191 := (nspeculumref06_HeightsErr_ok k a0 _ h190)
 rcases ifs h with ⟨h192, h⟩ | ⟨h192, h⟩
 ·rcases ifs h with ⟨h193, h⟩ | ⟨h193, h⟩
  ·obtain ⟨r194, h195, h⟩ := bs h
   have e196 := (nspeculumref06_HeightsErr_ok k a1 _ h195)
   injection h with h; subst h
   exact fun_ok pm pn Try.func5 (r0 := vi r194) (ans := [.reg (.n :: []), .reg (.n :: .call (vi r189) :: .n :: []), .reg (.n :: .n :: []), .br false, .reg (nN 5 []), .br false, .reg (.n :: .call (vi r194) :: .n :: [])]) (fr := true) (by kernel_rfl) (an (an (ti trivial) (an (an (ti (an e191 (ti trivial))) (an (ti (ti trivial)) (an (not_f (decide_eq_true h192)) trivial))) (an (an (ti (ti (ti (ti (ti trivial))))) (an (not_f (decide_eq_true h193)) trivial)) (an (ti (an e196 (ti trivial))) trivial)))) (ti trivial)) (Wv.refl _)
  ·injection h with h; subst h
   exact fun_ok pm pn Try.func5 (r0 := vi 10) (ans := [.reg (.n :: []), .reg (.n :: .call (vi r189) :: .n :: []), .reg (.n :: .n :: []), .br false, .reg (nN 5 []), .br true, .reg (.n :: [])]) (fr := true) (by kernel_rfl) (an (an (ti trivial) (an (an (ti (an e191 (ti trivial))) (an (ti (ti trivial)) (an (not_f (decide_eq_true h192)) trivial))) (an (ti (ti (ti (ti (ti trivial))))) (an (not_t (decide_eq_false h193)) (an (ti trivial) trivial))))) (ti trivial)) (Wv.refl _)
 ·injection h with h; subst h
  exact fun_ok pm pn Try.func5 (r0 := vi r189) (ans := [.reg (.n :: []), .reg (.n :: .call (vi r189) :: .n :: []), .reg (.n :: .n :: []), .br true, .reg (.n :: .n :: [])]) (fr := true) (by kernel_rfl) (an (an (ti trivial) (an (ti (an e191 (ti trivial))) (an (ti (ti trivial)) (an (not_t (decide_eq_false h192)) (an (ti (ti trivial)) trivial))))) (ti trivial)) (Wv.refl _)
def nfigure_isWithin (k : Nat) (a0 : Int) (a1 : Int) (a2 : Int) : Option Bool :=
 if a1 <= a0 then (some (decide (a0 <= a2))) else (some false)
theorem nfigure_isWithin_ok (k : Nat) (a0 : Int) (a1 : Int) (a2 : Int) (r : Bool) (h : nfigure_isWithin k a0 a1 a2 = some r) : VC Try.prog 47 [vi a0, vi a1, vi a2] (vb r) := by
 unfold nfigure_isWithin at h
 rcases ifs h with ⟨h200, h⟩ | ⟨h200, h⟩
 ·have e201 := (ti (ti (ti (ti (an (an (decide_eq_true h200) trivial) (an (an (decide_eq_true h200) trivial) (an (an (decide_eq_true h200) trivial) (an (decide_eq_true h200) (ti trivial)))))))))
  injection h with h; subst h
  exact fun_ok pm pn Try.func47 (r0 := vb (decide (a0 <= a2))) (ans := [.reg (.n :: []), .reg (nN 7 (.b true :: .n :: []))]) (fr := true) (by kernel_rfl) (an (an (ti trivial) (an e201 trivial)) (ti trivial)) (Wv.refl _)
 ·have e202 := (ti (ti (ti (ti (an (decide_eq_false h200) (an (decide_eq_false h200) (an (decide_eq_false h200) (an (decide_eq_false h200) (ti trivial)))))))))
  injection h with h; subst h
  exact fun_ok pm pn Try.func47 (r0 := vb false) (ans := [.reg (.n :: []), .reg (nN 4 (nS 3 (.b false :: .n :: [])))]) (fr := true) (by kernel_rfl) (an (an (ti trivial) (an e202 trivial)) (ti trivial)) (Wv.refl _)
def nfigure_areHeights_l0_0_h (a0 : (List Int)) (x7 : Int) : VS := ⟨mkA [(5, VV.tr (List.map vi a0) a0.length), (6, vi (a0.length : Int)), (7, vi x7)], [], .nil⟩
def nfigure_areHeights_l0_0_e0 (a0 : (List Int)) (r : Unit) : VS := ⟨mkA [(2, vb false)], [], .nil⟩
def nfigure_areHeights_l0_0_e1 (a0 : (List Int)) (r : Unit) : VS := ⟨mkA [], [], .nil⟩
def nfigure_areHeights_l0_0 (k : Nat) (a0 : (List Int)) : Nat -> Int -> Option (Sum Unit Unit)
 | 0, _ => none
 | fuel + 1, x7 => if x7 < (a0.length : Int) then (if 0 <= x7 /\ x7 < (a0.length : Int) then ((nfigure_isWithin k (a0.getD x7.toNat 0) (-100000) 100000).bind fun r251 => (if r251 = true then (nfigure_areHeights_l0_0 k a0 fuel (w64 (x7 + 1))) else (some (.inl ())))) else none) else (some (.inr ()))
theorem nfigure_areHeights_l0_0_ok (k : Nat) (a0 : (List Int)) : ∀ (fuel : Nat) (x7 : Int) (r : Sum Unit Unit), nfigure_areHeights_l0_0 k a0 fuel x7 = some r -> (match r with | .inl r => VLoop none Try.prog (szF Try.f68) (bodyOf Try.f68 0) (nfigure_areHeights_l0_0_h a0 x7) .ret (nfigure_areHeights_l0_0_e0 a0 r) | .inr r => VLoop none Try.prog (szF Try.f68) (bodyOf Try.f68 0) (nfigure_areHeights_l0_0_h a0 x7) (.exit 0) (nfigure_areHeights_l0_0_e1 a0 r)) := by
 intro fuel
 induction fuel with
 | zero => intro x7 r h; rw [nfigure_areHeights_l0_0.eq_1] at h; cases h
 | succ fuel ih =>
  intro x7 r h
  rw [nfigure_areHeights_l0_0.eq_2] at h
  rcases ifs h with ⟨h248, h⟩ | ⟨h248, h⟩
  ·obtain ⟨h249, h⟩ := ifn h
   have e250 := (show loadL Try.prog 3 (x7.toNat * 1) (List.map vi a0) = some (vi (a0.getD x7.toNat 0)) from ld_map ag3 vi a0 0 h249 (by omega))
   obtain ⟨r251, h252, h⟩ := bs h
   have e253 := (nfigure_isWithin_ok k (a0.getD x7.toNat 0) (-100000) 100000 _ h252)
   rcases ifs h with ⟨h254, h⟩ | ⟨h254, h⟩
   ·have h2 := ih _ _ h
    obtain ⟨q, hv, hq⟩ := pkR (rd := none) (P := Try.prog) (fn := Try.f68) (k := 0) (s := (nfigure_areHeights_l0_0_h a0 x7)) (ans := [.reg (.n :: []), .br true, .reg (.n :: .v (vi (a0.getD x7.toNat 0)) :: .n :: []), .reg (.n :: .call (vb r251) :: .n :: []), .br false, .reg (.n :: .n :: [])]) (c := ⟨[(5, none), (6, none), (7, none)], [], []⟩) (e := .normal) (s1 := (nfigure_areHeights_l0_0_h a0 (w64 (x7 + 1)))) (an (an (ti trivial) (an (an (decide_eq_true h248) trivial) (an (an (an h249 (an e250 (ti trivial))) (an (ti (an e253 (ti trivial))) (an (not_f h254) trivial))) (ti (ti trivial))))) (ti trivial)) (by kernel_rfl)
    cases r with
    | inl r => exact round_next pm pn hv hq h2
    | inr r =>
     exact round_next pm pn hv hq h2
   ·injection h with h; subst h
    exact round_stop (c := ⟨[(2, none)], [], []⟩) (s1 := (nfigure_areHeights_l0_0_e0 a0 ())) pm pn (ans := [.reg (.n :: []), .br true, .reg (.n :: .v (vi (a0.getD x7.toNat 0)) :: .n :: []), .reg (.n :: .call (vb r251) :: .n :: []), .br true, .reg (.n :: [])]) (by kernel_rfl) (by intro e; cases e) (an (an (ti trivial) (an (an (decide_eq_true h248) trivial) (an (an h249 (an e250 (ti trivial))) (an (ti (an e253 (ti trivial))) (an (not_t (bool_f h254)) (an (ti trivial) trivial)))))) (ti trivial))
  ·injection h with h; subst h
   exact round_stop (c := ⟨[], [], []⟩) (s1 := (nfigure_areHeights_l0_0_e1 a0 ())) pm pn (ans := [.reg (.n :: []), .br false]) (by kernel_rfl) (by intro e; cases e) (an (an (ti trivial) (an (decide_eq_false h248) trivial)) (ti trivial))
def nfigure_areHeights (k : Nat) (a0 : (List Int)) : Option Bool :=
 (nfigure_areHeights_l0_0 k a0 k 0).bind fun r256 => (match r256 with | .inl r257 => (some false) | .inr r258 => (some true))
theorem nfigure_areHeights_ok (k : Nat) (a0 : (List Int)) (r : Bool) (h : nfigure_areHeights k a0 = some r) : VC Try.prog 68 [VV.tr (List.map vi a0) a0.length] (vb r) := by
 unfold nfigure_areHeights at h
 obtain ⟨r256, h255, h⟩ := bs h
 have hph255 := nfigure_areHeights_l0_0_ok k a0 _ _ _ h255
 cases r256 with
 | inl r257 =>
  dsimp only at h
  have e259 := (an (ti trivial) (VRun.loop hph255))
  injection h with h; subst h
  exact fun_ok pm pn Try.func68 (r0 := vb false) (ans := [.reg (.n :: []), .reg (nN 3 []), .sub ⟨[(5, none), (6, none), (7, none)], [], []⟩ .ret (nfigure_areHeights_l0_0_e0 a0 r257)]) (fr := true) (by kernel_rfl) (an (an (ti trivial) (an (ti (ti (ti trivial))) e259)) (ti trivial)) (Wv.refl _)
 | inr r258 =>
  dsimp only at h
  have e260 := (an (ti trivial) (VRun.loop hph255))
  injection h with h; subst h
  exact fun_ok pm pn Try.func68 (r0 := vb true) (ans := [.reg (.n :: []), .reg (nN 3 []), .sub ⟨[(5, none), (6, none), (7, none)], [], []⟩ (.exit 0) (nfigure_areHeights_l0_0_e1 a0 r258), .reg (.n :: [])]) (fr := true) (by kernel_rfl) (an (an (ti trivial) (an (an (ti (ti (ti trivial))) e260) (an (ti trivial) trivial))) (ti trivial)) (Wv.refl _)
def nfigure_checkHeights (k : Nat) (a0 : (List Int)) : Option Int :=
 (nfigure_isWithin k (a0.length : Int) 1 40).bind fun r265 => (if r265 = true then ((nfigure_areHeights k a0).bind fun r269 => (if r269 = true then (some 0) else (some 2))) else (some 10))
theorem nfigure_checkHeights_ok (k : Nat) (a0 : (List Int)) (r : Int) (h : nfigure_checkHeights k a0 = some r) : VC Try.prog 46 [VV.tr (List.map vi a0) a0.length] (vi r) := by
 unfold nfigure_checkHeights at h
 obtain ⟨r265, h266, h⟩ := bs h
 have e267 := (nfigure_isWithin_ok k (a0.length : Int) 1 40 _ h266)
 rcases ifs h with ⟨h268, h⟩ | ⟨h268, h⟩
 ·obtain ⟨r269, h270, h⟩ := bs h
  have e271 := (ti (an (nfigure_areHeights_ok k a0 _ h270) (ti trivial)))
  rcases ifs h with ⟨h272, h⟩ | ⟨h272, h⟩
  ·injection h with h; subst h
   exact fun_ok pm pn Try.func46 (r0 := vi 0) (ans := [.reg (.n :: []), .reg (.n :: .n :: .call (vb r265) :: .n :: []), .br false, .reg (.n :: .call (vb r269) :: .n :: []), .br false, .reg (.n :: [])]) (fr := true) (by kernel_rfl) (an (an (ti trivial) (an (an (ti (ti (an e267 (ti trivial)))) (an (not_f h268) trivial)) (an (an e271 (an (not_f h272) trivial)) (an (ti trivial) trivial)))) (ti trivial)) (Wv.refl _)
  ·injection h with h; subst h
   exact fun_ok pm pn Try.func46 (r0 := vi 2) (ans := [.reg (.n :: []), .reg (.n :: .n :: .call (vb r265) :: .n :: []), .br false, .reg (.n :: .call (vb r269) :: .n :: []), .br true, .reg (.n :: [])]) (fr := true) (by kernel_rfl) (an (an (ti trivial) (an (an (ti (ti (an e267 (ti trivial)))) (an (not_f h268) trivial)) (an e271 (an (not_t (bool_f h272)) (an (ti trivial) trivial))))) (ti trivial)) (Wv.refl _)
 ·injection h with h; subst h
  exact fun_ok pm pn Try.func46 (r0 := vi 10) (ans := [.reg (.n :: []), .reg (.n :: .n :: .call (vb r265) :: .n :: []), .br true, .reg (.n :: [])]) (fr := true) (by kernel_rfl) (an (an (ti trivial) (an (ti (ti (an e267 (ti trivial)))) (an (not_t (bool_f h268)) (an (ti trivial) trivial)))) (ti trivial)) (Wv.refl _)
def nfigure_checkWanted (k : Nat) (a0 : (List Int)) (a1 : (List Int)) : Option Int :=
 (nfigure_checkHeights k a0).bind fun r281 => (if r281 = 0 then (if (a1.length : Int) = (a0.length : Int) then ((nfigure_checkHeights k a1).bind fun r286 => (some r286)) else (some 10)) else (some r281))
theorem nfigure_checkWanted_ok (k : Nat) (a0 : (List Int)) (a1 : (List Int)) (r : Int) (h : nfigure_checkWanted k a0 a1 = some r) : VC Try.prog 22 [VV.tr (List.map vi a0) a0.length, VV.tr (List.map vi a1) a1.length] (vi r) := by
 unfold nfigure_checkWanted at h
 obtain ⟨r281, h282, h⟩ := bs h
 have e283 := (ti (an (nfigure_checkHeights_ok k a0 _ h282) (ti trivial)))
 rcases ifs h with ⟨h284, h⟩ | ⟨h284, h⟩
 ·rcases ifs h with ⟨h285, h⟩ | ⟨h285, h⟩
  ·obtain ⟨r286, h287, h⟩ := bs h
   have e288 := (ti (an (nfigure_checkHeights_ok k a1 _ h287) (ti trivial)))
   injection h with h; subst h
   exact fun_ok pm pn Try.func22 (r0 := vi r286) (ans := [.reg (.n :: []), .reg (.n :: .call (vi r281) :: .n :: []), .reg (.n :: .n :: []), .br false, .reg (nN 5 []), .br false, .reg (.n :: .call (vi r286) :: .n :: [])]) (fr := true) (by kernel_rfl) (an (an (ti trivial) (an (an e283 (an (ti (ti trivial)) (an (not_f (decide_eq_true h284)) trivial))) (an (an (ti (ti (ti (ti (ti trivial))))) (an (not_f (decide_eq_true h285)) trivial)) (an e288 trivial)))) (ti trivial)) (Wv.refl _)
  ·injection h with h; subst h
   exact fun_ok pm pn Try.func22 (r0 := vi 10) (ans := [.reg (.n :: []), .reg (.n :: .call (vi r281) :: .n :: []), .reg (.n :: .n :: []), .br false, .reg (nN 5 []), .br true, .reg (.n :: [])]) (fr := true) (by kernel_rfl) (an (an (ti trivial) (an (an e283 (an (ti (ti trivial)) (an (not_f (decide_eq_true h284)) trivial))) (an (ti (ti (ti (ti (ti trivial))))) (an (not_t (decide_eq_false h285)) (an (ti trivial) trivial))))) (ti trivial)) (Wv.refl _)
 ·injection h with h; subst h
  exact fun_ok pm pn Try.func22 (r0 := vi r281) (ans := [.reg (.n :: []), .reg (.n :: .call (vi r281) :: .n :: []), .reg (.n :: .n :: []), .br true, .reg (.n :: .n :: [])]) (fr := true) (by kernel_rfl) (an (an (ti trivial) (an e283 (an (ti (ti trivial)) (an (not_t (decide_eq_false h284)) (an (ti (ti trivial)) trivial))))) (ti trivial)) (Wv.refl _)
def nfigure_isBelow_l0_0_h (a0 : (List Int)) (a1 : (List Int)) (x9 : Int) : VS := ⟨mkA [(1, VV.tr (List.map vi a1) a1.length), (7, VV.tr (List.map vi a0) a0.length), (8, vi (a0.length : Int)), (9, vi x9)], [], .nil⟩
def nfigure_isBelow_l0_0_e0 (a0 : (List Int)) (a1 : (List Int)) (r : Unit) : VS := ⟨mkA [(4, vb true)], [], .nil⟩
def nfigure_isBelow_l0_0_e1 (a0 : (List Int)) (a1 : (List Int)) (r : Unit) : VS := ⟨mkA [], [], .nil⟩
def nfigure_isBelow_l0_0 (k : Nat) (a0 : (List Int)) (a1 : (List Int)) : Nat -> Int -> Option (Sum Unit Unit)
 | 0, _ => none
 | fuel + 1, x9 => if x9 < (a0.length : Int) then (if 0 <= x9 /\ x9 < (a0.length : Int) then (if 0 <= x9 /\ x9 < (a1.length : Int) then (if (a0.getD x9.toNat 0) < (a1.getD x9.toNat 0) then (some (.inl ())) else (nfigure_isBelow_l0_0 k a0 a1 fuel (w64 (x9 + 1)))) else none) else none) else (some (.inr ()))
theorem nfigure_isBelow_l0_0_ok (k : Nat) (a0 : (List Int)) (a1 : (List Int)) : ∀ (fuel : Nat) (x9 : Int) (r : Sum Unit Unit), nfigure_isBelow_l0_0 k a0 a1 fuel x9 = some r -> (match r with | .inl r => VLoop none Try.prog (szF Try.f23) (bodyOf Try.f23 0) (nfigure_isBelow_l0_0_h a0 a1 x9) .ret (nfigure_isBelow_l0_0_e0 a0 a1 r) | .inr r => VLoop none Try.prog (szF Try.f23) (bodyOf Try.f23 0) (nfigure_isBelow_l0_0_h a0 a1 x9) (.exit 0) (nfigure_isBelow_l0_0_e1 a0 a1 r)) := by
 intro fuel
 induction fuel with
 | zero => intro x9 r h; rw [nfigure_isBelow_l0_0.eq_1] at h; cases h
 | succ fuel ih =>
  intro x9 r h
  rw [nfigure_isBelow_l0_0.eq_2] at h
  rcases ifs h with ⟨h330, h⟩ | ⟨h330, h⟩
  ·obtain ⟨h331, h⟩ := ifn h
   have e332 := (show loadL Try.prog 3 (x9.toNat * 1) (List.map vi a0) = some (vi (a0.getD x9.toNat 0)) from ld_map ag3 vi a0 0 h331 (by omega))
   obtain ⟨h333, h⟩ := ifn h
   have e334 := (show loadL Try.prog 3 (x9.toNat * 1) (List.map vi a1) = some (vi (a1.getD x9.toNat 0)) from ld_map ag3 vi a1 0 h333 (by omega))
   rcases ifs h with ⟨h335, h⟩ | ⟨h335, h⟩
   ·injection h with h; subst h
    exact round_stop (c := ⟨[(4, none)], [], []⟩) (s1 := (nfigure_isBelow_l0_0_e0 a0 a1 ())) pm pn (ans := [.reg (.n :: []), .br true, .reg (.n :: .n :: .v (vi (a0.getD x9.toNat 0)) :: .n :: .n :: []), .reg (nN 4 (.v (vi (a1.getD x9.toNat 0)) :: .n :: [])), .br true, .reg (.n :: [])]) (by kernel_rfl) (by intro e; cases e) (an (an (ti trivial) (an (an (decide_eq_true h330) trivial) (an (ti (an h331 (an e332 (ti (ti trivial))))) (an (ti (ti (ti (an h333 (an e334 (ti trivial)))))) (an (decide_eq_true h335) (an (ti trivial) trivial)))))) (ti trivial))
   ·have h2 := ih _ _ h
    obtain ⟨q, hv, hq⟩ := pkR (rd := none) (P := Try.prog) (fn := Try.f23) (k := 0) (s := (nfigure_isBelow_l0_0_h a0 a1 x9)) (ans := [.reg (.n :: []), .br true, .reg (.n :: .n :: .v (vi (a0.getD x9.toNat 0)) :: .n :: .n :: []), .reg (nN 4 (.v (vi (a1.getD x9.toNat 0)) :: .n :: [])), .br false, .reg (.n :: .n :: [])]) (c := ⟨[(1, none), (7, none), (8, none), (9, none)], [], []⟩) (e := .normal) (s1 := (nfigure_isBelow_l0_0_h a0 a1 (w64 (x9 + 1)))) (an (an (ti trivial) (an (an (decide_eq_true h330) trivial) (an (an (ti (an h331 (an e332 (ti (ti trivial))))) (an (ti (ti (ti (an h333 (an e334 (ti trivial)))))) (an (decide_eq_false h335) trivial))) (ti (ti trivial))))) (ti trivial)) (by kernel_rfl)
    cases r with
    | inl r => exact round_next pm pn hv hq h2
    | inr r =>
     exact round_next pm pn hv hq h2
  ·injection h with h; subst h
   exact round_stop (c := ⟨[], [], []⟩) (s1 := (nfigure_isBelow_l0_0_e1 a0 a1 ())) pm pn (ans := [.reg (.n :: []), .br false]) (by kernel_rfl) (by intro e; cases e) (an (an (ti trivial) (an (decide_eq_false h330) trivial)) (ti trivial))
def nfigure_isBelow (k : Nat) (a0 : (List Int)) (a1 : (List Int)) : Option Bool :=
 (nfigure_isBelow_l0_0 k a0 a1 k 0).bind fun r337 => (match r337 with | .inl r338 => (some true) | .inr r339 => (some false))
theorem nfigure_isBelow_ok (k : Nat) (a0 : (List Int)) (a1 : (List Int)) (r : Bool) (h : nfigure_isBelow k a0 a1 = some r) : VC Try.prog 23 [VV.tr (List.map vi a0) a0.length, VV.tr (List.map vi a1) a1.length] (vb r) := by
 unfold nfigure_isBelow at h
 obtain ⟨r337, h336, h⟩ := bs h
 have hph336 := nfigure_isBelow_l0_0_ok k a0 a1 _ _ _ h336
 cases r337 with
 | inl r338 =>
  dsimp only at h
  have e340 := (an (ti trivial) (VRun.loop hph336))
  injection h with h; subst h
  exact fun_ok pm pn Try.func23 (r0 := vb true) (ans := [.reg (.n :: []), .reg (nN 3 []), .sub ⟨[(1, none), (7, none), (8, none), (9, none)], [], []⟩ .ret (nfigure_isBelow_l0_0_e0 a0 a1 r338)]) (fr := true) (by kernel_rfl) (an (an (ti trivial) (an (ti (ti (ti trivial))) e340)) (ti trivial)) (Wv.refl _)
 | inr r339 =>
  dsimp only at h
  have e341 := (an (ti trivial) (VRun.loop hph336))
  injection h with h; subst h
  exact fun_ok pm pn Try.func23 (r0 := vb false) (ans := [.reg (.n :: []), .reg (nN 3 []), .sub ⟨[(1, none), (7, none), (8, none), (9, none)], [], []⟩ (.exit 0) (nfigure_isBelow_l0_0_e1 a0 a1 r339), .reg (.n :: [])]) (fr := true) (by kernel_rfl) (an (an (ti trivial) (an (an (ti (ti (ti trivial))) e341) (an (ti trivial) trivial))) (ti trivial)) (Wv.refl _)
def nfigure_checkWear_l0_0_h (a1 : (List Int)) (x14 : Int) : VS := ⟨mkA [(12, VV.tr (List.map vi a1) a1.length), (13, vi (a1.length : Int)), (14, vi x14)], [], .nil⟩
def nfigure_checkWear_l0_0_e0 (a1 : (List Int)) (r : Unit) : VS := ⟨mkA [(4, vi 2)], [], .nil⟩
def nfigure_checkWear_l0_0_e1 (a1 : (List Int)) (r : Unit) : VS := ⟨mkA [], [], .nil⟩
def nfigure_checkWear_l0_0 (k : Nat) (a1 : (List Int)) : Nat -> Int -> Option (Sum Unit Unit)
 | 0, _ => none
 | fuel + 1, x14 => if x14 < (a1.length : Int) then (if 0 <= x14 /\ x14 < (a1.length : Int) then ((nfigure_isWithin k (a1.getD x14.toNat 0) 0 100000).bind fun r395 => (if r395 = true then (nfigure_checkWear_l0_0 k a1 fuel (w64 (x14 + 1))) else (some (.inl ())))) else none) else (some (.inr ()))
theorem nfigure_checkWear_l0_0_ok (k : Nat) (a1 : (List Int)) : ∀ (fuel : Nat) (x14 : Int) (r : Sum Unit Unit), nfigure_checkWear_l0_0 k a1 fuel x14 = some r -> (match r with | .inl r => VLoop none Try.prog (szF Try.f24) (bodyOf Try.f24 0) (nfigure_checkWear_l0_0_h a1 x14) .ret (nfigure_checkWear_l0_0_e0 a1 r) | .inr r => VLoop none Try.prog (szF Try.f24) (bodyOf Try.f24 0) (nfigure_checkWear_l0_0_h a1 x14) (.exit 0) (nfigure_checkWear_l0_0_e1 a1 r)) := by
 intro fuel
 induction fuel with
 | zero => intro x14 r h; rw [nfigure_checkWear_l0_0.eq_1] at h; cases h
 | succ fuel ih =>
  intro x14 r h
  rw [nfigure_checkWear_l0_0.eq_2] at h
  rcases ifs h with ⟨h392, h⟩ | ⟨h392, h⟩
  ·obtain ⟨h393, h⟩ := ifn h
   have e394 := (show loadL Try.prog 3 (x14.toNat * 1) (List.map vi a1) = some (vi (a1.getD x14.toNat 0)) from ld_map ag3 vi a1 0 h393 (by omega))
   obtain ⟨r395, h396, h⟩ := bs h
   have e397 := (nfigure_isWithin_ok k (a1.getD x14.toNat 0) 0 100000 _ h396)
   rcases ifs h with ⟨h398, h⟩ | ⟨h398, h⟩
   ·have h2 := ih _ _ h
    obtain ⟨q, hv, hq⟩ := pkR (rd := none) (P := Try.prog) (fn := Try.f24) (k := 0) (s := (nfigure_checkWear_l0_0_h a1 x14)) (ans := [.reg (.n :: []), .br true, .reg (.n :: .v (vi (a1.getD x14.toNat 0)) :: .n :: []), .reg (.n :: .call (vb r395) :: .n :: []), .br false, .reg (.n :: .n :: [])]) (c := ⟨[(12, none), (13, none), (14, none)], [], []⟩) (e := .normal) (s1 := (nfigure_checkWear_l0_0_h a1 (w64 (x14 + 1)))) (an (an (ti trivial) (an (an (decide_eq_true h392) trivial) (an (an (an h393 (an e394 (ti trivial))) (an (ti (an e397 (ti trivial))) (an (not_f h398) trivial))) (ti (ti trivial))))) (ti trivial)) (by kernel_rfl)
    cases r with
    | inl r => exact round_next pm pn hv hq h2
    | inr r =>
     exact round_next pm pn hv hq h2
   ·injection h with h; subst h
    exact round_stop (c := ⟨[(4, none)], [], []⟩) (s1 := (nfigure_checkWear_l0_0_e0 a1 ())) pm pn (ans := [.reg (.n :: []), .br true, .reg (.n :: .v (vi (a1.getD x14.toNat 0)) :: .n :: []), .reg (.n :: .call (vb r395) :: .n :: []), .br true, .reg (.n :: [])]) (by kernel_rfl) (by intro e; cases e) (an (an (ti trivial) (an (an (decide_eq_true h392) trivial) (an (an h393 (an e394 (ti trivial))) (an (ti (an e397 (ti trivial))) (an (not_t (bool_f h398)) (an (ti trivial) trivial)))))) (ti trivial))
  ·injection h with h; subst h
   exact round_stop (c := ⟨[], [], []⟩) (s1 := (nfigure_checkWear_l0_0_e1 a1 ())) pm pn (ans := [.reg (.n :: []), .br false]) (by kernel_rfl) (by intro e; cases e) (an (an (ti trivial) (an (decide_eq_false h392) trivial)) (ti trivial))
def nfigure_checkWear (k : Nat) (a0 : (List Int)) (a1 : (List Int)) : Option Int :=
 if (a1.length : Int) = (a0.length : Int) then ((nfigure_checkWear_l0_0 k a1 k 0).bind fun r400 => (match r400 with | .inl r401 => (some 2) | .inr r402 => (some 0))) else (some 10)
theorem nfigure_checkWear_ok (k : Nat) (a0 : (List Int)) (a1 : (List Int)) (r : Int) (h : nfigure_checkWear k a0 a1 = some r) : VC Try.prog 24 [VV.tr (List.map vi a0) a0.length, VV.tr (List.map vi a1) a1.length] (vi r) := by
 unfold nfigure_checkWear at h
 rcases ifs h with ⟨h377, h⟩ | ⟨h377, h⟩
 ·obtain ⟨r400, h399, h⟩ := bs h
  have hph399 := nfigure_checkWear_l0_0_ok k a1 _ _ _ h399
  cases r400 with
  | inl r401 =>
   dsimp only at h
   have e403 := (an (ti trivial) (VRun.loop hph399))
   injection h with h; subst h
   exact fun_ok pm pn Try.func24 (r0 := vi 2) (ans := [.reg (.n :: []), .reg (nN 5 []), .br false, .reg (nN 3 []), .sub ⟨[(12, none), (13, none), (14, none)], [], []⟩ .ret (nfigure_checkWear_l0_0_e0 a1 r401)]) (fr := true) (by kernel_rfl) (an (an (ti trivial) (an (an (ti (ti (ti (ti (ti trivial))))) (an (not_f (decide_eq_true h377)) trivial)) (an (ti (ti (ti trivial))) e403))) (ti trivial)) (Wv.refl _)
  | inr r402 =>
   dsimp only at h
   have e404 := (an (ti trivial) (VRun.loop hph399))
   injection h with h; subst h
   exact fun_ok pm pn Try.func24 (r0 := vi 0) (ans := [.reg (.n :: []), .reg (nN 5 []), .br false, .reg (nN 3 []), .sub ⟨[(12, none), (13, none), (14, none)], [], []⟩ (.exit 0) (nfigure_checkWear_l0_0_e1 a1 r402), .reg (.n :: [])]) (fr := true) (by kernel_rfl) (an (an (ti trivial) (an (an (ti (ti (ti (ti (ti trivial))))) (an (not_f (decide_eq_true h377)) trivial)) (an (an (ti (ti (ti trivial))) e404) (an (ti trivial) trivial)))) (ti trivial)) (Wv.refl _)
 ·injection h with h; subst h
  exact fun_ok pm pn Try.func24 (r0 := vi 10) (ans := [.reg (.n :: []), .reg (nN 5 []), .br true, .reg (.n :: [])]) (fr := true) (by kernel_rfl) (an (an (ti trivial) (an (ti (ti (ti (ti (ti trivial))))) (an (not_t (decide_eq_false h377)) (an (ti trivial) trivial)))) (ti trivial)) (Wv.refl _)
def nfigure_worn_l0_0_h (a0 : (List Int)) (a1 : (List Int)) (y0 : List Int) (x13 : Int) : VS := ⟨mkA [(1, VV.tr (List.map vi a1) a1.length), (5, VV.rf 0 0 y0.length), (11, VV.tr (List.map vi a0) a0.length), (12, vi (a0.length : Int)), (13, vi x13)], [some ⟨false, 1, List.map vi y0⟩], .nil⟩
def nfigure_worn_l0_0_e0 (a0 : (List Int)) (a1 : (List Int)) (r : (List Int)) : VS := ⟨mkA [(5, VV.rf 0 0 r.length)], [some ⟨false, 1, List.map vi r⟩], .nil⟩
def nfigure_worn_l0_0 (k : Nat) (a0 : (List Int)) (a1 : (List Int)) : Nat -> (List Int) -> Int -> Option ((List Int))
 | 0, _, _ => none
 | fuel + 1, y0, x13 => if x13 < (a0.length : Int) then (if 0 <= x13 /\ x13 < (a0.length : Int) then (if 0 <= x13 /\ x13 < (a1.length : Int) then (if 0 <= x13 /\ x13 < (y0.length : Int) then (nfigure_worn_l0_0 k a0 a1 fuel (y0.set x13.toNat (w64 ((a0.getD x13.toNat 0) - (a1.getD x13.toNat 0)))) (w64 (x13 + 1))) else none) else none) else none) else (some y0)
theorem nfigure_worn_l0_0_ok (k : Nat) (a0 : (List Int)) (a1 : (List Int)) : ∀ (fuel : Nat) (y0 : List Int) (x13 : Int) (r : (List Int)), nfigure_worn_l0_0 k a0 a1 fuel y0 x13 = some r -> (VLoop none Try.prog (szF Try.f25) (bodyOf Try.f25 0) (nfigure_worn_l0_0_h a0 a1 y0 x13) (.exit 0) (nfigure_worn_l0_0_e0 a0 a1 r)) := by
 intro fuel
 induction fuel with
 | zero => intro y0 x13 r h; rw [nfigure_worn_l0_0.eq_1] at h; cases h
 | succ fuel ih =>
  intro y0 x13 r h
  rw [nfigure_worn_l0_0.eq_2] at h
  rcases ifs h with ⟨h460, h⟩ | ⟨h460, h⟩
  ·obtain ⟨h461, h⟩ := ifn h
   have e462 := (show loadL Try.prog 3 (x13.toNat * 1) (List.map vi a0) = some (vi (a0.getD x13.toNat 0)) from ld_map ag3 vi a0 0 h461 (by omega))
   obtain ⟨h463, h⟩ := ifn h
   have e464 := (show loadL Try.prog 3 (x13.toNat * 1) (List.map vi a1) = some (vi (a1.getD x13.toNat 0)) from ld_map ag3 vi a1 0 h463 (by omega))
   obtain ⟨h465, h⟩ := ifn h
   have e466 := (show (0 + x13.toNat * 1) + 1 <= List.length (List.map vi y0) from (by simp only [length_map]; omega))
   have e467 := (ti (ti (ti (ti (ti (an h463 (an e464 (ti (an h465 (an e466 trivial))))))))))
   have h2 := ih _ _ _ h
   obtain ⟨q, hv, hq⟩ := pkR (rd := none) (P := Try.prog) (fn := Try.f25) (k := 0) (s := (nfigure_worn_l0_0_h a0 a1 y0 x13)) (ans := [.reg (.n :: []), .br true, .reg (.n :: .n :: .v (vi (a0.getD x13.toNat 0)) :: .n :: .n :: []), .reg (nN 6 (.v (vi (a1.getD x13.toNat 0)) :: nN 3 [])), .reg (.n :: .n :: [])]) (c := ⟨[(1, none), (5, some (VV.rf 0 0 ((y0.set x13.toNat (w64 ((a0.getD x13.toNat 0) - (a1.getD x13.toNat 0)))).length))), (11, none), (12, none), (13, none)], [some (List.map vi (y0.set x13.toNat (w64 ((a0.getD x13.toNat 0) - (a1.getD x13.toNat 0)))))], []⟩) (e := .normal) (s1 := (nfigure_worn_l0_0_h a0 a1 (y0.set x13.toNat (w64 ((a0.getD x13.toNat 0) - (a1.getD x13.toNat 0)))) (w64 (x13 + 1)))) (an (an (ti trivial) (an (an (decide_eq_true h460) trivial) (an (an (ti (an h461 (an e462 (ti (ti trivial))))) e467) (ti (ti trivial))))) (an (an (show Wv (VV.rf 0 0 y0.length) (VV.rf 0 0 ((y0.set x13.toNat (w64 ((a0.getD x13.toNat 0) - (a1.getD x13.toNat 0)))).length)) from (Wv.of_eq (by simp))) trivial) (an (show putT (0 + x13.toNat * 1) (List.map vi y0) [vi (w64 ((a0.getD x13.toNat 0) - (a1.getD x13.toNat 0)))] = List.map vi (y0.set x13.toNat (w64 ((a0.getD x13.toNat 0) - (a1.getD x13.toNat 0)))) from (by exact putT_vi y0 h465 (w64 ((a0.getD x13.toNat 0) - (a1.getD x13.toNat 0))) (by omega))) trivial))) (by kernel_rfl)
   exact round_next pm pn hv hq h2
  ·injection h with h; subst h
   exact round_stop (c := ⟨[(5, none)], [none], []⟩) (s1 := (nfigure_worn_l0_0_e0 a0 a1 y0)) pm pn (ans := [.reg (.n :: []), .br false]) (by kernel_rfl) (by intro e; cases e) (an (an (ti trivial) (an (decide_eq_false h460) trivial)) (ti trivial))
theorem eqN0_0 (z0 : (List Int)) : VV.fw 1 (List.drop 0 (List.map unfr (List.map vi z0))) z0.length = VV.fw 1 (List.map vi z0) z0.length := by first | rfl | (simp only [drop0, unfr_vi, map_cons, map_nil, un_i, length_map]; done) | (simp only [drop0, unfr_vi, map_cons, map_nil, un_i, length_map]; rfl) | (simp only [drop0, unfr_vi, map_cons, map_nil, un_i, length_map, length_cons, length_nil, length_append]; done)
def nfigure_worn (k : Nat) (a0 : (List Int)) (a1 : (List Int)) : Option (List Int) :=
 if 0 <= (a0.length : Int) /\ (a0.length : Int) <= 1000000000 then ((nfigure_worn_l0_0 k a0 a1 k (List.replicate (a0.length : Int).toNat (0 : Int)) 0).bind fun r469 => (some r469)) else none
theorem nfigure_worn_ok (k : Nat) (a0 : (List Int)) (a1 : (List Int)) (r : (List Int)) (h : nfigure_worn k a0 a1 = some r) : VC Try.prog 25 [VV.tr (List.map vi a0) a0.length, VV.tr (List.map vi a1) a1.length] (VV.fw 1 (List.map vi r) r.length) := by
 unfold nfigure_worn at h
 obtain ⟨h440, h⟩ := ifn h
 have e441 := (show 0 <= (a0.length : Int) /\ (a0.length : Int) = (a0.length : Int) /\ (8 * (a0.length : Int).toNat) <= 281474976710656 /\ (a0.length : Int) < 1099511627776 from ⟨by omega, rfl, by omega, by omega⟩)
 obtain ⟨r469, h468, h⟩ := bs h
 have hph468 := nfigure_worn_l0_0_ok k a0 a1 _ _ _ _ h468
 have e470 := (an (an (an (show Wv (VV.rf 0 0 ((a0.length : Int).toNat)) (VV.rf 0 0 ((List.replicate (a0.length : Int).toNat (0 : Int)).length)) from (Wv.of_eq (by simp))) trivial) (an (show List.replicate (a0.length : Int).toNat (VV.c (.int .i64 0)) = List.map vi (List.replicate (a0.length : Int).toNat (0 : Int)) from replicate_vi _) trivial)) (VRun.loop hph468))
 injection h with h; subst h
 exact fun_ok pm pn Try.func25 (r0 := VV.fw 1 (List.drop 0 (List.map unfr (List.map vi r469))) r469.length) (ans := [.reg (.n :: []), .reg (nN 4 []), .reg (nN 3 []), .sub ⟨[(1, none), (5, some (VV.rf 0 0 ((List.replicate (a0.length : Int).toNat (0 : Int)).length))), (11, none), (12, none), (13, none)], [some (List.map vi (List.replicate (a0.length : Int).toNat (0 : Int)))], []⟩ (.exit 0) (nfigure_worn_l0_0_e0 a0 a1 r469), .reg (.n :: .n :: [])]) (fr := true) (by kernel_rfl) (an (an (ti trivial) (an (ti (ti (an e441 (ti trivial)))) (an (an (ti (ti (ti trivial))) e470) (an (ti (ti trivial)) trivial)))) (an (show List.all (List.map vi r469) new0 = true from (by exact new0_vi _)) trivial)) (Wv.of_eq (eqN0_0 r469))
def arN0_0 (z0 : (List (List Int))) (z1 : Int) : List Ans := (.n :: .n :: .v (VV.tr (List.map vi (z0.getD z1.toNat default)) ((z0.getD z1.toNat default).length)) :: .n :: .n :: [])
def nfigure_CheckSessions_l0_0_h (a0 : (List Int)) (a1 : (List Int)) (a2 : (List (List Int))) (x28 : Int) (x9 : (List Int)) : VS := ⟨mkA [(0, VV.tr (List.map vi a0) a0.length), (1, VV.tr (List.map vi a1) a1.length), (9, VV.tr (List.map vi x9) x9.length), (26, VV.tr (List.map v_26 a2) a2.length), (27, vi (a2.length : Int)), (28, vi x28)], [], .nil⟩
def nfigure_CheckSessions_l0_0_e0 (a0 : (List Int)) (a1 : (List Int)) (a2 : (List (List Int))) (r : Int × Int) : VS := ⟨mkA [(6, vi r.1), (7, vi r.2)], [], .nil⟩
def nfigure_CheckSessions_l0_0_e1 (a0 : (List Int)) (a1 : (List Int)) (a2 : (List (List Int))) (r : Unit) : VS := ⟨mkA [], [], .nil⟩
def nfigure_CheckSessions_l0_0 (k : Nat) (a0 : (List Int)) (a1 : (List Int)) (a2 : (List (List Int))) : Nat -> Int -> (List Int) -> Option (Sum (Int × Int) Unit)
 | 0, _, _ => none
 | fuel + 1, x28, x9 => if x28 < (a2.length : Int) then (if 0 <= x28 /\ x28 < (a2.length : Int) then ((nfigure_checkWear k a0 (a2.getD x28.toNat default)).bind fun r552 => (if r552 = 0 then ((nfigure_worn k x9 (a2.getD x28.toNat default)).bind fun r556 => ((nfigure_isBelow k r556 a1).bind fun r559 => (if r559 = true then (some (.inl (x28, 26))) else (nfigure_CheckSessions_l0_0 k a0 a1 a2 fuel (w64 (x28 + 1)) r556)))) else (some (.inl (x28, r552))))) else none) else (some (.inr ()))
theorem nfigure_CheckSessions_l0_0_ok (k : Nat) (a0 : (List Int)) (a1 : (List Int)) (a2 : (List (List Int))) : ∀ (fuel : Nat) (x28 : Int) (x9 : (List Int)) (r : Sum (Int × Int) Unit), nfigure_CheckSessions_l0_0 k a0 a1 a2 fuel x28 x9 = some r -> (match r with | .inl r => VLoop none Try.prog (szF Try.f9) (bodyOf Try.f9 0) (nfigure_CheckSessions_l0_0_h a0 a1 a2 x28 x9) .ret (nfigure_CheckSessions_l0_0_e0 a0 a1 a2 r) | .inr r => VLoop none Try.prog (szF Try.f9) (bodyOf Try.f9 0) (nfigure_CheckSessions_l0_0_h a0 a1 a2 x28 x9) (.exit 0) (nfigure_CheckSessions_l0_0_e1 a0 a1 a2 r)) := by
 intro fuel
 induction fuel with
 | zero => intro x28 x9 r h; rw [nfigure_CheckSessions_l0_0.eq_1] at h; cases h
 | succ fuel ih =>
  intro x28 x9 r h
  rw [nfigure_CheckSessions_l0_0.eq_2] at h
  rcases ifs h with ⟨h549, h⟩ | ⟨h549, h⟩
  ·obtain ⟨h550, h⟩ := ifn h
   have e551 := (show loadL Try.prog 26 (x28.toNat * 1) (List.map v_26 a2) = some (VV.tr (List.map vi (a2.getD x28.toNat default)) ((a2.getD x28.toNat default).length)) from ld_map ag26 v_26 a2 default h550 (by omega))
   obtain ⟨r552, h553, h⟩ := bs h
   have e554 := (nfigure_checkWear_ok k a0 (a2.getD x28.toNat default) _ h553)
   rcases ifs h with ⟨h555, h⟩ | ⟨h555, h⟩
   ·obtain ⟨r556, h557, h⟩ := bs h
    have e558 := (show VC Try.prog 25 [VV.tr (List.map vi x9) x9.length, VV.tr (List.map vi (a2.getD x28.toNat default)) ((a2.getD x28.toNat default).length)] (VV.fr (List.map vi r556) r556.length) from (VC.weak (nfigure_worn_ok k x9 (a2.getD x28.toNat default) _ h557) (Wv.fw rfl rfl)))
    obtain ⟨r559, h560, h⟩ := bs h
    have e561 := (ti (ti (an (nfigure_isBelow_ok k r556 a1 _ h560) trivial)))
    rcases ifs h with ⟨h562, h⟩ | ⟨h562, h⟩
    ·injection h with h; subst h
     exact round_stop (c := ⟨[(6, none), (7, none)], [], []⟩) (s1 := (nfigure_CheckSessions_l0_0_e0 a0 a1 a2 (x28, 26))) pm pn (ans := [.reg (.n :: []), .br true, .reg (arN0_0 a2 x28), .reg (.n :: .n :: .call (vi r552) :: .n :: []), .reg (.n :: .n :: []), .br false, .reg (.n :: .n :: .call (VV.fr (List.map vi r556) r556.length) :: .n :: []), .reg (.n :: .n :: .call (vb r559) :: []), .br true, .reg (nN 3 [])]) (by kernel_rfl) (by intro e; cases e) (an (an (ti trivial) (an (an (decide_eq_true h549) trivial) (an (ti (an h550 (an e551 (ti (ti trivial))))) (an (an (ti (ti (an e554 (ti trivial)))) (an (ti (ti trivial)) (an (not_f (decide_eq_true h555)) trivial))) (an (ti (ti (an e558 (ti trivial)))) (an e561 (an h562 (an (ti (ti (ti trivial))) trivial)))))))) (ti trivial))
    ·have h2 := ih _ _ _ h
     obtain ⟨q, hv, hq⟩ := pkR (rd := none) (P := Try.prog) (fn := Try.f9) (k := 0) (s := (nfigure_CheckSessions_l0_0_h a0 a1 a2 x28 x9)) (ans := [.reg (.n :: []), .br true, .reg (arN0_0 a2 x28), .reg (.n :: .n :: .call (vi r552) :: .n :: []), .reg (.n :: .n :: []), .br false, .reg (.n :: .n :: .call (VV.fr (List.map vi r556) r556.length) :: .n :: []), .reg (.n :: .n :: .call (vb r559) :: []), .br false, .reg (.n :: .n :: [])]) (c := ⟨[(0, none), (1, none), (9, some (VV.tr (List.map vi r556) r556.length)), (26, none), (27, none), (28, none)], [], []⟩) (e := .normal) (s1 := (nfigure_CheckSessions_l0_0_h a0 a1 a2 (w64 (x28 + 1)) r556)) (an (an (ti trivial) (an (an (decide_eq_true h549) trivial) (an (an (ti (an h550 (an e551 (ti (ti trivial))))) (an (an (ti (ti (an e554 (ti trivial)))) (an (ti (ti trivial)) (an (not_f (decide_eq_true h555)) trivial))) (an (ti (ti (an e558 (ti trivial)))) (an e561 (an (bool_f h562) trivial))))) (ti (ti trivial))))) (an (an (show Wv (VV.fr (List.map vi r556) r556.length) (VV.tr (List.map vi r556) r556.length) from (Wv.fr (rfl) (by simp))) trivial) trivial)) (by kernel_rfl)
     cases r with
     | inl r => exact round_next pm pn hv hq h2
     | inr r =>
      exact round_next pm pn hv hq h2
   ·injection h with h; subst h
    exact round_stop (c := ⟨[(6, none), (7, none)], [], []⟩) (s1 := (nfigure_CheckSessions_l0_0_e0 a0 a1 a2 (x28, r552))) pm pn (ans := [.reg (.n :: []), .br true, .reg (arN0_0 a2 x28), .reg (.n :: .n :: .call (vi r552) :: .n :: []), .reg (.n :: .n :: []), .br true, .reg (nN 4 [])]) (by kernel_rfl) (by intro e; cases e) (an (an (ti trivial) (an (an (decide_eq_true h549) trivial) (an (ti (an h550 (an e551 (ti (ti trivial))))) (an (ti (ti (an e554 (ti trivial)))) (an (ti (ti trivial)) (an (not_t (decide_eq_false h555)) (an (ti (ti (ti (ti trivial)))) trivial))))))) (ti trivial))
  ·injection h with h; subst h
   exact round_stop (c := ⟨[], [], []⟩) (s1 := (nfigure_CheckSessions_l0_0_e1 a0 a1 a2 ())) pm pn (ans := [.reg (.n :: []), .br false]) (by kernel_rfl) (by intro e; cases e) (an (an (ti trivial) (an (decide_eq_false h549) trivial)) (ti trivial))
def nfigure_CheckSessions (k : Nat) (a0 : (List Int)) (a1 : (List Int)) (a2 : (List (List Int))) : Option (Int × Int) :=
 (nfigure_checkWanted k a0 a1).bind fun r512 => (if r512 = 0 then (if 100 < (a2.length : Int) then (some (0, 8)) else ((nfigure_isBelow k a0 a1).bind fun r517 => (if r517 = true then (some ((-1), 26)) else ((nfigure_CheckSessions_l0_0 k a0 a1 a2 k 0 a0).bind fun r564 => (match r564 with | .inl r565 => (some (r565.1, r565.2)) | .inr r566 => (some (0, 0))))))) else (some (0, r512)))
theorem nfigure_CheckSessions_ok (k : Nat) (a0 : (List Int)) (a1 : (List Int)) (a2 : (List (List Int))) (r : (Int × Int)) (h : nfigure_CheckSessions k a0 a1 a2 = some r) : VC Try.prog 9 [VV.tr (List.map vi a0) a0.length, VV.tr (List.map vi a1) a1.length, VV.tr (List.map v_26 a2) a2.length] (VV.tu [vi r.1, vi r.2]) := by
 unfold nfigure_CheckSessions at h
 obtain ⟨r512, h513, h⟩ := bs h
 have e514 := (ti (ti (an (nfigure_checkWanted_ok k a0 a1 _ h513) (ti trivial))))
 rcases ifs h with ⟨h515, h⟩ | ⟨h515, h⟩
 ·rcases ifs h with ⟨h516, h⟩ | ⟨h516, h⟩
  ·injection h with h; subst h
   exact fun_ok pm pn Try.func9 (r0 := VV.tu [vi 0, vi 8]) (ans := [.reg (.n :: .n :: []), .reg (.n :: .n :: .call (vi r512) :: .n :: []), .reg (.n :: .n :: []), .br false, .reg (nN 3 []), .br true, .reg (.n :: .n :: [])]) (fr := true) (by kernel_rfl) (an (an (ti (ti trivial)) (an (an e514 (an (ti (ti trivial)) (an (not_f (decide_eq_true h515)) trivial))) (an (ti (ti (ti trivial))) (an (decide_eq_true h516) (an (ti (ti trivial)) trivial))))) (ti (ti trivial))) (Wv.refl _)
  ·obtain ⟨r517, h518, h⟩ := bs h
   have e519 := (ti (ti (an (nfigure_isBelow_ok k a0 a1 _ h518) trivial)))
   rcases ifs h with ⟨h520, h⟩ | ⟨h520, h⟩
   ·injection h with h; subst h
    exact fun_ok pm pn Try.func9 (r0 := VV.tu [vi (-1), vi 26]) (ans := [.reg (.n :: .n :: []), .reg (.n :: .n :: .call (vi r512) :: .n :: []), .reg (.n :: .n :: []), .br false, .reg (nN 3 []), .br false, .reg (.n :: .n :: .call (vb r517) :: []), .br true, .reg (.n :: .n :: [])]) (fr := true) (by kernel_rfl) (an (an (ti (ti trivial)) (an (an e514 (an (ti (ti trivial)) (an (not_f (decide_eq_true h515)) trivial))) (an (an (ti (ti (ti trivial))) (an (decide_eq_false h516) trivial)) (an e519 (an h520 (an (ti (ti trivial)) trivial)))))) (ti (ti trivial))) (Wv.refl _)
   ·obtain ⟨r564, h563, h⟩ := bs h
    have hph563 := nfigure_CheckSessions_l0_0_ok k a0 a1 a2 _ _ _ _ h563
    cases r564 with
    | inl r565 =>
     dsimp only at h
     have e567 := (an (ti trivial) (VRun.loop hph563))
     injection h with h; subst h
     exact fun_ok pm pn Try.func9 (r0 := VV.tu [vi r565.1, vi r565.2]) (ans := [.reg (.n :: .n :: []), .reg (.n :: .n :: .call (vi r512) :: .n :: []), .reg (.n :: .n :: []), .br false, .reg (nN 3 []), .br false, .reg (.n :: .n :: .call (vb r517) :: []), .br false, .reg (.n :: .n :: []), .reg (nN 3 []), .sub ⟨[(0, none), (1, none), (9, none), (26, none), (27, none), (28, none)], [], []⟩ .ret (nfigure_CheckSessions_l0_0_e0 a0 a1 a2 r565)]) (fr := true) (by kernel_rfl) (an (an (ti (ti trivial)) (an (an e514 (an (ti (ti trivial)) (an (not_f (decide_eq_true h515)) trivial))) (an (an (ti (ti (ti trivial))) (an (decide_eq_false h516) trivial)) (an (an e519 (an (bool_f h520) trivial)) (an (ti (ti trivial)) (an (ti (ti (ti trivial))) e567)))))) (ti (ti trivial))) (Wv.refl _)
    | inr r566 =>
     dsimp only at h
     have e568 := (an (ti trivial) (VRun.loop hph563))
     injection h with h; subst h
     exact fun_ok pm pn Try.func9 (r0 := VV.tu [vi 0, vi 0]) (ans := [.reg (.n :: .n :: []), .reg (.n :: .n :: .call (vi r512) :: .n :: []), .reg (.n :: .n :: []), .br false, .reg (nN 3 []), .br false, .reg (.n :: .n :: .call (vb r517) :: []), .br false, .reg (.n :: .n :: []), .reg (nN 3 []), .sub ⟨[(0, none), (1, none), (9, none), (26, none), (27, none), (28, none)], [], []⟩ (.exit 0) (nfigure_CheckSessions_l0_0_e1 a0 a1 a2 r566), .reg (.n :: .n :: [])]) (fr := true) (by kernel_rfl) (an (an (ti (ti trivial)) (an (an e514 (an (ti (ti trivial)) (an (not_f (decide_eq_true h515)) trivial))) (an (an (ti (ti (ti trivial))) (an (decide_eq_false h516) trivial)) (an (an e519 (an (bool_f h520) trivial)) (an (ti (ti trivial)) (an (an (ti (ti (ti trivial))) e568) (an (ti (ti trivial)) trivial))))))) (ti (ti trivial))) (Wv.refl _)
 ·injection h with h; subst h
  exact fun_ok pm pn Try.func9 (r0 := VV.tu [vi 0, vi r512]) (ans := [.reg (.n :: .n :: []), .reg (.n :: .n :: .call (vi r512) :: .n :: []), .reg (.n :: .n :: []), .br true, .reg (nN 3 [])]) (fr := true) (by kernel_rfl) (an (an (ti (ti trivial)) (an e514 (an (ti (ti trivial)) (an (not_t (decide_eq_false h515)) (an (ti (ti (ti trivial))) trivial))))) (ti (ti trivial))) (Wv.refl _)
def ngrind_need (k : Nat) (a0 : Bool) (a1 : Int) : Option (Bool × Int) :=
 some (a0, a1)
theorem ngrind_need_ok (k : Nat) (a0 : Bool) (a1 : Int) (r : (Bool × Int)) (h : ngrind_need k a0 a1 = some r) : VC Try.prog 36 [vb a0, vi a1] (VV.fn 62 [VV.tp [vb r.1] 0, VV.tp [vi r.2] 0]) := by
 unfold ngrind_need at h
 injection h with h; subst h
 exact fun_ok pm pn Try.func36 (r0 := VV.fn 62 [VV.tp [vb a0] 0, VV.tp [vi a1] 0]) (ans := [.reg (nN 3 []), .frz 0, .frz 1, .reg (.n :: .n :: [])]) (fr := false) (by kernel_rfl) (an (an (ti (ti (ti trivial))) (an (ti (ti trivial)) trivial)) (ti trivial)) (Wv.of_eq rfl)
def ngrind_need_1 (k : Nat) (q0_0 : Bool) (q1_0 : Int) : Option Int :=
 if q0_0 = true then (some 0) else (some q1_0)
theorem ngrind_need_1_ok (k : Nat) (q0_0 : Bool) (q1_0 : Int) (r : Int) (h : ngrind_need_1 k q0_0 q1_0 = some r) : VC Try.prog 62 [VV.tp [vb q0_0] 0, VV.tp [vi q1_0] 0] (vi r) := by
 unfold ngrind_need_1 at h
 have e583 := (show loadL Try.prog 4 0 [vb q0_0] = some (vb q0_0) from (ld_one ag4 rfl))
 rcases ifs h with ⟨h584, h⟩ | ⟨h584, h⟩
 ·injection h with h; subst h
  exact fun_ok pm pn Try.func62 (r0 := vi 0) (ans := [.reg (.n :: []), .reg (.v (vb q0_0) :: []), .br true, .reg (.n :: [])]) (fr := true) (by kernel_rfl) (an (an (ti trivial) (an (an e583 trivial) (an h584 (an (ti trivial) trivial)))) (ti trivial)) (Wv.refl _)
 ·have e585 := (show loadL Try.prog 37 0 [vi q1_0] = some (vi q1_0) from (ld_one ag37 rfl))
  injection h with h; subst h
  exact fun_ok pm pn Try.func62 (r0 := vi q1_0) (ans := [.reg (.n :: []), .reg (.v (vb q0_0) :: []), .br false, .reg (.v (vi q1_0) :: .n :: [])]) (fr := true) (by kernel_rfl) (an (an (ti trivial) (an (an (an e583 trivial) (an (bool_f h584) trivial)) (an (an e585 (ti trivial)) trivial))) (ti trivial)) (Wv.refl _)
def ngrind_isWithin (k : Nat) (a0 : Int) (a1 : Int) (a2 : Int) : Option Bool :=
 if a1 <= a0 then (some (decide (a0 <= a2))) else (some false)
theorem ngrind_isWithin_ok (k : Nat) (a0 : Int) (a1 : Int) (a2 : Int) (r : Bool) (h : ngrind_isWithin k a0 a1 a2 = some r) : VC Try.prog 61 [vi a0, vi a1, vi a2] (vb r) := by
 unfold ngrind_isWithin at h
 rcases ifs h with ⟨h615, h⟩ | ⟨h615, h⟩
 ·have e616 := (ti (ti (ti (ti (an (an (decide_eq_true h615) trivial) (an (an (decide_eq_true h615) trivial) (an (an (decide_eq_true h615) trivial) (an (decide_eq_true h615) (ti trivial)))))))))
  injection h with h; subst h
  exact fun_ok pm pn Try.func61 (r0 := vb (decide (a0 <= a2))) (ans := [.reg (.n :: []), .reg (nN 7 (.b true :: .n :: []))]) (fr := true) (by kernel_rfl) (an (an (ti trivial) (an e616 trivial)) (ti trivial)) (Wv.refl _)
 ·have e617 := (ti (ti (ti (ti (an (decide_eq_false h615) (an (decide_eq_false h615) (an (decide_eq_false h615) (an (decide_eq_false h615) (ti trivial)))))))))
  injection h with h; subst h
  exact fun_ok pm pn Try.func61 (r0 := vb false) (ans := [.reg (.n :: []), .reg (nN 4 (nS 3 (.b false :: .n :: [])))]) (fr := true) (by kernel_rfl) (an (an (ti trivial) (an e617 trivial)) (ti trivial)) (Wv.refl _)
def arN0_1  : List Ans := (nN 3 (.skip :: .skip :: .b false :: nN 4 (.skip :: .skip :: .b false :: .b false :: .n :: [])))
def ngrind_isLetter (k : Nat) (a0 : Int) : Option Bool :=
 if 97 <= a0 then (if a0 <= 122 then (some true) else (if 65 <= a0 then (some (decide (a0 <= 90))) else (some false))) else (if 65 <= a0 then (some (decide (a0 <= 90))) else (some false))
theorem ngrind_isLetter_ok (k : Nat) (a0 : Int) (r : Bool) (h : ngrind_isLetter k a0 = some r) : VC Try.prog 65 [VV.c (.int .i32 a0)] (vb r) := by
 unfold ngrind_isLetter at h
 rcases ifs h with ⟨h634, h⟩ | ⟨h634, h⟩
 ·rcases ifs h with ⟨h635, h⟩ | ⟨h635, h⟩
  ·have e636 := (ti (ti (ti (an (an (decide_eq_true h634) trivial) (an (an (decide_eq_true h634) trivial) (an (decide_eq_true h634) (ti (an (decide_eq_true h635) (an (decide_eq_true h635) (an (decide_eq_true h635) (ti (ti (an (decide_eq_true h635) (an (decide_eq_true h635) (ti trivial)))))))))))))))
   injection h with h; subst h
   exact fun_ok pm pn Try.func65 (r0 := vb true) (ans := [.reg (.n :: []), .reg (nN 5 (.b true :: .n :: nS 6 (.b true :: .n :: [])))]) (fr := true) (by kernel_rfl) (an (an (ti trivial) (an e636 trivial)) (ti trivial)) (Wv.refl _)
  ·rcases ifs h with ⟨h637, h⟩ | ⟨h637, h⟩
   ·have e638 := (an (decide_eq_false h635) (decide_eq_true h637))
    have e639 := (ti (ti (ti (an (an (decide_eq_true h634) trivial) (an (an (decide_eq_true h634) trivial) (an (decide_eq_true h634) (ti (an (an (decide_eq_false h635) trivial) (an (an (decide_eq_false h635) trivial) (an (an (decide_eq_false h635) trivial) (an (an (decide_eq_true h637) trivial) (an (an (decide_eq_true h637) trivial) (an e638 (an (decide_eq_false h635) (ti trivial)))))))))))))))
    injection h with h; subst h
    exact fun_ok pm pn Try.func65 (r0 := vb (decide (a0 <= 90))) (ans := [.reg (.n :: []), .reg (nN 5 (.b true :: nN 6 (.b true :: .b false :: .n :: [])))]) (fr := true) (by kernel_rfl) (an (an (ti trivial) (an e639 trivial)) (ti trivial)) (Wv.refl _)
   ·have e640 := (an (decide_eq_false h635) (decide_eq_false h637))
    have e641 := (ti (ti (ti (an (an (decide_eq_true h634) trivial) (an (an (decide_eq_true h634) trivial) (an (decide_eq_true h634) (ti (an (an (decide_eq_false h635) trivial) (an (an (decide_eq_false h635) trivial) (an (an (decide_eq_false h635) trivial) (an (decide_eq_false h637) (an (decide_eq_false h637) (an e640 (an (decide_eq_false h635) (ti trivial)))))))))))))))
    injection h with h; subst h
    exact fun_ok pm pn Try.func65 (r0 := vb false) (ans := [.reg (.n :: []), .reg (nN 5 (.b true :: nN 4 (.skip :: .skip :: .b false :: .b false :: .n :: [])))]) (fr := true) (by kernel_rfl) (an (an (ti trivial) (an e641 trivial)) (ti trivial)) (Wv.refl _)
 ·rcases ifs h with ⟨h642, h⟩ | ⟨h642, h⟩
  ·have e643 := (ti (ti (ti (an (decide_eq_false h634) (an (decide_eq_false h634) (an (decide_eq_false h634) (ti (an (an rf trivial) (an (an rf trivial) (an (an rf trivial) (an (an (decide_eq_true h642) trivial) (an (an (decide_eq_true h642) trivial) (an (an rf (decide_eq_true h642)) (an rf (ti trivial)))))))))))))))
   injection h with h; subst h
   exact fun_ok pm pn Try.func65 (r0 := vb (decide (a0 <= 90))) (ans := [.reg (.n :: []), .reg (nN 3 (.skip :: .skip :: .b false :: nN 6 (.b true :: .b false :: .n :: [])))]) (fr := true) (by kernel_rfl) (an (an (ti trivial) (an e643 trivial)) (ti trivial)) (Wv.refl _)
  ·have e644 := (ti (ti (ti (an (decide_eq_false h634) (an (decide_eq_false h634) (an (decide_eq_false h634) (ti (an (an rf trivial) (an (an rf trivial) (an (an rf trivial) (an (decide_eq_false h642) (an (decide_eq_false h642) (an (an rf (decide_eq_false h642)) (an rf (ti trivial)))))))))))))))
   injection h with h; subst h
   exact fun_ok pm pn Try.func65 (r0 := vb false) (ans := [.reg (.n :: []), .reg arN0_1]) (fr := true) (by kernel_rfl) (an (an (ti trivial) (an e644 trivial)) (ti trivial)) (Wv.refl _)
def arN0_2 (z0 : Bool) : List Ans := (.n :: .call (vb z0) :: .n :: .n :: nS 7 (.b false :: .n :: .skip :: .skip :: .b false :: .n :: []))
def arN0_3 (z0 : Bool) : List Ans := (.n :: .call (vb z0) :: nN 7 (.b true :: .n :: .b true :: .n :: .skip :: .skip :: .b false :: .n :: []))
def arN0_4 (z0 : Bool) : List Ans := (.n :: .call (vb z0) :: nN 5 (.skip :: .skip :: .b false :: .n :: .b true :: nN 3 (.b true :: .n :: [])))
def ngrind_isForeign (k : Nat) (a0 : Int) : Option Bool :=
 (ngrind_isLetter k a0).bind fun r667 => (if r667 = true then (some false) else (if 48 <= a0 then (if a0 <= 57 then (some false) else (some (!(decide (a0 = 45))))) else (some (!(decide (a0 = 45))))))
theorem ngrind_isForeign_ok (k : Nat) (a0 : Int) (r : Bool) (h : ngrind_isForeign k a0 = some r) : VC Try.prog 67 [VV.c (.int .i32 a0)] (vb r) := by
 unfold ngrind_isForeign at h
 obtain ⟨r667, h668, h⟩ := bs h
 rcases ifs h with ⟨h669, h⟩ | ⟨h669, h⟩
 ·have e670 := (ti (an (ngrind_isLetter_ok k a0 _ h668) (ti (ti (an (not_f h669) (an (not_f h669) (an (not_f h669) (ti (ti (an (not_f h669) (an (not_f h669) (an (not_f h669) (ti (an rf (an rf (an rf (ti trivial)))))))))))))))))
  injection h with h; subst h
  exact fun_ok pm pn Try.func67 (r0 := vb false) (ans := [.reg (.n :: []), .reg (arN0_2 r667)]) (fr := true) (by kernel_rfl) (an (an (ti trivial) (an e670 trivial)) (ti trivial)) (Wv.refl _)
 ·rcases ifs h with ⟨h671, h⟩ | ⟨h671, h⟩
  ·have e672 := (an (not_t (bool_f h669)) (decide_eq_true h671))
   rcases ifs h with ⟨h673, h⟩ | ⟨h673, h⟩
   ·have e674 := (ti (an (ngrind_isLetter_ok k a0 _ h668) (ti (ti (an (an (not_t (bool_f h669)) trivial) (an (an (not_t (bool_f h669)) trivial) (an (an (not_t (bool_f h669)) trivial) (an (an (decide_eq_true h671) trivial) (an (an (decide_eq_true h671) trivial) (an e672 (an (an (not_t (bool_f h669)) trivial) (an (not_t (bool_f h669)) (ti (an (not_f (decide_eq_true h673)) (an (not_f (decide_eq_true h673)) (an (not_f (decide_eq_true h673)) (ti trivial)))))))))))))))))
    injection h with h; subst h
    exact fun_ok pm pn Try.func67 (r0 := vb false) (ans := [.reg (.n :: []), .reg (arN0_3 r667)]) (fr := true) (by kernel_rfl) (an (an (ti trivial) (an e674 trivial)) (ti trivial)) (Wv.refl _)
   ·have e675 := (an (not_t (decide_eq_false h673)) trivial)
    have e676 := (an (not_t (decide_eq_false h673)) trivial)
    have e677 := (ti (an (ngrind_isLetter_ok k a0 _ h668) (ti (ti (an (an (not_t (bool_f h669)) trivial) (an (an (not_t (bool_f h669)) trivial) (an (an (not_t (bool_f h669)) trivial) (an (an (decide_eq_true h671) trivial) (an (an (decide_eq_true h671) trivial) (an e672 (an (an (not_t (bool_f h669)) trivial) (an (not_t (bool_f h669)) (ti (an e675 (an e676 (an (not_t (decide_eq_false h673)) (ti trivial)))))))))))))))))
    injection h with h; subst h
    exact fun_ok pm pn Try.func67 (r0 := vb (!(decide (a0 = 45)))) (ans := [.reg (.n :: []), .reg (.n :: .call (vb r667) :: nN 7 (.b true :: .n :: .b true :: nN 3 (.b true :: .n :: [])))]) (fr := true) (by kernel_rfl) (an (an (ti trivial) (an e677 trivial)) (ti trivial)) (Wv.refl _)
  ·have e678 := (an (not_t (bool_f h669)) (decide_eq_false h671))
   have e679 := (an (show (!false) = true from (not_t rfl)) trivial)
   have e680 := (an (show (!false) = true from (not_t rfl)) trivial)
   have e681 := (ti (an (ngrind_isLetter_ok k a0 _ h668) (ti (ti (an (an (not_t (bool_f h669)) trivial) (an (an (not_t (bool_f h669)) trivial) (an (an (not_t (bool_f h669)) trivial) (an (decide_eq_false h671) (an (decide_eq_false h671) (an e678 (an (an (not_t (bool_f h669)) trivial) (an (not_t (bool_f h669)) (ti (an e679 (an e680 (an (show (!false) = true from (not_t rfl)) (ti trivial)))))))))))))))))
   injection h with h; subst h
   exact fun_ok pm pn Try.func67 (r0 := vb (!(decide (a0 = 45)))) (ans := [.reg (.n :: []), .reg (arN0_4 r667)]) (fr := true) (by kernel_rfl) (an (an (ti trivial) (an e681 trivial)) (ti trivial)) (Wv.refl _)
def nstrings_indexFunc_c1_grind_isForeign_l0_0_h (a0 : ByteArray) (a2 : Bool) (b0_1 : Int) : VS := ⟨mkA [(1, VV.fn 67 []), (2, vb a2), (10, VV.it 0)], [some ⟨true, bigX, [vs a0, vi b0_1]⟩], .nil⟩
def nstrings_indexFunc_c1_grind_isForeign_l0_0_e0 (a0 : ByteArray) (a2 : Bool) (r : Int) : VS := ⟨mkA [(6, vi r)], [], .nil⟩
def nstrings_indexFunc_c1_grind_isForeign_l0_0_e1 (a0 : ByteArray) (a2 : Bool) (r : Unit) : VS := ⟨mkA [], [], .nil⟩
def nstrings_indexFunc_c1_grind_isForeign_l0_0 (k : Nat) (a0 : ByteArray) (a2 : Bool) : Nat -> Int -> Option (Sum Int Unit)
 | 0, _ => none
 | fuel + 1, b0_1 => if b0_1 < (a0.size : Int) then (if 0 <= b0_1 then ((ngrind_isForeign k (((Go.Utf8.decode a0 (b0_1).toNat).1 : Nat) : Int)).bind fun r728 => (if (r728 == a2) = true then (some (.inl b0_1)) else (nstrings_indexFunc_c1_grind_isForeign_l0_0 k a0 a2 fuel (b0_1 + (((Go.Utf8.decode a0 (b0_1).toNat).2 : Nat) : Int))))) else none) else (some (.inr ()))
theorem nstrings_indexFunc_c1_grind_isForeign_l0_0_ok (k : Nat) (a0 : ByteArray) (a2 : Bool) : ∀ (fuel : Nat) (b0_1 : Int) (r : Sum Int Unit), nstrings_indexFunc_c1_grind_isForeign_l0_0 k a0 a2 fuel b0_1 = some r -> (match r with | .inl r => VLoop none Try.prog (szF Try.f79) (bodyOf Try.f79 0) (nstrings_indexFunc_c1_grind_isForeign_l0_0_h a0 a2 b0_1) .ret (nstrings_indexFunc_c1_grind_isForeign_l0_0_e0 a0 a2 r) | .inr r => VLoop none Try.prog (szF Try.f79) (bodyOf Try.f79 0) (nstrings_indexFunc_c1_grind_isForeign_l0_0_h a0 a2 b0_1) (.exit 0) (nstrings_indexFunc_c1_grind_isForeign_l0_0_e1 a0 a2 r)) := by
 intro fuel
 induction fuel with
 | zero => intro b0_1 r h; rw [nstrings_indexFunc_c1_grind_isForeign_l0_0.eq_1] at h; cases h
 | succ fuel ih =>
  intro b0_1 r h
  rw [nstrings_indexFunc_c1_grind_isForeign_l0_0.eq_2] at h
  rcases ifs h with ⟨h725, h⟩ | ⟨h725, h⟩
  ·obtain ⟨h726, h⟩ := ifn h
   have e727 := (show 0 <= b0_1 /\ b0_1 < (a0.size : Int) from ⟨h726, of_decide_eq_true (decide_eq_true h725)⟩)
   obtain ⟨r728, h729, h⟩ := bs h
   have e730 := (ngrind_isForeign_ok k (((Go.Utf8.decode a0 (b0_1).toNat).1 : Nat) : Int) _ h729)
   rcases ifs h with ⟨h731, h⟩ | ⟨h731, h⟩
   ·injection h with h; subst h
    exact round_stop (c := ⟨[(6, none)], [], []⟩) (s1 := (nstrings_indexFunc_c1_grind_isForeign_l0_0_e0 a0 a2 b0_1)) pm pn (ans := [.reg (.b true :: .n :: []), .br true, .reg (nN 4 []), .reg (.n :: .n :: .call (vb r728) :: .n :: .n :: []), .br true, .reg (.n :: .n :: [])]) (by kernel_rfl) (by intro e; cases e) (an (an (an e727 (ti trivial)) (an (an rt trivial) (an (ti (ti (ti (ti trivial)))) (an (ti (ti (an e730 (ti (ti trivial))))) (an h731 (an (ti (ti trivial)) trivial)))))) (ti trivial))
   ·have h2 := ih _ _ h
    obtain ⟨q, hv, hq⟩ := pkR (rd := none) (P := Try.prog) (fn := Try.f79) (k := 0) (s := (nstrings_indexFunc_c1_grind_isForeign_l0_0_h a0 a2 b0_1)) (ans := [.reg (.b true :: .n :: []), .br true, .reg (nN 4 []), .reg (.n :: .n :: .call (vb r728) :: .n :: .n :: []), .br false]) (c := ⟨[(1, none), (2, none), (10, none)], [none], []⟩) (e := .normal) (s1 := (nstrings_indexFunc_c1_grind_isForeign_l0_0_h a0 a2 (b0_1 + (((Go.Utf8.decode a0 (b0_1).toNat).2 : Nat) : Int)))) (an (an (an e727 (ti trivial)) (an (an rt trivial) (an (ti (ti (ti (ti trivial)))) (an (ti (ti (an e730 (ti (ti trivial))))) (an (bool_f h731) trivial))))) (ti trivial)) (by kernel_rfl)
    cases r with
    | inl r => exact round_next pm pn hv hq h2
    | inr r =>
     exact round_next pm pn hv hq h2
  ·have e732 := (show (a0.size : Int) <= b0_1 from (by have := of_decide_eq_false (decide_eq_false h725); omega))
   injection h with h; subst h
   exact round_stop (c := ⟨[], [], []⟩) (s1 := (nstrings_indexFunc_c1_grind_isForeign_l0_0_e1 a0 a2 ())) pm pn (ans := [.reg (.b false :: .n :: []), .br false]) (by kernel_rfl) (by intro e; cases e) (an (an (an e732 (ti trivial)) (an rf trivial)) (ti trivial))
def nstrings_indexFunc_c1_grind_isForeign (k : Nat) (a0 : ByteArray) (a1 : Unit) (a2 : Bool) : Option Int :=
 (nstrings_indexFunc_c1_grind_isForeign_l0_0 k a0 a2 k 0).bind fun r734 => (match r734 with | .inl r735 => (some r735) | .inr r736 => (some (-1)))
theorem nstrings_indexFunc_c1_grind_isForeign_ok (k : Nat) (a0 : ByteArray) (a1 : Unit) (a2 : Bool) (r : Int) (h : nstrings_indexFunc_c1_grind_isForeign k a0 a1 a2 = some r) : VC Try.prog 79 [vs a0, VV.fn 67 [], vb a2] (vi r) := by
 unfold nstrings_indexFunc_c1_grind_isForeign at h
 obtain ⟨r734, h733, h⟩ := bs h
 have hph733 := nstrings_indexFunc_c1_grind_isForeign_l0_0_ok k a0 a2 _ _ _ h733
 cases r734 with
 | inl r735 =>
  dsimp only at h
  have e737 := (an (ti trivial) (VRun.loop hph733))
  injection h with h; subst h
  exact fun_ok pm pn Try.func79 (r0 := vi r735) (ans := [.reg (.n :: []), .reg (.n :: .n :: []), .sub ⟨[(1, none), (2, none), (10, none)], [none], []⟩ .ret (nstrings_indexFunc_c1_grind_isForeign_l0_0_e0 a0 a2 r735)]) (fr := true) (by kernel_rfl) (an (an (ti trivial) (an (ti (ti trivial)) e737)) (ti trivial)) (Wv.refl _)
 | inr r736 =>
  dsimp only at h
  have e738 := (an (ti trivial) (VRun.loop hph733))
  injection h with h; subst h
  exact fun_ok pm pn Try.func79 (r0 := vi (-1)) (ans := [.reg (.n :: []), .reg (.n :: .n :: []), .sub ⟨[(1, none), (2, none), (10, none)], [none], []⟩ (.exit 0) (nstrings_indexFunc_c1_grind_isForeign_l0_0_e1 a0 a2 r736), .reg (.n :: [])]) (fr := true) (by kernel_rfl) (an (an (ti trivial) (an (an (ti (ti trivial)) e738) (an (ti trivial) trivial))) (ti trivial)) (Wv.refl _)
def nstrings_IndexFunc_c1_grind_isForeign (k : Nat) (a0 : ByteArray) (a1 : Unit) : Option Int :=
 (nstrings_indexFunc_c1_grind_isForeign k a0 a1 true).bind fun r742 => (some r742)
theorem nstrings_IndexFunc_c1_grind_isForeign_ok (k : Nat) (a0 : ByteArray) (a1 : Unit) (r : Int) (h : nstrings_IndexFunc_c1_grind_isForeign k a0 a1 = some r) : VC Try.prog 75 [vs a0, VV.fn 67 []] (vi r) := by
 unfold nstrings_IndexFunc_c1_grind_isForeign at h
 obtain ⟨r742, h743, h⟩ := bs h
 have e744 := (nstrings_indexFunc_c1_grind_isForeign_ok k a0 a1 true _ h743)
 injection h with h; subst h
 exact fun_ok pm pn Try.func75 (r0 := vi r742) (ans := [.reg (.n :: []), .reg (.n :: .n :: .call (vi r742) :: .n :: [])]) (fr := true) (by kernel_rfl) (an (an (ti trivial) (an (ti (ti (an e744 (ti trivial)))) trivial)) (ti trivial)) (Wv.refl _)
def nstrings_ContainsFunc_c1_grind_isForeign (k : Nat) (a0 : ByteArray) (a1 : Unit) : Option Bool :=
 (nstrings_IndexFunc_c1_grind_isForeign k a0 a1).bind fun r748 => (some (decide (0 <= r748)))
theorem nstrings_ContainsFunc_c1_grind_isForeign_ok (k : Nat) (a0 : ByteArray) (a1 : Unit) (r : Bool) (h : nstrings_ContainsFunc_c1_grind_isForeign k a0 a1 = some r) : VC Try.prog 66 [vs a0, VV.fn 67 []] (vb r) := by
 unfold nstrings_ContainsFunc_c1_grind_isForeign at h
 obtain ⟨r748, h749, h⟩ := bs h
 have e750 := (nstrings_IndexFunc_c1_grind_isForeign_ok k a0 a1 _ h749)
 injection h with h; subst h
 exact fun_ok pm pn Try.func66 (r0 := vb (decide (0 <= r748))) (ans := [.reg (.n :: []), .reg (.n :: .n :: .call (vi r748) :: .n :: .n :: [])]) (fr := true) (by kernel_rfl) (an (an (ti trivial) (an (ti (ti (an e750 (ti (ti trivial))))) trivial)) (ti trivial)) (Wv.refl _)
def arN0_5 (z0 : Bool) (z1 : Bool) (z2 : Bool) : List Ans := (.n :: .n :: .call (vb z0) :: nN 4 (.call (vb z1) :: .b true :: .n :: .n :: .call (vb z2) :: .n :: .b true :: .n :: []))
def arN0_6 (z0 : Bool) (z1 : Bool) : List Ans := (.n :: .n :: .call (vb z0) :: nN 4 (.call (vb z1) :: .b true :: .n :: nS 3 (.b false :: .n :: [])))
def arN0_7 (z0 : Bool) : List Ans := (.n :: .n :: .call (vb z0) :: .n :: nS 4 (.b false :: .n :: nS 3 (.b false :: .n :: [])))
def ngrind_isName (k : Nat) (a0 : ByteArray) : Option Bool :=
 (ngrind_isWithin k (a0.size : Int) 1 12).bind fun r757 => (if r757 = true then (if (0 : Int) <= 0 /\ 0 < (a0.size : Int) then ((ngrind_isLetter k (IntKind.i32.wrap (bat a0 0))).bind fun r762 => (if r762 = true then ((nstrings_ContainsFunc_c1_grind_isForeign k a0 ()).bind fun r766 => (some (!r766))) else (some false))) else none) else (some false))
theorem ngrind_isName_ok (k : Nat) (a0 : ByteArray) (r : Bool) (h : ngrind_isName k a0 = some r) : VC Try.prog 45 [vs a0] (vb r) := by
 unfold ngrind_isName at h
 obtain ⟨r757, h758, h⟩ := bs h
 have e759 := (ngrind_isWithin_ok k (a0.size : Int) 1 12 _ h758)
 rcases ifs h with ⟨h760, h⟩ | ⟨h760, h⟩
 ·obtain ⟨h761, h⟩ := ifn h
  obtain ⟨r762, h763, h⟩ := bs h
  have e764 := (an h760 (ngrind_isLetter_ok k (IntKind.i32.wrap (bat a0 0)) _ h763))
  rcases ifs h with ⟨h765, h⟩ | ⟨h765, h⟩
  ·obtain ⟨r766, h767, h⟩ := bs h
   have e768 := (an h765 (nstrings_ContainsFunc_c1_grind_isForeign_ok k a0 () _ h767))
   have e769 := (ti (ti (an e759 (ti (an (an h760 trivial) (an (an h760 h761) (an (an h760 trivial) (an e764 (an h760 (ti (an (an h765 trivial) (an e768 (an (an h765 trivial) (an h765 (ti trivial)))))))))))))))
   injection h with h; subst h
   exact fun_ok pm pn Try.func45 (r0 := vb (!r766)) (ans := [.reg (.n :: []), .reg (arN0_5 r757 r762 r766)]) (fr := true) (by kernel_rfl) (an (an (ti trivial) (an e769 trivial)) (ti trivial)) (Wv.refl _)
  ·have e770 := (ti (ti (an e759 (ti (an (an h760 trivial) (an (an h760 h761) (an (an h760 trivial) (an e764 (an h760 (ti (an (bool_f h765) (an (bool_f h765) (an (bool_f h765) (an (bool_f h765) (ti trivial)))))))))))))))
   injection h with h; subst h
   exact fun_ok pm pn Try.func45 (r0 := vb false) (ans := [.reg (.n :: []), .reg (arN0_6 r757 r762)]) (fr := true) (by kernel_rfl) (an (an (ti trivial) (an e770 trivial)) (ti trivial)) (Wv.refl _)
 ·have e771 := (ti (ti (an e759 (ti (an (bool_f h760) (an (bool_f h760) (an (bool_f h760) (an (bool_f h760) (an (bool_f h760) (ti (an rf (an rf (an rf (an rf (ti trivial)))))))))))))))
  injection h with h; subst h
  exact fun_ok pm pn Try.func45 (r0 := vb false) (ans := [.reg (.n :: []), .reg (arN0_7 r757)]) (fr := true) (by kernel_rfl) (an (an (ti trivial) (an e771 trivial)) (ti trivial)) (Wv.refl _)
def arN0_8 (z0 : Bool) (z1 : (Bool × Int)) : List Ans := (.n :: .call (vb z0) :: .call (VV.fn 62 [VV.tp [vb z1.1] 0, VV.tp [vi z1.2] 0]) :: .n :: [])
def ngrind_named (k : Nat) (a0 : ByteArray) : Option (Bool × Int) :=
 (ngrind_isName k a0).bind fun r777 => ((ngrind_need k r777 4).bind fun r779 => (some r779))
theorem ngrind_named_ok (k : Nat) (a0 : ByteArray) (r : (Bool × Int)) (h : ngrind_named k a0 = some r) : VC Try.prog 20 [vs a0] (VV.fn 62 [VV.tp [vb r.1] 0, VV.tp [vi r.2] 0]) := by
 unfold ngrind_named at h
 obtain ⟨r777, h778, h⟩ := bs h
 obtain ⟨r779, h780, h⟩ := bs h
 have e781 := (ti (an (ngrind_isName_ok k a0 _ h778) (an (ngrind_need_ok k r777 4 _ h780) (ti trivial))))
 injection h with h; subst h
 exact fun_ok pm pn Try.func20 (r0 := VV.fn 62 [VV.tp [vb r779.1] 0, VV.tp [vi r779.2] 0]) (ans := [.reg (.n :: []), .reg (arN0_8 r777 r779)]) (fr := false) (by kernel_rfl) (an (an (ti trivial) (an e781 trivial)) (ti trivial)) (Wv.refl _)
def ngrind_within (k : Nat) (a0 : Int) (a1 : Int) (a2 : (List Int)) : Option ((List Int) × Int × Int) :=
 some (a2, a0, a1)
theorem ngrind_within_ok (k : Nat) (a0 : Int) (a1 : Int) (a2 : (List Int)) (r : ((List Int) × Int × Int)) (h : ngrind_within k a0 a1 a2 = some r) : VC Try.prog 40 [vi a0, vi a1, VV.tr (List.map vi a2) a2.length] (VV.fn 64 [VV.tp [VV.tr (List.map vi r.1) r.1.length] 0, VV.tp [vi r.2.1] 0, VV.tp [vi r.2.2] 0]) := by
 unfold ngrind_within at h
 injection h with h; subst h
 exact fun_ok pm pn Try.func40 (r0 := VV.fn 64 [VV.tp [VV.tr (List.map vi a2) a2.length] 0, VV.tp [vi a0] 0, VV.tp [vi a1] 0]) (ans := [.reg (nN 4 []), .frz 0, .frz 1, .frz 2, .reg (.n :: .n :: [])]) (fr := false) (by kernel_rfl) (an (an (ti (ti (ti (ti trivial)))) (an (ti (ti trivial)) trivial)) (ti trivial)) (Wv.of_eq rfl)
def ngrind_within_1_l0_0_h (q0_0 : (List Int)) (q1_0 : Int) (q2_0 : Int) (x8 : Int) : VS := ⟨mkA [(1, VV.tp [vi q1_0] 0), (2, VV.tp [vi q2_0] 0), (6, VV.tr (List.map vi q0_0) q0_0.length), (7, vi (q0_0.length : Int)), (8, vi x8)], [], .nil⟩
def ngrind_within_1_l0_0_e0 (q0_0 : (List Int)) (q1_0 : Int) (q2_0 : Int) (r : Unit) : VS := ⟨mkA [(3, vi 2)], [], .nil⟩
def ngrind_within_1_l0_0_e1 (q0_0 : (List Int)) (q1_0 : Int) (q2_0 : Int) (r : Unit) : VS := ⟨mkA [], [], .nil⟩
def ngrind_within_1_l0_0 (k : Nat) (q0_0 : (List Int)) (q1_0 : Int) (q2_0 : Int) : Nat -> Int -> Option (Sum Unit Unit)
 | 0, _ => none
 | fuel + 1, x8 => if x8 < (q0_0.length : Int) then (if 0 <= x8 /\ x8 < (q0_0.length : Int) then ((ngrind_isWithin k (q0_0.getD x8.toNat 0) q1_0 q2_0).bind fun r879 => (if r879 = true then (ngrind_within_1_l0_0 k q0_0 q1_0 q2_0 fuel (w64 (x8 + 1))) else (some (.inl ())))) else none) else (some (.inr ()))
theorem ngrind_within_1_l0_0_ok (k : Nat) (q0_0 : (List Int)) (q1_0 : Int) (q2_0 : Int) : ∀ (fuel : Nat) (x8 : Int) (r : Sum Unit Unit), ngrind_within_1_l0_0 k q0_0 q1_0 q2_0 fuel x8 = some r -> (match r with | .inl r => VLoop none Try.prog (szF Try.f64) (bodyOf Try.f64 0) (ngrind_within_1_l0_0_h q0_0 q1_0 q2_0 x8) .ret (ngrind_within_1_l0_0_e0 q0_0 q1_0 q2_0 r) | .inr r => VLoop none Try.prog (szF Try.f64) (bodyOf Try.f64 0) (ngrind_within_1_l0_0_h q0_0 q1_0 q2_0 x8) (.exit 0) (ngrind_within_1_l0_0_e1 q0_0 q1_0 q2_0 r)) := by
 intro fuel
 induction fuel with
 | zero => intro x8 r h; rw [ngrind_within_1_l0_0.eq_1] at h; cases h
 | succ fuel ih =>
  intro x8 r h
  rw [ngrind_within_1_l0_0.eq_2] at h
  rcases ifs h with ⟨h874, h⟩ | ⟨h874, h⟩
  ·obtain ⟨h875, h⟩ := ifn h
   have e876 := (show loadL Try.prog 3 (x8.toNat * 1) (List.map vi q0_0) = some (vi (q0_0.getD x8.toNat 0)) from ld_map ag3 vi q0_0 0 h875 (by omega))
   have e877 := (show loadL Try.prog 3 0 [vi q1_0] = some (vi q1_0) from (ld_one ag3 rfl))
   have e878 := (show loadL Try.prog 3 0 [vi q2_0] = some (vi q2_0) from (ld_one ag3 rfl))
   obtain ⟨r879, h880, h⟩ := bs h
   have e881 := (ngrind_isWithin_ok k (q0_0.getD x8.toNat 0) q1_0 q2_0 _ h880)
   rcases ifs h with ⟨h882, h⟩ | ⟨h882, h⟩
   ·have h2 := ih _ _ h
    obtain ⟨q, hv, hq⟩ := pkR (rd := none) (P := Try.prog) (fn := Try.f64) (k := 0) (s := (ngrind_within_1_l0_0_h q0_0 q1_0 q2_0 x8)) (ans := [.reg (.n :: []), .br true, .reg (.n :: .v (vi (q0_0.getD x8.toNat 0)) :: .n :: []), .reg (.n :: .v (vi q1_0) :: .v (vi q2_0) :: .call (vb r879) :: .n :: []), .br false, .reg (.n :: .n :: [])]) (c := ⟨[(1, none), (2, none), (6, none), (7, none), (8, none)], [], []⟩) (e := .normal) (s1 := (ngrind_within_1_l0_0_h q0_0 q1_0 q2_0 (w64 (x8 + 1)))) (an (an (ti trivial) (an (an (decide_eq_true h874) trivial) (an (an (an h875 (an e876 (ti trivial))) (an (ti (an e877 (an e878 (an e881 (ti trivial))))) (an (not_f h882) trivial))) (ti (ti trivial))))) (ti trivial)) (by kernel_rfl)
    cases r with
    | inl r => exact round_next pm pn hv hq h2
    | inr r =>
     exact round_next pm pn hv hq h2
   ·injection h with h; subst h
    exact round_stop (c := ⟨[(3, none)], [], []⟩) (s1 := (ngrind_within_1_l0_0_e0 q0_0 q1_0 q2_0 ())) pm pn (ans := [.reg (.n :: []), .br true, .reg (.n :: .v (vi (q0_0.getD x8.toNat 0)) :: .n :: []), .reg (.n :: .v (vi q1_0) :: .v (vi q2_0) :: .call (vb r879) :: .n :: []), .br true, .reg (.n :: [])]) (by kernel_rfl) (by intro e; cases e) (an (an (ti trivial) (an (an (decide_eq_true h874) trivial) (an (an h875 (an e876 (ti trivial))) (an (ti (an e877 (an e878 (an e881 (ti trivial))))) (an (not_t (bool_f h882)) (an (ti trivial) trivial)))))) (ti trivial))
  ·injection h with h; subst h
   exact round_stop (c := ⟨[], [], []⟩) (s1 := (ngrind_within_1_l0_0_e1 q0_0 q1_0 q2_0 ())) pm pn (ans := [.reg (.n :: []), .br false]) (by kernel_rfl) (by intro e; cases e) (an (an (ti trivial) (an (decide_eq_false h874) trivial)) (ti trivial))
def ngrind_within_1 (k : Nat) (q0_0 : (List Int)) (q1_0 : Int) (q2_0 : Int) : Option Int :=
 (ngrind_within_1_l0_0 k q0_0 q1_0 q2_0 k 0).bind fun r884 => (match r884 with | .inl r885 => (some 2) | .inr r886 => (some 0))
theorem ngrind_within_1_ok (k : Nat) (q0_0 : (List Int)) (q1_0 : Int) (q2_0 : Int) (r : Int) (h : ngrind_within_1 k q0_0 q1_0 q2_0 = some r) : VC Try.prog 64 [VV.tp [VV.tr (List.map vi q0_0) q0_0.length] 0, VV.tp [vi q1_0] 0, VV.tp [vi q2_0] 0] (vi r) := by
 unfold ngrind_within_1 at h
 have e855 := (show loadL Try.prog 26 0 [VV.tr (List.map vi q0_0) q0_0.length] = some (VV.tr (List.map vi q0_0) q0_0.length) from (ld_one ag26 rfl))
 obtain ⟨r884, h883, h⟩ := bs h
 have hph883 := ngrind_within_1_l0_0_ok k q0_0 q1_0 q2_0 _ _ _ h883
 cases r884 with
 | inl r885 =>
  dsimp only at h
  have e887 := (an (ti trivial) (VRun.loop hph883))
  injection h with h; subst h
  exact fun_ok pm pn Try.func64 (r0 := vi 2) (ans := [.reg (.n :: []), .reg (.v (VV.tr (List.map vi q0_0) q0_0.length) :: .n :: .n :: []), .sub ⟨[(1, none), (2, none), (6, none), (7, none), (8, none)], [], []⟩ .ret (ngrind_within_1_l0_0_e0 q0_0 q1_0 q2_0 r885)]) (fr := true) (by kernel_rfl) (an (an (ti trivial) (an (an e855 (ti (ti trivial))) e887)) (ti trivial)) (Wv.refl _)
 | inr r886 =>
  dsimp only at h
  have e888 := (an (ti trivial) (VRun.loop hph883))
  injection h with h; subst h
  exact fun_ok pm pn Try.func64 (r0 := vi 0) (ans := [.reg (.n :: []), .reg (.v (VV.tr (List.map vi q0_0) q0_0.length) :: .n :: .n :: []), .sub ⟨[(1, none), (2, none), (6, none), (7, none), (8, none)], [], []⟩ (.exit 0) (ngrind_within_1_l0_0_e1 q0_0 q1_0 q2_0 r886), .reg (.n :: [])]) (fr := true) (by kernel_rfl) (an (an (ti trivial) (an (an (an e855 (ti (ti trivial))) e888) (an (ti trivial) trivial))) (ti trivial)) (Wv.refl _)
def arN0_9 (z0 : ((Bool × Int) × (Bool × Int) × (Bool × Int) × ((List Int) × Int × Int))) : List Ans := (.n :: .v (VV.fn 64 [VV.tp [VV.tr (List.map vi z0.2.2.2.1) z0.2.2.2.1.length] 0, VV.tp [vi z0.2.2.2.2.1] 0, VV.tp [vi z0.2.2.2.2.2] 0]) :: .n :: [])
def ngrind_firstOf_c0_Lgrind_need_1_grind_need_1_grind_need_1_grind_within_1 (k : Nat) (a0 : ((Bool × Int) × (Bool × Int) × (Bool × Int) × ((List Int) × Int × Int))) : Option Int :=
 (ngrind_need_1 k a0.1.1 a0.1.2).bind fun r895 => (if r895 = 0 then ((ngrind_need_1 k a0.2.1.1 a0.2.1.2).bind fun r901 => (if r901 = 0 then ((ngrind_need_1 k a0.2.2.1.1 a0.2.2.1.2).bind fun r907 => (if r907 = 0 then ((ngrind_within_1 k a0.2.2.2.1 a0.2.2.2.2.1 a0.2.2.2.2.2).bind fun r913 => (if r913 = 0 then (some 0) else (some r913))) else (some r907))) else (some r901))) else (some r895))
theorem ngrind_firstOf_c0_Lgrind_need_1_grind_need_1_grind_need_1_grind_within_1_ok (k : Nat) (a0 : ((Bool × Int) × (Bool × Int) × (Bool × Int) × ((List Int) × Int × Int))) (r : Int) (h : ngrind_firstOf_c0_Lgrind_need_1_grind_need_1_grind_need_1_grind_within_1 k a0 = some r) : VC Try.prog 14 [VV.tr ([VV.fn 62 [VV.tp [vb a0.1.1] 0, VV.tp [vi a0.1.2] 0], VV.fn 62 [VV.tp [vb a0.2.1.1] 0, VV.tp [vi a0.2.1.2] 0], VV.fn 62 [VV.tp [vb a0.2.2.1.1] 0, VV.tp [vi a0.2.2.1.2] 0], VV.fn 64 [VV.tp [VV.tr (List.map vi a0.2.2.2.1) a0.2.2.2.1.length] 0, VV.tp [vi a0.2.2.2.2.1] 0, VV.tp [vi a0.2.2.2.2.2] 0]]) 4] (vi r) := by
 unfold ngrind_firstOf_c0_Lgrind_need_1_grind_need_1_grind_need_1_grind_within_1 at h
 have e893 := (show (0 : Int) <= 0 /\ (0 : Int) < ((4 : Nat) : Int) from ⟨by decide, by decide⟩)
 have e894 := (show loadL Try.prog 62 ((0 : Int).toNat * 1) ([VV.fn 62 [VV.tp [vb a0.1.1] 0, VV.tp [vi a0.1.2] 0], VV.fn 62 [VV.tp [vb a0.2.1.1] 0, VV.tp [vi a0.2.1.2] 0], VV.fn 62 [VV.tp [vb a0.2.2.1.1] 0, VV.tp [vi a0.2.2.1.2] 0], VV.fn 64 [VV.tp [VV.tr (List.map vi a0.2.2.2.1) a0.2.2.2.1.length] 0, VV.tp [vi a0.2.2.2.2.1] 0, VV.tp [vi a0.2.2.2.2.2] 0]]) = some (VV.fn 62 [VV.tp [vb a0.1.1] 0, VV.tp [vi a0.1.2] 0]) from (ld_one ag62 rfl))
 obtain ⟨r895, h896, h⟩ := bs h
 have e897 := (ngrind_need_1_ok k a0.1.1 a0.1.2 _ h896)
 rcases ifs h with ⟨h898, h⟩ | ⟨h898, h⟩
 ·have e899 := (show (0 : Int) <= 1 /\ (1 : Int) < ((4 : Nat) : Int) from ⟨by decide, by decide⟩)
  have e900 := (show loadL Try.prog 62 ((1 : Int).toNat * 1) ([VV.fn 62 [VV.tp [vb a0.1.1] 0, VV.tp [vi a0.1.2] 0], VV.fn 62 [VV.tp [vb a0.2.1.1] 0, VV.tp [vi a0.2.1.2] 0], VV.fn 62 [VV.tp [vb a0.2.2.1.1] 0, VV.tp [vi a0.2.2.1.2] 0], VV.fn 64 [VV.tp [VV.tr (List.map vi a0.2.2.2.1) a0.2.2.2.1.length] 0, VV.tp [vi a0.2.2.2.2.1] 0, VV.tp [vi a0.2.2.2.2.2] 0]]) = some (VV.fn 62 [VV.tp [vb a0.2.1.1] 0, VV.tp [vi a0.2.1.2] 0]) from (ld_one ag62 rfl))
  obtain ⟨r901, h902, h⟩ := bs h
  have e903 := (ngrind_need_1_ok k a0.2.1.1 a0.2.1.2 _ h902)
  rcases ifs h with ⟨h904, h⟩ | ⟨h904, h⟩
  ·have e905 := (show (0 : Int) <= 2 /\ (2 : Int) < ((4 : Nat) : Int) from ⟨by decide, by decide⟩)
   have e906 := (show loadL Try.prog 62 ((2 : Int).toNat * 1) ([VV.fn 62 [VV.tp [vb a0.1.1] 0, VV.tp [vi a0.1.2] 0], VV.fn 62 [VV.tp [vb a0.2.1.1] 0, VV.tp [vi a0.2.1.2] 0], VV.fn 62 [VV.tp [vb a0.2.2.1.1] 0, VV.tp [vi a0.2.2.1.2] 0], VV.fn 64 [VV.tp [VV.tr (List.map vi a0.2.2.2.1) a0.2.2.2.1.length] 0, VV.tp [vi a0.2.2.2.2.1] 0, VV.tp [vi a0.2.2.2.2.2] 0]]) = some (VV.fn 62 [VV.tp [vb a0.2.2.1.1] 0, VV.tp [vi a0.2.2.1.2] 0]) from (ld_one ag62 rfl))
   obtain ⟨r907, h908, h⟩ := bs h
   have e909 := (ngrind_need_1_ok k a0.2.2.1.1 a0.2.2.1.2 _ h908)
   rcases ifs h with ⟨h910, h⟩ | ⟨h910, h⟩
   ·have e911 := (show (0 : Int) <= 3 /\ (3 : Int) < ((4 : Nat) : Int) from ⟨by decide, by decide⟩)
    have e912 := (show loadL Try.prog 62 ((3 : Int).toNat * 1) ([VV.fn 62 [VV.tp [vb a0.1.1] 0, VV.tp [vi a0.1.2] 0], VV.fn 62 [VV.tp [vb a0.2.1.1] 0, VV.tp [vi a0.2.1.2] 0], VV.fn 62 [VV.tp [vb a0.2.2.1.1] 0, VV.tp [vi a0.2.2.1.2] 0], VV.fn 64 [VV.tp [VV.tr (List.map vi a0.2.2.2.1) a0.2.2.2.1.length] 0, VV.tp [vi a0.2.2.2.2.1] 0, VV.tp [vi a0.2.2.2.2.2] 0]]) = some (VV.fn 64 [VV.tp [VV.tr (List.map vi a0.2.2.2.1) a0.2.2.2.1.length] 0, VV.tp [vi a0.2.2.2.2.1] 0, VV.tp [vi a0.2.2.2.2.2] 0]) from (ld_one ag62 rfl))
    obtain ⟨r913, h914, h⟩ := bs h
    have e915 := (ngrind_within_1_ok k a0.2.2.2.1 a0.2.2.2.2.1 a0.2.2.2.2.2 _ h914)
    rcases ifs h with ⟨h916, h⟩ | ⟨h916, h⟩
    ·injection h with h; subst h
     exact fun_ok pm pn Try.func14 (r0 := vi 0) (ans := [.reg (.n :: []), .reg (nN 3 []), .unr 6, .reg (.n :: []), .br true, .reg (.n :: .v (VV.fn 62 [VV.tp [vb a0.1.1] 0, VV.tp [vi a0.1.2] 0]) :: .n :: []), .reg (.n :: .call (vi r895) :: .n :: []), .reg (.n :: .n :: []), .br false, .reg (.n :: .n :: []), .reg (.n :: []), .br true, .reg (.n :: .v (VV.fn 62 [VV.tp [vb a0.2.1.1] 0, VV.tp [vi a0.2.1.2] 0]) :: .n :: []), .reg (.n :: .call (vi r901) :: .n :: []), .reg (.n :: .n :: []), .br false, .reg (.n :: .n :: []), .reg (.n :: []), .br true, .reg (.n :: .v (VV.fn 62 [VV.tp [vb a0.2.2.1.1] 0, VV.tp [vi a0.2.2.1.2] 0]) :: .n :: []), .reg (.n :: .call (vi r907) :: .n :: []), .reg (.n :: .n :: []), .br false, .reg (.n :: .n :: []), .reg (.n :: []), .br true, .reg (arN0_9 a0), .reg (.n :: .call (vi r913) :: .n :: []), .reg (.n :: .n :: []), .br false, .reg (.n :: .n :: []), .reg (.n :: []), .br false, .reg (.n :: [])]) (fr := true) (by kernel_rfl) (an (an (ti trivial) (an (an (ti (ti (ti trivial))) (an (an (ti trivial) (an (an (show (decide ((0 : Int) < 4)) = true from (decide_eq_true (by decide))) trivial) (an (an (an e893 (an e894 (ti trivial))) (an (ti (an e897 (ti trivial))) (an (ti (ti trivial)) (an (not_f (decide_eq_true h898)) trivial)))) (ti (ti trivial))))) (an (an (ti trivial) (an (an (show (decide ((1 : Int) < 4)) = true from (decide_eq_true (by decide))) trivial) (an (an (an e899 (an e900 (ti trivial))) (an (ti (an e903 (ti trivial))) (an (ti (ti trivial)) (an (not_f (decide_eq_true h904)) trivial)))) (ti (ti trivial))))) (an (an (ti trivial) (an (an (show (decide ((2 : Int) < 4)) = true from (decide_eq_true (by decide))) trivial) (an (an (an e905 (an e906 (ti trivial))) (an (ti (an e909 (ti trivial))) (an (ti (ti trivial)) (an (not_f (decide_eq_true h910)) trivial)))) (ti (ti trivial))))) (an (an (ti trivial) (an (an (show (decide ((3 : Int) < 4)) = true from (decide_eq_true (by decide))) trivial) (an (an (an e911 (an e912 (ti trivial))) (an (ti (an e915 (ti trivial))) (an (ti (ti trivial)) (an (not_f (decide_eq_true h916)) trivial)))) (ti (ti trivial))))) (an (ti trivial) (an (show (decide ((4 : Int) < 4)) = false from (decide_eq_false (by decide))) trivial))))))) (an (ti trivial) trivial))) (ti trivial)) (Wv.refl _)
    ·injection h with h; subst h
     exact fun_ok pm pn Try.func14 (r0 := vi r913) (ans := [.reg (.n :: []), .reg (nN 3 []), .unr 5, .reg (.n :: []), .br true, .reg (.n :: .v (VV.fn 62 [VV.tp [vb a0.1.1] 0, VV.tp [vi a0.1.2] 0]) :: .n :: []), .reg (.n :: .call (vi r895) :: .n :: []), .reg (.n :: .n :: []), .br false, .reg (.n :: .n :: []), .reg (.n :: []), .br true, .reg (.n :: .v (VV.fn 62 [VV.tp [vb a0.2.1.1] 0, VV.tp [vi a0.2.1.2] 0]) :: .n :: []), .reg (.n :: .call (vi r901) :: .n :: []), .reg (.n :: .n :: []), .br false, .reg (.n :: .n :: []), .reg (.n :: []), .br true, .reg (.n :: .v (VV.fn 62 [VV.tp [vb a0.2.2.1.1] 0, VV.tp [vi a0.2.2.1.2] 0]) :: .n :: []), .reg (.n :: .call (vi r907) :: .n :: []), .reg (.n :: .n :: []), .br false, .reg (.n :: .n :: []), .reg (.n :: []), .br true, .reg (arN0_9 a0), .reg (.n :: .call (vi r913) :: .n :: []), .reg (.n :: .n :: []), .br true, .reg (.n :: .n :: [])]) (fr := true) (by kernel_rfl) (an (an (ti trivial) (an (ti (ti (ti trivial))) (an (an (ti trivial) (an (an (show (decide ((0 : Int) < 4)) = true from (decide_eq_true (by decide))) trivial) (an (an (an e893 (an e894 (ti trivial))) (an (ti (an e897 (ti trivial))) (an (ti (ti trivial)) (an (not_f (decide_eq_true h898)) trivial)))) (ti (ti trivial))))) (an (an (ti trivial) (an (an (show (decide ((1 : Int) < 4)) = true from (decide_eq_true (by decide))) trivial) (an (an (an e899 (an e900 (ti trivial))) (an (ti (an e903 (ti trivial))) (an (ti (ti trivial)) (an (not_f (decide_eq_true h904)) trivial)))) (ti (ti trivial))))) (an (an (ti trivial) (an (an (show (decide ((2 : Int) < 4)) = true from (decide_eq_true (by decide))) trivial) (an (an (an e905 (an e906 (ti trivial))) (an (ti (an e909 (ti trivial))) (an (ti (ti trivial)) (an (not_f (decide_eq_true h910)) trivial)))) (ti (ti trivial))))) (an (ti trivial) (an (an (show (decide ((3 : Int) < 4)) = true from (decide_eq_true (by decide))) trivial) (an (an e911 (an e912 (ti trivial))) (an (ti (an e915 (ti trivial))) (an (ti (ti trivial)) (an (not_t (decide_eq_false h916)) (an (ti (ti trivial)) trivial)))))))))))) (ti trivial)) (Wv.refl _)
   ·injection h with h; subst h
    exact fun_ok pm pn Try.func14 (r0 := vi r907) (ans := [.reg (.n :: []), .reg (nN 3 []), .unr 4, .reg (.n :: []), .br true, .reg (.n :: .v (VV.fn 62 [VV.tp [vb a0.1.1] 0, VV.tp [vi a0.1.2] 0]) :: .n :: []), .reg (.n :: .call (vi r895) :: .n :: []), .reg (.n :: .n :: []), .br false, .reg (.n :: .n :: []), .reg (.n :: []), .br true, .reg (.n :: .v (VV.fn 62 [VV.tp [vb a0.2.1.1] 0, VV.tp [vi a0.2.1.2] 0]) :: .n :: []), .reg (.n :: .call (vi r901) :: .n :: []), .reg (.n :: .n :: []), .br false, .reg (.n :: .n :: []), .reg (.n :: []), .br true, .reg (.n :: .v (VV.fn 62 [VV.tp [vb a0.2.2.1.1] 0, VV.tp [vi a0.2.2.1.2] 0]) :: .n :: []), .reg (.n :: .call (vi r907) :: .n :: []), .reg (.n :: .n :: []), .br true, .reg (.n :: .n :: [])]) (fr := true) (by kernel_rfl) (an (an (ti trivial) (an (ti (ti (ti trivial))) (an (an (ti trivial) (an (an (show (decide ((0 : Int) < 4)) = true from (decide_eq_true (by decide))) trivial) (an (an (an e893 (an e894 (ti trivial))) (an (ti (an e897 (ti trivial))) (an (ti (ti trivial)) (an (not_f (decide_eq_true h898)) trivial)))) (ti (ti trivial))))) (an (an (ti trivial) (an (an (show (decide ((1 : Int) < 4)) = true from (decide_eq_true (by decide))) trivial) (an (an (an e899 (an e900 (ti trivial))) (an (ti (an e903 (ti trivial))) (an (ti (ti trivial)) (an (not_f (decide_eq_true h904)) trivial)))) (ti (ti trivial))))) (an (ti trivial) (an (an (show (decide ((2 : Int) < 4)) = true from (decide_eq_true (by decide))) trivial) (an (an e905 (an e906 (ti trivial))) (an (ti (an e909 (ti trivial))) (an (ti (ti trivial)) (an (not_t (decide_eq_false h910)) (an (ti (ti trivial)) trivial))))))))))) (ti trivial)) (Wv.refl _)
  ·injection h with h; subst h
   exact fun_ok pm pn Try.func14 (r0 := vi r901) (ans := [.reg (.n :: []), .reg (nN 3 []), .unr 3, .reg (.n :: []), .br true, .reg (.n :: .v (VV.fn 62 [VV.tp [vb a0.1.1] 0, VV.tp [vi a0.1.2] 0]) :: .n :: []), .reg (.n :: .call (vi r895) :: .n :: []), .reg (.n :: .n :: []), .br false, .reg (.n :: .n :: []), .reg (.n :: []), .br true, .reg (.n :: .v (VV.fn 62 [VV.tp [vb a0.2.1.1] 0, VV.tp [vi a0.2.1.2] 0]) :: .n :: []), .reg (.n :: .call (vi r901) :: .n :: []), .reg (.n :: .n :: []), .br true, .reg (.n :: .n :: [])]) (fr := true) (by kernel_rfl) (an (an (ti trivial) (an (ti (ti (ti trivial))) (an (an (ti trivial) (an (an (show (decide ((0 : Int) < 4)) = true from (decide_eq_true (by decide))) trivial) (an (an (an e893 (an e894 (ti trivial))) (an (ti (an e897 (ti trivial))) (an (ti (ti trivial)) (an (not_f (decide_eq_true h898)) trivial)))) (ti (ti trivial))))) (an (ti trivial) (an (an (show (decide ((1 : Int) < 4)) = true from (decide_eq_true (by decide))) trivial) (an (an e899 (an e900 (ti trivial))) (an (ti (an e903 (ti trivial))) (an (ti (ti trivial)) (an (not_t (decide_eq_false h904)) (an (ti (ti trivial)) trivial)))))))))) (ti trivial)) (Wv.refl _)
 ·injection h with h; subst h
  exact fun_ok pm pn Try.func14 (r0 := vi r895) (ans := [.reg (.n :: []), .reg (nN 3 []), .unr 2, .reg (.n :: []), .br true, .reg (.n :: .v (VV.fn 62 [VV.tp [vb a0.1.1] 0, VV.tp [vi a0.1.2] 0]) :: .n :: []), .reg (.n :: .call (vi r895) :: .n :: []), .reg (.n :: .n :: []), .br true, .reg (.n :: .n :: [])]) (fr := true) (by kernel_rfl) (an (an (ti trivial) (an (ti (ti (ti trivial))) (an (ti trivial) (an (an (show (decide ((0 : Int) < 4)) = true from (decide_eq_true (by decide))) trivial) (an (an e893 (an e894 (ti trivial))) (an (ti (an e897 (ti trivial))) (an (ti (ti trivial)) (an (not_t (decide_eq_false h898)) (an (ti (ti trivial)) trivial))))))))) (ti trivial)) (Wv.refl _)
theorem eqN0_1 (z0 : (Bool × Int)) (z1 : (Bool × Int)) (z2 : (Bool × Int)) (z3 : ((List Int) × Int × Int)) : [VV.tr ([VV.fn 62 [VV.tp [vb (((z0, z1, z2, z3).1).1)] 0, VV.tp [vi (((z0, z1, z2, z3).1).2)] 0], VV.fn 62 [VV.tp [vb (((z0, z1, z2, z3).2.1).1)] 0, VV.tp [vi (((z0, z1, z2, z3).2.1).2)] 0], VV.fn 62 [VV.tp [vb (((z0, z1, z2, z3).2.2.1).1)] 0, VV.tp [vi (((z0, z1, z2, z3).2.2.1).2)] 0], VV.fn 64 [VV.tp [VV.tr (List.map vi (((z0, z1, z2, z3).2.2.2).1)) ((((z0, z1, z2, z3).2.2.2).1).length)] 0, VV.tp [vi (((z0, z1, z2, z3).2.2.2).2.1)] 0, VV.tp [vi (((z0, z1, z2, z3).2.2.2).2.2)] 0]]) 4] = [VV.tr (List.drop 0 (List.map unfr [VV.fn 62 [VV.tp [vb z0.1] 0, VV.tp [vi z0.2] 0], VV.fn 62 [VV.tp [vb z1.1] 0, VV.tp [vi z1.2] 0], VV.fn 62 [VV.tp [vb z2.1] 0, VV.tp [vi z2.2] 0], VV.fn 64 [VV.tp [VV.tr (List.map vi z3.1) z3.1.length] 0, VV.tp [vi z3.2.1] 0, VV.tp [vi z3.2.2] 0]])) 4] := by first | rfl | (simp only [drop0, unfr_vi, unfr_vb, map_cons, map_nil, un_i, un_b, un_tr, length_map, length_cons, length_nil]; done) | (simp only [drop0, unfr_vi, unfr_vb, map_cons, map_nil, un_i, un_b, un_tr, length_map, length_cons, length_nil]; rfl) | (simp only [drop0, unfr_vi, unfr_vb, map_cons, map_nil, un_i, un_b, un_tr, length_map, length_cons, length_nil, length_cons, length_nil, length_append]; done)
def arN0_15 (z0 : (List SStroke)) (z1 : Int) (z2 : List (ByteArray × Bool)) : List Ans := (.n :: .v (VV.tr (flatMap c_SStroke z0) z0.length) :: nN 3 (.v (vs ((z0.getD z1.toNat default).Name)) :: .v (vb (mget z2 ((z0.getD z1.toNat default).Name))) :: .v (VV.tr (flatMap c_SStroke z0) z0.length) :: nN 3 (.v (VV.tr (List.map vi ((z0.getD z1.toNat default).Wear)) (((z0.getD z1.toNat default).Wear).length)) :: nN 3 [])))
def arN0_16 (z0 : (List SStroke)) (z1 : Int) : List Ans := (.n :: .v (VV.tr (flatMap c_SStroke z0) z0.length) :: nN 3 (.v (vs ((z0.getD z1.toNat default).Name)) :: .n :: []))
def arN0_17 (z0 : (List SStroke)) (z1 : Int) (z2 : (Bool × Int)) (z3 : (Bool × Int)) (z4 : Bool) (z5 : (Bool × Int)) (z6 : ((List Int) × Int × Int)) (z7 : Int) : List Ans := (.v (VV.tr (flatMap c_SStroke z0) z0.length) :: nN 3 (.v (vs ((z0.getD z1.toNat default).Name)) :: .call (VV.fn 62 [VV.tp [vb z2.1] 0, VV.tp [vi z2.2] 0]) :: .n :: .n :: .call (VV.fn 62 [VV.tp [vb z3.1] 0, VV.tp [vi z3.2] 0]) :: .n :: .v (VV.tr (flatMap c_SStroke z0) z0.length) :: .n :: .n :: .v (VV.tr (List.map vi ((z0.getD ((0 : Int)).toNat default).Wear)) (((z0.getD ((0 : Int)).toNat default).Wear).length)) :: nN 4 (.call (vb z4) :: .b true :: .call (VV.fn 62 [VV.tp [vb z5.1] 0, VV.tp [vi z5.2] 0]) :: .v (VV.tr (flatMap c_SStroke z0) z0.length) :: nN 3 (.v (VV.tr (List.map vi ((z0.getD z1.toNat default).Wear)) (((z0.getD z1.toNat default).Wear).length)) :: .call (VV.fn 64 [VV.tp [VV.tr (List.map vi z6.1) z6.1.length] 0, VV.tp [vi z6.2.1] 0, VV.tp [vi z6.2.2] 0]) :: .n :: .call (vi z7) :: .n :: []))))
def arN0_18 (z0 : (List SStroke)) (z1 : Int) (z2 : (Bool × Int)) (z3 : (Bool × Int)) (z4 : (Bool × Int)) (z5 : ((List Int) × Int × Int)) (z6 : Int) : List Ans := (.v (VV.tr (flatMap c_SStroke z0) z0.length) :: nN 3 (.v (vs ((z0.getD z1.toNat default).Name)) :: .call (VV.fn 62 [VV.tp [vb z2.1] 0, VV.tp [vi z2.2] 0]) :: .n :: .n :: .call (VV.fn 62 [VV.tp [vb z3.1] 0, VV.tp [vi z3.2] 0]) :: .n :: .v (VV.tr (flatMap c_SStroke z0) z0.length) :: .n :: .n :: .v (VV.tr (List.map vi ((z0.getD ((0 : Int)).toNat default).Wear)) (((z0.getD ((0 : Int)).toNat default).Wear).length)) :: nN 3 (.skip :: .skip :: .b false :: .call (VV.fn 62 [VV.tp [vb z4.1] 0, VV.tp [vi z4.2] 0]) :: .v (VV.tr (flatMap c_SStroke z0) z0.length) :: nN 3 (.v (VV.tr (List.map vi ((z0.getD z1.toNat default).Wear)) (((z0.getD z1.toNat default).Wear).length)) :: .call (VV.fn 64 [VV.tp [VV.tr (List.map vi z5.1) z5.1.length] 0, VV.tp [vi z5.2.1] 0, VV.tp [vi z5.2.2] 0]) :: .n :: .call (vi z6) :: .n :: []))))
def arN0_19 (z0 : (List SStroke)) (z1 : Int) : List Ans := (.n :: .v (VV.tr (flatMap c_SStroke z0) z0.length) :: nN 3 (.v (vs ((z0.getD z1.toNat default).Name)) :: .b false :: .v (VV.tr (flatMap c_SStroke z0) z0.length) :: nN 3 (.v (VV.tr (List.map vi ((z0.getD z1.toNat default).Wear)) (((z0.getD z1.toNat default).Wear).length)) :: nN 3 [])))
noncomputable def arN0_20 (z0 : (List SStroke)) (z1 : Int) (z2 : List (ByteArray × Bool)) (z3 : (Bool × Int)) (z4 : (Bool × Int)) (z5 : Bool) (z6 : (Bool × Int)) (z7 : ((List Int) × Int × Int)) (z8 : Int) : List Ans := (.n :: .n :: .inl (inlF Try.f60 [.reg (.n :: []), .reg (arN0_15 z0 z1 z2), .reg (arN0_16 z0 z1), .reg (arN0_17 z0 z1 z3 z4 z5 z6 z7 z8)]) :: .n :: [])
noncomputable def arN0_21 (z0 : (List SStroke)) (z1 : Int) (z2 : List (ByteArray × Bool)) (z3 : (Bool × Int)) (z4 : (Bool × Int)) (z5 : (Bool × Int)) (z6 : ((List Int) × Int × Int)) (z7 : Int) : List Ans := (.n :: .n :: .inl (inlF Try.f60 [.reg (.n :: []), .reg (arN0_15 z0 z1 z2), .reg (arN0_16 z0 z1), .reg (arN0_18 z0 z1 z3 z4 z5 z6 z7)]) :: .n :: [])
noncomputable def arN0_22 (z0 : (List SStroke)) (z1 : Int) (z2 : (Bool × Int)) (z3 : (Bool × Int)) (z4 : Bool) (z5 : (Bool × Int)) (z6 : ((List Int) × Int × Int)) (z7 : Int) : List Ans := (.n :: .n :: .inl (inlF Try.f60 [.reg (.n :: []), .reg (arN0_19 z0 z1), .reg (arN0_16 z0 z1), .reg (arN0_17 z0 z1 z2 z3 z4 z5 z6 z7)]) :: .n :: [])
noncomputable def arN0_23 (z0 : (List SStroke)) (z1 : Int) (z2 : (Bool × Int)) (z3 : (Bool × Int)) (z4 : (Bool × Int)) (z5 : ((List Int) × Int × Int)) (z6 : Int) : List Ans := (.n :: .n :: .inl (inlF Try.f60 [.reg (.n :: []), .reg (arN0_19 z0 z1), .reg (arN0_16 z0 z1), .reg (arN0_18 z0 z1 z2 z3 z4 z5 z6)]) :: .n :: [])
def arN0_24 (z0 : (List SStroke)) : List Ans := (nN 3 (.v (VV.tr (List.map vi ((z0.getD ((0 : Int)).toNat default).Wear)) (((z0.getD ((0 : Int)).toNat default).Wear).length)) :: .n :: .n :: []))
def ngrind_zonesOf (k : Nat) (a0 : (List SStroke)) : Option Int :=
 if (0 : Int) <= 0 /\ 0 < (a0.length : Int) then (some (((a0.getD ((0 : Int)).toNat default).Wear).length : Int)) else none
theorem ngrind_zonesOf_ok (k : Nat) (a0 : (List SStroke)) (r : Int) (h : ngrind_zonesOf k a0 = some r) : VC Try.prog 37 [VV.tr (flatMap c_SStroke a0) a0.length] (vi r) := by
 unfold ngrind_zonesOf at h
 obtain ⟨h1199, h⟩ := ifn h
 have e1200 := (show loadL Try.prog 26 (((0 : Int)).toNat * 2 + 1) (flatMap c_SStroke a0) = some (VV.tr (List.map vi ((a0.getD ((0 : Int)).toNat default).Wear)) (((a0.getD ((0 : Int)).toNat default).Wear).length)) from (ld_flat ag26 c_SStroke 2 1 len_c_SStroke (by omega) a0 default h1199 (by omega)).trans rfl)
 injection h with h; subst h
 exact fun_ok pm pn Try.func37 (r0 := vi (((a0.getD ((0 : Int)).toNat default).Wear).length : Int)) (ans := [.reg (.n :: []), .reg (arN0_24 a0)]) (fr := true) (by kernel_rfl) (an (an (ti trivial) (an (ti (an h1199 (ti (an e1200 (ti (ti trivial)))))) trivial)) (ti trivial)) (Wv.refl _)
def ngrind_CheckStrokes_i14_i63_l0_0_h (a0 : (List SStroke)) (r1219 : (Bool × Int)) (r1223 : (Bool × Int)) (r1234 : Int) (y1 : List (ByteArray × Bool)) (x6 : Int) : VS := ⟨mkA [(1, VV.pt 4 0), (5, vi (a0.length : Int)), (6, vi x6)], [none, some ⟨true, bigX + 1, flatMap (mpE vb) y1⟩, some ⟨true, 1, [VV.mp 1]⟩, none, some ⟨true, 1, [VV.fn 60 [VV.pt 2 0, VV.tp [VV.tr (flatMap c_SStroke a0) a0.length] 0]]⟩, some ⟨true, 1, [VV.fn 62 [VV.tp [vb r1219.1] 0, VV.tp [vi r1219.2] 0], VV.fn 62 [VV.tp [vb r1223.1] 0, VV.tp [vi r1223.2] 0], VV.fn 63 [VV.tp [vi (a0.length : Int)] 0, VV.pt 4 0]]⟩], (.node none (mkA [(0, VV.rf 5 0 3), (2, vi 0), (4, VV.fn 63 [VV.tp [vi (a0.length : Int)] 0, VV.pt 4 0]), (5, vi r1234), (6, VV.rf 5 0 3), (7, vi 3), (8, vi 2), (9, vb (decide ((2 : Int) < 3))), (10, VV.pt 5 2), (11, VV.fn 63 [VV.tp [vi (a0.length : Int)] 0, VV.pt 4 0]), (12, VV.fn 63 [VV.tp [vi (a0.length : Int)] 0, VV.pt 4 0]), (13, vi r1234), (14, vi r1234), (15, vb (!(decide (r1234 = 0)))), (17, vi 2)]) (.node none (mkA [(0, VV.tr (flatMap c_SStroke a0) a0.length), (1, VV.tp [VV.tr (flatMap c_SStroke a0) a0.length] 0), (2, vi 0), (3, vi 0), (4, VV.pt 2 0), (6, VV.mp 1), (7, VV.tr (flatMap c_SStroke a0) a0.length), (8, vi (a0.length : Int)), (9, vb (decide (0 < (a0.length : Int)))), (10, VV.fn 62 [VV.tp [vb r1219.1] 0, VV.tp [vi r1219.2] 0]), (11, VV.tr (flatMap c_SStroke a0) a0.length), (12, vi (a0.length : Int)), (13, vb (decide ((a0.length : Int) <= 12))), (14, VV.fn 62 [VV.tp [vb r1223.1] 0, VV.tp [vi r1223.2] 0]), (15, VV.tr (flatMap c_SStroke a0) a0.length), (16, vi (a0.length : Int)), (17, VV.fn 60 [VV.pt 2 0, VV.tp [VV.tr (flatMap c_SStroke a0) a0.length] 0]), (18, VV.fn 63 [VV.tp [vi (a0.length : Int)] 0, VV.pt 4 0]), (19, VV.rf 5 0 3)]) .nil))⟩
def ngrind_CheckStrokes_i14_i63_l0_0_e0 (a0 : (List SStroke)) (r1219 : (Bool × Int)) (r1223 : (Bool × Int)) (r1234 : Int) (r : Int × (List (ByteArray × Bool))) : VS := ⟨mkA [(2, vi r.1)], [none, some ⟨true, bigX + 1, flatMap (mpE vb) r.2⟩, some ⟨true, 1, [VV.mp 1]⟩, none, some ⟨true, 1, [VV.fn 60 [VV.pt 2 0, VV.tp [VV.tr (flatMap c_SStroke a0) a0.length] 0]]⟩, some ⟨true, 1, [VV.fn 62 [VV.tp [vb r1219.1] 0, VV.tp [vi r1219.2] 0], VV.fn 62 [VV.tp [vb r1223.1] 0, VV.tp [vi r1223.2] 0], VV.fn 63 [VV.tp [vi (a0.length : Int)] 0, VV.pt 4 0]]⟩], (.node none (mkA [(0, VV.rf 5 0 3), (2, vi 0), (4, VV.fn 63 [VV.tp [vi (a0.length : Int)] 0, VV.pt 4 0]), (5, vi r1234), (6, VV.rf 5 0 3), (7, vi 3), (8, vi 2), (9, vb (decide ((2 : Int) < 3))), (10, VV.pt 5 2), (11, VV.fn 63 [VV.tp [vi (a0.length : Int)] 0, VV.pt 4 0]), (12, VV.fn 63 [VV.tp [vi (a0.length : Int)] 0, VV.pt 4 0]), (13, vi r1234), (14, vi r1234), (15, vb (!(decide (r1234 = 0)))), (17, vi 2)]) (.node none (mkA [(0, VV.tr (flatMap c_SStroke a0) a0.length), (1, VV.tp [VV.tr (flatMap c_SStroke a0) a0.length] 0), (2, vi 0), (3, vi 0), (4, VV.pt 2 0), (6, VV.mp 1), (7, VV.tr (flatMap c_SStroke a0) a0.length), (8, vi (a0.length : Int)), (9, vb (decide (0 < (a0.length : Int)))), (10, VV.fn 62 [VV.tp [vb r1219.1] 0, VV.tp [vi r1219.2] 0]), (11, VV.tr (flatMap c_SStroke a0) a0.length), (12, vi (a0.length : Int)), (13, vb (decide ((a0.length : Int) <= 12))), (14, VV.fn 62 [VV.tp [vb r1223.1] 0, VV.tp [vi r1223.2] 0]), (15, VV.tr (flatMap c_SStroke a0) a0.length), (16, vi (a0.length : Int)), (17, VV.fn 60 [VV.pt 2 0, VV.tp [VV.tr (flatMap c_SStroke a0) a0.length] 0]), (18, VV.fn 63 [VV.tp [vi (a0.length : Int)] 0, VV.pt 4 0]), (19, VV.rf 5 0 3)]) .nil))⟩
def ngrind_CheckStrokes_i14_i63_l0_0_e1 (a0 : (List SStroke)) (r1219 : (Bool × Int)) (r1223 : (Bool × Int)) (r1234 : Int) (r : (List (ByteArray × Bool))) : VS := ⟨mkA [], [none, some ⟨true, bigX + 1, flatMap (mpE vb) r⟩, some ⟨true, 1, [VV.mp 1]⟩, none, some ⟨true, 1, [VV.fn 60 [VV.pt 2 0, VV.tp [VV.tr (flatMap c_SStroke a0) a0.length] 0]]⟩, some ⟨true, 1, [VV.fn 62 [VV.tp [vb r1219.1] 0, VV.tp [vi r1219.2] 0], VV.fn 62 [VV.tp [vb r1223.1] 0, VV.tp [vi r1223.2] 0], VV.fn 63 [VV.tp [vi (a0.length : Int)] 0, VV.pt 4 0]]⟩], (.node none (mkA [(0, VV.rf 5 0 3), (2, vi 0), (4, VV.fn 63 [VV.tp [vi (a0.length : Int)] 0, VV.pt 4 0]), (5, vi r1234), (6, VV.rf 5 0 3), (7, vi 3), (8, vi 2), (9, vb (decide ((2 : Int) < 3))), (10, VV.pt 5 2), (11, VV.fn 63 [VV.tp [vi (a0.length : Int)] 0, VV.pt 4 0]), (12, VV.fn 63 [VV.tp [vi (a0.length : Int)] 0, VV.pt 4 0]), (13, vi r1234), (14, vi r1234), (15, vb (!(decide (r1234 = 0)))), (17, vi 2)]) (.node none (mkA [(0, VV.tr (flatMap c_SStroke a0) a0.length), (1, VV.tp [VV.tr (flatMap c_SStroke a0) a0.length] 0), (2, vi 0), (3, vi 0), (4, VV.pt 2 0), (6, VV.mp 1), (7, VV.tr (flatMap c_SStroke a0) a0.length), (8, vi (a0.length : Int)), (9, vb (decide (0 < (a0.length : Int)))), (10, VV.fn 62 [VV.tp [vb r1219.1] 0, VV.tp [vi r1219.2] 0]), (11, VV.tr (flatMap c_SStroke a0) a0.length), (12, vi (a0.length : Int)), (13, vb (decide ((a0.length : Int) <= 12))), (14, VV.fn 62 [VV.tp [vb r1223.1] 0, VV.tp [vi r1223.2] 0]), (15, VV.tr (flatMap c_SStroke a0) a0.length), (16, vi (a0.length : Int)), (17, VV.fn 60 [VV.pt 2 0, VV.tp [VV.tr (flatMap c_SStroke a0) a0.length] 0]), (18, VV.fn 63 [VV.tp [vi (a0.length : Int)] 0, VV.pt 4 0]), (19, VV.rf 5 0 3)]) .nil))⟩
def ngrind_CheckStrokes_i14_i63_l0_0 (k : Nat) (a0 : (List SStroke)) (r1219 : (Bool × Int)) (r1223 : (Bool × Int)) (r1234 : Int) : Nat -> (List (ByteArray × Bool)) -> Int -> Option (Sum (Int × (List (ByteArray × Bool))) (List (ByteArray × Bool)))
 | 0, _, _ => none
 | fuel + 1, y1, x6 => if x6 < (a0.length : Int) then (if 0 <= x6 /\ x6 < (a0.length : Int) then (if mhas y1 ((a0.getD x6.toNat default).Name) = true then ((ngrind_named k ((a0.getD x6.toNat default).Name)).bind fun r1457 => ((ngrind_need k (!(mget y1 ((a0.getD x6.toNat default).Name))) 5).bind fun r1460 => (if (0 : Int) <= 0 /\ 0 < (a0.length : Int) then (if (((a0.getD x6.toNat default).Wear).length : Int) = (((a0.getD ((0 : Int)).toNat default).Wear).length : Int) then ((ngrind_isWithin k (((a0.getD x6.toNat default).Wear).length : Int) 1 40).bind fun r1467 => ((ngrind_need k r1467 10).bind fun r1470 => ((ngrind_within k 0 100 ((a0.getD x6.toNat default).Wear)).bind fun r1474 => ((ngrind_firstOf_c0_Lgrind_need_1_grind_need_1_grind_need_1_grind_within_1 k (r1457, r1460, r1470, r1474)).bind fun r1477 => (if r1477 = 0 then (ngrind_CheckStrokes_i14_i63_l0_0 k a0 r1219 r1223 r1234 fuel (mset y1 ((a0.getD x6.toNat default).Name) true) (w64 (x6 + 1))) else (some (.inl (r1477, mset y1 ((a0.getD x6.toNat default).Name) true)))))))) else ((ngrind_need k false 10).bind fun r1483 => ((ngrind_within k 0 100 ((a0.getD x6.toNat default).Wear)).bind fun r1487 => ((ngrind_firstOf_c0_Lgrind_need_1_grind_need_1_grind_need_1_grind_within_1 k (r1457, r1460, r1483, r1487)).bind fun r1490 => (if r1490 = 0 then (ngrind_CheckStrokes_i14_i63_l0_0 k a0 r1219 r1223 r1234 fuel (mset y1 ((a0.getD x6.toNat default).Name) true) (w64 (x6 + 1))) else (some (.inl (r1490, mset y1 ((a0.getD x6.toNat default).Name) true)))))))) else none))) else ((ngrind_named k ((a0.getD x6.toNat default).Name)).bind fun r1506 => ((ngrind_need k (!false) 5).bind fun r1509 => (if (0 : Int) <= 0 /\ 0 < (a0.length : Int) then (if (((a0.getD x6.toNat default).Wear).length : Int) = (((a0.getD ((0 : Int)).toNat default).Wear).length : Int) then ((ngrind_isWithin k (((a0.getD x6.toNat default).Wear).length : Int) 1 40).bind fun r1515 => ((ngrind_need k r1515 10).bind fun r1518 => ((ngrind_within k 0 100 ((a0.getD x6.toNat default).Wear)).bind fun r1522 => ((ngrind_firstOf_c0_Lgrind_need_1_grind_need_1_grind_need_1_grind_within_1 k (r1506, r1509, r1518, r1522)).bind fun r1525 => (if r1525 = 0 then (ngrind_CheckStrokes_i14_i63_l0_0 k a0 r1219 r1223 r1234 fuel (mset y1 ((a0.getD x6.toNat default).Name) true) (w64 (x6 + 1))) else (some (.inl (r1525, mset y1 ((a0.getD x6.toNat default).Name) true)))))))) else ((ngrind_need k false 10).bind fun r1531 => ((ngrind_within k 0 100 ((a0.getD x6.toNat default).Wear)).bind fun r1535 => ((ngrind_firstOf_c0_Lgrind_need_1_grind_need_1_grind_need_1_grind_within_1 k (r1506, r1509, r1531, r1535)).bind fun r1538 => (if r1538 = 0 then (ngrind_CheckStrokes_i14_i63_l0_0 k a0 r1219 r1223 r1234 fuel (mset y1 ((a0.getD x6.toNat default).Name) true) (w64 (x6 + 1))) else (some (.inl (r1538, mset y1 ((a0.getD x6.toNat default).Name) true)))))))) else none)))) else none) else (some (.inr y1))
theorem ngrind_CheckStrokes_i14_i63_l0_0_ok (k : Nat) (a0 : (List SStroke)) (r1219 : (Bool × Int)) (r1223 : (Bool × Int)) (r1234 : Int) : ∀ (fuel : Nat) (y1 : List (ByteArray × Bool)) (x6 : Int) (r : Sum (Int × (List (ByteArray × Bool))) (List (ByteArray × Bool))), ngrind_CheckStrokes_i14_i63_l0_0 k a0 r1219 r1223 r1234 fuel y1 x6 = some r -> (match r with | .inl r => VLoop none Try.prog (szF Try.f63) (bodyOf Try.f63 0) (ngrind_CheckStrokes_i14_i63_l0_0_h a0 r1219 r1223 r1234 y1 x6) .ret (ngrind_CheckStrokes_i14_i63_l0_0_e0 a0 r1219 r1223 r1234 r) | .inr r => VLoop none Try.prog (szF Try.f63) (bodyOf Try.f63 0) (ngrind_CheckStrokes_i14_i63_l0_0_h a0 r1219 r1223 r1234 y1 x6) (.exit 0) (ngrind_CheckStrokes_i14_i63_l0_0_e1 a0 r1219 r1223 r1234 r)) := by
 intro fuel
 induction fuel with
 | zero => intro y1 x6 r h; rw [ngrind_CheckStrokes_i14_i63_l0_0.eq_1] at h; cases h
 | succ fuel ih =>
  intro y1 x6 r h
  rw [ngrind_CheckStrokes_i14_i63_l0_0.eq_2] at h
  rcases ifs h with ⟨h1442, h⟩ | ⟨h1442, h⟩
  ·have e1443 := (show loadL Try.prog 22 0 [VV.tr (flatMap c_SStroke a0) a0.length] = some (VV.tr (flatMap c_SStroke a0) a0.length) from (ld_one ag22 rfl))
   obtain ⟨h1444, h⟩ := ifn h
   have e1445 := (show loadL Try.prog 9 (x6.toNat * 2 + 0) (flatMap c_SStroke a0) = some (vs ((a0.getD x6.toNat default).Name)) from (ld_flat ag9 c_SStroke 2 0 len_c_SStroke (by omega) a0 default h1444 (by omega)).trans rfl)
   rcases ifs h with ⟨h1446, h⟩ | ⟨h1446, h⟩
   ·have e1447 := (show keysM (kdV (.string ((a0.getD x6.toNat default).Name))) (flatMap (mpE vb) y1) = true /\ lkM (.string ((a0.getD x6.toNat default).Name)) (flatMap (mpE vb) y1) = some (vb (mget y1 ((a0.getD x6.toNat default).Name))) from ⟨(keysM_mp vb ((a0.getD x6.toNat default).Name) y1), (lkM_has vb ((a0.getD x6.toNat default).Name) y1 h1446)⟩)
    have e1448 := (show loadL Try.prog 22 0 [VV.tr (flatMap c_SStroke a0) a0.length] = some (VV.tr (flatMap c_SStroke a0) a0.length) from (ld_one ag22 rfl))
    have e1449 := (show loadL Try.prog 26 (x6.toNat * 2 + 1) (flatMap c_SStroke a0) = some (VV.tr (List.map vi ((a0.getD x6.toNat default).Wear)) (((a0.getD x6.toNat default).Wear).length)) from (ld_flat ag26 c_SStroke 2 1 len_c_SStroke (by omega) a0 default h1444 (by omega)).trans rfl)
    have e1450 := (ti (an e1443 (ti (an h1444 (ti (an e1445 (an e1447 (an e1448 (ti (an h1444 (ti (an e1449 (ti (ti (ti trivial)))))))))))))))
    have e1451 := (show loadL Try.prog 22 0 [VV.tr (flatMap c_SStroke a0) a0.length] = some (VV.tr (flatMap c_SStroke a0) a0.length) from (ld_one ag22 rfl))
    have e1452 := (show loadL Try.prog 9 (x6.toNat * 2 + 0) (flatMap c_SStroke a0) = some (vs ((a0.getD x6.toNat default).Name)) from (ld_flat ag9 c_SStroke 2 0 len_c_SStroke (by omega) a0 default h1444 (by omega)).trans rfl)
    have e1453 := (show keysM (kdV (.string ((a0.getD x6.toNat default).Name))) (flatMap (mpE vb) y1) = true from (keysM_mp vb ((a0.getD x6.toNat default).Name) y1))
    have e1454 := (ti (an e1451 (ti (an h1444 (ti (an e1452 (an e1453 trivial)))))))
    have e1455 := (show loadL Try.prog 22 0 [VV.tr (flatMap c_SStroke a0) a0.length] = some (VV.tr (flatMap c_SStroke a0) a0.length) from (ld_one ag22 rfl))
    have e1456 := (show loadL Try.prog 9 (x6.toNat * 2 + 0) (flatMap c_SStroke a0) = some (vs ((a0.getD x6.toNat default).Name)) from (ld_flat ag9 c_SStroke 2 0 len_c_SStroke (by omega) a0 default h1444 (by omega)).trans rfl)
    obtain ⟨r1457, h1458, h⟩ := bs h
    have e1459 := (ngrind_named_ok k ((a0.getD x6.toNat default).Name) _ h1458)
    obtain ⟨r1460, h1461, h⟩ := bs h
    have e1462 := (ngrind_need_ok k (!(mget y1 ((a0.getD x6.toNat default).Name))) 5 _ h1461)
    have e1463 := (show loadL Try.prog 22 0 [VV.tr (flatMap c_SStroke a0) a0.length] = some (VV.tr (flatMap c_SStroke a0) a0.length) from (ld_one ag22 rfl))
    obtain ⟨h1464, h⟩ := ifn h
    have e1465 := (show loadL Try.prog 26 (((0 : Int)).toNat * 2 + 1) (flatMap c_SStroke a0) = some (VV.tr (List.map vi ((a0.getD ((0 : Int)).toNat default).Wear)) (((a0.getD ((0 : Int)).toNat default).Wear).length)) from (ld_flat ag26 c_SStroke 2 1 len_c_SStroke (by omega) a0 default h1464 (by omega)).trans rfl)
    rcases ifs h with ⟨h1466, h⟩ | ⟨h1466, h⟩
    ·obtain ⟨r1467, h1468, h⟩ := bs h
     have e1469 := (an (decide_eq_true h1466) (ngrind_isWithin_ok k (((a0.getD x6.toNat default).Wear).length : Int) 1 40 _ h1468))
     obtain ⟨r1470, h1471, h⟩ := bs h
     have e1472 := (show loadL Try.prog 22 0 [VV.tr (flatMap c_SStroke a0) a0.length] = some (VV.tr (flatMap c_SStroke a0) a0.length) from (ld_one ag22 rfl))
     have e1473 := (show loadL Try.prog 26 (x6.toNat * 2 + 1) (flatMap c_SStroke a0) = some (VV.tr (List.map vi ((a0.getD x6.toNat default).Wear)) (((a0.getD x6.toNat default).Wear).length)) from (ld_flat ag26 c_SStroke 2 1 len_c_SStroke (by omega) a0 default h1444 (by omega)).trans rfl)
     obtain ⟨r1474, h1475, h⟩ := bs h
     have e1476 := (ngrind_within_ok k 0 100 ((a0.getD x6.toNat default).Wear) _ h1475)
     obtain ⟨r1477, h1478, h⟩ := bs h
     have e1479 := (VC.args (ngrind_firstOf_c0_Lgrind_need_1_grind_need_1_grind_need_1_grind_within_1_ok k (r1457, r1460, r1470, r1474) _ h1478) (eqN0_1 r1457 r1460 r1470 r1474))
     have e1480 := (an e1455 (ti (an h1444 (ti (an e1456 (an e1459 (ti (ti (an e1462 (ti (an e1463 (an h1464 (ti (an e1465 (ti (ti (ti (an (an (decide_eq_true h1466) trivial) (an e1469 (an (decide_eq_true h1466) (an (ngrind_need_ok k r1467 10 _ h1471) (an e1472 (ti (an h1444 (ti (an e1473 (an e1476 (ti (an e1479 (ti trivial))))))))))))))))))))))))))))))
     have e1481 := (an (an Try.func60 (an (ti trivial) (an e1450 (an e1454 (an e1480 trivial))))) (ti trivial))
     rcases ifs h with ⟨h1482, h⟩ | ⟨h1482, h⟩
     ·have h2 := ih _ _ _ h
      obtain ⟨q, hv, hq⟩ := pkR (rd := none) (P := Try.prog) (fn := Try.f63) (k := 0) (s := (ngrind_CheckStrokes_i14_i63_l0_0_h a0 r1219 r1223 r1234 y1 x6)) (ans := [.reg (.n :: []), .br true, .reg (.n :: .n :: []), .reg (arN0_20 a0 x6 y1 r1457 r1460 r1467 r1470 r1474 r1477), .reg (.n :: .n :: []), .br false, .reg (.n :: .n :: [])]) (c := ⟨[(1, none), (5, none), (6, none)], [none, some (flatMap (mpE vb) (mset y1 ((a0.getD x6.toNat default).Name) true)), none, none, none, none], []⟩) (e := .normal) (s1 := (ngrind_CheckStrokes_i14_i63_l0_0_h a0 r1219 r1223 r1234 (mset y1 ((a0.getD x6.toNat default).Name) true) (w64 (x6 + 1)))) (an (an (ti trivial) (an (an (decide_eq_true h1442) trivial) (an (an (ti (ti trivial)) (an (ti (ti (an e1481 (ti trivial)))) (an (ti (ti trivial)) (an (not_f (decide_eq_true h1482)) trivial)))) (ti (ti trivial))))) (ti (an (show upM (.string ((a0.getD x6.toNat default).Name)) (vb true) (flatMap (mpE vb) y1) = flatMap (mpE vb) (mset y1 ((a0.getD x6.toNat default).Name) true) from (by exact upM_mp vb ((a0.getD x6.toNat default).Name) true y1)) trivial))) (by kernel_rfl)
      cases r with
      | inl r => exact round_next pm pn hv hq h2
      | inr r =>
       exact round_next pm pn hv hq h2
     ·injection h with h; subst h
      exact round_stop (c := ⟨[(2, none)], [none, some (flatMap (mpE vb) (mset y1 ((a0.getD x6.toNat default).Name) true)), none, none, none, none], []⟩) (s1 := (ngrind_CheckStrokes_i14_i63_l0_0_e0 a0 r1219 r1223 r1234 (r1477, mset y1 ((a0.getD x6.toNat default).Name) true))) pm pn (ans := [.reg (.n :: []), .br true, .reg (.n :: .n :: []), .reg (arN0_20 a0 x6 y1 r1457 r1460 r1467 r1470 r1474 r1477), .reg (.n :: .n :: []), .br true, .reg (.n :: .n :: [])]) (by kernel_rfl) (by intro e; cases e) (an (an (ti trivial) (an (an (decide_eq_true h1442) trivial) (an (ti (ti trivial)) (an (ti (ti (an e1481 (ti trivial)))) (an (ti (ti trivial)) (an (not_t (decide_eq_false h1482)) (an (ti (ti trivial)) trivial))))))) (ti (an (show upM (.string ((a0.getD x6.toNat default).Name)) (vb true) (flatMap (mpE vb) y1) = flatMap (mpE vb) (mset y1 ((a0.getD x6.toNat default).Name) true) from (by exact upM_mp vb ((a0.getD x6.toNat default).Name) true y1)) trivial)))
    ·obtain ⟨r1483, h1484, h⟩ := bs h
     have e1485 := (show loadL Try.prog 22 0 [VV.tr (flatMap c_SStroke a0) a0.length] = some (VV.tr (flatMap c_SStroke a0) a0.length) from (ld_one ag22 rfl))
     have e1486 := (show loadL Try.prog 26 (x6.toNat * 2 + 1) (flatMap c_SStroke a0) = some (VV.tr (List.map vi ((a0.getD x6.toNat default).Wear)) (((a0.getD x6.toNat default).Wear).length)) from (ld_flat ag26 c_SStroke 2 1 len_c_SStroke (by omega) a0 default h1444 (by omega)).trans rfl)
     obtain ⟨r1487, h1488, h⟩ := bs h
     have e1489 := (ngrind_within_ok k 0 100 ((a0.getD x6.toNat default).Wear) _ h1488)
     obtain ⟨r1490, h1491, h⟩ := bs h
     have e1492 := (VC.args (ngrind_firstOf_c0_Lgrind_need_1_grind_need_1_grind_need_1_grind_within_1_ok k (r1457, r1460, r1483, r1487) _ h1491) (eqN0_1 r1457 r1460 r1483 r1487))
     have e1493 := (an e1455 (ti (an h1444 (ti (an e1456 (an e1459 (ti (ti (an e1462 (ti (an e1463 (an h1464 (ti (an e1465 (ti (ti (ti (an (decide_eq_false h1466) (an (decide_eq_false h1466) (an (decide_eq_false h1466) (an (ngrind_need_ok k false 10 _ h1484) (an e1485 (ti (an h1444 (ti (an e1486 (an e1489 (ti (an e1492 (ti trivial))))))))))))))))))))))))))))))
     have e1494 := (an (an Try.func60 (an (ti trivial) (an e1450 (an e1454 (an e1493 trivial))))) (ti trivial))
     rcases ifs h with ⟨h1495, h⟩ | ⟨h1495, h⟩
     ·have h2 := ih _ _ _ h
      obtain ⟨q, hv, hq⟩ := pkR (rd := none) (P := Try.prog) (fn := Try.f63) (k := 0) (s := (ngrind_CheckStrokes_i14_i63_l0_0_h a0 r1219 r1223 r1234 y1 x6)) (ans := [.reg (.n :: []), .br true, .reg (.n :: .n :: []), .reg (arN0_21 a0 x6 y1 r1457 r1460 r1483 r1487 r1490), .reg (.n :: .n :: []), .br false, .reg (.n :: .n :: [])]) (c := ⟨[(1, none), (5, none), (6, none)], [none, some (flatMap (mpE vb) (mset y1 ((a0.getD x6.toNat default).Name) true)), none, none, none, none], []⟩) (e := .normal) (s1 := (ngrind_CheckStrokes_i14_i63_l0_0_h a0 r1219 r1223 r1234 (mset y1 ((a0.getD x6.toNat default).Name) true) (w64 (x6 + 1)))) (an (an (ti trivial) (an (an (decide_eq_true h1442) trivial) (an (an (ti (ti trivial)) (an (ti (ti (an e1494 (ti trivial)))) (an (ti (ti trivial)) (an (not_f (decide_eq_true h1495)) trivial)))) (ti (ti trivial))))) (ti (an (show upM (.string ((a0.getD x6.toNat default).Name)) (vb true) (flatMap (mpE vb) y1) = flatMap (mpE vb) (mset y1 ((a0.getD x6.toNat default).Name) true) from (by exact upM_mp vb ((a0.getD x6.toNat default).Name) true y1)) trivial))) (by kernel_rfl)
      cases r with
      | inl r => exact round_next pm pn hv hq h2
      | inr r =>
       exact round_next pm pn hv hq h2
     ·injection h with h; subst h
      exact round_stop (c := ⟨[(2, none)], [none, some (flatMap (mpE vb) (mset y1 ((a0.getD x6.toNat default).Name) true)), none, none, none, none], []⟩) (s1 := (ngrind_CheckStrokes_i14_i63_l0_0_e0 a0 r1219 r1223 r1234 (r1490, mset y1 ((a0.getD x6.toNat default).Name) true))) pm pn (ans := [.reg (.n :: []), .br true, .reg (.n :: .n :: []), .reg (arN0_21 a0 x6 y1 r1457 r1460 r1483 r1487 r1490), .reg (.n :: .n :: []), .br true, .reg (.n :: .n :: [])]) (by kernel_rfl) (by intro e; cases e) (an (an (ti trivial) (an (an (decide_eq_true h1442) trivial) (an (ti (ti trivial)) (an (ti (ti (an e1494 (ti trivial)))) (an (ti (ti trivial)) (an (not_t (decide_eq_false h1495)) (an (ti (ti trivial)) trivial))))))) (ti (an (show upM (.string ((a0.getD x6.toNat default).Name)) (vb true) (flatMap (mpE vb) y1) = flatMap (mpE vb) (mset y1 ((a0.getD x6.toNat default).Name) true) from (by exact upM_mp vb ((a0.getD x6.toNat default).Name) true y1)) trivial)))
   ·have e1496 := (show keysM (kdV (.string ((a0.getD x6.toNat default).Name))) (flatMap (mpE vb) y1) = true /\ lkM (.string ((a0.getD x6.toNat default).Name)) (flatMap (mpE vb) y1) = none from ⟨(keysM_mp vb ((a0.getD x6.toNat default).Name) y1), (lkM_no vb ((a0.getD x6.toNat default).Name) y1 (bool_f h1446))⟩)
    have e1497 := (show loadL Try.prog 22 0 [VV.tr (flatMap c_SStroke a0) a0.length] = some (VV.tr (flatMap c_SStroke a0) a0.length) from (ld_one ag22 rfl))
    have e1498 := (show loadL Try.prog 26 (x6.toNat * 2 + 1) (flatMap c_SStroke a0) = some (VV.tr (List.map vi ((a0.getD x6.toNat default).Wear)) (((a0.getD x6.toNat default).Wear).length)) from (ld_flat ag26 c_SStroke 2 1 len_c_SStroke (by omega) a0 default h1444 (by omega)).trans rfl)
    have e1499 := (ti (an e1443 (ti (an h1444 (ti (an e1445 (an e1496 (an e1497 (ti (an h1444 (ti (an e1498 (ti (ti (ti trivial)))))))))))))))
    have e1500 := (show loadL Try.prog 22 0 [VV.tr (flatMap c_SStroke a0) a0.length] = some (VV.tr (flatMap c_SStroke a0) a0.length) from (ld_one ag22 rfl))
    have e1501 := (show loadL Try.prog 9 (x6.toNat * 2 + 0) (flatMap c_SStroke a0) = some (vs ((a0.getD x6.toNat default).Name)) from (ld_flat ag9 c_SStroke 2 0 len_c_SStroke (by omega) a0 default h1444 (by omega)).trans rfl)
    have e1502 := (show keysM (kdV (.string ((a0.getD x6.toNat default).Name))) (flatMap (mpE vb) y1) = true from (keysM_mp vb ((a0.getD x6.toNat default).Name) y1))
    have e1503 := (ti (an e1500 (ti (an h1444 (ti (an e1501 (an e1502 trivial)))))))
    have e1504 := (show loadL Try.prog 22 0 [VV.tr (flatMap c_SStroke a0) a0.length] = some (VV.tr (flatMap c_SStroke a0) a0.length) from (ld_one ag22 rfl))
    have e1505 := (show loadL Try.prog 9 (x6.toNat * 2 + 0) (flatMap c_SStroke a0) = some (vs ((a0.getD x6.toNat default).Name)) from (ld_flat ag9 c_SStroke 2 0 len_c_SStroke (by omega) a0 default h1444 (by omega)).trans rfl)
    obtain ⟨r1506, h1507, h⟩ := bs h
    have e1508 := (ngrind_named_ok k ((a0.getD x6.toNat default).Name) _ h1507)
    obtain ⟨r1509, h1510, h⟩ := bs h
    have e1511 := (show loadL Try.prog 22 0 [VV.tr (flatMap c_SStroke a0) a0.length] = some (VV.tr (flatMap c_SStroke a0) a0.length) from (ld_one ag22 rfl))
    obtain ⟨h1512, h⟩ := ifn h
    have e1513 := (show loadL Try.prog 26 (((0 : Int)).toNat * 2 + 1) (flatMap c_SStroke a0) = some (VV.tr (List.map vi ((a0.getD ((0 : Int)).toNat default).Wear)) (((a0.getD ((0 : Int)).toNat default).Wear).length)) from (ld_flat ag26 c_SStroke 2 1 len_c_SStroke (by omega) a0 default h1512 (by omega)).trans rfl)
    rcases ifs h with ⟨h1514, h⟩ | ⟨h1514, h⟩
    ·obtain ⟨r1515, h1516, h⟩ := bs h
     have e1517 := (an (decide_eq_true h1514) (ngrind_isWithin_ok k (((a0.getD x6.toNat default).Wear).length : Int) 1 40 _ h1516))
     obtain ⟨r1518, h1519, h⟩ := bs h
     have e1520 := (show loadL Try.prog 22 0 [VV.tr (flatMap c_SStroke a0) a0.length] = some (VV.tr (flatMap c_SStroke a0) a0.length) from (ld_one ag22 rfl))
     have e1521 := (show loadL Try.prog 26 (x6.toNat * 2 + 1) (flatMap c_SStroke a0) = some (VV.tr (List.map vi ((a0.getD x6.toNat default).Wear)) (((a0.getD x6.toNat default).Wear).length)) from (ld_flat ag26 c_SStroke 2 1 len_c_SStroke (by omega) a0 default h1444 (by omega)).trans rfl)
     obtain ⟨r1522, h1523, h⟩ := bs h
     have e1524 := (ngrind_within_ok k 0 100 ((a0.getD x6.toNat default).Wear) _ h1523)
     obtain ⟨r1525, h1526, h⟩ := bs h
     have e1527 := (VC.args (ngrind_firstOf_c0_Lgrind_need_1_grind_need_1_grind_need_1_grind_within_1_ok k (r1506, r1509, r1518, r1522) _ h1526) (eqN0_1 r1506 r1509 r1518 r1522))
     have e1528 := (an e1504 (ti (an h1444 (ti (an e1505 (an e1508 (ti (ti (an (ngrind_need_ok k (!false) 5 _ h1510) (ti (an e1511 (an h1512 (ti (an e1513 (ti (ti (ti (an (an (decide_eq_true h1514) trivial) (an e1517 (an (decide_eq_true h1514) (an (ngrind_need_ok k r1515 10 _ h1519) (an e1520 (ti (an h1444 (ti (an e1521 (an e1524 (ti (an e1527 (ti trivial))))))))))))))))))))))))))))))
     have e1529 := (an (an Try.func60 (an (ti trivial) (an e1499 (an e1503 (an e1528 trivial))))) (ti trivial))
     rcases ifs h with ⟨h1530, h⟩ | ⟨h1530, h⟩
     ·have h2 := ih _ _ _ h
      obtain ⟨q, hv, hq⟩ := pkR (rd := none) (P := Try.prog) (fn := Try.f63) (k := 0) (s := (ngrind_CheckStrokes_i14_i63_l0_0_h a0 r1219 r1223 r1234 y1 x6)) (ans := [.reg (.n :: []), .br true, .reg (.n :: .n :: []), .reg (arN0_22 a0 x6 r1506 r1509 r1515 r1518 r1522 r1525), .reg (.n :: .n :: []), .br false, .reg (.n :: .n :: [])]) (c := ⟨[(1, none), (5, none), (6, none)], [none, some (flatMap (mpE vb) (mset y1 ((a0.getD x6.toNat default).Name) true)), none, none, none, none], []⟩) (e := .normal) (s1 := (ngrind_CheckStrokes_i14_i63_l0_0_h a0 r1219 r1223 r1234 (mset y1 ((a0.getD x6.toNat default).Name) true) (w64 (x6 + 1)))) (an (an (ti trivial) (an (an (decide_eq_true h1442) trivial) (an (an (ti (ti trivial)) (an (ti (ti (an e1529 (ti trivial)))) (an (ti (ti trivial)) (an (not_f (decide_eq_true h1530)) trivial)))) (ti (ti trivial))))) (ti (an (show upM (.string ((a0.getD x6.toNat default).Name)) (vb true) (flatMap (mpE vb) y1) = flatMap (mpE vb) (mset y1 ((a0.getD x6.toNat default).Name) true) from (by exact upM_mp vb ((a0.getD x6.toNat default).Name) true y1)) trivial))) (by kernel_rfl)
      cases r with
      | inl r => exact round_next pm pn hv hq h2
      | inr r =>
       exact round_next pm pn hv hq h2
     ·injection h with h; subst h
      exact round_stop (c := ⟨[(2, none)], [none, some (flatMap (mpE vb) (mset y1 ((a0.getD x6.toNat default).Name) true)), none, none, none, none], []⟩) (s1 := (ngrind_CheckStrokes_i14_i63_l0_0_e0 a0 r1219 r1223 r1234 (r1525, mset y1 ((a0.getD x6.toNat default).Name) true))) pm pn (ans := [.reg (.n :: []), .br true, .reg (.n :: .n :: []), .reg (arN0_22 a0 x6 r1506 r1509 r1515 r1518 r1522 r1525), .reg (.n :: .n :: []), .br true, .reg (.n :: .n :: [])]) (by kernel_rfl) (by intro e; cases e) (an (an (ti trivial) (an (an (decide_eq_true h1442) trivial) (an (ti (ti trivial)) (an (ti (ti (an e1529 (ti trivial)))) (an (ti (ti trivial)) (an (not_t (decide_eq_false h1530)) (an (ti (ti trivial)) trivial))))))) (ti (an (show upM (.string ((a0.getD x6.toNat default).Name)) (vb true) (flatMap (mpE vb) y1) = flatMap (mpE vb) (mset y1 ((a0.getD x6.toNat default).Name) true) from (by exact upM_mp vb ((a0.getD x6.toNat default).Name) true y1)) trivial)))
    ·obtain ⟨r1531, h1532, h⟩ := bs h
     have e1533 := (show loadL Try.prog 22 0 [VV.tr (flatMap c_SStroke a0) a0.length] = some (VV.tr (flatMap c_SStroke a0) a0.length) from (ld_one ag22 rfl))
     have e1534 := (show loadL Try.prog 26 (x6.toNat * 2 + 1) (flatMap c_SStroke a0) = some (VV.tr (List.map vi ((a0.getD x6.toNat default).Wear)) (((a0.getD x6.toNat default).Wear).length)) from (ld_flat ag26 c_SStroke 2 1 len_c_SStroke (by omega) a0 default h1444 (by omega)).trans rfl)
     obtain ⟨r1535, h1536, h⟩ := bs h
     have e1537 := (ngrind_within_ok k 0 100 ((a0.getD x6.toNat default).Wear) _ h1536)
     obtain ⟨r1538, h1539, h⟩ := bs h
     have e1540 := (VC.args (ngrind_firstOf_c0_Lgrind_need_1_grind_need_1_grind_need_1_grind_within_1_ok k (r1506, r1509, r1531, r1535) _ h1539) (eqN0_1 r1506 r1509 r1531 r1535))
     have e1541 := (an e1504 (ti (an h1444 (ti (an e1505 (an e1508 (ti (ti (an (ngrind_need_ok k (!false) 5 _ h1510) (ti (an e1511 (an h1512 (ti (an e1513 (ti (ti (ti (an (decide_eq_false h1514) (an (decide_eq_false h1514) (an (decide_eq_false h1514) (an (ngrind_need_ok k false 10 _ h1532) (an e1533 (ti (an h1444 (ti (an e1534 (an e1537 (ti (an e1540 (ti trivial))))))))))))))))))))))))))))))
     have e1542 := (an (an Try.func60 (an (ti trivial) (an e1499 (an e1503 (an e1541 trivial))))) (ti trivial))
     rcases ifs h with ⟨h1543, h⟩ | ⟨h1543, h⟩
     ·have h2 := ih _ _ _ h
      obtain ⟨q, hv, hq⟩ := pkR (rd := none) (P := Try.prog) (fn := Try.f63) (k := 0) (s := (ngrind_CheckStrokes_i14_i63_l0_0_h a0 r1219 r1223 r1234 y1 x6)) (ans := [.reg (.n :: []), .br true, .reg (.n :: .n :: []), .reg (arN0_23 a0 x6 r1506 r1509 r1531 r1535 r1538), .reg (.n :: .n :: []), .br false, .reg (.n :: .n :: [])]) (c := ⟨[(1, none), (5, none), (6, none)], [none, some (flatMap (mpE vb) (mset y1 ((a0.getD x6.toNat default).Name) true)), none, none, none, none], []⟩) (e := .normal) (s1 := (ngrind_CheckStrokes_i14_i63_l0_0_h a0 r1219 r1223 r1234 (mset y1 ((a0.getD x6.toNat default).Name) true) (w64 (x6 + 1)))) (an (an (ti trivial) (an (an (decide_eq_true h1442) trivial) (an (an (ti (ti trivial)) (an (ti (ti (an e1542 (ti trivial)))) (an (ti (ti trivial)) (an (not_f (decide_eq_true h1543)) trivial)))) (ti (ti trivial))))) (ti (an (show upM (.string ((a0.getD x6.toNat default).Name)) (vb true) (flatMap (mpE vb) y1) = flatMap (mpE vb) (mset y1 ((a0.getD x6.toNat default).Name) true) from (by exact upM_mp vb ((a0.getD x6.toNat default).Name) true y1)) trivial))) (by kernel_rfl)
      cases r with
      | inl r => exact round_next pm pn hv hq h2
      | inr r =>
       exact round_next pm pn hv hq h2
     ·injection h with h; subst h
      exact round_stop (c := ⟨[(2, none)], [none, some (flatMap (mpE vb) (mset y1 ((a0.getD x6.toNat default).Name) true)), none, none, none, none], []⟩) (s1 := (ngrind_CheckStrokes_i14_i63_l0_0_e0 a0 r1219 r1223 r1234 (r1538, mset y1 ((a0.getD x6.toNat default).Name) true))) pm pn (ans := [.reg (.n :: []), .br true, .reg (.n :: .n :: []), .reg (arN0_23 a0 x6 r1506 r1509 r1531 r1535 r1538), .reg (.n :: .n :: []), .br true, .reg (.n :: .n :: [])]) (by kernel_rfl) (by intro e; cases e) (an (an (ti trivial) (an (an (decide_eq_true h1442) trivial) (an (ti (ti trivial)) (an (ti (ti (an e1542 (ti trivial)))) (an (ti (ti trivial)) (an (not_t (decide_eq_false h1543)) (an (ti (ti trivial)) trivial))))))) (ti (an (show upM (.string ((a0.getD x6.toNat default).Name)) (vb true) (flatMap (mpE vb) y1) = flatMap (mpE vb) (mset y1 ((a0.getD x6.toNat default).Name) true) from (by exact upM_mp vb ((a0.getD x6.toNat default).Name) true y1)) trivial)))
  ·injection h with h; subst h
   exact round_stop (c := ⟨[], [none, none, none, none, none, none], []⟩) (s1 := (ngrind_CheckStrokes_i14_i63_l0_0_e1 a0 r1219 r1223 r1234 y1)) pm pn (ans := [.reg (.n :: []), .br false]) (by kernel_rfl) (by intro e; cases e) (an (an (ti trivial) (an (decide_eq_false h1442) trivial)) (ti trivial))
noncomputable def arN0_25 (z0 : (List SStroke)) (z1 : (Bool × Int)) (z2 : (Bool × Int)) (z3 : Int) (z4 : Int) : List Ans := (.v (VV.tr (flatMap c_SStroke z0) z0.length) :: .n :: .n :: .call (VV.fn 62 [VV.tp [vb z1.1] 0, VV.tp [vi z1.2] 0]) :: .v (VV.tr (flatMap c_SStroke z0) z0.length) :: .n :: .n :: .call (VV.fn 62 [VV.tp [vb z2.1] 0, VV.tp [vi z2.2] 0]) :: .v (VV.tr (flatMap c_SStroke z0) z0.length) :: .n :: .n :: .inl (inlF Try.f38 [.reg (nN 3 []), .frz 3, .reg (.n :: .n :: [])]) :: .n :: .inl (inlF Try.f14 [.reg (.n :: []), .reg (nN 3 []), .unr 3, .reg (.n :: []), .br true, .reg (.v (VV.pt 5 0) :: .n :: .n :: []), .reg (.n :: .call (vi z3) :: .n :: []), .reg (.n :: .n :: []), .br false, .reg (.n :: .n :: []), .reg (.n :: []), .br true, .reg (.v (VV.pt 5 1) :: .n :: .n :: []), .reg (.n :: .call (vi z4) :: .n :: []), .reg (.n :: .n :: []), .br true, .reg (.n :: .n :: [])]) :: .n :: [])
noncomputable def arN0_26 (z0 : (List SStroke)) (z1 : (Bool × Int)) (z2 : (Bool × Int)) (z3 : Int) : List Ans := (.v (VV.tr (flatMap c_SStroke z0) z0.length) :: .n :: .n :: .call (VV.fn 62 [VV.tp [vb z1.1] 0, VV.tp [vi z1.2] 0]) :: .v (VV.tr (flatMap c_SStroke z0) z0.length) :: .n :: .n :: .call (VV.fn 62 [VV.tp [vb z2.1] 0, VV.tp [vi z2.2] 0]) :: .v (VV.tr (flatMap c_SStroke z0) z0.length) :: .n :: .n :: .inl (inlF Try.f38 [.reg (nN 3 []), .frz 3, .reg (.n :: .n :: [])]) :: .n :: .inl (inlF Try.f14 [.reg (.n :: []), .reg (nN 3 []), .unr 2, .reg (.n :: []), .br true, .reg (.v (VV.pt 5 0) :: .n :: .n :: []), .reg (.n :: .call (vi z3) :: .n :: []), .reg (.n :: .n :: []), .br true, .reg (.n :: .n :: [])]) :: .n :: [])
def ngrind_CheckStrokes (k : Nat) (a0 : (List SStroke)) : Option (Int × Int) :=
 (ngrind_need k (decide (0 < (a0.length : Int))) 10).bind fun r1219 => ((ngrind_need k (decide ((a0.length : Int) <= 12)) 8).bind fun r1223 => ((ngrind_need_1 k r1219.1 r1219.2).bind fun r1229 => (if r1229 = 0 then ((ngrind_need_1 k r1223.1 r1223.2).bind fun r1234 => (if r1234 = 0 then ((ngrind_CheckStrokes_i14_i63_l0_0 k a0 r1219 r1223 r1234 k ([] : List (ByteArray × Bool)) 0).bind fun r1545 => (match r1545 with | .inl r1546 => (if r1546.1 = 0 then ((ngrind_zonesOf k a0).bind fun r1554 => (some (r1554, 0))) else (some (0, r1546.1))) | .inr r1547 => ((ngrind_zonesOf k a0).bind fun r1564 => (some (r1564, 0))))) else (some (0, r1234)))) else (some (0, r1229)))))
theorem ngrind_CheckStrokes_ok (k : Nat) (a0 : (List SStroke)) (r : (Int × Int)) (h : ngrind_CheckStrokes k a0 = some r) : VC Try.prog 34 [VV.tr (flatMap c_SStroke a0) a0.length] (VV.tu [vi r.1, vi r.2]) := by
 unfold ngrind_CheckStrokes at h
 have e1218 := (show loadL Try.prog 22 0 [VV.tr (flatMap c_SStroke a0) a0.length] = some (VV.tr (flatMap c_SStroke a0) a0.length) from (ld_one ag22 rfl))
 obtain ⟨r1219, h1220, h⟩ := bs h
 have e1221 := (ngrind_need_ok k (decide (0 < (a0.length : Int))) 10 _ h1220)
 have e1222 := (show loadL Try.prog 22 0 [VV.tr (flatMap c_SStroke a0) a0.length] = some (VV.tr (flatMap c_SStroke a0) a0.length) from (ld_one ag22 rfl))
 obtain ⟨r1223, h1224, h⟩ := bs h
 have e1225 := (ngrind_need_ok k (decide ((a0.length : Int) <= 12)) 8 _ h1224)
 have e1226 := (show loadL Try.prog 22 0 [VV.tr (flatMap c_SStroke a0) a0.length] = some (VV.tr (flatMap c_SStroke a0) a0.length) from (ld_one ag22 rfl))
 have e1227 := (an (an Try.func38 (an (ti (ti (ti trivial))) (an (ti (ti trivial)) trivial))) (ti trivial))
 have e1228 := (show ((0 : Int) <= 0 /\ (0 : Int) < ((3 : Nat) : Int)) /\ VV.pt 5 (0 + (0 : Int).toNat * 1) = VV.pt 5 0 from ⟨⟨by decide, by decide⟩, rfl⟩)
 obtain ⟨r1229, h1230, h⟩ := bs h
 have e1231 := (ngrind_need_1_ok k r1219.1 r1219.2 _ h1230)
 rcases ifs h with ⟨h1232, h⟩ | ⟨h1232, h⟩
 ·have e1233 := (show ((0 : Int) <= 1 /\ (1 : Int) < ((3 : Nat) : Int)) /\ VV.pt 5 (0 + (1 : Int).toNat * 1) = VV.pt 5 1 from ⟨⟨by decide, by decide⟩, rfl⟩)
  obtain ⟨r1234, h1235, h⟩ := bs h
  have e1236 := (ngrind_need_1_ok k r1223.1 r1223.2 _ h1235)
  rcases ifs h with ⟨h1237, h⟩ | ⟨h1237, h⟩
  ·have e1238 := (show ((0 : Int) <= 2 /\ (2 : Int) < ((3 : Nat) : Int)) /\ VV.pt 5 (0 + (2 : Int).toNat * 1) = VV.pt 5 2 from ⟨⟨by decide, by decide⟩, rfl⟩)
   have e1239 := (show loadL Try.prog 3 0 [vi (a0.length : Int)] = some (vi (a0.length : Int)) from (ld_one ag3 rfl))
   obtain ⟨r1545, h1544, h⟩ := bs h
   have hph1544 := ngrind_CheckStrokes_i14_i63_l0_0_ok k a0 r1219 r1223 r1234 _ _ _ _ h1544
   cases r1545 with
   | inl r1546 =>
    dsimp only at h
    have e1548 := (an (ti (an (show [] = flatMap (mpE vb) ([] : List (ByteArray × Bool)) from rfl) trivial)) (VRun.loop hph1544))
    have e1549 := (an (an Try.func63 (an (ti trivial) (an (an e1239 (ti trivial)) e1548))) (ti trivial))
    rcases ifs h with ⟨h1550, h⟩ | ⟨h1550, h⟩
    ·have e1551 := (an (an Try.func14 (an (ti trivial) (an (an (ti (ti (ti trivial))) (an (an (ti trivial) (an (an (show (decide ((0 : Int) < 3)) = true from (decide_eq_true (by decide))) trivial) (an (an (an e1228 (ti (ti trivial))) (an (ti (an e1231 (ti trivial))) (an (ti (ti trivial)) (an (not_f (decide_eq_true h1232)) trivial)))) (ti (ti trivial))))) (an (an (ti trivial) (an (an (show (decide ((1 : Int) < 3)) = true from (decide_eq_true (by decide))) trivial) (an (an (an e1233 (ti (ti trivial))) (an (ti (an e1236 (ti trivial))) (an (ti (ti trivial)) (an (not_f (decide_eq_true h1237)) trivial)))) (ti (ti trivial))))) (an (an (ti trivial) (an (an (show (decide ((2 : Int) < 3)) = true from (decide_eq_true (by decide))) trivial) (an (an (an e1238 (ti (ti trivial))) (an (ti (an e1549 (ti trivial))) (an (ti (ti trivial)) (an (not_f (decide_eq_true h1550)) trivial)))) (ti (ti trivial))))) (an (ti trivial) (an (show (decide ((3 : Int) < 3)) = false from (decide_eq_false (by decide))) trivial)))))) (an (ti trivial) trivial)))) (ti trivial))
     have e1552 := (an e1218 (ti (ti (an e1221 (an e1222 (ti (ti (an e1225 (an e1226 (ti (ti (an e1227 (ti (an e1551 (ti trivial)))))))))))))))
     have e1553 := (show loadL Try.prog 22 0 [VV.tr (flatMap c_SStroke a0) a0.length] = some (VV.tr (flatMap c_SStroke a0) a0.length) from (ld_one ag22 rfl))
     obtain ⟨r1554, h1555, h⟩ := bs h
     have e1556 := (an e1553 (an (ngrind_zonesOf_ok k a0 _ h1555) (ti (ti trivial))))
     injection h with h; subst h
     exact fun_ok pm pn Try.func34 (r0 := VV.tu [vi r1554, vi 0]) (ans := [.reg (nN 3 []), .frz 0, .reg (nN 3 []), .reg (.v (VV.tr (flatMap c_SStroke a0) a0.length) :: .n :: .n :: .call (VV.fn 62 [VV.tp [vb r1219.1] 0, VV.tp [vi r1219.2] 0]) :: .v (VV.tr (flatMap c_SStroke a0) a0.length) :: .n :: .n :: .call (VV.fn 62 [VV.tp [vb r1223.1] 0, VV.tp [vi r1223.2] 0]) :: .v (VV.tr (flatMap c_SStroke a0) a0.length) :: .n :: .n :: .inl (inlF Try.f38 [.reg (nN 3 []), .frz 3, .reg (.n :: .n :: [])]) :: .n :: .inl (inlF Try.f14 [.reg (.n :: []), .reg (nN 3 []), .unr 5, .reg (.n :: []), .br true, .reg (.v (VV.pt 5 0) :: .n :: .n :: []), .reg (.n :: .call (vi r1229) :: .n :: []), .reg (.n :: .n :: []), .br false, .reg (.n :: .n :: []), .reg (.n :: []), .br true, .reg (.v (VV.pt 5 1) :: .n :: .n :: []), .reg (.n :: .call (vi r1234) :: .n :: []), .reg (.n :: .n :: []), .br false, .reg (.n :: .n :: []), .reg (.n :: []), .br true, .reg (.v (VV.pt 5 2) :: .n :: .n :: []), .reg (.n :: .inl (inlF Try.f63 [.reg (.n :: []), .reg (.v (vi (a0.length : Int)) :: .n :: []), .sub ⟨[(1, none), (5, none), (6, none)], [none, some (flatMap (mpE vb) ([] : List (ByteArray × Bool))), none, none, none, none], []⟩ .ret (ngrind_CheckStrokes_i14_i63_l0_0_e0 a0 r1219 r1223 r1234 r1546)]) :: .n :: []), .reg (.n :: .n :: []), .br false, .reg (.n :: .n :: []), .reg (.n :: []), .br false, .reg (.n :: [])]) :: .n :: []), .reg (.n :: .n :: []), .br false, .reg (.v (VV.tr (flatMap c_SStroke a0) a0.length) :: .call (vi r1554) :: .n :: .n :: [])]) (fr := true) (by kernel_rfl) (an (an (ti (ti (ti trivial))) (an (ti (ti (ti trivial))) (an e1552 (an (an (ti (ti trivial)) (an (show (!(decide ((0 : Int) = 0))) = false from (not_f (decide_eq_true (by decide)))) trivial)) (an e1556 trivial))))) (ti (ti trivial))) (Wv.refl _)
    ·have e1557 := (an (an Try.func14 (an (ti trivial) (an (ti (ti (ti trivial))) (an (an (ti trivial) (an (an (show (decide ((0 : Int) < 3)) = true from (decide_eq_true (by decide))) trivial) (an (an (an e1228 (ti (ti trivial))) (an (ti (an e1231 (ti trivial))) (an (ti (ti trivial)) (an (not_f (decide_eq_true h1232)) trivial)))) (ti (ti trivial))))) (an (an (ti trivial) (an (an (show (decide ((1 : Int) < 3)) = true from (decide_eq_true (by decide))) trivial) (an (an (an e1233 (ti (ti trivial))) (an (ti (an e1236 (ti trivial))) (an (ti (ti trivial)) (an (not_f (decide_eq_true h1237)) trivial)))) (ti (ti trivial))))) (an (ti trivial) (an (an (show (decide ((2 : Int) < 3)) = true from (decide_eq_true (by decide))) trivial) (an (an e1238 (ti (ti trivial))) (an (ti (an e1549 (ti trivial))) (an (ti (ti trivial)) (an (not_t (decide_eq_false h1550)) (an (ti (ti trivial)) trivial)))))))))))) (ti trivial))
     have e1558 := (an e1218 (ti (ti (an e1221 (an e1222 (ti (ti (an e1225 (an e1226 (ti (ti (an e1227 (ti (an e1557 (ti trivial)))))))))))))))
     injection h with h; subst h
     exact fun_ok pm pn Try.func34 (r0 := VV.tu [vi 0, vi r1546.1]) (ans := [.reg (nN 3 []), .frz 0, .reg (nN 3 []), .reg (.v (VV.tr (flatMap c_SStroke a0) a0.length) :: .n :: .n :: .call (VV.fn 62 [VV.tp [vb r1219.1] 0, VV.tp [vi r1219.2] 0]) :: .v (VV.tr (flatMap c_SStroke a0) a0.length) :: .n :: .n :: .call (VV.fn 62 [VV.tp [vb r1223.1] 0, VV.tp [vi r1223.2] 0]) :: .v (VV.tr (flatMap c_SStroke a0) a0.length) :: .n :: .n :: .inl (inlF Try.f38 [.reg (nN 3 []), .frz 3, .reg (.n :: .n :: [])]) :: .n :: .inl (inlF Try.f14 [.reg (.n :: []), .reg (nN 3 []), .unr 4, .reg (.n :: []), .br true, .reg (.v (VV.pt 5 0) :: .n :: .n :: []), .reg (.n :: .call (vi r1229) :: .n :: []), .reg (.n :: .n :: []), .br false, .reg (.n :: .n :: []), .reg (.n :: []), .br true, .reg (.v (VV.pt 5 1) :: .n :: .n :: []), .reg (.n :: .call (vi r1234) :: .n :: []), .reg (.n :: .n :: []), .br false, .reg (.n :: .n :: []), .reg (.n :: []), .br true, .reg (.v (VV.pt 5 2) :: .n :: .n :: []), .reg (.n :: .inl (inlF Try.f63 [.reg (.n :: []), .reg (.v (vi (a0.length : Int)) :: .n :: []), .sub ⟨[(1, none), (5, none), (6, none)], [none, some (flatMap (mpE vb) ([] : List (ByteArray × Bool))), none, none, none, none], []⟩ .ret (ngrind_CheckStrokes_i14_i63_l0_0_e0 a0 r1219 r1223 r1234 r1546)]) :: .n :: []), .reg (.n :: .n :: []), .br true, .reg (.n :: .n :: [])]) :: .n :: []), .reg (.n :: .n :: []), .br true, .reg (nN 3 [])]) (fr := true) (by kernel_rfl) (an (an (ti (ti (ti trivial))) (an (ti (ti (ti trivial))) (an e1558 (an (ti (ti trivial)) (an (not_t (decide_eq_false h1550)) (an (ti (ti (ti trivial))) trivial)))))) (ti (ti trivial))) (Wv.refl _)
   | inr r1547 =>
    dsimp only at h
    have e1559 := (an (ti (an (show [] = flatMap (mpE vb) ([] : List (ByteArray × Bool)) from rfl) trivial)) (VRun.loop hph1544))
    have e1560 := (an (an Try.func63 (an (ti trivial) (an (an (an e1239 (ti trivial)) e1559) (an (ti trivial) trivial)))) (ti trivial))
    have e1561 := (an (an Try.func14 (an (ti trivial) (an (an (ti (ti (ti trivial))) (an (an (ti trivial) (an (an (show (decide ((0 : Int) < 3)) = true from (decide_eq_true (by decide))) trivial) (an (an (an e1228 (ti (ti trivial))) (an (ti (an e1231 (ti trivial))) (an (ti (ti trivial)) (an (not_f (decide_eq_true h1232)) trivial)))) (ti (ti trivial))))) (an (an (ti trivial) (an (an (show (decide ((1 : Int) < 3)) = true from (decide_eq_true (by decide))) trivial) (an (an (an e1233 (ti (ti trivial))) (an (ti (an e1236 (ti trivial))) (an (ti (ti trivial)) (an (not_f (decide_eq_true h1237)) trivial)))) (ti (ti trivial))))) (an (an (ti trivial) (an (an (show (decide ((2 : Int) < 3)) = true from (decide_eq_true (by decide))) trivial) (an (an (an e1238 (ti (ti trivial))) (an (ti (an e1560 (ti trivial))) (an (ti (ti trivial)) (an (show (!(decide ((0 : Int) = 0))) = false from (not_f (decide_eq_true (by decide)))) trivial)))) (ti (ti trivial))))) (an (ti trivial) (an (show (decide ((3 : Int) < 3)) = false from (decide_eq_false (by decide))) trivial)))))) (an (ti trivial) trivial)))) (ti trivial))
    have e1562 := (an e1218 (ti (ti (an e1221 (an e1222 (ti (ti (an e1225 (an e1226 (ti (ti (an e1227 (ti (an e1561 (ti trivial)))))))))))))))
    have e1563 := (show loadL Try.prog 22 0 [VV.tr (flatMap c_SStroke a0) a0.length] = some (VV.tr (flatMap c_SStroke a0) a0.length) from (ld_one ag22 rfl))
    obtain ⟨r1564, h1565, h⟩ := bs h
    have e1566 := (an e1563 (an (ngrind_zonesOf_ok k a0 _ h1565) (ti (ti trivial))))
    injection h with h; subst h
    exact fun_ok pm pn Try.func34 (r0 := VV.tu [vi r1564, vi 0]) (ans := [.reg (nN 3 []), .frz 0, .reg (nN 3 []), .reg (.v (VV.tr (flatMap c_SStroke a0) a0.length) :: .n :: .n :: .call (VV.fn 62 [VV.tp [vb r1219.1] 0, VV.tp [vi r1219.2] 0]) :: .v (VV.tr (flatMap c_SStroke a0) a0.length) :: .n :: .n :: .call (VV.fn 62 [VV.tp [vb r1223.1] 0, VV.tp [vi r1223.2] 0]) :: .v (VV.tr (flatMap c_SStroke a0) a0.length) :: .n :: .n :: .inl (inlF Try.f38 [.reg (nN 3 []), .frz 3, .reg (.n :: .n :: [])]) :: .n :: .inl (inlF Try.f14 [.reg (.n :: []), .reg (nN 3 []), .unr 5, .reg (.n :: []), .br true, .reg (.v (VV.pt 5 0) :: .n :: .n :: []), .reg (.n :: .call (vi r1229) :: .n :: []), .reg (.n :: .n :: []), .br false, .reg (.n :: .n :: []), .reg (.n :: []), .br true, .reg (.v (VV.pt 5 1) :: .n :: .n :: []), .reg (.n :: .call (vi r1234) :: .n :: []), .reg (.n :: .n :: []), .br false, .reg (.n :: .n :: []), .reg (.n :: []), .br true, .reg (.v (VV.pt 5 2) :: .n :: .n :: []), .reg (.n :: .inl (inlF Try.f63 [.reg (.n :: []), .reg (.v (vi (a0.length : Int)) :: .n :: []), .sub ⟨[(1, none), (5, none), (6, none)], [none, some (flatMap (mpE vb) ([] : List (ByteArray × Bool))), none, none, none, none], []⟩ (.exit 0) (ngrind_CheckStrokes_i14_i63_l0_0_e1 a0 r1219 r1223 r1234 r1547), .reg (.n :: [])]) :: .n :: []), .reg (.n :: .n :: []), .br false, .reg (.n :: .n :: []), .reg (.n :: []), .br false, .reg (.n :: [])]) :: .n :: []), .reg (.n :: .n :: []), .br false, .reg (.v (VV.tr (flatMap c_SStroke a0) a0.length) :: .call (vi r1564) :: .n :: .n :: [])]) (fr := true) (by kernel_rfl) (an (an (ti (ti (ti trivial))) (an (ti (ti (ti trivial))) (an e1562 (an (an (ti (ti trivial)) (an (show (!(decide ((0 : Int) = 0))) = false from (not_f (decide_eq_true (by decide)))) trivial)) (an e1566 trivial))))) (ti (ti trivial))) (Wv.refl _)
  ·have e1567 := (an (an Try.func14 (an (ti trivial) (an (ti (ti (ti trivial))) (an (an (ti trivial) (an (an (show (decide ((0 : Int) < 3)) = true from (decide_eq_true (by decide))) trivial) (an (an (an e1228 (ti (ti trivial))) (an (ti (an e1231 (ti trivial))) (an (ti (ti trivial)) (an (not_f (decide_eq_true h1232)) trivial)))) (ti (ti trivial))))) (an (ti trivial) (an (an (show (decide ((1 : Int) < 3)) = true from (decide_eq_true (by decide))) trivial) (an (an e1233 (ti (ti trivial))) (an (ti (an e1236 (ti trivial))) (an (ti (ti trivial)) (an (not_t (decide_eq_false h1237)) (an (ti (ti trivial)) trivial))))))))))) (ti trivial))
   have e1568 := (an e1218 (ti (ti (an e1221 (an e1222 (ti (ti (an e1225 (an e1226 (ti (ti (an e1227 (ti (an e1567 (ti trivial)))))))))))))))
   injection h with h; subst h
   exact fun_ok pm pn Try.func34 (r0 := VV.tu [vi 0, vi r1234]) (ans := [.reg (nN 3 []), .frz 0, .reg (nN 3 []), .reg (arN0_25 a0 r1219 r1223 r1229 r1234), .reg (.n :: .n :: []), .br true, .reg (nN 3 [])]) (fr := true) (by kernel_rfl) (an (an (ti (ti (ti trivial))) (an (ti (ti (ti trivial))) (an e1568 (an (ti (ti trivial)) (an (not_t (decide_eq_false h1237)) (an (ti (ti (ti trivial))) trivial)))))) (ti (ti trivial))) (Wv.refl _)
 ·have e1569 := (an (an Try.func14 (an (ti trivial) (an (ti (ti (ti trivial))) (an (ti trivial) (an (an (show (decide ((0 : Int) < 3)) = true from (decide_eq_true (by decide))) trivial) (an (an e1228 (ti (ti trivial))) (an (ti (an e1231 (ti trivial))) (an (ti (ti trivial)) (an (not_t (decide_eq_false h1232)) (an (ti (ti trivial)) trivial)))))))))) (ti trivial))
  have e1570 := (an e1218 (ti (ti (an e1221 (an e1222 (ti (ti (an e1225 (an e1226 (ti (ti (an e1227 (ti (an e1569 (ti trivial)))))))))))))))
  injection h with h; subst h
  exact fun_ok pm pn Try.func34 (r0 := VV.tu [vi 0, vi r1229]) (ans := [.reg (nN 3 []), .frz 0, .reg (nN 3 []), .reg (arN0_26 a0 r1219 r1223 r1229), .reg (.n :: .n :: []), .br true, .reg (nN 3 [])]) (fr := true) (by kernel_rfl) (an (an (ti (ti (ti trivial))) (an (ti (ti (ti trivial))) (an e1570 (an (ti (ti trivial)) (an (not_t (decide_eq_false h1232)) (an (ti (ti (ti trivial))) trivial)))))) (ti (ti trivial))) (Wv.refl _)
end Go.Proofs.Ytodaannbkfmhfaa.Vg

/- Written by a program out of the program: what Go functions do, as plain functions, and their contracts. -/
import Derived.Test.YtgacnndakgpaeaaB2
namespace Go.Proofs.Ytgacnndakgpaeaa.Vg
set_option maxRecDepth 100000
set_option maxHeartbeats 4000000
set_option linter.unusedVariables false
set_option linter.unusedSimpArgs false
open Go Go.Proofs.Ytgacnndakgpaeaa.Ev Go.Proofs.Ytgacnndakgpaeaa.Vv
theorem eqB3_0 (z0 : Int) : [vi 0, vi 100000, VV.tr (List.map vi ([z0] : List Int)) (([z0] : List Int).length)] = [vi 0, vi 100000, VV.tr [vi z0] 1] := by first | rfl | (simp only [unfr_vi, List.map_cons, List.map_nil, un_i, un_tr, List.length_map, List.length_cons, List.length_nil]; done) | (simp only [unfr_vi, List.map_cons, List.map_nil, un_i, un_tr, List.length_map, List.length_cons, List.length_nil]; rfl) | (simp only [unfr_vi, List.map_cons, List.map_nil, un_i, un_tr, List.length_map, List.length_cons, List.length_nil, List.length_cons, List.length_nil, List.length_append]; done)
def npoint_checkDay (k : Nat) (a0 : Int) : Option Int :=
  (npoint_areWithin k 0 100000 ([a0] : List Int)).bind fun r805 => (if r805 = true then (some 0) else (some 2))
theorem npoint_checkDay_ok (k : Nat) (a0 : Int) (r : Int) (h : npoint_checkDay k a0 = some r) : VC Go.Proofs.Try.prog 37 [vi a0] (vi r) := by
 unfold npoint_checkDay at h
 obtain ⟨r805, h806, h⟩ := bs h
 have e807 := (VC.args (npoint_areWithin_ok k 0 100000 ([a0] : List Int) _ h806) (eqB3_0 a0))
 rcases ifs h with ⟨h808, h⟩ | ⟨h808, h⟩
 ·injection h with h; subst h
  exact fun_ok pm pn Go.Proofs.Try.func37 (r0 := vi 0) (ans := [.reg (.n :: []), .reg (.n :: .v VV.any :: .call (vb r805) :: .n :: []), .br false, .reg (.n :: [])]) (fr := true) (by kernel_rfl) (an (an (ti trivial) (an (an (ti (ti (an e807 (ti trivial)))) (an (not_f h808) trivial)) (an (ti trivial) trivial))) (ti trivial)) (Wv.refl _)
 ·injection h with h; subst h
  exact fun_ok pm pn Go.Proofs.Try.func37 (r0 := vi 2) (ans := [.reg (.n :: []), .reg (.n :: .v VV.any :: .call (vb r805) :: .n :: []), .br true, .reg (.n :: [])]) (fr := true) (by kernel_rfl) (an (an (ti trivial) (an (ti (ti (an e807 (ti trivial)))) (an (not_t (bool_f h808)) (an (ti trivial) trivial)))) (ti trivial)) (Wv.refl _)
def npoint_checkSight (k : Nat) (a0 : SSkyMount) (a1 : SSkyTarget) (a2 : Int) : Option Int :=
  (npoint_CheckMount k a0).bind fun r812 => (if r812 = 0 then ((npoint_CheckTarget k a1).bind fun r816 => (if r816 = 0 then ((npoint_checkDay k a2).bind fun r820 => (some r820)) else (some r816))) else (some r812))
theorem npoint_checkSight_ok (k : Nat) (a0 : SSkyMount) (a1 : SSkyTarget) (a2 : Int) (r : Int) (h : npoint_checkSight k a0 a1 a2 = some r) : VC Go.Proofs.Try.prog 19 [VV.ag (c_SSkyMount a0), VV.ag (c_SSkyTarget a1), vi a2] (vi r) := by
 unfold npoint_checkSight at h
 obtain ⟨r812, h813, h⟩ := bs h
 have e814 := (ti (an (npoint_CheckMount_ok k a0 _ h813) (ti trivial)))
 rcases ifs h with ⟨h815, h⟩ | ⟨h815, h⟩
 ·obtain ⟨r816, h817, h⟩ := bs h
  have e818 := (ti (an (npoint_CheckTarget_ok k a1 _ h817) (ti trivial)))
  rcases ifs h with ⟨h819, h⟩ | ⟨h819, h⟩
  ·obtain ⟨r820, h821, h⟩ := bs h
   have e822 := (ti (an (npoint_checkDay_ok k a2 _ h821) (ti trivial)))
   injection h with h; subst h
   exact fun_ok pm pn Go.Proofs.Try.func19 (r0 := vi r820) (ans := [.reg (nN 3 []), .reg (.n :: .call (vi r812) :: .n :: []), .reg (.n :: .n :: []), .br false, .reg (.n :: .call (vi r816) :: .n :: []), .reg (.n :: .n :: []), .br false, .reg (.n :: .call (vi r820) :: .n :: [])]) (fr := true) (by kernel_rfl) (an (an (ti (ti (ti trivial))) (an (an e814 (an (ti (ti trivial)) (an (not_f (decide_eq_true h815)) trivial))) (an (an e818 (an (ti (ti trivial)) (an (not_f (decide_eq_true h819)) trivial))) (an e822 trivial)))) (ti trivial)) (Wv.refl _)
  ·injection h with h; subst h
   exact fun_ok pm pn Go.Proofs.Try.func19 (r0 := vi r816) (ans := [.reg (nN 3 []), .reg (.n :: .call (vi r812) :: .n :: []), .reg (.n :: .n :: []), .br false, .reg (.n :: .call (vi r816) :: .n :: []), .reg (.n :: .n :: []), .br true, .reg (.n :: .n :: [])]) (fr := true) (by kernel_rfl) (an (an (ti (ti (ti trivial))) (an (an e814 (an (ti (ti trivial)) (an (not_f (decide_eq_true h815)) trivial))) (an e818 (an (ti (ti trivial)) (an (not_t (decide_eq_false h819)) (an (ti (ti trivial)) trivial)))))) (ti trivial)) (Wv.refl _)
 ·injection h with h; subst h
  exact fun_ok pm pn Go.Proofs.Try.func19 (r0 := vi r812) (ans := [.reg (nN 3 []), .reg (.n :: .call (vi r812) :: .n :: []), .reg (.n :: .n :: []), .br true, .reg (.n :: .n :: [])]) (fr := true) (by kernel_rfl) (an (an (ti (ti (ti trivial))) (an e814 (an (ti (ti trivial)) (an (not_t (decide_eq_false h815)) (an (ti (ti trivial)) trivial))))) (ti trivial)) (Wv.refl _)
theorem eqB3_1 (z0 : Int) : VV.tu [VV.ag [vi 0, vi 0], vi z0] = VV.tu [VV.ag (c_A29 (⟨0, 0⟩ : A29)), vi z0] := by first | rfl | (simp only [unfr_vi, List.map_cons, List.map_nil, un_i, unfr_c_A29]; done) | (simp only [unfr_vi, List.map_cons, List.map_nil, un_i, unfr_c_A29]; rfl) | (simp only [unfr_vi, List.map_cons, List.map_nil, un_i, unfr_c_A29, List.length_cons, List.length_nil, List.length_append]; done)
def npoint_Apparent (k : Nat) (a0 : SSkyMount) (a1 : SSkyTarget) (a2 : Int) : Option (A29 × Int) :=
  (npoint_checkSight k a0 a1 a2).bind fun r830 => (if r830 = 0 then ((npoint_apparent k a0 a1 a2).bind fun r834 => (some (r834, 0))) else (some ((⟨0, 0⟩ : A29), r830)))
theorem npoint_Apparent_ok (k : Nat) (a0 : SSkyMount) (a1 : SSkyTarget) (a2 : Int) (r : (A29 × Int)) (h : npoint_Apparent k a0 a1 a2 = some r) : VC Go.Proofs.Try.prog 6 [VV.ag (c_SSkyMount a0), VV.ag (c_SSkyTarget a1), vi a2] (VV.tu [VV.ag (c_A29 r.1), vi r.2]) := by
 unfold npoint_Apparent at h
 obtain ⟨r830, h831, h⟩ := bs h
 have e832 := (npoint_checkSight_ok k a0 a1 a2 _ h831)
 rcases ifs h with ⟨h833, h⟩ | ⟨h833, h⟩
 ·obtain ⟨r834, h835, h⟩ := bs h
  have e836 := (ti (ti (ti (an (npoint_apparent_ok k a0 a1 a2 _ h835) (ti (ti trivial))))))
  injection h with h; subst h
  exact fun_ok pm pn Go.Proofs.Try.func6 (r0 := VV.tu [VV.ag (c_A29 r834), vi 0]) (ans := [.reg (nN 4 []), .reg (nN 3 (.call (vi r830) :: .n :: [])), .reg (.n :: .n :: []), .br false, .reg (nN 3 (.call (VV.ag (c_A29 r834)) :: .n :: .n :: []))]) (fr := true) (by kernel_rfl) (an (an (ti (ti (ti (ti trivial)))) (an (an (ti (ti (ti (an e832 (ti trivial))))) (an (ti (ti trivial)) (an (not_f (decide_eq_true h833)) trivial))) (an e836 trivial))) (an (ti (ti (ti trivial))) (ti trivial))) (Wv.refl _)
 ·injection h with h; subst h
  exact fun_ok pm pn Go.Proofs.Try.func6 (r0 := VV.tu [VV.ag [vi 0, vi 0], vi r830]) (ans := [.reg (nN 4 []), .reg (nN 3 (.call (vi r830) :: .n :: [])), .reg (.n :: .n :: []), .br true, .reg (nN 4 [])]) (fr := true) (by kernel_rfl) (an (an (ti (ti (ti (ti trivial)))) (an (ti (ti (ti (an e832 (ti trivial))))) (an (ti (ti trivial)) (an (not_t (decide_eq_false h833)) (an (ti (ti (ti (ti trivial)))) trivial))))) (an (ti (ti (ti trivial))) (ti trivial))) (Wv.of_eq (eqB3_1 r830))
def npoint_Turns (k : Nat) (a0 : SSkyMount) (a1 : SSkyTarget) (a2 : Int) : Option ((List Int) × Int) :=
  (npoint_checkSight k a0 a1 a2).bind fun r845 => (if r845 = 0 then ((npoint_stopAt k a0 a1 a2).bind fun r849 => (some (r849.1.turns, r849.2))) else (some ([], r845)))
theorem npoint_Turns_ok (k : Nat) (a0 : SSkyMount) (a1 : SSkyTarget) (a2 : Int) (r : ((List Int) × Int)) (h : npoint_Turns k a0 a1 a2 = some r) : VC Go.Proofs.Try.prog 8 [VV.ag (c_SSkyMount a0), VV.ag (c_SSkyTarget a1), vi a2] (VV.tu [VV.fr (List.map vi r.1) r.1.length, vi r.2]) := by
 unfold npoint_Turns at h
 obtain ⟨r845, h846, h⟩ := bs h
 have e847 := (npoint_checkSight_ok k a0 a1 a2 _ h846)
 rcases ifs h with ⟨h848, h⟩ | ⟨h848, h⟩
 ·obtain ⟨r849, h850, h⟩ := bs h
  have e851 := (show VC Go.Proofs.Try.prog 22 [VV.ag (c_SSkyMount a0), VV.ag (c_SSkyTarget a1), vi a2] (VV.tu [VV.ag (g_Sstop r849.1), vi r849.2]) from (VC.weak (npoint_stopAt_ok k a0 a1 a2 _ h850) (Wv.tuL (.cons (Wv.agL (.cons (Wv.refl _) (.cons (Wv.refl _) (.cons (Wv.refl _) (.cons (Wv.refl _) (.cons (Wv.refl _) (.cons (Wv.refl _) (.cons (Wv.fw rfl rfl) (.cons (Wv.fw rfl rfl) .nil))))))))) (.cons (Wv.refl _) .nil)))))
  have e852 := (ti (ti (ti (an e851 (ti (ti (ti (ti (ti (ti trivial))))))))))
  injection h with h; subst h
  exact fun_ok pm pn Go.Proofs.Try.func8 (r0 := VV.tu [VV.fr (List.map vi r849.1.turns) r849.1.turns.length, vi r849.2]) (ans := [.reg (nN 4 []), .reg (nN 3 (.call (vi r845) :: .n :: [])), .reg (.n :: .n :: []), .br false, .reg (nN 3 (.call (VV.tu [VV.ag (g_Sstop r849.1), vi r849.2]) :: nN 6 [])), .reg (nN 5 [])]) (fr := true) (by kernel_rfl) (an (an (ti (ti (ti (ti trivial)))) (an (an (ti (ti (ti (an e847 (ti trivial))))) (an (ti (ti trivial)) (an (not_f (decide_eq_true h848)) trivial))) (an e852 (an (ti (ti (ti (ti (ti trivial))))) trivial)))) (ti (ti trivial))) (Wv.refl _)
 ·injection h with h; subst h
  exact fun_ok pm pn Go.Proofs.Try.func8 (r0 := VV.tu [VV.c (.slice none 0 0), vi r845]) (ans := [.reg (nN 4 []), .reg (nN 3 (.call (vi r845) :: .n :: [])), .reg (.n :: .n :: []), .br true, .reg (nN 3 [])]) (fr := true) (by kernel_rfl) (an (an (ti (ti (ti (ti trivial)))) (an (ti (ti (ti (an e847 (ti trivial))))) (an (ti (ti trivial)) (an (not_t (decide_eq_false h848)) (an (ti (ti (ti trivial))) trivial))))) (ti (ti trivial))) (Wv.tuL (.cons Wv.nilFr (.cons (Wv.refl _) .nil)))
end Go.Proofs.Ytgacnndakgpaeaa.Vg

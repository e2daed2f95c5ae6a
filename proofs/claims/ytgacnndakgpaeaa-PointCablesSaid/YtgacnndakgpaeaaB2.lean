/- Written by a program out of the program: what Go functions do, as plain functions, and their contracts. -/
import Derived.Test.YtgacnndakgpaeaaB1
namespace Go.Proofs.Ytgacnndakgpaeaa.Vg
set_option maxRecDepth 100000
set_option maxHeartbeats 4000000
set_option linter.unusedVariables false
set_option linter.unusedSimpArgs false
open Go Go.Proofs.Ytgacnndakgpaeaa.Ev Go.Proofs.Ytgacnndakgpaeaa.Vv
structure SSkyMount where
  Least : Int
  Most : Int
  Low : Int
  High : Int
  Speed : Int
  Refraction : (List SSkyRow)
  Drift : (List SSkyRow)
  deriving Inhabited
def c_SSkyMount (x : SSkyMount) : List VV := [vi x.Least, vi x.Most, vi x.Low, vi x.High, vi x.Speed, VV.tr (List.flatMap c_SSkyRow x.Refraction) x.Refraction.length, VV.tr (List.flatMap c_SSkyRow x.Drift) x.Drift.length]
theorem len_c_SSkyMount (x : SSkyMount) : (c_SSkyMount x).length = 7 := rfl
def g_SSkyMount (x : SSkyMount) : List VV := [vi x.Least, vi x.Most, vi x.Low, vi x.High, vi x.Speed, VV.fr (List.flatMap c_SSkyRow x.Refraction) x.Refraction.length, VV.fr (List.flatMap c_SSkyRow x.Drift) x.Drift.length]
theorem len_g_SSkyMount (x : SSkyMount) : (g_SSkyMount x).length = 7 := rfl
theorem still_c_SSkyMount (xs : List SSkyMount) : (xs.flatMap c_SSkyMount).all VV.still = true := all_flat (fun _ => rfl) xs
theorem still_g_SSkyMount (xs : List SSkyMount) : (xs.flatMap g_SSkyMount).all VV.still = true := all_flat (fun _ => rfl) xs
theorem unfr_c_SSkyMount (xs : List SSkyMount) : (xs.flatMap c_SSkyMount).map unfr = xs.flatMap c_SSkyMount := unfr_flat2 (fun _ => rfl) xs
theorem unfr_g_SSkyMount (xs : List SSkyMount) : (xs.flatMap g_SSkyMount).map unfr = xs.flatMap c_SSkyMount := unfr_flat2 (fun _ => rfl) xs
theorem new0_g_SSkyMount (xs : List SSkyMount) : (xs.flatMap g_SSkyMount).all new0 = true := all_flat (fun _ => rfl) xs
structure SSkyTarget where
  Name : ByteArray
  Azimuth : Int
  Height : Int
  From : Int
  To : Int
  Dwell : Int
  deriving Inhabited
def c_SSkyTarget (x : SSkyTarget) : List VV := [vs x.Name, vi x.Azimuth, vi x.Height, vi x.From, vi x.To, vi x.Dwell]
theorem len_c_SSkyTarget (x : SSkyTarget) : (c_SSkyTarget x).length = 6 := rfl
theorem still_c_SSkyTarget (xs : List SSkyTarget) : (xs.flatMap c_SSkyTarget).all VV.still = true := all_flat (fun _ => rfl) xs
theorem isC_c_SSkyTarget (xs : List SSkyTarget) : (xs.flatMap c_SSkyTarget).all VV.isC = true := all_flat (fun _ => rfl) xs
theorem new0_c_SSkyTarget (xs : List SSkyTarget) : (xs.flatMap c_SSkyTarget).all new0 = true := all_flat (fun _ => rfl) xs
theorem unfr_c_SSkyTarget (xs : List SSkyTarget) : (xs.flatMap c_SSkyTarget).map unfr = xs.flatMap c_SSkyTarget := unfr_flat (fun _ => rfl) xs
structure A29 where
  e0 : Int
  e1 : Int
  deriving Inhabited
def c_A29 (x : A29) : List VV := [vi x.e0, vi x.e1]
theorem len_c_A29 (x : A29) : (c_A29 x).length = 2 := rfl
theorem still_c_A29 (xs : List A29) : (xs.flatMap c_A29).all VV.still = true := all_flat (fun _ => rfl) xs
theorem isC_c_A29 (xs : List A29) : (xs.flatMap c_A29).all VV.isC = true := all_flat (fun _ => rfl) xs
theorem new0_c_A29 (xs : List A29) : (xs.flatMap c_A29).all new0 = true := all_flat (fun _ => rfl) xs
theorem unfr_c_A29 (xs : List A29) : (xs.flatMap c_A29).map unfr = xs.flatMap c_A29 := unfr_flat (fun _ => rfl) xs
structure Sstop where
  SkyTarget : SSkyTarget
  turns : (List Int)
  positions : (List Int)
  deriving Inhabited
def c_Sstop (x : Sstop) : List VV := [vs x.SkyTarget.Name, vi x.SkyTarget.Azimuth, vi x.SkyTarget.Height, vi x.SkyTarget.From, vi x.SkyTarget.To, vi x.SkyTarget.Dwell, VV.tr (List.map vi x.turns) x.turns.length, VV.tr (List.map vi x.positions) x.positions.length]
theorem len_c_Sstop (x : Sstop) : (c_Sstop x).length = 8 := rfl
def g_Sstop (x : Sstop) : List VV := [vs x.SkyTarget.Name, vi x.SkyTarget.Azimuth, vi x.SkyTarget.Height, vi x.SkyTarget.From, vi x.SkyTarget.To, vi x.SkyTarget.Dwell, VV.fr (List.map vi x.turns) x.turns.length, VV.fr (List.map vi x.positions) x.positions.length]
theorem len_g_Sstop (x : Sstop) : (g_Sstop x).length = 8 := rfl
theorem still_c_Sstop (xs : List Sstop) : (xs.flatMap c_Sstop).all VV.still = true := all_flat (fun _ => rfl) xs
theorem still_g_Sstop (xs : List Sstop) : (xs.flatMap g_Sstop).all VV.still = true := all_flat (fun _ => rfl) xs
theorem unfr_c_Sstop (xs : List Sstop) : (xs.flatMap c_Sstop).map unfr = xs.flatMap c_Sstop := unfr_flat2 (fun _ => rfl) xs
theorem unfr_g_Sstop (xs : List Sstop) : (xs.flatMap g_Sstop).map unfr = xs.flatMap c_Sstop := unfr_flat2 (fun _ => rfl) xs
theorem new0_g_Sstop (xs : List Sstop) : (xs.flatMap g_Sstop).all new0 = true := all_flat (fun _ => rfl) xs
def nspeculumlaw09_Light (k : Nat) (a0 : SSkyMount) : Option Bool :=
  (nspeculumlaw09_rows k a0.Refraction).bind fun r418 => (if r418 = true then ((nspeculumlaw09_rows k a0.Drift).bind fun r422 => (some r422)) else (some false))
theorem nspeculumlaw09_Light_ok (k : Nat) (a0 : SSkyMount) (r : Bool) (h : nspeculumlaw09_Light k a0 = some r) : VC Go.Proofs.Try.prog 5 [VV.ag (c_SSkyMount a0)] (vb r) := by
 unfold nspeculumlaw09_Light at h
 obtain ⟨r418, h419, h⟩ := bs h
 have e420 := (nspeculumlaw09_rows_ok k a0.Refraction _ h419)
 rcases ifs h with ⟨h421, h⟩ | ⟨h421, h⟩
 ·obtain ⟨r422, h423, h⟩ := bs h
  have e424 := (an h421 (nspeculumlaw09_rows_ok k a0.Drift _ h423))
  have e425 := (ti (ti (an e420 (ti (an (an h421 trivial) (an (an h421 trivial) (an e424 (an h421 (ti trivial)))))))))
  injection h with h; subst h
  exact fun_ok pm pn Go.Proofs.Try.func5 (r0 := vb r422) (ans := [.reg (.n :: .n :: []), .reg (.n :: .n :: .call (vb r418) :: nN 3 (.call (vb r422) :: .b true :: .n :: []))]) (fr := true) (by kernel_rfl) (an (an (ti (ti trivial)) (an e425 trivial)) (ti trivial)) (Wv.refl _)
 ·have e426 := (ti (ti (an e420 (ti (an (bool_f h421) (an (bool_f h421) (an (bool_f h421) (an (bool_f h421) (ti trivial)))))))))
  injection h with h; subst h
  exact fun_ok pm pn Go.Proofs.Try.func5 (r0 := vb false) (ans := [.reg (.n :: .n :: []), .reg (.n :: .n :: .call (vb r418) :: .n :: nS 3 (.b false :: .n :: []))]) (fr := true) (by kernel_rfl) (an (an (ti (ti trivial)) (an e426 trivial)) (ti trivial)) (Wv.refl _)
theorem eqB2_0 (z0 : SSkyMount) : [vi 25920000, VV.tr (List.map vi ([z0.Least, z0.Most] : List Int)) (([z0.Least, z0.Most] : List Int).length)] = [vi 25920000, VV.tr [vi z0.Least, vi z0.Most] 2] := by first | rfl | (simp only [unfr_vi, List.map_cons, List.map_nil, un_i, un_tr, List.length_map, List.length_cons, List.length_nil]; done) | (simp only [unfr_vi, List.map_cons, List.map_nil, un_i, un_tr, List.length_map, List.length_cons, List.length_nil]; rfl) | (simp only [unfr_vi, List.map_cons, List.map_nil, un_i, un_tr, List.length_map, List.length_cons, List.length_nil, List.length_cons, List.length_nil, List.length_append]; done)
theorem eqB2_1 (z0 : SSkyMount) : [vi 0, vi 324000, VV.tr (List.map vi ([z0.Low, z0.High] : List Int)) (([z0.Low, z0.High] : List Int).length)] = [vi 0, vi 324000, VV.tr [vi z0.Low, vi z0.High] 2] := by first | rfl | (simp only [unfr_vi, List.map_cons, List.map_nil, un_i, un_tr, List.length_map, List.length_cons, List.length_nil]; done) | (simp only [unfr_vi, List.map_cons, List.map_nil, un_i, un_tr, List.length_map, List.length_cons, List.length_nil]; rfl) | (simp only [unfr_vi, List.map_cons, List.map_nil, un_i, un_tr, List.length_map, List.length_cons, List.length_nil, List.length_cons, List.length_nil, List.length_append]; done)
theorem eqB2_2 (z0 : SSkyMount) : [vi 1, vi 1000000, VV.tr (List.map vi ([z0.Speed] : List Int)) (([z0.Speed] : List Int).length)] = [vi 1, vi 1000000, VV.tr [vi z0.Speed] 1] := by first | rfl | (simp only [unfr_vi, List.map_cons, List.map_nil, un_i, un_tr, List.length_map, List.length_cons, List.length_nil]; done) | (simp only [unfr_vi, List.map_cons, List.map_nil, un_i, un_tr, List.length_map, List.length_cons, List.length_nil]; rfl) | (simp only [unfr_vi, List.map_cons, List.map_nil, un_i, un_tr, List.length_map, List.length_cons, List.length_nil, List.length_cons, List.length_nil, List.length_append]; done)
def arB2_0 (z0 : Bool) (z1 : Bool) (z2 : Bool) : List Ans := (nN 4 (.v VV.any :: .call (vb z0) :: nN 6 (.v VV.any :: .call (vb z1) :: .n :: .b false :: nN 3 (.v VV.any :: .call (vb z2) :: .n :: .b false :: .n :: []))))
def arB2_1 (z0 : Bool) (z1 : Bool) : List Ans := (nN 4 (.v VV.any :: .call (vb z0) :: nN 6 (.v VV.any :: .call (vb z1) :: .n :: .b false :: .n :: nS 5 (.b true :: .n :: []))))
def arB2_2 (z0 : Bool) : List Ans := (nN 4 (.v VV.any :: .call (vb z0) :: .n :: .n :: nS 7 (.b true :: .n :: nS 5 (.b true :: .n :: []))))
def npoint_CheckMount (k : Nat) (a0 : SSkyMount) : Option Int :=
  (npoint_areSmall k 25920000 ([a0.Least, a0.Most] : List Int)).bind fun r453 => (if r453 = true then ((npoint_areWithin k 0 324000 ([a0.Low, a0.High] : List Int)).bind fun r457 => (if r457 = true then ((npoint_areWithin k 1 1000000 ([a0.Speed] : List Int)).bind fun r461 => (if r461 = true then (if a0.Most < a0.Least then (some 9) else (if a0.High < a0.Low then (some 9) else ((npoint_CheckTable k a0.Refraction).bind fun r470 => (if r470 = 0 then ((npoint_CheckTable k a0.Drift).bind fun r474 => (some r474)) else (some r470))))) else (some 2))) else (some 2))) else (some 2))
theorem npoint_CheckMount_ok (k : Nat) (a0 : SSkyMount) (r : Int) (h : npoint_CheckMount k a0 = some r) : VC Go.Proofs.Try.prog 11 [VV.ag (c_SSkyMount a0)] (vi r) := by
 unfold npoint_CheckMount at h
 obtain ⟨r453, h454, h⟩ := bs h
 have e455 := (VC.args (npoint_areSmall_ok k 25920000 ([a0.Least, a0.Most] : List Int) _ h454) (eqB2_0 a0))
 rcases ifs h with ⟨h456, h⟩ | ⟨h456, h⟩
 ·obtain ⟨r457, h458, h⟩ := bs h
  have e459 := (an (not_f h456) (VC.args (npoint_areWithin_ok k 0 324000 ([a0.Low, a0.High] : List Int) _ h458) (eqB2_1 a0)))
  rcases ifs h with ⟨h460, h⟩ | ⟨h460, h⟩
  ·obtain ⟨r461, h462, h⟩ := bs h
   have e463 := (an (not_f h460) (VC.args (npoint_areWithin_ok k 1 1000000 ([a0.Speed] : List Int) _ h462) (eqB2_2 a0)))
   have e464 := (ti (ti (ti (ti (ti (an e455 (ti (ti (an (an (not_f h456) trivial) (an (an (not_f h456) trivial) (an (an (not_f h456) trivial) (an (an (not_f h456) trivial) (an (an (not_f h456) trivial) (an e459 (an (an (not_f h456) trivial) (an (not_f h456) (ti (an (an (not_f h460) trivial) (an (an (not_f h460) trivial) (an (an (not_f h460) trivial) (an e463 (an (an (not_f h460) trivial) (an (not_f h460) (ti trivial))))))))))))))))))))))))
   rcases ifs h with ⟨h465, h⟩ | ⟨h465, h⟩
   ·rcases ifs h with ⟨h466, h⟩ | ⟨h466, h⟩
    ·have e467 := (ti (ti (ti (ti (ti (ti (an (decide_eq_true h466) (an (decide_eq_true h466) (an (decide_eq_true h466) (an (decide_eq_true h466) (an (decide_eq_true h466) (an (decide_eq_true h466) (ti trivial)))))))))))))
     injection h with h; subst h
     exact fun_ok pm pn Go.Proofs.Try.func11 (r0 := vi 9) (ans := [.reg (.n :: .n :: []), .reg (arB2_0 r453 r457 r461), .br false, .reg (nN 6 (nS 5 (.b true :: .n :: []))), .br true, .reg (.n :: [])]) (fr := true) (by kernel_rfl) (an (an (ti (ti trivial)) (an e464 (an (not_f h465) (an e467 (an rt (an (ti trivial) trivial)))))) (ti trivial)) (Wv.refl _)
    ·have e468 := (ti (ti (ti (ti (ti (ti (an (an (decide_eq_false h466) trivial) (an (an (decide_eq_false h466) trivial) (an (an (decide_eq_false h466) trivial) (an (an (decide_eq_false h466) trivial) (an (an (decide_eq_false h466) trivial) (an (decide_eq_false h466) (ti trivial)))))))))))))
     rcases ifs h with ⟨h469, h⟩ | ⟨h469, h⟩
     ·injection h with h; subst h
      exact fun_ok pm pn Go.Proofs.Try.func11 (r0 := vi 9) (ans := [.reg (.n :: .n :: []), .reg (arB2_0 r453 r457 r461), .br false, .reg (nN 11 (.b false :: .n :: [])), .br true, .reg (.n :: [])]) (fr := true) (by kernel_rfl) (an (an (ti (ti trivial)) (an e464 (an (not_f h465) (an e468 (an (decide_eq_true h469) (an (ti trivial) trivial)))))) (ti trivial)) (Wv.refl _)
     ·obtain ⟨r470, h471, h⟩ := bs h
      have e472 := (npoint_CheckTable_ok k a0.Refraction _ h471)
      rcases ifs h with ⟨h473, h⟩ | ⟨h473, h⟩
      ·obtain ⟨r474, h475, h⟩ := bs h
       have e476 := (npoint_CheckTable_ok k a0.Drift _ h475)
       injection h with h; subst h
       exact fun_ok pm pn Go.Proofs.Try.func11 (r0 := vi r474) (ans := [.reg (.n :: .n :: []), .reg (arB2_0 r453 r457 r461), .br false, .reg (nN 11 (.b false :: .n :: [])), .br false, .reg (.n :: .n :: .call (vi r470) :: .n :: []), .reg (.n :: .n :: []), .br false, .reg (.n :: .n :: .call (vi r474) :: .n :: [])]) (fr := true) (by kernel_rfl) (an (an (ti (ti trivial)) (an (an e464 (an (not_f h465) (an e468 (an (decide_eq_false h469) trivial)))) (an (an (ti (ti (an e472 (ti trivial)))) (an (ti (ti trivial)) (an (not_f (decide_eq_true h473)) trivial))) (an (ti (ti (an e476 (ti trivial)))) trivial)))) (ti trivial)) (Wv.refl _)
      ·injection h with h; subst h
       exact fun_ok pm pn Go.Proofs.Try.func11 (r0 := vi r470) (ans := [.reg (.n :: .n :: []), .reg (arB2_0 r453 r457 r461), .br false, .reg (nN 11 (.b false :: .n :: [])), .br false, .reg (.n :: .n :: .call (vi r470) :: .n :: []), .reg (.n :: .n :: []), .br true, .reg (.n :: .n :: [])]) (fr := true) (by kernel_rfl) (an (an (ti (ti trivial)) (an (an e464 (an (not_f h465) (an e468 (an (decide_eq_false h469) trivial)))) (an (ti (ti (an e472 (ti trivial)))) (an (ti (ti trivial)) (an (not_t (decide_eq_false h473)) (an (ti (ti trivial)) trivial)))))) (ti trivial)) (Wv.refl _)
   ·injection h with h; subst h
    exact fun_ok pm pn Go.Proofs.Try.func11 (r0 := vi 2) (ans := [.reg (.n :: .n :: []), .reg (arB2_0 r453 r457 r461), .br true, .reg (.n :: [])]) (fr := true) (by kernel_rfl) (an (an (ti (ti trivial)) (an e464 (an (not_t (bool_f h465)) (an (ti trivial) trivial)))) (ti trivial)) (Wv.refl _)
  ·have e477 := (ti (ti (ti (ti (ti (an e455 (ti (ti (an (an (not_f h456) trivial) (an (an (not_f h456) trivial) (an (an (not_f h456) trivial) (an (an (not_f h456) trivial) (an (an (not_f h456) trivial) (an e459 (an (an (not_f h456) trivial) (an (not_f h456) (ti (an (not_t (bool_f h460)) (an (not_t (bool_f h460)) (an (not_t (bool_f h460)) (an (not_t (bool_f h460)) (an (not_t (bool_f h460)) (an (not_t (bool_f h460)) (ti trivial))))))))))))))))))))))))
   injection h with h; subst h
   exact fun_ok pm pn Go.Proofs.Try.func11 (r0 := vi 2) (ans := [.reg (.n :: .n :: []), .reg (arB2_1 r453 r457), .br true, .reg (.n :: [])]) (fr := true) (by kernel_rfl) (an (an (ti (ti trivial)) (an e477 (an rt (an (ti trivial) trivial)))) (ti trivial)) (Wv.refl _)
 ·have e478 := (ti (ti (ti (ti (ti (an e455 (ti (ti (an (not_t (bool_f h456)) (an (not_t (bool_f h456)) (an (not_t (bool_f h456)) (an (not_t (bool_f h456)) (an (not_t (bool_f h456)) (an (not_t (bool_f h456)) (an (not_t (bool_f h456)) (an (not_t (bool_f h456)) (ti (an rt (an rt (an rt (an rt (an rt (an rt (ti trivial))))))))))))))))))))))))
  injection h with h; subst h
  exact fun_ok pm pn Go.Proofs.Try.func11 (r0 := vi 2) (ans := [.reg (.n :: .n :: []), .reg (arB2_2 r453), .br true, .reg (.n :: [])]) (fr := true) (by kernel_rfl) (an (an (ti (ti trivial)) (an e478 (an rt (an (ti trivial) trivial)))) (ti trivial)) (Wv.refl _)
theorem eqB2_3 (z0 : ByteArray) : [vi 1, vi 12, VV.tr (List.map vi ([(z0.size : Int)] : List Int)) (([(z0.size : Int)] : List Int).length)] = [vi 1, vi 12, VV.tr [vi (z0.size : Int)] 1] := by first | rfl | (simp only [unfr_vi, List.map_cons, List.map_nil, un_i, un_tr, List.length_map, List.length_cons, List.length_nil]; done) | (simp only [unfr_vi, List.map_cons, List.map_nil, un_i, un_tr, List.length_map, List.length_cons, List.length_nil]; rfl) | (simp only [unfr_vi, List.map_cons, List.map_nil, un_i, un_tr, List.length_map, List.length_cons, List.length_nil, List.length_cons, List.length_nil, List.length_append]; done)
def arB2_3  : List Ans := (nN 3 (.skip :: .skip :: .b false :: nN 4 (.skip :: .skip :: .b false :: .b false :: .n :: [])))
def npoint_isLetter (k : Nat) (a0 : Int) : Option Bool :=
  if 97 ≤ a0 then (if a0 ≤ 122 then (some true) else (if 65 ≤ a0 then (some (decide (a0 ≤ 90))) else (some false))) else (if 65 ≤ a0 then (some (decide (a0 ≤ 90))) else (some false))
theorem npoint_isLetter_ok (k : Nat) (a0 : Int) (r : Bool) (h : npoint_isLetter k a0 = some r) : VC Go.Proofs.Try.prog 48 [VV.c (.int .i32 a0)] (vb r) := by
 unfold npoint_isLetter at h
 rcases ifs h with ⟨h495, h⟩ | ⟨h495, h⟩
 ·rcases ifs h with ⟨h496, h⟩ | ⟨h496, h⟩
  ·have e497 := (ti (ti (ti (an (an (decide_eq_true h495) trivial) (an (an (decide_eq_true h495) trivial) (an (decide_eq_true h495) (ti (an (decide_eq_true h496) (an (decide_eq_true h496) (an (decide_eq_true h496) (ti (ti (an (decide_eq_true h496) (an (decide_eq_true h496) (ti trivial)))))))))))))))
   injection h with h; subst h
   exact fun_ok pm pn Go.Proofs.Try.func48 (r0 := vb true) (ans := [.reg (.n :: []), .reg (nN 5 (.b true :: .n :: nS 6 (.b true :: .n :: [])))]) (fr := true) (by kernel_rfl) (an (an (ti trivial) (an e497 trivial)) (ti trivial)) (Wv.refl _)
  ·rcases ifs h with ⟨h498, h⟩ | ⟨h498, h⟩
   ·have e499 := (an (decide_eq_false h496) (decide_eq_true h498))
    have e500 := (ti (ti (ti (an (an (decide_eq_true h495) trivial) (an (an (decide_eq_true h495) trivial) (an (decide_eq_true h495) (ti (an (an (decide_eq_false h496) trivial) (an (an (decide_eq_false h496) trivial) (an (an (decide_eq_false h496) trivial) (an (an (decide_eq_true h498) trivial) (an (an (decide_eq_true h498) trivial) (an e499 (an (decide_eq_false h496) (ti trivial)))))))))))))))
    injection h with h; subst h
    exact fun_ok pm pn Go.Proofs.Try.func48 (r0 := vb (decide (a0 ≤ 90))) (ans := [.reg (.n :: []), .reg (nN 5 (.b true :: nN 6 (.b true :: .b false :: .n :: [])))]) (fr := true) (by kernel_rfl) (an (an (ti trivial) (an e500 trivial)) (ti trivial)) (Wv.refl _)
   ·have e501 := (an (decide_eq_false h496) (decide_eq_false h498))
    have e502 := (ti (ti (ti (an (an (decide_eq_true h495) trivial) (an (an (decide_eq_true h495) trivial) (an (decide_eq_true h495) (ti (an (an (decide_eq_false h496) trivial) (an (an (decide_eq_false h496) trivial) (an (an (decide_eq_false h496) trivial) (an (decide_eq_false h498) (an (decide_eq_false h498) (an e501 (an (decide_eq_false h496) (ti trivial)))))))))))))))
    injection h with h; subst h
    exact fun_ok pm pn Go.Proofs.Try.func48 (r0 := vb false) (ans := [.reg (.n :: []), .reg (nN 5 (.b true :: nN 4 (.skip :: .skip :: .b false :: .b false :: .n :: [])))]) (fr := true) (by kernel_rfl) (an (an (ti trivial) (an e502 trivial)) (ti trivial)) (Wv.refl _)
 ·rcases ifs h with ⟨h503, h⟩ | ⟨h503, h⟩
  ·have e504 := (ti (ti (ti (an (decide_eq_false h495) (an (decide_eq_false h495) (an (decide_eq_false h495) (ti (an (an rf trivial) (an (an rf trivial) (an (an rf trivial) (an (an (decide_eq_true h503) trivial) (an (an (decide_eq_true h503) trivial) (an (an rf (decide_eq_true h503)) (an rf (ti trivial)))))))))))))))
   injection h with h; subst h
   exact fun_ok pm pn Go.Proofs.Try.func48 (r0 := vb (decide (a0 ≤ 90))) (ans := [.reg (.n :: []), .reg (nN 3 (.skip :: .skip :: .b false :: nN 6 (.b true :: .b false :: .n :: [])))]) (fr := true) (by kernel_rfl) (an (an (ti trivial) (an e504 trivial)) (ti trivial)) (Wv.refl _)
  ·have e505 := (ti (ti (ti (an (decide_eq_false h495) (an (decide_eq_false h495) (an (decide_eq_false h495) (ti (an (an rf trivial) (an (an rf trivial) (an (an rf trivial) (an (decide_eq_false h503) (an (decide_eq_false h503) (an (an rf (decide_eq_false h503)) (an rf (ti trivial)))))))))))))))
   injection h with h; subst h
   exact fun_ok pm pn Go.Proofs.Try.func48 (r0 := vb false) (ans := [.reg (.n :: []), .reg arB2_3]) (fr := true) (by kernel_rfl) (an (an (ti trivial) (an e505 trivial)) (ti trivial)) (Wv.refl _)
def arB2_4 (z0 : Bool) : List Ans := (.n :: .call (vb z0) :: .n :: .n :: nS 7 (.b false :: .n :: .skip :: .skip :: .b false :: .n :: []))
def arB2_5 (z0 : Bool) : List Ans := (.n :: .call (vb z0) :: nN 7 (.b true :: .n :: .b true :: .n :: .skip :: .skip :: .b false :: .n :: []))
def arB2_6 (z0 : Bool) : List Ans := (.n :: .call (vb z0) :: nN 5 (.skip :: .skip :: .b false :: .n :: .b true :: nN 3 (.b true :: .n :: [])))
def npoint_isForeign (k : Nat) (a0 : Int) : Option Bool :=
  (npoint_isLetter k a0).bind fun r528 => (if r528 = true then (some false) else (if 48 ≤ a0 then (if a0 ≤ 57 then (some false) else (some (!(decide (a0 = 45))))) else (some (!(decide (a0 = 45))))))
theorem npoint_isForeign_ok (k : Nat) (a0 : Int) (r : Bool) (h : npoint_isForeign k a0 = some r) : VC Go.Proofs.Try.prog 50 [VV.c (.int .i32 a0)] (vb r) := by
 unfold npoint_isForeign at h
 obtain ⟨r528, h529, h⟩ := bs h
 rcases ifs h with ⟨h530, h⟩ | ⟨h530, h⟩
 ·have e531 := (ti (an (npoint_isLetter_ok k a0 _ h529) (ti (ti (an (not_f h530) (an (not_f h530) (an (not_f h530) (ti (ti (an (not_f h530) (an (not_f h530) (an (not_f h530) (ti (an rf (an rf (an rf (ti trivial)))))))))))))))))
  injection h with h; subst h
  exact fun_ok pm pn Go.Proofs.Try.func50 (r0 := vb false) (ans := [.reg (.n :: []), .reg (arB2_4 r528)]) (fr := true) (by kernel_rfl) (an (an (ti trivial) (an e531 trivial)) (ti trivial)) (Wv.refl _)
 ·rcases ifs h with ⟨h532, h⟩ | ⟨h532, h⟩
  ·have e533 := (an (not_t (bool_f h530)) (decide_eq_true h532))
   rcases ifs h with ⟨h534, h⟩ | ⟨h534, h⟩
   ·have e535 := (ti (an (npoint_isLetter_ok k a0 _ h529) (ti (ti (an (an (not_t (bool_f h530)) trivial) (an (an (not_t (bool_f h530)) trivial) (an (an (not_t (bool_f h530)) trivial) (an (an (decide_eq_true h532) trivial) (an (an (decide_eq_true h532) trivial) (an e533 (an (an (not_t (bool_f h530)) trivial) (an (not_t (bool_f h530)) (ti (an (not_f (decide_eq_true h534)) (an (not_f (decide_eq_true h534)) (an (not_f (decide_eq_true h534)) (ti trivial)))))))))))))))))
    injection h with h; subst h
    exact fun_ok pm pn Go.Proofs.Try.func50 (r0 := vb false) (ans := [.reg (.n :: []), .reg (arB2_5 r528)]) (fr := true) (by kernel_rfl) (an (an (ti trivial) (an e535 trivial)) (ti trivial)) (Wv.refl _)
   ·have e536 := (an (not_t (decide_eq_false h534)) trivial)
    have e537 := (an (not_t (decide_eq_false h534)) trivial)
    have e538 := (ti (an (npoint_isLetter_ok k a0 _ h529) (ti (ti (an (an (not_t (bool_f h530)) trivial) (an (an (not_t (bool_f h530)) trivial) (an (an (not_t (bool_f h530)) trivial) (an (an (decide_eq_true h532) trivial) (an (an (decide_eq_true h532) trivial) (an e533 (an (an (not_t (bool_f h530)) trivial) (an (not_t (bool_f h530)) (ti (an e536 (an e537 (an (not_t (decide_eq_false h534)) (ti trivial)))))))))))))))))
    injection h with h; subst h
    exact fun_ok pm pn Go.Proofs.Try.func50 (r0 := vb (!(decide (a0 = 45)))) (ans := [.reg (.n :: []), .reg (.n :: .call (vb r528) :: nN 7 (.b true :: .n :: .b true :: nN 3 (.b true :: .n :: [])))]) (fr := true) (by kernel_rfl) (an (an (ti trivial) (an e538 trivial)) (ti trivial)) (Wv.refl _)
  ·have e539 := (an (not_t (bool_f h530)) (decide_eq_false h532))
   have e540 := (an (show (!false) = true from (not_t rfl)) trivial)
   have e541 := (an (show (!false) = true from (not_t rfl)) trivial)
   have e542 := (ti (an (npoint_isLetter_ok k a0 _ h529) (ti (ti (an (an (not_t (bool_f h530)) trivial) (an (an (not_t (bool_f h530)) trivial) (an (an (not_t (bool_f h530)) trivial) (an (decide_eq_false h532) (an (decide_eq_false h532) (an e539 (an (an (not_t (bool_f h530)) trivial) (an (not_t (bool_f h530)) (ti (an e540 (an e541 (an (show (!false) = true from (not_t rfl)) (ti trivial)))))))))))))))))
   injection h with h; subst h
   exact fun_ok pm pn Go.Proofs.Try.func50 (r0 := vb (!(decide (a0 = 45)))) (ans := [.reg (.n :: []), .reg (arB2_6 r528)]) (fr := true) (by kernel_rfl) (an (an (ti trivial) (an e542 trivial)) (ti trivial)) (Wv.refl _)
def nstrings_indexFunc_c1_point_isForeign_l0_0_h (a0 : ByteArray) (a2 : Bool) (b0_1 : Int) : VS := ⟨mkA [(1, VV.fn 50 []), (2, vb a2), (10, VV.it 0)], [some ⟨true, bigX, [vs a0, vi b0_1]⟩], .nil⟩
def nstrings_indexFunc_c1_point_isForeign_l0_0_e0 (a0 : ByteArray) (a2 : Bool) (r : Int) : VS := ⟨mkA [(6, vi r)], [], .nil⟩
def nstrings_indexFunc_c1_point_isForeign_l0_0_e1 (a0 : ByteArray) (a2 : Bool) (r : Unit) : VS := ⟨mkA [], [], .nil⟩
def nstrings_indexFunc_c1_point_isForeign_l0_0 (k : Nat) (a0 : ByteArray) (a2 : Bool) : Nat → Int → Option (Sum Int Unit)
  | 0, _ => none
  | fuel + 1, b0_1 => if b0_1 < (a0.size : Int) then (if 0 ≤ b0_1 then ((npoint_isForeign k (((Go.Utf8.decode a0 (b0_1).toNat).1 : Nat) : Int)).bind fun r589 => (if (r589 == a2) = true then (some (.inl b0_1)) else (nstrings_indexFunc_c1_point_isForeign_l0_0 k a0 a2 fuel (b0_1 + (((Go.Utf8.decode a0 (b0_1).toNat).2 : Nat) : Int))))) else none) else (some (.inr ()))
theorem nstrings_indexFunc_c1_point_isForeign_l0_0_ok (k : Nat) (a0 : ByteArray) (a2 : Bool) : ∀ (fuel : Nat) (b0_1 : Int) (r : Sum Int Unit), nstrings_indexFunc_c1_point_isForeign_l0_0 k a0 a2 fuel b0_1 = some r → (match r with | .inl r => VLoop none Go.Proofs.Try.prog (szF Go.Proofs.Try.f53) (bodyOf Go.Proofs.Try.f53 0) (nstrings_indexFunc_c1_point_isForeign_l0_0_h a0 a2 b0_1) .ret (nstrings_indexFunc_c1_point_isForeign_l0_0_e0 a0 a2 r) | .inr r => VLoop none Go.Proofs.Try.prog (szF Go.Proofs.Try.f53) (bodyOf Go.Proofs.Try.f53 0) (nstrings_indexFunc_c1_point_isForeign_l0_0_h a0 a2 b0_1) (.exit 0) (nstrings_indexFunc_c1_point_isForeign_l0_0_e1 a0 a2 r)) := by
 intro fuel
 induction fuel with
 | zero => intro b0_1 r h; rw [nstrings_indexFunc_c1_point_isForeign_l0_0.eq_1] at h; cases h
 | succ fuel ih =>
  intro b0_1 r h
  rw [nstrings_indexFunc_c1_point_isForeign_l0_0.eq_2] at h
  rcases ifs h with ⟨h586, h⟩ | ⟨h586, h⟩
  ·obtain ⟨h587, h⟩ := ifn h
   have e588 := (show 0 ≤ b0_1 ∧ b0_1 < (a0.size : Int) from ⟨h587, of_decide_eq_true (decide_eq_true h586)⟩)
   obtain ⟨r589, h590, h⟩ := bs h
   have e591 := (npoint_isForeign_ok k (((Go.Utf8.decode a0 (b0_1).toNat).1 : Nat) : Int) _ h590)
   rcases ifs h with ⟨h592, h⟩ | ⟨h592, h⟩
   ·injection h with h; subst h
    exact round_stop (c := ⟨[(6, none)], [], []⟩) (s1 := (nstrings_indexFunc_c1_point_isForeign_l0_0_e0 a0 a2 b0_1)) pm pn (ans := [.reg (.b true :: .n :: []), .br true, .reg (nN 4 []), .reg (.n :: .n :: .call (vb r589) :: .n :: .n :: []), .br true, .reg (.n :: .n :: [])]) (by kernel_rfl) (by intro e; cases e) (an (an (an e588 (ti trivial)) (an (an rt trivial) (an (ti (ti (ti (ti trivial)))) (an (ti (ti (an e591 (ti (ti trivial))))) (an h592 (an (ti (ti trivial)) trivial)))))) (ti trivial))
   ·have h2 := ih _ _ h
    obtain ⟨q, hv, hq⟩ := pkR (rd := none) (P := Go.Proofs.Try.prog) (fn := Go.Proofs.Try.f53) (k := 0) (s := (nstrings_indexFunc_c1_point_isForeign_l0_0_h a0 a2 b0_1)) (ans := [.reg (.b true :: .n :: []), .br true, .reg (nN 4 []), .reg (.n :: .n :: .call (vb r589) :: .n :: .n :: []), .br false]) (c := ⟨[(1, none), (2, none), (10, none)], [none], []⟩) (e := .normal) (s1 := (nstrings_indexFunc_c1_point_isForeign_l0_0_h a0 a2 (b0_1 + (((Go.Utf8.decode a0 (b0_1).toNat).2 : Nat) : Int)))) (an (an (an e588 (ti trivial)) (an (an rt trivial) (an (ti (ti (ti (ti trivial)))) (an (ti (ti (an e591 (ti (ti trivial))))) (an (bool_f h592) trivial))))) (ti trivial)) (by kernel_rfl)
    cases r with
    | inl r => exact round_next pm pn hv hq h2
    | inr r =>
     exact round_next pm pn hv hq h2
  ·have e593 := (show (a0.size : Int) ≤ b0_1 from (by have := of_decide_eq_false (decide_eq_false h586); omega))
   injection h with h; subst h
   exact round_stop (c := ⟨[], [], []⟩) (s1 := (nstrings_indexFunc_c1_point_isForeign_l0_0_e1 a0 a2 ())) pm pn (ans := [.reg (.b false :: .n :: []), .br false]) (by kernel_rfl) (by intro e; cases e) (an (an (an e593 (ti trivial)) (an rf trivial)) (ti trivial))
def nstrings_indexFunc_c1_point_isForeign (k : Nat) (a0 : ByteArray) (a1 : Unit) (a2 : Bool) : Option Int :=
  (nstrings_indexFunc_c1_point_isForeign_l0_0 k a0 a2 k 0).bind fun r595 => (match r595 with | .inl r596 => (some r596) | .inr r597 => (some (-1)))
theorem nstrings_indexFunc_c1_point_isForeign_ok (k : Nat) (a0 : ByteArray) (a1 : Unit) (a2 : Bool) (r : Int) (h : nstrings_indexFunc_c1_point_isForeign k a0 a1 a2 = some r) : VC Go.Proofs.Try.prog 53 [vs a0, VV.fn 50 [], vb a2] (vi r) := by
 unfold nstrings_indexFunc_c1_point_isForeign at h
 obtain ⟨r595, h594, h⟩ := bs h
 have hph594 := nstrings_indexFunc_c1_point_isForeign_l0_0_ok k a0 a2 _ _ _ h594
 cases r595 with
 | inl r596 =>
  dsimp only at h
  have e598 := (an (ti trivial) (VRun.loop hph594))
  injection h with h; subst h
  exact fun_ok pm pn Go.Proofs.Try.func53 (r0 := vi r596) (ans := [.reg (.n :: []), .reg (.n :: .n :: []), .sub ⟨[(1, none), (2, none), (10, none)], [none], []⟩ .ret (nstrings_indexFunc_c1_point_isForeign_l0_0_e0 a0 a2 r596)]) (fr := true) (by kernel_rfl) (an (an (ti trivial) (an (ti (ti trivial)) e598)) (ti trivial)) (Wv.refl _)
 | inr r597 =>
  dsimp only at h
  have e599 := (an (ti trivial) (VRun.loop hph594))
  injection h with h; subst h
  exact fun_ok pm pn Go.Proofs.Try.func53 (r0 := vi (-1)) (ans := [.reg (.n :: []), .reg (.n :: .n :: []), .sub ⟨[(1, none), (2, none), (10, none)], [none], []⟩ (.exit 0) (nstrings_indexFunc_c1_point_isForeign_l0_0_e1 a0 a2 r597), .reg (.n :: [])]) (fr := true) (by kernel_rfl) (an (an (ti trivial) (an (an (ti (ti trivial)) e599) (an (ti trivial) trivial))) (ti trivial)) (Wv.refl _)
def nstrings_IndexFunc_c1_point_isForeign (k : Nat) (a0 : ByteArray) (a1 : Unit) : Option Int :=
  (nstrings_indexFunc_c1_point_isForeign k a0 a1 true).bind fun r603 => (some r603)
theorem nstrings_IndexFunc_c1_point_isForeign_ok (k : Nat) (a0 : ByteArray) (a1 : Unit) (r : Int) (h : nstrings_IndexFunc_c1_point_isForeign k a0 a1 = some r) : VC Go.Proofs.Try.prog 52 [vs a0, VV.fn 50 []] (vi r) := by
 unfold nstrings_IndexFunc_c1_point_isForeign at h
 obtain ⟨r603, h604, h⟩ := bs h
 have e605 := (nstrings_indexFunc_c1_point_isForeign_ok k a0 a1 true _ h604)
 injection h with h; subst h
 exact fun_ok pm pn Go.Proofs.Try.func52 (r0 := vi r603) (ans := [.reg (.n :: []), .reg (.n :: .n :: .call (vi r603) :: .n :: [])]) (fr := true) (by kernel_rfl) (an (an (ti trivial) (an (ti (ti (an e605 (ti trivial)))) trivial)) (ti trivial)) (Wv.refl _)
def nstrings_ContainsFunc_c1_point_isForeign (k : Nat) (a0 : ByteArray) (a1 : Unit) : Option Bool :=
  (nstrings_IndexFunc_c1_point_isForeign k a0 a1).bind fun r609 => (some (decide (0 ≤ r609)))
theorem nstrings_ContainsFunc_c1_point_isForeign_ok (k : Nat) (a0 : ByteArray) (a1 : Unit) (r : Bool) (h : nstrings_ContainsFunc_c1_point_isForeign k a0 a1 = some r) : VC Go.Proofs.Try.prog 49 [vs a0, VV.fn 50 []] (vb r) := by
 unfold nstrings_ContainsFunc_c1_point_isForeign at h
 obtain ⟨r609, h610, h⟩ := bs h
 have e611 := (nstrings_IndexFunc_c1_point_isForeign_ok k a0 a1 _ h610)
 injection h with h; subst h
 exact fun_ok pm pn Go.Proofs.Try.func49 (r0 := vb (decide (0 ≤ r609))) (ans := [.reg (.n :: []), .reg (.n :: .n :: .call (vi r609) :: .n :: .n :: [])]) (fr := true) (by kernel_rfl) (an (an (ti trivial) (an (ti (ti (an e611 (ti (ti trivial))))) trivial)) (ti trivial)) (Wv.refl _)
def arB2_7 (z0 : Bool) (z1 : Bool) (z2 : Bool) : List Ans := (.n :: .n :: .v VV.any :: .call (vb z0) :: nN 4 (.call (vb z1) :: .b true :: .n :: .n :: .call (vb z2) :: .n :: .b true :: .n :: []))
def arB2_8 (z0 : Bool) (z1 : Bool) : List Ans := (.n :: .n :: .v VV.any :: .call (vb z0) :: nN 4 (.call (vb z1) :: .b true :: .n :: nS 3 (.b false :: .n :: [])))
def arB2_9 (z0 : Bool) : List Ans := (.n :: .n :: .v VV.any :: .call (vb z0) :: .n :: nS 4 (.b false :: .n :: nS 3 (.b false :: .n :: [])))
def npoint_isName (k : Nat) (a0 : ByteArray) : Option Bool :=
  (npoint_areWithin k 1 12 ([(a0.size : Int)] : List Int)).bind fun r618 => (if r618 = true then (if (0 : Int) ≤ 0 ∧ 0 < (a0.size : Int) then ((npoint_isLetter k (IntKind.i32.wrap (bat a0 0))).bind fun r623 => (if r623 = true then ((nstrings_ContainsFunc_c1_point_isForeign k a0 ()).bind fun r627 => (some (!r627))) else (some false))) else none) else (some false))
theorem npoint_isName_ok (k : Nat) (a0 : ByteArray) (r : Bool) (h : npoint_isName k a0 = some r) : VC Go.Proofs.Try.prog 45 [vs a0] (vb r) := by
 unfold npoint_isName at h
 obtain ⟨r618, h619, h⟩ := bs h
 have e620 := (VC.args (npoint_areWithin_ok k 1 12 ([(a0.size : Int)] : List Int) _ h619) (eqB2_3 a0))
 rcases ifs h with ⟨h621, h⟩ | ⟨h621, h⟩
 ·obtain ⟨h622, h⟩ := ifn h
  obtain ⟨r623, h624, h⟩ := bs h
  have e625 := (an h621 (npoint_isLetter_ok k (IntKind.i32.wrap (bat a0 0)) _ h624))
  rcases ifs h with ⟨h626, h⟩ | ⟨h626, h⟩
  ·obtain ⟨r627, h628, h⟩ := bs h
   have e629 := (an h626 (nstrings_ContainsFunc_c1_point_isForeign_ok k a0 () _ h628))
   have e630 := (ti (ti (ti (an e620 (ti (an (an h621 trivial) (an (an h621 h622) (an (an h621 trivial) (an e625 (an h621 (ti (an (an h626 trivial) (an e629 (an (an h626 trivial) (an h626 (ti trivial))))))))))))))))
   injection h with h; subst h
   exact fun_ok pm pn Go.Proofs.Try.func45 (r0 := vb (!r627)) (ans := [.reg (.n :: []), .reg (arB2_7 r618 r623 r627)]) (fr := true) (by kernel_rfl) (an (an (ti trivial) (an e630 trivial)) (ti trivial)) (Wv.refl _)
  ·have e631 := (ti (ti (ti (an e620 (ti (an (an h621 trivial) (an (an h621 h622) (an (an h621 trivial) (an e625 (an h621 (ti (an (bool_f h626) (an (bool_f h626) (an (bool_f h626) (an (bool_f h626) (ti trivial))))))))))))))))
   injection h with h; subst h
   exact fun_ok pm pn Go.Proofs.Try.func45 (r0 := vb false) (ans := [.reg (.n :: []), .reg (arB2_8 r618 r623)]) (fr := true) (by kernel_rfl) (an (an (ti trivial) (an e631 trivial)) (ti trivial)) (Wv.refl _)
 ·have e632 := (ti (ti (ti (an e620 (ti (an (bool_f h621) (an (bool_f h621) (an (bool_f h621) (an (bool_f h621) (an (bool_f h621) (ti (an rf (an rf (an rf (an rf (ti trivial))))))))))))))))
  injection h with h; subst h
  exact fun_ok pm pn Go.Proofs.Try.func45 (r0 := vb false) (ans := [.reg (.n :: []), .reg (arB2_9 r618)]) (fr := true) (by kernel_rfl) (an (an (ti trivial) (an e632 trivial)) (ti trivial)) (Wv.refl _)
theorem eqB2_4 (z0 : SSkyTarget) : [vi 0, vi 1295999, VV.tr (List.map vi ([z0.Azimuth] : List Int)) (([z0.Azimuth] : List Int).length)] = [vi 0, vi 1295999, VV.tr [vi z0.Azimuth] 1] := by first | rfl | (simp only [unfr_vi, List.map_cons, List.map_nil, un_i, un_tr, List.length_map, List.length_cons, List.length_nil]; done) | (simp only [unfr_vi, List.map_cons, List.map_nil, un_i, un_tr, List.length_map, List.length_cons, List.length_nil]; rfl) | (simp only [unfr_vi, List.map_cons, List.map_nil, un_i, un_tr, List.length_map, List.length_cons, List.length_nil, List.length_cons, List.length_nil, List.length_append]; done)
theorem eqB2_5 (z0 : SSkyTarget) : [vi 0, vi 324000, VV.tr (List.map vi ([z0.Height] : List Int)) (([z0.Height] : List Int).length)] = [vi 0, vi 324000, VV.tr [vi z0.Height] 1] := by first | rfl | (simp only [unfr_vi, List.map_cons, List.map_nil, un_i, un_tr, List.length_map, List.length_cons, List.length_nil]; done) | (simp only [unfr_vi, List.map_cons, List.map_nil, un_i, un_tr, List.length_map, List.length_cons, List.length_nil]; rfl) | (simp only [unfr_vi, List.map_cons, List.map_nil, un_i, un_tr, List.length_map, List.length_cons, List.length_nil, List.length_cons, List.length_nil, List.length_append]; done)
theorem eqB2_6 (z0 : SSkyTarget) : [vi 0, vi 10000000, VV.tr (List.map vi ([z0.From, z0.To] : List Int)) (([z0.From, z0.To] : List Int).length)] = [vi 0, vi 10000000, VV.tr [vi z0.From, vi z0.To] 2] := by first | rfl | (simp only [unfr_vi, List.map_cons, List.map_nil, un_i, un_tr, List.length_map, List.length_cons, List.length_nil]; done) | (simp only [unfr_vi, List.map_cons, List.map_nil, un_i, un_tr, List.length_map, List.length_cons, List.length_nil]; rfl) | (simp only [unfr_vi, List.map_cons, List.map_nil, un_i, un_tr, List.length_map, List.length_cons, List.length_nil, List.length_cons, List.length_nil, List.length_append]; done)
theorem eqB2_7 (z0 : SSkyTarget) : [vi 1, vi 10000, VV.tr (List.map vi ([z0.Dwell] : List Int)) (([z0.Dwell] : List Int).length)] = [vi 1, vi 10000, VV.tr [vi z0.Dwell] 1] := by first | rfl | (simp only [unfr_vi, List.map_cons, List.map_nil, un_i, un_tr, List.length_map, List.length_cons, List.length_nil]; done) | (simp only [unfr_vi, List.map_cons, List.map_nil, un_i, un_tr, List.length_map, List.length_cons, List.length_nil]; rfl) | (simp only [unfr_vi, List.map_cons, List.map_nil, un_i, un_tr, List.length_map, List.length_cons, List.length_nil, List.length_cons, List.length_nil, List.length_append]; done)
def arB2_10 (z0 : Bool) (z1 : Bool) : List Ans := (.n :: .n :: .v VV.any :: .call (vb z0) :: nN 4 (.v VV.any :: .call (vb z1) :: .n :: .b false :: .n :: []))
def arB2_11 (z0 : Bool) (z1 : Bool) : List Ans := (nN 4 (.v VV.any :: .call (vb z0) :: nN 4 (.v VV.any :: .call (vb z1) :: .n :: .b false :: .n :: [])))
def npoint_CheckTarget (k : Nat) (a0 : SSkyTarget) : Option Int :=
  (npoint_isName k a0.Name).bind fun r658 => (if r658 = true then ((npoint_areWithin k 0 1295999 ([a0.Azimuth] : List Int)).bind fun r662 => (if r662 = true then ((npoint_areWithin k 0 324000 ([a0.Height] : List Int)).bind fun r666 => (if r666 = true then ((npoint_areWithin k 0 10000000 ([a0.From, a0.To] : List Int)).bind fun r671 => (if r671 = true then ((npoint_areWithin k 1 10000 ([a0.Dwell] : List Int)).bind fun r675 => (if r675 = true then (if a0.To ≤ a0.From then (some 9) else (some 0)) else (some 2))) else (some 2))) else (some 2))) else (some 2))) else (some 4))
theorem npoint_CheckTarget_ok (k : Nat) (a0 : SSkyTarget) (r : Int) (h : npoint_CheckTarget k a0 = some r) : VC Go.Proofs.Try.prog 36 [VV.ag (c_SSkyTarget a0)] (vi r) := by
 unfold npoint_CheckTarget at h
 obtain ⟨r658, h659, h⟩ := bs h
 have e660 := (ti (ti (an (npoint_isName_ok k a0.Name _ h659) (ti (ti trivial)))))
 rcases ifs h with ⟨h661, h⟩ | ⟨h661, h⟩
 ·obtain ⟨r662, h663, h⟩ := bs h
  have e664 := (VC.args (npoint_areWithin_ok k 0 1295999 ([a0.Azimuth] : List Int) _ h663) (eqB2_4 a0))
  rcases ifs h with ⟨h665, h⟩ | ⟨h665, h⟩
  ·obtain ⟨r666, h667, h⟩ := bs h
   have e668 := (an (not_f h665) (VC.args (npoint_areWithin_ok k 0 324000 ([a0.Height] : List Int) _ h667) (eqB2_5 a0)))
   have e669 := (ti (ti (ti (an e664 (ti (ti (an (an (not_f h665) trivial) (an (an (not_f h665) trivial) (an (an (not_f h665) trivial) (an e668 (an (an (not_f h665) trivial) (an (not_f h665) (ti trivial)))))))))))))
   rcases ifs h with ⟨h670, h⟩ | ⟨h670, h⟩
   ·obtain ⟨r671, h672, h⟩ := bs h
    have e673 := (VC.args (npoint_areWithin_ok k 0 10000000 ([a0.From, a0.To] : List Int) _ h672) (eqB2_6 a0))
    rcases ifs h with ⟨h674, h⟩ | ⟨h674, h⟩
    ·obtain ⟨r675, h676, h⟩ := bs h
     have e677 := (an (not_f h674) (VC.args (npoint_areWithin_ok k 1 10000 ([a0.Dwell] : List Int) _ h676) (eqB2_7 a0)))
     have e678 := (ti (ti (ti (ti (ti (an e673 (ti (ti (an (an (not_f h674) trivial) (an (an (not_f h674) trivial) (an (an (not_f h674) trivial) (an e677 (an (an (not_f h674) trivial) (an (not_f h674) (ti trivial)))))))))))))))
     rcases ifs h with ⟨h679, h⟩ | ⟨h679, h⟩
     ·rcases ifs h with ⟨h680, h⟩ | ⟨h680, h⟩
      ·injection h with h; subst h
       exact fun_ok pm pn Go.Proofs.Try.func36 (r0 := vi 9) (ans := [.reg (.n :: .n :: []), .reg (.n :: .n :: .call (vb r658) :: .n :: .n :: []), .br false, .reg (arB2_10 r662 r666), .br false, .reg (arB2_11 r671 r675), .br false, .reg (nN 6 []), .br true, .reg (.n :: [])]) (fr := true) (by kernel_rfl) (an (an (ti (ti trivial)) (an e660 (an (not_f h661) (an e669 (an (not_f h670) (an e678 (an (not_f h679) (an (ti (ti (ti (ti (ti (ti trivial)))))) (an (decide_eq_true h680) (an (ti trivial) trivial)))))))))) (ti trivial)) (Wv.refl _)
      ·injection h with h; subst h
       exact fun_ok pm pn Go.Proofs.Try.func36 (r0 := vi 0) (ans := [.reg (.n :: .n :: []), .reg (.n :: .n :: .call (vb r658) :: .n :: .n :: []), .br false, .reg (arB2_10 r662 r666), .br false, .reg (arB2_11 r671 r675), .br false, .reg (nN 6 []), .br false, .reg (.n :: [])]) (fr := true) (by kernel_rfl) (an (an (ti (ti trivial)) (an (an e660 (an (not_f h661) (an e669 (an (not_f h670) (an e678 (an (not_f h679) (an (ti (ti (ti (ti (ti (ti trivial)))))) (an (decide_eq_false h680) trivial)))))))) (an (ti trivial) trivial))) (ti trivial)) (Wv.refl _)
     ·injection h with h; subst h
      exact fun_ok pm pn Go.Proofs.Try.func36 (r0 := vi 2) (ans := [.reg (.n :: .n :: []), .reg (.n :: .n :: .call (vb r658) :: .n :: .n :: []), .br false, .reg (arB2_10 r662 r666), .br false, .reg (arB2_11 r671 r675), .br true, .reg (.n :: [])]) (fr := true) (by kernel_rfl) (an (an (ti (ti trivial)) (an e660 (an (not_f h661) (an e669 (an (not_f h670) (an e678 (an (not_t (bool_f h679)) (an (ti trivial) trivial)))))))) (ti trivial)) (Wv.refl _)
    ·have e681 := (ti (ti (ti (ti (ti (an e673 (ti (ti (an (not_t (bool_f h674)) (an (not_t (bool_f h674)) (an (not_t (bool_f h674)) (an (not_t (bool_f h674)) (an (not_t (bool_f h674)) (an (not_t (bool_f h674)) (ti trivial)))))))))))))))
     injection h with h; subst h
     exact fun_ok pm pn Go.Proofs.Try.func36 (r0 := vi 2) (ans := [.reg (.n :: .n :: []), .reg (.n :: .n :: .call (vb r658) :: .n :: .n :: []), .br false, .reg (arB2_10 r662 r666), .br false, .reg (nN 4 (.v VV.any :: .call (vb r671) :: .n :: .n :: nS 5 (.b true :: .n :: []))), .br true, .reg (.n :: [])]) (fr := true) (by kernel_rfl) (an (an (ti (ti trivial)) (an e660 (an (not_f h661) (an e669 (an (not_f h670) (an e681 (an rt (an (ti trivial) trivial)))))))) (ti trivial)) (Wv.refl _)
   ·injection h with h; subst h
    exact fun_ok pm pn Go.Proofs.Try.func36 (r0 := vi 2) (ans := [.reg (.n :: .n :: []), .reg (.n :: .n :: .call (vb r658) :: .n :: .n :: []), .br false, .reg (arB2_10 r662 r666), .br true, .reg (.n :: [])]) (fr := true) (by kernel_rfl) (an (an (ti (ti trivial)) (an e660 (an (not_f h661) (an e669 (an (not_t (bool_f h670)) (an (ti trivial) trivial)))))) (ti trivial)) (Wv.refl _)
  ·have e682 := (ti (ti (ti (an e664 (ti (ti (an (not_t (bool_f h665)) (an (not_t (bool_f h665)) (an (not_t (bool_f h665)) (an (not_t (bool_f h665)) (an (not_t (bool_f h665)) (an (not_t (bool_f h665)) (ti trivial)))))))))))))
   injection h with h; subst h
   exact fun_ok pm pn Go.Proofs.Try.func36 (r0 := vi 2) (ans := [.reg (.n :: .n :: []), .reg (.n :: .n :: .call (vb r658) :: .n :: .n :: []), .br false, .reg (.n :: .n :: .v VV.any :: .call (vb r662) :: .n :: .n :: nS 5 (.b true :: .n :: [])), .br true, .reg (.n :: [])]) (fr := true) (by kernel_rfl) (an (an (ti (ti trivial)) (an e660 (an (not_f h661) (an e682 (an rt (an (ti trivial) trivial)))))) (ti trivial)) (Wv.refl _)
 ·injection h with h; subst h
  exact fun_ok pm pn Go.Proofs.Try.func36 (r0 := vi 4) (ans := [.reg (.n :: .n :: []), .reg (.n :: .n :: .call (vb r658) :: .n :: .n :: []), .br true, .reg (.n :: [])]) (fr := true) (by kernel_rfl) (an (an (ti (ti trivial)) (an e660 (an (not_t (bool_f h661)) (an (ti trivial) trivial)))) (ti trivial)) (Wv.refl _)
theorem eqB2_8 (z0 : SSkyTarget) (z1 : Int) (z2 : Int) (z3 : Int) : VV.ag [vi (w64 ((w64 (z0.Azimuth + z1)) - (w64 (z2 * 1296000)))), vi (w64 (z0.Height + z3))] = VV.ag (c_A29 (⟨w64 ((w64 (z0.Azimuth + z1)) - (w64 (z2 * 1296000))), w64 (z0.Height + z3)⟩ : A29)) := by first | rfl | (simp only [unfr_vi, List.map_cons, List.map_nil, un_i, unfr_c_A29]; done) | (simp only [unfr_vi, List.map_cons, List.map_nil, un_i, unfr_c_A29]; rfl) | (simp only [unfr_vi, List.map_cons, List.map_nil, un_i, unfr_c_A29, List.length_cons, List.length_nil, List.length_append]; done)
def npoint_apparent (k : Nat) (a0 : SSkyMount) (a1 : SSkyTarget) (a2 : Int) : Option A29 :=
  (npoint_valueAt k a0.Drift a2).bind fun r694 => ((npoint_down k (w64 (a1.Azimuth + r694)) 1296000).bind fun r698 => ((npoint_valueAt k a0.Refraction a1.Height).bind fun r701 => (some (⟨w64 ((w64 (a1.Azimuth + r694)) - (w64 (r698 * 1296000))), w64 (a1.Height + r701)⟩ : A29))))
theorem npoint_apparent_ok (k : Nat) (a0 : SSkyMount) (a1 : SSkyTarget) (a2 : Int) (r : A29) (h : npoint_apparent k a0 a1 a2 = some r) : VC Go.Proofs.Try.prog 20 [VV.ag (c_SSkyMount a0), VV.ag (c_SSkyTarget a1), vi a2] (VV.ag (c_A29 r)) := by
 unfold npoint_apparent at h
 obtain ⟨r694, h695, h⟩ := bs h
 have e696 := (npoint_valueAt_ok k a0.Drift a2 _ h695)
 have e697 := (ti (ti (ti (ti (ti (an e696 (ti (ti trivial))))))))
 obtain ⟨r698, h699, h⟩ := bs h
 have e700 := (npoint_down_ok k (w64 (a1.Azimuth + r694)) 1296000 _ h699)
 obtain ⟨r701, h702, h⟩ := bs h
 have e703 := (npoint_valueAt_ok k a0.Refraction a1.Height _ h702)
 have e704 := (ti (ti (ti (ti (ti (ti (ti (an e703 (ti (ti (ti trivial)))))))))))
 injection h with h; subst h
 exact fun_ok pm pn Go.Proofs.Try.func20 (r0 := VV.ag [vi (w64 ((w64 (a1.Azimuth + r694)) - (w64 (r698 * 1296000)))), vi (w64 (a1.Height + r701))]) (ans := [.reg (nN 3 []), .reg (nN 5 (.call (vi r694) :: .n :: .n :: [])), .reg (.n :: .n :: .call (vi r698) :: nN 3 []), .reg (nN 7 (.call (vi r701) :: nN 3 []))]) (fr := true) (by kernel_rfl) (an (an (ti (ti (ti trivial))) (an e697 (an (ti (ti (an e700 (ti (ti (ti trivial)))))) (an e704 trivial)))) (an (ti (ti (ti trivial))) trivial)) (Wv.of_eq (eqB2_8 a1 r694 r698 r701))
theorem eqB2_9 (z0 : SSkyMount) (z1 : A29) : [vi z0.Low, vi z0.High, VV.tr (List.map vi ([z1.e1] : List Int)) (([z1.e1] : List Int).length)] = [vi z0.Low, vi z0.High, VV.tr [vi z1.e1] 1] := by first | rfl | (simp only [unfr_vi, List.map_cons, List.map_nil, un_i, un_tr, List.length_map, List.length_cons, List.length_nil]; done) | (simp only [unfr_vi, List.map_cons, List.map_nil, un_i, un_tr, List.length_map, List.length_cons, List.length_nil]; rfl) | (simp only [unfr_vi, List.map_cons, List.map_nil, un_i, un_tr, List.length_map, List.length_cons, List.length_nil, List.length_cons, List.length_nil, List.length_append]; done)
def npoint_up (k : Nat) (a0 : Int) (a1 : Int) : Option Int :=
  (npoint_down k (w64 (0 - a0)) a1).bind fun r718 => (some (w64 (0 - r718)))
theorem npoint_up_ok (k : Nat) (a0 : Int) (a1 : Int) (r : Int) (h : npoint_up k a0 a1 = some r) : VC Go.Proofs.Try.prog 39 [vi a0, vi a1] (vi r) := by
 unfold npoint_up at h
 obtain ⟨r718, h719, h⟩ := bs h
 have e720 := (npoint_down_ok k (w64 (0 - a0)) a1 _ h719)
 injection h with h; subst h
 exact fun_ok pm pn Go.Proofs.Try.func39 (r0 := vi (w64 (0 - r718))) (ans := [.reg (.n :: []), .reg (nN 3 (.call (vi r718) :: .n :: .n :: []))]) (fr := true) (by kernel_rfl) (an (an (ti trivial) (an (ti (ti (ti (an e720 (ti (ti trivial)))))) trivial)) (ti trivial)) (Wv.refl _)
def npoint_stopAt_l0_0_h (a0 : SSkyMount) (a1 : SSkyTarget) (r752 : A29) (y5 : List Int) (y6 : List Int) (x12 : Int) : VS := ⟨mkA [(3, VV.pt 0 0), (6, VV.pt 2 0), (9, vi r752.e0), (11, VV.pt 4 0), (12, vi x12)], [some ⟨true, 1, c_SSkyMount a0⟩, some ⟨true, 1, c_SSkyTarget a1⟩, some ⟨true, 1, [vs ByteArray.empty, vi 0, vi 0, vi 0, vi 0, vi 0, VV.c (.slice none 0 0), VV.c (.slice none 0 0)]⟩, some ⟨true, 1, c_A29 r752⟩, some ⟨true, 1, [vs a1.Name, vi a1.Azimuth, vi a1.Height, vi a1.From, vi a1.To, vi a1.Dwell, VV.rf 5 0 y5.length, VV.rf 6 0 y6.length]⟩, some ⟨false, 1, List.map vi y5⟩, some ⟨false, 1, List.map vi y6⟩], .nil⟩
def npoint_stopAt_l0_0_e0 (a0 : SSkyMount) (a1 : SSkyTarget) (r752 : A29) (r : (List Int) × (List Int)) : VS := ⟨mkA [(6, VV.pt 2 0), (11, VV.pt 4 0)], [some ⟨true, 1, c_SSkyMount a0⟩, some ⟨true, 1, c_SSkyTarget a1⟩, some ⟨true, 1, [vs ByteArray.empty, vi 0, vi 0, vi 0, vi 0, vi 0, VV.c (.slice none 0 0), VV.c (.slice none 0 0)]⟩, some ⟨true, 1, c_A29 r752⟩, some ⟨true, 1, [vs a1.Name, vi a1.Azimuth, vi a1.Height, vi a1.From, vi a1.To, vi a1.Dwell, VV.rf 5 0 r.1.length, VV.rf 6 0 r.2.length]⟩, some ⟨false, 1, List.map vi r.1⟩, some ⟨false, 1, List.map vi r.2⟩], .nil⟩
def npoint_stopAt_l0_0 (k : Nat) (a0 : SSkyMount) (a1 : SSkyTarget) (r752 : A29) : Nat → (List Int) → (List Int) → Int → Option ((List Int) × (List Int))
  | 0, _, _, _ => none
  | fuel + 1, y5, y6, x12 => if (w64 (r752.e0 + (w64 (x12 * 1296000)))) ≤ a0.Most then (if y5.length + ([x12] : List Int).length ≤ 1000000000 then (if y6.length + ([w64 (r752.e0 + (w64 (x12 * 1296000)))] : List Int).length ≤ 1000000000 then (npoint_stopAt_l0_0 k a0 a1 r752 fuel (y5 ++ ([x12] : List Int)) (y6 ++ ([w64 (r752.e0 + (w64 (x12 * 1296000)))] : List Int)) (w64 (x12 + 1))) else none) else none) else (some (y5, y6))
theorem npoint_stopAt_l0_0_ok (k : Nat) (a0 : SSkyMount) (a1 : SSkyTarget) (r752 : A29) : ∀ (fuel : Nat) (y5 : List Int) (y6 : List Int) (x12 : Int) (r : (List Int) × (List Int)), npoint_stopAt_l0_0 k a0 a1 r752 fuel y5 y6 x12 = some r → (VLoop none Go.Proofs.Try.prog (szF Go.Proofs.Try.f22) (bodyOf Go.Proofs.Try.f22 0) (npoint_stopAt_l0_0_h a0 a1 r752 y5 y6 x12) (.exit 0) (npoint_stopAt_l0_0_e0 a0 a1 r752 r)) := by
 intro fuel
 induction fuel with
 | zero => intro y5 y6 x12 r h; rw [npoint_stopAt_l0_0.eq_1] at h; cases h
 | succ fuel ih =>
  intro y5 y6 x12 r h
  rw [npoint_stopAt_l0_0.eq_2] at h
  rcases ifs h with ⟨h783, h⟩ | ⟨h783, h⟩
  ·obtain ⟨h784, h⟩ := ifn h
   have e785 := (show List.length (List.map vi y5) = y5.length * 1 ∧ List.length [vi x12] = 1 * 1 ∧ (y5.length + 1) * 8 ≤ 140737488355328 ∧ y5.length + 1 < 1099511627776 ∧ List.all [vi x12] VV.still = true from ⟨(by simp), (by rw [show [vi x12] = List.map vi ([x12] : List Int) from rfl]; simp), (by first | omega | (simp at h784 ⊢; omega)), (by first | omega | (simp at h784 ⊢; omega)), (by rw [show [vi x12] = List.map vi ([x12] : List Int) from rfl]; exact still_vi _)⟩)
   obtain ⟨h786, h⟩ := ifn h
   have e787 := (show List.length (List.map vi y6) = y6.length * 1 ∧ List.length [vi (w64 (r752.e0 + (w64 (x12 * 1296000))))] = 1 * 1 ∧ (y6.length + 1) * 8 ≤ 140737488355328 ∧ y6.length + 1 < 1099511627776 ∧ List.all [vi (w64 (r752.e0 + (w64 (x12 * 1296000))))] VV.still = true from ⟨(by simp), (by rw [show [vi (w64 (r752.e0 + (w64 (x12 * 1296000))))] = List.map vi ([w64 (r752.e0 + (w64 (x12 * 1296000)))] : List Int) from rfl]; simp), (by first | omega | (simp at h786 ⊢; omega)), (by first | omega | (simp at h786 ⊢; omega)), (by rw [show [vi (w64 (r752.e0 + (w64 (x12 * 1296000))))] = List.map vi ([w64 (r752.e0 + (w64 (x12 * 1296000)))] : List Int) from rfl]; exact still_vi _)⟩)
   have e788 := (ti (ti (ti (ti (ti (ti (ti (an e787 (ti (ti trivial))))))))))
   have h2 := ih _ _ _ _ h
   obtain ⟨q, hv, hq⟩ := pkR (rd := none) (P := Go.Proofs.Try.prog) (fn := Go.Proofs.Try.f22) (k := 0) (s := (npoint_stopAt_l0_0_h a0 a1 r752 y5 y6 x12)) (ans := [.reg (nN 7 []), .br true, .reg (nN 7 []), .reg (nN 10 []), .reg (nN 3 [])]) (c := ⟨[(3, none), (6, none), (9, none), (11, none), (12, none)], [none, none, none, none, some [vs a1.Name, vi a1.Azimuth, vi a1.Height, vi a1.From, vi a1.To, vi a1.Dwell, VV.rf 5 0 ((y5 ++ ([x12] : List Int)).length), VV.rf 6 0 ((y6 ++ ([w64 (r752.e0 + (w64 (x12 * 1296000)))] : List Int)).length)], some (List.map vi (y5 ++ ([x12] : List Int))), some (List.map vi (y6 ++ ([w64 (r752.e0 + (w64 (x12 * 1296000)))] : List Int)))], []⟩) (e := .normal) (s1 := (npoint_stopAt_l0_0_h a0 a1 r752 (y5 ++ ([x12] : List Int)) (y6 ++ ([w64 (r752.e0 + (w64 (x12 * 1296000)))] : List Int)) (w64 (x12 + 1)))) (an (an (an (ti (ti (ti (ti (ti (ti (ti trivial))))))) (an (decide_eq_true h783) trivial)) (an (an (ti (ti (ti (ti (an e785 (ti (ti trivial))))))) e788) (ti (ti (ti trivial))))) (ti (an (show [vs a1.Name, vi a1.Azimuth, vi a1.Height, vi a1.From, vi a1.To, vi a1.Dwell, VV.rf 5 0 (y5.length + 1), VV.rf 6 0 (y6.length + 1)] = [vs a1.Name, vi a1.Azimuth, vi a1.Height, vi a1.From, vi a1.To, vi a1.Dwell, VV.rf 5 0 ((y5 ++ ([x12] : List Int)).length), VV.rf 6 0 ((y6 ++ ([w64 (r752.e0 + (w64 (x12 * 1296000)))] : List Int)).length)] from (by first | rfl | simp)) (an (show (List.map vi y5) ++ [vi x12] = List.map vi (y5 ++ ([x12] : List Int)) from (by rw [show [vi x12] = List.map vi ([x12] : List Int) from rfl]; exact List.map_append.symm)) (an (show (List.map vi y6) ++ [vi (w64 (r752.e0 + (w64 (x12 * 1296000))))] = List.map vi (y6 ++ ([w64 (r752.e0 + (w64 (x12 * 1296000)))] : List Int)) from (by rw [show [vi (w64 (r752.e0 + (w64 (x12 * 1296000))))] = List.map vi ([w64 (r752.e0 + (w64 (x12 * 1296000)))] : List Int) from rfl]; exact List.map_append.symm)) trivial))))) (by kernel_rfl)
   exact round_next pm pn hv hq h2
  ·injection h with h; subst h
   exact round_stop (c := ⟨[(6, none), (11, none)], [none, none, none, none, none, none, none], []⟩) (s1 := (npoint_stopAt_l0_0_e0 a0 a1 r752 (y5, y6))) pm pn (ans := [.reg (nN 7 []), .br false]) (by kernel_rfl) (by intro e; cases e) (an (an (ti (ti (ti (ti (ti (ti (ti trivial))))))) (an (decide_eq_false h783) trivial)) (ti trivial))
theorem eqB2_10  : vi 0 = vi (((⟨(⟨ByteArray.empty, 0, 0, 0, 0, 0⟩ : SSkyTarget), [], []⟩ : Sstop).SkyTarget).Dwell) := by first | rfl | (simp only [unfr_vi, List.map_cons, List.map_nil, un_i]; done) | (simp only [unfr_vi, List.map_cons, List.map_nil, un_i]; rfl) | (simp only [unfr_vi, List.map_cons, List.map_nil, un_i, List.length_cons, List.length_nil, List.length_append]; done)
theorem eqB2_11  : vi 0 = vi (((⟨(⟨ByteArray.empty, 0, 0, 0, 0, 0⟩ : SSkyTarget), [], []⟩ : Sstop).SkyTarget).To) := by first | rfl | (simp only [unfr_vi, List.map_cons, List.map_nil, un_i]; done) | (simp only [unfr_vi, List.map_cons, List.map_nil, un_i]; rfl) | (simp only [unfr_vi, List.map_cons, List.map_nil, un_i, List.length_cons, List.length_nil, List.length_append]; done)
theorem eqB2_12  : vi 0 = vi (((⟨(⟨ByteArray.empty, 0, 0, 0, 0, 0⟩ : SSkyTarget), [], []⟩ : Sstop).SkyTarget).From) := by first | rfl | (simp only [unfr_vi, List.map_cons, List.map_nil, un_i]; done) | (simp only [unfr_vi, List.map_cons, List.map_nil, un_i]; rfl) | (simp only [unfr_vi, List.map_cons, List.map_nil, un_i, List.length_cons, List.length_nil, List.length_append]; done)
theorem eqB2_13  : vi 0 = vi (((⟨(⟨ByteArray.empty, 0, 0, 0, 0, 0⟩ : SSkyTarget), [], []⟩ : Sstop).SkyTarget).Height) := by first | rfl | (simp only [unfr_vi, List.map_cons, List.map_nil, un_i]; done) | (simp only [unfr_vi, List.map_cons, List.map_nil, un_i]; rfl) | (simp only [unfr_vi, List.map_cons, List.map_nil, un_i, List.length_cons, List.length_nil, List.length_append]; done)
theorem eqB2_14  : vi 0 = vi (((⟨(⟨ByteArray.empty, 0, 0, 0, 0, 0⟩ : SSkyTarget), [], []⟩ : Sstop).SkyTarget).Azimuth) := by first | rfl | (simp only [unfr_vi, List.map_cons, List.map_nil, un_i]; done) | (simp only [unfr_vi, List.map_cons, List.map_nil, un_i]; rfl) | (simp only [unfr_vi, List.map_cons, List.map_nil, un_i, List.length_cons, List.length_nil, List.length_append]; done)
theorem eqB2_15  : vs ByteArray.empty = vs (((⟨(⟨ByteArray.empty, 0, 0, 0, 0, 0⟩ : SSkyTarget), [], []⟩ : Sstop).SkyTarget).Name) := by first | rfl | (simp only [unfr_vs, List.map_cons, List.map_nil, un_s]; done) | (simp only [unfr_vs, List.map_cons, List.map_nil, un_s]; rfl) | (simp only [unfr_vs, List.map_cons, List.map_nil, un_s, List.length_cons, List.length_nil, List.length_append]; done)
theorem eqB2_16 (z0 : SSkyTarget) (z1 : (List Int) × (List Int)) : VV.tu [VV.ag [vs z0.Name, vi z0.Azimuth, vi z0.Height, vi z0.From, vi z0.To, vi z0.Dwell, VV.fw 1 (List.drop 0 (List.map unfr (List.map vi z1.1))) z1.1.length, VV.fw 1 (List.drop 0 (List.map unfr (List.map vi z1.2))) z1.2.length], vi 0] = VV.tu [VV.ag [vs (((⟨z0, z1.1, z1.2⟩ : Sstop).SkyTarget).Name), vi (((⟨z0, z1.1, z1.2⟩ : Sstop).SkyTarget).Azimuth), vi (((⟨z0, z1.1, z1.2⟩ : Sstop).SkyTarget).Height), vi (((⟨z0, z1.1, z1.2⟩ : Sstop).SkyTarget).From), vi (((⟨z0, z1.1, z1.2⟩ : Sstop).SkyTarget).To), vi (((⟨z0, z1.1, z1.2⟩ : Sstop).SkyTarget).Dwell), VV.fw 1 (List.map vi ((⟨z0, z1.1, z1.2⟩ : Sstop).turns)) (((⟨z0, z1.1, z1.2⟩ : Sstop).turns).length), VV.fw 1 (List.map vi ((⟨z0, z1.1, z1.2⟩ : Sstop).positions)) (((⟨z0, z1.1, z1.2⟩ : Sstop).positions).length)], vi 0] := by first | rfl | (simp only [drop0, unfr_vi, unfr_vs, List.map_cons, List.map_nil, un_i, un_s, List.length_map, List.length_cons, List.length_nil]; done) | (simp only [drop0, unfr_vi, unfr_vs, List.map_cons, List.map_nil, un_i, un_s, List.length_map, List.length_cons, List.length_nil]; rfl) | (simp only [drop0, unfr_vi, unfr_vs, List.map_cons, List.map_nil, un_i, un_s, List.length_map, List.length_cons, List.length_nil, List.length_cons, List.length_nil, List.length_append]; done)
def npoint_stopAt (k : Nat) (a0 : SSkyMount) (a1 : SSkyTarget) (a2 : Int) : Option (Sstop × Int) :=
  (npoint_apparent k a0 a1 a2).bind fun r752 => ((npoint_areWithin k a0.Low a0.High ([r752.e1] : List Int)).bind fun r757 => (if r757 = true then ((npoint_up k (w64 (a0.Least - r752.e0)) 1296000).bind fun r762 => ((npoint_stopAt_l0_0 k a0 a1 r752 k ([] : List Int) ([] : List Int) r762).bind fun r790 => (if ((r790.1.length : Nat) : Int) = 0 then (some ((⟨(⟨ByteArray.empty, 0, 0, 0, 0, 0⟩ : SSkyTarget), [], []⟩ : Sstop), 12)) else (some ((⟨a1, r790.1, r790.2⟩ : Sstop), 0))))) else (some ((⟨(⟨ByteArray.empty, 0, 0, 0, 0, 0⟩ : SSkyTarget), [], []⟩ : Sstop), 26))))
theorem npoint_stopAt_ok (k : Nat) (a0 : SSkyMount) (a1 : SSkyTarget) (a2 : Int) (r : (Sstop × Int)) (h : npoint_stopAt k a0 a1 a2 = some r) : VC Go.Proofs.Try.prog 22 [VV.ag (c_SSkyMount a0), VV.ag (c_SSkyTarget a1), vi a2] (VV.tu [VV.ag [vs r.1.SkyTarget.Name, vi r.1.SkyTarget.Azimuth, vi r.1.SkyTarget.Height, vi r.1.SkyTarget.From, vi r.1.SkyTarget.To, vi r.1.SkyTarget.Dwell, VV.fw 1 (List.map vi r.1.turns) r.1.turns.length, VV.fw 1 (List.map vi r.1.positions) r.1.positions.length], vi r.2]) := by
 unfold npoint_stopAt at h
 obtain ⟨r752, h753, h⟩ := bs h
 have e754 := (ti (ti (ti (an (npoint_apparent_ok k a0 a1 a2 _ h753) (ti (ti trivial))))))
 have e755 := (show (0:Int) ≤ 0 ∧ (0:Int) < ((2 : Nat) : Int) from ⟨by decide, by decide⟩)
 have e756 := (show (0:Int) ≤ 1 ∧ (1:Int) < ((2 : Nat) : Int) from ⟨by decide, by decide⟩)
 obtain ⟨r757, h758, h⟩ := bs h
 have e759 := (VC.args (npoint_areWithin_ok k a0.Low a0.High ([r752.e1] : List Int) _ h758) (eqB2_9 a0 r752))
 have e760 := (ti (ti (ti (ti (ti (ti (an e759 (ti trivial))))))))
 rcases ifs h with ⟨h761, h⟩ | ⟨h761, h⟩
 ·obtain ⟨r762, h763, h⟩ := bs h
  have e764 := (npoint_up_ok k (w64 (a0.Least - r752.e0)) 1296000 _ h763)
  obtain ⟨r790, h789, h⟩ := bs h
  have hph789 := npoint_stopAt_l0_0_ok k a0 a1 r752 _ _ _ _ _ h789
  have e791 := (an (ti trivial) (VRun.loop hph789))
  rcases ifs h with ⟨h792, h⟩ | ⟨h792, h⟩
  ·injection h with h; subst h
   exact fun_ok pm pn Go.Proofs.Try.func22 (r0 := VV.tu [VV.ag [vs ByteArray.empty, vi 0, vi 0, vi 0, vi 0, vi 0, VV.c (.slice none 0 0), VV.c (.slice none 0 0)], vi 12]) (ans := [.reg (nN 4 []), .reg (nN 3 (.call (VV.ag (c_A29 r752)) :: .n :: .n :: [])), .reg (nN 6 []), .reg (nN 5 (.v VV.any :: .call (vb r757) :: .n :: [])), .br false, .reg (nN 4 []), .reg (nN 4 (.call (vi r762) :: .n :: [])), .sub ⟨[(3, none), (6, none), (9, none), (11, none), (12, none)], [none, none, none, none, none], [.b 4 6 1, .b 4 7 1]⟩ (.exit 0) (npoint_stopAt_l0_0_e0 a0 a1 r752 r790), .reg (nN 4 []), .br true, .reg (nN 3 [])]) (fr := true) (by kernel_rfl) (an (an (ti (ti (ti (ti trivial)))) (an e754 (an (an e755 (ti (an e756 (ti (ti (ti trivial)))))) (an (an e760 (an (not_f h761) trivial)) (an (ti (ti (ti (ti trivial)))) (an (an (ti (ti (ti (ti (an e764 (ti trivial)))))) e791) (an (ti (ti (ti (ti trivial)))) (an (decide_eq_true h792) (an (ti (ti (ti trivial))) trivial))))))))) (an (ti (ti (ti (ti (ti (ti (ti (ti (ti trivial))))))))) (ti trivial))) (Wv.tuL (.cons (Wv.agL (.cons (Wv.of_eq eqB2_15) (.cons (Wv.of_eq eqB2_14) (.cons (Wv.of_eq eqB2_13) (.cons (Wv.of_eq eqB2_12) (.cons (Wv.of_eq eqB2_11) (.cons (Wv.of_eq eqB2_10) (.cons Wv.nilFw (.cons Wv.nilFw .nil))))))))) (.cons (Wv.refl _) .nil)))
  ·injection h with h; subst h
   exact fun_ok pm pn Go.Proofs.Try.func22 (r0 := VV.tu [VV.ag [vs a1.Name, vi a1.Azimuth, vi a1.Height, vi a1.From, vi a1.To, vi a1.Dwell, VV.fw 1 (List.drop 0 (List.map unfr (List.map vi r790.1))) r790.1.length, VV.fw 1 (List.drop 0 (List.map unfr (List.map vi r790.2))) r790.2.length], vi 0]) (ans := [.reg (nN 4 []), .reg (nN 3 (.call (VV.ag (c_A29 r752)) :: .n :: .n :: [])), .reg (nN 6 []), .reg (nN 5 (.v VV.any :: .call (vb r757) :: .n :: [])), .br false, .reg (nN 4 []), .reg (nN 4 (.call (vi r762) :: .n :: [])), .sub ⟨[(3, none), (6, none), (9, none), (11, none), (12, none)], [none, none, none, none, none], [.b 4 6 1, .b 4 7 1]⟩ (.exit 0) (npoint_stopAt_l0_0_e0 a0 a1 r752 r790), .reg (nN 4 []), .br false, .reg (nN 3 [])]) (fr := true) (by kernel_rfl) (an (an (ti (ti (ti (ti trivial)))) (an e754 (an (an e755 (ti (an e756 (ti (ti (ti trivial)))))) (an (an e760 (an (not_f h761) trivial)) (an (ti (ti (ti (ti trivial)))) (an (an (ti (ti (ti (ti (an e764 (ti trivial)))))) e791) (an (an (ti (ti (ti (ti trivial)))) (an (decide_eq_false h792) trivial)) (an (ti (ti (ti trivial))) trivial)))))))) (an (ti (ti (ti (ti (ti (ti (ti (an (show List.all (List.map vi r790.1) new0 = true from (by exact new0_vi _)) (an (show List.all (List.map vi r790.2) new0 = true from (by exact new0_vi _)) trivial))))))))) (ti trivial))) (Wv.of_eq (eqB2_16 a1 r790))
 ·injection h with h; subst h
  exact fun_ok pm pn Go.Proofs.Try.func22 (r0 := VV.tu [VV.ag [vs ByteArray.empty, vi 0, vi 0, vi 0, vi 0, vi 0, VV.c (.slice none 0 0), VV.c (.slice none 0 0)], vi 26]) (ans := [.reg (nN 4 []), .reg (nN 3 (.call (VV.ag (c_A29 r752)) :: .n :: .n :: [])), .reg (nN 6 []), .reg (nN 5 (.v VV.any :: .call (vb r757) :: .n :: [])), .br true, .reg (nN 3 [])]) (fr := true) (by kernel_rfl) (an (an (ti (ti (ti (ti trivial)))) (an e754 (an (an e755 (ti (an e756 (ti (ti (ti trivial)))))) (an e760 (an (not_t (bool_f h761)) (an (ti (ti (ti trivial))) trivial)))))) (an (ti (ti (ti (ti (ti (ti (ti (ti (ti trivial))))))))) (ti trivial))) (Wv.tuL (.cons (Wv.agL (.cons (Wv.of_eq eqB2_15) (.cons (Wv.of_eq eqB2_14) (.cons (Wv.of_eq eqB2_13) (.cons (Wv.of_eq eqB2_12) (.cons (Wv.of_eq eqB2_11) (.cons (Wv.of_eq eqB2_10) (.cons Wv.nilFw (.cons Wv.nilFw .nil))))))))) (.cons (Wv.refl _) .nil)))
end Go.Proofs.Ytgacnndakgpaeaa.Vg

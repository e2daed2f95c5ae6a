import Derived.Test.YtlhnkehohknhbaaB1
namespace Go.Proofs.Ytlhnkehohknhbaa.Vg
set_option maxRecDepth 100000
set_option maxHeartbeats 4000000
set_option linter.unusedVariables false
set_option linter.unusedSimpArgs false
open Go Go.Proofs.Ytlhnkehohknhbaa.Ev Go.Proofs.Ytlhnkehohknhbaa.Vv
structure SSkyMount where
 Least : Int
 Most : Int
 Low : Int
 High : Int
 Speed : Int
 Refraction : (List SSkyRow)
 Drift : (List SSkyRow)
 deriving Inhabited
def c_SSkyMount (x : SSkyMount) : List VV := [vi x.Least, vi x.Most, vi x.Low, vi x.High, vi x.Speed, VV.tr (List.flatMap c_SSkyRow x.Refraction) x.Refraction.length, VV.tr (List.flatMap c_SSkyRow x.Drift) x.Drift.length]
def g_SSkyMount (x : SSkyMount) : List VV := [vi x.Least, vi x.Most, vi x.Low, vi x.High, vi x.Speed, VV.fr (List.flatMap c_SSkyRow x.Refraction) x.Refraction.length, VV.fr (List.flatMap c_SSkyRow x.Drift) x.Drift.length]
theorem unfr_c_SSkyMount (xs : List SSkyMount) : (xs.flatMap c_SSkyMount).map unfr = xs.flatMap c_SSkyMount := unfr_flat2 (fun _ => rfl) xs
theorem unfr_g_SSkyMount (xs : List SSkyMount) : (xs.flatMap g_SSkyMount).map unfr = xs.flatMap c_SSkyMount := unfr_flat2 (fun _ => rfl) xs
structure SSkyTarget where
 Name : ByteArray
 Azimuth : Int
 Height : Int
 From : Int
 To : Int
 Dwell : Int
 deriving Inhabited
def c_SSkyTarget (x : SSkyTarget) : List VV := [vs x.Name, vi x.Azimuth, vi x.Height, vi x.From, vi x.To, vi x.Dwell]
theorem len_c_SSkyTarget (x : SSkyTarget) : (c_SSkyTarget x).length = 6 := rfl
theorem still_c_SSkyTarget (xs : List SSkyTarget) : (xs.flatMap c_SSkyTarget).all VV.still = true := all_flat (fun _ => rfl) xs
theorem new0_c_SSkyTarget (xs : List SSkyTarget) : (xs.flatMap c_SSkyTarget).all new0 = true := all_flat (fun _ => rfl) xs
theorem unfr_c_SSkyTarget (xs : List SSkyTarget) : (xs.flatMap c_SSkyTarget).map unfr = xs.flatMap c_SSkyTarget := unfr_flat (fun _ => rfl) xs
structure A23 where
 e0 : Int
 e1 : Int
 deriving Inhabited
def c_A23 (x : A23) : List VV := [vi x.e0, vi x.e1]
theorem unfr_c_A23 (xs : List A23) : (xs.flatMap c_A23).map unfr = xs.flatMap c_A23 := unfr_flat (fun _ => rfl) xs
structure Sstop where
 SkyTarget : SSkyTarget
 turns : (List Int)
 positions : (List Int)
 deriving Inhabited
def c_Sstop (x : Sstop) : List VV := [vs x.SkyTarget.Name, vi x.SkyTarget.Azimuth, vi x.SkyTarget.Height, vi x.SkyTarget.From, vi x.SkyTarget.To, vi x.SkyTarget.Dwell, VV.tr (List.map vi x.turns) x.turns.length, VV.tr (List.map vi x.positions) x.positions.length]
theorem len_c_Sstop (x : Sstop) : (c_Sstop x).length = 8 := rfl
def g_Sstop (x : Sstop) : List VV := [vs x.SkyTarget.Name, vi x.SkyTarget.Azimuth, vi x.SkyTarget.Height, vi x.SkyTarget.From, vi x.SkyTarget.To, vi x.SkyTarget.Dwell, VV.fr (List.map vi x.turns) x.turns.length, VV.fr (List.map vi x.positions) x.positions.length]
theorem len_g_Sstop (x : Sstop) : (g_Sstop x).length = 8 := rfl
theorem still_g_Sstop (xs : List Sstop) : (xs.flatMap g_Sstop).all VV.still = true := all_flat (fun _ => rfl) xs
theorem unfr_c_Sstop (xs : List Sstop) : (xs.flatMap c_Sstop).map unfr = xs.flatMap c_Sstop := unfr_flat2 (fun _ => rfl) xs
theorem unfr_g_Sstop (xs : List Sstop) : (xs.flatMap g_Sstop).map unfr = xs.flatMap c_Sstop := unfr_flat2 (fun _ => rfl) xs
theorem new0_g_Sstop (xs : List Sstop) : (xs.flatMap g_Sstop).all new0 = true := all_flat (fun _ => rfl) xs
def nspeculumlaw09_Light (k : Nat) (a0 : SSkyMount) : Option Bool :=
 (nspeculumlaw09_rows k a0.Refraction).bind fun r560 => (if r560 = true then ((nspeculumlaw09_rows k a0.Drift).bind fun r564 => (some r564)) else (some false))
theorem nspeculumlaw09_Light_ok (k : Nat) (a0 : SSkyMount) (r : Bool) (h : nspeculumlaw09_Light k a0 = some r) : VC Go.Proofs.Try.prog 50 [VV.ag (c_SSkyMount a0)] (vb r) := by
 unfold nspeculumlaw09_Light at h
 obtain ⟨r560, h561, h⟩ := bs h
 have e562 := (nspeculumlaw09_rows_ok k a0.Refraction _ h561)
 rcases ifs h with ⟨h563, h⟩ | ⟨h563, h⟩
 ·obtain ⟨r564, h565, h⟩ := bs h
  have e566 := (an h563 (nspeculumlaw09_rows_ok k a0.Drift _ h565))
  have e567 := (ti (ti (an e562 (ti (an (an h563 trivial) (an (an h563 trivial) (an e566 (an h563 (ti trivial)))))))))
  injection h with h; subst h
  exact fun_ok pm pn Go.Proofs.Try.func50 (r0 := vb r564) (ans := [.reg (.n :: .n :: []), .reg (.n :: .n :: .call (vb r560) :: nN 3 (.call (vb r564) :: .b true :: .n :: []))]) (fr := true) (by kernel_rfl) (an (an (ti (ti trivial)) (an e567 trivial)) (ti trivial)) (Wv.refl _)
 ·have e568 := (ti (ti (an e562 (ti (an (bool_f h563) (an (bool_f h563) (an (bool_f h563) (an (bool_f h563) (ti trivial)))))))))
  injection h with h; subst h
  exact fun_ok pm pn Go.Proofs.Try.func50 (r0 := vb false) (ans := [.reg (.n :: .n :: []), .reg (.n :: .n :: .call (vb r560) :: .n :: nS 3 (.b false :: .n :: []))]) (fr := true) (by kernel_rfl) (an (an (ti (ti trivial)) (an e568 trivial)) (ti trivial)) (Wv.refl _)
def arB2_0 (z0 : (List SSkyRow)) (z1 : (List SSkyRow)) : List Ans := (.n :: .n :: .call (VV.fr (List.flatMap c_SSkyRow z0) z0.length) :: .n :: .n :: .call (VV.fr (List.flatMap c_SSkyRow z1) z1.length) :: nN 4 [])
theorem eqB2_0 (z0 : SSkyMount) (z1 : (List SSkyRow)) (z2 : (List SSkyRow)) : VV.ag [vi z0.Least, vi z0.Most, vi z0.Low, vi z0.High, vi z0.Speed, VV.fr (List.flatMap c_SSkyRow z1) z1.length, VV.fr (List.flatMap c_SSkyRow z2) z2.length] = VV.ag (g_SSkyMount (⟨z0.Least, z0.Most, z0.Low, z0.High, z0.Speed, z1, z2⟩ : SSkyMount)) := by first | rfl | simp only [unfr_vi, List.map_cons, List.map_nil, un_i, un_fr, List.length_cons, List.length_nil, unfr_c_SSkyRow, unfr_g_SSkyMount]
def nspeculumlaw09_mount (k : Nat) (a0 : SSkyMount) : Option SSkyMount :=
 (nspeculumlaw09_table k a0.Refraction).bind fun r576 => ((nspeculumlaw09_table k a0.Drift).bind fun r579 => (some (⟨a0.Least, a0.Most, a0.Low, a0.High, a0.Speed, r576, r579⟩ : SSkyMount)))
theorem nspeculumlaw09_mount_ok (k : Nat) (a0 : SSkyMount) (r : SSkyMount) (h : nspeculumlaw09_mount k a0 = some r) : VC Go.Proofs.Try.prog 52 [VV.ag (c_SSkyMount a0)] (VV.ag (g_SSkyMount r)) := by
 unfold nspeculumlaw09_mount at h
 obtain ⟨r576, h577, h⟩ := bs h
 have e578 := (show VC Go.Proofs.Try.prog 45 [VV.tr (List.flatMap c_SSkyRow a0.Refraction) a0.Refraction.length] (VV.fr (List.flatMap c_SSkyRow r576) r576.length) from (VC.weak (nspeculumlaw09_table_ok k a0.Refraction _ h577) (Wv.fw rfl rfl)))
 obtain ⟨r579, h580, h⟩ := bs h
 have e581 := (show VC Go.Proofs.Try.prog 45 [VV.tr (List.flatMap c_SSkyRow a0.Drift) a0.Drift.length] (VV.fr (List.flatMap c_SSkyRow r579) r579.length) from (VC.weak (nspeculumlaw09_table_ok k a0.Drift _ h580) (Wv.fw rfl rfl)))
 have e582 := (ti (ti (an e578 (ti (ti (an e581 (ti (ti (ti (ti trivial))))))))))
 injection h with h; subst h
 exact fun_ok pm pn Go.Proofs.Try.func52 (r0 := VV.ag [vi a0.Least, vi a0.Most, vi a0.Low, vi a0.High, vi a0.Speed, VV.fr (List.flatMap c_SSkyRow r576) r576.length, VV.fr (List.flatMap c_SSkyRow r579) r579.length]) (ans := [.reg (.n :: .n :: []), .reg (arB2_0 r576 r579), .reg (.n :: .n :: [])]) (fr := true) (by kernel_rfl) (an (an (ti (ti trivial)) (an e582 (an (ti (ti trivial)) trivial))) (an (ti (ti (ti (ti (ti (ti (ti (ti trivial)))))))) trivial)) (Wv.of_eq (eqB2_0 a0 r576 r579))
theorem eqB2_1 (z0 : SSkyMount) : [vi 25920000, VV.tr (List.map vi ([z0.Least, z0.Most] : List Int)) (([z0.Least, z0.Most] : List Int).length)] = [vi 25920000, VV.tr (List.drop 0 (List.map unfr [vi z0.Least, vi z0.Most])) 2] := by first | rfl | simp only [drop0, unfr_vi, List.map_cons, List.map_nil, un_i, un_tr, List.length_map, List.length_cons, List.length_nil]
theorem eqB2_2 (z0 : SSkyMount) : [vi 0, vi 324000, VV.tr (List.map vi ([z0.Low, z0.High] : List Int)) (([z0.Low, z0.High] : List Int).length)] = [vi 0, vi 324000, VV.tr (List.drop 0 (List.map unfr [vi z0.Low, vi z0.High])) 2] := by first | rfl | simp only [drop0, unfr_vi, List.map_cons, List.map_nil, un_i, un_tr, List.length_map, List.length_cons, List.length_nil]
theorem eqB2_3 (z0 : SSkyMount) : [vi 1, vi 1000000, VV.tr (List.map vi ([z0.Speed] : List Int)) (([z0.Speed] : List Int).length)] = [vi 1, vi 1000000, VV.tr (List.drop 0 (List.map unfr [vi z0.Speed])) 1] := by first | rfl | simp only [drop0, unfr_vi, List.map_cons, List.map_nil, un_i, un_tr, List.length_map, List.length_cons, List.length_nil]
def arB2_1 (z0 : Bool) (z1 : Bool) (z2 : Bool) : List Ans := (nN 5 (.call (vb z0) :: nN 7 (.call (vb z1) :: .n :: .b false :: nN 4 (.call (vb z2) :: .n :: .b false :: .n :: []))))
def arB2_2 (z0 : Bool) (z1 : Bool) : List Ans := (nN 5 (.call (vb z0) :: nN 7 (.call (vb z1) :: .n :: .b false :: .n :: nS 5 (.b true :: .n :: []))))
def arB2_3 (z0 : Bool) : List Ans := (nN 5 (.call (vb z0) :: .n :: .n :: nS 7 (.b true :: .n :: nS 5 (.b true :: .n :: []))))
def npoint_CheckMount (k : Nat) (a0 : SSkyMount) : Option Int :=
 (npoint_areSmall k 25920000 ([a0.Least, a0.Most] : List Int)).bind fun r609 => (if r609 = true then ((npoint_areWithin k 0 324000 ([a0.Low, a0.High] : List Int)).bind fun r613 => (if r613 = true then ((npoint_areWithin k 1 1000000 ([a0.Speed] : List Int)).bind fun r617 => (if r617 = true then (if a0.Most < a0.Least then (some 9) else (if a0.High < a0.Low then (some 9) else ((npoint_CheckTable k a0.Refraction).bind fun r626 => (if r626 = 0 then ((npoint_CheckTable k a0.Drift).bind fun r630 => (some r630)) else (some r626))))) else (some 2))) else (some 2))) else (some 2))
theorem npoint_CheckMount_ok (k : Nat) (a0 : SSkyMount) (r : Int) (h : npoint_CheckMount k a0 = some r) : VC Go.Proofs.Try.prog 55 [VV.ag (c_SSkyMount a0)] (vi r) := by
 unfold npoint_CheckMount at h
 obtain ⟨r609, h610, h⟩ := bs h
 have e611 := (VC.args (npoint_areSmall_ok k 25920000 ([a0.Least, a0.Most] : List Int) _ h610) (eqB2_1 a0))
 rcases ifs h with ⟨h612, h⟩ | ⟨h612, h⟩
 ·obtain ⟨r613, h614, h⟩ := bs h
  have e615 := (an (not_f h612) (VC.args (npoint_areWithin_ok k 0 324000 ([a0.Low, a0.High] : List Int) _ h614) (eqB2_2 a0)))
  rcases ifs h with ⟨h616, h⟩ | ⟨h616, h⟩
  ·obtain ⟨r617, h618, h⟩ := bs h
   have e619 := (an (not_f h616) (VC.args (npoint_areWithin_ok k 1 1000000 ([a0.Speed] : List Int) _ h618) (eqB2_3 a0)))
   have e620 := (ti (ti (ti (ti (ti (an e611 (ti (ti (an (an (not_f h612) trivial) (an (an (not_f h612) trivial) (an (an (not_f h612) trivial) (an (an (not_f h612) trivial) (an (an (not_f h612) trivial) (an e615 (an (an (not_f h612) trivial) (an (not_f h612) (ti (an (an (not_f h616) trivial) (an (an (not_f h616) trivial) (an (an (not_f h616) trivial) (an e619 (an (an (not_f h616) trivial) (an (not_f h616) (ti trivial))))))))))))))))))))))))
   rcases ifs h with ⟨h621, h⟩ | ⟨h621, h⟩
   ·rcases ifs h with ⟨h622, h⟩ | ⟨h622, h⟩
    ·have e623 := (ti (ti (ti (ti (ti (ti (an (decide_eq_true h622) (an (decide_eq_true h622) (an (decide_eq_true h622) (an (decide_eq_true h622) (an (decide_eq_true h622) (an (decide_eq_true h622) (ti trivial)))))))))))))
     injection h with h; subst h
     exact fun_ok pm pn Go.Proofs.Try.func55 (r0 := vi 9) (ans := [.reg (.n :: .n :: []), .reg (arB2_1 r609 r613 r617), .br false, .reg (nN 6 (nS 5 (.b true :: .n :: []))), .br true, .reg (.n :: [])]) (fr := true) (by kernel_rfl) (an (an (ti (ti trivial)) (an e620 (an (not_f h621) (an e623 (an rt (an (ti trivial) trivial)))))) (ti trivial)) (Wv.refl _)
    ·have e624 := (ti (ti (ti (ti (ti (ti (an (an (decide_eq_false h622) trivial) (an (an (decide_eq_false h622) trivial) (an (an (decide_eq_false h622) trivial) (an (an (decide_eq_false h622) trivial) (an (an (decide_eq_false h622) trivial) (an (decide_eq_false h622) (ti trivial)))))))))))))
     rcases ifs h with ⟨h625, h⟩ | ⟨h625, h⟩
     ·injection h with h; subst h
      exact fun_ok pm pn Go.Proofs.Try.func55 (r0 := vi 9) (ans := [.reg (.n :: .n :: []), .reg (arB2_1 r609 r613 r617), .br false, .reg (nN 11 (.b false :: .n :: [])), .br true, .reg (.n :: [])]) (fr := true) (by kernel_rfl) (an (an (ti (ti trivial)) (an e620 (an (not_f h621) (an e624 (an (decide_eq_true h625) (an (ti trivial) trivial)))))) (ti trivial)) (Wv.refl _)
     ·obtain ⟨r626, h627, h⟩ := bs h
      have e628 := (npoint_CheckTable_ok k a0.Refraction _ h627)
      rcases ifs h with ⟨h629, h⟩ | ⟨h629, h⟩
      ·obtain ⟨r630, h631, h⟩ := bs h
       have e632 := (npoint_CheckTable_ok k a0.Drift _ h631)
       injection h with h; subst h
       exact fun_ok pm pn Go.Proofs.Try.func55 (r0 := vi r630) (ans := [.reg (.n :: .n :: []), .reg (arB2_1 r609 r613 r617), .br false, .reg (nN 11 (.b false :: .n :: [])), .br false, .reg (.n :: .n :: .call (vi r626) :: .n :: []), .reg (.n :: .n :: []), .br false, .reg (.n :: .n :: .call (vi r630) :: .n :: [])]) (fr := true) (by kernel_rfl) (an (an (ti (ti trivial)) (an (an e620 (an (not_f h621) (an e624 (an (decide_eq_false h625) trivial)))) (an (an (ti (ti (an e628 (ti trivial)))) (an (ti (ti trivial)) (an (not_f (decide_eq_true h629)) trivial))) (an (ti (ti (an e632 (ti trivial)))) trivial)))) (ti trivial)) (Wv.refl _)
      ·injection h with h; subst h
       exact fun_ok pm pn Go.Proofs.Try.func55 (r0 := vi r626) (ans := [.reg (.n :: .n :: []), .reg (arB2_1 r609 r613 r617), .br false, .reg (nN 11 (.b false :: .n :: [])), .br false, .reg (.n :: .n :: .call (vi r626) :: .n :: []), .reg (.n :: .n :: []), .br true, .reg (.n :: .n :: [])]) (fr := true) (by kernel_rfl) (an (an (ti (ti trivial)) (an (an e620 (an (not_f h621) (an e624 (an (decide_eq_false h625) trivial)))) (an (ti (ti (an e628 (ti trivial)))) (an (ti (ti trivial)) (an (not_t (decide_eq_false h629)) (an (ti (ti trivial)) trivial)))))) (ti trivial)) (Wv.refl _)
   ·injection h with h; subst h
    exact fun_ok pm pn Go.Proofs.Try.func55 (r0 := vi 2) (ans := [.reg (.n :: .n :: []), .reg (arB2_1 r609 r613 r617), .br true, .reg (.n :: [])]) (fr := true) (by kernel_rfl) (an (an (ti (ti trivial)) (an e620 (an (not_t (bool_f h621)) (an (ti trivial) trivial)))) (ti trivial)) (Wv.refl _)
  ·have e633 := (ti (ti (ti (ti (ti (an e611 (ti (ti (an (an (not_f h612) trivial) (an (an (not_f h612) trivial) (an (an (not_f h612) trivial) (an (an (not_f h612) trivial) (an (an (not_f h612) trivial) (an e615 (an (an (not_f h612) trivial) (an (not_f h612) (ti (an (not_t (bool_f h616)) (an (not_t (bool_f h616)) (an (not_t (bool_f h616)) (an (not_t (bool_f h616)) (an (not_t (bool_f h616)) (an (not_t (bool_f h616)) (ti trivial))))))))))))))))))))))))
   injection h with h; subst h
   exact fun_ok pm pn Go.Proofs.Try.func55 (r0 := vi 2) (ans := [.reg (.n :: .n :: []), .reg (arB2_2 r609 r613), .br true, .reg (.n :: [])]) (fr := true) (by kernel_rfl) (an (an (ti (ti trivial)) (an e633 (an rt (an (ti trivial) trivial)))) (ti trivial)) (Wv.refl _)
 ·have e634 := (ti (ti (ti (ti (ti (an e611 (ti (ti (an (not_t (bool_f h612)) (an (not_t (bool_f h612)) (an (not_t (bool_f h612)) (an (not_t (bool_f h612)) (an (not_t (bool_f h612)) (an (not_t (bool_f h612)) (an (not_t (bool_f h612)) (an (not_t (bool_f h612)) (ti (an rt (an rt (an rt (an rt (an rt (an rt (ti trivial))))))))))))))))))))))))
  injection h with h; subst h
  exact fun_ok pm pn Go.Proofs.Try.func55 (r0 := vi 2) (ans := [.reg (.n :: .n :: []), .reg (arB2_3 r609), .br true, .reg (.n :: [])]) (fr := true) (by kernel_rfl) (an (an (ti (ti trivial)) (an e634 (an rt (an (ti trivial) trivial)))) (ti trivial)) (Wv.refl _)
theorem eqB2_4 (z0 : ByteArray) : [vi 1, vi 12, VV.tr (List.map vi ([(z0.size : Int)] : List Int)) (([(z0.size : Int)] : List Int).length)] = [vi 1, vi 12, VV.tr (List.drop 0 (List.map unfr [vi (z0.size : Int)])) 1] := by first | rfl | simp only [drop0, unfr_vi, List.map_cons, List.map_nil, un_i, un_tr, List.length_map, List.length_cons, List.length_nil]
def arB2_4  : List Ans := (nN 3 (.skip :: .skip :: .b false :: nN 4 (.skip :: .skip :: .b false :: .b false :: .n :: [])))
def npoint_isLetter (k : Nat) (a0 : Int) : Option Bool :=
 if 97 <= a0 then (if a0 <= 122 then (some true) else (if 65 <= a0 then (some (decide (a0 <= 90))) else (some false))) else (if 65 <= a0 then (some (decide (a0 <= 90))) else (some false))
theorem npoint_isLetter_ok (k : Nat) (a0 : Int) (r : Bool) (h : npoint_isLetter k a0 = some r) : VC Go.Proofs.Try.prog 133 [VV.c (.int .i32 a0)] (vb r) := by
 unfold npoint_isLetter at h
 rcases ifs h with ⟨h651, h⟩ | ⟨h651, h⟩
 ·rcases ifs h with ⟨h652, h⟩ | ⟨h652, h⟩
  ·have e653 := (ti (ti (ti (an (an (decide_eq_true h651) trivial) (an (an (decide_eq_true h651) trivial) (an (decide_eq_true h651) (ti (an (decide_eq_true h652) (an (decide_eq_true h652) (an (decide_eq_true h652) (ti (ti (an (decide_eq_true h652) (an (decide_eq_true h652) (ti trivial)))))))))))))))
   injection h with h; subst h
   exact fun_ok pm pn Go.Proofs.Try.func133 (r0 := vb true) (ans := [.reg (.n :: []), .reg (nN 5 (.b true :: .n :: nS 6 (.b true :: .n :: [])))]) (fr := true) (by kernel_rfl) (an (an (ti trivial) (an e653 trivial)) (ti trivial)) (Wv.refl _)
  ·rcases ifs h with ⟨h654, h⟩ | ⟨h654, h⟩
   ·have e655 := (an (decide_eq_false h652) (decide_eq_true h654))
    have e656 := (ti (ti (ti (an (an (decide_eq_true h651) trivial) (an (an (decide_eq_true h651) trivial) (an (decide_eq_true h651) (ti (an (an (decide_eq_false h652) trivial) (an (an (decide_eq_false h652) trivial) (an (an (decide_eq_false h652) trivial) (an (an (decide_eq_true h654) trivial) (an (an (decide_eq_true h654) trivial) (an e655 (an (decide_eq_false h652) (ti trivial)))))))))))))))
    injection h with h; subst h
    exact fun_ok pm pn Go.Proofs.Try.func133 (r0 := vb (decide (a0 <= 90))) (ans := [.reg (.n :: []), .reg (nN 5 (.b true :: nN 6 (.b true :: .b false :: .n :: [])))]) (fr := true) (by kernel_rfl) (an (an (ti trivial) (an e656 trivial)) (ti trivial)) (Wv.refl _)
   ·have e657 := (an (decide_eq_false h652) (decide_eq_false h654))
    have e658 := (ti (ti (ti (an (an (decide_eq_true h651) trivial) (an (an (decide_eq_true h651) trivial) (an (decide_eq_true h651) (ti (an (an (decide_eq_false h652) trivial) (an (an (decide_eq_false h652) trivial) (an (an (decide_eq_false h652) trivial) (an (decide_eq_false h654) (an (decide_eq_false h654) (an e657 (an (decide_eq_false h652) (ti trivial)))))))))))))))
    injection h with h; subst h
    exact fun_ok pm pn Go.Proofs.Try.func133 (r0 := vb false) (ans := [.reg (.n :: []), .reg (nN 5 (.b true :: nN 4 (.skip :: .skip :: .b false :: .b false :: .n :: [])))]) (fr := true) (by kernel_rfl) (an (an (ti trivial) (an e658 trivial)) (ti trivial)) (Wv.refl _)
 ·rcases ifs h with ⟨h659, h⟩ | ⟨h659, h⟩
  ·have e660 := (ti (ti (ti (an (decide_eq_false h651) (an (decide_eq_false h651) (an (decide_eq_false h651) (ti (an (an rf trivial) (an (an rf trivial) (an (an rf trivial) (an (an (decide_eq_true h659) trivial) (an (an (decide_eq_true h659) trivial) (an (an rf (decide_eq_true h659)) (an rf (ti trivial)))))))))))))))
   injection h with h; subst h
   exact fun_ok pm pn Go.Proofs.Try.func133 (r0 := vb (decide (a0 <= 90))) (ans := [.reg (.n :: []), .reg (nN 3 (.skip :: .skip :: .b false :: nN 6 (.b true :: .b false :: .n :: [])))]) (fr := true) (by kernel_rfl) (an (an (ti trivial) (an e660 trivial)) (ti trivial)) (Wv.refl _)
  ·have e661 := (ti (ti (ti (an (decide_eq_false h651) (an (decide_eq_false h651) (an (decide_eq_false h651) (ti (an (an rf trivial) (an (an rf trivial) (an (an rf trivial) (an (decide_eq_false h659) (an (decide_eq_false h659) (an (an rf (decide_eq_false h659)) (an rf (ti trivial)))))))))))))))
   injection h with h; subst h
   exact fun_ok pm pn Go.Proofs.Try.func133 (r0 := vb false) (ans := [.reg (.n :: []), .reg arB2_4]) (fr := true) (by kernel_rfl) (an (an (ti trivial) (an e661 trivial)) (ti trivial)) (Wv.refl _)
def arB2_5 (z0 : Bool) : List Ans := (.n :: .call (vb z0) :: .n :: .n :: nS 7 (.b false :: .n :: .skip :: .skip :: .b false :: .n :: []))
def arB2_6 (z0 : Bool) : List Ans := (.n :: .call (vb z0) :: nN 7 (.b true :: .n :: .b true :: .n :: .skip :: .skip :: .b false :: .n :: []))
def arB2_7 (z0 : Bool) : List Ans := (.n :: .call (vb z0) :: nN 5 (.skip :: .skip :: .b false :: .n :: .b true :: nN 3 (.b true :: .n :: [])))
def npoint_isForeign (k : Nat) (a0 : Int) : Option Bool :=
 (npoint_isLetter k a0).bind fun r684 => (if r684 = true then (some false) else (if 48 <= a0 then (if a0 <= 57 then (some false) else (some (!(decide (a0 = 45))))) else (some (!(decide (a0 = 45))))))
theorem npoint_isForeign_ok (k : Nat) (a0 : Int) (r : Bool) (h : npoint_isForeign k a0 = some r) : VC Go.Proofs.Try.prog 135 [VV.c (.int .i32 a0)] (vb r) := by
 unfold npoint_isForeign at h
 obtain ⟨r684, h685, h⟩ := bs h
 rcases ifs h with ⟨h686, h⟩ | ⟨h686, h⟩
 ·have e687 := (ti (an (npoint_isLetter_ok k a0 _ h685) (ti (ti (an (not_f h686) (an (not_f h686) (an (not_f h686) (ti (ti (an (not_f h686) (an (not_f h686) (an (not_f h686) (ti (an rf (an rf (an rf (ti trivial)))))))))))))))))
  injection h with h; subst h
  exact fun_ok pm pn Go.Proofs.Try.func135 (r0 := vb false) (ans := [.reg (.n :: []), .reg (arB2_5 r684)]) (fr := true) (by kernel_rfl) (an (an (ti trivial) (an e687 trivial)) (ti trivial)) (Wv.refl _)
 ·rcases ifs h with ⟨h688, h⟩ | ⟨h688, h⟩
  ·have e689 := (an (not_t (bool_f h686)) (decide_eq_true h688))
   rcases ifs h with ⟨h690, h⟩ | ⟨h690, h⟩
   ·have e691 := (ti (an (npoint_isLetter_ok k a0 _ h685) (ti (ti (an (an (not_t (bool_f h686)) trivial) (an (an (not_t (bool_f h686)) trivial) (an (an (not_t (bool_f h686)) trivial) (an (an (decide_eq_true h688) trivial) (an (an (decide_eq_true h688) trivial) (an e689 (an (an (not_t (bool_f h686)) trivial) (an (not_t (bool_f h686)) (ti (an (not_f (decide_eq_true h690)) (an (not_f (decide_eq_true h690)) (an (not_f (decide_eq_true h690)) (ti trivial)))))))))))))))))
    injection h with h; subst h
    exact fun_ok pm pn Go.Proofs.Try.func135 (r0 := vb false) (ans := [.reg (.n :: []), .reg (arB2_6 r684)]) (fr := true) (by kernel_rfl) (an (an (ti trivial) (an e691 trivial)) (ti trivial)) (Wv.refl _)
   ·have e692 := (an (not_t (decide_eq_false h690)) trivial)
    have e693 := (an (not_t (decide_eq_false h690)) trivial)
    have e694 := (ti (an (npoint_isLetter_ok k a0 _ h685) (ti (ti (an (an (not_t (bool_f h686)) trivial) (an (an (not_t (bool_f h686)) trivial) (an (an (not_t (bool_f h686)) trivial) (an (an (decide_eq_true h688) trivial) (an (an (decide_eq_true h688) trivial) (an e689 (an (an (not_t (bool_f h686)) trivial) (an (not_t (bool_f h686)) (ti (an e692 (an e693 (an (not_t (decide_eq_false h690)) (ti trivial)))))))))))))))))
    injection h with h; subst h
    exact fun_ok pm pn Go.Proofs.Try.func135 (r0 := vb (!(decide (a0 = 45)))) (ans := [.reg (.n :: []), .reg (.n :: .call (vb r684) :: nN 7 (.b true :: .n :: .b true :: nN 3 (.b true :: .n :: [])))]) (fr := true) (by kernel_rfl) (an (an (ti trivial) (an e694 trivial)) (ti trivial)) (Wv.refl _)
  ·have e695 := (an (not_t (bool_f h686)) (decide_eq_false h688))
   have e696 := (an (show (!false) = true from (not_t rfl)) trivial)
   have e697 := (an (show (!false) = true from (not_t rfl)) trivial)
   have e698 := (ti (an (npoint_isLetter_ok k a0 _ h685) (ti (ti (an (an (not_t (bool_f h686)) trivial) (an (an (not_t (bool_f h686)) trivial) (an (an (not_t (bool_f h686)) trivial) (an (decide_eq_false h688) (an (decide_eq_false h688) (an e695 (an (an (not_t (bool_f h686)) trivial) (an (not_t (bool_f h686)) (ti (an e696 (an e697 (an (show (!false) = true from (not_t rfl)) (ti trivial)))))))))))))))))
   injection h with h; subst h
   exact fun_ok pm pn Go.Proofs.Try.func135 (r0 := vb (!(decide (a0 = 45)))) (ans := [.reg (.n :: []), .reg (arB2_7 r684)]) (fr := true) (by kernel_rfl) (an (an (ti trivial) (an e698 trivial)) (ti trivial)) (Wv.refl _)
def nstrings_indexFunc_c1_135_l0_0_h (a0 : ByteArray) (a2 : Bool) (b0_1 : Int) : VS := ⟨mkA [(1, VV.fn 135 []), (2, vb a2), (10, VV.it 0)], [some ⟨true, bigX, [vs a0, vi b0_1]⟩], .nil⟩
def nstrings_indexFunc_c1_135_l0_0_e0 (a0 : ByteArray) (a2 : Bool) (r : Int) : VS := ⟨mkA [(6, vi r)], [], .nil⟩
def nstrings_indexFunc_c1_135_l0_0_e1 (a0 : ByteArray) (a2 : Bool) (r : Unit) : VS := ⟨mkA [], [], .nil⟩
def nstrings_indexFunc_c1_135_l0_0 (k : Nat) (a0 : ByteArray) (a2 : Bool) : Nat -> Int -> Option (Sum Int Unit)
 | 0, _ => none
 | fuel + 1, b0_1 => if b0_1 < (a0.size : Int) then (if 0 <= b0_1 then ((npoint_isForeign k (((Go.Utf8.decode a0 (b0_1).toNat).1 : Nat) : Int)).bind fun r745 => (if (r745 == a2) = true then (some (.inl b0_1)) else (nstrings_indexFunc_c1_135_l0_0 k a0 a2 fuel (b0_1 + (((Go.Utf8.decode a0 (b0_1).toNat).2 : Nat) : Int))))) else none) else (some (.inr ()))
theorem nstrings_indexFunc_c1_135_l0_0_ok (k : Nat) (a0 : ByteArray) (a2 : Bool) : ∀ (fuel : Nat) (b0_1 : Int) (r : Sum Int Unit), nstrings_indexFunc_c1_135_l0_0 k a0 a2 fuel b0_1 = some r -> (match r with | .inl r => VLoop none Go.Proofs.Try.prog (szF Go.Proofs.Try.f153) (bodyOf Go.Proofs.Try.f153 0) (nstrings_indexFunc_c1_135_l0_0_h a0 a2 b0_1) .ret (nstrings_indexFunc_c1_135_l0_0_e0 a0 a2 r) | .inr r => VLoop none Go.Proofs.Try.prog (szF Go.Proofs.Try.f153) (bodyOf Go.Proofs.Try.f153 0) (nstrings_indexFunc_c1_135_l0_0_h a0 a2 b0_1) (.exit 0) (nstrings_indexFunc_c1_135_l0_0_e1 a0 a2 r)) := by
 intro fuel
 induction fuel with
 | zero => intro b0_1 r h; rw [nstrings_indexFunc_c1_135_l0_0.eq_1] at h; cases h
 | succ fuel ih =>
  intro b0_1 r h
  rw [nstrings_indexFunc_c1_135_l0_0.eq_2] at h
  rcases ifs h with ⟨h742, h⟩ | ⟨h742, h⟩
  ·obtain ⟨h743, h⟩ := ifn h
   have e744 := (show 0 <= b0_1 /\ b0_1 < (a0.size : Int) from ⟨h743, of_decide_eq_true (decide_eq_true h742)⟩)
   obtain ⟨r745, h746, h⟩ := bs h
   have e747 := (npoint_isForeign_ok k (((Go.Utf8.decode a0 (b0_1).toNat).1 : Nat) : Int) _ h746)
   rcases ifs h with ⟨h748, h⟩ | ⟨h748, h⟩
   ·injection h with h; subst h
    exact round_stop (c := ⟨[(6, none)], [], []⟩) (s1 := (nstrings_indexFunc_c1_135_l0_0_e0 a0 a2 b0_1)) pm pn (ans := [.reg (.b true :: .n :: []), .br true, .reg (nN 4 []), .reg (.n :: .n :: .call (vb r745) :: .n :: .n :: []), .br true, .reg (.n :: .n :: [])]) (by kernel_rfl) (by intro e; cases e) (an (an (an e744 (ti trivial)) (an (an rt trivial) (an (ti (ti (ti (ti trivial)))) (an (ti (ti (an e747 (ti (ti trivial))))) (an h748 (an (ti (ti trivial)) trivial)))))) (ti trivial))
   ·have h2 := ih _ _ h
    obtain ⟨q, hv, hq⟩ := pkR (rd := none) (P := Go.Proofs.Try.prog) (fn := Go.Proofs.Try.f153) (k := 0) (s := (nstrings_indexFunc_c1_135_l0_0_h a0 a2 b0_1)) (ans := [.reg (.b true :: .n :: []), .br true, .reg (nN 4 []), .reg (.n :: .n :: .call (vb r745) :: .n :: .n :: []), .br false]) (c := ⟨[(1, none), (2, none), (10, none)], [none], []⟩) (e := .normal) (s1 := (nstrings_indexFunc_c1_135_l0_0_h a0 a2 (b0_1 + (((Go.Utf8.decode a0 (b0_1).toNat).2 : Nat) : Int)))) (an (an (an e744 (ti trivial)) (an (an rt trivial) (an (ti (ti (ti (ti trivial)))) (an (ti (ti (an e747 (ti (ti trivial))))) (an (bool_f h748) trivial))))) (ti trivial)) (by kernel_rfl)
    cases r with
    | inl r => exact round_next pm pn hv hq h2
    | inr r =>
     exact round_next pm pn hv hq h2
  ·have e749 := (show (a0.size : Int) <= b0_1 from (by have := of_decide_eq_false (decide_eq_false h742); omega))
   injection h with h; subst h
   exact round_stop (c := ⟨[], [], []⟩) (s1 := (nstrings_indexFunc_c1_135_l0_0_e1 a0 a2 ())) pm pn (ans := [.reg (.b false :: .n :: []), .br false]) (by kernel_rfl) (by intro e; cases e) (an (an (an e749 (ti trivial)) (an rf trivial)) (ti trivial))
def nstrings_indexFunc_c1_135 (k : Nat) (a0 : ByteArray) (a2 : Bool) : Option Int :=
 (nstrings_indexFunc_c1_135_l0_0 k a0 a2 k 0).bind fun r751 => (match r751 with | .inl r752 => (some r752) | .inr r753 => (some (-1)))
theorem nstrings_indexFunc_c1_135_ok (k : Nat) (a0 : ByteArray) (a2 : Bool) (r : Int) (h : nstrings_indexFunc_c1_135 k a0 a2 = some r) : VC Go.Proofs.Try.prog 153 [vs a0, VV.fn 135 [], vb a2] (vi r) := by
 unfold nstrings_indexFunc_c1_135 at h
 obtain ⟨r751, h750, h⟩ := bs h
 have hph750 := nstrings_indexFunc_c1_135_l0_0_ok k a0 a2 _ _ _ h750
 cases r751 with
 | inl r752 =>
  dsimp only at h
  have e754 := (an (ti trivial) (VRun.loop hph750))
  injection h with h; subst h
  exact fun_ok pm pn Go.Proofs.Try.func153 (r0 := vi r752) (ans := [.reg (.n :: []), .reg (.n :: .n :: []), .sub ⟨[(1, none), (2, none), (10, none)], [none], []⟩ .ret (nstrings_indexFunc_c1_135_l0_0_e0 a0 a2 r752)]) (fr := true) (by kernel_rfl) (an (an (ti trivial) (an (ti (ti trivial)) e754)) (ti trivial)) (Wv.refl _)
 | inr r753 =>
  dsimp only at h
  have e755 := (an (ti trivial) (VRun.loop hph750))
  injection h with h; subst h
  exact fun_ok pm pn Go.Proofs.Try.func153 (r0 := vi (-1)) (ans := [.reg (.n :: []), .reg (.n :: .n :: []), .sub ⟨[(1, none), (2, none), (10, none)], [none], []⟩ (.exit 0) (nstrings_indexFunc_c1_135_l0_0_e1 a0 a2 r753), .reg (.n :: [])]) (fr := true) (by kernel_rfl) (an (an (ti trivial) (an (an (ti (ti trivial)) e755) (an (ti trivial) trivial))) (ti trivial)) (Wv.refl _)
def nstrings_IndexFunc_c1_135 (k : Nat) (a0 : ByteArray) : Option Int :=
 (nstrings_indexFunc_c1_135 k a0 true).bind fun r759 => (some r759)
theorem nstrings_IndexFunc_c1_135_ok (k : Nat) (a0 : ByteArray) (r : Int) (h : nstrings_IndexFunc_c1_135 k a0 = some r) : VC Go.Proofs.Try.prog 147 [vs a0, VV.fn 135 []] (vi r) := by
 unfold nstrings_IndexFunc_c1_135 at h
 obtain ⟨r759, h760, h⟩ := bs h
 have e761 := (nstrings_indexFunc_c1_135_ok k a0 true _ h760)
 injection h with h; subst h
 exact fun_ok pm pn Go.Proofs.Try.func147 (r0 := vi r759) (ans := [.reg (.n :: []), .reg (.n :: .n :: .call (vi r759) :: .n :: [])]) (fr := true) (by kernel_rfl) (an (an (ti trivial) (an (ti (ti (an e761 (ti trivial)))) trivial)) (ti trivial)) (Wv.refl _)
def nstrings_ContainsFunc_c1_135 (k : Nat) (a0 : ByteArray) : Option Bool :=
 (nstrings_IndexFunc_c1_135 k a0).bind fun r765 => (some (decide (0 <= r765)))
theorem nstrings_ContainsFunc_c1_135_ok (k : Nat) (a0 : ByteArray) (r : Bool) (h : nstrings_ContainsFunc_c1_135 k a0 = some r) : VC Go.Proofs.Try.prog 134 [vs a0, VV.fn 135 []] (vb r) := by
 unfold nstrings_ContainsFunc_c1_135 at h
 obtain ⟨r765, h766, h⟩ := bs h
 have e767 := (nstrings_IndexFunc_c1_135_ok k a0 _ h766)
 injection h with h; subst h
 exact fun_ok pm pn Go.Proofs.Try.func134 (r0 := vb (decide (0 <= r765))) (ans := [.reg (.n :: []), .reg (.n :: .n :: .call (vi r765) :: .n :: .n :: [])]) (fr := true) (by kernel_rfl) (an (an (ti trivial) (an (ti (ti (an e767 (ti (ti trivial))))) trivial)) (ti trivial)) (Wv.refl _)
def arB2_8 (z0 : Bool) (z1 : Bool) (z2 : Bool) : List Ans := (nN 3 (.call (vb z0) :: nN 4 (.call (vb z1) :: .b true :: .n :: .n :: .call (vb z2) :: .n :: .b true :: .n :: [])))
def arB2_9 (z0 : Bool) (z1 : Bool) : List Ans := (nN 3 (.call (vb z0) :: nN 4 (.call (vb z1) :: .b true :: .n :: nS 3 (.b false :: .n :: []))))
def npoint_isName (k : Nat) (a0 : ByteArray) : Option Bool :=
 (npoint_areWithin k 1 12 ([(a0.size : Int)] : List Int)).bind fun r774 => (if r774 = true then (if (0 : Int) <= 0 /\ 0 < (a0.size : Int) then ((npoint_isLetter k (IntKind.i32.wrap (bat a0 0))).bind fun r779 => (if r779 = true then ((nstrings_ContainsFunc_c1_135 k a0).bind fun r783 => (some (!r783))) else (some false))) else none) else (some false))
theorem npoint_isName_ok (k : Nat) (a0 : ByteArray) (r : Bool) (h : npoint_isName k a0 = some r) : VC Go.Proofs.Try.prog 110 [vs a0] (vb r) := by
 unfold npoint_isName at h
 obtain ⟨r774, h775, h⟩ := bs h
 have e776 := (VC.args (npoint_areWithin_ok k 1 12 ([(a0.size : Int)] : List Int) _ h775) (eqB2_4 a0))
 rcases ifs h with ⟨h777, h⟩ | ⟨h777, h⟩
 ·obtain ⟨h778, h⟩ := ifn h
  obtain ⟨r779, h780, h⟩ := bs h
  have e781 := (an h777 (npoint_isLetter_ok k (IntKind.i32.wrap (bat a0 0)) _ h780))
  rcases ifs h with ⟨h782, h⟩ | ⟨h782, h⟩
  ·obtain ⟨r783, h784, h⟩ := bs h
   have e785 := (an h782 (nstrings_ContainsFunc_c1_135_ok k a0 _ h784))
   have e786 := (ti (ti (ti (an e776 (ti (an (an h777 trivial) (an (an h777 h778) (an (an h777 trivial) (an e781 (an h777 (ti (an (an h782 trivial) (an e785 (an (an h782 trivial) (an h782 (ti trivial))))))))))))))))
   injection h with h; subst h
   exact fun_ok pm pn Go.Proofs.Try.func110 (r0 := vb (!r783)) (ans := [.reg (.n :: []), .reg (arB2_8 r774 r779 r783)]) (fr := true) (by kernel_rfl) (an (an (ti trivial) (an e786 trivial)) (ti trivial)) (Wv.refl _)
  ·have e787 := (ti (ti (ti (an e776 (ti (an (an h777 trivial) (an (an h777 h778) (an (an h777 trivial) (an e781 (an h777 (ti (an (bool_f h782) (an (bool_f h782) (an (bool_f h782) (an (bool_f h782) (ti trivial))))))))))))))))
   injection h with h; subst h
   exact fun_ok pm pn Go.Proofs.Try.func110 (r0 := vb false) (ans := [.reg (.n :: []), .reg (arB2_9 r774 r779)]) (fr := true) (by kernel_rfl) (an (an (ti trivial) (an e787 trivial)) (ti trivial)) (Wv.refl _)
 ·have e788 := (ti (ti (ti (an e776 (ti (an (bool_f h777) (an (bool_f h777) (an (bool_f h777) (an (bool_f h777) (an (bool_f h777) (ti (an rf (an rf (an rf (an rf (ti trivial))))))))))))))))
  injection h with h; subst h
  exact fun_ok pm pn Go.Proofs.Try.func110 (r0 := vb false) (ans := [.reg (.n :: []), .reg (nN 3 (.call (vb r774) :: .n :: nS 4 (.b false :: .n :: nS 3 (.b false :: .n :: []))))]) (fr := true) (by kernel_rfl) (an (an (ti trivial) (an e788 trivial)) (ti trivial)) (Wv.refl _)
theorem eqB2_5 (z0 : SSkyTarget) : [vi 0, vi 1295999, VV.tr (List.map vi ([z0.Azimuth] : List Int)) (([z0.Azimuth] : List Int).length)] = [vi 0, vi 1295999, VV.tr (List.drop 0 (List.map unfr [vi z0.Azimuth])) 1] := by first | rfl | simp only [drop0, unfr_vi, List.map_cons, List.map_nil, un_i, un_tr, List.length_map, List.length_cons, List.length_nil]
theorem eqB2_6 (z0 : SSkyTarget) : [vi 0, vi 324000, VV.tr (List.map vi ([z0.Height] : List Int)) (([z0.Height] : List Int).length)] = [vi 0, vi 324000, VV.tr (List.drop 0 (List.map unfr [vi z0.Height])) 1] := by first | rfl | simp only [drop0, unfr_vi, List.map_cons, List.map_nil, un_i, un_tr, List.length_map, List.length_cons, List.length_nil]
theorem eqB2_7 (z0 : SSkyTarget) : [vi 0, vi 10000000, VV.tr (List.map vi ([z0.From, z0.To] : List Int)) (([z0.From, z0.To] : List Int).length)] = [vi 0, vi 10000000, VV.tr (List.drop 0 (List.map unfr [vi z0.From, vi z0.To])) 2] := by first | rfl | simp only [drop0, unfr_vi, List.map_cons, List.map_nil, un_i, un_tr, List.length_map, List.length_cons, List.length_nil]
theorem eqB2_8 (z0 : SSkyTarget) : [vi 1, vi 10000, VV.tr (List.map vi ([z0.Dwell] : List Int)) (([z0.Dwell] : List Int).length)] = [vi 1, vi 10000, VV.tr (List.drop 0 (List.map unfr [vi z0.Dwell])) 1] := by first | rfl | simp only [drop0, unfr_vi, List.map_cons, List.map_nil, un_i, un_tr, List.length_map, List.length_cons, List.length_nil]
def npoint_CheckTarget (k : Nat) (a0 : SSkyTarget) : Option Int :=
 (npoint_isName k a0.Name).bind fun r814 => (if r814 = true then ((npoint_areWithin k 0 1295999 ([a0.Azimuth] : List Int)).bind fun r818 => (if r818 = true then ((npoint_areWithin k 0 324000 ([a0.Height] : List Int)).bind fun r822 => (if r822 = true then ((npoint_areWithin k 0 10000000 ([a0.From, a0.To] : List Int)).bind fun r827 => (if r827 = true then ((npoint_areWithin k 1 10000 ([a0.Dwell] : List Int)).bind fun r831 => (if r831 = true then (if a0.To <= a0.From then (some 9) else (some 0)) else (some 2))) else (some 2))) else (some 2))) else (some 2))) else (some 4))
theorem npoint_CheckTarget_ok (k : Nat) (a0 : SSkyTarget) (r : Int) (h : npoint_CheckTarget k a0 = some r) : VC Go.Proofs.Try.prog 56 [VV.ag (c_SSkyTarget a0)] (vi r) := by
 unfold npoint_CheckTarget at h
 obtain ⟨r814, h815, h⟩ := bs h
 have e816 := (ti (ti (an (npoint_isName_ok k a0.Name _ h815) (ti (ti trivial)))))
 rcases ifs h with ⟨h817, h⟩ | ⟨h817, h⟩
 ·obtain ⟨r818, h819, h⟩ := bs h
  have e820 := (VC.args (npoint_areWithin_ok k 0 1295999 ([a0.Azimuth] : List Int) _ h819) (eqB2_5 a0))
  rcases ifs h with ⟨h821, h⟩ | ⟨h821, h⟩
  ·obtain ⟨r822, h823, h⟩ := bs h
   have e824 := (an (not_f h821) (VC.args (npoint_areWithin_ok k 0 324000 ([a0.Height] : List Int) _ h823) (eqB2_6 a0)))
   have e825 := (ti (ti (ti (an e820 (ti (ti (an (an (not_f h821) trivial) (an (an (not_f h821) trivial) (an (an (not_f h821) trivial) (an e824 (an (an (not_f h821) trivial) (an (not_f h821) (ti trivial)))))))))))))
   rcases ifs h with ⟨h826, h⟩ | ⟨h826, h⟩
   ·obtain ⟨r827, h828, h⟩ := bs h
    have e829 := (VC.args (npoint_areWithin_ok k 0 10000000 ([a0.From, a0.To] : List Int) _ h828) (eqB2_7 a0))
    rcases ifs h with ⟨h830, h⟩ | ⟨h830, h⟩
    ·obtain ⟨r831, h832, h⟩ := bs h
     have e833 := (an (not_f h830) (VC.args (npoint_areWithin_ok k 1 10000 ([a0.Dwell] : List Int) _ h832) (eqB2_8 a0)))
     have e834 := (ti (ti (ti (ti (ti (an e829 (ti (ti (an (an (not_f h830) trivial) (an (an (not_f h830) trivial) (an (an (not_f h830) trivial) (an e833 (an (an (not_f h830) trivial) (an (not_f h830) (ti trivial)))))))))))))))
     rcases ifs h with ⟨h835, h⟩ | ⟨h835, h⟩
     ·rcases ifs h with ⟨h836, h⟩ | ⟨h836, h⟩
      ·injection h with h; subst h
       exact fun_ok pm pn Go.Proofs.Try.func56 (r0 := vi 9) (ans := [.reg (.n :: .n :: []), .reg (.n :: .n :: .call (vb r814) :: .n :: .n :: []), .br false, .reg (nN 3 (.call (vb r818) :: nN 5 (.call (vb r822) :: .n :: .b false :: .n :: []))), .br false, .reg (nN 5 (.call (vb r827) :: nN 5 (.call (vb r831) :: .n :: .b false :: .n :: []))), .br false, .reg (nN 6 []), .br true, .reg (.n :: [])]) (fr := true) (by kernel_rfl) (an (an (ti (ti trivial)) (an e816 (an (not_f h817) (an e825 (an (not_f h826) (an e834 (an (not_f h835) (an (ti (ti (ti (ti (ti (ti trivial)))))) (an (decide_eq_true h836) (an (ti trivial) trivial)))))))))) (ti trivial)) (Wv.refl _)
      ·injection h with h; subst h
       exact fun_ok pm pn Go.Proofs.Try.func56 (r0 := vi 0) (ans := [.reg (.n :: .n :: []), .reg (.n :: .n :: .call (vb r814) :: .n :: .n :: []), .br false, .reg (nN 3 (.call (vb r818) :: nN 5 (.call (vb r822) :: .n :: .b false :: .n :: []))), .br false, .reg (nN 5 (.call (vb r827) :: nN 5 (.call (vb r831) :: .n :: .b false :: .n :: []))), .br false, .reg (nN 6 []), .br false, .reg (.n :: [])]) (fr := true) (by kernel_rfl) (an (an (ti (ti trivial)) (an (an e816 (an (not_f h817) (an e825 (an (not_f h826) (an e834 (an (not_f h835) (an (ti (ti (ti (ti (ti (ti trivial)))))) (an (decide_eq_false h836) trivial)))))))) (an (ti trivial) trivial))) (ti trivial)) (Wv.refl _)
     ·injection h with h; subst h
      exact fun_ok pm pn Go.Proofs.Try.func56 (r0 := vi 2) (ans := [.reg (.n :: .n :: []), .reg (.n :: .n :: .call (vb r814) :: .n :: .n :: []), .br false, .reg (nN 3 (.call (vb r818) :: nN 5 (.call (vb r822) :: .n :: .b false :: .n :: []))), .br false, .reg (nN 5 (.call (vb r827) :: nN 5 (.call (vb r831) :: .n :: .b false :: .n :: []))), .br true, .reg (.n :: [])]) (fr := true) (by kernel_rfl) (an (an (ti (ti trivial)) (an e816 (an (not_f h817) (an e825 (an (not_f h826) (an e834 (an (not_t (bool_f h835)) (an (ti trivial) trivial)))))))) (ti trivial)) (Wv.refl _)
    ·have e837 := (ti (ti (ti (ti (ti (an e829 (ti (ti (an (not_t (bool_f h830)) (an (not_t (bool_f h830)) (an (not_t (bool_f h830)) (an (not_t (bool_f h830)) (an (not_t (bool_f h830)) (an (not_t (bool_f h830)) (ti trivial)))))))))))))))
     injection h with h; subst h
     exact fun_ok pm pn Go.Proofs.Try.func56 (r0 := vi 2) (ans := [.reg (.n :: .n :: []), .reg (.n :: .n :: .call (vb r814) :: .n :: .n :: []), .br false, .reg (nN 3 (.call (vb r818) :: nN 5 (.call (vb r822) :: .n :: .b false :: .n :: []))), .br false, .reg (nN 5 (.call (vb r827) :: .n :: .n :: nS 5 (.b true :: .n :: []))), .br true, .reg (.n :: [])]) (fr := true) (by kernel_rfl) (an (an (ti (ti trivial)) (an e816 (an (not_f h817) (an e825 (an (not_f h826) (an e837 (an rt (an (ti trivial) trivial)))))))) (ti trivial)) (Wv.refl _)
   ·injection h with h; subst h
    exact fun_ok pm pn Go.Proofs.Try.func56 (r0 := vi 2) (ans := [.reg (.n :: .n :: []), .reg (.n :: .n :: .call (vb r814) :: .n :: .n :: []), .br false, .reg (nN 3 (.call (vb r818) :: nN 5 (.call (vb r822) :: .n :: .b false :: .n :: []))), .br true, .reg (.n :: [])]) (fr := true) (by kernel_rfl) (an (an (ti (ti trivial)) (an e816 (an (not_f h817) (an e825 (an (not_t (bool_f h826)) (an (ti trivial) trivial)))))) (ti trivial)) (Wv.refl _)
  ·have e838 := (ti (ti (ti (an e820 (ti (ti (an (not_t (bool_f h821)) (an (not_t (bool_f h821)) (an (not_t (bool_f h821)) (an (not_t (bool_f h821)) (an (not_t (bool_f h821)) (an (not_t (bool_f h821)) (ti trivial)))))))))))))
   injection h with h; subst h
   exact fun_ok pm pn Go.Proofs.Try.func56 (r0 := vi 2) (ans := [.reg (.n :: .n :: []), .reg (.n :: .n :: .call (vb r814) :: .n :: .n :: []), .br false, .reg (nN 3 (.call (vb r818) :: .n :: .n :: nS 5 (.b true :: .n :: []))), .br true, .reg (.n :: [])]) (fr := true) (by kernel_rfl) (an (an (ti (ti trivial)) (an e816 (an (not_f h817) (an e838 (an rt (an (ti trivial) trivial)))))) (ti trivial)) (Wv.refl _)
 ·injection h with h; subst h
  exact fun_ok pm pn Go.Proofs.Try.func56 (r0 := vi 4) (ans := [.reg (.n :: .n :: []), .reg (.n :: .n :: .call (vb r814) :: .n :: .n :: []), .br true, .reg (.n :: [])]) (fr := true) (by kernel_rfl) (an (an (ti (ti trivial)) (an e816 (an (not_t (bool_f h817)) (an (ti trivial) trivial)))) (ti trivial)) (Wv.refl _)
def nspeculumref09_IsHeight (k : Nat) (a0 : Int) : Option Bool :=
 (nspeculumbase_Within k a0 0 324000).bind fun r850 => (some r850)
theorem nspeculumref09_IsHeight_ok (k : Nat) (a0 : Int) (r : Bool) (h : nspeculumref09_IsHeight k a0 = some r) : VC Go.Proofs.Try.prog 109 [vi a0] (vb r) := by
 unfold nspeculumref09_IsHeight at h
 obtain ⟨r850, h851, h⟩ := bs h
 have e852 := (nspeculumbase_Within_ok k a0 0 324000 _ h851)
 injection h with h; subst h
 exact fun_ok pm pn Go.Proofs.Try.func109 (r0 := vb r850) (ans := [.reg (.n :: []), .reg (.n :: .call (vb r850) :: .n :: [])]) (fr := true) (by kernel_rfl) (an (an (ti trivial) (an (ti (an e852 (ti trivial))) trivial)) (ti trivial)) (Wv.refl _)
def arB2_10 (z0 : Bool) (z1 : Bool) (z2 : Bool) (z3 : Bool) (z4 : Bool) : List Ans := (.n :: .n :: .call (vb z0) :: nN 4 (.call (vb z1) :: .n :: .b false :: nN 3 (.call (vb z2) :: .n :: .b false :: nN 3 (.call (vb z3) :: .n :: .b false :: nN 3 (.call (vb z4) :: .n :: .b false :: [])))))
def arB2_11 (z0 : Bool) (z1 : Bool) (z2 : Bool) (z3 : Bool) : List Ans := (.n :: .n :: .call (vb z0) :: nN 4 (.call (vb z1) :: .n :: .b false :: nN 3 (.call (vb z2) :: .n :: .b false :: nN 3 (.call (vb z3) :: .n :: .b false :: .n :: nS 4 (.b true :: [])))))
def arB2_12 (z0 : Bool) (z1 : Bool) (z2 : Bool) : List Ans := (.n :: .n :: .call (vb z0) :: nN 4 (.call (vb z1) :: .n :: .b false :: nN 3 (.call (vb z2) :: .n :: .b false :: .n :: nS 4 (.b true :: .n :: nS 4 (.b true :: [])))))
def arB2_13 (z0 : Bool) (z1 : Bool) : List Ans := (.n :: .n :: .call (vb z0) :: nN 4 (.call (vb z1) :: .n :: .b false :: .n :: nS 4 (.b true :: .n :: nS 4 (.b true :: .n :: nS 4 (.b true :: [])))))
def arB2_14 (z0 : Bool) : List Ans := (.n :: .n :: .call (vb z0) :: .n :: .n :: nS 4 (.b true :: .n :: nS 4 (.b true :: .n :: nS 4 (.b true :: .n :: nS 4 (.b true :: [])))))
def nspeculumref09_CheckMount (k : Nat) (a0 : SSkyMount) : Option Int :=
 (nspeculumbase_Within k a0.Least (-25920000) 25920000).bind fun r881 => (if r881 = true then ((nspeculumbase_Within k a0.Most (-25920000) 25920000).bind fun r885 => (if r885 = true then ((nspeculumref09_IsHeight k a0.Low).bind fun r889 => (if r889 = true then ((nspeculumref09_IsHeight k a0.High).bind fun r893 => (if r893 = true then ((nspeculumbase_Within k a0.Speed 1 1000000).bind fun r897 => (if r897 = true then (if a0.Most < a0.Least then (some 9) else (if a0.High < a0.Low then (some 9) else ((nspeculumref09_CheckTable k a0.Refraction).bind fun r906 => (if r906 = 0 then ((nspeculumref09_CheckTable k a0.Drift).bind fun r910 => (some r910)) else (some r906))))) else (some 2))) else (some 2))) else (some 2))) else (some 2))) else (some 2))
theorem nspeculumref09_CheckMount_ok (k : Nat) (a0 : SSkyMount) (r : Int) (h : nspeculumref09_CheckMount k a0 = some r) : VC Go.Proofs.Try.prog 54 [VV.ag (c_SSkyMount a0)] (vi r) := by
 unfold nspeculumref09_CheckMount at h
 obtain ⟨r881, h882, h⟩ := bs h
 have e883 := (nspeculumbase_Within_ok k a0.Least (-25920000) 25920000 _ h882)
 rcases ifs h with ⟨h884, h⟩ | ⟨h884, h⟩
 ·obtain ⟨r885, h886, h⟩ := bs h
  have e887 := (an (not_f h884) (nspeculumbase_Within_ok k a0.Most (-25920000) 25920000 _ h886))
  rcases ifs h with ⟨h888, h⟩ | ⟨h888, h⟩
  ·obtain ⟨r889, h890, h⟩ := bs h
   have e891 := (an (not_f h888) (nspeculumref09_IsHeight_ok k a0.Low _ h890))
   rcases ifs h with ⟨h892, h⟩ | ⟨h892, h⟩
   ·obtain ⟨r893, h894, h⟩ := bs h
    have e895 := (an (not_f h892) (nspeculumref09_IsHeight_ok k a0.High _ h894))
    rcases ifs h with ⟨h896, h⟩ | ⟨h896, h⟩
    ·obtain ⟨r897, h898, h⟩ := bs h
     have e899 := (an (not_f h896) (nspeculumbase_Within_ok k a0.Speed 1 1000000 _ h898))
     have e900 := (ti (ti (an e883 (ti (ti (an (an (not_f h884) trivial) (an (an (not_f h884) trivial) (an e887 (an (an (not_f h884) trivial) (an (not_f h884) (ti (an (an (not_f h888) trivial) (an (an (not_f h888) trivial) (an e891 (an (an (not_f h888) trivial) (an (not_f h888) (ti (an (an (not_f h892) trivial) (an (an (not_f h892) trivial) (an e895 (an (an (not_f h892) trivial) (an (not_f h892) (ti (an (an (not_f h896) trivial) (an (an (not_f h896) trivial) (an e899 (an (an (not_f h896) trivial) (an (not_f h896) trivial))))))))))))))))))))))))))))
     rcases ifs h with ⟨h901, h⟩ | ⟨h901, h⟩
     ·rcases ifs h with ⟨h902, h⟩ | ⟨h902, h⟩
      ·have e903 := (ti (ti (ti (ti (ti (ti (an (decide_eq_true h902) (an (decide_eq_true h902) (an (decide_eq_true h902) (an (decide_eq_true h902) (an (decide_eq_true h902) (an (decide_eq_true h902) trivial))))))))))))
       injection h with h; subst h
       exact fun_ok pm pn Go.Proofs.Try.func54 (r0 := vi 9) (ans := [.reg (.n :: .n :: []), .reg (arB2_10 r881 r885 r889 r893 r897), .br false, .reg (nN 6 (nS 5 (.b true :: []))), .br true, .reg (.n :: [])]) (fr := true) (by kernel_rfl) (an (an (ti (ti trivial)) (an (an e900 (an (not_f h901) trivial)) (an e903 (an rt (an (ti trivial) trivial))))) (ti trivial)) (Wv.refl _)
      ·have e904 := (ti (ti (ti (ti (ti (ti (an (an (decide_eq_false h902) trivial) (an (an (decide_eq_false h902) trivial) (an (an (decide_eq_false h902) trivial) (an (an (decide_eq_false h902) trivial) (an (an (decide_eq_false h902) trivial) (an (decide_eq_false h902) trivial))))))))))))
       rcases ifs h with ⟨h905, h⟩ | ⟨h905, h⟩
       ·injection h with h; subst h
        exact fun_ok pm pn Go.Proofs.Try.func54 (r0 := vi 9) (ans := [.reg (.n :: .n :: []), .reg (arB2_10 r881 r885 r889 r893 r897), .br false, .reg (nN 11 (.b false :: [])), .br true, .reg (.n :: [])]) (fr := true) (by kernel_rfl) (an (an (ti (ti trivial)) (an (an e900 (an (not_f h901) trivial)) (an e904 (an (decide_eq_true h905) (an (ti trivial) trivial))))) (ti trivial)) (Wv.refl _)
       ·obtain ⟨r906, h907, h⟩ := bs h
        have e908 := (nspeculumref09_CheckTable_ok k a0.Refraction _ h907)
        rcases ifs h with ⟨h909, h⟩ | ⟨h909, h⟩
        ·obtain ⟨r910, h911, h⟩ := bs h
         have e912 := (nspeculumref09_CheckTable_ok k a0.Drift _ h911)
         injection h with h; subst h
         exact fun_ok pm pn Go.Proofs.Try.func54 (r0 := vi r910) (ans := [.reg (.n :: .n :: []), .reg (arB2_10 r881 r885 r889 r893 r897), .br false, .reg (nN 11 (.b false :: [])), .br false, .reg (.n :: .n :: .call (vi r906) :: .n :: []), .reg (.n :: .n :: []), .br false, .reg (.n :: .n :: .call (vi r910) :: .n :: [])]) (fr := true) (by kernel_rfl) (an (an (ti (ti trivial)) (an (an e900 (an (not_f h901) trivial)) (an (an e904 (an (decide_eq_false h905) trivial)) (an (an (ti (ti (an e908 (ti trivial)))) (an (ti (ti trivial)) (an (not_f (decide_eq_true h909)) trivial))) (an (ti (ti (an e912 (ti trivial)))) trivial))))) (ti trivial)) (Wv.refl _)
        ·injection h with h; subst h
         exact fun_ok pm pn Go.Proofs.Try.func54 (r0 := vi r906) (ans := [.reg (.n :: .n :: []), .reg (arB2_10 r881 r885 r889 r893 r897), .br false, .reg (nN 11 (.b false :: [])), .br false, .reg (.n :: .n :: .call (vi r906) :: .n :: []), .reg (.n :: .n :: []), .br true, .reg (.n :: .n :: [])]) (fr := true) (by kernel_rfl) (an (an (ti (ti trivial)) (an (an e900 (an (not_f h901) trivial)) (an (an e904 (an (decide_eq_false h905) trivial)) (an (ti (ti (an e908 (ti trivial)))) (an (ti (ti trivial)) (an (not_t (decide_eq_false h909)) (an (ti (ti trivial)) trivial))))))) (ti trivial)) (Wv.refl _)
     ·injection h with h; subst h
      exact fun_ok pm pn Go.Proofs.Try.func54 (r0 := vi 2) (ans := [.reg (.n :: .n :: []), .reg (arB2_10 r881 r885 r889 r893 r897), .br true, .reg (.n :: [])]) (fr := true) (by kernel_rfl) (an (an (ti (ti trivial)) (an e900 (an (not_t (bool_f h901)) (an (ti trivial) trivial)))) (ti trivial)) (Wv.refl _)
    ·have e913 := (ti (ti (an e883 (ti (ti (an (an (not_f h884) trivial) (an (an (not_f h884) trivial) (an e887 (an (an (not_f h884) trivial) (an (not_f h884) (ti (an (an (not_f h888) trivial) (an (an (not_f h888) trivial) (an e891 (an (an (not_f h888) trivial) (an (not_f h888) (ti (an (an (not_f h892) trivial) (an (an (not_f h892) trivial) (an e895 (an (an (not_f h892) trivial) (an (not_f h892) (ti (an (not_t (bool_f h896)) (an (not_t (bool_f h896)) (an (not_t (bool_f h896)) (an (not_t (bool_f h896)) (an (not_t (bool_f h896)) trivial))))))))))))))))))))))))))))
     injection h with h; subst h
     exact fun_ok pm pn Go.Proofs.Try.func54 (r0 := vi 2) (ans := [.reg (.n :: .n :: []), .reg (arB2_11 r881 r885 r889 r893), .br true, .reg (.n :: [])]) (fr := true) (by kernel_rfl) (an (an (ti (ti trivial)) (an e913 (an rt (an (ti trivial) trivial)))) (ti trivial)) (Wv.refl _)
   ·have e914 := (ti (ti (an e883 (ti (ti (an (an (not_f h884) trivial) (an (an (not_f h884) trivial) (an e887 (an (an (not_f h884) trivial) (an (not_f h884) (ti (an (an (not_f h888) trivial) (an (an (not_f h888) trivial) (an e891 (an (an (not_f h888) trivial) (an (not_f h888) (ti (an (not_t (bool_f h892)) (an (not_t (bool_f h892)) (an (not_t (bool_f h892)) (an (not_t (bool_f h892)) (an (not_t (bool_f h892)) (ti (an rt (an rt (an rt (an rt (an rt trivial))))))))))))))))))))))))))))
    injection h with h; subst h
    exact fun_ok pm pn Go.Proofs.Try.func54 (r0 := vi 2) (ans := [.reg (.n :: .n :: []), .reg (arB2_12 r881 r885 r889), .br true, .reg (.n :: [])]) (fr := true) (by kernel_rfl) (an (an (ti (ti trivial)) (an e914 (an rt (an (ti trivial) trivial)))) (ti trivial)) (Wv.refl _)
  ·have e915 := (ti (ti (an e883 (ti (ti (an (an (not_f h884) trivial) (an (an (not_f h884) trivial) (an e887 (an (an (not_f h884) trivial) (an (not_f h884) (ti (an (not_t (bool_f h888)) (an (not_t (bool_f h888)) (an (not_t (bool_f h888)) (an (not_t (bool_f h888)) (an (not_t (bool_f h888)) (ti (an rt (an rt (an rt (an rt (an rt (ti (an rt (an rt (an rt (an rt (an rt trivial))))))))))))))))))))))))))))
   injection h with h; subst h
   exact fun_ok pm pn Go.Proofs.Try.func54 (r0 := vi 2) (ans := [.reg (.n :: .n :: []), .reg (arB2_13 r881 r885), .br true, .reg (.n :: [])]) (fr := true) (by kernel_rfl) (an (an (ti (ti trivial)) (an e915 (an rt (an (ti trivial) trivial)))) (ti trivial)) (Wv.refl _)
 ·have e916 := (ti (ti (an e883 (ti (ti (an (not_t (bool_f h884)) (an (not_t (bool_f h884)) (an (not_t (bool_f h884)) (an (not_t (bool_f h884)) (an (not_t (bool_f h884)) (ti (an rt (an rt (an rt (an rt (an rt (ti (an rt (an rt (an rt (an rt (an rt (ti (an rt (an rt (an rt (an rt (an rt trivial))))))))))))))))))))))))))))
  injection h with h; subst h
  exact fun_ok pm pn Go.Proofs.Try.func54 (r0 := vi 2) (ans := [.reg (.n :: .n :: []), .reg (arB2_14 r881), .br true, .reg (.n :: [])]) (fr := true) (by kernel_rfl) (an (an (ti (ti trivial)) (an e916 (an rt (an (ti trivial) trivial)))) (ti trivial)) (Wv.refl _)
def nspeculumbase_isLetter (k : Nat) (a0 : Int) : Option Bool :=
 if 97 <= a0 then (if a0 <= 122 then (some true) else (if 65 <= a0 then (some (decide (a0 <= 90))) else (some false))) else (if 65 <= a0 then (some (decide (a0 <= 90))) else (some false))
theorem nspeculumbase_isLetter_ok (k : Nat) (a0 : Int) (r : Bool) (h : nspeculumbase_isLetter k a0 = some r) : VC Go.Proofs.Try.prog 136 [VV.c (.int .u8 a0)] (vb r) := by
 unfold nspeculumbase_isLetter at h
 rcases ifs h with ⟨h933, h⟩ | ⟨h933, h⟩
 ·rcases ifs h with ⟨h934, h⟩ | ⟨h934, h⟩
  ·have e935 := (ti (ti (ti (an (an (decide_eq_true h933) trivial) (an (an (decide_eq_true h933) trivial) (an (decide_eq_true h933) (ti (an (decide_eq_true h934) (an (decide_eq_true h934) (an (decide_eq_true h934) (ti (ti (an (decide_eq_true h934) (an (decide_eq_true h934) (ti trivial)))))))))))))))
   injection h with h; subst h
   exact fun_ok pm pn Go.Proofs.Try.func136 (r0 := vb true) (ans := [.reg (.n :: []), .reg (nN 5 (.b true :: .n :: nS 6 (.b true :: .n :: [])))]) (fr := true) (by kernel_rfl) (an (an (ti trivial) (an e935 trivial)) (ti trivial)) (Wv.refl _)
  ·rcases ifs h with ⟨h936, h⟩ | ⟨h936, h⟩
   ·have e937 := (an (decide_eq_false h934) (decide_eq_true h936))
    have e938 := (ti (ti (ti (an (an (decide_eq_true h933) trivial) (an (an (decide_eq_true h933) trivial) (an (decide_eq_true h933) (ti (an (an (decide_eq_false h934) trivial) (an (an (decide_eq_false h934) trivial) (an (an (decide_eq_false h934) trivial) (an (an (decide_eq_true h936) trivial) (an (an (decide_eq_true h936) trivial) (an e937 (an (decide_eq_false h934) (ti trivial)))))))))))))))
    injection h with h; subst h
    exact fun_ok pm pn Go.Proofs.Try.func136 (r0 := vb (decide (a0 <= 90))) (ans := [.reg (.n :: []), .reg (nN 5 (.b true :: nN 6 (.b true :: .b false :: .n :: [])))]) (fr := true) (by kernel_rfl) (an (an (ti trivial) (an e938 trivial)) (ti trivial)) (Wv.refl _)
   ·have e939 := (an (decide_eq_false h934) (decide_eq_false h936))
    have e940 := (ti (ti (ti (an (an (decide_eq_true h933) trivial) (an (an (decide_eq_true h933) trivial) (an (decide_eq_true h933) (ti (an (an (decide_eq_false h934) trivial) (an (an (decide_eq_false h934) trivial) (an (an (decide_eq_false h934) trivial) (an (decide_eq_false h936) (an (decide_eq_false h936) (an e939 (an (decide_eq_false h934) (ti trivial)))))))))))))))
    injection h with h; subst h
    exact fun_ok pm pn Go.Proofs.Try.func136 (r0 := vb false) (ans := [.reg (.n :: []), .reg (nN 5 (.b true :: nN 4 (.skip :: .skip :: .b false :: .b false :: .n :: [])))]) (fr := true) (by kernel_rfl) (an (an (ti trivial) (an e940 trivial)) (ti trivial)) (Wv.refl _)
 ·rcases ifs h with ⟨h941, h⟩ | ⟨h941, h⟩
  ·have e942 := (ti (ti (ti (an (decide_eq_false h933) (an (decide_eq_false h933) (an (decide_eq_false h933) (ti (an (an rf trivial) (an (an rf trivial) (an (an rf trivial) (an (an (decide_eq_true h941) trivial) (an (an (decide_eq_true h941) trivial) (an (an rf (decide_eq_true h941)) (an rf (ti trivial)))))))))))))))
   injection h with h; subst h
   exact fun_ok pm pn Go.Proofs.Try.func136 (r0 := vb (decide (a0 <= 90))) (ans := [.reg (.n :: []), .reg (nN 3 (.skip :: .skip :: .b false :: nN 6 (.b true :: .b false :: .n :: [])))]) (fr := true) (by kernel_rfl) (an (an (ti trivial) (an e942 trivial)) (ti trivial)) (Wv.refl _)
  ·have e943 := (ti (ti (ti (an (decide_eq_false h933) (an (decide_eq_false h933) (an (decide_eq_false h933) (ti (an (an rf trivial) (an (an rf trivial) (an (an rf trivial) (an (decide_eq_false h941) (an (decide_eq_false h941) (an (an rf (decide_eq_false h941)) (an rf (ti trivial)))))))))))))))
   injection h with h; subst h
   exact fun_ok pm pn Go.Proofs.Try.func136 (r0 := vb false) (ans := [.reg (.n :: []), .reg arB2_4]) (fr := true) (by kernel_rfl) (an (an (ti trivial) (an e943 trivial)) (ti trivial)) (Wv.refl _)
def nspeculumbase_isDigit (k : Nat) (a0 : Int) : Option Bool :=
 if 48 <= a0 then (some (decide (a0 <= 57))) else (some false)
theorem nspeculumbase_isDigit_ok (k : Nat) (a0 : Int) (r : Bool) (h : nspeculumbase_isDigit k a0 = some r) : VC Go.Proofs.Try.prog 137 [VV.c (.int .u8 a0)] (vb r) := by
 unfold nspeculumbase_isDigit at h
 rcases ifs h with ⟨h959, h⟩ | ⟨h959, h⟩
 ·have e960 := (ti (ti (ti (an (an (decide_eq_true h959) trivial) (an (an (decide_eq_true h959) trivial) (an (decide_eq_true h959) (ti trivial)))))))
  injection h with h; subst h
  exact fun_ok pm pn Go.Proofs.Try.func137 (r0 := vb (decide (a0 <= 57))) (ans := [.reg (.n :: []), .reg (nN 5 (.b true :: .n :: []))]) (fr := true) (by kernel_rfl) (an (an (ti trivial) (an e960 trivial)) (ti trivial)) (Wv.refl _)
 ·have e961 := (ti (ti (ti (an (decide_eq_false h959) (an (decide_eq_false h959) (an (decide_eq_false h959) (ti trivial)))))))
  injection h with h; subst h
  exact fun_ok pm pn Go.Proofs.Try.func137 (r0 := vb false) (ans := [.reg (.n :: []), .reg (nN 3 (.skip :: .skip :: .b false :: .n :: []))]) (fr := true) (by kernel_rfl) (an (an (ti trivial) (an e961 trivial)) (ti trivial)) (Wv.refl _)
def arB2_15 (z0 : Bool) (z1 : Bool) : List Ans := (nN 3 (.call (vb z0) :: nN 5 (.call (vb z1) :: .n :: .b true :: .n :: nS 4 (.b false :: []))))
def arB2_16 (z0 : Bool) (z1 : Bool) : List Ans := (nN 3 (.call (vb z0) :: nN 5 (.call (vb z1) :: .n :: .b true :: nN 5 (.b true :: []))))
def nspeculumbase_IsName_l0_0_h (a0 : ByteArray) (x3 : Int) : VS := ⟨mkA [(0, vs a0), (3, vi x3)], [], .nil⟩
def nspeculumbase_IsName_l0_0_e0 (a0 : ByteArray) (r : Unit) : VS := ⟨mkA [(2, vb false)], [], .nil⟩
def nspeculumbase_IsName_l0_0_e1 (a0 : ByteArray) (r : Unit) : VS := ⟨mkA [], [], .nil⟩
def nspeculumbase_IsName_l0_0 (k : Nat) (a0 : ByteArray) : Nat -> Int -> Option (Sum Unit Unit)
 | 0, _ => none
 | fuel + 1, x3 => if x3 < (a0.size : Int) then (if 0 <= x3 /\ x3 < (a0.size : Int) then ((nspeculumbase_isLetter k (bat a0 x3)).bind fun r1043 => (if r1043 = true then (nspeculumbase_IsName_l0_0 k a0 fuel (w64 (x3 + 1))) else ((nspeculumbase_isDigit k (bat a0 x3)).bind fun r1048 => (if r1048 = true then (nspeculumbase_IsName_l0_0 k a0 fuel (w64 (x3 + 1))) else (if (bat a0 x3) = 45 then (nspeculumbase_IsName_l0_0 k a0 fuel (w64 (x3 + 1))) else (some (.inl ()))))))) else none) else (some (.inr ()))
theorem nspeculumbase_IsName_l0_0_ok (k : Nat) (a0 : ByteArray) : ∀ (fuel : Nat) (x3 : Int) (r : Sum Unit Unit), nspeculumbase_IsName_l0_0 k a0 fuel x3 = some r -> (match r with | .inl r => VLoop none Go.Proofs.Try.prog (szF Go.Proofs.Try.f111) (bodyOf Go.Proofs.Try.f111 0) (nspeculumbase_IsName_l0_0_h a0 x3) .ret (nspeculumbase_IsName_l0_0_e0 a0 r) | .inr r => VLoop none Go.Proofs.Try.prog (szF Go.Proofs.Try.f111) (bodyOf Go.Proofs.Try.f111 0) (nspeculumbase_IsName_l0_0_h a0 x3) (.exit 0) (nspeculumbase_IsName_l0_0_e1 a0 r)) := by
 intro fuel
 induction fuel with
 | zero => intro x3 r h; rw [nspeculumbase_IsName_l0_0.eq_1] at h; cases h
 | succ fuel ih =>
  intro x3 r h
  rw [nspeculumbase_IsName_l0_0.eq_2] at h
  rcases ifs h with ⟨h1041, h⟩ | ⟨h1041, h⟩
  ·obtain ⟨h1042, h⟩ := ifn h
   obtain ⟨r1043, h1044, h⟩ := bs h
   have e1045 := (nspeculumbase_isLetter_ok k (bat a0 x3) _ h1044)
   rcases ifs h with ⟨h1046, h⟩ | ⟨h1046, h⟩
   ·have e1047 := (ti (ti (an h1042 (an e1045 (ti (ti (an (not_f h1046) (an (not_f h1046) (an (not_f h1046) (an (not_f h1046) (an (not_f h1046) (an (not_f h1046) (ti (an rf (an rf (an rf (an rf (an rf trivial))))))))))))))))))
    have h2 := ih _ _ h
    obtain ⟨q, hv, hq⟩ := pkR (rd := none) (P := Go.Proofs.Try.prog) (fn := Go.Proofs.Try.f111) (k := 0) (s := (nspeculumbase_IsName_l0_0_h a0 x3)) (ans := [.reg (nN 4 []), .br true, .reg (nN 3 (.call (vb r1043) :: .n :: .n :: nS 5 (.b false :: .n :: nS 4 (.b false :: [])))), .br false, .reg (nN 3 [])]) (c := ⟨[(0, none), (3, none)], [], []⟩) (e := .normal) (s1 := (nspeculumbase_IsName_l0_0_h a0 (w64 (x3 + 1)))) (an (an (an (ti (ti (ti (ti trivial)))) (an (decide_eq_true h1041) trivial)) (an (an e1047 (an rf trivial)) (ti (ti (ti trivial))))) (ti trivial)) (by kernel_rfl)
    cases r with
    | inl r => exact round_next pm pn hv hq h2
    | inr r =>
     exact round_next pm pn hv hq h2
   ·obtain ⟨r1048, h1049, h⟩ := bs h
    have e1050 := (an (not_t (bool_f h1046)) (nspeculumbase_isDigit_ok k (bat a0 x3) _ h1049))
    rcases ifs h with ⟨h1051, h⟩ | ⟨h1051, h⟩
    ·have e1052 := (ti (ti (an h1042 (an e1045 (ti (ti (an (an (not_t (bool_f h1046)) trivial) (an (an (not_t (bool_f h1046)) trivial) (an (an (not_t (bool_f h1046)) h1042) (an e1050 (an (an (not_t (bool_f h1046)) trivial) (an (not_t (bool_f h1046)) (ti (an (not_f h1051) (an (not_f h1051) (an (not_f h1051) (an (not_f h1051) (an (not_f h1051) trivial))))))))))))))))))
     have h2 := ih _ _ h
     obtain ⟨q, hv, hq⟩ := pkR (rd := none) (P := Go.Proofs.Try.prog) (fn := Go.Proofs.Try.f111) (k := 0) (s := (nspeculumbase_IsName_l0_0_h a0 x3)) (ans := [.reg (nN 4 []), .br true, .reg (arB2_15 r1043 r1048), .br false, .reg (nN 3 [])]) (c := ⟨[(0, none), (3, none)], [], []⟩) (e := .normal) (s1 := (nspeculumbase_IsName_l0_0_h a0 (w64 (x3 + 1)))) (an (an (an (ti (ti (ti (ti trivial)))) (an (decide_eq_true h1041) trivial)) (an (an e1052 (an rf trivial)) (ti (ti (ti trivial))))) (ti trivial)) (by kernel_rfl)
     cases r with
     | inl r => exact round_next pm pn hv hq h2
     | inr r =>
      exact round_next pm pn hv hq h2
    ·have e1053 := (ti (ti (an h1042 (an e1045 (ti (ti (an (an (not_t (bool_f h1046)) trivial) (an (an (not_t (bool_f h1046)) trivial) (an (an (not_t (bool_f h1046)) h1042) (an e1050 (an (an (not_t (bool_f h1046)) trivial) (an (not_t (bool_f h1046)) (ti (an (an (not_t (bool_f h1051)) trivial) (an (an (not_t (bool_f h1051)) trivial) (an (an (not_t (bool_f h1051)) h1042) (an (an (not_t (bool_f h1051)) trivial) (an (not_t (bool_f h1051)) trivial))))))))))))))))))
     rcases ifs h with ⟨h1054, h⟩ | ⟨h1054, h⟩
     ·have h2 := ih _ _ h
      obtain ⟨q, hv, hq⟩ := pkR (rd := none) (P := Go.Proofs.Try.prog) (fn := Go.Proofs.Try.f111) (k := 0) (s := (nspeculumbase_IsName_l0_0_h a0 x3)) (ans := [.reg (nN 4 []), .br true, .reg (arB2_16 r1043 r1048), .br false, .reg (nN 3 [])]) (c := ⟨[(0, none), (3, none)], [], []⟩) (e := .normal) (s1 := (nspeculumbase_IsName_l0_0_h a0 (w64 (x3 + 1)))) (an (an (an (ti (ti (ti (ti trivial)))) (an (decide_eq_true h1041) trivial)) (an (an e1053 (an (not_f (decide_eq_true h1054)) trivial)) (ti (ti (ti trivial))))) (ti trivial)) (by kernel_rfl)
      cases r with
      | inl r => exact round_next pm pn hv hq h2
      | inr r =>
       exact round_next pm pn hv hq h2
     ·injection h with h; subst h
      exact round_stop (c := ⟨[(2, none)], [], []⟩) (s1 := (nspeculumbase_IsName_l0_0_e0 a0 ())) pm pn (ans := [.reg (nN 4 []), .br true, .reg (arB2_16 r1043 r1048), .br true, .reg (.n :: [])]) (by kernel_rfl) (by intro e; cases e) (an (an (an (ti (ti (ti (ti trivial)))) (an (decide_eq_true h1041) trivial)) (an e1053 (an (not_t (decide_eq_false h1054)) (an (ti trivial) trivial)))) (ti trivial))
  ·injection h with h; subst h
   exact round_stop (c := ⟨[], [], []⟩) (s1 := (nspeculumbase_IsName_l0_0_e1 a0 ())) pm pn (ans := [.reg (nN 4 []), .br false]) (by kernel_rfl) (by intro e; cases e) (an (an (ti (ti (ti (ti trivial)))) (an (decide_eq_false h1041) trivial)) (ti trivial))
def nspeculumbase_IsName (k : Nat) (a0 : ByteArray) : Option Bool :=
 if (a0.size : Int) = 0 then (some false) else (if 12 < (a0.size : Int) then (some false) else (if (0 : Int) <= 0 /\ 0 < (a0.size : Int) then ((nspeculumbase_isLetter k (bat a0 0)).bind fun r1008 => (if r1008 = true then ((nspeculumbase_IsName_l0_0 k a0 k 0).bind fun r1056 => (match r1056 with | .inl r1057 => (some false) | .inr r1058 => (some true))) else (some false))) else none))
theorem nspeculumbase_IsName_ok (k : Nat) (a0 : ByteArray) (r : Bool) (h : nspeculumbase_IsName k a0 = some r) : VC Go.Proofs.Try.prog 111 [vs a0] (vb r) := by
 unfold nspeculumbase_IsName at h
 rcases ifs h with ⟨h1003, h⟩ | ⟨h1003, h⟩
 ·have e1004 := (ti (ti (ti (ti (an (decide_eq_true h1003) (an (decide_eq_true h1003) (an (decide_eq_true h1003) (an (decide_eq_true h1003) (ti (an rt (an rt (an rt (an rt (an rt trivial))))))))))))))
  injection h with h; subst h
  exact fun_ok pm pn Go.Proofs.Try.func111 (r0 := vb false) (ans := [.reg (.n :: []), .reg (nN 4 (nS 3 (.b true :: .n :: nS 4 (.b true :: [])))), .br true, .reg (.n :: [])]) (fr := true) (by kernel_rfl) (an (an (ti trivial) (an e1004 (an rt (an (ti trivial) trivial)))) (ti trivial)) (Wv.refl _)
 ·rcases ifs h with ⟨h1005, h⟩ | ⟨h1005, h⟩
  ·have e1006 := (ti (ti (ti (ti (an (an (decide_eq_false h1003) trivial) (an (an (decide_eq_false h1003) trivial) (an (an (decide_eq_false h1003) trivial) (an (decide_eq_false h1003) (ti (an (decide_eq_true h1005) (an (decide_eq_true h1005) (an (decide_eq_true h1005) (an (decide_eq_true h1005) (an (decide_eq_true h1005) trivial))))))))))))))
   injection h with h; subst h
   exact fun_ok pm pn Go.Proofs.Try.func111 (r0 := vb false) (ans := [.reg (.n :: []), .reg (nN 7 (.b false :: .n :: nS 4 (.b true :: []))), .br true, .reg (.n :: [])]) (fr := true) (by kernel_rfl) (an (an (ti trivial) (an e1006 (an rt (an (ti trivial) trivial)))) (ti trivial)) (Wv.refl _)
  ·obtain ⟨h1007, h⟩ := ifn h
   obtain ⟨r1008, h1009, h⟩ := bs h
   have e1010 := (an (decide_eq_false h1005) (nspeculumbase_isLetter_ok k (bat a0 0) _ h1009))
   have e1011 := (ti (ti (ti (ti (an (an (decide_eq_false h1003) trivial) (an (an (decide_eq_false h1003) trivial) (an (an (decide_eq_false h1003) trivial) (an (decide_eq_false h1003) (ti (an (an (decide_eq_false h1005) trivial) (an (an (decide_eq_false h1005) h1007) (an e1010 (an (an (decide_eq_false h1005) trivial) (an (decide_eq_false h1005) trivial))))))))))))))
   rcases ifs h with ⟨h1012, h⟩ | ⟨h1012, h⟩
   ·obtain ⟨r1056, h1055, h⟩ := bs h
    have hph1055 := nspeculumbase_IsName_l0_0_ok k a0 _ _ _ h1055
    cases r1056 with
    | inl r1057 =>
     dsimp only at h
     have e1059 := (an (ti trivial) (VRun.loop hph1055))
     injection h with h; subst h
     exact fun_ok pm pn Go.Proofs.Try.func111 (r0 := vb false) (ans := [.reg (.n :: []), .reg (nN 7 (.b false :: nN 3 (.call (vb r1008) :: .n :: .b false :: []))), .br false, .reg (.n :: []), .sub ⟨[(0, none), (3, none)], [], []⟩ .ret (nspeculumbase_IsName_l0_0_e0 a0 r1057)]) (fr := true) (by kernel_rfl) (an (an (ti trivial) (an (an e1011 (an (not_f h1012) trivial)) (an (ti trivial) e1059))) (ti trivial)) (Wv.refl _)
    | inr r1058 =>
     dsimp only at h
     have e1060 := (an (ti trivial) (VRun.loop hph1055))
     injection h with h; subst h
     exact fun_ok pm pn Go.Proofs.Try.func111 (r0 := vb true) (ans := [.reg (.n :: []), .reg (nN 7 (.b false :: nN 3 (.call (vb r1008) :: .n :: .b false :: []))), .br false, .reg (.n :: []), .sub ⟨[(0, none), (3, none)], [], []⟩ (.exit 0) (nspeculumbase_IsName_l0_0_e1 a0 r1058), .reg (.n :: [])]) (fr := true) (by kernel_rfl) (an (an (ti trivial) (an (an e1011 (an (not_f h1012) trivial)) (an (an (ti trivial) e1060) (an (ti trivial) trivial)))) (ti trivial)) (Wv.refl _)
   ·injection h with h; subst h
    exact fun_ok pm pn Go.Proofs.Try.func111 (r0 := vb false) (ans := [.reg (.n :: []), .reg (nN 7 (.b false :: nN 3 (.call (vb r1008) :: .n :: .b false :: []))), .br true, .reg (.n :: [])]) (fr := true) (by kernel_rfl) (an (an (ti trivial) (an e1011 (an (not_t (bool_f h1012)) (an (ti trivial) trivial)))) (ti trivial)) (Wv.refl _)
def nspeculumref09_IsMinute (k : Nat) (a0 : Int) : Option Bool :=
 (nspeculumbase_Within k a0 0 10000000).bind fun r1076 => (some r1076)
theorem nspeculumref09_IsMinute_ok (k : Nat) (a0 : Int) (r : Bool) (h : nspeculumref09_IsMinute k a0 = some r) : VC Go.Proofs.Try.prog 77 [vi a0] (vb r) := by
 unfold nspeculumref09_IsMinute at h
 obtain ⟨r1076, h1077, h⟩ := bs h
 have e1078 := (nspeculumbase_Within_ok k a0 0 10000000 _ h1077)
 injection h with h; subst h
 exact fun_ok pm pn Go.Proofs.Try.func77 (r0 := vb r1076) (ans := [.reg (.n :: []), .reg (.n :: .call (vb r1076) :: .n :: [])]) (fr := true) (by kernel_rfl) (an (an (ti trivial) (an (ti (an e1078 (ti trivial))) trivial)) (ti trivial)) (Wv.refl _)
def nspeculumref09_CheckTarget (k : Nat) (a0 : SSkyTarget) : Option Int :=
 (nspeculumbase_IsName k a0.Name).bind fun r1097 => (if r1097 = true then ((nspeculumbase_Within k a0.Azimuth 0 1295999).bind fun r1101 => (if r1101 = true then ((nspeculumref09_IsHeight k a0.Height).bind fun r1105 => (if r1105 = true then ((nspeculumref09_IsMinute k a0.From).bind fun r1109 => (if r1109 = true then ((nspeculumref09_IsMinute k a0.To).bind fun r1113 => (if r1113 = true then ((nspeculumbase_Within k a0.Dwell 1 10000).bind fun r1117 => (if r1117 = true then (if a0.To <= a0.From then (some 9) else (some 0)) else (some 2))) else (some 2))) else (some 2))) else (some 2))) else (some 2))) else (some 4))
theorem nspeculumref09_CheckTarget_ok (k : Nat) (a0 : SSkyTarget) (r : Int) (h : nspeculumref09_CheckTarget k a0 = some r) : VC Go.Proofs.Try.prog 57 [VV.ag (c_SSkyTarget a0)] (vi r) := by
 unfold nspeculumref09_CheckTarget at h
 obtain ⟨r1097, h1098, h⟩ := bs h
 have e1099 := (nspeculumbase_IsName_ok k a0.Name _ h1098)
 rcases ifs h with ⟨h1100, h⟩ | ⟨h1100, h⟩
 ·obtain ⟨r1101, h1102, h⟩ := bs h
  have e1103 := (nspeculumbase_Within_ok k a0.Azimuth 0 1295999 _ h1102)
  rcases ifs h with ⟨h1104, h⟩ | ⟨h1104, h⟩
  ·obtain ⟨r1105, h1106, h⟩ := bs h
   have e1107 := (an (not_f h1104) (nspeculumref09_IsHeight_ok k a0.Height _ h1106))
   rcases ifs h with ⟨h1108, h⟩ | ⟨h1108, h⟩
   ·obtain ⟨r1109, h1110, h⟩ := bs h
    have e1111 := (an (not_f h1108) (nspeculumref09_IsMinute_ok k a0.From _ h1110))
    rcases ifs h with ⟨h1112, h⟩ | ⟨h1112, h⟩
    ·obtain ⟨r1113, h1114, h⟩ := bs h
     have e1115 := (an (not_f h1112) (nspeculumref09_IsMinute_ok k a0.To _ h1114))
     rcases ifs h with ⟨h1116, h⟩ | ⟨h1116, h⟩
     ·obtain ⟨r1117, h1118, h⟩ := bs h
      have e1119 := (an (not_f h1116) (nspeculumbase_Within_ok k a0.Dwell 1 10000 _ h1118))
      have e1120 := (ti (ti (an e1103 (ti (ti (an (an (not_f h1104) trivial) (an (an (not_f h1104) trivial) (an e1107 (an (an (not_f h1104) trivial) (an (not_f h1104) (ti (an (an (not_f h1108) trivial) (an (an (not_f h1108) trivial) (an e1111 (an (an (not_f h1108) trivial) (an (not_f h1108) (ti (an (an (not_f h1112) trivial) (an (an (not_f h1112) trivial) (an e1115 (an (an (not_f h1112) trivial) (an (not_f h1112) (ti (an (an (not_f h1116) trivial) (an (an (not_f h1116) trivial) (an e1119 (an (an (not_f h1116) trivial) (an (not_f h1116) trivial))))))))))))))))))))))))))))
      rcases ifs h with ⟨h1121, h⟩ | ⟨h1121, h⟩
      ·rcases ifs h with ⟨h1122, h⟩ | ⟨h1122, h⟩
       ·injection h with h; subst h
        exact fun_ok pm pn Go.Proofs.Try.func57 (r0 := vi 9) (ans := [.reg (.n :: .n :: []), .reg (.n :: .n :: .call (vb r1097) :: .n :: []), .br false, .reg (arB2_10 r1101 r1105 r1109 r1113 r1117), .br false, .reg (nN 5 []), .br true, .reg (.n :: [])]) (fr := true) (by kernel_rfl) (an (an (ti (ti trivial)) (an (an (ti (ti (an e1099 (ti trivial)))) (an (not_f h1100) trivial)) (an (an e1120 (an (not_f h1121) trivial)) (an (ti (ti (ti (ti (ti trivial))))) (an (decide_eq_true h1122) (an (ti trivial) trivial)))))) (ti trivial)) (Wv.refl _)
       ·injection h with h; subst h
        exact fun_ok pm pn Go.Proofs.Try.func57 (r0 := vi 0) (ans := [.reg (.n :: .n :: []), .reg (.n :: .n :: .call (vb r1097) :: .n :: []), .br false, .reg (arB2_10 r1101 r1105 r1109 r1113 r1117), .br false, .reg (nN 5 []), .br false, .reg (.n :: [])]) (fr := true) (by kernel_rfl) (an (an (ti (ti trivial)) (an (an (ti (ti (an e1099 (ti trivial)))) (an (not_f h1100) trivial)) (an (an e1120 (an (not_f h1121) trivial)) (an (an (ti (ti (ti (ti (ti trivial))))) (an (decide_eq_false h1122) trivial)) (an (ti trivial) trivial))))) (ti trivial)) (Wv.refl _)
      ·injection h with h; subst h
       exact fun_ok pm pn Go.Proofs.Try.func57 (r0 := vi 2) (ans := [.reg (.n :: .n :: []), .reg (.n :: .n :: .call (vb r1097) :: .n :: []), .br false, .reg (arB2_10 r1101 r1105 r1109 r1113 r1117), .br true, .reg (.n :: [])]) (fr := true) (by kernel_rfl) (an (an (ti (ti trivial)) (an (an (ti (ti (an e1099 (ti trivial)))) (an (not_f h1100) trivial)) (an e1120 (an (not_t (bool_f h1121)) (an (ti trivial) trivial))))) (ti trivial)) (Wv.refl _)
     ·have e1123 := (ti (ti (an e1103 (ti (ti (an (an (not_f h1104) trivial) (an (an (not_f h1104) trivial) (an e1107 (an (an (not_f h1104) trivial) (an (not_f h1104) (ti (an (an (not_f h1108) trivial) (an (an (not_f h1108) trivial) (an e1111 (an (an (not_f h1108) trivial) (an (not_f h1108) (ti (an (an (not_f h1112) trivial) (an (an (not_f h1112) trivial) (an e1115 (an (an (not_f h1112) trivial) (an (not_f h1112) (ti (an (not_t (bool_f h1116)) (an (not_t (bool_f h1116)) (an (not_t (bool_f h1116)) (an (not_t (bool_f h1116)) (an (not_t (bool_f h1116)) trivial))))))))))))))))))))))))))))
      injection h with h; subst h
      exact fun_ok pm pn Go.Proofs.Try.func57 (r0 := vi 2) (ans := [.reg (.n :: .n :: []), .reg (.n :: .n :: .call (vb r1097) :: .n :: []), .br false, .reg (arB2_11 r1101 r1105 r1109 r1113), .br true, .reg (.n :: [])]) (fr := true) (by kernel_rfl) (an (an (ti (ti trivial)) (an (an (ti (ti (an e1099 (ti trivial)))) (an (not_f h1100) trivial)) (an e1123 (an rt (an (ti trivial) trivial))))) (ti trivial)) (Wv.refl _)
    ·have e1124 := (ti (ti (an e1103 (ti (ti (an (an (not_f h1104) trivial) (an (an (not_f h1104) trivial) (an e1107 (an (an (not_f h1104) trivial) (an (not_f h1104) (ti (an (an (not_f h1108) trivial) (an (an (not_f h1108) trivial) (an e1111 (an (an (not_f h1108) trivial) (an (not_f h1108) (ti (an (not_t (bool_f h1112)) (an (not_t (bool_f h1112)) (an (not_t (bool_f h1112)) (an (not_t (bool_f h1112)) (an (not_t (bool_f h1112)) (ti (an rt (an rt (an rt (an rt (an rt trivial))))))))))))))))))))))))))))
     injection h with h; subst h
     exact fun_ok pm pn Go.Proofs.Try.func57 (r0 := vi 2) (ans := [.reg (.n :: .n :: []), .reg (.n :: .n :: .call (vb r1097) :: .n :: []), .br false, .reg (arB2_12 r1101 r1105 r1109), .br true, .reg (.n :: [])]) (fr := true) (by kernel_rfl) (an (an (ti (ti trivial)) (an (an (ti (ti (an e1099 (ti trivial)))) (an (not_f h1100) trivial)) (an e1124 (an rt (an (ti trivial) trivial))))) (ti trivial)) (Wv.refl _)
   ·have e1125 := (ti (ti (an e1103 (ti (ti (an (an (not_f h1104) trivial) (an (an (not_f h1104) trivial) (an e1107 (an (an (not_f h1104) trivial) (an (not_f h1104) (ti (an (not_t (bool_f h1108)) (an (not_t (bool_f h1108)) (an (not_t (bool_f h1108)) (an (not_t (bool_f h1108)) (an (not_t (bool_f h1108)) (ti (an rt (an rt (an rt (an rt (an rt (ti (an rt (an rt (an rt (an rt (an rt trivial))))))))))))))))))))))))))))
    injection h with h; subst h
    exact fun_ok pm pn Go.Proofs.Try.func57 (r0 := vi 2) (ans := [.reg (.n :: .n :: []), .reg (.n :: .n :: .call (vb r1097) :: .n :: []), .br false, .reg (arB2_13 r1101 r1105), .br true, .reg (.n :: [])]) (fr := true) (by kernel_rfl) (an (an (ti (ti trivial)) (an (an (ti (ti (an e1099 (ti trivial)))) (an (not_f h1100) trivial)) (an e1125 (an rt (an (ti trivial) trivial))))) (ti trivial)) (Wv.refl _)
  ·have e1126 := (ti (ti (an e1103 (ti (ti (an (not_t (bool_f h1104)) (an (not_t (bool_f h1104)) (an (not_t (bool_f h1104)) (an (not_t (bool_f h1104)) (an (not_t (bool_f h1104)) (ti (an rt (an rt (an rt (an rt (an rt (ti (an rt (an rt (an rt (an rt (an rt (ti (an rt (an rt (an rt (an rt (an rt trivial))))))))))))))))))))))))))))
   injection h with h; subst h
   exact fun_ok pm pn Go.Proofs.Try.func57 (r0 := vi 2) (ans := [.reg (.n :: .n :: []), .reg (.n :: .n :: .call (vb r1097) :: .n :: []), .br false, .reg (arB2_14 r1101), .br true, .reg (.n :: [])]) (fr := true) (by kernel_rfl) (an (an (ti (ti trivial)) (an (an (ti (ti (an e1099 (ti trivial)))) (an (not_f h1100) trivial)) (an e1126 (an rt (an (ti trivial) trivial))))) (ti trivial)) (Wv.refl _)
 ·injection h with h; subst h
  exact fun_ok pm pn Go.Proofs.Try.func57 (r0 := vi 4) (ans := [.reg (.n :: .n :: []), .reg (.n :: .n :: .call (vb r1097) :: .n :: []), .br true, .reg (.n :: [])]) (fr := true) (by kernel_rfl) (an (an (ti (ti trivial)) (an (ti (ti (an e1099 (ti trivial)))) (an (not_t (bool_f h1100)) (an (ti trivial) trivial)))) (ti trivial)) (Wv.refl _)
theorem eqB2_9 (z0 : SSkyTarget) (z1 : Int) (z2 : Int) (z3 : Int) : VV.ag [vi (w64 ((w64 (z0.Azimuth + z1)) - (w64 (z2 * 1296000)))), vi (w64 (z0.Height + z3))] = VV.ag (c_A23 (⟨w64 ((w64 (z0.Azimuth + z1)) - (w64 (z2 * 1296000))), w64 (z0.Height + z3)⟩ : A23)) := by first | rfl | simp only [unfr_vi, List.map_cons, List.map_nil, un_i, unfr_c_A23]
def npoint_apparent (k : Nat) (a0 : SSkyMount) (a1 : SSkyTarget) (a2 : Int) : Option A23 :=
 (npoint_valueAt k a0.Drift a2).bind fun r1138 => ((npoint_down k (w64 (a1.Azimuth + r1138)) 1296000).bind fun r1142 => ((npoint_valueAt k a0.Refraction a1.Height).bind fun r1145 => (some (⟨w64 ((w64 (a1.Azimuth + r1138)) - (w64 (r1142 * 1296000))), w64 (a1.Height + r1145)⟩ : A23))))
theorem npoint_apparent_ok (k : Nat) (a0 : SSkyMount) (a1 : SSkyTarget) (a2 : Int) (r : A23) (h : npoint_apparent k a0 a1 a2 = some r) : VC Go.Proofs.Try.prog 107 [VV.ag (c_SSkyMount a0), VV.ag (c_SSkyTarget a1), vi a2] (VV.ag (c_A23 r)) := by
 unfold npoint_apparent at h
 obtain ⟨r1138, h1139, h⟩ := bs h
 have e1140 := (npoint_valueAt_ok k a0.Drift a2 _ h1139)
 have e1141 := (ti (ti (ti (ti (ti (an e1140 (ti (ti trivial))))))))
 obtain ⟨r1142, h1143, h⟩ := bs h
 have e1144 := (npoint_down_ok k (w64 (a1.Azimuth + r1138)) 1296000 _ h1143)
 obtain ⟨r1145, h1146, h⟩ := bs h
 have e1147 := (npoint_valueAt_ok k a0.Refraction a1.Height _ h1146)
 have e1148 := (ti (ti (ti (ti (ti (ti (ti (an e1147 (ti (ti (ti trivial)))))))))))
 injection h with h; subst h
 exact fun_ok pm pn Go.Proofs.Try.func107 (r0 := VV.ag [vi (w64 ((w64 (a1.Azimuth + r1138)) - (w64 (r1142 * 1296000)))), vi (w64 (a1.Height + r1145))]) (ans := [.reg (nN 3 []), .reg (nN 5 (.call (vi r1138) :: .n :: .n :: [])), .reg (.n :: .n :: .call (vi r1142) :: nN 3 []), .reg (nN 7 (.call (vi r1145) :: nN 3 []))]) (fr := true) (by kernel_rfl) (an (an (ti (ti (ti trivial))) (an e1141 (an (ti (ti (an e1144 (ti (ti (ti trivial)))))) (an e1148 trivial)))) (an (ti (ti (ti trivial))) trivial)) (Wv.of_eq (eqB2_9 a1 r1138 r1142 r1145))
theorem eqB2_10 (z0 : SSkyMount) (z1 : A23) : [vi z0.Low, vi z0.High, VV.tr (List.map vi ([z1.e1] : List Int)) (([z1.e1] : List Int).length)] = [vi z0.Low, vi z0.High, VV.tr (List.drop 0 (List.map unfr [vi z1.e1])) 1] := by first | rfl | simp only [drop0, unfr_vi, List.map_cons, List.map_nil, un_i, un_tr, List.length_map, List.length_cons, List.length_nil]
def npoint_up (k : Nat) (a0 : Int) (a1 : Int) : Option Int :=
 (npoint_down k (w64 (0 - a0)) a1).bind fun r1162 => (some (w64 (0 - r1162)))
theorem npoint_up_ok (k : Nat) (a0 : Int) (a1 : Int) (r : Int) (h : npoint_up k a0 a1 = some r) : VC Go.Proofs.Try.prog 102 [vi a0, vi a1] (vi r) := by
 unfold npoint_up at h
 obtain ⟨r1162, h1163, h⟩ := bs h
 have e1164 := (npoint_down_ok k (w64 (0 - a0)) a1 _ h1163)
 injection h with h; subst h
 exact fun_ok pm pn Go.Proofs.Try.func102 (r0 := vi (w64 (0 - r1162))) (ans := [.reg (.n :: []), .reg (nN 3 (.call (vi r1162) :: .n :: .n :: []))]) (fr := true) (by kernel_rfl) (an (an (ti trivial) (an (ti (ti (ti (an e1164 (ti (ti trivial)))))) trivial)) (ti trivial)) (Wv.refl _)
def npoint_stopAt_l0_0_h (a0 : SSkyMount) (a1 : SSkyTarget) (r1196 : A23) (y6 : List Int) (y7 : List Int) (x12 : Int) : VS := ⟨mkA [(3, VV.pt 0 0), (6, VV.pt 2 0), (9, vi r1196.e0), (11, VV.pt 5 0), (12, vi x12)], [some ⟨true, 1, c_SSkyMount a0⟩, some ⟨true, 1, c_SSkyTarget a1⟩, some ⟨true, 1, [vs ByteArray.empty, vi 0, vi 0, vi 0, vi 0, vi 0, VV.c (.slice none 0 0), VV.c (.slice none 0 0)]⟩, some ⟨true, 1, c_A23 r1196⟩, some ⟨false, 1, [vi r1196.e1]⟩, some ⟨true, 1, [vs a1.Name, vi a1.Azimuth, vi a1.Height, vi a1.From, vi a1.To, vi a1.Dwell, VV.rf 6 0 y6.length, VV.rf 7 0 y7.length]⟩, some ⟨false, 1, List.map vi y6⟩, some ⟨false, 1, List.map vi y7⟩], .nil⟩
def npoint_stopAt_l0_0_e0 (a0 : SSkyMount) (a1 : SSkyTarget) (r1196 : A23) (r : (List Int) × (List Int)) : VS := ⟨mkA [(6, VV.pt 2 0), (11, VV.pt 5 0)], [some ⟨true, 1, c_SSkyMount a0⟩, some ⟨true, 1, c_SSkyTarget a1⟩, some ⟨true, 1, [vs ByteArray.empty, vi 0, vi 0, vi 0, vi 0, vi 0, VV.c (.slice none 0 0), VV.c (.slice none 0 0)]⟩, some ⟨true, 1, c_A23 r1196⟩, some ⟨false, 1, [vi r1196.e1]⟩, some ⟨true, 1, [vs a1.Name, vi a1.Azimuth, vi a1.Height, vi a1.From, vi a1.To, vi a1.Dwell, VV.rf 6 0 r.1.length, VV.rf 7 0 r.2.length]⟩, some ⟨false, 1, List.map vi r.1⟩, some ⟨false, 1, List.map vi r.2⟩], .nil⟩
def npoint_stopAt_l0_0 (k : Nat) (a0 : SSkyMount) (a1 : SSkyTarget) (r1196 : A23) : Nat -> (List Int) -> (List Int) -> Int -> Option ((List Int) × (List Int))
 | 0, _, _, _ => none
 | fuel + 1, y6, y7, x12 => if (w64 (r1196.e0 + (w64 (x12 * 1296000)))) <= a0.Most then (if y6.length + ([x12] : List Int).length <= 1000000000 then (if y7.length + ([w64 (r1196.e0 + (w64 (x12 * 1296000)))] : List Int).length <= 1000000000 then (npoint_stopAt_l0_0 k a0 a1 r1196 fuel (y6 ++ ([x12] : List Int)) (y7 ++ ([w64 (r1196.e0 + (w64 (x12 * 1296000)))] : List Int)) (w64 (x12 + 1))) else none) else none) else (some (y6, y7))
theorem npoint_stopAt_l0_0_ok (k : Nat) (a0 : SSkyMount) (a1 : SSkyTarget) (r1196 : A23) : ∀ (fuel : Nat) (y6 : List Int) (y7 : List Int) (x12 : Int) (r : (List Int) × (List Int)), npoint_stopAt_l0_0 k a0 a1 r1196 fuel y6 y7 x12 = some r -> (VLoop none Go.Proofs.Try.prog (szF Go.Proofs.Try.f108) (bodyOf Go.Proofs.Try.f108 0) (npoint_stopAt_l0_0_h a0 a1 r1196 y6 y7 x12) (.exit 0) (npoint_stopAt_l0_0_e0 a0 a1 r1196 r)) := by
 intro fuel
 induction fuel with
 | zero => intro y6 y7 x12 r h; rw [npoint_stopAt_l0_0.eq_1] at h; cases h
 | succ fuel ih =>
  intro y6 y7 x12 r h
  rw [npoint_stopAt_l0_0.eq_2] at h
  rcases ifs h with ⟨h1227, h⟩ | ⟨h1227, h⟩
  ·obtain ⟨h1228, h⟩ := ifn h
   have e1229 := (show List.length (List.map vi y6) = y6.length * 1 /\ List.length [vi x12] = 1 * 1 /\ (y6.length + 1) * 8 <= 140737488355328 /\ y6.length + 1 < 1099511627776 /\ List.all [vi x12] VV.still = true from ⟨(by simp), (by rw [show [vi x12] = List.map vi ([x12] : List Int) from rfl]; simp), by simp at h1228 ⊢; omega, by simp at h1228 ⊢; omega, (by rw [show [vi x12] = List.map vi ([x12] : List Int) from rfl]; exact still_vi _)⟩)
   obtain ⟨h1230, h⟩ := ifn h
   have e1231 := (show List.length (List.map vi y7) = y7.length * 1 /\ List.length [vi (w64 (r1196.e0 + (w64 (x12 * 1296000))))] = 1 * 1 /\ (y7.length + 1) * 8 <= 140737488355328 /\ y7.length + 1 < 1099511627776 /\ List.all [vi (w64 (r1196.e0 + (w64 (x12 * 1296000))))] VV.still = true from ⟨(by simp), (by rw [show [vi (w64 (r1196.e0 + (w64 (x12 * 1296000))))] = List.map vi ([w64 (r1196.e0 + (w64 (x12 * 1296000)))] : List Int) from rfl]; simp), by simp at h1230 ⊢; omega, by simp at h1230 ⊢; omega, (by rw [show [vi (w64 (r1196.e0 + (w64 (x12 * 1296000))))] = List.map vi ([w64 (r1196.e0 + (w64 (x12 * 1296000)))] : List Int) from rfl]; exact still_vi _)⟩)
   have e1232 := (ti (ti (ti (ti (ti (ti (ti (an e1231 (ti (ti trivial))))))))))
   have h2 := ih _ _ _ _ h
   obtain ⟨q, hv, hq⟩ := pkR (rd := none) (P := Go.Proofs.Try.prog) (fn := Go.Proofs.Try.f108) (k := 0) (s := (npoint_stopAt_l0_0_h a0 a1 r1196 y6 y7 x12)) (ans := [.reg (nN 7 []), .br true, .reg (nN 7 []), .reg (nN 10 []), .reg (nN 3 [])]) (c := ⟨[(3, none), (6, none), (9, none), (11, none), (12, none)], [none, none, none, none, none, some [vs a1.Name, vi a1.Azimuth, vi a1.Height, vi a1.From, vi a1.To, vi a1.Dwell, VV.rf 6 0 ((y6 ++ ([x12] : List Int)).length), VV.rf 7 0 ((y7 ++ ([w64 (r1196.e0 + (w64 (x12 * 1296000)))] : List Int)).length)], some (List.map vi (y6 ++ ([x12] : List Int))), some (List.map vi (y7 ++ ([w64 (r1196.e0 + (w64 (x12 * 1296000)))] : List Int)))], []⟩) (e := .normal) (s1 := (npoint_stopAt_l0_0_h a0 a1 r1196 (y6 ++ ([x12] : List Int)) (y7 ++ ([w64 (r1196.e0 + (w64 (x12 * 1296000)))] : List Int)) (w64 (x12 + 1)))) (an (an (an (ti (ti (ti (ti (ti (ti (ti trivial))))))) (an (decide_eq_true h1227) trivial)) (an (an (ti (ti (ti (ti (an e1229 (ti (ti trivial))))))) e1232) (ti (ti (ti trivial))))) (ti (an (show [vs a1.Name, vi a1.Azimuth, vi a1.Height, vi a1.From, vi a1.To, vi a1.Dwell, VV.rf 6 0 (y6.length + 1), VV.rf 7 0 (y7.length + 1)] = [vs a1.Name, vi a1.Azimuth, vi a1.Height, vi a1.From, vi a1.To, vi a1.Dwell, VV.rf 6 0 ((y6 ++ ([x12] : List Int)).length), VV.rf 7 0 ((y7 ++ ([w64 (r1196.e0 + (w64 (x12 * 1296000)))] : List Int)).length)] from (by first | rfl | simp)) (an (show (List.map vi y6) ++ [vi x12] = List.map vi (y6 ++ ([x12] : List Int)) from (by rw [show [vi x12] = List.map vi ([x12] : List Int) from rfl]; exact List.map_append.symm)) (an (show (List.map vi y7) ++ [vi (w64 (r1196.e0 + (w64 (x12 * 1296000))))] = List.map vi (y7 ++ ([w64 (r1196.e0 + (w64 (x12 * 1296000)))] : List Int)) from (by rw [show [vi (w64 (r1196.e0 + (w64 (x12 * 1296000))))] = List.map vi ([w64 (r1196.e0 + (w64 (x12 * 1296000)))] : List Int) from rfl]; exact List.map_append.symm)) trivial))))) (by kernel_rfl)
   exact round_next pm pn hv hq h2
  ·injection h with h; subst h
   exact round_stop (c := ⟨[(6, none), (11, none)], [none, none, none, none, none, none, none, none], []⟩) (s1 := (npoint_stopAt_l0_0_e0 a0 a1 r1196 (y6, y7))) pm pn (ans := [.reg (nN 7 []), .br false]) (by kernel_rfl) (by intro e; cases e) (an (an (ti (ti (ti (ti (ti (ti (ti trivial))))))) (an (decide_eq_false h1227) trivial)) (ti trivial))
theorem eqB2_11  : vi 0 = vi (((⟨(⟨ByteArray.empty, 0, 0, 0, 0, 0⟩ : SSkyTarget), [], []⟩ : Sstop).SkyTarget).Dwell) := by first | rfl | simp only [unfr_vi, List.map_cons, List.map_nil, un_i]
theorem eqB2_12  : vi 0 = vi (((⟨(⟨ByteArray.empty, 0, 0, 0, 0, 0⟩ : SSkyTarget), [], []⟩ : Sstop).SkyTarget).To) := by first | rfl | simp only [unfr_vi, List.map_cons, List.map_nil, un_i]
theorem eqB2_13  : vi 0 = vi (((⟨(⟨ByteArray.empty, 0, 0, 0, 0, 0⟩ : SSkyTarget), [], []⟩ : Sstop).SkyTarget).From) := by first | rfl | simp only [unfr_vi, List.map_cons, List.map_nil, un_i]
theorem eqB2_14  : vi 0 = vi (((⟨(⟨ByteArray.empty, 0, 0, 0, 0, 0⟩ : SSkyTarget), [], []⟩ : Sstop).SkyTarget).Height) := by first | rfl | simp only [unfr_vi, List.map_cons, List.map_nil, un_i]
theorem eqB2_15  : vi 0 = vi (((⟨(⟨ByteArray.empty, 0, 0, 0, 0, 0⟩ : SSkyTarget), [], []⟩ : Sstop).SkyTarget).Azimuth) := by first | rfl | simp only [unfr_vi, List.map_cons, List.map_nil, un_i]
theorem eqB2_16  : vs ByteArray.empty = vs (((⟨(⟨ByteArray.empty, 0, 0, 0, 0, 0⟩ : SSkyTarget), [], []⟩ : Sstop).SkyTarget).Name) := by first | rfl | simp only [unfr_vs, List.map_cons, List.map_nil, un_s]
theorem eqB2_17 (z0 : SSkyTarget) (z1 : (List Int) × (List Int)) : VV.tu [VV.ag [vs z0.Name, vi z0.Azimuth, vi z0.Height, vi z0.From, vi z0.To, vi z0.Dwell, VV.fw 1 (List.drop 0 (List.map unfr (List.map vi z1.1))) z1.1.length, VV.fw 1 (List.drop 0 (List.map unfr (List.map vi z1.2))) z1.2.length], vi 0] = VV.tu [VV.ag [vs (((⟨z0, z1.1, z1.2⟩ : Sstop).SkyTarget).Name), vi (((⟨z0, z1.1, z1.2⟩ : Sstop).SkyTarget).Azimuth), vi (((⟨z0, z1.1, z1.2⟩ : Sstop).SkyTarget).Height), vi (((⟨z0, z1.1, z1.2⟩ : Sstop).SkyTarget).From), vi (((⟨z0, z1.1, z1.2⟩ : Sstop).SkyTarget).To), vi (((⟨z0, z1.1, z1.2⟩ : Sstop).SkyTarget).Dwell), VV.fw 1 (List.map vi ((⟨z0, z1.1, z1.2⟩ : Sstop).turns)) (((⟨z0, z1.1, z1.2⟩ : Sstop).turns).length), VV.fw 1 (List.map vi ((⟨z0, z1.1, z1.2⟩ : Sstop).positions)) (((⟨z0, z1.1, z1.2⟩ : Sstop).positions).length)], vi 0] := by first | rfl | simp only [drop0, unfr_vi, unfr_vs, List.map_cons, List.map_nil, un_i, un_s, List.length_map, List.length_cons, List.length_nil]
def npoint_stopAt (k : Nat) (a0 : SSkyMount) (a1 : SSkyTarget) (a2 : Int) : Option (Sstop × Int) :=
 (npoint_apparent k a0 a1 a2).bind fun r1196 => ((npoint_areWithin k a0.Low a0.High ([r1196.e1] : List Int)).bind fun r1201 => (if r1201 = true then ((npoint_up k (w64 (a0.Least - r1196.e0)) 1296000).bind fun r1206 => ((npoint_stopAt_l0_0 k a0 a1 r1196 k ([] : List Int) ([] : List Int) r1206).bind fun r1234 => (if ((r1234.1.length : Nat) : Int) = 0 then (some ((⟨(⟨ByteArray.empty, 0, 0, 0, 0, 0⟩ : SSkyTarget), [], []⟩ : Sstop), 12)) else (some ((⟨a1, r1234.1, r1234.2⟩ : Sstop), 0))))) else (some ((⟨(⟨ByteArray.empty, 0, 0, 0, 0, 0⟩ : SSkyTarget), [], []⟩ : Sstop), 26))))
theorem npoint_stopAt_ok (k : Nat) (a0 : SSkyMount) (a1 : SSkyTarget) (a2 : Int) (r : (Sstop × Int)) (h : npoint_stopAt k a0 a1 a2 = some r) : VC Go.Proofs.Try.prog 108 [VV.ag (c_SSkyMount a0), VV.ag (c_SSkyTarget a1), vi a2] (VV.tu [VV.ag [vs r.1.SkyTarget.Name, vi r.1.SkyTarget.Azimuth, vi r.1.SkyTarget.Height, vi r.1.SkyTarget.From, vi r.1.SkyTarget.To, vi r.1.SkyTarget.Dwell, VV.fw 1 (List.map vi r.1.turns) r.1.turns.length, VV.fw 1 (List.map vi r.1.positions) r.1.positions.length], vi r.2]) := by
 unfold npoint_stopAt at h
 obtain ⟨r1196, h1197, h⟩ := bs h
 have e1198 := (ti (ti (ti (an (npoint_apparent_ok k a0 a1 a2 _ h1197) (ti (ti trivial))))))
 have e1199 := (show (0:Int) <= 0 /\ (0:Int) < ((2 : Nat) : Int) from ⟨by decide, by decide⟩)
 have e1200 := (show (0:Int) <= 1 /\ (1:Int) < ((2 : Nat) : Int) from ⟨by decide, by decide⟩)
 obtain ⟨r1201, h1202, h⟩ := bs h
 have e1203 := (VC.args (npoint_areWithin_ok k a0.Low a0.High ([r1196.e1] : List Int) _ h1202) (eqB2_10 a0 r1196))
 have e1204 := (ti (ti (ti (ti (ti (ti (an e1203 (ti trivial))))))))
 rcases ifs h with ⟨h1205, h⟩ | ⟨h1205, h⟩
 ·obtain ⟨r1206, h1207, h⟩ := bs h
  have e1208 := (npoint_up_ok k (w64 (a0.Least - r1196.e0)) 1296000 _ h1207)
  obtain ⟨r1234, h1233, h⟩ := bs h
  have hph1233 := npoint_stopAt_l0_0_ok k a0 a1 r1196 _ _ _ _ _ h1233
  have e1235 := (an (ti trivial) (VRun.loop hph1233))
  rcases ifs h with ⟨h1236, h⟩ | ⟨h1236, h⟩
  ·injection h with h; subst h
   exact fun_ok pm pn Go.Proofs.Try.func108 (r0 := VV.tu [VV.ag [vs ByteArray.empty, vi 0, vi 0, vi 0, vi 0, vi 0, VV.c (.slice none 0 0), VV.c (.slice none 0 0)], vi 12]) (ans := [.reg (nN 4 []), .reg (nN 3 (.call (VV.ag (c_A23 r1196)) :: .n :: .n :: [])), .reg (nN 6 []), .reg (nN 6 (.call (vb r1201) :: .n :: [])), .br false, .reg (nN 4 []), .reg (nN 4 (.call (vi r1206) :: .n :: [])), .sub ⟨[(3, none), (6, none), (9, none), (11, none), (12, none)], [none, none, none, none, none, none], [.b 5 6 1, .b 5 7 1]⟩ (.exit 0) (npoint_stopAt_l0_0_e0 a0 a1 r1196 r1234), .reg (nN 4 []), .br true, .reg (nN 3 [])]) (fr := true) (by kernel_rfl) (an (an (ti (ti (ti (ti trivial)))) (an e1198 (an (an e1199 (ti (an e1200 (ti (ti (ti trivial)))))) (an (an e1204 (an (not_f h1205) trivial)) (an (ti (ti (ti (ti trivial)))) (an (an (ti (ti (ti (ti (an e1208 (ti trivial)))))) e1235) (an (ti (ti (ti (ti trivial)))) (an (decide_eq_true h1236) (an (ti (ti (ti trivial))) trivial))))))))) (an (ti (ti (ti (ti (ti (ti (ti (ti (ti trivial))))))))) (ti trivial))) (Wv.tuL (.cons (Wv.agL (.cons (Wv.of_eq eqB2_16) (.cons (Wv.of_eq eqB2_15) (.cons (Wv.of_eq eqB2_14) (.cons (Wv.of_eq eqB2_13) (.cons (Wv.of_eq eqB2_12) (.cons (Wv.of_eq eqB2_11) (.cons Wv.nilFw (.cons Wv.nilFw .nil))))))))) (.cons (Wv.refl _) .nil)))
  ·injection h with h; subst h
   exact fun_ok pm pn Go.Proofs.Try.func108 (r0 := VV.tu [VV.ag [vs a1.Name, vi a1.Azimuth, vi a1.Height, vi a1.From, vi a1.To, vi a1.Dwell, VV.fw 1 (List.drop 0 (List.map unfr (List.map vi r1234.1))) r1234.1.length, VV.fw 1 (List.drop 0 (List.map unfr (List.map vi r1234.2))) r1234.2.length], vi 0]) (ans := [.reg (nN 4 []), .reg (nN 3 (.call (VV.ag (c_A23 r1196)) :: .n :: .n :: [])), .reg (nN 6 []), .reg (nN 6 (.call (vb r1201) :: .n :: [])), .br false, .reg (nN 4 []), .reg (nN 4 (.call (vi r1206) :: .n :: [])), .sub ⟨[(3, none), (6, none), (9, none), (11, none), (12, none)], [none, none, none, none, none, none], [.b 5 6 1, .b 5 7 1]⟩ (.exit 0) (npoint_stopAt_l0_0_e0 a0 a1 r1196 r1234), .reg (nN 4 []), .br false, .reg (nN 3 [])]) (fr := true) (by kernel_rfl) (an (an (ti (ti (ti (ti trivial)))) (an e1198 (an (an e1199 (ti (an e1200 (ti (ti (ti trivial)))))) (an (an e1204 (an (not_f h1205) trivial)) (an (ti (ti (ti (ti trivial)))) (an (an (ti (ti (ti (ti (an e1208 (ti trivial)))))) e1235) (an (an (ti (ti (ti (ti trivial)))) (an (decide_eq_false h1236) trivial)) (an (ti (ti (ti trivial))) trivial)))))))) (an (ti (ti (ti (ti (ti (ti (ti (an (show List.all (List.map vi r1234.1) new0 = true from (by exact new0_vi _)) (an (show List.all (List.map vi r1234.2) new0 = true from (by exact new0_vi _)) trivial))))))))) (ti trivial))) (Wv.of_eq (eqB2_17 a1 r1234))
 ·injection h with h; subst h
  exact fun_ok pm pn Go.Proofs.Try.func108 (r0 := VV.tu [VV.ag [vs ByteArray.empty, vi 0, vi 0, vi 0, vi 0, vi 0, VV.c (.slice none 0 0), VV.c (.slice none 0 0)], vi 26]) (ans := [.reg (nN 4 []), .reg (nN 3 (.call (VV.ag (c_A23 r1196)) :: .n :: .n :: [])), .reg (nN 6 []), .reg (nN 6 (.call (vb r1201) :: .n :: [])), .br true, .reg (nN 3 [])]) (fr := true) (by kernel_rfl) (an (an (ti (ti (ti (ti trivial)))) (an e1198 (an (an e1199 (ti (an e1200 (ti (ti (ti trivial)))))) (an e1204 (an (not_t (bool_f h1205)) (an (ti (ti (ti trivial))) trivial)))))) (an (ti (ti (ti (ti (ti (ti (ti (ti (ti trivial))))))))) (ti trivial))) (Wv.tuL (.cons (Wv.agL (.cons (Wv.of_eq eqB2_16) (.cons (Wv.of_eq eqB2_15) (.cons (Wv.of_eq eqB2_14) (.cons (Wv.of_eq eqB2_13) (.cons (Wv.of_eq eqB2_12) (.cons (Wv.of_eq eqB2_11) (.cons Wv.nilFw (.cons Wv.nilFw .nil))))))))) (.cons (Wv.refl _) .nil)))
def nspeculumbase_Mod (k : Nat) (a0 : Int) (a1 : Int) : Option Int :=
 if a1 ≠ 0 then (if (a0.tmod a1) < 0 then (some (w64 ((a0.tmod a1) + a1))) else (some (a0.tmod a1))) else none
theorem nspeculumbase_Mod_ok (k : Nat) (a0 : Int) (a1 : Int) (r : Int) (h : nspeculumbase_Mod k a0 a1 = some r) : VC Go.Proofs.Try.prog 42 [vi a0, vi a1] (vi r) := by
 unfold nspeculumbase_Mod at h
 obtain ⟨h1242, h⟩ := ifn h
 rcases ifs h with ⟨h1243, h⟩ | ⟨h1243, h⟩
 ·injection h with h; subst h
  exact fun_ok pm pn Go.Proofs.Try.func42 (r0 := vi (w64 ((a0.tmod a1) + a1))) (ans := [.reg (.n :: []), .reg (nN 4 []), .reg (.n :: .n :: []), .br true, .reg (nN 4 [])]) (fr := true) (by kernel_rfl) (an (an (ti trivial) (an (ti (ti (an h1242 (ti trivial)))) (an (ti (ti trivial)) (an (decide_eq_true h1243) (an (ti (ti (ti (ti trivial)))) trivial))))) (ti trivial)) (Wv.refl _)
 ·injection h with h; subst h
  exact fun_ok pm pn Go.Proofs.Try.func42 (r0 := vi (a0.tmod a1)) (ans := [.reg (.n :: []), .reg (nN 4 []), .reg (.n :: .n :: []), .br false, .reg (.n :: .n :: [])]) (fr := true) (by kernel_rfl) (an (an (ti trivial) (an (ti (ti (an h1242 (ti trivial)))) (an (an (ti (ti trivial)) (an (decide_eq_false h1243) trivial)) (an (ti (ti trivial)) trivial)))) (ti trivial)) (Wv.refl _)
theorem eqB2_18 (z0 : Int) (z1 : SSkyTarget) (z2 : Int) : VV.ag [vi z0, vi (w64 (z1.Height + z2))] = VV.ag (c_A23 (⟨z0, w64 (z1.Height + z2)⟩ : A23)) := by first | rfl | simp only [unfr_vi, List.map_cons, List.map_nil, un_i, unfr_c_A23]
def nspeculumref09_Apparent (k : Nat) (a0 : SSkyMount) (a1 : SSkyTarget) (a2 : Int) : Option A23 :=
 (nspeculumref09_TableAt k a0.Drift a2).bind fun r1251 => ((nspeculumbase_Mod k (w64 (a1.Azimuth + r1251)) 1296000).bind fun r1254 => ((nspeculumref09_TableAt k a0.Refraction a1.Height).bind fun r1257 => (some (⟨r1254, w64 (a1.Height + r1257)⟩ : A23))))
theorem nspeculumref09_Apparent_ok (k : Nat) (a0 : SSkyMount) (a1 : SSkyTarget) (a2 : Int) (r : A23) (h : nspeculumref09_Apparent k a0 a1 a2 = some r) : VC Go.Proofs.Try.prog 60 [VV.ag (c_SSkyMount a0), VV.ag (c_SSkyTarget a1), vi a2] (VV.ag (c_A23 r)) := by
 unfold nspeculumref09_Apparent at h
 obtain ⟨r1251, h1252, h⟩ := bs h
 have e1253 := (nspeculumref09_TableAt_ok k a0.Drift a2 _ h1252)
 obtain ⟨r1254, h1255, h⟩ := bs h
 have e1256 := (nspeculumbase_Mod_ok k (w64 (a1.Azimuth + r1251)) 1296000 _ h1255)
 obtain ⟨r1257, h1258, h⟩ := bs h
 have e1259 := (nspeculumref09_TableAt_ok k a0.Refraction a1.Height _ h1258)
 have e1260 := (ti (ti (ti (ti (ti (an e1253 (ti (an e1256 (ti (ti (ti (ti (ti (ti (an e1259 (ti (ti (ti trivial))))))))))))))))))
 injection h with h; subst h
 exact fun_ok pm pn Go.Proofs.Try.func60 (r0 := VV.ag [vi r1254, vi (w64 (a1.Height + r1257))]) (ans := [.reg (nN 3 []), .reg (nN 5 (.call (vi r1251) :: .n :: .call (vi r1254) :: nN 6 (.call (vi r1257) :: nN 3 [])))]) (fr := true) (by kernel_rfl) (an (an (ti (ti (ti trivial))) (an e1260 trivial)) (an (ti (ti (ti trivial))) trivial)) (Wv.of_eq (eqB2_18 r1254 a1 r1257))
def nspeculumref09_Turns_l0_0_h (a0 : SSkyMount) (a1 : SSkyTarget) (r1309 : A23) (y3 : List Int) (x10 : Int) : VS := ⟨mkA [(3, VV.pt 0 0), (8, VV.pt 2 0), (9, VV.rf 3 0 y3.length), (10, vi x10)], [some ⟨true, 1, c_SSkyMount a0⟩, some ⟨true, 1, c_SSkyTarget a1⟩, some ⟨true, 1, c_A23 r1309⟩, some ⟨false, 1, List.map vi y3⟩], .nil⟩
def nspeculumref09_Turns_l0_0_e0 (a0 : SSkyMount) (a1 : SSkyTarget) (r1309 : A23) (r : (List Int)) : VS := ⟨mkA [(9, VV.rf 3 0 r.length)], [some ⟨true, 1, c_SSkyMount a0⟩, some ⟨true, 1, c_SSkyTarget a1⟩, some ⟨true, 1, c_A23 r1309⟩, some ⟨false, 1, List.map vi r⟩], .nil⟩
def nspeculumref09_Turns_l0_0 (k : Nat) (a0 : SSkyMount) (a1 : SSkyTarget) (r1309 : A23) : Nat -> (List Int) -> Int -> Option ((List Int))
 | 0, _, _ => none
 | fuel + 1, y3, x10 => if x10 <= 21 then ((nspeculumbase_Within k (w64 (r1309.e0 + (w64 (x10 * 1296000)))) a0.Least a0.Most).bind fun r1346 => (if r1346 = true then (if y3.length + ([x10] : List Int).length <= 1000000000 then (nspeculumref09_Turns_l0_0 k a0 a1 r1309 fuel (y3 ++ ([x10] : List Int)) (w64 (x10 + 1))) else none) else (nspeculumref09_Turns_l0_0 k a0 a1 r1309 fuel y3 (w64 (x10 + 1))))) else (some y3)
theorem nspeculumref09_Turns_l0_0_ok (k : Nat) (a0 : SSkyMount) (a1 : SSkyTarget) (r1309 : A23) : ∀ (fuel : Nat) (y3 : List Int) (x10 : Int) (r : (List Int)), nspeculumref09_Turns_l0_0 k a0 a1 r1309 fuel y3 x10 = some r -> (VLoop none Go.Proofs.Try.prog (szF Go.Proofs.Try.f59) (bodyOf Go.Proofs.Try.f59 0) (nspeculumref09_Turns_l0_0_h a0 a1 r1309 y3 x10) (.exit 0) (nspeculumref09_Turns_l0_0_e0 a0 a1 r1309 r)) := by
 intro fuel
 induction fuel with
 | zero => intro y3 x10 r h; rw [nspeculumref09_Turns_l0_0.eq_1] at h; cases h
 | succ fuel ih =>
  intro y3 x10 r h
  rw [nspeculumref09_Turns_l0_0.eq_2] at h
  rcases ifs h with ⟨h1344, h⟩ | ⟨h1344, h⟩
  ·have e1345 := (show (0:Int) <= 0 /\ (0:Int) < ((2 : Nat) : Int) from ⟨by decide, by decide⟩)
   obtain ⟨r1346, h1347, h⟩ := bs h
   have e1348 := (nspeculumbase_Within_ok k (w64 (r1309.e0 + (w64 (x10 * 1296000)))) a0.Least a0.Most _ h1347)
   have e1349 := (an e1345 (ti (ti (ti (ti (ti (ti (ti (ti (an e1348 trivial))))))))))
   rcases ifs h with ⟨h1350, h⟩ | ⟨h1350, h⟩
   ·obtain ⟨h1351, h⟩ := ifn h
    have e1352 := (show List.length (List.map vi y3) = y3.length * 1 /\ List.length [vi x10] = 1 * 1 /\ (y3.length + 1) * 8 <= 140737488355328 /\ y3.length + 1 < 1099511627776 /\ List.all [vi x10] VV.still = true from ⟨(by simp), (by rw [show [vi x10] = List.map vi ([x10] : List Int) from rfl]; simp), by simp at h1351 ⊢; omega, by simp at h1351 ⊢; omega, (by rw [show [vi x10] = List.map vi ([x10] : List Int) from rfl]; exact still_vi _)⟩)
    have h2 := ih _ _ _ h
    obtain ⟨q, hv, hq⟩ := pkR (rd := none) (P := Go.Proofs.Try.prog) (fn := Go.Proofs.Try.f59) (k := 0) (s := (nspeculumref09_Turns_l0_0_h a0 a1 r1309 y3 x10)) (ans := [.reg (.n :: .n :: []), .br true, .reg (nN 9 (.call (vb r1346) :: [])), .br true, .reg (nN 5 []), .reg (nN 3 [])]) (c := ⟨[(3, none), (8, none), (9, some (VV.rf 3 0 ((y3 ++ ([x10] : List Int)).length))), (10, none)], [none, none, none, some (List.map vi (y3 ++ ([x10] : List Int)))], []⟩) (e := .normal) (s1 := (nspeculumref09_Turns_l0_0_h a0 a1 r1309 (y3 ++ ([x10] : List Int)) (w64 (x10 + 1)))) (an (an (an (ti (ti trivial)) (an (decide_eq_true h1344) trivial)) (an (an e1349 (an h1350 (ti (ti (ti (an e1352 (ti trivial))))))) (ti (ti (ti trivial))))) (an (an (show Wv (VV.rf 3 0 (y3.length + 1)) (VV.rf 3 0 ((y3 ++ ([x10] : List Int)).length)) from (Wv.of_eq (by simp))) trivial) (an (show (List.map vi y3) ++ [vi x10] = List.map vi (y3 ++ ([x10] : List Int)) from (by rw [show [vi x10] = List.map vi ([x10] : List Int) from rfl]; exact List.map_append.symm)) trivial))) (by kernel_rfl)
    exact round_next pm pn hv hq h2
   ·have h2 := ih _ _ _ h
    obtain ⟨q, hv, hq⟩ := pkR (rd := none) (P := Go.Proofs.Try.prog) (fn := Go.Proofs.Try.f59) (k := 0) (s := (nspeculumref09_Turns_l0_0_h a0 a1 r1309 y3 x10)) (ans := [.reg (.n :: .n :: []), .br true, .reg (nN 9 (.call (vb r1346) :: [])), .br false, .reg (nN 3 [])]) (c := ⟨[(3, none), (8, none), (9, none), (10, none)], [none, none, none, none], []⟩) (e := .normal) (s1 := (nspeculumref09_Turns_l0_0_h a0 a1 r1309 y3 (w64 (x10 + 1)))) (an (an (an (ti (ti trivial)) (an (decide_eq_true h1344) trivial)) (an (an e1349 (an (bool_f h1350) trivial)) (ti (ti (ti trivial))))) (ti trivial)) (by kernel_rfl)
    exact round_next pm pn hv hq h2
  ·injection h with h; subst h
   exact round_stop (c := ⟨[(9, none)], [none, none, none, none], []⟩) (s1 := (nspeculumref09_Turns_l0_0_e0 a0 a1 r1309 y3)) pm pn (ans := [.reg (.n :: .n :: []), .br false]) (by kernel_rfl) (by intro e; cases e) (an (an (ti (ti trivial)) (an (decide_eq_false h1344) trivial)) (ti trivial))
theorem eqB2_19 (z0 : (List Int)) : VV.tu [VV.fw 1 (List.drop 0 (List.map unfr (List.map vi z0))) z0.length, vi 0] = VV.tu [VV.fw 1 (List.map vi z0) z0.length, vi 0] := by first | rfl | simp only [drop0, unfr_vi, List.map_cons, List.map_nil, un_i, List.length_map, List.length_cons, List.length_nil]
def nspeculumref09_Turns (k : Nat) (a0 : SSkyMount) (a1 : SSkyTarget) (a2 : Int) : Option ((List Int) × Int) :=
 (nspeculumref09_Apparent k a0 a1 a2).bind fun r1309 => ((nspeculumbase_Within k r1309.e1 a0.Low a0.High).bind fun r1313 => (if r1313 = true then ((nspeculumref09_Turns_l0_0 k a0 a1 r1309 k ([] : List Int) (-21)).bind fun r1354 => (if ((r1354.length : Nat) : Int) = 0 then (some ([], 12)) else (some (r1354, 0)))) else (some ([], 26))))
theorem nspeculumref09_Turns_ok (k : Nat) (a0 : SSkyMount) (a1 : SSkyTarget) (a2 : Int) (r : ((List Int) × Int)) (h : nspeculumref09_Turns k a0 a1 a2 = some r) : VC Go.Proofs.Try.prog 59 [VV.ag (c_SSkyMount a0), VV.ag (c_SSkyTarget a1), vi a2] (VV.tu [VV.fw 1 (List.map vi r.1) r.1.length, vi r.2]) := by
 unfold nspeculumref09_Turns at h
 obtain ⟨r1309, h1310, h⟩ := bs h
 have e1311 := (nspeculumref09_Apparent_ok k a0 a1 a2 _ h1310)
 have e1312 := (show (0:Int) <= 1 /\ (1:Int) < ((2 : Nat) : Int) from ⟨by decide, by decide⟩)
 obtain ⟨r1313, h1314, h⟩ := bs h
 have e1315 := (nspeculumbase_Within_ok k r1309.e1 a0.Low a0.High _ h1314)
 have e1316 := (an e1312 (ti (ti (ti (ti (ti (an e1315 (ti trivial))))))))
 rcases ifs h with ⟨h1317, h⟩ | ⟨h1317, h⟩
 ·obtain ⟨r1354, h1353, h⟩ := bs h
  have hph1353 := nspeculumref09_Turns_l0_0_ok k a0 a1 r1309 _ _ _ _ h1353
  have e1355 := (an (ti trivial) (VRun.loop hph1353))
  rcases ifs h with ⟨h1356, h⟩ | ⟨h1356, h⟩
  ·injection h with h; subst h
   exact fun_ok pm pn Go.Proofs.Try.func59 (r0 := VV.tu [VV.c (.slice none 0 0), vi 12]) (ans := [.reg (nN 4 []), .reg (nN 3 (.call (VV.ag (c_A23 r1309)) :: .n :: .n :: [])), .reg (nN 6 (.call (vb r1313) :: .n :: [])), .br false, .reg (.n :: []), .reg (.n :: []), .sub ⟨[(3, none), (8, none), (9, none), (10, none)], [none, none, none], [.t 9 1]⟩ (.exit 0) (nspeculumref09_Turns_l0_0_e0 a0 a1 r1309 r1354), .reg (nN 3 []), .br true, .reg (.n :: .n :: [])]) (fr := true) (by kernel_rfl) (an (an (ti (ti (ti (ti trivial)))) (an (ti (ti (ti (an e1311 (ti (ti trivial)))))) (an (an e1316 (an (not_f h1317) trivial)) (an (ti trivial) (an (an (ti trivial) e1355) (an (ti (ti (ti trivial))) (an (decide_eq_true h1356) (an (ti (ti trivial)) trivial)))))))) (ti (ti trivial))) (Wv.tuL (.cons Wv.nilFw (.cons (Wv.refl _) .nil)))
  ·injection h with h; subst h
   exact fun_ok pm pn Go.Proofs.Try.func59 (r0 := VV.tu [VV.fw 1 (List.drop 0 (List.map unfr (List.map vi r1354))) r1354.length, vi 0]) (ans := [.reg (nN 4 []), .reg (nN 3 (.call (VV.ag (c_A23 r1309)) :: .n :: .n :: [])), .reg (nN 6 (.call (vb r1313) :: .n :: [])), .br false, .reg (.n :: []), .reg (.n :: []), .sub ⟨[(3, none), (8, none), (9, none), (10, none)], [none, none, none], [.t 9 1]⟩ (.exit 0) (nspeculumref09_Turns_l0_0_e0 a0 a1 r1309 r1354), .reg (nN 3 []), .br false, .reg (nN 3 [])]) (fr := true) (by kernel_rfl) (an (an (ti (ti (ti (ti trivial)))) (an (ti (ti (ti (an e1311 (ti (ti trivial)))))) (an (an e1316 (an (not_f h1317) trivial)) (an (ti trivial) (an (an (ti trivial) e1355) (an (an (ti (ti (ti trivial))) (an (decide_eq_false h1356) trivial)) (an (ti (ti (ti trivial))) trivial))))))) (an (show List.all (List.map vi r1354) new0 = true from (by exact new0_vi _)) (ti trivial))) (Wv.of_eq (eqB2_19 r1354))
 ·injection h with h; subst h
  exact fun_ok pm pn Go.Proofs.Try.func59 (r0 := VV.tu [VV.c (.slice none 0 0), vi 26]) (ans := [.reg (nN 4 []), .reg (nN 3 (.call (VV.ag (c_A23 r1309)) :: .n :: .n :: [])), .reg (nN 6 (.call (vb r1313) :: .n :: [])), .br true, .reg (.n :: .n :: [])]) (fr := true) (by kernel_rfl) (an (an (ti (ti (ti (ti trivial)))) (an (ti (ti (ti (an e1311 (ti (ti trivial)))))) (an e1316 (an (not_t (bool_f h1317)) (an (ti (ti trivial)) trivial))))) (ti (ti trivial))) (Wv.tuL (.cons Wv.nilFw (.cons (Wv.refl _) .nil)))
def nspeculumref09_IsDay (k : Nat) (a0 : Int) : Option Bool :=
 (nspeculumbase_Within k a0 0 100000).bind fun r1360 => (some r1360)
theorem nspeculumref09_IsDay_ok (k : Nat) (a0 : Int) (r : Bool) (h : nspeculumref09_IsDay k a0 = some r) : VC Go.Proofs.Try.prog 58 [vi a0] (vb r) := by
 unfold nspeculumref09_IsDay at h
 obtain ⟨r1360, h1361, h⟩ := bs h
 have e1362 := (nspeculumbase_Within_ok k a0 0 100000 _ h1361)
 injection h with h; subst h
 exact fun_ok pm pn Go.Proofs.Try.func58 (r0 := vb r1360) (ans := [.reg (.n :: []), .reg (.n :: .call (vb r1360) :: .n :: [])]) (fr := true) (by kernel_rfl) (an (an (ti trivial) (an (ti (an e1362 (ti trivial))) trivial)) (ti trivial)) (Wv.refl _)
end Go.Proofs.Ytlhnkehohknhbaa.Vg

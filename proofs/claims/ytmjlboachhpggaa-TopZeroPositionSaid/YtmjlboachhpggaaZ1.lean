/- Written by a program out of the program: what Go functions do, as plain functions, and their contracts. -/
import Derived.Test.YtmjlboachhpggaaWa
namespace Go.Proofs.Ytmjlboachhpggaa.Vg
set_option maxRecDepth 100000
set_option maxHeartbeats 4000000
set_option linter.unusedVariables false
set_option linter.unusedSimpArgs false
open Go Go.Proofs.Ytmjlboachhpggaa.Ev Go.Proofs.Ytmjlboachhpggaa.Vv
def v_22 (x : List Int) : VV := VV.tr (List.map vi x) x.length
def f_22 (x : List Int) : VV := VV.fr (List.map vi x) x.length
theorem still_v_22 (xs : List (List Int)) : (xs.map v_22).all VV.still = true := all_map (fun _ => rfl) xs
theorem unfr_v_22 (xs : List (List Int)) : (xs.map v_22).map unfr = xs.map v_22 := unfr_map (fun _ => rfl) xs
theorem still_f_22 (xs : List (List Int)) : (xs.map f_22).all VV.still = true := all_map (fun _ => rfl) xs
theorem unfr_f_22 (xs : List (List Int)) : (xs.map f_22).map unfr = xs.map v_22 := unfr_map (fun _ => rfl) xs
theorem new0_f_22 (xs : List (List Int)) : (xs.map f_22).all new0 = true := all_map (fun _ => rfl) xs
structure SMade where
  Mirror : (List Int)
  Instrument : (List Int)
  Turns : Int
  deriving Inhabited
def c_SMade (x : SMade) : List VV := [VV.tr (List.map vi x.Mirror) x.Mirror.length, VV.tr (List.map vi x.Instrument) x.Instrument.length, vi x.Turns]
theorem len_c_SMade (x : SMade) : (c_SMade x).length = 3 := rfl
def g_SMade (x : SMade) : List VV := [VV.fr (List.map vi x.Mirror) x.Mirror.length, VV.fr (List.map vi x.Instrument) x.Instrument.length, vi x.Turns]
theorem len_g_SMade (x : SMade) : (g_SMade x).length = 3 := rfl
theorem still_c_SMade (xs : List SMade) : (xs.flatMap c_SMade).all VV.still = true := all_flat (fun _ => rfl) xs
theorem still_g_SMade (xs : List SMade) : (xs.flatMap g_SMade).all VV.still = true := all_flat (fun _ => rfl) xs
theorem unfr_c_SMade (xs : List SMade) : (xs.flatMap c_SMade).map unfr = xs.flatMap c_SMade := unfr_flat2 (fun _ => rfl) xs
theorem unfr_g_SMade (xs : List SMade) : (xs.flatMap g_SMade).map unfr = xs.flatMap c_SMade := unfr_flat2 (fun _ => rfl) xs
theorem new0_g_SMade (xs : List SMade) : (xs.flatMap g_SMade).all new0 = true := all_flat (fun _ => rfl) xs
structure STurnedMaps where
  Sectors : Int
  Values : (List (List Int))
  deriving Inhabited
def c_STurnedMaps (x : STurnedMaps) : List VV := [vi x.Sectors, VV.tr (List.map v_22 x.Values) x.Values.length]
theorem len_c_STurnedMaps (x : STurnedMaps) : (c_STurnedMaps x).length = 2 := rfl
def g_STurnedMaps (x : STurnedMaps) : List VV := [vi x.Sectors, VV.fr (List.map v_22 x.Values) x.Values.length]
theorem len_g_STurnedMaps (x : STurnedMaps) : (g_STurnedMaps x).length = 2 := rfl
theorem still_c_STurnedMaps (xs : List STurnedMaps) : (xs.flatMap c_STurnedMaps).all VV.still = true := all_flat (fun _ => rfl) xs
theorem still_g_STurnedMaps (xs : List STurnedMaps) : (xs.flatMap g_STurnedMaps).all VV.still = true := all_flat (fun _ => rfl) xs
theorem unfr_c_STurnedMaps (xs : List STurnedMaps) : (xs.flatMap c_STurnedMaps).map unfr = xs.flatMap c_STurnedMaps := unfr_flat2 (fun _ => rfl) xs
theorem unfr_g_STurnedMaps (xs : List STurnedMaps) : (xs.flatMap g_STurnedMaps).map unfr = xs.flatMap c_STurnedMaps := unfr_flat2 (fun _ => rfl) xs
theorem new0_g_STurnedMaps (xs : List STurnedMaps) : (xs.flatMap g_STurnedMaps).all new0 = true := all_flat (fun _ => rfl) xs
structure SFrac where
  Num : Int
  Den : Int
  deriving Inhabited
def c_SFrac (x : SFrac) : List VV := [vi x.Num, vi x.Den]
theorem len_c_SFrac (x : SFrac) : (c_SFrac x).length = 2 := rfl
theorem still_c_SFrac (xs : List SFrac) : (xs.flatMap c_SFrac).all VV.still = true := all_flat (fun _ => rfl) xs
theorem isC_c_SFrac (xs : List SFrac) : (xs.flatMap c_SFrac).all VV.isC = true := all_flat (fun _ => rfl) xs
theorem new0_c_SFrac (xs : List SFrac) : (xs.flatMap c_SFrac).all new0 = true := all_flat (fun _ => rfl) xs
theorem unfr_c_SFrac (xs : List SFrac) : (xs.flatMap c_SFrac).map unfr = xs.flatMap c_SFrac := unfr_flat (fun _ => rfl) xs
theorem ag3 : isAggT Go.Proofs.Try.prog 3 = some false := by kernel_rfl
theorem ag22 : isAggT Go.Proofs.Try.prog 22 = some false := by kernel_rfl
theorem ag38 : isAggT Go.Proofs.Try.prog 38 = some true := by kernel_rfl
theorem sz38 : szOf Go.Proofs.Try.prog 38 = some 2 := by kernel_rfl
theorem eqok38 : EqOK Go.Proofs.Try.prog 38 [some (.i .i64), some (.i .i64)] := eqOK_of (by kernel_rfl) (by kernel_rfl) (eqT_struct Go.Proofs.Try.underlying38 (by kernel_rfl) (by kernel_rfl) (by kernel_rfl) (.cons (by decide +kernel) rfl (eqT_int Go.Proofs.Try.underlying3 (by kernel_rfl) (by kernel_rfl)) (.cons (by decide +kernel) rfl (eqT_int Go.Proofs.Try.underlying3 (by kernel_rfl) (by kernel_rfl)) .nil)))
def nspeculumbase_Within (k : Nat) (a0 : Int) (a1 : Int) (a2 : Int) : Option Bool :=
  if a1 ≤ a0 then (some (decide (a0 ≤ a2))) else (some false)
theorem nspeculumbase_Within_ok (k : Nat) (a0 : Int) (a1 : Int) (a2 : Int) (r : Bool) (h : nspeculumbase_Within k a0 a1 a2 = some r) : VC Go.Proofs.Try.prog 6 [vi a0, vi a1, vi a2] (vb r) := by
 unfold nspeculumbase_Within at h
 rcases ifs h with ⟨h104, h⟩ | ⟨h104, h⟩
 ·have e105 := (ti (ti (ti (ti (an (an (decide_eq_true h104) trivial) (an (an (decide_eq_true h104) trivial) (an (an (decide_eq_true h104) trivial) (an (decide_eq_true h104) (ti trivial)))))))))
  injection h with h; subst h
  exact fun_ok pm pn Go.Proofs.Try.func6 (r0 := vb (decide (a0 ≤ a2))) (ans := [.reg (.n :: []), .reg (nN 7 (.b true :: .n :: []))]) (fr := true) (by kernel_rfl) (an (an (ti trivial) (an e105 trivial)) (ti trivial)) (Wv.refl _)
 ·have e106 := (ti (ti (ti (ti (an (decide_eq_false h104) (an (decide_eq_false h104) (an (decide_eq_false h104) (an (decide_eq_false h104) (ti trivial)))))))))
  injection h with h; subst h
  exact fun_ok pm pn Go.Proofs.Try.func6 (r0 := vb false) (ans := [.reg (.n :: []), .reg (nN 4 (nS 3 (.b false :: .n :: [])))]) (fr := true) (by kernel_rfl) (an (an (ti trivial) (an e106 trivial)) (ti trivial)) (Wv.refl _)
def nspeculumbase_Mod (k : Nat) (a0 : Int) (a1 : Int) : Option Int :=
  if a1 ≠ 0 then (if (a0.tmod a1) < 0 then (some (w64 ((a0.tmod a1) + a1))) else (some (a0.tmod a1))) else none
theorem nspeculumbase_Mod_ok (k : Nat) (a0 : Int) (a1 : Int) (r : Int) (h : nspeculumbase_Mod k a0 a1 = some r) : VC Go.Proofs.Try.prog 10 [vi a0, vi a1] (vi r) := by
 unfold nspeculumbase_Mod at h
 obtain ⟨h140, h⟩ := ifn h
 rcases ifs h with ⟨h141, h⟩ | ⟨h141, h⟩
 ·injection h with h; subst h
  exact fun_ok pm pn Go.Proofs.Try.func10 (r0 := vi (w64 ((a0.tmod a1) + a1))) (ans := [.reg (.n :: []), .reg (nN 4 []), .reg (.n :: .n :: []), .br true, .reg (nN 4 [])]) (fr := true) (by kernel_rfl) (an (an (ti trivial) (an (ti (ti (an h140 (ti trivial)))) (an (ti (ti trivial)) (an (decide_eq_true h141) (an (ti (ti (ti (ti trivial)))) trivial))))) (ti trivial)) (Wv.refl _)
 ·injection h with h; subst h
  exact fun_ok pm pn Go.Proofs.Try.func10 (r0 := vi (a0.tmod a1)) (ans := [.reg (.n :: []), .reg (nN 4 []), .reg (.n :: .n :: []), .br false, .reg (.n :: .n :: [])]) (fr := true) (by kernel_rfl) (an (an (ti trivial) (an (ti (ti (an h140 (ti trivial)))) (an (an (ti (ti trivial)) (an (decide_eq_false h141) trivial)) (an (ti (ti trivial)) trivial)))) (ti trivial)) (Wv.refl _)
def arZ1_0 (z0 : SMade) (z1 : Int) (z2 : Bool) (z3 : Bool) : List Ans := (nN 4 (.v (vi (z0.Mirror.getD z1.toNat 0)) :: .call (vb z2) :: nN 6 (.v (vi (z0.Instrument.getD z1.toNat 0)) :: .call (vb z3) :: .n :: .b false :: [])))
def arZ1_1 (z0 : Int) (z1 : SMade) (z2 : Int) : List Ans := (nN 12 (.call (vi z0) :: .n :: .v (vi (z1.Mirror.getD z0.toNat 0)) :: nN 4 (.v (vi (z1.Instrument.getD z2.toNat 0)) :: .n :: .v VV.any :: .n :: .n :: [])))
def arZ1_2 (z0 : SMade) (z1 : Int) (z2 : Bool) : List Ans := (nN 4 (.v (vi (z0.Mirror.getD z1.toNat 0)) :: .call (vb z2) :: .n :: .n :: nS 7 (.b true :: [])))
theorem eqZ1_0 (z0 : (List Int)) : List.drop 0 (List.map unfr (List.map vi z0)) = List.map vi z0 := by first | rfl | (simp only [drop0, unfr_vi, List.map_cons, List.map_nil, un_i]; done) | (simp only [drop0, unfr_vi, List.map_cons, List.map_nil, un_i]; rfl) | (simp only [drop0, unfr_vi, List.map_cons, List.map_nil, un_i, List.length_cons, List.length_nil, List.length_append]; done)
def n_speculumlaw05_Made_Maps_l1_0_h (a0 : SMade) (y3 : List (List Int)) (x6 : Int) (y4 : List Int) (x8 : Int) : VS := ⟨mkA [(1, VV.pt 0 0), (2, VV.pt 1 0), (4, vi (a0.Mirror.length : Int)), (5, VV.pt 2 0), (6, vi x6), (7, VV.rf 4 0 y4.length), (8, vi x8)], [some ⟨true, 1, c_SMade a0⟩, some ⟨true, 1, [vi 0, VV.c (.slice none 0 0)]⟩, some ⟨true, 1, [vi (a0.Mirror.length : Int), VV.rf 3 0 y3.length]⟩, some ⟨false, 1, List.map v_22 y3⟩, some ⟨false, 1, List.map vi y4⟩], .nil⟩
def n_speculumlaw05_Made_Maps_l1_0_e0 (a0 : SMade) (y3 : List (List Int)) (x6 : Int) (r : Unit) : VS := ⟨mkA [(2, VV.pt 1 0), (3, vb false)], [some ⟨true, 1, c_SMade a0⟩, some ⟨true, 1, [vi 0, VV.c (.slice none 0 0)]⟩], .nil⟩
def n_speculumlaw05_Made_Maps_l1_0_e1 (a0 : SMade) (y3 : List (List Int)) (x6 : Int) (r : (List Int)) : VS := ⟨mkA [(1, VV.pt 0 0), (2, VV.pt 1 0), (4, vi (a0.Mirror.length : Int)), (5, VV.pt 2 0), (6, vi x6), (7, VV.rf 4 0 r.length)], [some ⟨true, 1, c_SMade a0⟩, some ⟨true, 1, [vi 0, VV.c (.slice none 0 0)]⟩, some ⟨true, 1, [vi (a0.Mirror.length : Int), VV.rf 3 0 y3.length]⟩, some ⟨false, 1, List.map v_22 y3⟩, some ⟨false, 1, List.map vi r⟩], .nil⟩
def n_speculumlaw05_Made_Maps_l1_0 (k : Nat) (a0 : SMade) (y3 : List (List Int)) (x6 : Int) : Nat → (List Int) → Int → Option (Sum Unit (List Int))
  | 0, _, _ => none
  | fuel + 1, y4, x8 => if x8 < (a0.Mirror.length : Int) then (if 0 ≤ x8 ∧ x8 < (a0.Mirror.length : Int) then ((nspeculumbase_Within k (a0.Mirror.getD x8.toNat 0) (-50000) 50000).bind fun r992 => (if r992 = true then (if 0 ≤ x8 ∧ x8 < (a0.Instrument.length : Int) then ((nspeculumbase_Within k (a0.Instrument.getD x8.toNat 0) (-50000) 50000).bind fun r998 => (if r998 = true then (if a0.Turns ≠ 0 then ((nspeculumbase_Mod k (w64 (x8 - (w64 (x6 * (w64 ((a0.Mirror.length : Int).tdiv a0.Turns)))))) (a0.Mirror.length : Int)).bind fun r1004 => (if 0 ≤ r1004 ∧ r1004 < (a0.Mirror.length : Int) then (if y4.length + ([w64 ((a0.Mirror.getD r1004.toNat 0) + (a0.Instrument.getD x8.toNat 0))] : List Int).length ≤ 1000000000 then (n_speculumlaw05_Made_Maps_l1_0 k a0 y3 x6 fuel (y4 ++ ([w64 ((a0.Mirror.getD r1004.toNat 0) + (a0.Instrument.getD x8.toNat 0))] : List Int)) (w64 (x8 + 1))) else none) else none)) else none) else (some (.inl ())))) else none) else (some (.inl ())))) else none) else (some (.inr y4))
theorem n_speculumlaw05_Made_Maps_l1_0_ok (k : Nat) (a0 : SMade) (y3 : List (List Int)) (x6 : Int) : ∀ (fuel : Nat) (y4 : List Int) (x8 : Int) (r : Sum Unit (List Int)), n_speculumlaw05_Made_Maps_l1_0 k a0 y3 x6 fuel y4 x8 = some r → (match r with | .inl r => VLoop none Go.Proofs.Try.prog (szF Go.Proofs.Try.f5) (bodyOf Go.Proofs.Try.f5 1) (n_speculumlaw05_Made_Maps_l1_0_h a0 y3 x6 y4 x8) .ret (n_speculumlaw05_Made_Maps_l1_0_e0 a0 y3 x6 r) | .inr r => VLoop none Go.Proofs.Try.prog (szF Go.Proofs.Try.f5) (bodyOf Go.Proofs.Try.f5 1) (n_speculumlaw05_Made_Maps_l1_0_h a0 y3 x6 y4 x8) (.exit 2) (n_speculumlaw05_Made_Maps_l1_0_e1 a0 y3 x6 r)) := by
 intro fuel
 induction fuel with
 | zero => intro y4 x8 r h; rw [n_speculumlaw05_Made_Maps_l1_0.eq_1] at h; cases h
 | succ fuel ih =>
  intro y4 x8 r h
  rw [n_speculumlaw05_Made_Maps_l1_0.eq_2] at h
  rcases ifs h with ⟨h989, h⟩ | ⟨h989, h⟩
  ·obtain ⟨h990, h⟩ := ifn h
   have e991 := (show loadL Go.Proofs.Try.prog 3 (x8.toNat * 1) (List.map vi a0.Mirror) = some (vi (a0.Mirror.getD x8.toNat 0)) from ld_map ag3 vi a0.Mirror 0 h990 (by omega))
   obtain ⟨r992, h993, h⟩ := bs h
   have e994 := (nspeculumbase_Within_ok k (a0.Mirror.getD x8.toNat 0) (-50000) 50000 _ h993)
   rcases ifs h with ⟨h995, h⟩ | ⟨h995, h⟩
   ·obtain ⟨h996, h⟩ := ifn h
    have e997 := (an (not_f h995) (show loadL Go.Proofs.Try.prog 3 (x8.toNat * 1) (List.map vi a0.Instrument) = some (vi (a0.Instrument.getD x8.toNat 0)) from ld_map ag3 vi a0.Instrument 0 h996 (by omega)))
    obtain ⟨r998, h999, h⟩ := bs h
    have e1000 := (an (not_f h995) (nspeculumbase_Within_ok k (a0.Instrument.getD x8.toNat 0) (-50000) 50000 _ h999))
    have e1001 := (ti (ti (ti (an h990 (an e991 (an e994 (ti (ti (an (an (not_f h995) trivial) (an (an (not_f h995) trivial) (an (an (not_f h995) trivial) (an (an (not_f h995) h996) (an e997 (an e1000 (an (an (not_f h995) trivial) (an (not_f h995) trivial))))))))))))))))
    rcases ifs h with ⟨h1002, h⟩ | ⟨h1002, h⟩
    ·obtain ⟨h1003, h⟩ := ifn h
     obtain ⟨r1004, h1005, h⟩ := bs h
     have e1006 := (nspeculumbase_Mod_ok k (w64 (x8 - (w64 (x6 * (w64 ((a0.Mirror.length : Int).tdiv a0.Turns)))))) (a0.Mirror.length : Int) _ h1005)
     obtain ⟨h1007, h⟩ := ifn h
     have e1008 := (show loadL Go.Proofs.Try.prog 3 (r1004.toNat * 1) (List.map vi a0.Mirror) = some (vi (a0.Mirror.getD r1004.toNat 0)) from ld_map ag3 vi a0.Mirror 0 h1007 (by omega))
     have e1009 := (show loadL Go.Proofs.Try.prog 3 (x8.toNat * 1) (List.map vi a0.Instrument) = some (vi (a0.Instrument.getD x8.toNat 0)) from ld_map ag3 vi a0.Instrument 0 h996 (by omega))
     obtain ⟨h1010, h⟩ := ifn h
     have e1011 := (show List.length (List.map vi y4) = y4.length * 1 ∧ List.length [vi (w64 ((a0.Mirror.getD r1004.toNat 0) + (a0.Instrument.getD x8.toNat 0)))] = 1 * 1 ∧ (y4.length + 1) * 8 ≤ 140737488355328 ∧ y4.length + 1 < 1099511627776 ∧ List.all [vi (w64 ((a0.Mirror.getD r1004.toNat 0) + (a0.Instrument.getD x8.toNat 0)))] VV.still = true from ⟨(by simp), (by rw [show [vi (w64 ((a0.Mirror.getD r1004.toNat 0) + (a0.Instrument.getD x8.toNat 0)))] = List.map vi ([w64 ((a0.Mirror.getD r1004.toNat 0) + (a0.Instrument.getD x8.toNat 0))] : List Int) from rfl]; simp), (by first | omega | (simp at h1010 ⊢; omega)), (by first | omega | (simp at h1010 ⊢; omega)), (by rw [show [vi (w64 ((a0.Mirror.getD r1004.toNat 0) + (a0.Instrument.getD x8.toNat 0)))] = List.map vi ([w64 ((a0.Mirror.getD r1004.toNat 0) + (a0.Instrument.getD x8.toNat 0))] : List Int) from rfl]; exact still_vi _)⟩)
     have e1012 := (ti (ti (ti (ti (ti (ti (ti (ti (an h1003 (ti (ti (ti (an e1006 (an h1007 (an e1008 (ti (ti (ti (an h996 (an e1009 (ti (ti (an e1011 (ti trivial))))))))))))))))))))))))
     have h2 := ih _ _ _ h
     obtain ⟨q, hv, hq⟩ := pkR (rd := none) (P := Go.Proofs.Try.prog) (fn := Go.Proofs.Try.f5) (k := 1) (s := (n_speculumlaw05_Made_Maps_l1_0_h a0 y3 x6 y4 x8)) (ans := [.reg (nN 3 []), .br true, .reg (arZ1_0 a0 x8 r992 r998), .br false, .reg (arZ1_1 r1004 a0 x8), .reg (nN 3 [])]) (c := ⟨[(1, none), (2, none), (4, none), (5, none), (6, none), (7, some (VV.rf 4 0 ((y4 ++ ([w64 ((a0.Mirror.getD r1004.toNat 0) + (a0.Instrument.getD x8.toNat 0))] : List Int)).length))), (8, none)], [none, none, none, none, some (List.map vi (y4 ++ ([w64 ((a0.Mirror.getD r1004.toNat 0) + (a0.Instrument.getD x8.toNat 0))] : List Int)))], []⟩) (e := .normal) (s1 := (n_speculumlaw05_Made_Maps_l1_0_h a0 y3 x6 (y4 ++ ([w64 ((a0.Mirror.getD r1004.toNat 0) + (a0.Instrument.getD x8.toNat 0))] : List Int)) (w64 (x8 + 1)))) (an (an (an (ti (ti (ti trivial))) (an (decide_eq_true h989) trivial)) (an (an (an e1001 (an (not_f h1002) trivial)) e1012) (ti (ti (ti trivial))))) (an (an (show Wv (VV.rf 4 0 (y4.length + 1)) (VV.rf 4 0 ((y4 ++ ([w64 ((a0.Mirror.getD r1004.toNat 0) + (a0.Instrument.getD x8.toNat 0))] : List Int)).length)) from (Wv.of_eq (by simp))) trivial) (an (show (List.map vi y4) ++ [vi (w64 ((a0.Mirror.getD r1004.toNat 0) + (a0.Instrument.getD x8.toNat 0)))] = List.map vi (y4 ++ ([w64 ((a0.Mirror.getD r1004.toNat 0) + (a0.Instrument.getD x8.toNat 0))] : List Int)) from (by rw [show [vi (w64 ((a0.Mirror.getD r1004.toNat 0) + (a0.Instrument.getD x8.toNat 0)))] = List.map vi ([w64 ((a0.Mirror.getD r1004.toNat 0) + (a0.Instrument.getD x8.toNat 0))] : List Int) from rfl]; exact List.map_append.symm)) trivial))) (by kernel_rfl)
     cases r with
     | inl r => exact round_next pm pn hv hq h2
     | inr r =>
      exact round_next pm pn hv hq h2
    ·injection h with h; subst h
     exact round_stop (c := ⟨[(2, none), (3, none)], [none, none], []⟩) (s1 := (n_speculumlaw05_Made_Maps_l1_0_e0 a0 y3 x6 ())) pm pn (ans := [.reg (nN 3 []), .br true, .reg (arZ1_0 a0 x8 r992 r998), .br true, .reg (nN 3 [])]) (by kernel_rfl) (by intro e; cases e) (an (an (an (ti (ti (ti trivial))) (an (decide_eq_true h989) trivial)) (an e1001 (an (not_t (bool_f h1002)) (an (ti (ti (ti trivial))) trivial)))) (ti trivial))
   ·have e1013 := (ti (ti (ti (an h990 (an e991 (an e994 (ti (ti (an (not_t (bool_f h995)) (an (not_t (bool_f h995)) (an (not_t (bool_f h995)) (an (not_t (bool_f h995)) (an (not_t (bool_f h995)) (an (not_t (bool_f h995)) (an (not_t (bool_f h995)) (an (not_t (bool_f h995)) trivial))))))))))))))))
    injection h with h; subst h
    exact round_stop (c := ⟨[(2, none), (3, none)], [none, none], []⟩) (s1 := (n_speculumlaw05_Made_Maps_l1_0_e0 a0 y3 x6 ())) pm pn (ans := [.reg (nN 3 []), .br true, .reg (arZ1_2 a0 x8 r992), .br true, .reg (nN 3 [])]) (by kernel_rfl) (by intro e; cases e) (an (an (an (ti (ti (ti trivial))) (an (decide_eq_true h989) trivial)) (an e1013 (an rt (an (ti (ti (ti trivial))) trivial)))) (ti trivial))
  ·injection h with h; subst h
   exact round_stop (c := ⟨[(1, none), (2, none), (4, none), (5, none), (6, none), (7, none)], [none, none, none, none, none], []⟩) (s1 := (n_speculumlaw05_Made_Maps_l1_0_e1 a0 y3 x6 y4)) pm pn (ans := [.reg (nN 3 []), .br false]) (by kernel_rfl) (by intro e; cases e) (an (an (ti (ti (ti trivial))) (an (decide_eq_false h989) trivial)) (ti trivial))
def n_speculumlaw05_Made_Maps_l0_0_h (a0 : SMade) (y3 : List (List Int)) (x6 : Int) : VS := ⟨mkA [(1, VV.pt 0 0), (2, VV.pt 1 0), (4, vi (a0.Mirror.length : Int)), (5, VV.pt 2 0), (6, vi x6)], [some ⟨true, 1, c_SMade a0⟩, some ⟨true, 1, [vi 0, VV.c (.slice none 0 0)]⟩, some ⟨true, 1, [vi (a0.Mirror.length : Int), VV.rf 3 0 y3.length]⟩, some ⟨false, 1, List.map v_22 y3⟩], .nil⟩
def n_speculumlaw05_Made_Maps_l0_0_e0 (a0 : SMade) (r : Unit) : VS := ⟨mkA [(2, VV.pt 1 0), (3, vb false)], [some ⟨true, 1, c_SMade a0⟩, some ⟨true, 1, [vi 0, VV.c (.slice none 0 0)]⟩], .nil⟩
def n_speculumlaw05_Made_Maps_l0_0_e1 (a0 : SMade) (r : (List (List Int))) : VS := ⟨mkA [(2, VV.pt 1 0), (5, VV.pt 2 0)], [some ⟨true, 1, c_SMade a0⟩, some ⟨true, 1, [vi 0, VV.c (.slice none 0 0)]⟩, some ⟨true, 1, [vi (a0.Mirror.length : Int), VV.rf 3 0 r.length]⟩, some ⟨false, 1, List.map v_22 r⟩], .nil⟩
def n_speculumlaw05_Made_Maps_l0_0 (k : Nat) (a0 : SMade) : Nat → (List (List Int)) → Int → Option (Sum Unit (List (List Int)))
  | 0, _, _ => none
  | fuel + 1, y3, x6 => if x6 < a0.Turns then ((n_speculumlaw05_Made_Maps_l1_0 k a0 y3 x6 k ([] : List Int) 0).bind fun r1015 => (match r1015 with | .inl r1016 => (some (.inl ())) | .inr r1017 => (if y3.length + ([r1017] : List (List Int)).length ≤ 1000000000 then (n_speculumlaw05_Made_Maps_l0_0 k a0 fuel (y3 ++ ([r1017] : List (List Int))) (w64 (x6 + 1))) else none))) else (some (.inr y3))
theorem n_speculumlaw05_Made_Maps_l0_0_ok (k : Nat) (a0 : SMade) : ∀ (fuel : Nat) (y3 : List (List Int)) (x6 : Int) (r : Sum Unit (List (List Int))), n_speculumlaw05_Made_Maps_l0_0 k a0 fuel y3 x6 = some r → (match r with | .inl r => VLoop none Go.Proofs.Try.prog (szF Go.Proofs.Try.f5) (bodyOf Go.Proofs.Try.f5 0) (n_speculumlaw05_Made_Maps_l0_0_h a0 y3 x6) .ret (n_speculumlaw05_Made_Maps_l0_0_e0 a0 r) | .inr r => VLoop none Go.Proofs.Try.prog (szF Go.Proofs.Try.f5) (bodyOf Go.Proofs.Try.f5 0) (n_speculumlaw05_Made_Maps_l0_0_h a0 y3 x6) (.exit 0) (n_speculumlaw05_Made_Maps_l0_0_e1 a0 r)) := by
 intro fuel
 induction fuel with
 | zero => intro y3 x6 r h; rw [n_speculumlaw05_Made_Maps_l0_0.eq_1] at h; cases h
 | succ fuel ih =>
  intro y3 x6 r h
  rw [n_speculumlaw05_Made_Maps_l0_0.eq_2] at h
  rcases ifs h with ⟨h913, h⟩ | ⟨h913, h⟩
  ·obtain ⟨r1015, h1014, h⟩ := bs h
   have hph1014 := n_speculumlaw05_Made_Maps_l1_0_ok k a0 y3 x6 _ _ _ _ h1014
   cases r1015 with
   | inl r1016 =>
    dsimp only at h
    have e1018 := (an (ti trivial) (VRun.loop hph1014))
    injection h with h; subst h
    exact round_stop (c := ⟨[(2, none), (3, none)], [none, none], []⟩) (s1 := (n_speculumlaw05_Made_Maps_l0_0_e0 a0 ())) pm pn (ans := [.reg (nN 4 []), .br true, .reg (.n :: []), .reg (.n :: []), .sub ⟨[(1, none), (2, none), (4, none), (5, none), (6, none), (7, none), (8, none)], [none, none, none, none], [.t 7 1]⟩ .ret (n_speculumlaw05_Made_Maps_l1_0_e0 a0 y3 x6 r1016)]) (by kernel_rfl) (by intro e; cases e) (an (an (an (ti (ti (ti (ti trivial)))) (an (decide_eq_true h913) trivial)) (an (ti trivial) (an (ti trivial) e1018))) (ti trivial))
   | inr r1017 =>
    dsimp only at h
    have e1019 := (an (ti trivial) (VRun.loop hph1014))
    obtain ⟨h1020, h⟩ := ifn h
    have e1021 := (show List.length (List.map v_22 y3) = y3.length * 1 ∧ List.length [VV.tr (List.drop 0 (List.map unfr (List.map vi r1017))) r1017.length] = 1 * 1 ∧ (y3.length + 1) * 24 ≤ 140737488355328 ∧ y3.length + 1 < 1099511627776 ∧ List.all [VV.tr (List.drop 0 (List.map unfr (List.map vi r1017))) r1017.length] VV.still = true from ⟨(by simp), (by rw [show [VV.tr (List.drop 0 (List.map unfr (List.map vi r1017))) r1017.length] = List.map v_22 ([r1017] : List (List Int)) from (by rw [show List.drop 0 (List.map unfr (List.map vi r1017)) = List.map vi r1017 from (eqZ1_0 r1017)]; rfl)]; simp), (by first | omega | (simp at h1020 ⊢; omega)), (by first | omega | (simp at h1020 ⊢; omega)), (by rw [show [VV.tr (List.drop 0 (List.map unfr (List.map vi r1017))) r1017.length] = List.map v_22 ([r1017] : List (List Int)) from (by rw [show List.drop 0 (List.map unfr (List.map vi r1017)) = List.map vi r1017 from (eqZ1_0 r1017)]; rfl)]; exact still_v_22 _)⟩)
    have h2 := ih _ _ _ h
    obtain ⟨q, hv, hq⟩ := pkR (rd := none) (P := Go.Proofs.Try.prog) (fn := Go.Proofs.Try.f5) (k := 0) (s := (n_speculumlaw05_Made_Maps_l0_0_h a0 y3 x6)) (ans := [.reg (nN 4 []), .br true, .reg (.n :: []), .reg (.n :: []), .sub ⟨[(1, none), (2, none), (4, none), (5, none), (6, none), (7, none), (8, none)], [none, none, none, none], [.t 7 1]⟩ (.exit 2) (n_speculumlaw05_Made_Maps_l1_0_e1 a0 y3 x6 r1017), .frs 4, .reg (nN 7 []), .reg (nN 3 [])]) (c := ⟨[(1, none), (2, none), (4, none), (5, none), (6, none)], [none, none, some [vi (a0.Mirror.length : Int), VV.rf 3 0 ((y3 ++ ([r1017] : List (List Int))).length)], some (List.map v_22 (y3 ++ ([r1017] : List (List Int))))], []⟩) (e := .normal) (s1 := (n_speculumlaw05_Made_Maps_l0_0_h a0 (y3 ++ ([r1017] : List (List Int))) (w64 (x6 + 1)))) (an (an (an (ti (ti (ti (ti trivial)))) (an (decide_eq_true h913) trivial)) (an (an (ti trivial) (an (an (ti trivial) e1019) (an (show List.all (List.map vi r1017) VV.still = true from (by exact still_vi _)) (ti (ti (ti (ti (an e1021 (ti (ti trivial)))))))))) (ti (ti (ti trivial))))) (ti (an (show [vi (a0.Mirror.length : Int), VV.rf 3 0 (y3.length + 1)] = [vi (a0.Mirror.length : Int), VV.rf 3 0 ((y3 ++ ([r1017] : List (List Int))).length)] from (by first | rfl | simp)) (an (show (List.map v_22 y3) ++ [VV.tr (List.drop 0 (List.map unfr (List.map vi r1017))) r1017.length] = List.map v_22 (y3 ++ ([r1017] : List (List Int))) from (by rw [show [VV.tr (List.drop 0 (List.map unfr (List.map vi r1017))) r1017.length] = List.map v_22 ([r1017] : List (List Int)) from (by rw [show List.drop 0 (List.map unfr (List.map vi r1017)) = List.map vi r1017 from (eqZ1_0 r1017)]; rfl)]; exact List.map_append.symm)) trivial)))) (by kernel_rfl)
    cases r with
    | inl r => exact round_next pm pn hv hq h2
    | inr r =>
     exact round_next pm pn hv hq h2
  ·injection h with h; subst h
   exact round_stop (c := ⟨[(2, none), (5, none)], [none, none, none, none], []⟩) (s1 := (n_speculumlaw05_Made_Maps_l0_0_e1 a0 y3)) pm pn (ans := [.reg (nN 4 []), .br false]) (by kernel_rfl) (by intro e; cases e) (an (an (ti (ti (ti (ti trivial)))) (an (decide_eq_false h913) trivial)) (ti trivial))
def arZ1_3 (z0 : Bool) (z1 : Bool) : List Ans := (.n :: .call (vb z0) :: nN 7 (.b false :: nN 3 (.call (vb z1) :: .n :: .b false :: nN 6 (.b false :: []))))
theorem eqZ1_1  : vi 0 = vi ((⟨0, []⟩ : STurnedMaps).Sectors) := by first | rfl | (simp only [unfr_vi, List.map_cons, List.map_nil, un_i]; done) | (simp only [unfr_vi, List.map_cons, List.map_nil, un_i]; rfl) | (simp only [unfr_vi, List.map_cons, List.map_nil, un_i, List.length_cons, List.length_nil, List.length_append]; done)
theorem eqZ1_2 (z0 : SMade) (z1 : (List (List Int))) : VV.tu [VV.ag [vi (z0.Mirror.length : Int), VV.tr (List.drop 0 (List.map unfr (List.map v_22 z1))) z1.length], vb true] = VV.tu [VV.ag (c_STurnedMaps (⟨(z0.Mirror.length : Int), z1⟩ : STurnedMaps)), vb true] := by first | rfl | (simp only [drop0, unfr_vi, unfr_vb, List.map_cons, List.map_nil, un_i, un_b, un_tr, List.length_map, List.length_cons, List.length_nil, unfr_v_22, unfr_c_STurnedMaps]; done) | (simp only [drop0, unfr_vi, unfr_vb, List.map_cons, List.map_nil, un_i, un_b, un_tr, List.length_map, List.length_cons, List.length_nil, unfr_v_22, unfr_c_STurnedMaps]; rfl) | (simp only [drop0, unfr_vi, unfr_vb, List.map_cons, List.map_nil, un_i, un_b, un_tr, List.length_map, List.length_cons, List.length_nil, unfr_v_22, unfr_c_STurnedMaps, c_STurnedMaps, List.length_cons, List.length_nil, List.length_append]; done)
def arZ1_4 (z0 : Bool) (z1 : Bool) : List Ans := (.n :: .call (vb z0) :: nN 7 (.b false :: nN 3 (.call (vb z1) :: .n :: .b false :: .n :: nS 5 (.b true :: []))))
def arZ1_5 (z0 : Bool) : List Ans := (.n :: .call (vb z0) :: nN 7 (.b false :: .n :: nS 4 (.b true :: .n :: nS 5 (.b true :: []))))
def arZ1_6 (z0 : Bool) : List Ans := (.n :: .call (vb z0) :: .n :: .n :: nS 5 (.b true :: .n :: nS 4 (.b true :: .n :: nS 5 (.b true :: []))))
def n_speculumlaw05_Made_Maps (k : Nat) (a0 : SMade) : Option (STurnedMaps × Bool) :=
  (nspeculumbase_Within k (a0.Mirror.length : Int) 1 24).bind fun r571 => (if r571 = true then (if (a0.Instrument.length : Int) = (a0.Mirror.length : Int) then ((nspeculumbase_Within k a0.Turns 1 12).bind fun r578 => (if r578 = true then (if a0.Turns ≠ 0 then (if ((a0.Mirror.length : Int).tmod a0.Turns) = 0 then ((n_speculumlaw05_Made_Maps_l0_0 k a0 k ([] : List (List Int)) 0).bind fun r1023 => (match r1023 with | .inl r1024 => (some ((⟨0, []⟩ : STurnedMaps), false)) | .inr r1025 => (some ((⟨(a0.Mirror.length : Int), r1025⟩ : STurnedMaps), true)))) else (some ((⟨0, []⟩ : STurnedMaps), false))) else none) else (some ((⟨0, []⟩ : STurnedMaps), false)))) else (some ((⟨0, []⟩ : STurnedMaps), false))) else (some ((⟨0, []⟩ : STurnedMaps), false)))
theorem n_speculumlaw05_Made_Maps_ok (k : Nat) (a0 : SMade) (r : (STurnedMaps × Bool)) (h : n_speculumlaw05_Made_Maps k a0 = some r) : VC Go.Proofs.Try.prog 5 [VV.ag (c_SMade a0)] (VV.tu [VV.ag (c_STurnedMaps r.1), vb r.2]) := by
 unfold n_speculumlaw05_Made_Maps at h
 obtain ⟨r571, h572, h⟩ := bs h
 have e573 := (nspeculumbase_Within_ok k (a0.Mirror.length : Int) 1 24 _ h572)
 rcases ifs h with ⟨h574, h⟩ | ⟨h574, h⟩
 ·rcases ifs h with ⟨h575, h⟩ | ⟨h575, h⟩
  ·have e576 := (an (not_f (decide_eq_true h575)) trivial)
   have e577 := (an (not_f (decide_eq_true h575)) trivial)
   obtain ⟨r578, h579, h⟩ := bs h
   have e580 := (an (not_f (decide_eq_true h575)) (nspeculumbase_Within_ok k a0.Turns 1 12 _ h579))
   have e581 := (an (not_f (decide_eq_true h575)) trivial)
   rcases ifs h with ⟨h582, h⟩ | ⟨h582, h⟩
   ·obtain ⟨h583, h⟩ := ifn h
    have e584 := (ti (an e573 (ti (ti (an (an (not_f h574) trivial) (an (an (not_f h574) trivial) (an (an (not_f h574) trivial) (an (an (not_f h574) trivial) (an (an (not_f h574) trivial) (an (not_f h574) (ti (an e576 (an e577 (an e580 (an e581 (an (not_f (decide_eq_true h575)) (ti (an (an (not_f h582) trivial) (an (an (not_f h582) trivial) (an (an (not_f h582) trivial) (an (an (not_f h582) h583) (an (an (not_f h582) trivial) (an (not_f h582) trivial)))))))))))))))))))))))
    rcases ifs h with ⟨h585, h⟩ | ⟨h585, h⟩
    ·obtain ⟨r1023, h1022, h⟩ := bs h
     have hph1022 := n_speculumlaw05_Made_Maps_l0_0_ok k a0 _ _ _ _ h1022
     cases r1023 with
     | inl r1024 =>
      dsimp only at h
      have e1026 := (an (ti trivial) (VRun.loop hph1022))
      injection h with h; subst h
      exact fun_ok pm pn Go.Proofs.Try.func5 (r0 := VV.tu [VV.ag [vi 0, VV.c (.slice none 0 0)], vb false]) (ans := [.reg (nN 3 []), .reg (nN 4 []), .reg (arZ1_3 r571 r578), .br false, .reg (nN 4 []), .reg (.n :: []), .sub ⟨[(1, none), (2, none), (4, none), (5, none), (6, none)], [none, none, none], [.b 2 1 1]⟩ .ret (n_speculumlaw05_Made_Maps_l0_0_e0 a0 r1024)]) (fr := false) (by kernel_rfl) (an (an (ti (ti (ti trivial))) (an (ti (ti (ti (ti trivial)))) (an (an e584 (an (not_f (decide_eq_true h585)) trivial)) (an (ti (ti (ti (ti trivial)))) (an (ti trivial) e1026))))) (an (ti (ti (ti trivial))) (ti trivial))) (Wv.tuL (.cons (Wv.agL (.cons (Wv.of_eq eqZ1_1) (.cons (Wv.nil (k := 0)) .nil))) (.cons (Wv.refl _) .nil)))
     | inr r1025 =>
      dsimp only at h
      have e1027 := (an (ti trivial) (VRun.loop hph1022))
      injection h with h; subst h
      exact fun_ok pm pn Go.Proofs.Try.func5 (r0 := VV.tu [VV.ag [vi (a0.Mirror.length : Int), VV.tr (List.drop 0 (List.map unfr (List.map v_22 r1025))) r1025.length], vb true]) (ans := [.reg (nN 3 []), .reg (nN 4 []), .reg (arZ1_3 r571 r578), .br false, .reg (nN 4 []), .reg (.n :: []), .sub ⟨[(1, none), (2, none), (4, none), (5, none), (6, none)], [none, none, none], [.b 2 1 1]⟩ (.exit 0) (n_speculumlaw05_Made_Maps_l0_0_e1 a0 r1025), .reg (nN 3 [])]) (fr := false) (by kernel_rfl) (an (an (ti (ti (ti trivial))) (an (ti (ti (ti (ti trivial)))) (an (an e584 (an (not_f (decide_eq_true h585)) trivial)) (an (ti (ti (ti (ti trivial)))) (an (an (ti trivial) e1027) (an (ti (ti (ti trivial))) trivial)))))) (an (ti (ti (ti trivial))) (ti trivial))) (Wv.of_eq (eqZ1_2 a0 r1025))
    ·injection h with h; subst h
     exact fun_ok pm pn Go.Proofs.Try.func5 (r0 := VV.tu [VV.ag [vi 0, VV.c (.slice none 0 0)], vb false]) (ans := [.reg (nN 3 []), .reg (nN 4 []), .reg (arZ1_3 r571 r578), .br true, .reg (nN 3 [])]) (fr := false) (by kernel_rfl) (an (an (ti (ti (ti trivial))) (an (ti (ti (ti (ti trivial)))) (an e584 (an (not_t (decide_eq_false h585)) (an (ti (ti (ti trivial))) trivial))))) (an (ti (ti (ti trivial))) (ti trivial))) (Wv.tuL (.cons (Wv.agL (.cons (Wv.of_eq eqZ1_1) (.cons (Wv.nil (k := 0)) .nil))) (.cons (Wv.refl _) .nil)))
   ·have e1028 := (ti (an e573 (ti (ti (an (an (not_f h574) trivial) (an (an (not_f h574) trivial) (an (an (not_f h574) trivial) (an (an (not_f h574) trivial) (an (an (not_f h574) trivial) (an (not_f h574) (ti (an e576 (an e577 (an e580 (an e581 (an (not_f (decide_eq_true h575)) (ti (an (not_t (bool_f h582)) (an (not_t (bool_f h582)) (an (not_t (bool_f h582)) (an (not_t (bool_f h582)) (an (not_t (bool_f h582)) (an (not_t (bool_f h582)) trivial)))))))))))))))))))))))
    injection h with h; subst h
    exact fun_ok pm pn Go.Proofs.Try.func5 (r0 := VV.tu [VV.ag [vi 0, VV.c (.slice none 0 0)], vb false]) (ans := [.reg (nN 3 []), .reg (nN 4 []), .reg (arZ1_4 r571 r578), .br true, .reg (nN 3 [])]) (fr := false) (by kernel_rfl) (an (an (ti (ti (ti trivial))) (an (ti (ti (ti (ti trivial)))) (an e1028 (an rt (an (ti (ti (ti trivial))) trivial))))) (an (ti (ti (ti trivial))) (ti trivial))) (Wv.tuL (.cons (Wv.agL (.cons (Wv.of_eq eqZ1_1) (.cons (Wv.nil (k := 0)) .nil))) (.cons (Wv.refl _) .nil)))
  ·have e1029 := (ti (an e573 (ti (ti (an (an (not_f h574) trivial) (an (an (not_f h574) trivial) (an (an (not_f h574) trivial) (an (an (not_f h574) trivial) (an (an (not_f h574) trivial) (an (not_f h574) (ti (an (not_t (decide_eq_false h575)) (an (not_t (decide_eq_false h575)) (an (not_t (decide_eq_false h575)) (an (not_t (decide_eq_false h575)) (an (not_t (decide_eq_false h575)) (ti (an rt (an rt (an rt (an rt (an rt (an rt trivial)))))))))))))))))))))))
   injection h with h; subst h
   exact fun_ok pm pn Go.Proofs.Try.func5 (r0 := VV.tu [VV.ag [vi 0, VV.c (.slice none 0 0)], vb false]) (ans := [.reg (nN 3 []), .reg (nN 4 []), .reg (arZ1_5 r571), .br true, .reg (nN 3 [])]) (fr := false) (by kernel_rfl) (an (an (ti (ti (ti trivial))) (an (ti (ti (ti (ti trivial)))) (an e1029 (an rt (an (ti (ti (ti trivial))) trivial))))) (an (ti (ti (ti trivial))) (ti trivial))) (Wv.tuL (.cons (Wv.agL (.cons (Wv.of_eq eqZ1_1) (.cons (Wv.nil (k := 0)) .nil))) (.cons (Wv.refl _) .nil)))
 ·have e1030 := (ti (an e573 (ti (ti (an (not_t (bool_f h574)) (an (not_t (bool_f h574)) (an (not_t (bool_f h574)) (an (not_t (bool_f h574)) (an (not_t (bool_f h574)) (an (not_t (bool_f h574)) (ti (an rt (an rt (an rt (an rt (an rt (ti (an rt (an rt (an rt (an rt (an rt (an rt trivial)))))))))))))))))))))))
  injection h with h; subst h
  exact fun_ok pm pn Go.Proofs.Try.func5 (r0 := VV.tu [VV.ag [vi 0, VV.c (.slice none 0 0)], vb false]) (ans := [.reg (nN 3 []), .reg (nN 4 []), .reg (arZ1_6 r571), .br true, .reg (nN 3 [])]) (fr := false) (by kernel_rfl) (an (an (ti (ti (ti trivial))) (an (ti (ti (ti (ti trivial)))) (an e1030 (an rt (an (ti (ti (ti trivial))) trivial))))) (an (ti (ti (ti trivial))) (ti trivial))) (Wv.tuL (.cons (Wv.agL (.cons (Wv.of_eq eqZ1_1) (.cons (Wv.nil (k := 0)) .nil))) (.cons (Wv.refl _) .nil)))
def nprofile_isWithin (k : Nat) (a0 : Int) (a1 : Int) (a2 : Int) : Option Bool :=
  if a1 ≤ a0 then (some (decide (a0 ≤ a2))) else (some false)
theorem nprofile_isWithin_ok (k : Nat) (a0 : Int) (a1 : Int) (a2 : Int) (r : Bool) (h : nprofile_isWithin k a0 a1 a2 = some r) : VC Go.Proofs.Try.prog 21 [vi a0, vi a1, vi a2] (vb r) := by
 unfold nprofile_isWithin at h
 rcases ifs h with ⟨h1034, h⟩ | ⟨h1034, h⟩
 ·have e1035 := (ti (ti (ti (ti (an (an (decide_eq_true h1034) trivial) (an (an (decide_eq_true h1034) trivial) (an (an (decide_eq_true h1034) trivial) (an (decide_eq_true h1034) (ti trivial)))))))))
  injection h with h; subst h
  exact fun_ok pm pn Go.Proofs.Try.func21 (r0 := vb (decide (a0 ≤ a2))) (ans := [.reg (.n :: []), .reg (nN 7 (.b true :: .n :: []))]) (fr := true) (by kernel_rfl) (an (an (ti trivial) (an e1035 trivial)) (ti trivial)) (Wv.refl _)
 ·have e1036 := (ti (ti (ti (ti (an (decide_eq_false h1034) (an (decide_eq_false h1034) (an (decide_eq_false h1034) (an (decide_eq_false h1034) (ti trivial)))))))))
  injection h with h; subst h
  exact fun_ok pm pn Go.Proofs.Try.func21 (r0 := vb false) (ans := [.reg (.n :: []), .reg (nN 4 (nS 3 (.b false :: .n :: [])))]) (fr := true) (by kernel_rfl) (an (an (ti trivial) (an e1036 trivial)) (ti trivial)) (Wv.refl _)
def arZ1_7 (z0 : STurnedMaps) (z1 : Int) : List Ans := (.n :: .v (VV.tr (List.map vi (z0.Values.getD z1.toNat default)) ((z0.Values.getD z1.toNat default).length)) :: .n :: [])
def nprofile_areSmall_l0_0_h (a0 : Int) (a1 : (List Int)) (x9 : Int) : VS := ⟨mkA [(0, vi a0), (7, VV.tr (List.map vi a1) a1.length), (8, vi (a1.length : Int)), (9, vi x9)], [], .nil⟩
def nprofile_areSmall_l0_0_e0 (a0 : Int) (a1 : (List Int)) (r : Unit) : VS := ⟨mkA [(4, vb false)], [], .nil⟩
def nprofile_areSmall_l0_0_e1 (a0 : Int) (a1 : (List Int)) (r : Unit) : VS := ⟨mkA [], [], .nil⟩
def nprofile_areSmall_l0_0 (k : Nat) (a0 : Int) (a1 : (List Int)) : Nat → Int → Option (Sum Unit Unit)
  | 0, _ => none
  | fuel + 1, x9 => if x9 < (a1.length : Int) then (if 0 ≤ x9 ∧ x9 < (a1.length : Int) then ((nprofile_isWithin k (a1.getD x9.toNat 0) (w64 (0 - a0)) a0).bind fun r1113 => (if r1113 = true then (nprofile_areSmall_l0_0 k a0 a1 fuel (w64 (x9 + 1))) else (some (.inl ())))) else none) else (some (.inr ()))
theorem nprofile_areSmall_l0_0_ok (k : Nat) (a0 : Int) (a1 : (List Int)) : ∀ (fuel : Nat) (x9 : Int) (r : Sum Unit Unit), nprofile_areSmall_l0_0 k a0 a1 fuel x9 = some r → (match r with | .inl r => VLoop none Go.Proofs.Try.prog (szF Go.Proofs.Try.f22) (bodyOf Go.Proofs.Try.f22 0) (nprofile_areSmall_l0_0_h a0 a1 x9) .ret (nprofile_areSmall_l0_0_e0 a0 a1 r) | .inr r => VLoop none Go.Proofs.Try.prog (szF Go.Proofs.Try.f22) (bodyOf Go.Proofs.Try.f22 0) (nprofile_areSmall_l0_0_h a0 a1 x9) (.exit 0) (nprofile_areSmall_l0_0_e1 a0 a1 r)) := by
 intro fuel
 induction fuel with
 | zero => intro x9 r h; rw [nprofile_areSmall_l0_0.eq_1] at h; cases h
 | succ fuel ih =>
  intro x9 r h
  rw [nprofile_areSmall_l0_0.eq_2] at h
  rcases ifs h with ⟨h1110, h⟩ | ⟨h1110, h⟩
  ·obtain ⟨h1111, h⟩ := ifn h
   have e1112 := (show loadL Go.Proofs.Try.prog 3 (x9.toNat * 1) (List.map vi a1) = some (vi (a1.getD x9.toNat 0)) from ld_map ag3 vi a1 0 h1111 (by omega))
   obtain ⟨r1113, h1114, h⟩ := bs h
   have e1115 := (nprofile_isWithin_ok k (a1.getD x9.toNat 0) (w64 (0 - a0)) a0 _ h1114)
   rcases ifs h with ⟨h1116, h⟩ | ⟨h1116, h⟩
   ·have h2 := ih _ _ h
    obtain ⟨q, hv, hq⟩ := pkR (rd := none) (P := Go.Proofs.Try.prog) (fn := Go.Proofs.Try.f22) (k := 0) (s := (nprofile_areSmall_l0_0_h a0 a1 x9)) (ans := [.reg (.n :: []), .br true, .reg (.n :: .v (vi (a1.getD x9.toNat 0)) :: .n :: []), .reg (nN 4 (.call (vb r1113) :: .n :: [])), .br false, .reg (.n :: .n :: [])]) (c := ⟨[(0, none), (7, none), (8, none), (9, none)], [], []⟩) (e := .normal) (s1 := (nprofile_areSmall_l0_0_h a0 a1 (w64 (x9 + 1)))) (an (an (ti trivial) (an (an (decide_eq_true h1110) trivial) (an (an (an h1111 (an e1112 (ti trivial))) (an (ti (ti (ti (ti (an e1115 (ti trivial)))))) (an (not_f h1116) trivial))) (ti (ti trivial))))) (ti trivial)) (by kernel_rfl)
    cases r with
    | inl r => exact round_next pm pn hv hq h2
    | inr r =>
     exact round_next pm pn hv hq h2
   ·injection h with h; subst h
    exact round_stop (c := ⟨[(4, none)], [], []⟩) (s1 := (nprofile_areSmall_l0_0_e0 a0 a1 ())) pm pn (ans := [.reg (.n :: []), .br true, .reg (.n :: .v (vi (a1.getD x9.toNat 0)) :: .n :: []), .reg (nN 4 (.call (vb r1113) :: .n :: [])), .br true, .reg (.n :: [])]) (by kernel_rfl) (by intro e; cases e) (an (an (ti trivial) (an (an (decide_eq_true h1110) trivial) (an (an h1111 (an e1112 (ti trivial))) (an (ti (ti (ti (ti (an e1115 (ti trivial)))))) (an (not_t (bool_f h1116)) (an (ti trivial) trivial)))))) (ti trivial))
  ·injection h with h; subst h
   exact round_stop (c := ⟨[], [], []⟩) (s1 := (nprofile_areSmall_l0_0_e1 a0 a1 ())) pm pn (ans := [.reg (.n :: []), .br false]) (by kernel_rfl) (by intro e; cases e) (an (an (ti trivial) (an (decide_eq_false h1110) trivial)) (ti trivial))
def nprofile_areSmall (k : Nat) (a0 : Int) (a1 : (List Int)) : Option Bool :=
  (nprofile_areSmall_l0_0 k a0 a1 k 0).bind fun r1118 => (match r1118 with | .inl r1119 => (some false) | .inr r1120 => (some true))
theorem nprofile_areSmall_ok (k : Nat) (a0 : Int) (a1 : (List Int)) (r : Bool) (h : nprofile_areSmall k a0 a1 = some r) : VC Go.Proofs.Try.prog 22 [vi a0, VV.tr (List.map vi a1) a1.length] (vb r) := by
 unfold nprofile_areSmall at h
 obtain ⟨r1118, h1117, h⟩ := bs h
 have hph1117 := nprofile_areSmall_l0_0_ok k a0 a1 _ _ _ h1117
 cases r1118 with
 | inl r1119 =>
  dsimp only at h
  have e1121 := (an (ti trivial) (VRun.loop hph1117))
  injection h with h; subst h
  exact fun_ok pm pn Go.Proofs.Try.func22 (r0 := vb false) (ans := [.reg (.n :: []), .reg (nN 3 []), .sub ⟨[(0, none), (7, none), (8, none), (9, none)], [], []⟩ .ret (nprofile_areSmall_l0_0_e0 a0 a1 r1119)]) (fr := true) (by kernel_rfl) (an (an (ti trivial) (an (ti (ti (ti trivial))) e1121)) (ti trivial)) (Wv.refl _)
 | inr r1120 =>
  dsimp only at h
  have e1122 := (an (ti trivial) (VRun.loop hph1117))
  injection h with h; subst h
  exact fun_ok pm pn Go.Proofs.Try.func22 (r0 := vb true) (ans := [.reg (.n :: []), .reg (nN 3 []), .sub ⟨[(0, none), (7, none), (8, none), (9, none)], [], []⟩ (.exit 0) (nprofile_areSmall_l0_0_e1 a0 a1 r1120), .reg (.n :: [])]) (fr := true) (by kernel_rfl) (an (an (ti trivial) (an (an (ti (ti (ti trivial))) e1122) (an (ti trivial) trivial))) (ti trivial)) (Wv.refl _)
def nprofile_CheckTurned_l0_0_h (a0 : STurnedMaps) (x28 : Int) : VS := ⟨mkA [(1, VV.pt 0 0), (26, VV.tr (List.map v_22 a0.Values) a0.Values.length), (27, vi (a0.Values.length : Int)), (28, vi x28)], [some ⟨true, 1, c_STurnedMaps a0⟩], .nil⟩
def nprofile_CheckTurned_l0_0_e0 (a0 : STurnedMaps) (r : Unit) : VS := ⟨mkA [(2, vi 10)], [], .nil⟩
def nprofile_CheckTurned_l0_0_e1 (a0 : STurnedMaps) (r : Unit) : VS := ⟨mkA [(1, VV.pt 0 0)], [some ⟨true, 1, c_STurnedMaps a0⟩], .nil⟩
def nprofile_CheckTurned_l0_0 (k : Nat) (a0 : STurnedMaps) : Nat → Int → Option (Sum Unit Unit)
  | 0, _ => none
  | fuel + 1, x28 => if x28 < (a0.Values.length : Int) then (if 0 ≤ x28 ∧ x28 < (a0.Values.length : Int) then (if ((a0.Values.getD x28.toNat default).length : Int) = a0.Sectors then (nprofile_CheckTurned_l0_0 k a0 fuel (w64 (x28 + 1))) else (some (.inl ()))) else none) else (some (.inr ()))
theorem nprofile_CheckTurned_l0_0_ok (k : Nat) (a0 : STurnedMaps) : ∀ (fuel : Nat) (x28 : Int) (r : Sum Unit Unit), nprofile_CheckTurned_l0_0 k a0 fuel x28 = some r → (match r with | .inl r => VLoop none Go.Proofs.Try.prog (szF Go.Proofs.Try.f13) (bodyOf Go.Proofs.Try.f13 0) (nprofile_CheckTurned_l0_0_h a0 x28) .ret (nprofile_CheckTurned_l0_0_e0 a0 r) | .inr r => VLoop none Go.Proofs.Try.prog (szF Go.Proofs.Try.f13) (bodyOf Go.Proofs.Try.f13 0) (nprofile_CheckTurned_l0_0_h a0 x28) (.exit 0) (nprofile_CheckTurned_l0_0_e1 a0 r)) := by
 intro fuel
 induction fuel with
 | zero => intro x28 r h; rw [nprofile_CheckTurned_l0_0.eq_1] at h; cases h
 | succ fuel ih =>
  intro x28 r h
  rw [nprofile_CheckTurned_l0_0.eq_2] at h
  rcases ifs h with ⟨h1167, h⟩ | ⟨h1167, h⟩
  ·obtain ⟨h1168, h⟩ := ifn h
   have e1169 := (show loadL Go.Proofs.Try.prog 22 (x28.toNat * 1) (List.map v_22 a0.Values) = some (VV.tr (List.map vi (a0.Values.getD x28.toNat default)) ((a0.Values.getD x28.toNat default).length)) from ld_map ag22 v_22 a0.Values default h1168 (by omega))
   rcases ifs h with ⟨h1170, h⟩ | ⟨h1170, h⟩
   ·have h2 := ih _ _ h
    obtain ⟨q, hv, hq⟩ := pkR (rd := none) (P := Go.Proofs.Try.prog) (fn := Go.Proofs.Try.f13) (k := 0) (s := (nprofile_CheckTurned_l0_0_h a0 x28)) (ans := [.reg (.n :: []), .br true, .reg (arZ1_7 a0 x28), .reg (nN 5 []), .br false, .reg (.n :: .n :: [])]) (c := ⟨[(1, none), (26, none), (27, none), (28, none)], [none], []⟩) (e := .normal) (s1 := (nprofile_CheckTurned_l0_0_h a0 (w64 (x28 + 1)))) (an (an (ti trivial) (an (an (decide_eq_true h1167) trivial) (an (an (an h1168 (an e1169 (ti trivial))) (an (ti (ti (ti (ti (ti trivial))))) (an (not_f (decide_eq_true h1170)) trivial))) (ti (ti trivial))))) (ti trivial)) (by kernel_rfl)
    cases r with
    | inl r => exact round_next pm pn hv hq h2
    | inr r =>
     exact round_next pm pn hv hq h2
   ·injection h with h; subst h
    exact round_stop (c := ⟨[(2, none)], [], []⟩) (s1 := (nprofile_CheckTurned_l0_0_e0 a0 ())) pm pn (ans := [.reg (.n :: []), .br true, .reg (arZ1_7 a0 x28), .reg (nN 5 []), .br true, .reg (.n :: [])]) (by kernel_rfl) (by intro e; cases e) (an (an (ti trivial) (an (an (decide_eq_true h1167) trivial) (an (an h1168 (an e1169 (ti trivial))) (an (ti (ti (ti (ti (ti trivial))))) (an (not_t (decide_eq_false h1170)) (an (ti trivial) trivial)))))) (ti trivial))
  ·injection h with h; subst h
   exact round_stop (c := ⟨[(1, none)], [none], []⟩) (s1 := (nprofile_CheckTurned_l0_0_e1 a0 ())) pm pn (ans := [.reg (.n :: []), .br false]) (by kernel_rfl) (by intro e; cases e) (an (an (ti trivial) (an (decide_eq_false h1167) trivial)) (ti trivial))
def nprofile_CheckTurned_l1_0_h (a0 : STurnedMaps) (x41 : Int) : VS := ⟨mkA [(39, VV.tr (List.map v_22 a0.Values) a0.Values.length), (40, vi (a0.Values.length : Int)), (41, vi x41)], [], .nil⟩
def nprofile_CheckTurned_l1_0_e0 (a0 : STurnedMaps) (r : Unit) : VS := ⟨mkA [(2, vi 2)], [], .nil⟩
def nprofile_CheckTurned_l1_0_e1 (a0 : STurnedMaps) (r : Unit) : VS := ⟨mkA [], [], .nil⟩
def nprofile_CheckTurned_l1_0 (k : Nat) (a0 : STurnedMaps) : Nat → Int → Option (Sum Unit Unit)
  | 0, _ => none
  | fuel + 1, x41 => if x41 < (a0.Values.length : Int) then (if 0 ≤ x41 ∧ x41 < (a0.Values.length : Int) then ((nprofile_areSmall k 100000 (a0.Values.getD x41.toNat default)).bind fun r1194 => (if r1194 = true then (nprofile_CheckTurned_l1_0 k a0 fuel (w64 (x41 + 1))) else (some (.inl ())))) else none) else (some (.inr ()))
theorem nprofile_CheckTurned_l1_0_ok (k : Nat) (a0 : STurnedMaps) : ∀ (fuel : Nat) (x41 : Int) (r : Sum Unit Unit), nprofile_CheckTurned_l1_0 k a0 fuel x41 = some r → (match r with | .inl r => VLoop none Go.Proofs.Try.prog (szF Go.Proofs.Try.f13) (bodyOf Go.Proofs.Try.f13 1) (nprofile_CheckTurned_l1_0_h a0 x41) .ret (nprofile_CheckTurned_l1_0_e0 a0 r) | .inr r => VLoop none Go.Proofs.Try.prog (szF Go.Proofs.Try.f13) (bodyOf Go.Proofs.Try.f13 1) (nprofile_CheckTurned_l1_0_h a0 x41) (.exit 2) (nprofile_CheckTurned_l1_0_e1 a0 r)) := by
 intro fuel
 induction fuel with
 | zero => intro x41 r h; rw [nprofile_CheckTurned_l1_0.eq_1] at h; cases h
 | succ fuel ih =>
  intro x41 r h
  rw [nprofile_CheckTurned_l1_0.eq_2] at h
  rcases ifs h with ⟨h1191, h⟩ | ⟨h1191, h⟩
  ·obtain ⟨h1192, h⟩ := ifn h
   have e1193 := (show loadL Go.Proofs.Try.prog 22 (x41.toNat * 1) (List.map v_22 a0.Values) = some (VV.tr (List.map vi (a0.Values.getD x41.toNat default)) ((a0.Values.getD x41.toNat default).length)) from ld_map ag22 v_22 a0.Values default h1192 (by omega))
   obtain ⟨r1194, h1195, h⟩ := bs h
   have e1196 := (nprofile_areSmall_ok k 100000 (a0.Values.getD x41.toNat default) _ h1195)
   rcases ifs h with ⟨h1197, h⟩ | ⟨h1197, h⟩
   ·have h2 := ih _ _ h
    obtain ⟨q, hv, hq⟩ := pkR (rd := none) (P := Go.Proofs.Try.prog) (fn := Go.Proofs.Try.f13) (k := 1) (s := (nprofile_CheckTurned_l1_0_h a0 x41)) (ans := [.reg (.n :: []), .br true, .reg (arZ1_7 a0 x41), .reg (.n :: .call (vb r1194) :: .n :: []), .br false, .reg (.n :: .n :: [])]) (c := ⟨[(39, none), (40, none), (41, none)], [], []⟩) (e := .normal) (s1 := (nprofile_CheckTurned_l1_0_h a0 (w64 (x41 + 1)))) (an (an (ti trivial) (an (an (decide_eq_true h1191) trivial) (an (an (an h1192 (an e1193 (ti trivial))) (an (ti (an e1196 (ti trivial))) (an (not_f h1197) trivial))) (ti (ti trivial))))) (ti trivial)) (by kernel_rfl)
    cases r with
    | inl r => exact round_next pm pn hv hq h2
    | inr r =>
     exact round_next pm pn hv hq h2
   ·injection h with h; subst h
    exact round_stop (c := ⟨[(2, none)], [], []⟩) (s1 := (nprofile_CheckTurned_l1_0_e0 a0 ())) pm pn (ans := [.reg (.n :: []), .br true, .reg (arZ1_7 a0 x41), .reg (.n :: .call (vb r1194) :: .n :: []), .br true, .reg (.n :: [])]) (by kernel_rfl) (by intro e; cases e) (an (an (ti trivial) (an (an (decide_eq_true h1191) trivial) (an (an h1192 (an e1193 (ti trivial))) (an (ti (an e1196 (ti trivial))) (an (not_t (bool_f h1197)) (an (ti trivial) trivial)))))) (ti trivial))
  ·injection h with h; subst h
   exact round_stop (c := ⟨[], [], []⟩) (s1 := (nprofile_CheckTurned_l1_0_e1 a0 ())) pm pn (ans := [.reg (.n :: []), .br false]) (by kernel_rfl) (by intro e; cases e) (an (an (ti trivial) (an (decide_eq_false h1191) trivial)) (ti trivial))
def nprofile_CheckTurned (k : Nat) (a0 : STurnedMaps) : Option Int :=
  (nprofile_isWithin k a0.Sectors 1 24).bind fun r1148 => (if r1148 = true then ((nprofile_isWithin k (a0.Values.length : Int) 1 12).bind fun r1152 => (if r1152 = true then (if (a0.Values.length : Int) ≠ 0 then (if (a0.Sectors.tmod (a0.Values.length : Int)) = 0 then ((nprofile_CheckTurned_l0_0 k a0 k 0).bind fun r1172 => (match r1172 with | .inl r1173 => (some 10) | .inr r1174 => ((nprofile_CheckTurned_l1_0 k a0 k 0).bind fun r1199 => (match r1199 with | .inl r1200 => (some 2) | .inr r1201 => (some 0))))) else (some 10)) else none) else (some 10))) else (some 2))
theorem nprofile_CheckTurned_ok (k : Nat) (a0 : STurnedMaps) (r : Int) (h : nprofile_CheckTurned k a0 = some r) : VC Go.Proofs.Try.prog 13 [VV.ag (c_STurnedMaps a0)] (vi r) := by
 unfold nprofile_CheckTurned at h
 obtain ⟨r1148, h1149, h⟩ := bs h
 have e1150 := (nprofile_isWithin_ok k a0.Sectors 1 24 _ h1149)
 rcases ifs h with ⟨h1151, h⟩ | ⟨h1151, h⟩
 ·obtain ⟨r1152, h1153, h⟩ := bs h
  have e1154 := (nprofile_isWithin_ok k (a0.Values.length : Int) 1 12 _ h1153)
  rcases ifs h with ⟨h1155, h⟩ | ⟨h1155, h⟩
  ·obtain ⟨h1156, h⟩ := ifn h
   have e1157 := (ti (ti (ti (an e1154 (ti (ti (an (an (not_f h1155) trivial) (an (an (not_f h1155) trivial) (an (an (not_f h1155) trivial) (an (an (not_f h1155) trivial) (an (an (not_f h1155) trivial) (an (an (not_f h1155) h1156) (an (an (not_f h1155) trivial) (an (not_f h1155) trivial))))))))))))))
   rcases ifs h with ⟨h1158, h⟩ | ⟨h1158, h⟩
   ·obtain ⟨r1172, h1171, h⟩ := bs h
    have hph1171 := nprofile_CheckTurned_l0_0_ok k a0 _ _ _ h1171
    cases r1172 with
    | inl r1173 =>
     dsimp only at h
     have e1175 := (an (ti trivial) (VRun.loop hph1171))
     injection h with h; subst h
     exact fun_ok pm pn Go.Proofs.Try.func13 (r0 := vi 10) (ans := [.reg (.n :: .n :: []), .reg (.n :: .n :: .call (vb r1148) :: .n :: []), .br false, .reg (nN 3 (.call (vb r1152) :: nN 9 (.b false :: []))), .br false, .reg (nN 4 []), .sub ⟨[(1, none), (26, none), (27, none), (28, none)], [none], []⟩ .ret (nprofile_CheckTurned_l0_0_e0 a0 r1173)]) (fr := true) (by kernel_rfl) (an (an (ti (ti trivial)) (an (an (ti (ti (an e1150 (ti trivial)))) (an (not_f h1151) trivial)) (an (an e1157 (an (not_f (decide_eq_true h1158)) trivial)) (an (ti (ti (ti (ti trivial)))) e1175)))) (ti trivial)) (Wv.refl _)
    | inr r1174 =>
     dsimp only at h
     have e1176 := (an (ti trivial) (VRun.loop hph1171))
     obtain ⟨r1199, h1198, h⟩ := bs h
     have hph1198 := nprofile_CheckTurned_l1_0_ok k a0 _ _ _ h1198
     cases r1199 with
     | inl r1200 =>
      dsimp only at h
      have e1202 := (an (ti trivial) (VRun.loop hph1198))
      injection h with h; subst h
      exact fun_ok pm pn Go.Proofs.Try.func13 (r0 := vi 2) (ans := [.reg (.n :: .n :: []), .reg (.n :: .n :: .call (vb r1148) :: .n :: []), .br false, .reg (nN 3 (.call (vb r1152) :: nN 9 (.b false :: []))), .br false, .reg (nN 4 []), .sub ⟨[(1, none), (26, none), (27, none), (28, none)], [none], []⟩ (.exit 0) (nprofile_CheckTurned_l0_0_e1 a0 r1174), .reg (nN 4 []), .sub ⟨[(39, none), (40, none), (41, none)], [], []⟩ .ret (nprofile_CheckTurned_l1_0_e0 a0 r1200)]) (fr := true) (by kernel_rfl) (an (an (ti (ti trivial)) (an (an (ti (ti (an e1150 (ti trivial)))) (an (not_f h1151) trivial)) (an (an e1157 (an (not_f (decide_eq_true h1158)) trivial)) (an (an (ti (ti (ti (ti trivial)))) e1176) (an (ti (ti (ti (ti trivial)))) e1202))))) (ti trivial)) (Wv.refl _)
     | inr r1201 =>
      dsimp only at h
      have e1203 := (an (ti trivial) (VRun.loop hph1198))
      injection h with h; subst h
      exact fun_ok pm pn Go.Proofs.Try.func13 (r0 := vi 0) (ans := [.reg (.n :: .n :: []), .reg (.n :: .n :: .call (vb r1148) :: .n :: []), .br false, .reg (nN 3 (.call (vb r1152) :: nN 9 (.b false :: []))), .br false, .reg (nN 4 []), .sub ⟨[(1, none), (26, none), (27, none), (28, none)], [none], []⟩ (.exit 0) (nprofile_CheckTurned_l0_0_e1 a0 r1174), .reg (nN 4 []), .sub ⟨[(39, none), (40, none), (41, none)], [], []⟩ (.exit 2) (nprofile_CheckTurned_l1_0_e1 a0 r1201), .reg (.n :: [])]) (fr := true) (by kernel_rfl) (an (an (ti (ti trivial)) (an (an (ti (ti (an e1150 (ti trivial)))) (an (not_f h1151) trivial)) (an (an e1157 (an (not_f (decide_eq_true h1158)) trivial)) (an (an (ti (ti (ti (ti trivial)))) e1176) (an (an (ti (ti (ti (ti trivial)))) e1203) (an (ti trivial) trivial)))))) (ti trivial)) (Wv.refl _)
   ·injection h with h; subst h
    exact fun_ok pm pn Go.Proofs.Try.func13 (r0 := vi 10) (ans := [.reg (.n :: .n :: []), .reg (.n :: .n :: .call (vb r1148) :: .n :: []), .br false, .reg (nN 3 (.call (vb r1152) :: nN 9 (.b false :: []))), .br true, .reg (.n :: [])]) (fr := true) (by kernel_rfl) (an (an (ti (ti trivial)) (an (an (ti (ti (an e1150 (ti trivial)))) (an (not_f h1151) trivial)) (an e1157 (an (not_t (decide_eq_false h1158)) (an (ti trivial) trivial))))) (ti trivial)) (Wv.refl _)
  ·have e1204 := (ti (ti (ti (an e1154 (ti (ti (an (not_t (bool_f h1155)) (an (not_t (bool_f h1155)) (an (not_t (bool_f h1155)) (an (not_t (bool_f h1155)) (an (not_t (bool_f h1155)) (an (not_t (bool_f h1155)) (an (not_t (bool_f h1155)) (an (not_t (bool_f h1155)) trivial))))))))))))))
   injection h with h; subst h
   exact fun_ok pm pn Go.Proofs.Try.func13 (r0 := vi 10) (ans := [.reg (.n :: .n :: []), .reg (.n :: .n :: .call (vb r1148) :: .n :: []), .br false, .reg (nN 3 (.call (vb r1152) :: .n :: .n :: nS 7 (.b true :: []))), .br true, .reg (.n :: [])]) (fr := true) (by kernel_rfl) (an (an (ti (ti trivial)) (an (an (ti (ti (an e1150 (ti trivial)))) (an (not_f h1151) trivial)) (an e1204 (an rt (an (ti trivial) trivial))))) (ti trivial)) (Wv.refl _)
 ·injection h with h; subst h
  exact fun_ok pm pn Go.Proofs.Try.func13 (r0 := vi 2) (ans := [.reg (.n :: .n :: []), .reg (.n :: .n :: .call (vb r1148) :: .n :: []), .br true, .reg (.n :: [])]) (fr := true) (by kernel_rfl) (an (an (ti (ti trivial)) (an (ti (ti (an e1150 (ti trivial)))) (an (not_t (bool_f h1151)) (an (ti trivial) trivial)))) (ti trivial)) (Wv.refl _)
def arZ1_8 (z0 : STurnedMaps) (z1 : Int) : List Ans := (.n :: .n :: .v (vi ((z0.Values.getD ((0 : Int)).toNat default).getD z1.toNat 0)) :: .n :: .n :: [])
def arZ1_9 (z0 : STurnedMaps) (z1 : Int) (z2 : Int) : List Ans := (.n :: .n :: .v (vi ((z0.Values.getD z1.toNat default).getD z2.toNat 0)) :: .n :: .n :: [])
def nprofile_restSums_l1_0_h (a0 : STurnedMaps) (x14 : Int) (y1z : List Int) (x20 : Int) : VS := ⟨mkA [(3, VV.rf 1 0 y1z.length), (12, VV.tr (List.map v_22 a0.Values) a0.Values.length), (13, vi (a0.Values.length : Int)), (14, vi x14), (18, VV.tr (List.map vi (a0.Values.getD x14.toNat default)) ((a0.Values.getD x14.toNat default).length)), (19, vi ((a0.Values.getD x14.toNat default).length : Int)), (20, vi x20)], [some ⟨true, 1, c_STurnedMaps a0⟩, some ⟨false, 1, List.map vi y1z⟩], .nil⟩
def nprofile_restSums_l1_0_e0 (a0 : STurnedMaps) (x14 : Int) (r : (List Int)) : VS := ⟨mkA [(3, VV.rf 1 0 r.length), (12, VV.tr (List.map v_22 a0.Values) a0.Values.length), (13, vi (a0.Values.length : Int)), (14, vi x14)], [some ⟨true, 1, c_STurnedMaps a0⟩, some ⟨false, 1, List.map vi r⟩], .nil⟩
def nprofile_restSums_l1_0 (k : Nat) (a0 : STurnedMaps) (x14 : Int) : Nat → (List Int) → Int → Option ((List Int))
  | 0, _, _ => none
  | fuel + 1, y1z, x20 => if x20 < ((a0.Values.getD x14.toNat default).length : Int) then (if 0 ≤ x20 ∧ x20 < ((a0.Values.getD x14.toNat default).length : Int) then (if 0 ≤ x20 ∧ x20 < (y1z.length : Int) then (nprofile_restSums_l1_0 k a0 x14 fuel (y1z.set x20.toNat (w64 ((y1z.getD x20.toNat 0) + ((a0.Values.getD x14.toNat default).getD x20.toNat 0)))) (w64 (x20 + 1))) else none) else none) else (some y1z)
theorem nprofile_restSums_l1_0_ok (k : Nat) (a0 : STurnedMaps) (x14 : Int) : ∀ (fuel : Nat) (y1z : List Int) (x20 : Int) (r : (List Int)), nprofile_restSums_l1_0 k a0 x14 fuel y1z x20 = some r → (VLoop none Go.Proofs.Try.prog (szF Go.Proofs.Try.f16) (bodyOf Go.Proofs.Try.f16 1) (nprofile_restSums_l1_0_h a0 x14 y1z x20) (.exit 2) (nprofile_restSums_l1_0_e0 a0 x14 r)) := by
 intro fuel
 induction fuel with
 | zero => intro y1z x20 r h; rw [nprofile_restSums_l1_0.eq_1] at h; cases h
 | succ fuel ih =>
  intro y1z x20 r h
  rw [nprofile_restSums_l1_0.eq_2] at h
  rcases ifs h with ⟨h1374, h⟩ | ⟨h1374, h⟩
  ·obtain ⟨h1375, h⟩ := ifn h
   have e1376 := (show loadL Go.Proofs.Try.prog 3 (x20.toNat * 1) (List.map vi (a0.Values.getD x14.toNat default)) = some (vi ((a0.Values.getD x14.toNat default).getD x20.toNat 0)) from ld_map ag3 vi (a0.Values.getD x14.toNat default) 0 h1375 (by omega))
   obtain ⟨h1377, h⟩ := ifn h
   have e1378 := (show loadL Go.Proofs.Try.prog 3 (0 + x20.toNat * 1) (List.map vi y1z) = some (vi (y1z.getD x20.toNat 0)) from ld_map ag3 vi y1z 0 h1377 (by omega))
   have e1379 := (show (0 + x20.toNat * 1) + 1 ≤ List.length (List.map vi y1z) from (by simp only [List.length_map]; omega))
   have e1380 := (ti (ti (an h1377 (an e1378 (ti (ti (an h1377 (an e1379 trivial))))))))
   have h2 := ih _ _ _ h
   obtain ⟨q, hv, hq⟩ := pkR (rd := none) (P := Go.Proofs.Try.prog) (fn := Go.Proofs.Try.f16) (k := 1) (s := (nprofile_restSums_l1_0_h a0 x14 y1z x20)) (ans := [.reg (.n :: []), .br true, .reg (arZ1_9 a0 x14 x20), .reg (nN 3 (.v (vi (y1z.getD x20.toNat 0)) :: nN 4 [])), .reg (.n :: .n :: [])]) (c := ⟨[(3, some (VV.rf 1 0 ((y1z.set x20.toNat (w64 ((y1z.getD x20.toNat 0) + ((a0.Values.getD x14.toNat default).getD x20.toNat 0)))).length))), (12, none), (13, none), (14, none), (18, none), (19, none), (20, none)], [none, some (List.map vi (y1z.set x20.toNat (w64 ((y1z.getD x20.toNat 0) + ((a0.Values.getD x14.toNat default).getD x20.toNat 0)))))], []⟩) (e := .normal) (s1 := (nprofile_restSums_l1_0_h a0 x14 (y1z.set x20.toNat (w64 ((y1z.getD x20.toNat 0) + ((a0.Values.getD x14.toNat default).getD x20.toNat 0)))) (w64 (x20 + 1)))) (an (an (ti trivial) (an (an (decide_eq_true h1374) trivial) (an (an (ti (an h1375 (an e1376 (ti (ti trivial))))) e1380) (ti (ti trivial))))) (an (an (show Wv (VV.rf 1 0 y1z.length) (VV.rf 1 0 ((y1z.set x20.toNat (w64 ((y1z.getD x20.toNat 0) + ((a0.Values.getD x14.toNat default).getD x20.toNat 0)))).length)) from (Wv.of_eq (by simp))) trivial) (an (show putT (0 + x20.toNat * 1) (List.map vi y1z) [vi (w64 ((y1z.getD x20.toNat 0) + ((a0.Values.getD x14.toNat default).getD x20.toNat 0)))] = List.map vi (y1z.set x20.toNat (w64 ((y1z.getD x20.toNat 0) + ((a0.Values.getD x14.toNat default).getD x20.toNat 0)))) from (by exact putT_vi y1z h1377 (w64 ((y1z.getD x20.toNat 0) + ((a0.Values.getD x14.toNat default).getD x20.toNat 0))) (by omega))) trivial))) (by kernel_rfl)
   exact round_next pm pn hv hq h2
  ·injection h with h; subst h
   exact round_stop (c := ⟨[(3, none), (12, none), (13, none), (14, none)], [none, none], []⟩) (s1 := (nprofile_restSums_l1_0_e0 a0 x14 y1z)) pm pn (ans := [.reg (.n :: []), .br false]) (by kernel_rfl) (by intro e; cases e) (an (an (ti trivial) (an (decide_eq_false h1374) trivial)) (ti trivial))
def nprofile_restSums_l0_0_h (a0 : STurnedMaps) (y1 : List Int) (x14 : Int) : VS := ⟨mkA [(3, VV.rf 1 0 y1.length), (12, VV.tr (List.map v_22 a0.Values) a0.Values.length), (13, vi (a0.Values.length : Int)), (14, vi x14)], [some ⟨true, 1, c_STurnedMaps a0⟩, some ⟨false, 1, List.map vi y1⟩], .nil⟩
def nprofile_restSums_l0_0_e0 (a0 : STurnedMaps) (r : (List Int)) : VS := ⟨mkA [(3, VV.rf 1 0 r.length)], [some ⟨true, 1, c_STurnedMaps a0⟩, some ⟨false, 1, List.map vi r⟩], .nil⟩
def nprofile_restSums_l0_0 (k : Nat) (a0 : STurnedMaps) : Nat → (List Int) → Int → Option ((List Int))
  | 0, _, _ => none
  | fuel + 1, y1, x14 => if x14 < (a0.Values.length : Int) then (if 0 ≤ x14 ∧ x14 < (a0.Values.length : Int) then ((nprofile_restSums_l1_0 k a0 x14 k y1 0).bind fun r1382 => (nprofile_restSums_l0_0 k a0 fuel r1382 (w64 (x14 + 1)))) else none) else (some y1)
theorem nprofile_restSums_l0_0_ok (k : Nat) (a0 : STurnedMaps) : ∀ (fuel : Nat) (y1 : List Int) (x14 : Int) (r : (List Int)), nprofile_restSums_l0_0 k a0 fuel y1 x14 = some r → (VLoop none Go.Proofs.Try.prog (szF Go.Proofs.Try.f16) (bodyOf Go.Proofs.Try.f16 0) (nprofile_restSums_l0_0_h a0 y1 x14) (.exit 0) (nprofile_restSums_l0_0_e0 a0 r)) := by
 intro fuel
 induction fuel with
 | zero => intro y1 x14 r h; rw [nprofile_restSums_l0_0.eq_1] at h; cases h
 | succ fuel ih =>
  intro y1 x14 r h
  rw [nprofile_restSums_l0_0.eq_2] at h
  rcases ifs h with ⟨h1357, h⟩ | ⟨h1357, h⟩
  ·obtain ⟨h1358, h⟩ := ifn h
   have e1359 := (show loadL Go.Proofs.Try.prog 22 (x14.toNat * 1) (List.map v_22 a0.Values) = some (VV.tr (List.map vi (a0.Values.getD x14.toNat default)) ((a0.Values.getD x14.toNat default).length)) from ld_map ag22 v_22 a0.Values default h1358 (by omega))
   obtain ⟨r1382, h1381, h⟩ := bs h
   have hph1381 := nprofile_restSums_l1_0_ok k a0 x14 _ _ _ _ h1381
   have e1383 := (an (ti trivial) (VRun.loop hph1381))
   have h2 := ih _ _ _ h
   obtain ⟨q, hv, hq⟩ := pkR (rd := none) (P := Go.Proofs.Try.prog) (fn := Go.Proofs.Try.f16) (k := 0) (s := (nprofile_restSums_l0_0_h a0 y1 x14)) (ans := [.reg (.n :: []), .br true, .reg (arZ1_7 a0 x14), .reg (nN 3 []), .sub ⟨[(3, none), (12, none), (13, none), (14, none), (18, none), (19, none), (20, none)], [none, none], []⟩ (.exit 2) (nprofile_restSums_l1_0_e0 a0 x14 r1382), .reg (.n :: .n :: [])]) (c := ⟨[(3, none), (12, none), (13, none), (14, none)], [none, none], []⟩) (e := .normal) (s1 := (nprofile_restSums_l0_0_h a0 r1382 (w64 (x14 + 1)))) (an (an (ti trivial) (an (an (decide_eq_true h1357) trivial) (an (an (an h1358 (an e1359 (ti trivial))) (an (ti (ti (ti trivial))) e1383)) (ti (ti trivial))))) (ti trivial)) (by kernel_rfl)
   exact round_next pm pn hv hq h2
  ·injection h with h; subst h
   exact round_stop (c := ⟨[(3, none)], [none, none], []⟩) (s1 := (nprofile_restSums_l0_0_e0 a0 y1)) pm pn (ans := [.reg (.n :: []), .br false]) (by kernel_rfl) (by intro e; cases e) (an (an (ti trivial) (an (decide_eq_false h1357) trivial)) (ti trivial))
theorem eqZ1_3 (z0 : (List Int)) : VV.fw 1 (List.drop 0 (List.map unfr (List.map vi z0))) z0.length = VV.fw 1 (List.map vi z0) z0.length := by first | rfl | (simp only [drop0, unfr_vi, List.map_cons, List.map_nil, un_i, List.length_map]; done) | (simp only [drop0, unfr_vi, List.map_cons, List.map_nil, un_i, List.length_map]; rfl) | (simp only [drop0, unfr_vi, List.map_cons, List.map_nil, un_i, List.length_map, List.length_cons, List.length_nil, List.length_append]; done)
def nprofile_restSums (k : Nat) (a0 : STurnedMaps) : Option (List Int) :=
  if 0 ≤ a0.Sectors ∧ a0.Sectors ≤ 1000000000 then ((nprofile_restSums_l0_0 k a0 k (List.replicate a0.Sectors.toNat (0 : Int)) 0).bind fun r1385 => (some r1385)) else none
theorem nprofile_restSums_ok (k : Nat) (a0 : STurnedMaps) (r : (List Int)) (h : nprofile_restSums k a0 = some r) : VC Go.Proofs.Try.prog 16 [VV.ag (c_STurnedMaps a0)] (VV.fw 1 (List.map vi r) r.length) := by
 unfold nprofile_restSums at h
 obtain ⟨h1298, h⟩ := ifn h
 have e1299 := (show 0 ≤ a0.Sectors ∧ a0.Sectors = a0.Sectors ∧ (8 * a0.Sectors.toNat) ≤ 281474976710656 ∧ a0.Sectors < 1099511627776 from ⟨by omega, rfl, by omega, by omega⟩)
 obtain ⟨r1385, h1384, h⟩ := bs h
 have hph1384 := nprofile_restSums_l0_0_ok k a0 _ _ _ _ h1384
 have e1386 := (an (an (an (show Wv (VV.rf 1 0 a0.Sectors.toNat) (VV.rf 1 0 ((List.replicate a0.Sectors.toNat (0 : Int)).length)) from (Wv.of_eq (by simp))) trivial) (an (show List.replicate a0.Sectors.toNat (VV.c (.int .i64 0)) = List.map vi (List.replicate a0.Sectors.toNat (0 : Int)) from replicate_vi _) trivial)) (VRun.loop hph1384))
 injection h with h; subst h
 exact fun_ok pm pn Go.Proofs.Try.func16 (r0 := VV.fw 1 (List.drop 0 (List.map unfr (List.map vi r1385))) r1385.length) (ans := [.reg (.n :: .n :: []), .reg (nN 4 []), .reg (nN 4 []), .sub ⟨[(3, some (VV.rf 1 0 ((List.replicate a0.Sectors.toNat (0 : Int)).length))), (12, none), (13, none), (14, none)], [none, some (List.map vi (List.replicate a0.Sectors.toNat (0 : Int)))], []⟩ (.exit 0) (nprofile_restSums_l0_0_e0 a0 r1385), .reg (.n :: .n :: [])]) (fr := true) (by kernel_rfl) (an (an (ti (ti trivial)) (an (ti (ti (an e1299 (ti trivial)))) (an (an (ti (ti (ti (ti trivial)))) e1386) (an (ti (ti trivial)) trivial)))) (an (show List.all (List.map vi r1385) new0 = true from (by exact new0_vi _)) trivial)) (Wv.of_eq (eqZ1_3 r1385))
def nprofile_turned (k : Nat) (a0 : STurnedMaps) (a1 : Int) (a2 : Int) : Option Int :=
  if (a0.Values.length : Int) ≠ 0 then (if a0.Sectors ≠ 0 then (some ((w64 (a1 + (w64 ((w64 (a2 * a0.Sectors)).tdiv (a0.Values.length : Int))))).tmod a0.Sectors)) else none) else none
theorem nprofile_turned_ok (k : Nat) (a0 : STurnedMaps) (a1 : Int) (a2 : Int) (r : Int) (h : nprofile_turned k a0 a1 a2 = some r) : VC Go.Proofs.Try.prog 24 [VV.ag (c_STurnedMaps a0), vi a1, vi a2] (vi r) := by
 unfold nprofile_turned at h
 obtain ⟨h1400, h⟩ := ifn h
 obtain ⟨h1401, h⟩ := ifn h
 have e1402 := (ti (ti (ti (ti (ti (ti (ti (ti (an h1400 (ti (ti (ti (an h1401 (ti trivial))))))))))))))
 injection h with h; subst h
 exact fun_ok pm pn Go.Proofs.Try.func24 (r0 := vi ((w64 (a1 + (w64 ((w64 (a2 * a0.Sectors)).tdiv (a0.Values.length : Int))))).tmod a0.Sectors)) (ans := [.reg (.n :: .n :: []), .reg (nN 14 [])]) (fr := true) (by kernel_rfl) (an (an (ti (ti trivial)) (an e1402 trivial)) (ti trivial)) (Wv.refl _)
def arZ1_10 (z0 : List Int) (z1 : Int) (z2 : STurnedMaps) (z3 : Int) (z4 : (List Int)) : List Ans := (nN 3 (.v (vi (z0.getD z1.toNat 0)) :: nN 3 (.v (vi ((z2.Values.getD ((0 : Int)).toNat default).getD z3.toNat 0)) :: nN 7 (.v (vi (z4.getD z3.toNat 0)) :: nN 4 []))))
def arZ1_11 (z0 : List Int) (z1 : Int) (z2 : STurnedMaps) (z3 : Int) (z4 : Int) (z5 : (List Int)) : List Ans := (nN 3 (.v (vi (z0.getD z1.toNat 0)) :: nN 3 (.v (vi ((z2.Values.getD z3.toNat default).getD z4.toNat 0)) :: nN 7 (.v (vi (z5.getD z4.toNat 0)) :: nN 4 []))))
def arZ1_12 (z0 : STurnedMaps) (z1 : Int) : List Ans := (.n :: .n :: .v (VV.tr (List.map vi (z0.Values.getD z1.toNat default)) ((z0.Values.getD z1.toNat default).length)) :: .n :: .n :: [])
def nprofile_mirrorSums_l1_0_h (a0 : STurnedMaps) (r1531 : (List Int)) (y1 : List Int) (x17 : Int) (y1z : List Int) (x24 : Int) : VS := ⟨mkA [(1, VV.pt 0 0), (3, VV.fr (List.map vi r1531) r1531.length), (4, VV.rf 1 0 y1z.length), (5, vi x17), (6, VV.tr (List.map vi (a0.Values.getD x17.toNat default)) ((a0.Values.getD x17.toNat default).length)), (15, VV.tr (List.map v_22 a0.Values) a0.Values.length), (16, vi (a0.Values.length : Int)), (17, vi x17), (23, vi ((y1.length : Nat) : Int)), (24, vi x24)], [some ⟨true, 1, c_STurnedMaps a0⟩, some ⟨false, 1, List.map vi y1z⟩], .nil⟩
def nprofile_mirrorSums_l1_0_e0 (a0 : STurnedMaps) (r1531 : (List Int)) (y1 : List Int) (x17 : Int) (r : (List Int)) : VS := ⟨mkA [(1, VV.pt 0 0), (3, VV.fr (List.map vi r1531) r1531.length), (4, VV.rf 1 0 r.length), (15, VV.tr (List.map v_22 a0.Values) a0.Values.length), (16, vi (a0.Values.length : Int)), (17, vi x17)], [some ⟨true, 1, c_STurnedMaps a0⟩, some ⟨false, 1, List.map vi r⟩], .nil⟩
def nprofile_mirrorSums_l1_0 (k : Nat) (a0 : STurnedMaps) (r1531 : (List Int)) (y1 : List Int) (x17 : Int) : Nat → (List Int) → Int → Option ((List Int))
  | 0, _, _ => none
  | fuel + 1, y1z, x24 => if x24 < ((y1.length : Nat) : Int) then ((nprofile_turned k a0 x24 x17).bind fun r1652 => (if 0 ≤ x24 ∧ x24 < (y1z.length : Int) then (if 0 ≤ r1652 ∧ r1652 < ((a0.Values.getD x17.toNat default).length : Int) then (if 0 ≤ r1652 ∧ r1652 < (r1531.length : Int) then (nprofile_mirrorSums_l1_0 k a0 r1531 y1 x17 fuel (y1z.set x24.toNat (w64 ((y1z.getD x24.toNat 0) + (w64 ((w64 (((a0.Values.getD x17.toNat default).getD r1652.toNat 0) * (a0.Values.length : Int))) - (r1531.getD r1652.toNat 0)))))) (w64 (x24 + 1))) else none) else none) else none)) else (some y1z)
theorem nprofile_mirrorSums_l1_0_ok (k : Nat) (a0 : STurnedMaps) (r1531 : (List Int)) (y1 : List Int) (x17 : Int) : ∀ (fuel : Nat) (y1z : List Int) (x24 : Int) (r : (List Int)), nprofile_mirrorSums_l1_0 k a0 r1531 y1 x17 fuel y1z x24 = some r → (VLoop none Go.Proofs.Try.prog (szF Go.Proofs.Try.f15) (bodyOf Go.Proofs.Try.f15 1) (nprofile_mirrorSums_l1_0_h a0 r1531 y1 x17 y1z x24) (.exit 2) (nprofile_mirrorSums_l1_0_e0 a0 r1531 y1 x17 r)) := by
 intro fuel
 induction fuel with
 | zero => intro y1z x24 r h; rw [nprofile_mirrorSums_l1_0.eq_1] at h; cases h
 | succ fuel ih =>
  intro y1z x24 r h
  rw [nprofile_mirrorSums_l1_0.eq_2] at h
  rcases ifs h with ⟨h1651, h⟩ | ⟨h1651, h⟩
  ·obtain ⟨r1652, h1653, h⟩ := bs h
   have e1654 := (nprofile_turned_ok k a0 x24 x17 _ h1653)
   obtain ⟨h1655, h⟩ := ifn h
   have e1656 := (show loadL Go.Proofs.Try.prog 3 (0 + x24.toNat * 1) (List.map vi y1z) = some (vi (y1z.getD x24.toNat 0)) from ld_map ag3 vi y1z 0 h1655 (by omega))
   obtain ⟨h1657, h⟩ := ifn h
   have e1658 := (show loadL Go.Proofs.Try.prog 3 (r1652.toNat * 1) (List.map vi (a0.Values.getD x17.toNat default)) = some (vi ((a0.Values.getD x17.toNat default).getD r1652.toNat 0)) from ld_map ag3 vi (a0.Values.getD x17.toNat default) 0 h1657 (by omega))
   obtain ⟨h1659, h⟩ := ifn h
   have e1660 := (show loadL Go.Proofs.Try.prog 3 (r1652.toNat * 1) (List.map vi r1531) = some (vi (r1531.getD r1652.toNat 0)) from ld_map ag3 vi r1531 0 h1659 (by omega))
   have e1661 := (show (0 + x24.toNat * 1) + 1 ≤ List.length (List.map vi y1z) from (by simp only [List.length_map]; omega))
   have e1662 := (ti (ti (an h1655 (an e1656 (ti (ti (an h1657 (an e1658 (ti (ti (ti (ti (ti (ti (an h1659 (an e1660 (ti (ti (an h1655 (an e1661 trivial))))))))))))))))))))
   have h2 := ih _ _ _ h
   obtain ⟨q, hv, hq⟩ := pkR (rd := none) (P := Go.Proofs.Try.prog) (fn := Go.Proofs.Try.f15) (k := 1) (s := (nprofile_mirrorSums_l1_0_h a0 r1531 y1 x17 y1z x24)) (ans := [.reg (.n :: []), .br true, .reg (.n :: .n :: []), .reg (nN 3 (.call (vi r1652) :: .n :: [])), .reg (arZ1_11 y1z x24 a0 x17 r1652 r1531), .reg (.n :: .n :: [])]) (c := ⟨[(1, none), (3, none), (4, some (VV.rf 1 0 ((y1z.set x24.toNat (w64 ((y1z.getD x24.toNat 0) + (w64 ((w64 (((a0.Values.getD x17.toNat default).getD r1652.toNat 0) * (a0.Values.length : Int))) - (r1531.getD r1652.toNat 0)))))).length))), (5, none), (6, none), (15, none), (16, none), (17, none), (23, none), (24, none)], [none, some (List.map vi (y1z.set x24.toNat (w64 ((y1z.getD x24.toNat 0) + (w64 ((w64 (((a0.Values.getD x17.toNat default).getD r1652.toNat 0) * (a0.Values.length : Int))) - (r1531.getD r1652.toNat 0)))))))], []⟩) (e := .normal) (s1 := (nprofile_mirrorSums_l1_0_h a0 r1531 y1 x17 (y1z.set x24.toNat (w64 ((y1z.getD x24.toNat 0) + (w64 ((w64 (((a0.Values.getD x17.toNat default).getD r1652.toNat 0) * (a0.Values.length : Int))) - (r1531.getD r1652.toNat 0)))))) (w64 (x24 + 1)))) (an (an (ti trivial) (an (an (decide_eq_true h1651) trivial) (an (an (ti (ti trivial)) (an (ti (ti (ti (an e1654 (ti trivial))))) e1662)) (ti (ti trivial))))) (an (an (show Wv (VV.rf 1 0 y1z.length) (VV.rf 1 0 ((y1z.set x24.toNat (w64 ((y1z.getD x24.toNat 0) + (w64 ((w64 (((a0.Values.getD x17.toNat default).getD r1652.toNat 0) * (a0.Values.length : Int))) - (r1531.getD r1652.toNat 0)))))).length)) from (Wv.of_eq (by simp))) trivial) (an (show putT (0 + x24.toNat * 1) (List.map vi y1z) [vi (w64 ((y1z.getD x24.toNat 0) + (w64 ((w64 (((a0.Values.getD x17.toNat default).getD r1652.toNat 0) * (a0.Values.length : Int))) - (r1531.getD r1652.toNat 0)))))] = List.map vi (y1z.set x24.toNat (w64 ((y1z.getD x24.toNat 0) + (w64 ((w64 (((a0.Values.getD x17.toNat default).getD r1652.toNat 0) * (a0.Values.length : Int))) - (r1531.getD r1652.toNat 0)))))) from (by exact putT_vi y1z h1655 (w64 ((y1z.getD x24.toNat 0) + (w64 ((w64 (((a0.Values.getD x17.toNat default).getD r1652.toNat 0) * (a0.Values.length : Int))) - (r1531.getD r1652.toNat 0))))) (by omega))) trivial))) (by kernel_rfl)
   exact round_next pm pn hv hq h2
  ·injection h with h; subst h
   exact round_stop (c := ⟨[(1, none), (3, none), (4, none), (15, none), (16, none), (17, none)], [none, none], []⟩) (s1 := (nprofile_mirrorSums_l1_0_e0 a0 r1531 y1 x17 y1z)) pm pn (ans := [.reg (.n :: []), .br false]) (by kernel_rfl) (by intro e; cases e) (an (an (ti trivial) (an (decide_eq_false h1651) trivial)) (ti trivial))
def nprofile_mirrorSums_l0_0_h (a0 : STurnedMaps) (r1531 : (List Int)) (y1 : List Int) (x17 : Int) : VS := ⟨mkA [(1, VV.pt 0 0), (3, VV.fr (List.map vi r1531) r1531.length), (4, VV.rf 1 0 y1.length), (15, VV.tr (List.map v_22 a0.Values) a0.Values.length), (16, vi (a0.Values.length : Int)), (17, vi x17)], [some ⟨true, 1, c_STurnedMaps a0⟩, some ⟨false, 1, List.map vi y1⟩], .nil⟩
def nprofile_mirrorSums_l0_0_e0 (a0 : STurnedMaps) (r1531 : (List Int)) (r : (List Int)) : VS := ⟨mkA [(4, VV.rf 1 0 r.length)], [some ⟨true, 1, c_STurnedMaps a0⟩, some ⟨false, 1, List.map vi r⟩], .nil⟩
def nprofile_mirrorSums_l0_0 (k : Nat) (a0 : STurnedMaps) (r1531 : (List Int)) : Nat → (List Int) → Int → Option ((List Int))
  | 0, _, _ => none
  | fuel + 1, y1, x17 => if x17 < (a0.Values.length : Int) then (if 0 ≤ x17 ∧ x17 < (a0.Values.length : Int) then ((nprofile_mirrorSums_l1_0 k a0 r1531 y1 x17 k y1 0).bind fun r1664 => (nprofile_mirrorSums_l0_0 k a0 r1531 fuel r1664 (w64 (x17 + 1)))) else none) else (some y1)
theorem nprofile_mirrorSums_l0_0_ok (k : Nat) (a0 : STurnedMaps) (r1531 : (List Int)) : ∀ (fuel : Nat) (y1 : List Int) (x17 : Int) (r : (List Int)), nprofile_mirrorSums_l0_0 k a0 r1531 fuel y1 x17 = some r → (VLoop none Go.Proofs.Try.prog (szF Go.Proofs.Try.f15) (bodyOf Go.Proofs.Try.f15 0) (nprofile_mirrorSums_l0_0_h a0 r1531 y1 x17) (.exit 0) (nprofile_mirrorSums_l0_0_e0 a0 r1531 r)) := by
 intro fuel
 induction fuel with
 | zero => intro y1 x17 r h; rw [nprofile_mirrorSums_l0_0.eq_1] at h; cases h
 | succ fuel ih =>
  intro y1 x17 r h
  rw [nprofile_mirrorSums_l0_0.eq_2] at h
  rcases ifs h with ⟨h1624, h⟩ | ⟨h1624, h⟩
  ·obtain ⟨h1625, h⟩ := ifn h
   have e1626 := (show loadL Go.Proofs.Try.prog 22 (x17.toNat * 1) (List.map v_22 a0.Values) = some (VV.tr (List.map vi (a0.Values.getD x17.toNat default)) ((a0.Values.getD x17.toNat default).length)) from ld_map ag22 v_22 a0.Values default h1625 (by omega))
   obtain ⟨r1664, h1663, h⟩ := bs h
   have hph1663 := nprofile_mirrorSums_l1_0_ok k a0 r1531 y1 x17 _ _ _ _ h1663
   have e1665 := (an (ti trivial) (VRun.loop hph1663))
   have h2 := ih _ _ _ h
   obtain ⟨q, hv, hq⟩ := pkR (rd := none) (P := Go.Proofs.Try.prog) (fn := Go.Proofs.Try.f15) (k := 0) (s := (nprofile_mirrorSums_l0_0_h a0 r1531 y1 x17)) (ans := [.reg (.n :: []), .br true, .reg (arZ1_12 a0 x17), .reg (nN 3 []), .sub ⟨[(1, none), (3, none), (4, none), (5, none), (6, none), (15, none), (16, none), (17, none), (23, none), (24, none)], [none, none], []⟩ (.exit 2) (nprofile_mirrorSums_l1_0_e0 a0 r1531 y1 x17 r1664), .reg (.n :: .n :: [])]) (c := ⟨[(1, none), (3, none), (4, none), (15, none), (16, none), (17, none)], [none, none], []⟩) (e := .normal) (s1 := (nprofile_mirrorSums_l0_0_h a0 r1531 r1664 (w64 (x17 + 1)))) (an (an (ti trivial) (an (an (decide_eq_true h1624) trivial) (an (an (ti (an h1625 (an e1626 (ti (ti trivial))))) (an (ti (ti (ti trivial))) e1665)) (ti (ti trivial))))) (ti trivial)) (by kernel_rfl)
   exact round_next pm pn hv hq h2
  ·injection h with h; subst h
   exact round_stop (c := ⟨[(4, none)], [none, none], []⟩) (s1 := (nprofile_mirrorSums_l0_0_e0 a0 r1531 y1)) pm pn (ans := [.reg (.n :: []), .br false]) (by kernel_rfl) (by intro e; cases e) (an (an (ti trivial) (an (decide_eq_false h1624) trivial)) (ti trivial))
def nprofile_mirrorSums (k : Nat) (a0 : STurnedMaps) : Option (List Int) :=
  (nprofile_restSums k a0).bind fun r1531 => (if 0 ≤ a0.Sectors ∧ a0.Sectors ≤ 1000000000 then ((nprofile_mirrorSums_l0_0 k a0 r1531 k (List.replicate a0.Sectors.toNat (0 : Int)) 0).bind fun r1667 => (some r1667)) else none)
theorem nprofile_mirrorSums_ok (k : Nat) (a0 : STurnedMaps) (r : (List Int)) (h : nprofile_mirrorSums k a0 = some r) : VC Go.Proofs.Try.prog 15 [VV.ag (c_STurnedMaps a0)] (VV.fw 1 (List.map vi r) r.length) := by
 unfold nprofile_mirrorSums at h
 obtain ⟨r1531, h1532, h⟩ := bs h
 have e1533 := (show VC Go.Proofs.Try.prog 16 [VV.ag (c_STurnedMaps a0)] (VV.fr (List.map vi r1531) r1531.length) from (VC.weak (nprofile_restSums_ok k a0 _ h1532) (Wv.fw rfl rfl)))
 obtain ⟨h1534, h⟩ := ifn h
 have e1535 := (show 0 ≤ a0.Sectors ∧ a0.Sectors = a0.Sectors ∧ (8 * a0.Sectors.toNat) ≤ 281474976710656 ∧ a0.Sectors < 1099511627776 from ⟨by omega, rfl, by omega, by omega⟩)
 have e1536 := (ti (an e1533 (ti (ti (an e1535 (ti (ti trivial)))))))
 obtain ⟨r1667, h1666, h⟩ := bs h
 have hph1666 := nprofile_mirrorSums_l0_0_ok k a0 r1531 _ _ _ _ h1666
 have e1668 := (an (an (an (show Wv (VV.rf 1 0 a0.Sectors.toNat) (VV.rf 1 0 ((List.replicate a0.Sectors.toNat (0 : Int)).length)) from (Wv.of_eq (by simp))) trivial) (an (show List.replicate a0.Sectors.toNat (VV.c (.int .i64 0)) = List.map vi (List.replicate a0.Sectors.toNat (0 : Int)) from replicate_vi _) trivial)) (VRun.loop hph1666))
 injection h with h; subst h
 exact fun_ok pm pn Go.Proofs.Try.func15 (r0 := VV.fw 1 (List.drop 0 (List.map unfr (List.map vi r1667))) r1667.length) (ans := [.reg (.n :: .n :: []), .reg (.n :: .call (VV.fr (List.map vi r1531) r1531.length) :: nN 5 []), .reg (nN 4 []), .sub ⟨[(1, none), (3, none), (4, some (VV.rf 1 0 ((List.replicate a0.Sectors.toNat (0 : Int)).length))), (15, none), (16, none), (17, none)], [none, some (List.map vi (List.replicate a0.Sectors.toNat (0 : Int)))], []⟩ (.exit 0) (nprofile_mirrorSums_l0_0_e0 a0 r1531 r1667), .reg (.n :: .n :: [])]) (fr := true) (by kernel_rfl) (an (an (ti (ti trivial)) (an e1536 (an (an (ti (ti (ti (ti trivial)))) e1668) (an (ti (ti trivial)) trivial)))) (an (show List.all (List.map vi r1667) new0 = true from (by exact new0_vi _)) trivial)) (Wv.of_eq (eqZ1_3 r1667))
def nprofile_divisor_l1_0_h (a0 : (List Int)) (x8 : Int) (x3z : Int) (x5 : Int) : VS := ⟨mkA [(3, vi x3z), (5, vi x5), (6, VV.tr (List.map vi a0) a0.length), (7, vi (a0.length : Int)), (8, vi x8)], [], .nil⟩
def nprofile_divisor_l1_0_e0 (a0 : (List Int)) (x8 : Int) (r : Int) : VS := ⟨mkA [(3, vi r), (6, VV.tr (List.map vi a0) a0.length), (7, vi (a0.length : Int)), (8, vi x8)], [], .nil⟩
def nprofile_divisor_l1_0 (k : Nat) (a0 : (List Int)) (x8 : Int) : Nat → Int → Int → Option (Int)
  | 0, _, _ => none
  | fuel + 1, x3z, x5 => if x5 = 0 then (some x3z) else (if x5 ≠ 0 then (nprofile_divisor_l1_0 k a0 x8 fuel x5 (x3z.tmod x5)) else none)
theorem nprofile_divisor_l1_0_ok (k : Nat) (a0 : (List Int)) (x8 : Int) : ∀ (fuel : Nat) (x3z : Int) (x5 : Int) (r : Int), nprofile_divisor_l1_0 k a0 x8 fuel x3z x5 = some r → (VLoop none Go.Proofs.Try.prog (szF Go.Proofs.Try.f31) (bodyOf Go.Proofs.Try.f31 1) (nprofile_divisor_l1_0_h a0 x8 x3z x5) (.exit 2) (nprofile_divisor_l1_0_e0 a0 x8 r)) := by
 intro fuel
 induction fuel with
 | zero => intro x3z x5 r h; rw [nprofile_divisor_l1_0.eq_1] at h; cases h
 | succ fuel ih =>
  intro x3z x5 r h
  rw [nprofile_divisor_l1_0.eq_2] at h
  rcases ifs h with ⟨h1747, h⟩ | ⟨h1747, h⟩
  ·injection h with h; subst h
   exact round_stop (c := ⟨[(3, none), (6, none), (7, none), (8, none)], [], []⟩) (s1 := (nprofile_divisor_l1_0_e0 a0 x8 x3z)) pm pn (ans := [.reg (.n :: .n :: []), .br false]) (by kernel_rfl) (by intro e; cases e) (an (an (ti (ti trivial)) (an (not_f (decide_eq_true h1747)) trivial)) (ti trivial))
  ·obtain ⟨h1748, h⟩ := ifn h
   have h2 := ih _ _ _ h
   obtain ⟨q, hv, hq⟩ := pkR (rd := none) (P := Go.Proofs.Try.prog) (fn := Go.Proofs.Try.f31) (k := 1) (s := (nprofile_divisor_l1_0_h a0 x8 x3z x5)) (ans := [.reg (.n :: .n :: []), .br true, .reg (nN 6 [])]) (c := ⟨[(3, none), (5, none), (6, none), (7, none), (8, none)], [], []⟩) (e := .normal) (s1 := (nprofile_divisor_l1_0_h a0 x8 x5 (x3z.tmod x5))) (an (an (an (ti (ti trivial)) (an (not_t (decide_eq_false h1747)) trivial)) (ti (ti (ti (an h1748 (ti (ti trivial))))))) (ti trivial)) (by kernel_rfl)
   exact round_next pm pn hv hq h2
def nprofile_divisor_l0_0_h (a0 : (List Int)) (x3 : Int) (x8 : Int) : VS := ⟨mkA [(3, vi x3), (6, VV.tr (List.map vi a0) a0.length), (7, vi (a0.length : Int)), (8, vi x8)], [], .nil⟩
def nprofile_divisor_l0_0_e0 (a0 : (List Int)) (r : Int) : VS := ⟨mkA [(3, vi r)], [], .nil⟩
def nprofile_divisor_l0_0 (k : Nat) (a0 : (List Int)) : Nat → Int → Int → Option (Int)
  | 0, _, _ => none
  | fuel + 1, x3, x8 => if x8 < (a0.length : Int) then (if 0 ≤ x8 ∧ x8 < (a0.length : Int) then ((nprofile_divisor_l1_0 k a0 x8 k x3 (a0.getD x8.toNat 0)).bind fun r1750 => (nprofile_divisor_l0_0 k a0 fuel r1750 (w64 (x8 + 1)))) else none) else (some x3)
theorem nprofile_divisor_l0_0_ok (k : Nat) (a0 : (List Int)) : ∀ (fuel : Nat) (x3 : Int) (x8 : Int) (r : Int), nprofile_divisor_l0_0 k a0 fuel x3 x8 = some r → (VLoop none Go.Proofs.Try.prog (szF Go.Proofs.Try.f31) (bodyOf Go.Proofs.Try.f31 0) (nprofile_divisor_l0_0_h a0 x3 x8) (.exit 0) (nprofile_divisor_l0_0_e0 a0 r)) := by
 intro fuel
 induction fuel with
 | zero => intro x3 x8 r h; rw [nprofile_divisor_l0_0.eq_1] at h; cases h
 | succ fuel ih =>
  intro x3 x8 r h
  rw [nprofile_divisor_l0_0.eq_2] at h
  rcases ifs h with ⟨h1740, h⟩ | ⟨h1740, h⟩
  ·obtain ⟨h1741, h⟩ := ifn h
   have e1742 := (show loadL Go.Proofs.Try.prog 3 (x8.toNat * 1) (List.map vi a0) = some (vi (a0.getD x8.toNat 0)) from ld_map ag3 vi a0 0 h1741 (by omega))
   obtain ⟨r1750, h1749, h⟩ := bs h
   have hph1749 := nprofile_divisor_l1_0_ok k a0 x8 _ _ _ _ h1749
   have e1751 := (an (ti trivial) (VRun.loop hph1749))
   have h2 := ih _ _ _ h
   obtain ⟨q, hv, hq⟩ := pkR (rd := none) (P := Go.Proofs.Try.prog) (fn := Go.Proofs.Try.f31) (k := 0) (s := (nprofile_divisor_l0_0_h a0 x3 x8)) (ans := [.reg (.n :: []), .br true, .reg (.n :: .v (vi (a0.getD x8.toNat 0)) :: .n :: []), .sub ⟨[(3, none), (5, none), (6, none), (7, none), (8, none)], [], []⟩ (.exit 2) (nprofile_divisor_l1_0_e0 a0 x8 r1750), .reg (.n :: .n :: [])]) (c := ⟨[(3, none), (6, none), (7, none), (8, none)], [], []⟩) (e := .normal) (s1 := (nprofile_divisor_l0_0_h a0 r1750 (w64 (x8 + 1)))) (an (an (ti trivial) (an (an (decide_eq_true h1740) trivial) (an (an (an h1741 (an e1742 (ti trivial))) e1751) (ti (ti trivial))))) (ti trivial)) (by kernel_rfl)
   exact round_next pm pn hv hq h2
  ·injection h with h; subst h
   exact round_stop (c := ⟨[(3, none)], [], []⟩) (s1 := (nprofile_divisor_l0_0_e0 a0 x3)) pm pn (ans := [.reg (.n :: []), .br false]) (by kernel_rfl) (by intro e; cases e) (an (an (ti trivial) (an (decide_eq_false h1740) trivial)) (ti trivial))
def nprofile_divisor (k : Nat) (a0 : (List Int)) : Option Int :=
  (nprofile_divisor_l0_0 k a0 k 0 0).bind fun r1753 => (some (maxI r1753 (w64 (0 - r1753))))
theorem nprofile_divisor_ok (k : Nat) (a0 : (List Int)) (r : Int) (h : nprofile_divisor k a0 = some r) : VC Go.Proofs.Try.prog 31 [VV.tr (List.map vi a0) a0.length] (vi r) := by
 unfold nprofile_divisor at h
 obtain ⟨r1753, h1752, h⟩ := bs h
 have hph1752 := nprofile_divisor_l0_0_ok k a0 _ _ _ _ h1752
 have e1754 := (an (ti trivial) (VRun.loop hph1752))
 injection h with h; subst h
 exact fun_ok pm pn Go.Proofs.Try.func31 (r0 := vi (maxI r1753 (w64 (0 - r1753)))) (ans := [.reg (.n :: []), .reg (.n :: []), .reg (nN 3 []), .sub ⟨[(3, none), (6, none), (7, none), (8, none)], [], []⟩ (.exit 0) (nprofile_divisor_l0_0_e0 a0 r1753), .reg (nN 5 [])]) (fr := true) (by kernel_rfl) (an (an (ti trivial) (an (ti trivial) (an (an (ti (ti (ti trivial))) e1754) (an (ti (ti (ti (ti (ti trivial))))) trivial)))) (ti trivial)) (Wv.refl _)
theorem eqZ1_4 (z0 : Int) (z1 : Int) : [VV.tr (List.map vi ([z0, z1] : List Int)) (([z0, z1] : List Int).length)] = [VV.tr [vi z0, vi z1] 2] := by first | rfl | (simp only [unfr_vi, List.map_cons, List.map_nil, un_i, un_tr, List.length_map, List.length_cons, List.length_nil]; done) | (simp only [unfr_vi, List.map_cons, List.map_nil, un_i, un_tr, List.length_map, List.length_cons, List.length_nil]; rfl) | (simp only [unfr_vi, List.map_cons, List.map_nil, un_i, un_tr, List.length_map, List.length_cons, List.length_nil, List.length_cons, List.length_nil, List.length_append]; done)
theorem eqZ1_5 (z0 : Int) (z1 : Int) (z2 : Int) : VV.ag [vi (w64 (z0.tdiv z1)), vi (w64 (z2.tdiv z1))] = VV.ag (c_SFrac (⟨w64 (z0.tdiv z1), w64 (z2.tdiv z1)⟩ : SFrac)) := by first | rfl | (simp only [unfr_vi, List.map_cons, List.map_nil, un_i, unfr_c_SFrac]; done) | (simp only [unfr_vi, List.map_cons, List.map_nil, un_i, unfr_c_SFrac]; rfl) | (simp only [unfr_vi, List.map_cons, List.map_nil, un_i, unfr_c_SFrac, c_SFrac, List.length_cons, List.length_nil, List.length_append]; done)
def nprofile_lowest (k : Nat) (a0 : Int) (a1 : Int) : Option SFrac :=
  (nprofile_divisor k ([a0, a1] : List Int)).bind fun r1760 => (if r1760 ≠ 0 then (some (⟨w64 (a0.tdiv r1760), w64 (a1.tdiv r1760)⟩ : SFrac)) else none)
theorem nprofile_lowest_ok (k : Nat) (a0 : Int) (a1 : Int) (r : SFrac) (h : nprofile_lowest k a0 a1 = some r) : VC Go.Proofs.Try.prog 23 [vi a0, vi a1] (VV.ag (c_SFrac r)) := by
 unfold nprofile_lowest at h
 obtain ⟨r1760, h1761, h⟩ := bs h
 have e1762 := (VC.args (nprofile_divisor_ok k ([a0, a1] : List Int) _ h1761) (eqZ1_4 a0 a1))
 obtain ⟨h1763, h⟩ := ifn h
 have e1764 := (ti (ti (an h1763 (ti (ti (an h1763 (ti (ti trivial))))))))
 injection h with h; subst h
 exact fun_ok pm pn Go.Proofs.Try.func23 (r0 := VV.ag [vi (w64 (a0.tdiv r1760)), vi (w64 (a1.tdiv r1760))]) (ans := [.reg (.n :: []), .reg (.n :: .n :: .v VV.any :: .call (vi r1760) :: .n :: []), .reg (nN 8 [])]) (fr := true) (by kernel_rfl) (an (an (ti trivial) (an (ti (ti (ti (an e1762 (ti trivial))))) (an e1764 trivial))) (an (ti (ti (ti trivial))) trivial)) (Wv.of_eq (eqZ1_5 a0 r1760 a1))
def nprofile_divided_l0_0_h (a0 : (List Int)) (a1 : Int) (y0 : List SFrac) (x13 : Int) : VS := ⟨mkA [(1, vi a1), (5, VV.rf 0 0 y0.length), (11, VV.tr (List.map vi a0) a0.length), (12, vi (a0.length : Int)), (13, vi x13)], [some ⟨false, 2, List.flatMap c_SFrac y0⟩], .nil⟩
def nprofile_divided_l0_0_e0 (a0 : (List Int)) (a1 : Int) (r : (List SFrac)) : VS := ⟨mkA [(5, VV.rf 0 0 r.length)], [some ⟨false, 2, List.flatMap c_SFrac r⟩], .nil⟩
def nprofile_divided_l0_0 (k : Nat) (a0 : (List Int)) (a1 : Int) : Nat → (List SFrac) → Int → Option ((List SFrac))
  | 0, _, _ => none
  | fuel + 1, y0, x13 => if x13 < (a0.length : Int) then (if 0 ≤ x13 ∧ x13 < (a0.length : Int) then ((nprofile_lowest k (a0.getD x13.toNat 0) a1).bind fun r1819 => (if 0 ≤ x13 ∧ x13 < (y0.length : Int) then (nprofile_divided_l0_0 k a0 a1 fuel (y0.set x13.toNat r1819) (w64 (x13 + 1))) else none)) else none) else (some y0)
theorem nprofile_divided_l0_0_ok (k : Nat) (a0 : (List Int)) (a1 : Int) : ∀ (fuel : Nat) (y0 : List SFrac) (x13 : Int) (r : (List SFrac)), nprofile_divided_l0_0 k a0 a1 fuel y0 x13 = some r → (VLoop none Go.Proofs.Try.prog (szF Go.Proofs.Try.f14) (bodyOf Go.Proofs.Try.f14 0) (nprofile_divided_l0_0_h a0 a1 y0 x13) (.exit 0) (nprofile_divided_l0_0_e0 a0 a1 r)) := by
 intro fuel
 induction fuel with
 | zero => intro y0 x13 r h; rw [nprofile_divided_l0_0.eq_1] at h; cases h
 | succ fuel ih =>
  intro y0 x13 r h
  rw [nprofile_divided_l0_0.eq_2] at h
  rcases ifs h with ⟨h1816, h⟩ | ⟨h1816, h⟩
  ·obtain ⟨h1817, h⟩ := ifn h
   have e1818 := (show loadL Go.Proofs.Try.prog 3 (x13.toNat * 1) (List.map vi a0) = some (vi (a0.getD x13.toNat 0)) from ld_map ag3 vi a0 0 h1817 (by omega))
   obtain ⟨r1819, h1820, h⟩ := bs h
   have e1821 := (nprofile_lowest_ok k (a0.getD x13.toNat 0) a1 _ h1820)
   obtain ⟨h1822, h⟩ := ifn h
   have e1823 := (show (0 + x13.toNat * 2) + 2 ≤ List.length (List.flatMap c_SFrac y0) from (by rw [flat_len len_c_SFrac]; have := h1822; omega))
   have e1824 := (ti (ti (ti (ti (an e1821 (an h1822 (an e1823 trivial)))))))
   have h2 := ih _ _ _ h
   obtain ⟨q, hv, hq⟩ := pkR (rd := none) (P := Go.Proofs.Try.prog) (fn := Go.Proofs.Try.f14) (k := 0) (s := (nprofile_divided_l0_0_h a0 a1 y0 x13)) (ans := [.reg (.n :: []), .br true, .reg (.n :: .n :: .v (vi (a0.getD x13.toNat 0)) :: .n :: .n :: []), .reg (nN 4 (.call (VV.ag (c_SFrac r1819)) :: .n :: .n :: [])), .reg (.n :: .n :: [])]) (c := ⟨[(1, none), (5, some (VV.rf 0 0 ((y0.set x13.toNat r1819).length))), (11, none), (12, none), (13, none)], [some (List.flatMap c_SFrac (y0.set x13.toNat r1819))], []⟩) (e := .normal) (s1 := (nprofile_divided_l0_0_h a0 a1 (y0.set x13.toNat r1819) (w64 (x13 + 1)))) (an (an (ti trivial) (an (an (decide_eq_true h1816) trivial) (an (an (ti (an h1817 (an e1818 (ti (ti trivial))))) e1824) (ti (ti trivial))))) (an (an (show Wv (VV.rf 0 0 y0.length) (VV.rf 0 0 ((y0.set x13.toNat r1819).length)) from (Wv.of_eq (by simp))) trivial) (an (show putT (0 + x13.toNat * 2) (List.flatMap c_SFrac y0) [vi r1819.Num, vi r1819.Den] = List.flatMap c_SFrac (y0.set x13.toNat r1819) from (by exact putT_flat len_c_SFrac y0 h1822 r1819 (by omega))) trivial))) (by kernel_rfl)
   exact round_next pm pn hv hq h2
  ·injection h with h; subst h
   exact round_stop (c := ⟨[(5, none)], [none], []⟩) (s1 := (nprofile_divided_l0_0_e0 a0 a1 y0)) pm pn (ans := [.reg (.n :: []), .br false]) (by kernel_rfl) (by intro e; cases e) (an (an (ti trivial) (an (decide_eq_false h1816) trivial)) (ti trivial))
theorem eqZ1_6 (z0 : (List SFrac)) : VV.fw 2 (List.drop 0 (List.map unfr (List.flatMap c_SFrac z0))) z0.length = VV.fw 2 (List.flatMap c_SFrac z0) z0.length := by first | rfl | (simp only [drop0, List.map_cons, List.map_nil, List.length_map, unfr_c_SFrac]; done) | (simp only [drop0, List.map_cons, List.map_nil, List.length_map, unfr_c_SFrac]; rfl) | (simp only [drop0, List.map_cons, List.map_nil, List.length_map, unfr_c_SFrac, c_SFrac, List.length_cons, List.length_nil, List.length_append]; done)
def nprofile_divided (k : Nat) (a0 : (List Int)) (a1 : Int) : Option (List SFrac) :=
  if 0 ≤ (a0.length : Int) ∧ (a0.length : Int) ≤ 1000000000 then ((nprofile_divided_l0_0 k a0 a1 k (List.replicate (a0.length : Int).toNat (⟨0, 0⟩ : SFrac)) 0).bind fun r1826 => (some r1826)) else none
theorem nprofile_divided_ok (k : Nat) (a0 : (List Int)) (a1 : Int) (r : (List SFrac)) (h : nprofile_divided k a0 a1 = some r) : VC Go.Proofs.Try.prog 14 [VV.tr (List.map vi a0) a0.length, vi a1] (VV.fw 2 (List.flatMap c_SFrac r) r.length) := by
 unfold nprofile_divided at h
 obtain ⟨h1794, h⟩ := ifn h
 have e1795 := (show 0 ≤ (a0.length : Int) ∧ (a0.length : Int) = (a0.length : Int) ∧ (16 * (a0.length : Int).toNat) ≤ 281474976710656 ∧ (a0.length : Int) < 1099511627776 from ⟨by omega, rfl, by omega, by omega⟩)
 obtain ⟨r1826, h1825, h⟩ := bs h
 have hph1825 := nprofile_divided_l0_0_ok k a0 a1 _ _ _ _ h1825
 have e1827 := (an (an (an (show Wv (VV.rf 0 0 ((a0.length : Int).toNat)) (VV.rf 0 0 ((List.replicate (a0.length : Int).toNat (⟨0, 0⟩ : SFrac)).length)) from (Wv.of_eq (by simp))) trivial) (an (show zeroCells (.agg #[.int .i64 0, .int .i64 0]) ((a0.length : Int).toNat * 2) = List.flatMap c_SFrac (List.replicate (a0.length : Int).toNat (⟨0, 0⟩ : SFrac)) from zero_flat c_SFrac (.agg #[.int .i64 0, .int .i64 0]) (⟨0, 0⟩ : SFrac) 2 (by decide) rfl rfl _) trivial)) (VRun.loop hph1825))
 injection h with h; subst h
 exact fun_ok pm pn Go.Proofs.Try.func14 (r0 := VV.fw 2 (List.drop 0 (List.map unfr (List.flatMap c_SFrac r1826))) r1826.length) (ans := [.reg (.n :: []), .reg (nN 4 []), .reg (nN 3 []), .sub ⟨[(1, none), (5, some (VV.rf 0 0 ((List.replicate (a0.length : Int).toNat (⟨0, 0⟩ : SFrac)).length))), (11, none), (12, none), (13, none)], [some (List.flatMap c_SFrac (List.replicate (a0.length : Int).toNat (⟨0, 0⟩ : SFrac)))], []⟩ (.exit 0) (nprofile_divided_l0_0_e0 a0 a1 r1826), .reg (.n :: .n :: [])]) (fr := true) (by kernel_rfl) (an (an (ti trivial) (an (ti (ti (an e1795 (ti trivial)))) (an (an (ti (ti (ti trivial))) e1827) (an (ti (ti trivial)) trivial)))) (an (show List.all (List.flatMap c_SFrac r1826) new0 = true from (by exact new0_c_SFrac _)) trivial)) (Wv.of_eq (eqZ1_6 r1826))
def arZ1_13 (z0 : (List Int)) (z1 : (List SFrac)) : List Ans := (.n :: .call (VV.fr (List.map vi z0) z0.length) :: nN 7 (.call (VV.fr (List.flatMap c_SFrac z1) z1.length) :: .n :: .n :: []))
def nprofile_MirrorPart (k : Nat) (a0 : STurnedMaps) : Option ((List SFrac) × Int) :=
  (nprofile_CheckTurned k a0).bind fun r1832 => (if r1832 = 0 then ((nprofile_mirrorSums k a0).bind fun r1836 => ((nprofile_divided k r1836 (w64 ((a0.Values.length : Int) * (a0.Values.length : Int)))).bind fun r1839 => (some (r1839, 0)))) else (some ([], r1832)))
theorem nprofile_MirrorPart_ok (k : Nat) (a0 : STurnedMaps) (r : ((List SFrac) × Int)) (h : nprofile_MirrorPart k a0 = some r) : VC Go.Proofs.Try.prog 7 [VV.ag (c_STurnedMaps a0)] (VV.tu [VV.fr (List.flatMap c_SFrac r.1) r.1.length, vi r.2]) := by
 unfold nprofile_MirrorPart at h
 obtain ⟨r1832, h1833, h⟩ := bs h
 have e1834 := (ti (an (nprofile_CheckTurned_ok k a0 _ h1833) (ti trivial)))
 rcases ifs h with ⟨h1835, h⟩ | ⟨h1835, h⟩
 ·obtain ⟨r1836, h1837, h⟩ := bs h
  have e1838 := (show VC Go.Proofs.Try.prog 15 [VV.ag (c_STurnedMaps a0)] (VV.fr (List.map vi r1836) r1836.length) from (VC.weak (nprofile_mirrorSums_ok k a0 _ h1837) (Wv.fw rfl rfl)))
  obtain ⟨r1839, h1840, h⟩ := bs h
  have e1841 := (show VC Go.Proofs.Try.prog 14 [VV.tr (List.map vi r1836) r1836.length, vi (w64 ((a0.Values.length : Int) * (a0.Values.length : Int)))] (VV.fr (List.flatMap c_SFrac r1839) r1839.length) from (VC.weak (nprofile_divided_ok k r1836 (w64 ((a0.Values.length : Int) * (a0.Values.length : Int))) _ h1840) (Wv.fw rfl rfl)))
  have e1842 := (ti (an e1838 (ti (ti (ti (ti (ti (ti (ti (an e1841 (ti (ti trivial))))))))))))
  injection h with h; subst h
  exact fun_ok pm pn Go.Proofs.Try.func7 (r0 := VV.tu [VV.fr (List.flatMap c_SFrac r1839) r1839.length, vi 0]) (ans := [.reg (nN 3 []), .reg (.n :: .call (vi r1832) :: .n :: []), .reg (.n :: .n :: []), .br false, .reg (arZ1_13 r1836 r1839)]) (fr := true) (by kernel_rfl) (an (an (ti (ti (ti trivial))) (an (an e1834 (an (ti (ti trivial)) (an (not_f (decide_eq_true h1835)) trivial))) (an e1842 trivial))) (ti (ti trivial))) (Wv.refl _)
 ·injection h with h; subst h
  exact fun_ok pm pn Go.Proofs.Try.func7 (r0 := VV.tu [VV.c (.slice none 0 0), vi r1832]) (ans := [.reg (nN 3 []), .reg (.n :: .call (vi r1832) :: .n :: []), .reg (.n :: .n :: []), .br true, .reg (nN 3 [])]) (fr := true) (by kernel_rfl) (an (an (ti (ti (ti trivial))) (an e1834 (an (ti (ti trivial)) (an (not_t (decide_eq_false h1835)) (an (ti (ti (ti trivial))) trivial))))) (ti (ti trivial))) (Wv.tuL (.cons Wv.nilFr (.cons (Wv.refl _) .nil)))
def arZ1_14 (z0 : (List Int)) (z1 : (List SFrac)) : List Ans := (.n :: .call (VV.fr (List.map vi z0) z0.length) :: nN 3 (.call (VV.fr (List.flatMap c_SFrac z1) z1.length) :: .n :: .n :: []))
def nprofile_RestPart (k : Nat) (a0 : STurnedMaps) : Option ((List SFrac) × Int) :=
  (nprofile_CheckTurned k a0).bind fun r1854 => (if r1854 = 0 then ((nprofile_restSums k a0).bind fun r1858 => ((nprofile_divided k r1858 (a0.Values.length : Int)).bind fun r1861 => (some (r1861, 0)))) else (some ([], r1854)))
theorem nprofile_RestPart_ok (k : Nat) (a0 : STurnedMaps) (r : ((List SFrac) × Int)) (h : nprofile_RestPart k a0 = some r) : VC Go.Proofs.Try.prog 8 [VV.ag (c_STurnedMaps a0)] (VV.tu [VV.fr (List.flatMap c_SFrac r.1) r.1.length, vi r.2]) := by
 unfold nprofile_RestPart at h
 obtain ⟨r1854, h1855, h⟩ := bs h
 have e1856 := (ti (an (nprofile_CheckTurned_ok k a0 _ h1855) (ti trivial)))
 rcases ifs h with ⟨h1857, h⟩ | ⟨h1857, h⟩
 ·obtain ⟨r1858, h1859, h⟩ := bs h
  have e1860 := (show VC Go.Proofs.Try.prog 16 [VV.ag (c_STurnedMaps a0)] (VV.fr (List.map vi r1858) r1858.length) from (VC.weak (nprofile_restSums_ok k a0 _ h1859) (Wv.fw rfl rfl)))
  obtain ⟨r1861, h1862, h⟩ := bs h
  have e1863 := (show VC Go.Proofs.Try.prog 14 [VV.tr (List.map vi r1858) r1858.length, vi (a0.Values.length : Int)] (VV.fr (List.flatMap c_SFrac r1861) r1861.length) from (VC.weak (nprofile_divided_ok k r1858 (a0.Values.length : Int) _ h1862) (Wv.fw rfl rfl)))
  have e1864 := (ti (an e1860 (ti (ti (ti (an e1863 (ti (ti trivial))))))))
  injection h with h; subst h
  exact fun_ok pm pn Go.Proofs.Try.func8 (r0 := VV.tu [VV.fr (List.flatMap c_SFrac r1861) r1861.length, vi 0]) (ans := [.reg (nN 3 []), .reg (.n :: .call (vi r1854) :: .n :: []), .reg (.n :: .n :: []), .br false, .reg (arZ1_14 r1858 r1861)]) (fr := true) (by kernel_rfl) (an (an (ti (ti (ti trivial))) (an (an e1856 (an (ti (ti trivial)) (an (not_f (decide_eq_true h1857)) trivial))) (an e1864 trivial))) (ti (ti trivial))) (Wv.refl _)
 ·injection h with h; subst h
  exact fun_ok pm pn Go.Proofs.Try.func8 (r0 := VV.tu [VV.c (.slice none 0 0), vi r1854]) (ans := [.reg (nN 3 []), .reg (.n :: .call (vi r1854) :: .n :: []), .reg (.n :: .n :: []), .br true, .reg (nN 3 [])]) (fr := true) (by kernel_rfl) (an (an (ti (ti (ti trivial))) (an e1856 (an (ti (ti trivial)) (an (not_t (decide_eq_false h1857)) (an (ti (ti (ti trivial))) trivial))))) (ti (ti trivial))) (Wv.tuL (.cons Wv.nilFr (.cons (Wv.refl _) .nil)))
def arZ1_15 (z0 : (List SFrac)) (z1 : Int) (z2 : (List SFrac)) : List Ans := (nN 3 (.v (VV.ag (c_SFrac (z0.getD z1.toNat default))) :: nN 3 (.v (VV.ag (c_SFrac (z2.getD z1.toNat default))) :: .n :: [])))
def nspeculumbase_Fracs_l0_0_h (a0 : (List SFrac)) (a1 : (List SFrac)) (x5 : Int) : VS := ⟨mkA [(0, VV.tr (List.flatMap c_SFrac a0) a0.length), (1, VV.tr (List.flatMap c_SFrac a1) a1.length), (5, vi x5)], [], .nil⟩
def nspeculumbase_Fracs_l0_0_e0 (a0 : (List SFrac)) (a1 : (List SFrac)) (r : Unit) : VS := ⟨mkA [(4, vb false)], [], .nil⟩
def nspeculumbase_Fracs_l0_0_e1 (a0 : (List SFrac)) (a1 : (List SFrac)) (r : Unit) : VS := ⟨mkA [], [], .nil⟩
def nspeculumbase_Fracs_l0_0 (k : Nat) (a0 : (List SFrac)) (a1 : (List SFrac)) : Nat → Int → Option (Sum Unit Unit)
  | 0, _ => none
  | fuel + 1, x5 => if x5 < (a0.length : Int) then (if 0 ≤ x5 ∧ x5 < (a0.length : Int) then (if 0 ≤ x5 ∧ x5 < (a1.length : Int) then (if (((a0.getD x5.toNat default).Num : Int) == ((a1.getD x5.toNat default).Num) && (((a0.getD x5.toNat default).Den : Int) == ((a1.getD x5.toNat default).Den) && true)) = true then (nspeculumbase_Fracs_l0_0 k a0 a1 fuel (w64 (x5 + 1))) else (some (.inl ()))) else none) else none) else (some (.inr ()))
theorem nspeculumbase_Fracs_l0_0_ok (k : Nat) (a0 : (List SFrac)) (a1 : (List SFrac)) : ∀ (fuel : Nat) (x5 : Int) (r : Sum Unit Unit), nspeculumbase_Fracs_l0_0 k a0 a1 fuel x5 = some r → (match r with | .inl r => VLoop none Go.Proofs.Try.prog (szF Go.Proofs.Try.f9) (bodyOf Go.Proofs.Try.f9 0) (nspeculumbase_Fracs_l0_0_h a0 a1 x5) .ret (nspeculumbase_Fracs_l0_0_e0 a0 a1 r) | .inr r => VLoop none Go.Proofs.Try.prog (szF Go.Proofs.Try.f9) (bodyOf Go.Proofs.Try.f9 0) (nspeculumbase_Fracs_l0_0_h a0 a1 x5) (.exit 0) (nspeculumbase_Fracs_l0_0_e1 a0 a1 r)) := by
 intro fuel
 induction fuel with
 | zero => intro x5 r h; rw [nspeculumbase_Fracs_l0_0.eq_1] at h; cases h
 | succ fuel ih =>
  intro x5 r h
  rw [nspeculumbase_Fracs_l0_0.eq_2] at h
  rcases ifs h with ⟨h1913, h⟩ | ⟨h1913, h⟩
  ·obtain ⟨h1914, h⟩ := ifn h
   have e1915 := (show loadL Go.Proofs.Try.prog 38 (x5.toNat * 2) (List.flatMap c_SFrac a0) = some (VV.ag (c_SFrac (a0.getD x5.toNat default))) from ld_whole ag38 c_SFrac 2 sz38 len_c_SFrac a0 default h1914 (by omega))
   obtain ⟨h1916, h⟩ := ifn h
   have e1917 := (show loadL Go.Proofs.Try.prog 38 (x5.toNat * 2) (List.flatMap c_SFrac a1) = some (VV.ag (c_SFrac (a1.getD x5.toNat default))) from ld_whole ag38 c_SFrac 2 sz38 len_c_SFrac a1 default h1916 (by omega))
   have e1918 := (show List.map kdV [Value.int .i64 ((a0.getD x5.toNat default).Num), Value.int .i64 ((a0.getD x5.toNat default).Den)] = List.map kdV [Value.int .i64 ((a1.getD x5.toNat default).Num), Value.int .i64 ((a1.getD x5.toNat default).Den)] ∧ EqOK Go.Proofs.Try.prog 38 (List.map kdV [Value.int .i64 ((a1.getD x5.toNat default).Num), Value.int .i64 ((a1.getD x5.toNat default).Den)]) from ⟨rfl, eqok38⟩)
   have e1919 := (ti (ti (an h1914 (an e1915 (ti (ti (an h1916 (an e1917 (an e1918 trivial)))))))))
   rcases ifs h with ⟨h1920, h⟩ | ⟨h1920, h⟩
   ·have h2 := ih _ _ h
    obtain ⟨q, hv, hq⟩ := pkR (rd := none) (P := Go.Proofs.Try.prog) (fn := Go.Proofs.Try.f9) (k := 0) (s := (nspeculumbase_Fracs_l0_0_h a0 a1 x5)) (ans := [.reg (nN 4 []), .br true, .reg (arZ1_15 a0 x5 a1), .br false, .reg (nN 3 [])]) (c := ⟨[(0, none), (1, none), (5, none)], [], []⟩) (e := .normal) (s1 := (nspeculumbase_Fracs_l0_0_h a0 a1 (w64 (x5 + 1)))) (an (an (an (ti (ti (ti (ti trivial)))) (an (decide_eq_true h1913) trivial)) (an (an e1919 (an (not_f h1920) trivial)) (ti (ti (ti trivial))))) (ti trivial)) (by kernel_rfl)
    cases r with
    | inl r => exact round_next pm pn hv hq h2
    | inr r =>
     exact round_next pm pn hv hq h2
   ·injection h with h; subst h
    exact round_stop (c := ⟨[(4, none)], [], []⟩) (s1 := (nspeculumbase_Fracs_l0_0_e0 a0 a1 ())) pm pn (ans := [.reg (nN 4 []), .br true, .reg (arZ1_15 a0 x5 a1), .br true, .reg (.n :: [])]) (by kernel_rfl) (by intro e; cases e) (an (an (an (ti (ti (ti (ti trivial)))) (an (decide_eq_true h1913) trivial)) (an e1919 (an (not_t (bool_f h1920)) (an (ti trivial) trivial)))) (ti trivial))
  ·injection h with h; subst h
   exact round_stop (c := ⟨[], [], []⟩) (s1 := (nspeculumbase_Fracs_l0_0_e1 a0 a1 ())) pm pn (ans := [.reg (nN 4 []), .br false]) (by kernel_rfl) (by intro e; cases e) (an (an (ti (ti (ti (ti trivial)))) (an (decide_eq_false h1913) trivial)) (ti trivial))
def nspeculumbase_Fracs (k : Nat) (a0 : (List SFrac)) (a1 : (List SFrac)) : Option Bool :=
  if (a0.length : Int) = (a1.length : Int) then ((nspeculumbase_Fracs_l0_0 k a0 a1 k 0).bind fun r1922 => (match r1922 with | .inl r1923 => (some false) | .inr r1924 => (some true))) else (some false)
theorem nspeculumbase_Fracs_ok (k : Nat) (a0 : (List SFrac)) (a1 : (List SFrac)) (r : Bool) (h : nspeculumbase_Fracs k a0 a1 = some r) : VC Go.Proofs.Try.prog 9 [VV.tr (List.flatMap c_SFrac a0) a0.length, VV.tr (List.flatMap c_SFrac a1) a1.length] (vb r) := by
 unfold nspeculumbase_Fracs at h
 rcases ifs h with ⟨h1896, h⟩ | ⟨h1896, h⟩
 ·obtain ⟨r1922, h1921, h⟩ := bs h
  have hph1921 := nspeculumbase_Fracs_l0_0_ok k a0 a1 _ _ _ h1921
  cases r1922 with
  | inl r1923 =>
   dsimp only at h
   have e1925 := (an (ti trivial) (VRun.loop hph1921))
   injection h with h; subst h
   exact fun_ok pm pn Go.Proofs.Try.func9 (r0 := vb false) (ans := [.reg (.n :: []), .reg (nN 5 []), .br false, .reg (.n :: []), .sub ⟨[(0, none), (1, none), (5, none)], [], []⟩ .ret (nspeculumbase_Fracs_l0_0_e0 a0 a1 r1923)]) (fr := true) (by kernel_rfl) (an (an (ti trivial) (an (an (ti (ti (ti (ti (ti trivial))))) (an (not_f (decide_eq_true h1896)) trivial)) (an (ti trivial) e1925))) (ti trivial)) (Wv.refl _)
  | inr r1924 =>
   dsimp only at h
   have e1926 := (an (ti trivial) (VRun.loop hph1921))
   injection h with h; subst h
   exact fun_ok pm pn Go.Proofs.Try.func9 (r0 := vb true) (ans := [.reg (.n :: []), .reg (nN 5 []), .br false, .reg (.n :: []), .sub ⟨[(0, none), (1, none), (5, none)], [], []⟩ (.exit 0) (nspeculumbase_Fracs_l0_0_e1 a0 a1 r1924), .reg (.n :: [])]) (fr := true) (by kernel_rfl) (an (an (ti trivial) (an (an (ti (ti (ti (ti (ti trivial))))) (an (not_f (decide_eq_true h1896)) trivial)) (an (an (ti trivial) e1926) (an (ti trivial) trivial)))) (ti trivial)) (Wv.refl _)
 ·injection h with h; subst h
  exact fun_ok pm pn Go.Proofs.Try.func9 (r0 := vb false) (ans := [.reg (.n :: []), .reg (nN 5 []), .br true, .reg (.n :: [])]) (fr := true) (by kernel_rfl) (an (an (ti trivial) (an (ti (ti (ti (ti (ti trivial))))) (an (not_t (decide_eq_false h1896)) (an (ti trivial) trivial)))) (ti trivial)) (Wv.refl _)
end Go.Proofs.Ytmjlboachhpggaa.Vg

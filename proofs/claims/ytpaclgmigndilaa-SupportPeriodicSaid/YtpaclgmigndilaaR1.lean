/- Written by a program out of the program: what Go functions do, as plain functions, and their contracts. -/
import Derived.Test.YtpaclgmigndilaaT1
namespace Go.Proofs.Ytpaclgmigndilaa.Vg
set_option maxRecDepth 100000
set_option maxHeartbeats 4000000
set_option linter.unusedVariables false
set_option linter.unusedSimpArgs false
open Go Go.Proofs.Ytpaclgmigndilaa.Ev Go.Proofs.Ytpaclgmigndilaa.Vv
structure SRange where
  Lo : Int
  Hi : Int
  deriving Inhabited
def c_SRange (x : SRange) : List VV := [vi x.Lo, vi x.Hi]
theorem len_c_SRange (x : SRange) : (c_SRange x).length = 2 := rfl
theorem still_c_SRange (xs : List SRange) : (xs.flatMap c_SRange).all VV.still = true := all_flat (fun _ => rfl) xs
theorem isC_c_SRange (xs : List SRange) : (xs.flatMap c_SRange).all VV.isC = true := all_flat (fun _ => rfl) xs
theorem new0_c_SRange (xs : List SRange) : (xs.flatMap c_SRange).all new0 = true := all_flat (fun _ => rfl) xs
theorem unfr_c_SRange (xs : List SRange) : (xs.flatMap c_SRange).map unfr = xs.flatMap c_SRange := unfr_flat (fun _ => rfl) xs
def nspeculumbase_CopyInts (k : Nat) (a0 : (List Int)) : Option (List Int) :=
  if ([] : List Int).length + a0.length ≤ 1000000000 then (some (([] : List Int) ++ a0)) else none
theorem nspeculumbase_CopyInts_ok (k : Nat) (a0 : (List Int)) (r : (List Int)) (h : nspeculumbase_CopyInts k a0 = some r) : VC Go.Proofs.Try.prog 54 [VV.tr (List.map vi a0) a0.length] (VV.fw 1 (List.map vi r) r.length) := by
 unfold nspeculumbase_CopyInts at h
 obtain ⟨h1476, h⟩ := ifn h
 have e1477 := (show List.length [] = 0 * 1 ∧ List.length (List.map vi a0) = a0.length * 1 ∧ (0 + a0.length) * 8 ≤ 140737488355328 ∧ 0 + a0.length < 1099511627776 ∧ List.all (List.map vi a0) VV.still = true from ⟨(by rw [show [] = List.map vi ([] : List Int) from rfl]; simp), (by simp), (by first | omega | (simp at h1476 ⊢; omega)), (by first | omega | (simp at h1476 ⊢; omega)), (by exact still_vi _)⟩)
 injection h with h; subst h
 exact fun_ok pm pn Go.Proofs.Try.func54 (r0 := VV.fw 1 (List.drop 0 (List.map unfr ([] ++ (List.map vi a0)))) (0 + a0.length)) (ans := [.reg (.n :: []), .reg (nN 4 [])]) (fr := true) (by kernel_rfl) (an (an (ti trivial) (an (ti (ti (an e1477 (ti trivial)))) trivial)) (an (show List.all ([] ++ (List.map vi a0)) new0 = true from (by rw [show [] ++ (List.map vi a0) = List.map vi (([] : List Int) ++ a0) from (by rw [show [] = List.map vi ([] : List Int) from rfl]; exact List.map_append.symm)]; exact new0_vi _)) trivial)) (Wv.of_eq (by simp only [show [] ++ (List.map vi a0) = List.map vi (([] : List Int) ++ a0) from (by rw [show [] = List.map vi ([] : List Int) from rfl]; exact List.map_append.symm), drop0, unfr_vi, unfr_vb, unfr_vs, List.map_cons, List.map_nil, un_i, un_k, un_b, un_s, un_tr, un_fr, List.length_map, List.length_replicate, List.length_append, List.length_set, List.length_cons, List.length_nil, unfr_c_SFrac, unfr_c_SGearPair]))
def nslices_Clone_api_GearPair_api_GearPair_ (k : Nat) (a0 : (List SGearPair)) : Option (List SGearPair) :=
  if ([] : List SGearPair).length + a0.length ≤ 1000000000 then (some (([] : List SGearPair) ++ a0)) else none
theorem nslices_Clone_api_GearPair_api_GearPair__ok (k : Nat) (a0 : (List SGearPair)) (r : (List SGearPair)) (h : nslices_Clone_api_GearPair_api_GearPair_ k a0 = some r) : VC Go.Proofs.Try.prog 90 [VV.tr (List.flatMap c_SGearPair a0) a0.length] (VV.fw 2 (List.flatMap c_SGearPair r) r.length) := by
 unfold nslices_Clone_api_GearPair_api_GearPair_ at h
 rcases Nat.eq_zero_or_pos a0.length with hz0 | h1493
 ·obtain rfl := List.length_eq_zero_iff.1 hz0
  obtain ⟨hz1, h⟩ := ifn h
  injection h with h; subst h
  exact (show VC Go.Proofs.Try.prog 90 [VV.tr [] 0] (VV.fw 2 [] 0) from VC.split0 (pre := []) (post := []) (fun_ok pm pn Go.Proofs.Try.func90 (r0 := VV.c (.slice none 0 0)) (ans := [.reg (.n :: []), .reg (.n :: .n :: []), .br true, .reg (.n :: [])]) (fr := true) (by kernel_rfl) (an (an (ti trivial) (an (ti (ti trivial)) (an rt (an (ti trivial) trivial)))) (ti trivial)) Wv.nilFw) (fun_ok pm pn Go.Proofs.Try.func90 (r0 := VV.fw 2 (List.drop 0 (List.map unfr ([] ++ []))) (0 + 0)) (ans := [.reg (.n :: []), .reg (.n :: .n :: []), .br false, .reg (nN 4 [])]) (fr := true) (by kernel_rfl) (an (an (ti trivial) (an (an (ti (ti trivial)) (an rf trivial)) (an (ti (ti (an (show List.length ([] : List VV) = 0 * 2 ∧ List.length ([] : List VV) = 0 * 2 ∧ (0 + 0) * 16 ≤ 140737488355328 ∧ 0 + 0 < 1099511627776 ∧ List.all ([] : List VV) VV.still = true from by decide) (ti trivial)))) trivial))) (an (show List.all (([] : List VV) ++ []) new0 = true from rfl) trivial)) (Wv.refl _)))
 ·obtain ⟨h1494, h⟩ := ifn h
  have e1495 := (show List.length [] = 0 * 2 ∧ List.length (List.flatMap c_SGearPair a0) = a0.length * 2 ∧ (0 + a0.length) * 16 ≤ 140737488355328 ∧ 0 + a0.length < 1099511627776 ∧ List.all (List.flatMap c_SGearPair a0) VV.still = true from ⟨(by rw [show [] = List.flatMap c_SGearPair ([] : List SGearPair) from rfl]; rw [flatMap_len len_c_SGearPair] <;> simp), (by rw [flatMap_len len_c_SGearPair] <;> simp), (by first | omega | (simp at h1494 ⊢; omega)), (by first | omega | (simp at h1494 ⊢; omega)), (by exact still_c_SGearPair _)⟩)
  injection h with h; subst h
  exact fun_ok pm pn Go.Proofs.Try.func90 (r0 := VV.fw 2 (List.drop 0 (List.map unfr ([] ++ (List.flatMap c_SGearPair a0)))) (0 + a0.length)) (ans := [.reg (.n :: []), .reg (.n :: .n :: []), .br false, .reg (nN 4 [])]) (fr := true) (by kernel_rfl) (an (an (ti trivial) (an (an (ti (an h1493 trivial)) (an rf trivial)) (an (ti (ti (an e1495 (ti trivial)))) trivial))) (an (show List.all ([] ++ (List.flatMap c_SGearPair a0)) new0 = true from (by rw [show [] ++ (List.flatMap c_SGearPair a0) = List.flatMap c_SGearPair (([] : List SGearPair) ++ a0) from (by rw [show [] = List.flatMap c_SGearPair ([] : List SGearPair) from rfl]; exact List.flatMap_append.symm)]; exact new0_c_SGearPair _)) trivial)) (Wv.of_eq (by simp only [show [] ++ (List.flatMap c_SGearPair a0) = List.flatMap c_SGearPair (([] : List SGearPair) ++ a0) from (by rw [show [] = List.flatMap c_SGearPair ([] : List SGearPair) from rfl]; exact List.flatMap_append.symm), drop0, unfr_vi, unfr_vb, unfr_vs, List.map_cons, List.map_nil, un_i, un_k, un_b, un_s, un_tr, un_fr, List.length_map, List.length_replicate, List.length_append, List.length_set, List.length_cons, List.length_nil, unfr_c_SFrac, unfr_c_SGearPair]))
def arR1_0 (z0 : List SGearPair) (z1 : Int) (z2 : Int) : List Ans := (nN 7 (.v (VV.ag (c_SGearPair (z0.getD z1.toNat default))) :: nN 3 (.v (VV.ag (c_SGearPair (z0.getD z2.toNat default))) :: nN 4 [])))
theorem eqR1_0 (z0 : (List SGearPair)) : [VV.tr (List.flatMap c_SGearPair z0) z0.length] = [VV.tr (List.drop 0 (List.map unfr (List.flatMap c_SGearPair z0))) z0.length] := by first | rfl | (simp only [drop0, List.map_cons, List.map_nil, un_tr, List.length_map, List.length_cons, List.length_nil, unfr_c_SGearPair]; done) | (simp only [drop0, List.map_cons, List.map_nil, un_tr, List.length_map, List.length_cons, List.length_nil, unfr_c_SGearPair]; rfl) | (simp only [drop0, List.map_cons, List.map_nil, un_tr, List.length_map, List.length_cons, List.length_nil, unfr_c_SGearPair, c_SGearPair, List.length_cons, List.length_nil, List.length_append]; done)
theorem eqR1_1 (z0 : Int) (z1 : Int) : VV.ag [vi (w64 ((w64 (z0.tdiv z1)) - 1)), vi (w64 (z0.tdiv z1))] = VV.ag (c_SRange (⟨w64 ((w64 (z0.tdiv z1)) - 1), w64 (z0.tdiv z1)⟩ : SRange)) := by first | rfl | (simp only [unfr_vi, List.map_cons, List.map_nil, un_i, unfr_c_SRange]; done) | (simp only [unfr_vi, List.map_cons, List.map_nil, un_i, unfr_c_SRange]; rfl) | (simp only [unfr_vi, List.map_cons, List.map_nil, un_i, unfr_c_SRange, c_SRange, List.length_cons, List.length_nil, List.length_append]; done)
theorem eqR1_2 (z0 : Int) (z1 : Int) : VV.ag [vi (w64 (z0.tdiv z1)), vi (w64 ((w64 (z0.tdiv z1)) + 1))] = VV.ag (c_SRange (⟨w64 (z0.tdiv z1), w64 ((w64 (z0.tdiv z1)) + 1)⟩ : SRange)) := by first | rfl | (simp only [unfr_vi, List.map_cons, List.map_nil, un_i, unfr_c_SRange]; done) | (simp only [unfr_vi, List.map_cons, List.map_nil, un_i, unfr_c_SRange]; rfl) | (simp only [unfr_vi, List.map_cons, List.map_nil, un_i, unfr_c_SRange, c_SRange, List.length_cons, List.length_nil, List.length_append]; done)
theorem eqR1_3 (z0 : Int) (z1 : Int) : VV.ag [vi (w64 (z0.tdiv z1)), vi (w64 (z0.tdiv z1))] = VV.ag (c_SRange (⟨w64 (z0.tdiv z1), w64 (z0.tdiv z1)⟩ : SRange)) := by first | rfl | (simp only [unfr_vi, List.map_cons, List.map_nil, un_i, unfr_c_SRange]; done) | (simp only [unfr_vi, List.map_cons, List.map_nil, un_i, unfr_c_SRange]; rfl) | (simp only [unfr_vi, List.map_cons, List.map_nil, un_i, unfr_c_SRange, c_SRange, List.length_cons, List.length_nil, List.length_append]; done)
def nsupport_rounded (k : Nat) (a0 : Int) (a1 : Int) : Option SRange :=
  if a1 ≠ 0 then (if (a0.tmod a1) < 0 then (some (⟨w64 ((w64 (a0.tdiv a1)) - 1), w64 (a0.tdiv a1)⟩ : SRange)) else (if 0 < (a0.tmod a1) then (some (⟨w64 (a0.tdiv a1), w64 ((w64 (a0.tdiv a1)) + 1)⟩ : SRange)) else (some (⟨w64 (a0.tdiv a1), w64 (a0.tdiv a1)⟩ : SRange)))) else none
theorem nsupport_rounded_ok (k : Nat) (a0 : Int) (a1 : Int) (r : SRange) (h : nsupport_rounded k a0 a1 = some r) : VC Go.Proofs.Try.prog 88 [vi a0, vi a1] (VV.ag (c_SRange r)) := by
 unfold nsupport_rounded at h
 obtain ⟨h1551, h⟩ := ifn h
 have e1552 := (ti (ti (an h1551 (ti (ti (an h1551 (ti (ti (ti trivial)))))))))
 rcases ifs h with ⟨h1553, h⟩ | ⟨h1553, h⟩
 ·injection h with h; subst h
  exact fun_ok pm pn Go.Proofs.Try.func88 (r0 := VV.ag [vi (w64 ((w64 (a0.tdiv a1)) - 1)), vi (w64 (a0.tdiv a1))]) (ans := [.reg (.n :: []), .reg (nN 9 []), .reg (nN 5 []), .br true, .reg (nN 5 []), .reg (.n :: .n :: [])]) (fr := true) (by kernel_rfl) (an (an (ti trivial) (an e1552 (an (an (ti (ti (an h1551 (ti (ti trivial))))) (an (decide_eq_true h1553) (ti (ti (ti (ti (ti trivial))))))) (an (ti (ti trivial)) trivial)))) (an (ti (ti (ti trivial))) trivial)) (Wv.of_eq (eqR1_1 a0 a1))
 ·rcases ifs h with ⟨h1554, h⟩ | ⟨h1554, h⟩
  ·injection h with h; subst h
   exact fun_ok pm pn Go.Proofs.Try.func88 (r0 := VV.ag [vi (w64 (a0.tdiv a1)), vi (w64 ((w64 (a0.tdiv a1)) + 1))]) (ans := [.reg (.n :: []), .reg (nN 9 []), .reg (nN 5 []), .br false, .reg (nN 5 []), .br true, .reg (nN 5 []), .reg (.n :: .n :: [])]) (fr := true) (by kernel_rfl) (an (an (ti trivial) (an e1552 (an (an (ti (ti (an h1551 (ti (ti trivial))))) (an (decide_eq_false h1553) (an (ti (ti (an h1551 (ti (ti trivial))))) (an (decide_eq_true h1554) (ti (ti (ti (ti (ti trivial))))))))) (an (ti (ti trivial)) trivial)))) (an (ti (ti (ti trivial))) trivial)) (Wv.of_eq (eqR1_2 a0 a1))
  ·injection h with h; subst h
   exact fun_ok pm pn Go.Proofs.Try.func88 (r0 := VV.ag [vi (w64 (a0.tdiv a1)), vi (w64 (a0.tdiv a1))]) (ans := [.reg (.n :: []), .reg (nN 9 []), .reg (nN 5 []), .br false, .reg (nN 5 []), .br false, .reg (.n :: .n :: [])]) (fr := true) (by kernel_rfl) (an (an (ti trivial) (an e1552 (an (an (ti (ti (an h1551 (ti (ti trivial))))) (an (decide_eq_false h1553) (an (ti (ti (an h1551 (ti (ti trivial))))) (an (decide_eq_false h1554) trivial)))) (an (ti (ti trivial)) trivial)))) (an (ti (ti (ti trivial))) trivial)) (Wv.of_eq (eqR1_3 a0 a1))
def arR1_1 (z0 : ((List SFrac) × Int)) (z1 : (List SGearPair)) (z2 : Int) : List Ans := (nN 7 (.v (VV.ag (c_SFrac (z0.1.getD (w64 ((w64 ((z1.length : Int) - 1)) - z2)).toNat default))) :: .n :: .n :: []))
def nsupport_Periodic_i91_l0_0_h (a0 : (List SGearPair)) (a1 : (List Int)) (r1582 : Int) (r1587 : Bool) (r1591 : (List SGearPair)) (y0 : List SGearPair) (x2 : Int) (x3 : Int) : VS := ⟨mkA [(0, VV.rf 0 0 y0.length), (2, vi x2), (3, vi x3)], [some ⟨false, 2, List.flatMap c_SGearPair y0⟩], (.node none (mkA [(0, VV.tr (List.flatMap c_SGearPair a0) a0.length), (1, VV.tr (List.map vi a1) a1.length), (4, vi 0), (5, vi 0), (6, vi r1582), (7, VV.rf 0 0 r1591.length), (14, VV.tr (List.flatMap c_SGearPair a0) a0.length), (15, vi r1582), (16, vi r1582), (17, vb (!(decide (r1582 = 0)))), (19, VV.tr (List.map vi a1) a1.length), (20, vi (a1.length : Int)), (21, VV.tr (List.flatMap c_SGearPair a0) a0.length), (22, vi (a0.length : Int)), (23, vb (!(decide ((a1.length : Int) = (a0.length : Int))))), (24, VV.tr (List.map vi a1) a1.length), (25, vb r1587), (26, vb (!r1587)), (27, VV.tr (List.flatMap c_SGearPair a0) a0.length), (28, VV.rf 0 0 r1591.length), (29, VV.rf 0 0 r1591.length)]) .nil)⟩
def nsupport_Periodic_i91_l0_0_e0 (a0 : (List SGearPair)) (a1 : (List Int)) (r1582 : Int) (r1587 : Bool) (r1591 : (List SGearPair)) (r : (List SGearPair)) : VS := ⟨mkA [], [some ⟨false, 2, List.flatMap c_SGearPair r⟩], (.node none (mkA [(0, VV.tr (List.flatMap c_SGearPair a0) a0.length), (1, VV.tr (List.map vi a1) a1.length), (4, vi 0), (5, vi 0), (6, vi r1582), (7, VV.rf 0 0 r1591.length), (14, VV.tr (List.flatMap c_SGearPair a0) a0.length), (15, vi r1582), (16, vi r1582), (17, vb (!(decide (r1582 = 0)))), (19, VV.tr (List.map vi a1) a1.length), (20, vi (a1.length : Int)), (21, VV.tr (List.flatMap c_SGearPair a0) a0.length), (22, vi (a0.length : Int)), (23, vb (!(decide ((a1.length : Int) = (a0.length : Int))))), (24, VV.tr (List.map vi a1) a1.length), (25, vb r1587), (26, vb (!r1587)), (27, VV.tr (List.flatMap c_SGearPair a0) a0.length), (28, VV.rf 0 0 r1591.length), (29, VV.rf 0 0 r1591.length)]) .nil)⟩
def nsupport_Periodic_i91_l0_0 (k : Nat) (a0 : (List SGearPair)) (a1 : (List Int)) (r1582 : Int) (r1587 : Bool) (r1591 : (List SGearPair)) : Nat → (List SGearPair) → Int → Int → Option ((List SGearPair))
  | 0, _, _, _ => none
  | fuel + 1, y0, x2, x3 => if x2 < x3 then (if 0 ≤ x3 ∧ x3 < (y0.length : Int) then (if 0 ≤ x2 ∧ x2 < (y0.length : Int) then (if 0 ≤ x3 ∧ x3 < ((y0.set x2.toNat (y0.getD x3.toNat default)).length : Int) then (if x3 < ((y0.length : Nat) : Int) then (nsupport_Periodic_i91_l0_0 k a0 a1 r1582 r1587 r1591 fuel ((y0.set x2.toNat (y0.getD x3.toNat default)).set x3.toNat (y0.getD x2.toNat default)) (w64 (x2 + 1)) (w64 (x3 - 1))) else none) else none) else none) else none) else (some y0)
theorem nsupport_Periodic_i91_l0_0_ok (k : Nat) (a0 : (List SGearPair)) (a1 : (List Int)) (r1582 : Int) (r1587 : Bool) (r1591 : (List SGearPair)) : ∀ (fuel : Nat) (y0 : List SGearPair) (x2 : Int) (x3 : Int) (r : (List SGearPair)), nsupport_Periodic_i91_l0_0 k a0 a1 r1582 r1587 r1591 fuel y0 x2 x3 = some r → (VLoop none Go.Proofs.Try.prog (szF Go.Proofs.Try.f91) (bodyOf Go.Proofs.Try.f91 0) (nsupport_Periodic_i91_l0_0_h a0 a1 r1582 r1587 r1591 y0 x2 x3) (.exit 0) (nsupport_Periodic_i91_l0_0_e0 a0 a1 r1582 r1587 r1591 r)) := by
 intro fuel
 induction fuel with
 | zero => intro y0 x2 x3 r h; rw [nsupport_Periodic_i91_l0_0.eq_1] at h; cases h
 | succ fuel ih =>
  intro y0 x2 x3 r h
  rw [nsupport_Periodic_i91_l0_0.eq_2] at h
  rcases ifs h with ⟨h1616, h⟩ | ⟨h1616, h⟩
  ·obtain ⟨h1617, h⟩ := ifn h
   have e1618 := (show loadL Go.Proofs.Try.prog 92 (0 + x3.toNat * 2) (List.flatMap c_SGearPair y0) = some (VV.ag (c_SGearPair (y0.getD x3.toNat default))) from ld_whole ag92 c_SGearPair 2 sz92 len_c_SGearPair y0 default h1617 (by omega))
   obtain ⟨h1619, h⟩ := ifn h
   have e1620 := (show loadL Go.Proofs.Try.prog 92 (0 + x2.toNat * 2) (List.flatMap c_SGearPair y0) = some (VV.ag (c_SGearPair (y0.getD x2.toNat default))) from ld_whole ag92 c_SGearPair 2 sz92 len_c_SGearPair y0 default h1619 (by omega))
   have e1621 := (show (0 + x2.toNat * 2) + 2 ≤ List.length (List.flatMap c_SGearPair y0) from (by rw [flat_len len_c_SGearPair]; have := h1619; omega))
   obtain ⟨h1622, h⟩ := ifn h
   obtain ⟨h1623, h⟩ := ifn h
   have e1624 := (show 0 ≤ x3 ∧ x3 < ((y0.length : Nat) : Int) from ⟨h1622.1, h1623⟩)
   have e1625 := (show (0 + x3.toNat * 2) + 2 ≤ List.length (putT (0 + x2.toNat * 2) (List.flatMap c_SGearPair y0) [vi ((y0.getD x3.toNat default).Driver), vi ((y0.getD x3.toNat default).Driven)]) from (by rw [show putT (0 + x2.toNat * 2) (List.flatMap c_SGearPair y0) [vi ((y0.getD x3.toNat default).Driver), vi ((y0.getD x3.toNat default).Driven)] = List.flatMap c_SGearPair (y0.set x2.toNat (y0.getD x3.toNat default)) from (by exact putT_flat len_c_SGearPair y0 h1619 (y0.getD x3.toNat default) (by omega))]; rw [flat_len len_c_SGearPair]; have := h1622; omega))
   have e1626 := (ti (ti (ti (ti (ti (ti (an h1617 (an e1618 (ti (ti (an h1619 (an e1620 (an h1619 (an e1621 (an e1624 (an e1625 trivial))))))))))))))))
   have h2 := ih _ _ _ _ h
   obtain ⟨q, hv, hq⟩ := pkR (rd := none) (P := Go.Proofs.Try.prog) (fn := Go.Proofs.Try.f91) (k := 0) (s := (nsupport_Periodic_i91_l0_0_h a0 a1 r1582 r1587 r1591 y0 x2 x3)) (ans := [.reg (nN 3 []), .br true, .reg (arR1_0 y0 x3 x2), .reg (nN 6 [])]) (c := ⟨[(0, some (VV.rf 0 0 (((y0.set x2.toNat (y0.getD x3.toNat default)).set x3.toNat (y0.getD x2.toNat default)).length))), (2, none), (3, none)], [some (List.flatMap c_SGearPair ((y0.set x2.toNat (y0.getD x3.toNat default)).set x3.toNat (y0.getD x2.toNat default)))], []⟩) (e := .normal) (s1 := (nsupport_Periodic_i91_l0_0_h a0 a1 r1582 r1587 r1591 ((y0.set x2.toNat (y0.getD x3.toNat default)).set x3.toNat (y0.getD x2.toNat default)) (w64 (x2 + 1)) (w64 (x3 - 1)))) (an (an (an (ti (ti (ti trivial))) (an (decide_eq_true h1616) trivial)) (an e1626 (ti (ti (ti (ti (ti (ti trivial)))))))) (an (an (show Wv (VV.rf 0 0 y0.length) (VV.rf 0 0 (((y0.set x2.toNat (y0.getD x3.toNat default)).set x3.toNat (y0.getD x2.toNat default)).length)) from (Wv.of_eq (by simp))) trivial) (an (show putT (0 + x3.toNat * 2) (putT (0 + x2.toNat * 2) (List.flatMap c_SGearPair y0) [vi ((y0.getD x3.toNat default).Driver), vi ((y0.getD x3.toNat default).Driven)]) [vi ((y0.getD x2.toNat default).Driver), vi ((y0.getD x2.toNat default).Driven)] = List.flatMap c_SGearPair ((y0.set x2.toNat (y0.getD x3.toNat default)).set x3.toNat (y0.getD x2.toNat default)) from (by rw [show putT (0 + x2.toNat * 2) (List.flatMap c_SGearPair y0) [vi ((y0.getD x3.toNat default).Driver), vi ((y0.getD x3.toNat default).Driven)] = List.flatMap c_SGearPair (y0.set x2.toNat (y0.getD x3.toNat default)) from (by exact putT_flat len_c_SGearPair y0 h1619 (y0.getD x3.toNat default) (by omega))]; exact putT_flat len_c_SGearPair (y0.set x2.toNat (y0.getD x3.toNat default)) h1622 (y0.getD x2.toNat default) (by omega))) trivial))) (by kernel_rfl)
   exact round_next pm pn hv hq h2
  ·injection h with h; subst h
   exact round_stop (c := ⟨[], [none], []⟩) (s1 := (nsupport_Periodic_i91_l0_0_e0 a0 a1 r1582 r1587 r1591 y0)) pm pn (ans := [.reg (nN 3 []), .br false]) (by kernel_rfl) (by intro e; cases e) (an (an (ti (ti (ti trivial))) (an (decide_eq_false h1616) trivial)) (ti trivial))
def nsupport_Periodic_l0_0_h (a0 : (List SGearPair)) (a1 : (List Int)) (r1632 : ((List SFrac) × Int)) (x10 : Int) (x41 : Int) : VS := ⟨mkA [(0, VV.tr (List.flatMap c_SGearPair a0) a0.length), (8, VV.fr (List.flatMap c_SFrac r1632.1) r1632.1.length), (10, vi x10), (39, VV.tr (List.map vi a1) a1.length), (40, vi (a1.length : Int)), (41, vi x41)], [], .nil⟩
def nsupport_Periodic_l0_0_e0 (a0 : (List SGearPair)) (a1 : (List Int)) (r1632 : ((List SFrac) × Int)) (r : Int) : VS := ⟨mkA [(10, vi r)], [], .nil⟩
def nsupport_Periodic_l0_0 (k : Nat) (a0 : (List SGearPair)) (a1 : (List Int)) (r1632 : ((List SFrac) × Int)) : Nat → Int → Int → Option (Int)
  | 0, _, _ => none
  | fuel + 1, x10, x41 => if x41 < (a1.length : Int) then (if 0 ≤ x41 ∧ x41 < (a1.length : Int) then (if 0 ≤ w64 ((w64 ((a0.length : Int) - 1)) - x41) ∧ w64 ((w64 ((a0.length : Int) - 1)) - x41) < (r1632.1.length : Int) then ((nsupport_rounded k (w64 ((a1.getD x41.toNat 0) * ((r1632.1.getD (w64 ((w64 ((a0.length : Int) - 1)) - x41)).toNat default).Num))) ((r1632.1.getD (w64 ((w64 ((a0.length : Int) - 1)) - x41)).toNat default).Den)).bind fun r1662 => (nsupport_Periodic_l0_0 k a0 a1 r1632 fuel (w64 (x10 + r1662.Hi)) (w64 (x41 + 1)))) else none) else none) else (some x10)
theorem nsupport_Periodic_l0_0_ok (k : Nat) (a0 : (List SGearPair)) (a1 : (List Int)) (r1632 : ((List SFrac) × Int)) : ∀ (fuel : Nat) (x10 : Int) (x41 : Int) (r : Int), nsupport_Periodic_l0_0 k a0 a1 r1632 fuel x10 x41 = some r → (VLoop none Go.Proofs.Try.prog (szF Go.Proofs.Try.f53) (bodyOf Go.Proofs.Try.f53 0) (nsupport_Periodic_l0_0_h a0 a1 r1632 x10 x41) (.exit 0) (nsupport_Periodic_l0_0_e0 a0 a1 r1632 r)) := by
 intro fuel
 induction fuel with
 | zero => intro x10 x41 r h; rw [nsupport_Periodic_l0_0.eq_1] at h; cases h
 | succ fuel ih =>
  intro x10 x41 r h
  rw [nsupport_Periodic_l0_0.eq_2] at h
  rcases ifs h with ⟨h1656, h⟩ | ⟨h1656, h⟩
  ·obtain ⟨h1657, h⟩ := ifn h
   have e1658 := (show loadL Go.Proofs.Try.prog 3 (x41.toNat * 1) (List.map vi a1) = some (vi (a1.getD x41.toNat 0)) from ld_map ag3 vi a1 0 h1657 (by omega))
   obtain ⟨h1659, h⟩ := ifn h
   have e1660 := (show loadL Go.Proofs.Try.prog 37 ((w64 ((w64 ((a0.length : Int) - 1)) - x41)).toNat * 2) (List.flatMap c_SFrac r1632.1) = some (VV.ag (c_SFrac (r1632.1.getD (w64 ((w64 ((a0.length : Int) - 1)) - x41)).toNat default))) from ld_whole ag37 c_SFrac 2 sz37 len_c_SFrac r1632.1 default h1659 (by omega))
   have e1661 := (ti (ti (ti (ti (ti (ti (an h1659 (an e1660 (ti (ti trivial))))))))))
   obtain ⟨r1662, h1663, h⟩ := bs h
   have e1664 := (nsupport_rounded_ok k (w64 ((a1.getD x41.toNat 0) * ((r1632.1.getD (w64 ((w64 ((a0.length : Int) - 1)) - x41)).toNat default).Num))) ((r1632.1.getD (w64 ((w64 ((a0.length : Int) - 1)) - x41)).toNat default).Den) _ h1663)
   have e1665 := (ti (ti (ti (ti (ti (ti (ti (an e1664 (ti (ti (ti trivial)))))))))))
   have h2 := ih _ _ _ h
   obtain ⟨q, hv, hq⟩ := pkR (rd := none) (P := Go.Proofs.Try.prog) (fn := Go.Proofs.Try.f53) (k := 0) (s := (nsupport_Periodic_l0_0_h a0 a1 r1632 x10 x41)) (ans := [.reg (.n :: []), .br true, .reg (.n :: .n :: .v (vi (a1.getD x41.toNat 0)) :: .n :: .n :: []), .reg (arR1_1 r1632 a0 x41), .reg (nN 7 (.call (VV.ag (c_SRange r1662)) :: nN 3 [])), .reg (.n :: .n :: [])]) (c := ⟨[(0, none), (8, none), (10, none), (39, none), (40, none), (41, none)], [], []⟩) (e := .normal) (s1 := (nsupport_Periodic_l0_0_h a0 a1 r1632 (w64 (x10 + r1662.Hi)) (w64 (x41 + 1)))) (an (an (ti trivial) (an (an (decide_eq_true h1656) trivial) (an (an (ti (an h1657 (an e1658 (ti (ti trivial))))) (an e1661 e1665)) (ti (ti trivial))))) (ti trivial)) (by kernel_rfl)
   exact round_next pm pn hv hq h2
  ·injection h with h; subst h
   exact round_stop (c := ⟨[(10, none)], [], []⟩) (s1 := (nsupport_Periodic_l0_0_e0 a0 a1 r1632 x10)) pm pn (ans := [.reg (.n :: []), .br false]) (by kernel_rfl) (by intro e; cases e) (an (an (ti trivial) (an (decide_eq_false h1656) trivial)) (ti trivial))
def arR1_2 (z0 : (List SGearPair)) : List Ans := (.n :: .own (List.flatMap c_SGearPair z0) z0.length none (VV.fw 2 (List.flatMap c_SGearPair z0) z0.length) :: .n :: [])
def arR1_3 (z0 : ((List SFrac) × Int)) : List Ans := (.n :: .call (VV.tu [VV.fr (List.flatMap c_SFrac z0.1) z0.1.length, vi z0.2]) :: nN 5 [])
def nsupport_Periodic (k : Nat) (a0 : (List SGearPair)) (a1 : (List Int)) : Option (Int × Int) :=
  (nsupport_CheckTrain k a0).bind fun r1582 => (if r1582 = 0 then (if (a1.length : Int) = (a0.length : Int) then ((nsupport_areWithin k 0 1000000 a1).bind fun r1587 => (if r1587 = true then ((nslices_Clone_api_GearPair_api_GearPair_ k a0).bind fun r1591 => ((nsupport_Periodic_i91_l0_0 k a0 a1 r1582 r1587 r1591 k r1591 0 (w64 (((r1591.length : Nat) : Int) - 1))).bind fun r1628 => (if r1628.length = r1591.length then ((nsupport_products k r1628).bind fun r1632 => (if r1632.2 = 0 then ((nsupport_Periodic_l0_0 k a0 a1 r1632 k 0 0).bind fun r1667 => (some (r1667, 0))) else (some (0, r1632.2)))) else none))) else (some (0, 2)))) else (some (0, 10))) else (some (0, r1582)))
theorem nsupport_Periodic_ok (k : Nat) (a0 : (List SGearPair)) (a1 : (List Int)) (r : (Int × Int)) (h : nsupport_Periodic k a0 a1 = some r) : VC Go.Proofs.Try.prog 53 [VV.tr (List.flatMap c_SGearPair a0) a0.length, VV.tr (List.map vi a1) a1.length] (VV.tu [vi r.1, vi r.2]) := by
 unfold nsupport_Periodic at h
 obtain ⟨r1582, h1583, h⟩ := bs h
 have e1584 := (ti (an (nsupport_CheckTrain_ok k a0 _ h1583) (ti trivial)))
 rcases ifs h with ⟨h1585, h⟩ | ⟨h1585, h⟩
 ·rcases ifs h with ⟨h1586, h⟩ | ⟨h1586, h⟩
  ·obtain ⟨r1587, h1588, h⟩ := bs h
   have e1589 := (nsupport_areWithin_ok k 0 1000000 a1 _ h1588)
   rcases ifs h with ⟨h1590, h⟩ | ⟨h1590, h⟩
   ·obtain ⟨r1591, h1592, h⟩ := bs h
    have e1593 := (show VC Go.Proofs.Try.prog 90 [VV.tr (List.flatMap c_SGearPair a0) a0.length] (VV.fw 2 (List.flatMap c_SGearPair r1591) r1591.length) ∧ (List.flatMap c_SGearPair r1591 = List.flatMap c_SGearPair r1591 ∧ r1591.length = r1591.length) ∧ List.all (List.flatMap c_SGearPair r1591) VV.isC = true ∧ (r1591.length = 0 → List.flatMap c_SGearPair r1591 = []) from ⟨nslices_Clone_api_GearPair_api_GearPair__ok k a0 _ h1592, ⟨rfl, rfl⟩, isC_c_SGearPair _, fun h => by rw [List.length_eq_zero_iff.1 h]; rfl⟩)
    obtain ⟨r1628, h1627, h⟩ := bs h
    have hph1627 := nsupport_Periodic_i91_l0_0_ok k a0 a1 r1582 r1587 r1591 _ _ _ _ _ h1627
    have e1629 := (an (ti trivial) (VRun.loop hph1627))
    obtain ⟨h1630, h⟩ := ifn h
    have e1631 := (an (an Go.Proofs.Try.func91 (an (ti (ti (ti (ti (ti trivial))))) e1629)) trivial)
    obtain ⟨r1632, h1633, h⟩ := bs h
    have e1634 := (show VC Go.Proofs.Try.prog 92 [VV.tr (List.drop 0 (List.map unfr (List.flatMap c_SGearPair r1628))) r1591.length] (VV.tu [VV.fr (List.flatMap c_SFrac r1632.1) r1632.1.length, vi r1632.2]) from (VC.args (VC.weak (nsupport_products_ok k r1628 _ h1633) (Wv.tuL (.cons (Wv.fw rfl rfl) (.cons (Wv.refl _) .nil)))) ((eqR1_0 r1628).trans (by rw [h1630]))))
    rcases ifs h with ⟨h1635, h⟩ | ⟨h1635, h⟩
    ·obtain ⟨r1667, h1666, h⟩ := bs h
     have hph1666 := nsupport_Periodic_l0_0_ok k a0 a1 r1632 _ _ _ _ h1666
     have e1668 := (an (ti trivial) (VRun.loop hph1666))
     injection h with h; subst h
     exact fun_ok pm pn Go.Proofs.Try.func53 (r0 := VV.tu [vi r1667, vi 0]) (ans := [.reg (.n :: .n :: []), .reg (.n :: .call (vi r1582) :: .n :: []), .reg (.n :: .n :: []), .br false, .reg (nN 5 []), .br false, .reg (.n :: .call (vb r1587) :: .n :: []), .br false, .reg (arR1_2 r1591), .reg (.n :: .inl (inlF Go.Proofs.Try.f91 [.reg (nN 5 []), .sub ⟨[(0, none), (2, none), (3, none)], [none], []⟩ (.exit 0) (nsupport_Periodic_i91_l0_0_e0 a0 a1 r1582 r1587 r1591 r1628)]) :: []), .reg (arR1_3 r1632), .reg (.n :: .n :: []), .br false, .reg (.n :: []), .reg (nN 3 []), .sub ⟨[(0, none), (8, none), (10, none), (39, none), (40, none), (41, none)], [], []⟩ (.exit 0) (nsupport_Periodic_l0_0_e0 a0 a1 r1632 r1667), .reg (nN 3 [])]) (fr := true) (by kernel_rfl) (an (an (ti (ti trivial)) (an (an e1584 (an (ti (ti trivial)) (an (not_f (decide_eq_true h1585)) trivial))) (an (an (ti (ti (ti (ti (ti trivial))))) (an (not_f (decide_eq_true h1586)) trivial)) (an (an (ti (an e1589 (ti trivial))) (an (not_f h1590) trivial)) (an (ti (an e1593 (ti trivial))) (an (ti (an e1631 trivial)) (an (ti (an e1634 (ti (ti (ti (ti (ti trivial))))))) (an (an (ti (ti trivial)) (an (not_f (decide_eq_true h1635)) trivial)) (an (ti trivial) (an (an (ti (ti (ti trivial))) e1668) (an (ti (ti (ti trivial))) trivial))))))))))) (ti (ti trivial))) (Wv.refl _)
    ·injection h with h; subst h
     exact fun_ok pm pn Go.Proofs.Try.func53 (r0 := VV.tu [vi 0, vi r1632.2]) (ans := [.reg (.n :: .n :: []), .reg (.n :: .call (vi r1582) :: .n :: []), .reg (.n :: .n :: []), .br false, .reg (nN 5 []), .br false, .reg (.n :: .call (vb r1587) :: .n :: []), .br false, .reg (arR1_2 r1591), .reg (.n :: .inl (inlF Go.Proofs.Try.f91 [.reg (nN 5 []), .sub ⟨[(0, none), (2, none), (3, none)], [none], []⟩ (.exit 0) (nsupport_Periodic_i91_l0_0_e0 a0 a1 r1582 r1587 r1591 r1628)]) :: []), .reg (arR1_3 r1632), .reg (.n :: .n :: []), .br true, .reg (nN 3 [])]) (fr := true) (by kernel_rfl) (an (an (ti (ti trivial)) (an (an e1584 (an (ti (ti trivial)) (an (not_f (decide_eq_true h1585)) trivial))) (an (an (ti (ti (ti (ti (ti trivial))))) (an (not_f (decide_eq_true h1586)) trivial)) (an (an (ti (an e1589 (ti trivial))) (an (not_f h1590) trivial)) (an (ti (an e1593 (ti trivial))) (an (ti (an e1631 trivial)) (an (ti (an e1634 (ti (ti (ti (ti (ti trivial))))))) (an (ti (ti trivial)) (an (not_t (decide_eq_false h1635)) (an (ti (ti (ti trivial))) trivial)))))))))) (ti (ti trivial))) (Wv.refl _)
   ·injection h with h; subst h
    exact fun_ok pm pn Go.Proofs.Try.func53 (r0 := VV.tu [vi 0, vi 2]) (ans := [.reg (.n :: .n :: []), .reg (.n :: .call (vi r1582) :: .n :: []), .reg (.n :: .n :: []), .br false, .reg (nN 5 []), .br false, .reg (.n :: .call (vb r1587) :: .n :: []), .br true, .reg (.n :: .n :: [])]) (fr := true) (by kernel_rfl) (an (an (ti (ti trivial)) (an (an e1584 (an (ti (ti trivial)) (an (not_f (decide_eq_true h1585)) trivial))) (an (an (ti (ti (ti (ti (ti trivial))))) (an (not_f (decide_eq_true h1586)) trivial)) (an (ti (an e1589 (ti trivial))) (an (not_t (bool_f h1590)) (an (ti (ti trivial)) trivial)))))) (ti (ti trivial))) (Wv.refl _)
  ·injection h with h; subst h
   exact fun_ok pm pn Go.Proofs.Try.func53 (r0 := VV.tu [vi 0, vi 10]) (ans := [.reg (.n :: .n :: []), .reg (.n :: .call (vi r1582) :: .n :: []), .reg (.n :: .n :: []), .br false, .reg (nN 5 []), .br true, .reg (.n :: .n :: [])]) (fr := true) (by kernel_rfl) (an (an (ti (ti trivial)) (an (an e1584 (an (ti (ti trivial)) (an (not_f (decide_eq_true h1585)) trivial))) (an (ti (ti (ti (ti (ti trivial))))) (an (not_t (decide_eq_false h1586)) (an (ti (ti trivial)) trivial))))) (ti (ti trivial))) (Wv.refl _)
 ·injection h with h; subst h
  exact fun_ok pm pn Go.Proofs.Try.func53 (r0 := VV.tu [vi 0, vi r1582]) (ans := [.reg (.n :: .n :: []), .reg (.n :: .call (vi r1582) :: .n :: []), .reg (.n :: .n :: []), .br true, .reg (nN 3 [])]) (fr := true) (by kernel_rfl) (an (an (ti (ti trivial)) (an e1584 (an (ti (ti trivial)) (an (not_t (decide_eq_false h1585)) (an (ti (ti (ti trivial))) trivial))))) (ti (ti trivial))) (Wv.refl _)
def nspeculumbase_Floor (k : Nat) (a0 : Int) (a1 : Int) : Option Int :=
  if a1 ≠ 0 then (if (a0.tmod a1) < 0 then (some (w64 ((w64 (a0.tdiv a1)) - 1))) else (some (w64 (a0.tdiv a1)))) else none
theorem nspeculumbase_Floor_ok (k : Nat) (a0 : Int) (a1 : Int) (r : Int) (h : nspeculumbase_Floor k a0 a1 = some r) : VC Go.Proofs.Try.prog 78 [vi a0, vi a1] (vi r) := by
 unfold nspeculumbase_Floor at h
 obtain ⟨h1713, h⟩ := ifn h
 rcases ifs h with ⟨h1714, h⟩ | ⟨h1714, h⟩
 ·injection h with h; subst h
  exact fun_ok pm pn Go.Proofs.Try.func78 (r0 := vi (w64 ((w64 (a0.tdiv a1)) - 1))) (ans := [.reg (.n :: []), .reg (nN 4 []), .reg (nN 4 []), .br true, .reg (nN 3 []), .reg (.n :: .n :: [])]) (fr := true) (by kernel_rfl) (an (an (ti trivial) (an (ti (ti (an h1713 (ti trivial)))) (an (an (ti (ti (an h1713 (ti trivial)))) (an (decide_eq_true h1714) (ti (ti (ti trivial))))) (an (ti (ti trivial)) trivial)))) (ti trivial)) (Wv.refl _)
 ·injection h with h; subst h
  exact fun_ok pm pn Go.Proofs.Try.func78 (r0 := vi (w64 (a0.tdiv a1))) (ans := [.reg (.n :: []), .reg (nN 4 []), .reg (nN 4 []), .br false, .reg (.n :: .n :: [])]) (fr := true) (by kernel_rfl) (an (an (ti trivial) (an (ti (ti (an h1713 (ti trivial)))) (an (an (ti (ti (an h1713 (ti trivial)))) (an (decide_eq_false h1714) trivial)) (an (ti (ti trivial)) trivial)))) (ti trivial)) (Wv.refl _)
def nspeculumbase_Ceil (k : Nat) (a0 : Int) (a1 : Int) : Option Int :=
  (nspeculumbase_Floor k (w64 (0 - a0)) a1).bind fun r1718 => (some (w64 (0 - r1718)))
theorem nspeculumbase_Ceil_ok (k : Nat) (a0 : Int) (a1 : Int) (r : Int) (h : nspeculumbase_Ceil k a0 a1 = some r) : VC Go.Proofs.Try.prog 79 [vi a0, vi a1] (vi r) := by
 unfold nspeculumbase_Ceil at h
 obtain ⟨r1718, h1719, h⟩ := bs h
 have e1720 := (nspeculumbase_Floor_ok k (w64 (0 - a0)) a1 _ h1719)
 injection h with h; subst h
 exact fun_ok pm pn Go.Proofs.Try.func79 (r0 := vi (w64 (0 - r1718))) (ans := [.reg (.n :: []), .reg (nN 3 (.call (vi r1718) :: .n :: .n :: []))]) (fr := true) (by kernel_rfl) (an (an (ti trivial) (an (ti (ti (ti (an e1720 (ti (ti trivial)))))) trivial)) (ti trivial)) (Wv.refl _)
theorem eqR1_4 (z0 : SFrac) : [VV.ag (c_SFrac z0), VV.ag (c_SFrac (⟨1, 1⟩ : SFrac))] = [VV.ag (c_SFrac z0), VV.ag [vi 1, vi 1]] := by first | rfl | (simp only [unfr_vi, List.map_cons, List.map_nil, un_i, unfr_c_SFrac]; done) | (simp only [unfr_vi, List.map_cons, List.map_nil, un_i, unfr_c_SFrac]; rfl) | (simp only [unfr_vi, List.map_cons, List.map_nil, un_i, unfr_c_SFrac, c_SFrac, List.length_cons, List.length_nil, List.length_append]; done)
theorem eqR1_5 (z0 : SFrac) (z1 : Int) (z2 : Int) : [VV.ag (c_SFrac z0), VV.ag (c_SFrac (⟨z1, z2⟩ : SFrac))] = [VV.ag (c_SFrac z0), VV.ag [vi z1, vi z2]] := by first | rfl | (simp only [unfr_vi, List.map_cons, List.map_nil, un_i, unfr_c_SFrac]; done) | (simp only [unfr_vi, List.map_cons, List.map_nil, un_i, unfr_c_SFrac]; rfl) | (simp only [unfr_vi, List.map_cons, List.map_nil, un_i, unfr_c_SFrac, c_SFrac, List.length_cons, List.length_nil, List.length_append]; done)
def arR1_4 (z0 : (List SGearPair)) (z1 : Int) (z2 : SFrac) (z3 : (SFrac × Int)) : List Ans := (nN 3 (.v (VV.ag (c_SGearPair (z0.getD z1.toNat default))) :: .call (VV.ag (c_SFrac z2)) :: .n :: .call (VV.tu [VV.ag (c_SFrac z3.1), vi z3.2]) :: nN 6 []))
def nspeculumref07_Periodic_l0_0_h (a0 : (List SGearPair)) (a1 : (List Int)) (x6 : Int) : VS := ⟨mkA [(0, VV.tr (List.flatMap c_SGearPair a0) a0.length), (1, VV.tr (List.map vi a1) a1.length), (6, vi x6)], [], .nil⟩
def nspeculumref07_Periodic_l0_0_e0 (a0 : (List SGearPair)) (a1 : (List Int)) (r : Unit) : VS := ⟨mkA [(4, vi 0), (5, vi 2)], [], .nil⟩
def nspeculumref07_Periodic_l0_0_e1 (a0 : (List SGearPair)) (a1 : (List Int)) (r : Unit) : VS := ⟨mkA [(0, VV.tr (List.flatMap c_SGearPair a0) a0.length), (1, VV.tr (List.map vi a1) a1.length)], [], .nil⟩
def nspeculumref07_Periodic_l0_0 (k : Nat) (a0 : (List SGearPair)) (a1 : (List Int)) : Nat → Int → Option (Sum Unit Unit)
  | 0, _ => none
  | fuel + 1, x6 => if x6 < (a1.length : Int) then (if 0 ≤ x6 ∧ x6 < (a1.length : Int) then ((nspeculumbase_Within k (a1.getD x6.toNat 0) 0 1000000).bind fun r1795 => (if r1795 = true then (nspeculumref07_Periodic_l0_0 k a0 a1 fuel (w64 (x6 + 1))) else (some (.inl ())))) else none) else (some (.inr ()))
theorem nspeculumref07_Periodic_l0_0_ok (k : Nat) (a0 : (List SGearPair)) (a1 : (List Int)) : ∀ (fuel : Nat) (x6 : Int) (r : Sum Unit Unit), nspeculumref07_Periodic_l0_0 k a0 a1 fuel x6 = some r → (match r with | .inl r => VLoop none Go.Proofs.Try.prog (szF Go.Proofs.Try.f55) (bodyOf Go.Proofs.Try.f55 0) (nspeculumref07_Periodic_l0_0_h a0 a1 x6) .ret (nspeculumref07_Periodic_l0_0_e0 a0 a1 r) | .inr r => VLoop none Go.Proofs.Try.prog (szF Go.Proofs.Try.f55) (bodyOf Go.Proofs.Try.f55 0) (nspeculumref07_Periodic_l0_0_h a0 a1 x6) (.exit 0) (nspeculumref07_Periodic_l0_0_e1 a0 a1 r)) := by
 intro fuel
 induction fuel with
 | zero => intro x6 r h; rw [nspeculumref07_Periodic_l0_0.eq_1] at h; cases h
 | succ fuel ih =>
  intro x6 r h
  rw [nspeculumref07_Periodic_l0_0.eq_2] at h
  rcases ifs h with ⟨h1792, h⟩ | ⟨h1792, h⟩
  ·obtain ⟨h1793, h⟩ := ifn h
   have e1794 := (show loadL Go.Proofs.Try.prog 3 (x6.toNat * 1) (List.map vi a1) = some (vi (a1.getD x6.toNat 0)) from ld_map ag3 vi a1 0 h1793 (by omega))
   obtain ⟨r1795, h1796, h⟩ := bs h
   have e1797 := (nspeculumbase_Within_ok k (a1.getD x6.toNat 0) 0 1000000 _ h1796)
   have e1798 := (ti (ti (an h1793 (an e1794 (an e1797 (ti trivial))))))
   rcases ifs h with ⟨h1799, h⟩ | ⟨h1799, h⟩
   ·have h2 := ih _ _ h
    obtain ⟨q, hv, hq⟩ := pkR (rd := none) (P := Go.Proofs.Try.prog) (fn := Go.Proofs.Try.f55) (k := 0) (s := (nspeculumref07_Periodic_l0_0_h a0 a1 x6)) (ans := [.reg (nN 4 []), .br true, .reg (nN 3 (.v (vi (a1.getD x6.toNat 0)) :: .call (vb r1795) :: .n :: [])), .br false, .reg (nN 3 [])]) (c := ⟨[(0, none), (1, none), (6, none)], [], []⟩) (e := .normal) (s1 := (nspeculumref07_Periodic_l0_0_h a0 a1 (w64 (x6 + 1)))) (an (an (an (ti (ti (ti (ti trivial)))) (an (decide_eq_true h1792) trivial)) (an (an e1798 (an (not_f h1799) trivial)) (ti (ti (ti trivial))))) (ti trivial)) (by kernel_rfl)
    cases r with
    | inl r => exact round_next pm pn hv hq h2
    | inr r =>
     exact round_next pm pn hv hq h2
   ·injection h with h; subst h
    exact round_stop (c := ⟨[(4, none), (5, none)], [], []⟩) (s1 := (nspeculumref07_Periodic_l0_0_e0 a0 a1 ())) pm pn (ans := [.reg (nN 4 []), .br true, .reg (nN 3 (.v (vi (a1.getD x6.toNat 0)) :: .call (vb r1795) :: .n :: [])), .br true, .reg (.n :: .n :: [])]) (by kernel_rfl) (by intro e; cases e) (an (an (an (ti (ti (ti (ti trivial)))) (an (decide_eq_true h1792) trivial)) (an e1798 (an (not_t (bool_f h1799)) (an (ti (ti trivial)) trivial)))) (ti trivial))
  ·injection h with h; subst h
   exact round_stop (c := ⟨[(0, none), (1, none)], [], []⟩) (s1 := (nspeculumref07_Periodic_l0_0_e1 a0 a1 ())) pm pn (ans := [.reg (nN 4 []), .br false]) (by kernel_rfl) (by intro e; cases e) (an (an (ti (ti (ti (ti trivial)))) (an (decide_eq_false h1792) trivial)) (ti trivial))
def nspeculumref07_Periodic_l1_0_h (a0 : (List SGearPair)) (a1 : (List Int)) (b0_0 : Int) (b0_1 : Int) (x7 : Int) (x9 : Int) : VS := ⟨mkA [(0, VV.tr (List.flatMap c_SGearPair a0) a0.length), (1, VV.tr (List.map vi a1) a1.length), (7, vi x7), (8, VV.pt 0 0), (9, vi x9)], [some ⟨true, 1, [vi b0_0, vi b0_1]⟩], .nil⟩
def nspeculumref07_Periodic_l1_0_e0 (a0 : (List SGearPair)) (a1 : (List Int)) (r : Unit) : VS := ⟨mkA [(4, vi 0), (5, vi 8)], [], .nil⟩
def nspeculumref07_Periodic_l1_0_e1 (a0 : (List SGearPair)) (a1 : (List Int)) (r : Int) : VS := ⟨mkA [(7, vi r)], [], .nil⟩
def nspeculumref07_Periodic_l1_0 (k : Nat) (a0 : (List SGearPair)) (a1 : (List Int)) : Nat → Int → Int → Int → Int → Option (Sum Unit Int)
  | 0, _, _, _, _ => none
  | fuel + 1, b0_0, b0_1, x7, x9 => if 0 ≤ x9 then (if 0 ≤ x9 ∧ x9 < (a1.length : Int) then ((nspeculumbase_Ceil k (w64 ((a1.getD x9.toNat 0) * b0_0)) b0_1).bind fun r1843 => (if 0 ≤ x9 ∧ x9 < (a0.length : Int) then ((nspeculumref07_of k (a0.getD x9.toNat default)).bind fun r1849 => ((nspeculumref01_Mul k r1849 (⟨b0_0, b0_1⟩ : SFrac)).bind fun r1852 => (if r1852.2 = 0 then (nspeculumref07_Periodic_l1_0 k a0 a1 fuel r1852.1.Num r1852.1.Den (w64 (x7 + r1843)) (w64 (x9 - 1))) else (some (.inl ()))))) else none)) else none) else (some (.inr x7))
theorem nspeculumref07_Periodic_l1_0_ok (k : Nat) (a0 : (List SGearPair)) (a1 : (List Int)) : ∀ (fuel : Nat) (b0_0 : Int) (b0_1 : Int) (x7 : Int) (x9 : Int) (r : Sum Unit Int), nspeculumref07_Periodic_l1_0 k a0 a1 fuel b0_0 b0_1 x7 x9 = some r → (match r with | .inl r => VLoop none Go.Proofs.Try.prog (szF Go.Proofs.Try.f55) (bodyOf Go.Proofs.Try.f55 1) (nspeculumref07_Periodic_l1_0_h a0 a1 b0_0 b0_1 x7 x9) .ret (nspeculumref07_Periodic_l1_0_e0 a0 a1 r) | .inr r => VLoop none Go.Proofs.Try.prog (szF Go.Proofs.Try.f55) (bodyOf Go.Proofs.Try.f55 1) (nspeculumref07_Periodic_l1_0_h a0 a1 b0_0 b0_1 x7 x9) (.exit 2) (nspeculumref07_Periodic_l1_0_e1 a0 a1 r)) := by
 intro fuel
 induction fuel with
 | zero => intro b0_0 b0_1 x7 x9 r h; rw [nspeculumref07_Periodic_l1_0.eq_1] at h; cases h
 | succ fuel ih =>
  intro b0_0 b0_1 x7 x9 r h
  rw [nspeculumref07_Periodic_l1_0.eq_2] at h
  rcases ifs h with ⟨h1840, h⟩ | ⟨h1840, h⟩
  ·obtain ⟨h1841, h⟩ := ifn h
   have e1842 := (show loadL Go.Proofs.Try.prog 3 (x9.toNat * 1) (List.map vi a1) = some (vi (a1.getD x9.toNat 0)) from ld_map ag3 vi a1 0 h1841 (by omega))
   obtain ⟨r1843, h1844, h⟩ := bs h
   have e1845 := (nspeculumbase_Ceil_ok k (w64 ((a1.getD x9.toNat 0) * b0_0)) b0_1 _ h1844)
   have e1846 := (ti (ti (ti (an h1841 (an e1842 (ti (ti (ti (ti (ti (an e1845 (ti (ti trivial)))))))))))))
   obtain ⟨h1847, h⟩ := ifn h
   have e1848 := (show loadL Go.Proofs.Try.prog 92 (x9.toNat * 2) (List.flatMap c_SGearPair a0) = some (VV.ag (c_SGearPair (a0.getD x9.toNat default))) from ld_whole ag92 c_SGearPair 2 sz92 len_c_SGearPair a0 default h1847 (by omega))
   obtain ⟨r1849, h1850, h⟩ := bs h
   have e1851 := (nspeculumref07_of_ok k (a0.getD x9.toNat default) _ h1850)
   obtain ⟨r1852, h1853, h⟩ := bs h
   have e1854 := (VC.args (nspeculumref01_Mul_ok k r1849 (⟨b0_0, b0_1⟩ : SFrac) _ h1853) (eqR1_5 r1849 b0_0 b0_1))
   have e1855 := (ti (ti (an h1847 (an e1848 (an e1851 (ti (an e1854 (ti (ti (ti (ti (ti (ti trivial)))))))))))))
   rcases ifs h with ⟨h1856, h⟩ | ⟨h1856, h⟩
   ·have h2 := ih _ _ _ _ _ h
    obtain ⟨q, hv, hq⟩ := pkR (rd := none) (P := Go.Proofs.Try.prog) (fn := Go.Proofs.Try.f55) (k := 1) (s := (nspeculumref07_Periodic_l1_0_h a0 a1 b0_0 b0_1 x7 x9)) (ans := [.reg (.n :: .n :: []), .br true, .reg (nN 4 (.v (vi (a1.getD x9.toNat 0)) :: nN 5 (.call (vi r1843) :: .n :: .n :: []))), .reg (arR1_4 a0 x9 r1849 r1852), .reg (.n :: .n :: []), .br false, .reg (.n :: .n :: []), .reg (nN 3 [])]) (c := ⟨[(0, none), (1, none), (7, none), (8, none), (9, none)], [none], []⟩) (e := .normal) (s1 := (nspeculumref07_Periodic_l1_0_h a0 a1 r1852.1.Num r1852.1.Den (w64 (x7 + r1843)) (w64 (x9 - 1)))) (an (an (an (ti (ti trivial)) (an (decide_eq_true h1840) trivial)) (an (an e1846 (an e1855 (an (an (ti (ti trivial)) (an (not_f (decide_eq_true h1856)) trivial)) (ti (ti trivial))))) (ti (ti (ti trivial))))) (ti trivial)) (by kernel_rfl)
    cases r with
    | inl r => exact round_next pm pn hv hq h2
    | inr r =>
     exact round_next pm pn hv hq h2
   ·injection h with h; subst h
    exact round_stop (c := ⟨[(4, none), (5, none)], [], []⟩) (s1 := (nspeculumref07_Periodic_l1_0_e0 a0 a1 ())) pm pn (ans := [.reg (.n :: .n :: []), .br true, .reg (nN 4 (.v (vi (a1.getD x9.toNat 0)) :: nN 5 (.call (vi r1843) :: .n :: .n :: []))), .reg (arR1_4 a0 x9 r1849 r1852), .reg (.n :: .n :: []), .br true, .reg (.n :: .n :: [])]) (by kernel_rfl) (by intro e; cases e) (an (an (an (ti (ti trivial)) (an (decide_eq_true h1840) trivial)) (an e1846 (an e1855 (an (ti (ti trivial)) (an (not_t (decide_eq_false h1856)) (an (ti (ti trivial)) trivial)))))) (ti trivial))
  ·injection h with h; subst h
   exact round_stop (c := ⟨[(7, none)], [], []⟩) (s1 := (nspeculumref07_Periodic_l1_0_e1 a0 a1 x7)) pm pn (ans := [.reg (.n :: .n :: []), .br false]) (by kernel_rfl) (by intro e; cases e) (an (an (ti (ti trivial)) (an (decide_eq_false h1840) trivial)) (ti trivial))
def nspeculumref07_Periodic (k : Nat) (a0 : (List SGearPair)) (a1 : (List Int)) : Option (Int × Int) :=
  if (a1.length : Int) = (a0.length : Int) then ((nspeculumref07_Periodic_l0_0 k a0 a1 k 0).bind fun r1801 => (match r1801 with | .inl r1802 => (some (0, 2)) | .inr r1803 => ((nspeculumref07_Periodic_l1_0 k a0 a1 k 1 1 0 (w64 ((a0.length : Int) - 1))).bind fun r1858 => (match r1858 with | .inl r1859 => (some (0, 8)) | .inr r1860 => (some (r1860, 0)))))) else (some (0, 10))
theorem nspeculumref07_Periodic_ok (k : Nat) (a0 : (List SGearPair)) (a1 : (List Int)) (r : (Int × Int)) (h : nspeculumref07_Periodic k a0 a1 = some r) : VC Go.Proofs.Try.prog 55 [VV.tr (List.flatMap c_SGearPair a0) a0.length, VV.tr (List.map vi a1) a1.length] (VV.tu [vi r.1, vi r.2]) := by
 unfold nspeculumref07_Periodic at h
 rcases ifs h with ⟨h1775, h⟩ | ⟨h1775, h⟩
 ·obtain ⟨r1801, h1800, h⟩ := bs h
  have hph1800 := nspeculumref07_Periodic_l0_0_ok k a0 a1 _ _ _ h1800
  cases r1801 with
  | inl r1802 =>
   dsimp only at h
   have e1804 := (an (ti trivial) (VRun.loop hph1800))
   injection h with h; subst h
   exact fun_ok pm pn Go.Proofs.Try.func55 (r0 := VV.tu [vi 0, vi 2]) (ans := [.reg (.n :: .n :: []), .reg (nN 5 []), .br false, .reg (.n :: []), .sub ⟨[(0, none), (1, none), (6, none)], [], []⟩ .ret (nspeculumref07_Periodic_l0_0_e0 a0 a1 r1802)]) (fr := true) (by kernel_rfl) (an (an (ti (ti trivial)) (an (an (ti (ti (ti (ti (ti trivial))))) (an (not_f (decide_eq_true h1775)) trivial)) (an (ti trivial) e1804))) (ti (ti trivial))) (Wv.refl _)
  | inr r1803 =>
   dsimp only at h
   have e1805 := (an (ti trivial) (VRun.loop hph1800))
   obtain ⟨r1858, h1857, h⟩ := bs h
   have hph1857 := nspeculumref07_Periodic_l1_0_ok k a0 a1 _ _ _ _ _ _ h1857
   cases r1858 with
   | inl r1859 =>
    dsimp only at h
    have e1861 := (an (ti trivial) (VRun.loop hph1857))
    injection h with h; subst h
    exact fun_ok pm pn Go.Proofs.Try.func55 (r0 := VV.tu [vi 0, vi 8]) (ans := [.reg (.n :: .n :: []), .reg (nN 5 []), .br false, .reg (.n :: []), .sub ⟨[(0, none), (1, none), (6, none)], [], []⟩ (.exit 0) (nspeculumref07_Periodic_l0_0_e1 a0 a1 r1803), .reg (nN 4 []), .reg (nN 4 []), .sub ⟨[(0, none), (1, none), (7, none), (8, none), (9, none)], [none], []⟩ .ret (nspeculumref07_Periodic_l1_0_e0 a0 a1 r1859)]) (fr := true) (by kernel_rfl) (an (an (ti (ti trivial)) (an (an (ti (ti (ti (ti (ti trivial))))) (an (not_f (decide_eq_true h1775)) trivial)) (an (an (ti trivial) e1805) (an (ti (ti (ti (ti trivial)))) (an (ti (ti (ti (ti trivial)))) e1861))))) (ti (ti trivial))) (Wv.refl _)
   | inr r1860 =>
    dsimp only at h
    have e1862 := (an (ti trivial) (VRun.loop hph1857))
    injection h with h; subst h
    exact fun_ok pm pn Go.Proofs.Try.func55 (r0 := VV.tu [vi r1860, vi 0]) (ans := [.reg (.n :: .n :: []), .reg (nN 5 []), .br false, .reg (.n :: []), .sub ⟨[(0, none), (1, none), (6, none)], [], []⟩ (.exit 0) (nspeculumref07_Periodic_l0_0_e1 a0 a1 r1803), .reg (nN 4 []), .reg (nN 4 []), .sub ⟨[(0, none), (1, none), (7, none), (8, none), (9, none)], [none], []⟩ (.exit 2) (nspeculumref07_Periodic_l1_0_e1 a0 a1 r1860), .reg (nN 3 [])]) (fr := true) (by kernel_rfl) (an (an (ti (ti trivial)) (an (an (ti (ti (ti (ti (ti trivial))))) (an (not_f (decide_eq_true h1775)) trivial)) (an (an (ti trivial) e1805) (an (ti (ti (ti (ti trivial)))) (an (an (ti (ti (ti (ti trivial)))) e1862) (an (ti (ti (ti trivial))) trivial)))))) (ti (ti trivial))) (Wv.refl _)
 ·injection h with h; subst h
  exact fun_ok pm pn Go.Proofs.Try.func55 (r0 := VV.tu [vi 0, vi 10]) (ans := [.reg (.n :: .n :: []), .reg (nN 5 []), .br true, .reg (.n :: .n :: [])]) (fr := true) (by kernel_rfl) (an (an (ti (ti trivial)) (an (ti (ti (ti (ti (ti trivial))))) (an (not_t (decide_eq_false h1775)) (an (ti (ti trivial)) trivial)))) (ti (ti trivial))) (Wv.refl _)
theorem eqR1_6 (z0 : (List SGearPair)) (z1 : (List Int)) : [VV.tr (List.flatMap c_SGearPair z0) z0.length, VV.tr (List.map vi ([(z1.getD (w64 ((z1.length : Int) - 1)).toNat 0)] : List Int)) (([(z1.getD (w64 ((z1.length : Int) - 1)).toNat 0)] : List Int).length)] = [VV.tr (List.flatMap c_SGearPair z0) z0.length, VV.tr [vi (z1.getD (w64 ((z1.length : Int) - 1)).toNat 0)] 1] := by first | rfl | (simp only [unfr_vi, List.map_cons, List.map_nil, un_i, un_tr, List.length_map, List.length_cons, List.length_nil, unfr_c_SGearPair]; done) | (simp only [unfr_vi, List.map_cons, List.map_nil, un_i, un_tr, List.length_map, List.length_cons, List.length_nil, unfr_c_SGearPair]; rfl) | (simp only [unfr_vi, List.map_cons, List.map_nil, un_i, un_tr, List.length_map, List.length_cons, List.length_nil, unfr_c_SGearPair, c_SGearPair, List.length_cons, List.length_nil, List.length_append]; done)
def arR1_5 (z0 : (List SGearPair)) (z1 : (List Int)) (z2 : (Int × Int)) : List Ans := (.n :: .call (VV.fr (List.flatMap c_SGearPair z0) z0.length) :: .n :: .call (VV.fr (List.map vi z1) z1.length) :: .call (VV.tu [vi z2.1, vi z2.2]) :: nN 5 [])
def arR1_6 (z0 : (List SGearPair)) (z1 : (List SGearPair)) (z2 : (List Int)) (z3 : (Int × Int)) : List Ans := (nN 4 (.v (VV.tr (List.flatMap c_SGearPair (sl z0 ((w64 ((z0.length : Int) - 1)).toNat) z0.length)) ((sl z0 ((w64 ((z0.length : Int) - 1)).toNat) z0.length).length)) :: .call (VV.fr (List.flatMap c_SGearPair z1) z1.length) :: nN 5 (.v (vi (z2.getD (w64 ((z2.length : Int) - 1)).toNat 0)) :: .v VV.any :: .call (VV.tu [vi z3.1, vi z3.2]) :: nN 5 [])))
def arR1_7 (z0 : (List Int)) : List Ans := (nN 9 (.v (vi (z0.getD (w64 ((z0.length : Int) - 1)).toNat 0)) :: .n :: .b true :: .n :: []))
def nspeculumlaw07_SupportPeriodic (k : Nat) (a0 : (List SGearPair)) (a1 : (List Int)) : Option Bool :=
  (nawake k).bind fun r1900 => (if r1900 = true then ((nspeculumlaw07_short k a0).bind fun r1903 => (if r1903 = true then (if 20 < (a1.length : Int) then (some true) else ((nspeculumlaw07_train k a0).bind fun r1908 => ((nspeculumbase_CopyInts k a1).bind fun r1911 => ((nsupport_Periodic k r1908 r1911).bind fun r1914 => ((nspeculumref07_CheckTrain k a0).bind fun r1918 => (if r1918 = 0 then ((nspeculumref07_Periodic k a0 a1).bind fun r1922 => (if r1914.2 = r1922.2 then (if r1914.1 = r1922.1 then (if r1922.2 = 0 then (if (a0.length : Int) = 0 then (some true) else (if 0 ≤ w64 ((a0.length : Int) - 1) ∧ w64 ((a0.length : Int) - 1) ≤ (a0.length : Int) ∧ (a0.length : Int) ≤ (a0.length : Int) then ((nspeculumlaw07_train k (sl a0 ((w64 ((a0.length : Int) - 1)).toNat) a0.length)).bind fun r1940 => (if 0 ≤ w64 ((a1.length : Int) - 1) ∧ w64 ((a1.length : Int) - 1) < (a1.length : Int) then ((nsupport_Periodic k r1940 ([(a1.getD (w64 ((a1.length : Int) - 1)).toNat 0)] : List Int)).bind fun r1945 => (if r1945.2 = 0 then (some (decide (r1945.1 = (a1.getD (w64 ((a1.length : Int) - 1)).toNat 0)))) else (some false))) else none)) else none)) else (some true)) else (some false)) else (some false))) else (if r1914.2 = r1918 then (some (decide (r1914.1 = 0))) else (some false)))))))) else (some true))) else (some false))
theorem nspeculumlaw07_SupportPeriodic_ok (k : Nat) (a0 : (List SGearPair)) (a1 : (List Int)) (r : Bool) (h : nspeculumlaw07_SupportPeriodic k a0 a1 = some r) : VC Go.Proofs.Try.prog 10 [VV.tr (List.flatMap c_SGearPair a0) a0.length, VV.tr (List.map vi a1) a1.length] (vb r) := by
 unfold nspeculumlaw07_SupportPeriodic at h
 obtain ⟨r1900, h1901, h⟩ := bs h
 rcases ifs h with ⟨h1902, h⟩ | ⟨h1902, h⟩
 ·obtain ⟨r1903, h1904, h⟩ := bs h
  rcases ifs h with ⟨h1905, h⟩ | ⟨h1905, h⟩
  ·have e1906 := (ti (an (nspeculumlaw07_short_ok k a0 _ h1904) (ti (ti (an (an (not_f h1905) trivial) (an (an (not_f h1905) trivial) (an (an (not_f h1905) trivial) (an (not_f h1905) trivial))))))))
   rcases ifs h with ⟨h1907, h⟩ | ⟨h1907, h⟩
   ·injection h with h; subst h
    exact fun_ok pm pn Go.Proofs.Try.func10 (r0 := vb true) (ans := [.reg (.n :: []), .reg (.call (vb r1900) :: .n :: []), .br false, .reg (.n :: .call (vb r1903) :: nN 5 (.b false :: [])), .br true, .reg (.n :: [])]) (fr := true) (by kernel_rfl) (an (an (ti trivial) (an (an (an (nawake_ok k _ h1901) (ti trivial)) (an (not_f h1902) trivial)) (an e1906 (an (decide_eq_true h1907) (an (ti trivial) trivial))))) (ti trivial)) (Wv.refl _)
   ·obtain ⟨r1908, h1909, h⟩ := bs h
    have e1910 := (show VC Go.Proofs.Try.prog 41 [VV.tr (List.flatMap c_SGearPair a0) a0.length] (VV.fr (List.flatMap c_SGearPair r1908) r1908.length) from (VC.weak (nspeculumlaw07_train_ok k a0 _ h1909) (Wv.fw rfl rfl)))
    obtain ⟨r1911, h1912, h⟩ := bs h
    have e1913 := (show VC Go.Proofs.Try.prog 54 [VV.tr (List.map vi a1) a1.length] (VV.fr (List.map vi r1911) r1911.length) from (VC.weak (nspeculumbase_CopyInts_ok k a1 _ h1912) (Wv.fw rfl rfl)))
    obtain ⟨r1914, h1915, h⟩ := bs h
    have e1916 := (nsupport_Periodic_ok k r1908 r1911 _ h1915)
    have e1917 := (ti (an e1910 (ti (an e1913 (an e1916 (ti (ti (ti (ti (ti trivial))))))))))
    obtain ⟨r1918, h1919, h⟩ := bs h
    have e1920 := (nspeculumref07_CheckTrain_ok k a0 _ h1919)
    rcases ifs h with ⟨h1921, h⟩ | ⟨h1921, h⟩
    ·obtain ⟨r1922, h1923, h⟩ := bs h
     have e1924 := (nspeculumref07_Periodic_ok k a0 a1 _ h1923)
     have e1925 := (ti (ti (an e1924 (ti (ti (ti (ti (ti trivial))))))))
     rcases ifs h with ⟨h1926, h⟩ | ⟨h1926, h⟩
     ·have e1927 := (an (not_f (decide_eq_true h1926)) trivial)
      have e1928 := (an (not_f (decide_eq_true h1926)) trivial)
      have e1929 := (an (not_f (decide_eq_true h1926)) trivial)
      have e1930 := (ti (ti (ti (ti (an e1927 (an e1928 (an e1929 (an (not_f (decide_eq_true h1926)) trivial))))))))
      rcases ifs h with ⟨h1931, h⟩ | ⟨h1931, h⟩
      ·rcases ifs h with ⟨h1932, h⟩ | ⟨h1932, h⟩
       ·have e1933 := (an (not_f (decide_eq_true h1932)) trivial)
        have e1934 := (an (not_f (decide_eq_true h1932)) trivial)
        have e1935 := (an (not_f (decide_eq_true h1932)) trivial)
        have e1936 := (ti (ti (ti (an e1933 (an e1934 (an e1935 (an (not_f (decide_eq_true h1932)) trivial)))))))
        rcases ifs h with ⟨h1937, h⟩ | ⟨h1937, h⟩
        ·injection h with h; subst h
         exact fun_ok pm pn Go.Proofs.Try.func10 (r0 := vb true) (ans := [.reg (.n :: []), .reg (.call (vb r1900) :: .n :: []), .br false, .reg (.n :: .call (vb r1903) :: nN 5 (.b false :: [])), .br false, .reg (arR1_5 r1908 r1911 r1914), .reg (.n :: .call (vi r1918) :: .n :: []), .reg (.n :: .n :: []), .br false, .reg (.n :: .n :: .call (VV.tu [vi r1922.1, vi r1922.2]) :: nN 5 []), .reg (nN 7 (.b false :: [])), .br false, .reg (nN 6 (.b false :: [])), .br true, .reg (.n :: [])]) (fr := true) (by kernel_rfl) (an (an (ti trivial) (an (an (an (nawake_ok k _ h1901) (ti trivial)) (an (not_f h1902) trivial)) (an (an e1906 (an (decide_eq_false h1907) trivial)) (an e1917 (an (an (ti (an e1920 (ti trivial))) (an (ti (ti trivial)) (an (not_f (decide_eq_true h1921)) trivial))) (an e1925 (an (an e1930 (an (not_f (decide_eq_true h1931)) trivial)) (an e1936 (an (decide_eq_true h1937) (an (ti trivial) trivial)))))))))) (ti trivial)) (Wv.refl _)
        ·obtain ⟨h1938, h⟩ := ifn h
         have e1939 := (show (0 ≤ w64 ((a0.length : Int) - 1) ∧ True ∧ (w64 ((a0.length : Int) - 1)).toNat ≤ a0.length ∧ a0.length ≤ a0.length ∧ a0.length * 2 ≤ List.length (List.flatMap c_SGearPair a0)) ∧ VV.tr (List.take ((a0.length - (w64 ((a0.length : Int) - 1)).toNat) * 2) (List.drop ((w64 ((a0.length : Int) - 1)).toNat * 2) (List.flatMap c_SGearPair a0))) (a0.length - (w64 ((a0.length : Int) - 1)).toNat) = VV.tr (List.flatMap c_SGearPair (sl a0 ((w64 ((a0.length : Int) - 1)).toNat) a0.length)) ((sl a0 ((w64 ((a0.length : Int) - 1)).toNat) a0.length).length) from ⟨⟨h1938.1, trivial, (by have := h1938; omega), (by have := h1938; omega), (by rw [flatMap_len len_c_SGearPair]; have := h1938; omega)⟩, (by exact sl_flat len_c_SGearPair a0 ((w64 ((a0.length : Int) - 1)).toNat) a0.length (by have := h1938; omega) (by have := h1938; omega))⟩)
         obtain ⟨r1940, h1941, h⟩ := bs h
         have e1942 := (show VC Go.Proofs.Try.prog 41 [VV.tr (List.flatMap c_SGearPair (sl a0 ((w64 ((a0.length : Int) - 1)).toNat) a0.length)) ((sl a0 ((w64 ((a0.length : Int) - 1)).toNat) a0.length).length)] (VV.fr (List.flatMap c_SGearPair r1940) r1940.length) from (VC.weak (nspeculumlaw07_train_ok k (sl a0 ((w64 ((a0.length : Int) - 1)).toNat) a0.length) _ h1941) (Wv.fw rfl rfl)))
         obtain ⟨h1943, h⟩ := ifn h
         have e1944 := (show loadL Go.Proofs.Try.prog 3 ((w64 ((a1.length : Int) - 1)).toNat * 1) (List.map vi a1) = some (vi (a1.getD (w64 ((a1.length : Int) - 1)).toNat 0)) from ld_map ag3 vi a1 0 h1943 (by omega))
         obtain ⟨r1945, h1946, h⟩ := bs h
         have e1947 := (VC.args (nsupport_Periodic_ok k r1940 ([(a1.getD (w64 ((a1.length : Int) - 1)).toNat 0)] : List Int) _ h1946) (eqR1_6 r1940 a1))
         have e1948 := (ti (ti (ti (ti (an e1939 (an e1942 (ti (ti (ti (ti (an h1943 (an e1944 (ti (an e1947 (ti (ti (ti (ti (ti trivial)))))))))))))))))))
         rcases ifs h with ⟨h1949, h⟩ | ⟨h1949, h⟩
         ·have e1950 := (an (decide_eq_true h1949) (show loadL Go.Proofs.Try.prog 3 ((w64 ((a1.length : Int) - 1)).toNat * 1) (List.map vi a1) = some (vi (a1.getD (w64 ((a1.length : Int) - 1)).toNat 0)) from ld_map ag3 vi a1 0 h1943 (by omega)))
          have e1951 := (ti (ti (ti (an (an (decide_eq_true h1949) trivial) (an (an (decide_eq_true h1949) trivial) (an (an (decide_eq_true h1949) trivial) (an (an (decide_eq_true h1949) trivial) (an (an (decide_eq_true h1949) trivial) (an (an (decide_eq_true h1949) h1943) (an e1950 (an (an (decide_eq_true h1949) trivial) (an (decide_eq_true h1949) (ti trivial)))))))))))))
          injection h with h; subst h
          exact fun_ok pm pn Go.Proofs.Try.func10 (r0 := vb (decide (r1945.1 = (a1.getD (w64 ((a1.length : Int) - 1)).toNat 0)))) (ans := [.reg (.n :: []), .reg (.call (vb r1900) :: .n :: []), .br false, .reg (.n :: .call (vb r1903) :: nN 5 (.b false :: [])), .br false, .reg (arR1_5 r1908 r1911 r1914), .reg (.n :: .call (vi r1918) :: .n :: []), .reg (.n :: .n :: []), .br false, .reg (.n :: .n :: .call (VV.tu [vi r1922.1, vi r1922.2]) :: nN 5 []), .reg (nN 7 (.b false :: [])), .br false, .reg (nN 6 (.b false :: [])), .br false, .reg (arR1_6 a0 r1940 a1 r1945), .reg (arR1_7 a1)]) (fr := true) (by kernel_rfl) (an (an (ti trivial) (an (an (an (nawake_ok k _ h1901) (ti trivial)) (an (not_f h1902) trivial)) (an (an e1906 (an (decide_eq_false h1907) trivial)) (an e1917 (an (an (ti (an e1920 (ti trivial))) (an (ti (ti trivial)) (an (not_f (decide_eq_true h1921)) trivial))) (an e1925 (an (an e1930 (an (not_f (decide_eq_true h1931)) trivial)) (an (an e1936 (an (decide_eq_false h1937) trivial)) (an e1948 (an e1951 trivial)))))))))) (ti trivial)) (Wv.refl _)
         ·have e1952 := (ti (ti (ti (an (decide_eq_false h1949) (an (decide_eq_false h1949) (an (decide_eq_false h1949) (an (decide_eq_false h1949) (an (decide_eq_false h1949) (an (decide_eq_false h1949) (an (decide_eq_false h1949) (an (decide_eq_false h1949) (an (decide_eq_false h1949) (ti trivial)))))))))))))
          injection h with h; subst h
          exact fun_ok pm pn Go.Proofs.Try.func10 (r0 := vb false) (ans := [.reg (.n :: []), .reg (.call (vb r1900) :: .n :: []), .br false, .reg (.n :: .call (vb r1903) :: nN 5 (.b false :: [])), .br false, .reg (arR1_5 r1908 r1911 r1914), .reg (.n :: .call (vi r1918) :: .n :: []), .reg (.n :: .n :: []), .br false, .reg (.n :: .n :: .call (VV.tu [vi r1922.1, vi r1922.2]) :: nN 5 []), .reg (nN 7 (.b false :: [])), .br false, .reg (nN 6 (.b false :: [])), .br false, .reg (arR1_6 a0 r1940 a1 r1945), .reg (nN 3 (nS 8 (.b false :: .n :: [])))]) (fr := true) (by kernel_rfl) (an (an (ti trivial) (an (an (an (nawake_ok k _ h1901) (ti trivial)) (an (not_f h1902) trivial)) (an (an e1906 (an (decide_eq_false h1907) trivial)) (an e1917 (an (an (ti (an e1920 (ti trivial))) (an (ti (ti trivial)) (an (not_f (decide_eq_true h1921)) trivial))) (an e1925 (an (an e1930 (an (not_f (decide_eq_true h1931)) trivial)) (an (an e1936 (an (decide_eq_false h1937) trivial)) (an e1948 (an e1952 trivial)))))))))) (ti trivial)) (Wv.refl _)
       ·have e1953 := (ti (ti (ti (an (not_t (decide_eq_false h1932)) (an (not_t (decide_eq_false h1932)) (an (not_t (decide_eq_false h1932)) (an (not_t (decide_eq_false h1932)) trivial)))))))
        injection h with h; subst h
        exact fun_ok pm pn Go.Proofs.Try.func10 (r0 := vb true) (ans := [.reg (.n :: []), .reg (.call (vb r1900) :: .n :: []), .br false, .reg (.n :: .call (vb r1903) :: nN 5 (.b false :: [])), .br false, .reg (arR1_5 r1908 r1911 r1914), .reg (.n :: .call (vi r1918) :: .n :: []), .reg (.n :: .n :: []), .br false, .reg (.n :: .n :: .call (VV.tu [vi r1922.1, vi r1922.2]) :: nN 5 []), .reg (nN 7 (.b false :: [])), .br false, .reg (nN 3 (nS 3 (.b true :: []))), .br true, .reg (.n :: [])]) (fr := true) (by kernel_rfl) (an (an (ti trivial) (an (an (an (nawake_ok k _ h1901) (ti trivial)) (an (not_f h1902) trivial)) (an (an e1906 (an (decide_eq_false h1907) trivial)) (an e1917 (an (an (ti (an e1920 (ti trivial))) (an (ti (ti trivial)) (an (not_f (decide_eq_true h1921)) trivial))) (an e1925 (an (an e1930 (an (not_f (decide_eq_true h1931)) trivial)) (an e1953 (an rt (an (ti trivial) trivial)))))))))) (ti trivial)) (Wv.refl _)
      ·injection h with h; subst h
       exact fun_ok pm pn Go.Proofs.Try.func10 (r0 := vb false) (ans := [.reg (.n :: []), .reg (.call (vb r1900) :: .n :: []), .br false, .reg (.n :: .call (vb r1903) :: nN 5 (.b false :: [])), .br false, .reg (arR1_5 r1908 r1911 r1914), .reg (.n :: .call (vi r1918) :: .n :: []), .reg (.n :: .n :: []), .br false, .reg (.n :: .n :: .call (VV.tu [vi r1922.1, vi r1922.2]) :: nN 5 []), .reg (nN 7 (.b false :: [])), .br true, .reg (.n :: [])]) (fr := true) (by kernel_rfl) (an (an (ti trivial) (an (an (an (nawake_ok k _ h1901) (ti trivial)) (an (not_f h1902) trivial)) (an (an e1906 (an (decide_eq_false h1907) trivial)) (an e1917 (an (an (ti (an e1920 (ti trivial))) (an (ti (ti trivial)) (an (not_f (decide_eq_true h1921)) trivial))) (an e1925 (an e1930 (an (not_t (decide_eq_false h1931)) (an (ti trivial) trivial))))))))) (ti trivial)) (Wv.refl _)
     ·have e1954 := (ti (ti (ti (ti (an (not_t (decide_eq_false h1926)) (an (not_t (decide_eq_false h1926)) (an (not_t (decide_eq_false h1926)) (an (not_t (decide_eq_false h1926)) trivial))))))))
      injection h with h; subst h
      exact fun_ok pm pn Go.Proofs.Try.func10 (r0 := vb false) (ans := [.reg (.n :: []), .reg (.call (vb r1900) :: .n :: []), .br false, .reg (.n :: .call (vb r1903) :: nN 5 (.b false :: [])), .br false, .reg (arR1_5 r1908 r1911 r1914), .reg (.n :: .call (vi r1918) :: .n :: []), .reg (.n :: .n :: []), .br false, .reg (.n :: .n :: .call (VV.tu [vi r1922.1, vi r1922.2]) :: nN 5 []), .reg (nN 4 (nS 3 (.b true :: []))), .br true, .reg (.n :: [])]) (fr := true) (by kernel_rfl) (an (an (ti trivial) (an (an (an (nawake_ok k _ h1901) (ti trivial)) (an (not_f h1902) trivial)) (an (an e1906 (an (decide_eq_false h1907) trivial)) (an e1917 (an (an (ti (an e1920 (ti trivial))) (an (ti (ti trivial)) (an (not_f (decide_eq_true h1921)) trivial))) (an e1925 (an e1954 (an rt (an (ti trivial) trivial))))))))) (ti trivial)) (Wv.refl _)
    ·rcases ifs h with ⟨h1955, h⟩ | ⟨h1955, h⟩
     ·have e1956 := (ti (ti (ti (ti (an (an (decide_eq_true h1955) trivial) (an (an (decide_eq_true h1955) trivial) (an (decide_eq_true h1955) (ti trivial))))))))
      injection h with h; subst h
      exact fun_ok pm pn Go.Proofs.Try.func10 (r0 := vb (decide (r1914.1 = 0))) (ans := [.reg (.n :: []), .reg (.call (vb r1900) :: .n :: []), .br false, .reg (.n :: .call (vb r1903) :: nN 5 (.b false :: [])), .br false, .reg (arR1_5 r1908 r1911 r1914), .reg (.n :: .call (vi r1918) :: .n :: []), .reg (.n :: .n :: []), .br true, .reg (nN 6 (.b true :: .n :: []))]) (fr := true) (by kernel_rfl) (an (an (ti trivial) (an (an (an (nawake_ok k _ h1901) (ti trivial)) (an (not_f h1902) trivial)) (an (an e1906 (an (decide_eq_false h1907) trivial)) (an e1917 (an (ti (an e1920 (ti trivial))) (an (ti (ti trivial)) (an (not_t (decide_eq_false h1921)) (an e1956 trivial)))))))) (ti trivial)) (Wv.refl _)
     ·have e1957 := (ti (ti (ti (ti (an (decide_eq_false h1955) (an (decide_eq_false h1955) (an (decide_eq_false h1955) (ti trivial))))))))
      injection h with h; subst h
      exact fun_ok pm pn Go.Proofs.Try.func10 (r0 := vb false) (ans := [.reg (.n :: []), .reg (.call (vb r1900) :: .n :: []), .br false, .reg (.n :: .call (vb r1903) :: nN 5 (.b false :: [])), .br false, .reg (arR1_5 r1908 r1911 r1914), .reg (.n :: .call (vi r1918) :: .n :: []), .reg (.n :: .n :: []), .br true, .reg (nN 4 (.skip :: .skip :: .b false :: .n :: []))]) (fr := true) (by kernel_rfl) (an (an (ti trivial) (an (an (an (nawake_ok k _ h1901) (ti trivial)) (an (not_f h1902) trivial)) (an (an e1906 (an (decide_eq_false h1907) trivial)) (an e1917 (an (ti (an e1920 (ti trivial))) (an (ti (ti trivial)) (an (not_t (decide_eq_false h1921)) (an e1957 trivial)))))))) (ti trivial)) (Wv.refl _)
  ·have e1958 := (ti (an (nspeculumlaw07_short_ok k a0 _ h1904) (ti (ti (an (not_t (bool_f h1905)) (an (not_t (bool_f h1905)) (an (not_t (bool_f h1905)) (an (not_t (bool_f h1905)) trivial))))))))
   injection h with h; subst h
   exact fun_ok pm pn Go.Proofs.Try.func10 (r0 := vb true) (ans := [.reg (.n :: []), .reg (.call (vb r1900) :: .n :: []), .br false, .reg (.n :: .call (vb r1903) :: .n :: .n :: nS 3 (.b true :: [])), .br true, .reg (.n :: [])]) (fr := true) (by kernel_rfl) (an (an (ti trivial) (an (an (an (nawake_ok k _ h1901) (ti trivial)) (an (not_f h1902) trivial)) (an e1958 (an rt (an (ti trivial) trivial))))) (ti trivial)) (Wv.refl _)
 ·injection h with h; subst h
  exact fun_ok pm pn Go.Proofs.Try.func10 (r0 := vb false) (ans := [.reg (.n :: []), .reg (.call (vb r1900) :: .n :: []), .br true, .reg (.n :: [])]) (fr := true) (by kernel_rfl) (an (an (ti trivial) (an (an (nawake_ok k _ h1901) (ti trivial)) (an (not_t (bool_f h1902)) (an (ti trivial) trivial)))) (ti trivial)) (Wv.refl _)
end Go.Proofs.Ytpaclgmigndilaa.Vg

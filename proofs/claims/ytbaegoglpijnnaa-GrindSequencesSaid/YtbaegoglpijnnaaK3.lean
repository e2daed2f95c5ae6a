/- Written by a program out of the program: what Go functions do, as plain functions, and their contracts. -/
import Derived.Test.YtbaegoglpijnnaaK1
namespace Go.Proofs.Ytbaegoglpijnnaa.Vg
set_option maxRecDepth 100000
set_option maxHeartbeats 4000000
set_option linter.unusedVariables false
set_option linter.unusedSimpArgs false
open Go Go.Proofs.Ytbaegoglpijnnaa.Ev Go.Proofs.Ytbaegoglpijnnaa.Vv
structure A38 where
  e0 : Int
  e1 : Int
  deriving Inhabited
def c_A38 (x : A38) : List VV := [vi x.e0, vi x.e1]
theorem len_c_A38 (x : A38) : (c_A38 x).length = 2 := rfl
theorem still_c_A38 (xs : List A38) : (xs.flatMap c_A38).all VV.still = true := all_flat (fun _ => rfl) xs
theorem isC_c_A38 (xs : List A38) : (xs.flatMap c_A38).all VV.isC = true := all_flat (fun _ => rfl) xs
theorem new0_c_A38 (xs : List A38) : (xs.flatMap c_A38).all new0 = true := all_flat (fun _ => rfl) xs
theorem unfr_c_A38 (xs : List A38) : (xs.flatMap c_A38).map unfr = xs.flatMap c_A38 := unfr_flat (fun _ => rfl) xs
theorem ag35 : isAggT Go.Proofs.Try.prog 35 = some true := by kernel_rfl
theorem sz35 : szOf Go.Proofs.Try.prog 35 = some 3 := by kernel_rfl
def nawake (k : Nat) : Option Bool := some true
theorem nawake_ok (k : Nat) (r : Bool) (h : nawake k = some r) : VC Go.Proofs.Try.prog 8 [] (vb r) := by
  injection h with h; subst h
  exact vc_awake
def nspeculumbase_CopyInts (k : Nat) (a0 : (List Int)) : Option (List Int) :=
  if ([] : List Int).length + a0.length ≤ 1000000000 then (some (([] : List Int) ++ a0)) else none
theorem nspeculumbase_CopyInts_ok (k : Nat) (a0 : (List Int)) (r : (List Int)) (h : nspeculumbase_CopyInts k a0 = some r) : VC Go.Proofs.Try.prog 18 [VV.tr (List.map vi a0) a0.length] (VV.fw 1 (List.map vi r) r.length) := by
 unfold nspeculumbase_CopyInts at h
 obtain ⟨h1620, h⟩ := ifn h
 have e1621 := (show List.length [] = 0 * 1 ∧ List.length (List.map vi a0) = a0.length * 1 ∧ (0 + a0.length) * 8 ≤ 140737488355328 ∧ 0 + a0.length < 1099511627776 ∧ List.all (List.map vi a0) VV.still = true from ⟨(by rw [show [] = List.map vi ([] : List Int) from rfl]; simp), (by simp), (by first | omega | (simp at h1620 ⊢; omega)), (by first | omega | (simp at h1620 ⊢; omega)), (by exact still_vi _)⟩)
 injection h with h; subst h
 exact fun_ok pm pn Go.Proofs.Try.func18 (r0 := VV.fw 1 (List.drop 0 (List.map unfr ([] ++ (List.map vi a0)))) (0 + a0.length)) (ans := [.reg (.n :: []), .reg (nN 4 [])]) (fr := true) (by kernel_rfl) (an (an (ti trivial) (an (ti (ti (an e1621 (ti trivial)))) trivial)) (an (show List.all ([] ++ (List.map vi a0)) new0 = true from (by rw [show [] ++ (List.map vi a0) = List.map vi (([] : List Int) ++ a0) from (by rw [show [] = List.map vi ([] : List Int) from rfl]; exact List.map_append.symm)]; exact new0_vi _)) trivial)) (Wv.of_eq (by simp only [show [] ++ (List.map vi a0) = List.map vi (([] : List Int) ++ a0) from (by rw [show [] = List.map vi ([] : List Int) from rfl]; exact List.map_append.symm), drop0, unfr_vi, unfr_vb, unfr_vs, List.map_cons, List.map_nil, un_i, un_k, un_b, un_s, un_tr, un_fr, List.length_map, List.length_replicate, List.length_append, List.length_set, List.length_cons, List.length_nil, unfr_c_SGrit, unfr_c_A38]))
def ngrind_validGrits (k : Nat) (a0 : (List SGrit)) : Option (List SGrit) :=
  some a0
theorem ngrind_validGrits_ok (k : Nat) (a0 : (List SGrit)) (r : (List SGrit)) (h : ngrind_validGrits k a0 = some r) : VC Go.Proofs.Try.prog 37 [VV.tr (List.flatMap c_SGrit a0) a0.length] (VV.fn 60 [VV.tp [VV.tr (List.flatMap c_SGrit r) r.length] 0]) := by
 unfold ngrind_validGrits at h
 injection h with h; subst h
 exact fun_ok pm pn Go.Proofs.Try.func37 (r0 := VV.fn 60 [VV.tp [VV.tr (List.flatMap c_SGrit a0) a0.length] 0]) (ans := [.reg (.n :: .n :: []), .frz 0, .reg (.n :: .n :: [])]) (fr := false) (by kernel_rfl) (an (an (ti (ti trivial)) (an (ti (ti trivial)) trivial)) (ti trivial)) (Wv.refl _)
theorem eqK3_0 (z0 : A38) : [vi 0, vi 1000000, VV.tr (List.map vi ([z0.e0, z0.e1] : List Int)) (([z0.e0, z0.e1] : List Int).length)] = [vi 0, vi 1000000, VV.tr [vi z0.e0, vi z0.e1] 2] := by first | rfl | (simp only [unfr_vi, List.map_cons, List.map_nil, un_i, un_tr, List.length_map, List.length_cons, List.length_nil]; done) | (simp only [unfr_vi, List.map_cons, List.map_nil, un_i, un_tr, List.length_map, List.length_cons, List.length_nil]; rfl) | (simp only [unfr_vi, List.map_cons, List.map_nil, un_i, un_tr, List.length_map, List.length_cons, List.length_nil, List.length_cons, List.length_nil, List.length_append]; done)
def ngrind_validGrits_1 (k : Nat) (q0_0 : (List SGrit)) : Option Int :=
  (ngrind_CheckGrits k q0_0).bind fun r1641 => (some r1641)
theorem ngrind_validGrits_1_ok (k : Nat) (q0_0 : (List SGrit)) (r : Int) (h : ngrind_validGrits_1 k q0_0 = some r) : VC Go.Proofs.Try.prog 60 [VV.tp [VV.tr (List.flatMap c_SGrit q0_0) q0_0.length] 0] (vi r) := by
 unfold ngrind_validGrits_1 at h
 have e1640 := (show loadL Go.Proofs.Try.prog 22 0 [VV.tr (List.flatMap c_SGrit q0_0) q0_0.length] = some (VV.tr (List.flatMap c_SGrit q0_0) q0_0.length) from (ld_one ag22 rfl))
 obtain ⟨r1641, h1642, h⟩ := bs h
 have e1643 := (an e1640 (an (ngrind_CheckGrits_ok k q0_0 _ h1642) (ti trivial)))
 injection h with h; subst h
 exact fun_ok pm pn Go.Proofs.Try.func60 (r0 := vi r1641) (ans := [.reg (.n :: []), .reg (.v (VV.tr (List.flatMap c_SGrit q0_0) q0_0.length) :: .call (vi r1641) :: .n :: [])]) (fr := true) (by kernel_rfl) (an (an (ti trivial) (an e1643 trivial)) (ti trivial)) (Wv.refl _)
def arK3_0 (z0 : (List SGrit)) : List Ans := (.n :: .v (VV.fn 60 [VV.tp [VV.tr (List.flatMap c_SGrit z0) z0.length] 0]) :: .n :: [])
def arK3_1 (z0 : ((List Int) × Int × Int)) : List Ans := (.n :: .v (VV.fn 62 [VV.tp [VV.tr (List.map vi z0.1) z0.1.length] 0, VV.tp [vi z0.2.1] 0, VV.tp [vi z0.2.2] 0]) :: .n :: [])
def ngrind_up (k : Nat) (a0 : Int) (a1 : Int) : Option Int :=
  if a1 ≠ 0 then (some (w64 ((w64 ((w64 (a0 + a1)) - 1)).tdiv a1))) else none
theorem ngrind_up_ok (k : Nat) (a0 : Int) (a1 : Int) (r : Int) (h : ngrind_up k a0 a1 = some r) : VC Go.Proofs.Try.prog 41 [vi a0, vi a1] (vi r) := by
 unfold ngrind_up at h
 obtain ⟨h1677, h⟩ := ifn h
 injection h with h; subst h
 exact fun_ok pm pn Go.Proofs.Try.func41 (r0 := vi (w64 ((w64 ((w64 (a0 + a1)) - 1)).tdiv a1))) (ans := [.reg (.n :: []), .reg (nN 7 [])]) (fr := true) (by kernel_rfl) (an (an (ti trivial) (an (ti (ti (ti (ti (ti (an h1677 (ti trivial))))))) trivial)) (ti trivial)) (Wv.refl _)
def arK3_2 (z0 : (List SGrit)) (z1 : (List Int)) (z2 : Int) (z3 : Int) : List Ans := (nN 6 (.v (vi ((z0.getD (z1.getD z2.toNat 0).toNat default).Rate)) :: .call (vi z3) :: .n :: .n :: []))
def ngrind_CheckSequence_l0_0_h (a0 : (List SGrit)) (a1 : (List Int)) (a2 : A38) (x10 : Int) (x30 : Int) (x9 : Int) : VS := ⟨mkA [(0, VV.tr (List.flatMap c_SGrit a0) a0.length), (5, VV.tp [vi a2.e0, vi a2.e1] 0), (9, vi x9), (10, vi x10), (28, VV.tr (List.map vi a1) a1.length), (29, vi (a1.length : Int)), (30, vi x30)], [], .nil⟩
def ngrind_CheckSequence_l0_0_e0 (a0 : (List SGrit)) (a1 : (List Int)) (a2 : A38) (r : Int) : VS := ⟨mkA [(6, vi 0), (7, vi r)], [], .nil⟩
def ngrind_CheckSequence_l0_0_e1 (a0 : (List SGrit)) (a1 : (List Int)) (a2 : A38) (r : Int × Int) : VS := ⟨mkA [(5, VV.tp [vi a2.e0, vi a2.e1] 0), (9, vi r.1), (10, vi r.2)], [], .nil⟩
def ngrind_CheckSequence_l0_0 (k : Nat) (a0 : (List SGrit)) (a1 : (List Int)) (a2 : A38) : Nat → Int → Int → Int → Option (Sum Int (Int × Int))
  | 0, _, _, _ => none
  | fuel + 1, x10, x30, x9 => if x30 < (a1.length : Int) then (if 0 ≤ x30 ∧ x30 < (a1.length : Int) then ((ngrind_isWithin k (a1.getD x30.toNat 0) 0 (w64 ((a0.length : Int) - 1))).bind fun r1800 => (if r1800 = true then (if 0 ≤ (a1.getD x30.toNat 0) ∧ (a1.getD x30.toNat 0) < (a0.length : Int) then (if x10 ≤ ((a0.getD (a1.getD x30.toNat 0).toNat default).Damage) then (some (.inl 9)) else ((ngrind_up k x10 ((a0.getD (a1.getD x30.toNat 0).toNat default).Rate)).bind fun r1809 => (ngrind_CheckSequence_l0_0 k a0 a1 a2 fuel ((a0.getD (a1.getD x30.toNat 0).toNat default).Damage) (w64 (x30 + 1)) (w64 (x9 + r1809))))) else none) else (some (.inl 6)))) else none) else (some (.inr (x9, x10)))
theorem ngrind_CheckSequence_l0_0_ok (k : Nat) (a0 : (List SGrit)) (a1 : (List Int)) (a2 : A38) : ∀ (fuel : Nat) (x10 : Int) (x30 : Int) (x9 : Int) (r : Sum Int (Int × Int)), ngrind_CheckSequence_l0_0 k a0 a1 a2 fuel x10 x30 x9 = some r → (match r with | .inl r => VLoop none Go.Proofs.Try.prog (szF Go.Proofs.Try.f17) (bodyOf Go.Proofs.Try.f17 0) (ngrind_CheckSequence_l0_0_h a0 a1 a2 x10 x30 x9) .ret (ngrind_CheckSequence_l0_0_e0 a0 a1 a2 r) | .inr r => VLoop none Go.Proofs.Try.prog (szF Go.Proofs.Try.f17) (bodyOf Go.Proofs.Try.f17 0) (ngrind_CheckSequence_l0_0_h a0 a1 a2 x10 x30 x9) (.exit 0) (ngrind_CheckSequence_l0_0_e1 a0 a1 a2 r)) := by
 intro fuel
 induction fuel with
 | zero => intro x10 x30 x9 r h; rw [ngrind_CheckSequence_l0_0.eq_1] at h; cases h
 | succ fuel ih =>
  intro x10 x30 x9 r h
  rw [ngrind_CheckSequence_l0_0.eq_2] at h
  rcases ifs h with ⟨h1797, h⟩ | ⟨h1797, h⟩
  ·obtain ⟨h1798, h⟩ := ifn h
   have e1799 := (show loadL Go.Proofs.Try.prog 3 (x30.toNat * 1) (List.map vi a1) = some (vi (a1.getD x30.toNat 0)) from ld_map ag3 vi a1 0 h1798 (by omega))
   obtain ⟨r1800, h1801, h⟩ := bs h
   have e1802 := (ngrind_isWithin_ok k (a1.getD x30.toNat 0) 0 (w64 ((a0.length : Int) - 1)) _ h1801)
   rcases ifs h with ⟨h1803, h⟩ | ⟨h1803, h⟩
   ·obtain ⟨h1804, h⟩ := ifn h
    have e1805 := (show loadL Go.Proofs.Try.prog 3 ((a1.getD x30.toNat 0).toNat * 3 + 1) (List.flatMap c_SGrit a0) = some (vi ((a0.getD (a1.getD x30.toNat 0).toNat default).Damage)) from (ld_flat ag3 c_SGrit 3 1 len_c_SGrit (by omega) a0 default h1804 (by omega)).trans rfl)
    have e1806 := (ti (ti (an h1804 (ti (an e1805 (ti (ti trivial)))))))
    rcases ifs h with ⟨h1807, h⟩ | ⟨h1807, h⟩
    ·injection h with h; subst h
     exact round_stop (c := ⟨[(6, none), (7, none)], [], []⟩) (s1 := (ngrind_CheckSequence_l0_0_e0 a0 a1 a2 9)) pm pn (ans := [.reg (.n :: []), .br true, .reg (.n :: .v (vi (a1.getD x30.toNat 0)) :: .n :: []), .reg (nN 4 (.call (vb r1800) :: .n :: [])), .br false, .reg (nN 4 (.v (vi ((a0.getD (a1.getD x30.toNat 0).toNat default).Damage)) :: .n :: .n :: [])), .br true, .reg (.n :: .n :: [])]) (by kernel_rfl) (by intro e; cases e) (an (an (ti trivial) (an (an (decide_eq_true h1797) trivial) (an (an h1798 (an e1799 (ti trivial))) (an (an (ti (ti (ti (ti (an e1802 (ti trivial)))))) (an (not_f h1803) trivial)) (an e1806 (an (decide_eq_true h1807) (an (ti (ti trivial)) trivial))))))) (ti trivial))
    ·have e1808 := (show loadL Go.Proofs.Try.prog 3 ((a1.getD x30.toNat 0).toNat * 3 + 2) (List.flatMap c_SGrit a0) = some (vi ((a0.getD (a1.getD x30.toNat 0).toNat default).Rate)) from (ld_flat ag3 c_SGrit 3 2 len_c_SGrit (by omega) a0 default h1804 (by omega)).trans rfl)
     obtain ⟨r1809, h1810, h⟩ := bs h
     have e1811 := (ngrind_up_ok k x10 ((a0.getD (a1.getD x30.toNat 0).toNat default).Rate) _ h1810)
     have e1812 := (ti (ti (ti (ti (an h1804 (ti (an e1808 (an e1811 (ti (ti trivial))))))))))
     have e1813 := (show loadL Go.Proofs.Try.prog 3 ((a1.getD x30.toNat 0).toNat * 3 + 1) (List.flatMap c_SGrit a0) = some (vi ((a0.getD (a1.getD x30.toNat 0).toNat default).Damage)) from (ld_flat ag3 c_SGrit 3 1 len_c_SGrit (by omega) a0 default h1804 (by omega)).trans rfl)
     have h2 := ih _ _ _ _ h
     obtain ⟨q, hv, hq⟩ := pkR (rd := none) (P := Go.Proofs.Try.prog) (fn := Go.Proofs.Try.f17) (k := 0) (s := (ngrind_CheckSequence_l0_0_h a0 a1 a2 x10 x30 x9)) (ans := [.reg (.n :: []), .br true, .reg (.n :: .v (vi (a1.getD x30.toNat 0)) :: .n :: []), .reg (nN 4 (.call (vb r1800) :: .n :: [])), .br false, .reg (nN 4 (.v (vi ((a0.getD (a1.getD x30.toNat 0).toNat default).Damage)) :: .n :: .n :: [])), .br false, .reg (arK3_2 a0 a1 x30 r1809), .reg (nN 4 (.v (vi ((a0.getD (a1.getD x30.toNat 0).toNat default).Damage)) :: .n :: [])), .reg (.n :: .n :: [])]) (c := ⟨[(0, none), (5, none), (9, none), (10, none), (28, none), (29, none), (30, none)], [], []⟩) (e := .normal) (s1 := (ngrind_CheckSequence_l0_0_h a0 a1 a2 ((a0.getD (a1.getD x30.toNat 0).toNat default).Damage) (w64 (x30 + 1)) (w64 (x9 + r1809)))) (an (an (ti trivial) (an (an (decide_eq_true h1797) trivial) (an (an (an h1798 (an e1799 (ti trivial))) (an (an (ti (ti (ti (ti (an e1802 (ti trivial)))))) (an (not_f h1803) trivial)) (an (an e1806 (an (decide_eq_false h1807) trivial)) (an e1812 (ti (ti (an h1804 (ti (an e1813 (ti trivial)))))))))) (ti (ti trivial))))) (ti trivial)) (by kernel_rfl)
     cases r with
     | inl r => exact round_next pm pn hv hq h2
     | inr r =>
      exact round_next pm pn hv hq h2
   ·injection h with h; subst h
    exact round_stop (c := ⟨[(6, none), (7, none)], [], []⟩) (s1 := (ngrind_CheckSequence_l0_0_e0 a0 a1 a2 6)) pm pn (ans := [.reg (.n :: []), .br true, .reg (.n :: .v (vi (a1.getD x30.toNat 0)) :: .n :: []), .reg (nN 4 (.call (vb r1800) :: .n :: [])), .br true, .reg (.n :: .n :: [])]) (by kernel_rfl) (by intro e; cases e) (an (an (ti trivial) (an (an (decide_eq_true h1797) trivial) (an (an h1798 (an e1799 (ti trivial))) (an (ti (ti (ti (ti (an e1802 (ti trivial)))))) (an (not_t (bool_f h1803)) (an (ti (ti trivial)) trivial)))))) (ti trivial))
  ·injection h with h; subst h
   exact round_stop (c := ⟨[(5, none), (9, none), (10, none)], [], []⟩) (s1 := (ngrind_CheckSequence_l0_0_e1 a0 a1 a2 (x9, x10))) pm pn (ans := [.reg (.n :: []), .br false]) (by kernel_rfl) (by intro e; cases e) (an (an (ti trivial) (an (decide_eq_false h1797) trivial)) (ti trivial))
noncomputable def arK3_3 (z0 : (List SGrit)) (z1 : A38) (z2 : ((List Int) × Int × Int)) (z3 : (Bool × Int)) (z4 : Int) (z5 : Int) (z6 : Int) : List Ans := (.n :: .call (VV.fn 60 [VV.tp [VV.tr (List.flatMap c_SGrit z0) z0.length] 0]) :: .v (VV.tr [vi z1.e0, vi z1.e1] 2) :: .call (VV.fn 62 [VV.tp [VV.tr (List.map vi z2.1) z2.1.length] 0, VV.tp [vi z2.2.1] 0, VV.tp [vi z2.2.2] 0]) :: nN 3 (.call (VV.fn 61 [VV.tp [vb z3.1] 0, VV.tp [vi z3.2] 0]) :: .n :: .inl (inlF Go.Proofs.Try.f36 [.reg (.n :: []), .reg (nN 3 []), .unr 5, .reg (.n :: []), .br true, .reg (arK3_0 z0), .reg (.n :: .call (vi z4) :: .n :: []), .reg (.n :: .n :: []), .br false, .reg (.n :: .n :: []), .reg (.n :: []), .br true, .reg (arK3_1 z2), .reg (.n :: .call (vi z5) :: .n :: []), .reg (.n :: .n :: []), .br false, .reg (.n :: .n :: []), .reg (.n :: []), .br true, .reg (.n :: .v (VV.fn 61 [VV.tp [vb z3.1] 0, VV.tp [vi z3.2] 0]) :: .n :: []), .reg (.n :: .call (vi z6) :: .n :: []), .reg (.n :: .n :: []), .br false, .reg (.n :: .n :: []), .reg (.n :: []), .br false, .reg (.n :: [])]) :: .n :: []))
noncomputable def arK3_4 (z0 : (List SGrit)) (z1 : A38) (z2 : ((List Int) × Int × Int)) (z3 : (Bool × Int)) (z4 : Int) (z5 : Int) (z6 : Int) : List Ans := (.n :: .call (VV.fn 60 [VV.tp [VV.tr (List.flatMap c_SGrit z0) z0.length] 0]) :: .v (VV.tr [vi z1.e0, vi z1.e1] 2) :: .call (VV.fn 62 [VV.tp [VV.tr (List.map vi z2.1) z2.1.length] 0, VV.tp [vi z2.2.1] 0, VV.tp [vi z2.2.2] 0]) :: nN 3 (.call (VV.fn 61 [VV.tp [vb z3.1] 0, VV.tp [vi z3.2] 0]) :: .n :: .inl (inlF Go.Proofs.Try.f36 [.reg (.n :: []), .reg (nN 3 []), .unr 4, .reg (.n :: []), .br true, .reg (arK3_0 z0), .reg (.n :: .call (vi z4) :: .n :: []), .reg (.n :: .n :: []), .br false, .reg (.n :: .n :: []), .reg (.n :: []), .br true, .reg (arK3_1 z2), .reg (.n :: .call (vi z5) :: .n :: []), .reg (.n :: .n :: []), .br false, .reg (.n :: .n :: []), .reg (.n :: []), .br true, .reg (.n :: .v (VV.fn 61 [VV.tp [vb z3.1] 0, VV.tp [vi z3.2] 0]) :: .n :: []), .reg (.n :: .call (vi z6) :: .n :: []), .reg (.n :: .n :: []), .br true, .reg (.n :: .n :: [])]) :: .n :: []))
noncomputable def arK3_5 (z0 : (List SGrit)) (z1 : A38) (z2 : ((List Int) × Int × Int)) (z3 : (Bool × Int)) (z4 : Int) (z5 : Int) : List Ans := (.n :: .call (VV.fn 60 [VV.tp [VV.tr (List.flatMap c_SGrit z0) z0.length] 0]) :: .v (VV.tr [vi z1.e0, vi z1.e1] 2) :: .call (VV.fn 62 [VV.tp [VV.tr (List.map vi z2.1) z2.1.length] 0, VV.tp [vi z2.2.1] 0, VV.tp [vi z2.2.2] 0]) :: nN 3 (.call (VV.fn 61 [VV.tp [vb z3.1] 0, VV.tp [vi z3.2] 0]) :: .n :: .inl (inlF Go.Proofs.Try.f36 [.reg (.n :: []), .reg (nN 3 []), .unr 3, .reg (.n :: []), .br true, .reg (arK3_0 z0), .reg (.n :: .call (vi z4) :: .n :: []), .reg (.n :: .n :: []), .br false, .reg (.n :: .n :: []), .reg (.n :: []), .br true, .reg (arK3_1 z2), .reg (.n :: .call (vi z5) :: .n :: []), .reg (.n :: .n :: []), .br true, .reg (.n :: .n :: [])]) :: .n :: []))
noncomputable def arK3_6 (z0 : (List SGrit)) (z1 : A38) (z2 : ((List Int) × Int × Int)) (z3 : (Bool × Int)) (z4 : Int) : List Ans := (.n :: .call (VV.fn 60 [VV.tp [VV.tr (List.flatMap c_SGrit z0) z0.length] 0]) :: .v (VV.tr [vi z1.e0, vi z1.e1] 2) :: .call (VV.fn 62 [VV.tp [VV.tr (List.map vi z2.1) z2.1.length] 0, VV.tp [vi z2.2.1] 0, VV.tp [vi z2.2.2] 0]) :: nN 3 (.call (VV.fn 61 [VV.tp [vb z3.1] 0, VV.tp [vi z3.2] 0]) :: .n :: .inl (inlF Go.Proofs.Try.f36 [.reg (.n :: []), .reg (nN 3 []), .unr 2, .reg (.n :: []), .br true, .reg (arK3_0 z0), .reg (.n :: .call (vi z4) :: .n :: []), .reg (.n :: .n :: []), .br true, .reg (.n :: .n :: [])]) :: .n :: []))
def ngrind_CheckSequence (k : Nat) (a0 : (List SGrit)) (a1 : (List Int)) (a2 : A38) : Option (Int × Int) :=
  (ngrind_validGrits k a0).bind fun r1732 => ((ngrind_within k 0 1000000 ([a2.e0, a2.e1] : List Int)).bind fun r1735 => ((ngrind_need k (decide ((a1.length : Int) ≤ 12)) 8).bind fun r1738 => ((ngrind_validGrits_1 k r1732).bind fun r1743 => (if r1743 = 0 then ((ngrind_within_1 k r1735.1 r1735.2.1 r1735.2.2).bind fun r1749 => (if r1749 = 0 then ((ngrind_need_1 k r1738.1 r1738.2).bind fun r1755 => (if r1755 = 0 then ((ngrind_CheckSequence_l0_0 k a0 a1 a2 k a2.e0 0 0).bind fun r1815 => (match r1815 with | .inl r1816 => (some (0, r1816)) | .inr r1817 => (if a2.e1 < r1817.2 then (some (0, 14)) else (some (r1817.1, 0))))) else (some (0, r1755)))) else (some (0, r1749)))) else (some (0, r1743))))))
theorem ngrind_CheckSequence_ok (k : Nat) (a0 : (List SGrit)) (a1 : (List Int)) (a2 : A38) (r : (Int × Int)) (h : ngrind_CheckSequence k a0 a1 a2 = some r) : VC Go.Proofs.Try.prog 17 [VV.tr (List.flatMap c_SGrit a0) a0.length, VV.tr (List.map vi a1) a1.length, VV.ag (c_A38 a2)] (VV.tu [vi r.1, vi r.2]) := by
 unfold ngrind_CheckSequence at h
 obtain ⟨r1732, h1733, h⟩ := bs h
 have e1734 := (show (True ∧ True ∧ 0 ≤ 2 ∧ 2 ≤ 2 ∧ 0 + 2 * 1 ≤ List.length [vi a2.e0, vi a2.e1]) ∧ VV.tr (List.take ((2 - 0) * 1) (List.drop (0 + 0 * 1) [vi a2.e0, vi a2.e1])) (2 - 0) = VV.tr [vi a2.e0, vi a2.e1] 2 from ⟨⟨trivial, trivial, Nat.zero_le _, Nat.le_refl 2, Nat.le_of_ble_eq_true rfl⟩, rfl⟩)
 obtain ⟨r1735, h1736, h⟩ := bs h
 have e1737 := (VC.args (ngrind_within_ok k 0 1000000 ([a2.e0, a2.e1] : List Int) _ h1736) (eqK3_0 a2))
 obtain ⟨r1738, h1739, h⟩ := bs h
 have e1740 := (ngrind_need_ok k (decide ((a1.length : Int) ≤ 12)) 8 _ h1739)
 have e1741 := (show (0 : Int) ≤ 0 ∧ (0 : Int) < ((3 : Nat) : Int) from ⟨by decide, by decide⟩)
 have e1742 := (show loadL Go.Proofs.Try.prog 80 (0 + (0 : Int).toNat * 1) ([VV.fn 60 [VV.tp [VV.tr (List.flatMap c_SGrit r1732) r1732.length] 0], VV.fn 62 [VV.tp [VV.tr (List.map vi r1735.1) r1735.1.length] 0, VV.tp [vi r1735.2.1] 0, VV.tp [vi r1735.2.2] 0], VV.fn 61 [VV.tp [vb r1738.1] 0, VV.tp [vi r1738.2] 0]]) = some (VV.fn 60 [VV.tp [VV.tr (List.flatMap c_SGrit r1732) r1732.length] 0]) from (ld_one ag80 rfl))
 obtain ⟨r1743, h1744, h⟩ := bs h
 have e1745 := (ngrind_validGrits_1_ok k r1732 _ h1744)
 rcases ifs h with ⟨h1746, h⟩ | ⟨h1746, h⟩
 ·have e1747 := (show (0 : Int) ≤ 1 ∧ (1 : Int) < ((3 : Nat) : Int) from ⟨by decide, by decide⟩)
  have e1748 := (show loadL Go.Proofs.Try.prog 80 (0 + (1 : Int).toNat * 1) ([VV.fn 60 [VV.tp [VV.tr (List.flatMap c_SGrit r1732) r1732.length] 0], VV.fn 62 [VV.tp [VV.tr (List.map vi r1735.1) r1735.1.length] 0, VV.tp [vi r1735.2.1] 0, VV.tp [vi r1735.2.2] 0], VV.fn 61 [VV.tp [vb r1738.1] 0, VV.tp [vi r1738.2] 0]]) = some (VV.fn 62 [VV.tp [VV.tr (List.map vi r1735.1) r1735.1.length] 0, VV.tp [vi r1735.2.1] 0, VV.tp [vi r1735.2.2] 0]) from (ld_one ag80 rfl))
  obtain ⟨r1749, h1750, h⟩ := bs h
  have e1751 := (ngrind_within_1_ok k r1735.1 r1735.2.1 r1735.2.2 _ h1750)
  rcases ifs h with ⟨h1752, h⟩ | ⟨h1752, h⟩
  ·have e1753 := (show (0 : Int) ≤ 2 ∧ (2 : Int) < ((3 : Nat) : Int) from ⟨by decide, by decide⟩)
   have e1754 := (show loadL Go.Proofs.Try.prog 80 (0 + (2 : Int).toNat * 1) ([VV.fn 60 [VV.tp [VV.tr (List.flatMap c_SGrit r1732) r1732.length] 0], VV.fn 62 [VV.tp [VV.tr (List.map vi r1735.1) r1735.1.length] 0, VV.tp [vi r1735.2.1] 0, VV.tp [vi r1735.2.2] 0], VV.fn 61 [VV.tp [vb r1738.1] 0, VV.tp [vi r1738.2] 0]]) = some (VV.fn 61 [VV.tp [vb r1738.1] 0, VV.tp [vi r1738.2] 0]) from (ld_one ag80 rfl))
   obtain ⟨r1755, h1756, h⟩ := bs h
   have e1757 := (ngrind_need_1_ok k r1738.1 r1738.2 _ h1756)
   rcases ifs h with ⟨h1758, h⟩ | ⟨h1758, h⟩
   ·have e1759 := (an (an Go.Proofs.Try.func36 (an (ti trivial) (an (an (ti (ti (ti trivial))) (an (an (ti trivial) (an (an (show (decide ((0 : Int) < 3)) = true from (decide_eq_true (by decide))) trivial) (an (an (an e1741 (an e1742 (ti trivial))) (an (ti (an e1745 (ti trivial))) (an (ti (ti trivial)) (an (not_f (decide_eq_true h1746)) trivial)))) (ti (ti trivial))))) (an (an (ti trivial) (an (an (show (decide ((1 : Int) < 3)) = true from (decide_eq_true (by decide))) trivial) (an (an (an e1747 (an e1748 (ti trivial))) (an (ti (an e1751 (ti trivial))) (an (ti (ti trivial)) (an (not_f (decide_eq_true h1752)) trivial)))) (ti (ti trivial))))) (an (an (ti trivial) (an (an (show (decide ((2 : Int) < 3)) = true from (decide_eq_true (by decide))) trivial) (an (an (an e1753 (an e1754 (ti trivial))) (an (ti (an e1757 (ti trivial))) (an (ti (ti trivial)) (an (not_f (decide_eq_true h1758)) trivial)))) (ti (ti trivial))))) (an (ti trivial) (an (show (decide ((3 : Int) < 3)) = false from (decide_eq_false (by decide))) trivial)))))) (an (ti trivial) trivial)))) (ti trivial))
    have e1760 := (ti (an (ngrind_validGrits_ok k a0 _ h1733) (an e1734 (an e1737 (ti (ti (ti (an e1740 (ti (an e1759 (ti trivial)))))))))))
    have e1761 := (show ((0 : Int) ≤ 0 ∧ 0 < ((2 : Nat) : Int)) ∧ VV.tp [vi a2.e0, vi a2.e1] (0 + Int.toNat 0 * 1) = VV.tp [vi a2.e0, vi a2.e1] 0 from ⟨⟨by decide, by decide⟩, rfl⟩)
    have e1762 := (show loadL Go.Proofs.Try.prog 3 0 [vi a2.e0, vi a2.e1] = some (vi a2.e0) from (ld_one ag3 rfl))
    obtain ⟨r1815, h1814, h⟩ := bs h
    have hph1814 := ngrind_CheckSequence_l0_0_ok k a0 a1 a2 _ _ _ _ _ h1814
    cases r1815 with
    | inl r1816 =>
     dsimp only at h
     have e1818 := (an (ti trivial) (VRun.loop hph1814))
     injection h with h; subst h
     exact fun_ok pm pn Go.Proofs.Try.func17 (r0 := VV.tu [vi 0, vi r1816]) (ans := [.reg (nN 3 []), .frz 0, .reg (arK3_3 r1732 a2 r1735 r1738 r1743 r1749 r1755), .reg (.n :: .n :: []), .br false, .reg (.v (VV.tp [vi a2.e0, vi a2.e1] 0) :: .v (vi a2.e0) :: .n :: .n :: []), .reg (nN 3 []), .sub ⟨[(0, none), (5, none), (9, none), (10, none), (28, none), (29, none), (30, none)], [], []⟩ .ret (ngrind_CheckSequence_l0_0_e0 a0 a1 a2 r1816)]) (fr := true) (by kernel_rfl) (an (an (ti (ti (ti trivial))) (an e1760 (an (an (ti (ti trivial)) (an (show (!(decide ((0 : Int) = 0))) = false from (not_f (decide_eq_true (by decide)))) trivial)) (an (an e1761 (an e1762 (ti (ti trivial)))) (an (ti (ti (ti trivial))) e1818))))) (ti (ti trivial))) (Wv.refl _)
    | inr r1817 =>
     dsimp only at h
     have e1819 := (an (ti trivial) (VRun.loop hph1814))
     have e1820 := (show ((0 : Int) ≤ 1 ∧ 1 < ((2 : Nat) : Int)) ∧ VV.tp [vi a2.e0, vi a2.e1] (0 + Int.toNat 1 * 1) = VV.tp [vi a2.e0, vi a2.e1] 1 from ⟨⟨by decide, by decide⟩, rfl⟩)
     have e1821 := (show loadL Go.Proofs.Try.prog 3 1 [vi a2.e0, vi a2.e1] = some (vi a2.e1) from (ld_one ag3 rfl))
     rcases ifs h with ⟨h1822, h⟩ | ⟨h1822, h⟩
     ·injection h with h; subst h
      exact fun_ok pm pn Go.Proofs.Try.func17 (r0 := VV.tu [vi 0, vi 14]) (ans := [.reg (nN 3 []), .frz 0, .reg (arK3_3 r1732 a2 r1735 r1738 r1743 r1749 r1755), .reg (.n :: .n :: []), .br false, .reg (.v (VV.tp [vi a2.e0, vi a2.e1] 0) :: .v (vi a2.e0) :: .n :: .n :: []), .reg (nN 3 []), .sub ⟨[(0, none), (5, none), (9, none), (10, none), (28, none), (29, none), (30, none)], [], []⟩ (.exit 0) (ngrind_CheckSequence_l0_0_e1 a0 a1 a2 r1817), .reg (.n :: .v (VV.tp [vi a2.e0, vi a2.e1] 1) :: .v (vi a2.e1) :: .n :: []), .br true, .reg (.n :: .n :: [])]) (fr := true) (by kernel_rfl) (an (an (ti (ti (ti trivial))) (an e1760 (an (an (ti (ti trivial)) (an (show (!(decide ((0 : Int) = 0))) = false from (not_f (decide_eq_true (by decide)))) trivial)) (an (an e1761 (an e1762 (ti (ti trivial)))) (an (an (ti (ti (ti trivial))) e1819) (an (ti (an e1820 (an e1821 (ti trivial)))) (an (decide_eq_true h1822) (an (ti (ti trivial)) trivial)))))))) (ti (ti trivial))) (Wv.refl _)
     ·injection h with h; subst h
      exact fun_ok pm pn Go.Proofs.Try.func17 (r0 := VV.tu [vi r1817.1, vi 0]) (ans := [.reg (nN 3 []), .frz 0, .reg (arK3_3 r1732 a2 r1735 r1738 r1743 r1749 r1755), .reg (.n :: .n :: []), .br false, .reg (.v (VV.tp [vi a2.e0, vi a2.e1] 0) :: .v (vi a2.e0) :: .n :: .n :: []), .reg (nN 3 []), .sub ⟨[(0, none), (5, none), (9, none), (10, none), (28, none), (29, none), (30, none)], [], []⟩ (.exit 0) (ngrind_CheckSequence_l0_0_e1 a0 a1 a2 r1817), .reg (.n :: .v (VV.tp [vi a2.e0, vi a2.e1] 1) :: .v (vi a2.e1) :: .n :: []), .br false, .reg (nN 3 [])]) (fr := true) (by kernel_rfl) (an (an (ti (ti (ti trivial))) (an e1760 (an (an (ti (ti trivial)) (an (show (!(decide ((0 : Int) = 0))) = false from (not_f (decide_eq_true (by decide)))) trivial)) (an (an e1761 (an e1762 (ti (ti trivial)))) (an (an (ti (ti (ti trivial))) e1819) (an (an (ti (an e1820 (an e1821 (ti trivial)))) (an (decide_eq_false h1822) trivial)) (an (ti (ti (ti trivial))) trivial))))))) (ti (ti trivial))) (Wv.refl _)
   ·have e1823 := (an (an Go.Proofs.Try.func36 (an (ti trivial) (an (ti (ti (ti trivial))) (an (an (ti trivial) (an (an (show (decide ((0 : Int) < 3)) = true from (decide_eq_true (by decide))) trivial) (an (an (an e1741 (an e1742 (ti trivial))) (an (ti (an e1745 (ti trivial))) (an (ti (ti trivial)) (an (not_f (decide_eq_true h1746)) trivial)))) (ti (ti trivial))))) (an (an (ti trivial) (an (an (show (decide ((1 : Int) < 3)) = true from (decide_eq_true (by decide))) trivial) (an (an (an e1747 (an e1748 (ti trivial))) (an (ti (an e1751 (ti trivial))) (an (ti (ti trivial)) (an (not_f (decide_eq_true h1752)) trivial)))) (ti (ti trivial))))) (an (ti trivial) (an (an (show (decide ((2 : Int) < 3)) = true from (decide_eq_true (by decide))) trivial) (an (an e1753 (an e1754 (ti trivial))) (an (ti (an e1757 (ti trivial))) (an (ti (ti trivial)) (an (not_t (decide_eq_false h1758)) (an (ti (ti trivial)) trivial)))))))))))) (ti trivial))
    have e1824 := (ti (an (ngrind_validGrits_ok k a0 _ h1733) (an e1734 (an e1737 (ti (ti (ti (an e1740 (ti (an e1823 (ti trivial)))))))))))
    injection h with h; subst h
    exact fun_ok pm pn Go.Proofs.Try.func17 (r0 := VV.tu [vi 0, vi r1755]) (ans := [.reg (nN 3 []), .frz 0, .reg (arK3_4 r1732 a2 r1735 r1738 r1743 r1749 r1755), .reg (.n :: .n :: []), .br true, .reg (nN 3 [])]) (fr := true) (by kernel_rfl) (an (an (ti (ti (ti trivial))) (an e1824 (an (ti (ti trivial)) (an (not_t (decide_eq_false h1758)) (an (ti (ti (ti trivial))) trivial))))) (ti (ti trivial))) (Wv.refl _)
  ·have e1825 := (an (an Go.Proofs.Try.func36 (an (ti trivial) (an (ti (ti (ti trivial))) (an (an (ti trivial) (an (an (show (decide ((0 : Int) < 3)) = true from (decide_eq_true (by decide))) trivial) (an (an (an e1741 (an e1742 (ti trivial))) (an (ti (an e1745 (ti trivial))) (an (ti (ti trivial)) (an (not_f (decide_eq_true h1746)) trivial)))) (ti (ti trivial))))) (an (ti trivial) (an (an (show (decide ((1 : Int) < 3)) = true from (decide_eq_true (by decide))) trivial) (an (an e1747 (an e1748 (ti trivial))) (an (ti (an e1751 (ti trivial))) (an (ti (ti trivial)) (an (not_t (decide_eq_false h1752)) (an (ti (ti trivial)) trivial))))))))))) (ti trivial))
   have e1826 := (ti (an (ngrind_validGrits_ok k a0 _ h1733) (an e1734 (an e1737 (ti (ti (ti (an e1740 (ti (an e1825 (ti trivial)))))))))))
   injection h with h; subst h
   exact fun_ok pm pn Go.Proofs.Try.func17 (r0 := VV.tu [vi 0, vi r1749]) (ans := [.reg (nN 3 []), .frz 0, .reg (arK3_5 r1732 a2 r1735 r1738 r1743 r1749), .reg (.n :: .n :: []), .br true, .reg (nN 3 [])]) (fr := true) (by kernel_rfl) (an (an (ti (ti (ti trivial))) (an e1826 (an (ti (ti trivial)) (an (not_t (decide_eq_false h1752)) (an (ti (ti (ti trivial))) trivial))))) (ti (ti trivial))) (Wv.refl _)
 ·have e1827 := (an (an Go.Proofs.Try.func36 (an (ti trivial) (an (ti (ti (ti trivial))) (an (ti trivial) (an (an (show (decide ((0 : Int) < 3)) = true from (decide_eq_true (by decide))) trivial) (an (an e1741 (an e1742 (ti trivial))) (an (ti (an e1745 (ti trivial))) (an (ti (ti trivial)) (an (not_t (decide_eq_false h1746)) (an (ti (ti trivial)) trivial)))))))))) (ti trivial))
  have e1828 := (ti (an (ngrind_validGrits_ok k a0 _ h1733) (an e1734 (an e1737 (ti (ti (ti (an e1740 (ti (an e1827 (ti trivial)))))))))))
  injection h with h; subst h
  exact fun_ok pm pn Go.Proofs.Try.func17 (r0 := VV.tu [vi 0, vi r1743]) (ans := [.reg (nN 3 []), .frz 0, .reg (arK3_6 r1732 a2 r1735 r1738 r1743), .reg (.n :: .n :: []), .br true, .reg (nN 3 [])]) (fr := true) (by kernel_rfl) (an (an (ti (ti (ti trivial))) (an e1828 (an (ti (ti trivial)) (an (not_t (decide_eq_false h1746)) (an (ti (ti (ti trivial))) trivial))))) (ti (ti trivial))) (Wv.refl _)
def nspeculumref04_IsDepth (k : Nat) (a0 : Int) : Option Bool :=
  (nspeculumbase_Within k a0 0 1000000).bind fun r1841 => (some r1841)
theorem nspeculumref04_IsDepth_ok (k : Nat) (a0 : Int) (r : Bool) (h : nspeculumref04_IsDepth k a0 = some r) : VC Go.Proofs.Try.prog 15 [vi a0] (vb r) := by
 unfold nspeculumref04_IsDepth at h
 obtain ⟨r1841, h1842, h⟩ := bs h
 have e1843 := (nspeculumbase_Within_ok k a0 0 1000000 _ h1842)
 injection h with h; subst h
 exact fun_ok pm pn Go.Proofs.Try.func15 (r0 := vb r1841) (ans := [.reg (.n :: []), .reg (.n :: .call (vb r1841) :: .n :: [])]) (fr := true) (by kernel_rfl) (an (an (ti trivial) (an (ti (an e1843 (ti trivial))) trivial)) (ti trivial)) (Wv.refl _)
def nspeculumbase_Floor (k : Nat) (a0 : Int) (a1 : Int) : Option Int :=
  if a1 ≠ 0 then (if (a0.tmod a1) < 0 then (some (w64 ((w64 (a0.tdiv a1)) - 1))) else (some (w64 (a0.tdiv a1)))) else none
theorem nspeculumbase_Floor_ok (k : Nat) (a0 : Int) (a1 : Int) (r : Int) (h : nspeculumbase_Floor k a0 a1 = some r) : VC Go.Proofs.Try.prog 46 [vi a0, vi a1] (vi r) := by
 unfold nspeculumbase_Floor at h
 obtain ⟨h1871, h⟩ := ifn h
 rcases ifs h with ⟨h1872, h⟩ | ⟨h1872, h⟩
 ·injection h with h; subst h
  exact fun_ok pm pn Go.Proofs.Try.func46 (r0 := vi (w64 ((w64 (a0.tdiv a1)) - 1))) (ans := [.reg (.n :: []), .reg (nN 4 []), .reg (nN 4 []), .br true, .reg (nN 3 []), .reg (.n :: .n :: [])]) (fr := true) (by kernel_rfl) (an (an (ti trivial) (an (ti (ti (an h1871 (ti trivial)))) (an (an (ti (ti (an h1871 (ti trivial)))) (an (decide_eq_true h1872) (ti (ti (ti trivial))))) (an (ti (ti trivial)) trivial)))) (ti trivial)) (Wv.refl _)
 ·injection h with h; subst h
  exact fun_ok pm pn Go.Proofs.Try.func46 (r0 := vi (w64 (a0.tdiv a1))) (ans := [.reg (.n :: []), .reg (nN 4 []), .reg (nN 4 []), .br false, .reg (.n :: .n :: [])]) (fr := true) (by kernel_rfl) (an (an (ti trivial) (an (ti (ti (an h1871 (ti trivial)))) (an (an (ti (ti (an h1871 (ti trivial)))) (an (decide_eq_false h1872) trivial)) (an (ti (ti trivial)) trivial)))) (ti trivial)) (Wv.refl _)
def nspeculumbase_Ceil (k : Nat) (a0 : Int) (a1 : Int) : Option Int :=
  (nspeculumbase_Floor k (w64 (0 - a0)) a1).bind fun r1876 => (some (w64 (0 - r1876)))
theorem nspeculumbase_Ceil_ok (k : Nat) (a0 : Int) (a1 : Int) (r : Int) (h : nspeculumbase_Ceil k a0 a1 = some r) : VC Go.Proofs.Try.prog 16 [vi a0, vi a1] (vi r) := by
 unfold nspeculumbase_Ceil at h
 obtain ⟨r1876, h1877, h⟩ := bs h
 have e1878 := (nspeculumbase_Floor_ok k (w64 (0 - a0)) a1 _ h1877)
 injection h with h; subst h
 exact fun_ok pm pn Go.Proofs.Try.func16 (r0 := vi (w64 (0 - r1876))) (ans := [.reg (.n :: []), .reg (nN 3 (.call (vi r1876) :: .n :: .n :: []))]) (fr := true) (by kernel_rfl) (an (an (ti trivial) (an (ti (ti (ti (an e1878 (ti (ti trivial)))))) trivial)) (ti trivial)) (Wv.refl _)
def arK3_7 (z0 : (List Int)) (z1 : Int) (z2 : (List SGrit)) : List Ans := (nN 4 (.v (vi (z0.getD z1.toNat 0)) :: .n :: .v (VV.ag (c_SGrit (z2.getD (z0.getD z1.toNat 0).toNat default))) :: .n :: .n :: []))
def nspeculumref04_CheckSequence_l0_0_h (a0 : (List SGrit)) (a1 : (List Int)) (a2 : A38) (x10 : Int) (x8 : Int) (x9 : Int) : VS := ⟨mkA [(0, VV.tr (List.flatMap c_SGrit a0) a0.length), (1, VV.tr (List.map vi a1) a1.length), (5, VV.pt 0 0), (8, vi x8), (9, vi x9), (10, vi x10)], [some ⟨true, 1, c_A38 a2⟩], .nil⟩
def nspeculumref04_CheckSequence_l0_0_e0 (a0 : (List SGrit)) (a1 : (List Int)) (a2 : A38) (r : Int) : VS := ⟨mkA [(6, vi 0), (7, vi r)], [], .nil⟩
def nspeculumref04_CheckSequence_l0_0_e1 (a0 : (List SGrit)) (a1 : (List Int)) (a2 : A38) (r : Int × Int) : VS := ⟨mkA [(5, VV.pt 0 0), (8, vi r.1), (9, vi r.2)], [some ⟨true, 1, c_A38 a2⟩], .nil⟩
def nspeculumref04_CheckSequence_l0_0 (k : Nat) (a0 : (List SGrit)) (a1 : (List Int)) (a2 : A38) : Nat → Int → Int → Int → Option (Sum Int (Int × Int))
  | 0, _, _, _ => none
  | fuel + 1, x10, x8, x9 => if x10 < (a1.length : Int) then (if 0 ≤ x10 ∧ x10 < (a1.length : Int) then ((nspeculumbase_Within k (a1.getD x10.toNat 0) 0 (w64 ((a0.length : Int) - 1))).bind fun r1976 => (if r1976 = true then (if 0 ≤ (a1.getD x10.toNat 0) ∧ (a1.getD x10.toNat 0) < (a0.length : Int) then (if x9 ≤ ((a0.getD (a1.getD x10.toNat 0).toNat default).Damage) then (some (.inl 9)) else ((nspeculumbase_Ceil k x9 ((a0.getD (a1.getD x10.toNat 0).toNat default).Rate)).bind fun r1986 => (nspeculumref04_CheckSequence_l0_0 k a0 a1 a2 fuel (w64 (x10 + 1)) (w64 (x8 + r1986)) ((a0.getD (a1.getD x10.toNat 0).toNat default).Damage)))) else none) else (some (.inl 6)))) else none) else (some (.inr (x8, x9)))
theorem nspeculumref04_CheckSequence_l0_0_ok (k : Nat) (a0 : (List SGrit)) (a1 : (List Int)) (a2 : A38) : ∀ (fuel : Nat) (x10 : Int) (x8 : Int) (x9 : Int) (r : Sum Int (Int × Int)), nspeculumref04_CheckSequence_l0_0 k a0 a1 a2 fuel x10 x8 x9 = some r → (match r with | .inl r => VLoop none Go.Proofs.Try.prog (szF Go.Proofs.Try.f19) (bodyOf Go.Proofs.Try.f19 0) (nspeculumref04_CheckSequence_l0_0_h a0 a1 a2 x10 x8 x9) .ret (nspeculumref04_CheckSequence_l0_0_e0 a0 a1 a2 r) | .inr r => VLoop none Go.Proofs.Try.prog (szF Go.Proofs.Try.f19) (bodyOf Go.Proofs.Try.f19 0) (nspeculumref04_CheckSequence_l0_0_h a0 a1 a2 x10 x8 x9) (.exit 0) (nspeculumref04_CheckSequence_l0_0_e1 a0 a1 a2 r)) := by
 intro fuel
 induction fuel with
 | zero => intro x10 x8 x9 r h; rw [nspeculumref04_CheckSequence_l0_0.eq_1] at h; cases h
 | succ fuel ih =>
  intro x10 x8 x9 r h
  rw [nspeculumref04_CheckSequence_l0_0.eq_2] at h
  rcases ifs h with ⟨h1973, h⟩ | ⟨h1973, h⟩
  ·obtain ⟨h1974, h⟩ := ifn h
   have e1975 := (show loadL Go.Proofs.Try.prog 3 (x10.toNat * 1) (List.map vi a1) = some (vi (a1.getD x10.toNat 0)) from ld_map ag3 vi a1 0 h1974 (by omega))
   obtain ⟨r1976, h1977, h⟩ := bs h
   have e1978 := (nspeculumbase_Within_ok k (a1.getD x10.toNat 0) 0 (w64 ((a0.length : Int) - 1)) _ h1977)
   have e1979 := (ti (ti (an h1974 (an e1975 (ti (ti (ti (an e1978 (ti trivial)))))))))
   rcases ifs h with ⟨h1980, h⟩ | ⟨h1980, h⟩
   ·have e1981 := (show loadL Go.Proofs.Try.prog 3 (x10.toNat * 1) (List.map vi a1) = some (vi (a1.getD x10.toNat 0)) from ld_map ag3 vi a1 0 h1974 (by omega))
    obtain ⟨h1982, h⟩ := ifn h
    have e1983 := (show loadL Go.Proofs.Try.prog 35 ((a1.getD x10.toNat 0).toNat * 3) (List.flatMap c_SGrit a0) = some (VV.ag (c_SGrit (a0.getD (a1.getD x10.toNat 0).toNat default))) from ld_whole ag35 c_SGrit 3 sz35 len_c_SGrit a0 default h1982 (by omega))
    have e1984 := (ti (ti (ti (an h1974 (an e1981 (an h1982 (an e1983 (ti (ti trivial)))))))))
    rcases ifs h with ⟨h1985, h⟩ | ⟨h1985, h⟩
    ·injection h with h; subst h
     exact round_stop (c := ⟨[(6, none), (7, none)], [], []⟩) (s1 := (nspeculumref04_CheckSequence_l0_0_e0 a0 a1 a2 9)) pm pn (ans := [.reg (nN 4 []), .br true, .reg (nN 3 (.v (vi (a1.getD x10.toNat 0)) :: nN 3 (.call (vb r1976) :: .n :: []))), .br false, .reg (arK3_7 a1 x10 a0), .reg (nN 4 []), .br true, .reg (.n :: .n :: [])]) (by kernel_rfl) (by intro e; cases e) (an (an (an (ti (ti (ti (ti trivial)))) (an (decide_eq_true h1973) trivial)) (an (an e1979 (an (not_f h1980) trivial)) (an e1984 (an (ti (ti (ti (ti trivial)))) (an (decide_eq_true h1985) (an (ti (ti trivial)) trivial)))))) (ti trivial))
    ·obtain ⟨r1986, h1987, h⟩ := bs h
     have e1988 := (nspeculumbase_Ceil_ok k x9 ((a0.getD (a1.getD x10.toNat 0).toNat default).Rate) _ h1987)
     have e1989 := (ti (ti (ti (ti (an e1988 (ti (ti (ti (ti (ti trivial))))))))))
     have h2 := ih _ _ _ _ h
     obtain ⟨q, hv, hq⟩ := pkR (rd := none) (P := Go.Proofs.Try.prog) (fn := Go.Proofs.Try.f19) (k := 0) (s := (nspeculumref04_CheckSequence_l0_0_h a0 a1 a2 x10 x8 x9)) (ans := [.reg (nN 4 []), .br true, .reg (nN 3 (.v (vi (a1.getD x10.toNat 0)) :: nN 3 (.call (vb r1976) :: .n :: []))), .br false, .reg (arK3_7 a1 x10 a0), .reg (nN 4 []), .br false, .reg (nN 4 (.call (vi r1986) :: nN 5 [])), .reg (nN 3 [])]) (c := ⟨[(0, none), (1, none), (5, none), (8, none), (9, none), (10, none)], [none], []⟩) (e := .normal) (s1 := (nspeculumref04_CheckSequence_l0_0_h a0 a1 a2 (w64 (x10 + 1)) (w64 (x8 + r1986)) ((a0.getD (a1.getD x10.toNat 0).toNat default).Damage))) (an (an (an (ti (ti (ti (ti trivial)))) (an (decide_eq_true h1973) trivial)) (an (an (an e1979 (an (not_f h1980) trivial)) (an e1984 (an (an (ti (ti (ti (ti trivial)))) (an (decide_eq_false h1985) trivial)) e1989))) (ti (ti (ti trivial))))) (ti trivial)) (by kernel_rfl)
     cases r with
     | inl r => exact round_next pm pn hv hq h2
     | inr r =>
      exact round_next pm pn hv hq h2
   ·injection h with h; subst h
    exact round_stop (c := ⟨[(6, none), (7, none)], [], []⟩) (s1 := (nspeculumref04_CheckSequence_l0_0_e0 a0 a1 a2 6)) pm pn (ans := [.reg (nN 4 []), .br true, .reg (nN 3 (.v (vi (a1.getD x10.toNat 0)) :: nN 3 (.call (vb r1976) :: .n :: []))), .br true, .reg (.n :: .n :: [])]) (by kernel_rfl) (by intro e; cases e) (an (an (an (ti (ti (ti (ti trivial)))) (an (decide_eq_true h1973) trivial)) (an e1979 (an (not_t (bool_f h1980)) (an (ti (ti trivial)) trivial)))) (ti trivial))
  ·injection h with h; subst h
   exact round_stop (c := ⟨[(5, none), (8, none), (9, none)], [none], []⟩) (s1 := (nspeculumref04_CheckSequence_l0_0_e1 a0 a1 a2 (x8, x9))) pm pn (ans := [.reg (nN 4 []), .br false]) (by kernel_rfl) (by intro e; cases e) (an (an (ti (ti (ti (ti trivial)))) (an (decide_eq_false h1973) trivial)) (ti trivial))
def nspeculumref04_CheckSequence (k : Nat) (a0 : (List SGrit)) (a1 : (List Int)) (a2 : A38) : Option (Int × Int) :=
  (nspeculumref04_IsDepth k a2.e0).bind fun r1927 => (if r1927 = true then ((nspeculumref04_IsDepth k a2.e1).bind fun r1932 => (if r1932 = true then (if 12 < (a1.length : Int) then (some (0, 8)) else ((nspeculumref04_CheckSequence_l0_0 k a0 a1 a2 k 0 0 a2.e0).bind fun r1991 => (match r1991 with | .inl r1992 => (some (0, r1992)) | .inr r1993 => (if a2.e1 < r1993.2 then (some (0, 14)) else (some (r1993.1, 0)))))) else (some (0, 2)))) else (some (0, 2)))
theorem nspeculumref04_CheckSequence_ok (k : Nat) (a0 : (List SGrit)) (a1 : (List Int)) (a2 : A38) (r : (Int × Int)) (h : nspeculumref04_CheckSequence k a0 a1 a2 = some r) : VC Go.Proofs.Try.prog 19 [VV.tr (List.flatMap c_SGrit a0) a0.length, VV.tr (List.map vi a1) a1.length, VV.ag (c_A38 a2)] (VV.tu [vi r.1, vi r.2]) := by
 unfold nspeculumref04_CheckSequence at h
 have e1926 := (show (0:Int) ≤ 0 ∧ (0:Int) < ((2 : Nat) : Int) from ⟨by decide, by decide⟩)
 obtain ⟨r1927, h1928, h⟩ := bs h
 have e1929 := (nspeculumref04_IsDepth_ok k a2.e0 _ h1928)
 rcases ifs h with ⟨h1930, h⟩ | ⟨h1930, h⟩
 ·have e1931 := (an (not_f h1930) (show (0:Int) ≤ 1 ∧ (1:Int) < ((2 : Nat) : Int) from ⟨by decide, by decide⟩))
  obtain ⟨r1932, h1933, h⟩ := bs h
  have e1934 := (an (not_f h1930) (nspeculumref04_IsDepth_ok k a2.e1 _ h1933))
  have e1935 := (an e1926 (ti (an e1929 (ti (ti (an e1931 (an (an (not_f h1930) trivial) (an e1934 (an (an (not_f h1930) trivial) (an (not_f h1930) trivial))))))))))
  rcases ifs h with ⟨h1936, h⟩ | ⟨h1936, h⟩
  ·rcases ifs h with ⟨h1937, h⟩ | ⟨h1937, h⟩
   ·injection h with h; subst h
    exact fun_ok pm pn Go.Proofs.Try.func19 (r0 := VV.tu [vi 0, vi 8]) (ans := [.reg (nN 3 []), .reg (.n :: .n :: .call (vb r1927) :: nN 4 (.call (vb r1932) :: .n :: .b false :: [])), .br false, .reg (nN 3 []), .br true, .reg (.n :: .n :: [])]) (fr := true) (by kernel_rfl) (an (an (ti (ti (ti trivial))) (an (an e1935 (an (not_f h1936) trivial)) (an (ti (ti (ti trivial))) (an (decide_eq_true h1937) (an (ti (ti trivial)) trivial))))) (ti (ti trivial))) (Wv.refl _)
   ·have e1938 := (show (0:Int) ≤ 0 ∧ (0:Int) < ((2 : Nat) : Int) from ⟨by decide, by decide⟩)
    obtain ⟨r1991, h1990, h⟩ := bs h
    have hph1990 := nspeculumref04_CheckSequence_l0_0_ok k a0 a1 a2 _ _ _ _ _ h1990
    cases r1991 with
    | inl r1992 =>
     dsimp only at h
     have e1994 := (an (ti trivial) (VRun.loop hph1990))
     injection h with h; subst h
     exact fun_ok pm pn Go.Proofs.Try.func19 (r0 := VV.tu [vi 0, vi r1992]) (ans := [.reg (nN 3 []), .reg (.n :: .n :: .call (vb r1927) :: nN 4 (.call (vb r1932) :: .n :: .b false :: [])), .br false, .reg (nN 3 []), .br false, .reg (nN 4 []), .reg (.n :: []), .sub ⟨[(0, none), (1, none), (5, none), (8, none), (9, none), (10, none)], [none], []⟩ .ret (nspeculumref04_CheckSequence_l0_0_e0 a0 a1 a2 r1992)]) (fr := true) (by kernel_rfl) (an (an (ti (ti (ti trivial))) (an (an e1935 (an (not_f h1936) trivial)) (an (an (ti (ti (ti trivial))) (an (decide_eq_false h1937) trivial)) (an (an e1938 (ti (ti (ti trivial)))) (an (ti trivial) e1994))))) (ti (ti trivial))) (Wv.refl _)
    | inr r1993 =>
     dsimp only at h
     have e1995 := (an (ti trivial) (VRun.loop hph1990))
     have e1996 := (show (0:Int) ≤ 1 ∧ (1:Int) < ((2 : Nat) : Int) from ⟨by decide, by decide⟩)
     rcases ifs h with ⟨h1997, h⟩ | ⟨h1997, h⟩
     ·injection h with h; subst h
      exact fun_ok pm pn Go.Proofs.Try.func19 (r0 := VV.tu [vi 0, vi 14]) (ans := [.reg (nN 3 []), .reg (.n :: .n :: .call (vb r1927) :: nN 4 (.call (vb r1932) :: .n :: .b false :: [])), .br false, .reg (nN 3 []), .br false, .reg (nN 4 []), .reg (.n :: []), .sub ⟨[(0, none), (1, none), (5, none), (8, none), (9, none), (10, none)], [none], []⟩ (.exit 0) (nspeculumref04_CheckSequence_l0_0_e1 a0 a1 a2 r1993), .reg (nN 4 []), .br true, .reg (.n :: .n :: [])]) (fr := true) (by kernel_rfl) (an (an (ti (ti (ti trivial))) (an (an e1935 (an (not_f h1936) trivial)) (an (an (ti (ti (ti trivial))) (an (decide_eq_false h1937) trivial)) (an (an e1938 (ti (ti (ti trivial)))) (an (an (ti trivial) e1995) (an (ti (an e1996 (ti (ti trivial)))) (an (decide_eq_true h1997) (an (ti (ti trivial)) trivial)))))))) (ti (ti trivial))) (Wv.refl _)
     ·injection h with h; subst h
      exact fun_ok pm pn Go.Proofs.Try.func19 (r0 := VV.tu [vi r1993.1, vi 0]) (ans := [.reg (nN 3 []), .reg (.n :: .n :: .call (vb r1927) :: nN 4 (.call (vb r1932) :: .n :: .b false :: [])), .br false, .reg (nN 3 []), .br false, .reg (nN 4 []), .reg (.n :: []), .sub ⟨[(0, none), (1, none), (5, none), (8, none), (9, none), (10, none)], [none], []⟩ (.exit 0) (nspeculumref04_CheckSequence_l0_0_e1 a0 a1 a2 r1993), .reg (nN 4 []), .br false, .reg (nN 3 [])]) (fr := true) (by kernel_rfl) (an (an (ti (ti (ti trivial))) (an (an e1935 (an (not_f h1936) trivial)) (an (an (ti (ti (ti trivial))) (an (decide_eq_false h1937) trivial)) (an (an e1938 (ti (ti (ti trivial)))) (an (an (ti trivial) e1995) (an (an (ti (an e1996 (ti (ti trivial)))) (an (decide_eq_false h1997) trivial)) (an (ti (ti (ti trivial))) trivial))))))) (ti (ti trivial))) (Wv.refl _)
  ·injection h with h; subst h
   exact fun_ok pm pn Go.Proofs.Try.func19 (r0 := VV.tu [vi 0, vi 2]) (ans := [.reg (nN 3 []), .reg (.n :: .n :: .call (vb r1927) :: nN 4 (.call (vb r1932) :: .n :: .b false :: [])), .br true, .reg (.n :: .n :: [])]) (fr := true) (by kernel_rfl) (an (an (ti (ti (ti trivial))) (an e1935 (an (not_t (bool_f h1936)) (an (ti (ti trivial)) trivial)))) (ti (ti trivial))) (Wv.refl _)
 ·have e1998 := (an e1926 (ti (an e1929 (ti (ti (an (not_t (bool_f h1930)) (an (not_t (bool_f h1930)) (an (not_t (bool_f h1930)) (an (not_t (bool_f h1930)) (an (not_t (bool_f h1930)) trivial))))))))))
  injection h with h; subst h
  exact fun_ok pm pn Go.Proofs.Try.func19 (r0 := VV.tu [vi 0, vi 2]) (ans := [.reg (nN 3 []), .reg (.n :: .n :: .call (vb r1927) :: .n :: .n :: nS 4 (.b true :: [])), .br true, .reg (.n :: .n :: [])]) (fr := true) (by kernel_rfl) (an (an (ti (ti (ti trivial))) (an e1998 (an rt (an (ti (ti trivial)) trivial)))) (ti (ti trivial))) (Wv.refl _)
def arK3_8 (z0 : (List SGrit)) (z1 : (List Int)) (z2 : (Int × Int)) : List Ans := (.n :: .call (VV.fr (List.flatMap c_SGrit z0) z0.length) :: .n :: .call (VV.fr (List.map vi z1) z1.length) :: .n :: .call (VV.tu [vi z2.1, vi z2.2]) :: nN 5 [])
def nspeculumlaw04_GrindSequences (k : Nat) (a0 : (List SGrit)) (a1 : (List Int)) (a2 : A38) : Option Bool :=
  (nawake k).bind fun r2010 => (if r2010 = true then ((nspeculumlaw04_gritty k a0).bind fun r2013 => (if r2013 = true then (if 15 < (a1.length : Int) then (some true) else ((nspeculumlaw04_grits k a0).bind fun r2018 => ((nspeculumbase_CopyInts k a1).bind fun r2021 => ((ngrind_CheckSequence k r2018 r2021 a2).bind fun r2024 => ((nspeculumref04_CheckGrits k a0).bind fun r2028 => (if r2028 = 0 then ((nspeculumref04_CheckSequence k a0 a1 a2).bind fun r2032 => (if r2024.2 = r2032.2 then (some (decide (r2024.1 = r2032.1))) else (some false))) else (if r2024.2 = r2028 then (some (decide (r2024.1 = 0))) else (some false)))))))) else (some true))) else (some false))
theorem nspeculumlaw04_GrindSequences_ok (k : Nat) (a0 : (List SGrit)) (a1 : (List Int)) (a2 : A38) (r : Bool) (h : nspeculumlaw04_GrindSequences k a0 a1 a2 = some r) : VC Go.Proofs.Try.prog 4 [VV.tr (List.flatMap c_SGrit a0) a0.length, VV.tr (List.map vi a1) a1.length, VV.ag (c_A38 a2)] (vb r) := by
 unfold nspeculumlaw04_GrindSequences at h
 obtain ⟨r2010, h2011, h⟩ := bs h
 rcases ifs h with ⟨h2012, h⟩ | ⟨h2012, h⟩
 ·obtain ⟨r2013, h2014, h⟩ := bs h
  rcases ifs h with ⟨h2015, h⟩ | ⟨h2015, h⟩
  ·have e2016 := (ti (an (nspeculumlaw04_gritty_ok k a0 _ h2014) (ti (ti (an (an (not_f h2015) trivial) (an (an (not_f h2015) trivial) (an (an (not_f h2015) trivial) (an (not_f h2015) trivial))))))))
   rcases ifs h with ⟨h2017, h⟩ | ⟨h2017, h⟩
   ·injection h with h; subst h
    exact fun_ok pm pn Go.Proofs.Try.func4 (r0 := vb true) (ans := [.reg (.n :: .n :: []), .reg (.call (vb r2010) :: .n :: []), .br false, .reg (.n :: .call (vb r2013) :: nN 5 (.b false :: [])), .br true, .reg (.n :: [])]) (fr := true) (by kernel_rfl) (an (an (ti (ti trivial)) (an (an (an (nawake_ok k _ h2011) (ti trivial)) (an (not_f h2012) trivial)) (an e2016 (an (decide_eq_true h2017) (an (ti trivial) trivial))))) (ti trivial)) (Wv.refl _)
   ·obtain ⟨r2018, h2019, h⟩ := bs h
    have e2020 := (show VC Go.Proofs.Try.prog 11 [VV.tr (List.flatMap c_SGrit a0) a0.length] (VV.fr (List.flatMap c_SGrit r2018) r2018.length) from (VC.weak (nspeculumlaw04_grits_ok k a0 _ h2019) (Wv.fw rfl rfl)))
    obtain ⟨r2021, h2022, h⟩ := bs h
    have e2023 := (show VC Go.Proofs.Try.prog 18 [VV.tr (List.map vi a1) a1.length] (VV.fr (List.map vi r2021) r2021.length) from (VC.weak (nspeculumbase_CopyInts_ok k a1 _ h2022) (Wv.fw rfl rfl)))
    obtain ⟨r2024, h2025, h⟩ := bs h
    have e2026 := (ngrind_CheckSequence_ok k r2018 r2021 a2 _ h2025)
    have e2027 := (ti (an e2020 (ti (an e2023 (ti (an e2026 (ti (ti (ti (ti (ti trivial)))))))))))
    obtain ⟨r2028, h2029, h⟩ := bs h
    have e2030 := (nspeculumref04_CheckGrits_ok k a0 _ h2029)
    rcases ifs h with ⟨h2031, h⟩ | ⟨h2031, h⟩
    ·obtain ⟨r2032, h2033, h⟩ := bs h
     have e2034 := (nspeculumref04_CheckSequence_ok k a0 a1 a2 _ h2033)
     have e2035 := (ti (ti (ti (an e2034 (ti (ti (ti (ti (ti trivial)))))))))
     rcases ifs h with ⟨h2036, h⟩ | ⟨h2036, h⟩
     ·have e2037 := (ti (ti (ti (ti (an (an (decide_eq_true h2036) trivial) (an (an (decide_eq_true h2036) trivial) (an (an (decide_eq_true h2036) trivial) (an (decide_eq_true h2036) (ti trivial)))))))))
      injection h with h; subst h
      exact fun_ok pm pn Go.Proofs.Try.func4 (r0 := vb (decide (r2024.1 = r2032.1))) (ans := [.reg (.n :: .n :: []), .reg (.call (vb r2010) :: .n :: []), .br false, .reg (.n :: .call (vb r2013) :: nN 5 (.b false :: [])), .br false, .reg (arK3_8 r2018 r2021 r2024), .reg (.n :: .call (vi r2028) :: .n :: .n :: []), .reg (.n :: .n :: []), .br true, .reg (nN 3 (.call (VV.tu [vi r2032.1, vi r2032.2]) :: nN 5 [])), .reg (nN 7 (.b true :: .n :: []))]) (fr := true) (by kernel_rfl) (an (an (ti (ti trivial)) (an (an (an (nawake_ok k _ h2011) (ti trivial)) (an (not_f h2012) trivial)) (an (an e2016 (an (decide_eq_false h2017) trivial)) (an e2027 (an (ti (an e2030 (ti (ti trivial)))) (an (an (ti (ti trivial)) (an (decide_eq_true h2031) e2035)) (an e2037 trivial))))))) (ti trivial)) (Wv.refl _)
     ·have e2038 := (ti (ti (ti (ti (an (decide_eq_false h2036) (an (decide_eq_false h2036) (an (decide_eq_false h2036) (an (decide_eq_false h2036) (ti trivial)))))))))
      injection h with h; subst h
      exact fun_ok pm pn Go.Proofs.Try.func4 (r0 := vb false) (ans := [.reg (.n :: .n :: []), .reg (.call (vb r2010) :: .n :: []), .br false, .reg (.n :: .call (vb r2013) :: nN 5 (.b false :: [])), .br false, .reg (arK3_8 r2018 r2021 r2024), .reg (.n :: .call (vi r2028) :: .n :: .n :: []), .reg (.n :: .n :: []), .br true, .reg (nN 3 (.call (VV.tu [vi r2032.1, vi r2032.2]) :: nN 5 [])), .reg (nN 4 (nS 3 (.b false :: .n :: [])))]) (fr := true) (by kernel_rfl) (an (an (ti (ti trivial)) (an (an (an (nawake_ok k _ h2011) (ti trivial)) (an (not_f h2012) trivial)) (an (an e2016 (an (decide_eq_false h2017) trivial)) (an e2027 (an (ti (an e2030 (ti (ti trivial)))) (an (an (ti (ti trivial)) (an (decide_eq_true h2031) e2035)) (an e2038 trivial))))))) (ti trivial)) (Wv.refl _)
    ·rcases ifs h with ⟨h2039, h⟩ | ⟨h2039, h⟩
     ·have e2040 := (ti (ti (ti (ti (an (an (decide_eq_true h2039) trivial) (an (an (decide_eq_true h2039) trivial) (an (an (decide_eq_true h2039) trivial) (an (decide_eq_true h2039) (ti trivial)))))))))
      injection h with h; subst h
      exact fun_ok pm pn Go.Proofs.Try.func4 (r0 := vb (decide (r2024.1 = 0))) (ans := [.reg (.n :: .n :: []), .reg (.call (vb r2010) :: .n :: []), .br false, .reg (.n :: .call (vb r2013) :: nN 5 (.b false :: [])), .br false, .reg (arK3_8 r2018 r2021 r2024), .reg (.n :: .call (vi r2028) :: .n :: .n :: []), .reg (.n :: .n :: []), .br false, .reg (nN 7 (.b true :: .n :: []))]) (fr := true) (by kernel_rfl) (an (an (ti (ti trivial)) (an (an (an (nawake_ok k _ h2011) (ti trivial)) (an (not_f h2012) trivial)) (an (an e2016 (an (decide_eq_false h2017) trivial)) (an e2027 (an (ti (an e2030 (ti (ti trivial)))) (an (an (ti (ti trivial)) (an (decide_eq_false h2031) trivial)) (an e2040 trivial))))))) (ti trivial)) (Wv.refl _)
     ·have e2041 := (ti (ti (ti (ti (an (decide_eq_false h2039) (an (decide_eq_false h2039) (an (decide_eq_false h2039) (an (decide_eq_false h2039) (ti trivial)))))))))
      injection h with h; subst h
      exact fun_ok pm pn Go.Proofs.Try.func4 (r0 := vb false) (ans := [.reg (.n :: .n :: []), .reg (.call (vb r2010) :: .n :: []), .br false, .reg (.n :: .call (vb r2013) :: nN 5 (.b false :: [])), .br false, .reg (arK3_8 r2018 r2021 r2024), .reg (.n :: .call (vi r2028) :: .n :: .n :: []), .reg (.n :: .n :: []), .br false, .reg (nN 4 (nS 3 (.b false :: .n :: [])))]) (fr := true) (by kernel_rfl) (an (an (ti (ti trivial)) (an (an (an (nawake_ok k _ h2011) (ti trivial)) (an (not_f h2012) trivial)) (an (an e2016 (an (decide_eq_false h2017) trivial)) (an e2027 (an (ti (an e2030 (ti (ti trivial)))) (an (an (ti (ti trivial)) (an (decide_eq_false h2031) trivial)) (an e2041 trivial))))))) (ti trivial)) (Wv.refl _)
  ·have e2042 := (ti (an (nspeculumlaw04_gritty_ok k a0 _ h2014) (ti (ti (an (not_t (bool_f h2015)) (an (not_t (bool_f h2015)) (an (not_t (bool_f h2015)) (an (not_t (bool_f h2015)) trivial))))))))
   injection h with h; subst h
   exact fun_ok pm pn Go.Proofs.Try.func4 (r0 := vb true) (ans := [.reg (.n :: .n :: []), .reg (.call (vb r2010) :: .n :: []), .br false, .reg (.n :: .call (vb r2013) :: .n :: .n :: nS 3 (.b true :: [])), .br true, .reg (.n :: [])]) (fr := true) (by kernel_rfl) (an (an (ti (ti trivial)) (an (an (an (nawake_ok k _ h2011) (ti trivial)) (an (not_f h2012) trivial)) (an e2042 (an rt (an (ti trivial) trivial))))) (ti trivial)) (Wv.refl _)
 ·injection h with h; subst h
  exact fun_ok pm pn Go.Proofs.Try.func4 (r0 := vb false) (ans := [.reg (.n :: .n :: []), .reg (.call (vb r2010) :: .n :: []), .br true, .reg (.n :: [])]) (fr := true) (by kernel_rfl) (an (an (ti (ti trivial)) (an (an (nawake_ok k _ h2011) (ti trivial)) (an (not_t (bool_f h2012)) (an (ti trivial) trivial)))) (ti trivial)) (Wv.refl _)
end Go.Proofs.Ytbaegoglpijnnaa.Vg

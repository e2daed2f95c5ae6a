/- Written by a program out of the program: what Go functions do, as plain functions, and their contracts. -/
import Derived.Test.YtjhclaollpkdgaaK0
namespace Go.Proofs.Ytjhclaollpkdgaa.Vg
set_option maxRecDepth 100000
set_option maxHeartbeats 4000000
set_option linter.unusedVariables false
set_option linter.unusedSimpArgs false
open Go Go.Proofs.Ytjhclaollpkdgaa.Ev Go.Proofs.Ytjhclaollpkdgaa.Vv
structure SGrit where
  Name : ByteArray
  Damage : Int
  Rate : Int
  deriving Inhabited
def c_SGrit (x : SGrit) : List VV := [vs x.Name, vi x.Damage, vi x.Rate]
theorem len_c_SGrit (x : SGrit) : (c_SGrit x).length = 3 := rfl
theorem still_c_SGrit (xs : List SGrit) : (xs.flatMap c_SGrit).all VV.still = true := all_flat (fun _ => rfl) xs
theorem isC_c_SGrit (xs : List SGrit) : (xs.flatMap c_SGrit).all VV.isC = true := all_flat (fun _ => rfl) xs
theorem new0_c_SGrit (xs : List SGrit) : (xs.flatMap c_SGrit).all new0 = true := all_flat (fun _ => rfl) xs
theorem unfr_c_SGrit (xs : List SGrit) : (xs.flatMap c_SGrit).map unfr = xs.flatMap c_SGrit := unfr_flat (fun _ => rfl) xs
theorem ag3 : isAggT Go.Proofs.Try.prog 3 = some false := by kernel_rfl
theorem ag4 : isAggT Go.Proofs.Try.prog 4 = some false := by kernel_rfl
theorem ag9 : isAggT Go.Proofs.Try.prog 9 = some false := by kernel_rfl
theorem ag22 : isAggT Go.Proofs.Try.prog 22 = some false := by kernel_rfl
theorem ag26 : isAggT Go.Proofs.Try.prog 26 = some false := by kernel_rfl
theorem ag27 : isAggT Go.Proofs.Try.prog 27 = some false := by kernel_rfl
theorem ag83 : isAggT Go.Proofs.Try.prog 83 = some false := by kernel_rfl
def nspeculumlaw04_gritty_l0_0_h (a0 : (List SGrit)) (x3 : Int) : VS := ⟨mkA [(0, VV.tr (List.flatMap c_SGrit a0) a0.length), (3, vi x3)], [], .nil⟩
def nspeculumlaw04_gritty_l0_0_e0 (a0 : (List SGrit)) (r : Unit) : VS := ⟨mkA [(2, vb false)], [], .nil⟩
def nspeculumlaw04_gritty_l0_0_e1 (a0 : (List SGrit)) (r : Unit) : VS := ⟨mkA [(0, VV.tr (List.flatMap c_SGrit a0) a0.length)], [], .nil⟩
def nspeculumlaw04_gritty_l0_0 (k : Nat) (a0 : (List SGrit)) : Nat → Int → Option (Sum Unit Unit)
  | 0, _ => none
  | fuel + 1, x3 => if x3 < (a0.length : Int) then (if 0 ≤ x3 ∧ x3 < (a0.length : Int) then (if 30 < (((a0.getD x3.toNat default).Name).size : Int) then (some (.inl ())) else (nspeculumlaw04_gritty_l0_0 k a0 fuel (w64 (x3 + 1)))) else none) else (some (.inr ()))
theorem nspeculumlaw04_gritty_l0_0_ok (k : Nat) (a0 : (List SGrit)) : ∀ (fuel : Nat) (x3 : Int) (r : Sum Unit Unit), nspeculumlaw04_gritty_l0_0 k a0 fuel x3 = some r → (match r with | .inl r => VLoop none Go.Proofs.Try.prog (szF Go.Proofs.Try.f7) (bodyOf Go.Proofs.Try.f7 0) (nspeculumlaw04_gritty_l0_0_h a0 x3) .ret (nspeculumlaw04_gritty_l0_0_e0 a0 r) | .inr r => VLoop none Go.Proofs.Try.prog (szF Go.Proofs.Try.f7) (bodyOf Go.Proofs.Try.f7 0) (nspeculumlaw04_gritty_l0_0_h a0 x3) (.exit 0) (nspeculumlaw04_gritty_l0_0_e1 a0 r)) := by
 intro fuel
 induction fuel with
 | zero => intro x3 r h; rw [nspeculumlaw04_gritty_l0_0.eq_1] at h; cases h
 | succ fuel ih =>
  intro x3 r h
  rw [nspeculumlaw04_gritty_l0_0.eq_2] at h
  rcases ifs h with ⟨h449, h⟩ | ⟨h449, h⟩
  ·obtain ⟨h450, h⟩ := ifn h
   have e451 := (show loadL Go.Proofs.Try.prog 9 (x3.toNat * 3 + 0) (List.flatMap c_SGrit a0) = some (vs ((a0.getD x3.toNat default).Name)) from (ld_flat ag9 c_SGrit 3 0 len_c_SGrit (by omega) a0 default h450 (by omega)).trans rfl)
   have e452 := (ti (ti (an h450 (ti (an e451 (ti (ti trivial)))))))
   rcases ifs h with ⟨h453, h⟩ | ⟨h453, h⟩
   ·injection h with h; subst h
    exact round_stop (c := ⟨[(2, none)], [], []⟩) (s1 := (nspeculumlaw04_gritty_l0_0_e0 a0 ())) pm pn (ans := [.reg (nN 4 []), .br true, .reg (nN 4 (.v (vs ((a0.getD x3.toNat default).Name)) :: .n :: .n :: [])), .br true, .reg (.n :: [])]) (by kernel_rfl) (by intro e; cases e) (an (an (an (ti (ti (ti (ti trivial)))) (an (decide_eq_true h449) trivial)) (an e452 (an (decide_eq_true h453) (an (ti trivial) trivial)))) (ti trivial))
   ·have h2 := ih _ _ h
    obtain ⟨q, hv, hq⟩ := pkR (rd := none) (P := Go.Proofs.Try.prog) (fn := Go.Proofs.Try.f7) (k := 0) (s := (nspeculumlaw04_gritty_l0_0_h a0 x3)) (ans := [.reg (nN 4 []), .br true, .reg (nN 4 (.v (vs ((a0.getD x3.toNat default).Name)) :: .n :: .n :: [])), .br false, .reg (nN 3 [])]) (c := ⟨[(0, none), (3, none)], [], []⟩) (e := .normal) (s1 := (nspeculumlaw04_gritty_l0_0_h a0 (w64 (x3 + 1)))) (an (an (an (ti (ti (ti (ti trivial)))) (an (decide_eq_true h449) trivial)) (an (an e452 (an (decide_eq_false h453) trivial)) (ti (ti (ti trivial))))) (ti trivial)) (by kernel_rfl)
    cases r with
    | inl r => exact round_next pm pn hv hq h2
    | inr r =>
     exact round_next pm pn hv hq h2
  ·injection h with h; subst h
   exact round_stop (c := ⟨[(0, none)], [], []⟩) (s1 := (nspeculumlaw04_gritty_l0_0_e1 a0 ())) pm pn (ans := [.reg (nN 4 []), .br false]) (by kernel_rfl) (by intro e; cases e) (an (an (ti (ti (ti (ti trivial)))) (an (decide_eq_false h449) trivial)) (ti trivial))
def nspeculumlaw04_gritty (k : Nat) (a0 : (List SGrit)) : Option Bool :=
  (nspeculumlaw04_gritty_l0_0 k a0 k 0).bind fun r455 => (match r455 with | .inl r456 => (some false) | .inr r457 => (if (a0.length : Int) ≤ 6 then (some true) else (if 12 < (a0.length : Int) then (some (decide ((a0.length : Int) ≤ 15))) else (some false))))
theorem nspeculumlaw04_gritty_ok (k : Nat) (a0 : (List SGrit)) (r : Bool) (h : nspeculumlaw04_gritty k a0 = some r) : VC Go.Proofs.Try.prog 7 [VV.tr (List.flatMap c_SGrit a0) a0.length] (vb r) := by
 unfold nspeculumlaw04_gritty at h
 obtain ⟨r455, h454, h⟩ := bs h
 have hph454 := nspeculumlaw04_gritty_l0_0_ok k a0 _ _ _ h454
 cases r455 with
 | inl r456 =>
  dsimp only at h
  have e458 := (an (ti trivial) (VRun.loop hph454))
  injection h with h; subst h
  exact fun_ok pm pn Go.Proofs.Try.func7 (r0 := vb false) (ans := [.reg (.n :: []), .reg (.n :: []), .sub ⟨[(0, none), (3, none)], [], []⟩ .ret (nspeculumlaw04_gritty_l0_0_e0 a0 r456)]) (fr := true) (by kernel_rfl) (an (an (ti trivial) (an (ti trivial) e458)) (ti trivial)) (Wv.refl _)
 | inr r457 =>
  dsimp only at h
  have e459 := (an (ti trivial) (VRun.loop hph454))
  rcases ifs h with ⟨h460, h⟩ | ⟨h460, h⟩
  ·have e461 := (ti (ti (ti (ti (an (decide_eq_true h460) (an (decide_eq_true h460) (an (decide_eq_true h460) (an (decide_eq_true h460) (ti (ti (ti (an (decide_eq_true h460) (an (decide_eq_true h460) (ti trivial))))))))))))))
   injection h with h; subst h
   exact fun_ok pm pn Go.Proofs.Try.func7 (r0 := vb true) (ans := [.reg (.n :: []), .reg (.n :: []), .sub ⟨[(0, none), (3, none)], [], []⟩ (.exit 0) (nspeculumlaw04_gritty_l0_0_e1 a0 r457), .reg (nN 4 (nS 8 (.b true :: .n :: [])))]) (fr := true) (by kernel_rfl) (an (an (ti trivial) (an (an (ti trivial) e459) (an e461 trivial))) (ti trivial)) (Wv.refl _)
  ·rcases ifs h with ⟨h462, h⟩ | ⟨h462, h⟩
   ·have e463 := (an (decide_eq_false h460) (decide_eq_true h462))
    have e464 := (ti (ti (ti (ti (an (an (decide_eq_false h460) trivial) (an (an (decide_eq_false h460) trivial) (an (an (decide_eq_false h460) trivial) (an (an (decide_eq_false h460) trivial) (an (an (decide_eq_true h462) trivial) (an (an (decide_eq_true h462) trivial) (an (an (decide_eq_true h462) trivial) (an e463 (an (decide_eq_false h460) (ti trivial))))))))))))))
    injection h with h; subst h
    exact fun_ok pm pn Go.Proofs.Try.func7 (r0 := vb (decide ((a0.length : Int) ≤ 15))) (ans := [.reg (.n :: []), .reg (.n :: []), .sub ⟨[(0, none), (3, none)], [], []⟩ (.exit 0) (nspeculumlaw04_gritty_l0_0_e1 a0 r457), .reg (nN 11 (.b true :: .b false :: .n :: []))]) (fr := true) (by kernel_rfl) (an (an (ti trivial) (an (an (ti trivial) e459) (an e464 trivial))) (ti trivial)) (Wv.refl _)
   ·have e465 := (an (decide_eq_false h460) (decide_eq_false h462))
    have e466 := (ti (ti (ti (ti (an (an (decide_eq_false h460) trivial) (an (an (decide_eq_false h460) trivial) (an (an (decide_eq_false h460) trivial) (an (an (decide_eq_false h460) trivial) (an (decide_eq_false h462) (an (decide_eq_false h462) (an (decide_eq_false h462) (an e465 (an (decide_eq_false h460) (ti trivial))))))))))))))
    injection h with h; subst h
    exact fun_ok pm pn Go.Proofs.Try.func7 (r0 := vb false) (ans := [.reg (.n :: []), .reg (.n :: []), .sub ⟨[(0, none), (3, none)], [], []⟩ (.exit 0) (nspeculumlaw04_gritty_l0_0_e1 a0 r457), .reg (nN 8 (nS 3 (.b false :: .b false :: .n :: [])))]) (fr := true) (by kernel_rfl) (an (an (ti trivial) (an (an (ti trivial) e459) (an e466 trivial))) (ti trivial)) (Wv.refl _)
def nspeculumlaw04_grits (k : Nat) (a0 : (List SGrit)) : Option (List SGrit) :=
  if ([] : List SGrit).length + a0.length ≤ 1000000000 then (some (([] : List SGrit) ++ a0)) else none
theorem nspeculumlaw04_grits_ok (k : Nat) (a0 : (List SGrit)) (r : (List SGrit)) (h : nspeculumlaw04_grits k a0 = some r) : VC Go.Proofs.Try.prog 9 [VV.tr (List.flatMap c_SGrit a0) a0.length] (VV.fw 3 (List.flatMap c_SGrit r) r.length) := by
 unfold nspeculumlaw04_grits at h
 obtain ⟨h469, h⟩ := ifn h
 have e470 := (show List.length [] = 0 * 3 ∧ List.length (List.flatMap c_SGrit a0) = a0.length * 3 ∧ (0 + a0.length) * 32 ≤ 140737488355328 ∧ 0 + a0.length < 1099511627776 ∧ List.all (List.flatMap c_SGrit a0) VV.still = true from ⟨(by rw [show [] = List.flatMap c_SGrit ([] : List SGrit) from rfl]; rw [flatMap_len len_c_SGrit] <;> simp), (by rw [flatMap_len len_c_SGrit] <;> simp), (by first | omega | (simp at h469 ⊢; omega)), (by first | omega | (simp at h469 ⊢; omega)), (by exact still_c_SGrit _)⟩)
 injection h with h; subst h
 exact fun_ok pm pn Go.Proofs.Try.func9 (r0 := VV.fw 3 (List.drop 0 (List.map unfr ([] ++ (List.flatMap c_SGrit a0)))) (0 + a0.length)) (ans := [.reg (.n :: []), .reg (nN 4 [])]) (fr := true) (by kernel_rfl) (an (an (ti trivial) (an (ti (ti (an e470 (ti trivial)))) trivial)) (an (show List.all ([] ++ (List.flatMap c_SGrit a0)) new0 = true from (by rw [show [] ++ (List.flatMap c_SGrit a0) = List.flatMap c_SGrit (([] : List SGrit) ++ a0) from (by rw [show [] = List.flatMap c_SGrit ([] : List SGrit) from rfl]; exact List.flatMap_append.symm)]; exact new0_c_SGrit _)) trivial)) (Wv.of_eq (by simp only [show [] ++ (List.flatMap c_SGrit a0) = List.flatMap c_SGrit (([] : List SGrit) ++ a0) from (by rw [show [] = List.flatMap c_SGrit ([] : List SGrit) from rfl]; exact List.flatMap_append.symm), drop0, unfr_vi, unfr_vb, unfr_vs, List.map_cons, List.map_nil, un_i, un_k, un_b, un_s, un_tr, un_fr, List.length_map, List.length_replicate, List.length_append, List.length_set, List.length_cons, List.length_nil, unfr_c_SGrit]))
def ngrind_need (k : Nat) (a0 : Bool) (a1 : Int) : Option (Bool × Int) :=
  some (a0, a1)
theorem ngrind_need_ok (k : Nat) (a0 : Bool) (a1 : Int) (r : (Bool × Int)) (h : ngrind_need k a0 a1 = some r) : VC Go.Proofs.Try.prog 41 [vb a0, vi a1] (VV.fn 68 [VV.tp [vb r.1] 0, VV.tp [vi r.2] 0]) := by
 unfold ngrind_need at h
 injection h with h; subst h
 exact fun_ok pm pn Go.Proofs.Try.func41 (r0 := VV.fn 68 [VV.tp [vb a0] 0, VV.tp [vi a1] 0]) (ans := [.reg (nN 3 []), .frz 0, .frz 1, .reg (.n :: .n :: [])]) (fr := false) (by kernel_rfl) (an (an (ti (ti (ti trivial))) (an (ti (ti trivial)) trivial)) (ti trivial)) (Wv.of_eq rfl)
def ngrind_need_1 (k : Nat) (q0_0 : Bool) (q1_0 : Int) : Option Int :=
  if q0_0 = true then (some 0) else (some q1_0)
theorem ngrind_need_1_ok (k : Nat) (q0_0 : Bool) (q1_0 : Int) (r : Int) (h : ngrind_need_1 k q0_0 q1_0 = some r) : VC Go.Proofs.Try.prog 68 [VV.tp [vb q0_0] 0, VV.tp [vi q1_0] 0] (vi r) := by
 unfold ngrind_need_1 at h
 have e481 := (show loadL Go.Proofs.Try.prog 4 0 [vb q0_0] = some (vb q0_0) from (ld_one ag4 rfl))
 rcases ifs h with ⟨h482, h⟩ | ⟨h482, h⟩
 ·injection h with h; subst h
  exact fun_ok pm pn Go.Proofs.Try.func68 (r0 := vi 0) (ans := [.reg (.n :: []), .reg (.v (vb q0_0) :: []), .br true, .reg (.n :: [])]) (fr := true) (by kernel_rfl) (an (an (ti trivial) (an (an e481 trivial) (an h482 (an (ti trivial) trivial)))) (ti trivial)) (Wv.refl _)
 ·have e483 := (show loadL Go.Proofs.Try.prog 27 0 [vi q1_0] = some (vi q1_0) from (ld_one ag27 rfl))
  injection h with h; subst h
  exact fun_ok pm pn Go.Proofs.Try.func68 (r0 := vi q1_0) (ans := [.reg (.n :: []), .reg (.v (vb q0_0) :: []), .br false, .reg (.v (vi q1_0) :: .n :: [])]) (fr := true) (by kernel_rfl) (an (an (ti trivial) (an (an (an e481 trivial) (an (bool_f h482) trivial)) (an (an e483 (ti trivial)) trivial))) (ti trivial)) (Wv.refl _)
def arK1_0 (z0 : Bool) (z1 : (Bool × Int)) : List Ans := (.n :: .call (vb z0) :: .call (VV.fn 68 [VV.tp [vb z1.1] 0, VV.tp [vi z1.2] 0]) :: .n :: [])
def ngrind_named (k : Nat) (a0 : ByteArray) : Option (Bool × Int) :=
  (ngrind_isName k a0).bind fun r508 => ((ngrind_need k r508 4).bind fun r510 => (some r510))
theorem ngrind_named_ok (k : Nat) (a0 : ByteArray) (r : (Bool × Int)) (h : ngrind_named k a0 = some r) : VC Go.Proofs.Try.prog 52 [vs a0] (VV.fn 68 [VV.tp [vb r.1] 0, VV.tp [vi r.2] 0]) := by
 unfold ngrind_named at h
 obtain ⟨r508, h509, h⟩ := bs h
 obtain ⟨r510, h511, h⟩ := bs h
 have e512 := (ti (an (ngrind_isName_ok k a0 _ h509) (an (ngrind_need_ok k r508 4 _ h511) (ti trivial))))
 injection h with h; subst h
 exact fun_ok pm pn Go.Proofs.Try.func52 (r0 := VV.fn 68 [VV.tp [vb r510.1] 0, VV.tp [vi r510.2] 0]) (ans := [.reg (.n :: []), .reg (arK1_0 r508 r510)]) (fr := false) (by kernel_rfl) (an (an (ti trivial) (an e512 trivial)) (ti trivial)) (Wv.refl _)
def ngrind_within (k : Nat) (a0 : Int) (a1 : Int) (a2 : (List Int)) : Option ((List Int) × Int × Int) :=
  some (a2, a0, a1)
theorem ngrind_within_ok (k : Nat) (a0 : Int) (a1 : Int) (a2 : (List Int)) (r : ((List Int) × Int × Int)) (h : ngrind_within k a0 a1 a2 = some r) : VC Go.Proofs.Try.prog 36 [vi a0, vi a1, VV.tr (List.map vi a2) a2.length] (VV.fn 64 [VV.tp [VV.tr (List.map vi r.1) r.1.length] 0, VV.tp [vi r.2.1] 0, VV.tp [vi r.2.2] 0]) := by
 unfold ngrind_within at h
 injection h with h; subst h
 exact fun_ok pm pn Go.Proofs.Try.func36 (r0 := VV.fn 64 [VV.tp [VV.tr (List.map vi a2) a2.length] 0, VV.tp [vi a0] 0, VV.tp [vi a1] 0]) (ans := [.reg (nN 4 []), .frz 0, .frz 1, .frz 2, .reg (.n :: .n :: [])]) (fr := false) (by kernel_rfl) (an (an (ti (ti (ti (ti trivial)))) (an (ti (ti trivial)) trivial)) (ti trivial)) (Wv.of_eq rfl)
theorem eqK1_0 (z0 : (List SGrit)) : [vi 0, vi 1000000, VV.tr (List.map vi ([(z0.getD ((0 : Int)).toNat default).Damage] : List Int)) (([(z0.getD ((0 : Int)).toNat default).Damage] : List Int).length)] = [vi 0, vi 1000000, VV.tr [vi ((z0.getD ((0 : Int)).toNat default).Damage)] 1] := by first | rfl | (simp only [unfr_vi, List.map_cons, List.map_nil, un_i, un_tr, List.length_map, List.length_cons, List.length_nil]; done) | (simp only [unfr_vi, List.map_cons, List.map_nil, un_i, un_tr, List.length_map, List.length_cons, List.length_nil]; rfl) | (simp only [unfr_vi, List.map_cons, List.map_nil, un_i, un_tr, List.length_map, List.length_cons, List.length_nil, List.length_cons, List.length_nil, List.length_append]; done)
theorem eqK1_1 (z0 : (List SGrit)) : [vi 1, vi 100000, VV.tr (List.map vi ([(z0.getD ((0 : Int)).toNat default).Rate] : List Int)) (([(z0.getD ((0 : Int)).toNat default).Rate] : List Int).length)] = [vi 1, vi 100000, VV.tr [vi ((z0.getD ((0 : Int)).toNat default).Rate)] 1] := by first | rfl | (simp only [unfr_vi, List.map_cons, List.map_nil, un_i, un_tr, List.length_map, List.length_cons, List.length_nil]; done) | (simp only [unfr_vi, List.map_cons, List.map_nil, un_i, un_tr, List.length_map, List.length_cons, List.length_nil]; rfl) | (simp only [unfr_vi, List.map_cons, List.map_nil, un_i, un_tr, List.length_map, List.length_cons, List.length_nil, List.length_cons, List.length_nil, List.length_append]; done)
def ngrind_within_1_l0_0_h (q0_0 : (List Int)) (q1_0 : Int) (q2_0 : Int) (x8 : Int) : VS := ⟨mkA [(1, VV.tp [vi q1_0] 0), (2, VV.tp [vi q2_0] 0), (6, VV.tr (List.map vi q0_0) q0_0.length), (7, vi (q0_0.length : Int)), (8, vi x8)], [], .nil⟩
def ngrind_within_1_l0_0_e0 (q0_0 : (List Int)) (q1_0 : Int) (q2_0 : Int) (r : Unit) : VS := ⟨mkA [(3, vi 2)], [], .nil⟩
def ngrind_within_1_l0_0_e1 (q0_0 : (List Int)) (q1_0 : Int) (q2_0 : Int) (r : Unit) : VS := ⟨mkA [], [], .nil⟩
def ngrind_within_1_l0_0 (k : Nat) (q0_0 : (List Int)) (q1_0 : Int) (q2_0 : Int) : Nat → Int → Option (Sum Unit Unit)
  | 0, _ => none
  | fuel + 1, x8 => if x8 < (q0_0.length : Int) then (if 0 ≤ x8 ∧ x8 < (q0_0.length : Int) then ((ngrind_isWithin k (q0_0.getD x8.toNat 0) q1_0 q2_0).bind fun r601 => (if r601 = true then (ngrind_within_1_l0_0 k q0_0 q1_0 q2_0 fuel (w64 (x8 + 1))) else (some (.inl ())))) else none) else (some (.inr ()))
theorem ngrind_within_1_l0_0_ok (k : Nat) (q0_0 : (List Int)) (q1_0 : Int) (q2_0 : Int) : ∀ (fuel : Nat) (x8 : Int) (r : Sum Unit Unit), ngrind_within_1_l0_0 k q0_0 q1_0 q2_0 fuel x8 = some r → (match r with | .inl r => VLoop none Go.Proofs.Try.prog (szF Go.Proofs.Try.f64) (bodyOf Go.Proofs.Try.f64 0) (ngrind_within_1_l0_0_h q0_0 q1_0 q2_0 x8) .ret (ngrind_within_1_l0_0_e0 q0_0 q1_0 q2_0 r) | .inr r => VLoop none Go.Proofs.Try.prog (szF Go.Proofs.Try.f64) (bodyOf Go.Proofs.Try.f64 0) (ngrind_within_1_l0_0_h q0_0 q1_0 q2_0 x8) (.exit 0) (ngrind_within_1_l0_0_e1 q0_0 q1_0 q2_0 r)) := by
 intro fuel
 induction fuel with
 | zero => intro x8 r h; rw [ngrind_within_1_l0_0.eq_1] at h; cases h
 | succ fuel ih =>
  intro x8 r h
  rw [ngrind_within_1_l0_0.eq_2] at h
  rcases ifs h with ⟨h596, h⟩ | ⟨h596, h⟩
  ·obtain ⟨h597, h⟩ := ifn h
   have e598 := (show loadL Go.Proofs.Try.prog 3 (x8.toNat * 1) (List.map vi q0_0) = some (vi (q0_0.getD x8.toNat 0)) from ld_map ag3 vi q0_0 0 h597 (by omega))
   have e599 := (show loadL Go.Proofs.Try.prog 3 0 [vi q1_0] = some (vi q1_0) from (ld_one ag3 rfl))
   have e600 := (show loadL Go.Proofs.Try.prog 3 0 [vi q2_0] = some (vi q2_0) from (ld_one ag3 rfl))
   obtain ⟨r601, h602, h⟩ := bs h
   have e603 := (ngrind_isWithin_ok k (q0_0.getD x8.toNat 0) q1_0 q2_0 _ h602)
   rcases ifs h with ⟨h604, h⟩ | ⟨h604, h⟩
   ·have h2 := ih _ _ h
    obtain ⟨q, hv, hq⟩ := pkR (rd := none) (P := Go.Proofs.Try.prog) (fn := Go.Proofs.Try.f64) (k := 0) (s := (ngrind_within_1_l0_0_h q0_0 q1_0 q2_0 x8)) (ans := [.reg (.n :: []), .br true, .reg (.n :: .v (vi (q0_0.getD x8.toNat 0)) :: .n :: []), .reg (.n :: .v (vi q1_0) :: .v (vi q2_0) :: .call (vb r601) :: .n :: []), .br false, .reg (.n :: .n :: [])]) (c := ⟨[(1, none), (2, none), (6, none), (7, none), (8, none)], [], []⟩) (e := .normal) (s1 := (ngrind_within_1_l0_0_h q0_0 q1_0 q2_0 (w64 (x8 + 1)))) (an (an (ti trivial) (an (an (decide_eq_true h596) trivial) (an (an (an h597 (an e598 (ti trivial))) (an (ti (an e599 (an e600 (an e603 (ti trivial))))) (an (not_f h604) trivial))) (ti (ti trivial))))) (ti trivial)) (by kernel_rfl)
    cases r with
    | inl r => exact round_next pm pn hv hq h2
    | inr r =>
     exact round_next pm pn hv hq h2
   ·injection h with h; subst h
    exact round_stop (c := ⟨[(3, none)], [], []⟩) (s1 := (ngrind_within_1_l0_0_e0 q0_0 q1_0 q2_0 ())) pm pn (ans := [.reg (.n :: []), .br true, .reg (.n :: .v (vi (q0_0.getD x8.toNat 0)) :: .n :: []), .reg (.n :: .v (vi q1_0) :: .v (vi q2_0) :: .call (vb r601) :: .n :: []), .br true, .reg (.n :: [])]) (by kernel_rfl) (by intro e; cases e) (an (an (ti trivial) (an (an (decide_eq_true h596) trivial) (an (an h597 (an e598 (ti trivial))) (an (ti (an e599 (an e600 (an e603 (ti trivial))))) (an (not_t (bool_f h604)) (an (ti trivial) trivial)))))) (ti trivial))
  ·injection h with h; subst h
   exact round_stop (c := ⟨[], [], []⟩) (s1 := (ngrind_within_1_l0_0_e1 q0_0 q1_0 q2_0 ())) pm pn (ans := [.reg (.n :: []), .br false]) (by kernel_rfl) (by intro e; cases e) (an (an (ti trivial) (an (decide_eq_false h596) trivial)) (ti trivial))
def ngrind_within_1 (k : Nat) (q0_0 : (List Int)) (q1_0 : Int) (q2_0 : Int) : Option Int :=
  (ngrind_within_1_l0_0 k q0_0 q1_0 q2_0 k 0).bind fun r606 => (match r606 with | .inl r607 => (some 2) | .inr r608 => (some 0))
theorem ngrind_within_1_ok (k : Nat) (q0_0 : (List Int)) (q1_0 : Int) (q2_0 : Int) (r : Int) (h : ngrind_within_1 k q0_0 q1_0 q2_0 = some r) : VC Go.Proofs.Try.prog 64 [VV.tp [VV.tr (List.map vi q0_0) q0_0.length] 0, VV.tp [vi q1_0] 0, VV.tp [vi q2_0] 0] (vi r) := by
 unfold ngrind_within_1 at h
 have e577 := (show loadL Go.Proofs.Try.prog 26 0 [VV.tr (List.map vi q0_0) q0_0.length] = some (VV.tr (List.map vi q0_0) q0_0.length) from (ld_one ag26 rfl))
 obtain ⟨r606, h605, h⟩ := bs h
 have hph605 := ngrind_within_1_l0_0_ok k q0_0 q1_0 q2_0 _ _ _ h605
 cases r606 with
 | inl r607 =>
  dsimp only at h
  have e609 := (an (ti trivial) (VRun.loop hph605))
  injection h with h; subst h
  exact fun_ok pm pn Go.Proofs.Try.func64 (r0 := vi 2) (ans := [.reg (.n :: []), .reg (.v (VV.tr (List.map vi q0_0) q0_0.length) :: .n :: .n :: []), .sub ⟨[(1, none), (2, none), (6, none), (7, none), (8, none)], [], []⟩ .ret (ngrind_within_1_l0_0_e0 q0_0 q1_0 q2_0 r607)]) (fr := true) (by kernel_rfl) (an (an (ti trivial) (an (an e577 (ti (ti trivial))) e609)) (ti trivial)) (Wv.refl _)
 | inr r608 =>
  dsimp only at h
  have e610 := (an (ti trivial) (VRun.loop hph605))
  injection h with h; subst h
  exact fun_ok pm pn Go.Proofs.Try.func64 (r0 := vi 0) (ans := [.reg (.n :: []), .reg (.v (VV.tr (List.map vi q0_0) q0_0.length) :: .n :: .n :: []), .sub ⟨[(1, none), (2, none), (6, none), (7, none), (8, none)], [], []⟩ (.exit 0) (ngrind_within_1_l0_0_e1 q0_0 q1_0 q2_0 r608), .reg (.n :: [])]) (fr := true) (by kernel_rfl) (an (an (ti trivial) (an (an (an e577 (ti (ti trivial))) e610) (an (ti trivial) trivial))) (ti trivial)) (Wv.refl _)
def arK1_1 (z0 : ((Bool × Int) × (Bool × Int) × ((List Int) × Int × Int) × ((List Int) × Int × Int))) : List Ans := (.n :: .v (VV.fn 64 [VV.tp [VV.tr (List.map vi z0.2.2.1.1) z0.2.2.1.1.length] 0, VV.tp [vi z0.2.2.1.2.1] 0, VV.tp [vi z0.2.2.1.2.2] 0]) :: .n :: [])
def arK1_2 (z0 : ((Bool × Int) × (Bool × Int) × ((List Int) × Int × Int) × ((List Int) × Int × Int))) : List Ans := (.n :: .v (VV.fn 64 [VV.tp [VV.tr (List.map vi z0.2.2.2.1) z0.2.2.2.1.length] 0, VV.tp [vi z0.2.2.2.2.1] 0, VV.tp [vi z0.2.2.2.2.2] 0]) :: .n :: [])
def ngrind_firstOf_c0_Lgrind_need_1_grind_need_1_grind_within_1_grind_within_1 (k : Nat) (a0 : ((Bool × Int) × (Bool × Int) × ((List Int) × Int × Int) × ((List Int) × Int × Int))) : Option Int :=
  (ngrind_need_1 k a0.1.1 a0.1.2).bind fun r623 => (if r623 = 0 then ((ngrind_need_1 k a0.2.1.1 a0.2.1.2).bind fun r629 => (if r629 = 0 then ((ngrind_within_1 k a0.2.2.1.1 a0.2.2.1.2.1 a0.2.2.1.2.2).bind fun r635 => (if r635 = 0 then ((ngrind_within_1 k a0.2.2.2.1 a0.2.2.2.2.1 a0.2.2.2.2.2).bind fun r641 => (if r641 = 0 then (some 0) else (some r641))) else (some r635))) else (some r629))) else (some r623))
theorem ngrind_firstOf_c0_Lgrind_need_1_grind_need_1_grind_within_1_grind_within_1_ok (k : Nat) (a0 : ((Bool × Int) × (Bool × Int) × ((List Int) × Int × Int) × ((List Int) × Int × Int))) (r : Int) (h : ngrind_firstOf_c0_Lgrind_need_1_grind_need_1_grind_within_1_grind_within_1 k a0 = some r) : VC Go.Proofs.Try.prog 34 [VV.tr ([VV.fn 68 [VV.tp [vb a0.1.1] 0, VV.tp [vi a0.1.2] 0], VV.fn 68 [VV.tp [vb a0.2.1.1] 0, VV.tp [vi a0.2.1.2] 0], VV.fn 64 [VV.tp [VV.tr (List.map vi a0.2.2.1.1) a0.2.2.1.1.length] 0, VV.tp [vi a0.2.2.1.2.1] 0, VV.tp [vi a0.2.2.1.2.2] 0], VV.fn 64 [VV.tp [VV.tr (List.map vi a0.2.2.2.1) a0.2.2.2.1.length] 0, VV.tp [vi a0.2.2.2.2.1] 0, VV.tp [vi a0.2.2.2.2.2] 0]]) 4] (vi r) := by
 unfold ngrind_firstOf_c0_Lgrind_need_1_grind_need_1_grind_within_1_grind_within_1 at h
 have e621 := (show (0 : Int) ≤ 0 ∧ (0 : Int) < ((4 : Nat) : Int) from ⟨by decide, by decide⟩)
 have e622 := (show loadL Go.Proofs.Try.prog 83 ((0 : Int).toNat * 1) ([VV.fn 68 [VV.tp [vb a0.1.1] 0, VV.tp [vi a0.1.2] 0], VV.fn 68 [VV.tp [vb a0.2.1.1] 0, VV.tp [vi a0.2.1.2] 0], VV.fn 64 [VV.tp [VV.tr (List.map vi a0.2.2.1.1) a0.2.2.1.1.length] 0, VV.tp [vi a0.2.2.1.2.1] 0, VV.tp [vi a0.2.2.1.2.2] 0], VV.fn 64 [VV.tp [VV.tr (List.map vi a0.2.2.2.1) a0.2.2.2.1.length] 0, VV.tp [vi a0.2.2.2.2.1] 0, VV.tp [vi a0.2.2.2.2.2] 0]]) = some (VV.fn 68 [VV.tp [vb a0.1.1] 0, VV.tp [vi a0.1.2] 0]) from (ld_one ag83 rfl))
 obtain ⟨r623, h624, h⟩ := bs h
 have e625 := (ngrind_need_1_ok k a0.1.1 a0.1.2 _ h624)
 rcases ifs h with ⟨h626, h⟩ | ⟨h626, h⟩
 ·have e627 := (show (0 : Int) ≤ 1 ∧ (1 : Int) < ((4 : Nat) : Int) from ⟨by decide, by decide⟩)
  have e628 := (show loadL Go.Proofs.Try.prog 83 ((1 : Int).toNat * 1) ([VV.fn 68 [VV.tp [vb a0.1.1] 0, VV.tp [vi a0.1.2] 0], VV.fn 68 [VV.tp [vb a0.2.1.1] 0, VV.tp [vi a0.2.1.2] 0], VV.fn 64 [VV.tp [VV.tr (List.map vi a0.2.2.1.1) a0.2.2.1.1.length] 0, VV.tp [vi a0.2.2.1.2.1] 0, VV.tp [vi a0.2.2.1.2.2] 0], VV.fn 64 [VV.tp [VV.tr (List.map vi a0.2.2.2.1) a0.2.2.2.1.length] 0, VV.tp [vi a0.2.2.2.2.1] 0, VV.tp [vi a0.2.2.2.2.2] 0]]) = some (VV.fn 68 [VV.tp [vb a0.2.1.1] 0, VV.tp [vi a0.2.1.2] 0]) from (ld_one ag83 rfl))
  obtain ⟨r629, h630, h⟩ := bs h
  have e631 := (ngrind_need_1_ok k a0.2.1.1 a0.2.1.2 _ h630)
  rcases ifs h with ⟨h632, h⟩ | ⟨h632, h⟩
  ·have e633 := (show (0 : Int) ≤ 2 ∧ (2 : Int) < ((4 : Nat) : Int) from ⟨by decide, by decide⟩)
   have e634 := (show loadL Go.Proofs.Try.prog 83 ((2 : Int).toNat * 1) ([VV.fn 68 [VV.tp [vb a0.1.1] 0, VV.tp [vi a0.1.2] 0], VV.fn 68 [VV.tp [vb a0.2.1.1] 0, VV.tp [vi a0.2.1.2] 0], VV.fn 64 [VV.tp [VV.tr (List.map vi a0.2.2.1.1) a0.2.2.1.1.length] 0, VV.tp [vi a0.2.2.1.2.1] 0, VV.tp [vi a0.2.2.1.2.2] 0], VV.fn 64 [VV.tp [VV.tr (List.map vi a0.2.2.2.1) a0.2.2.2.1.length] 0, VV.tp [vi a0.2.2.2.2.1] 0, VV.tp [vi a0.2.2.2.2.2] 0]]) = some (VV.fn 64 [VV.tp [VV.tr (List.map vi a0.2.2.1.1) a0.2.2.1.1.length] 0, VV.tp [vi a0.2.2.1.2.1] 0, VV.tp [vi a0.2.2.1.2.2] 0]) from (ld_one ag83 rfl))
   obtain ⟨r635, h636, h⟩ := bs h
   have e637 := (ngrind_within_1_ok k a0.2.2.1.1 a0.2.2.1.2.1 a0.2.2.1.2.2 _ h636)
   rcases ifs h with ⟨h638, h⟩ | ⟨h638, h⟩
   ·have e639 := (show (0 : Int) ≤ 3 ∧ (3 : Int) < ((4 : Nat) : Int) from ⟨by decide, by decide⟩)
    have e640 := (show loadL Go.Proofs.Try.prog 83 ((3 : Int).toNat * 1) ([VV.fn 68 [VV.tp [vb a0.1.1] 0, VV.tp [vi a0.1.2] 0], VV.fn 68 [VV.tp [vb a0.2.1.1] 0, VV.tp [vi a0.2.1.2] 0], VV.fn 64 [VV.tp [VV.tr (List.map vi a0.2.2.1.1) a0.2.2.1.1.length] 0, VV.tp [vi a0.2.2.1.2.1] 0, VV.tp [vi a0.2.2.1.2.2] 0], VV.fn 64 [VV.tp [VV.tr (List.map vi a0.2.2.2.1) a0.2.2.2.1.length] 0, VV.tp [vi a0.2.2.2.2.1] 0, VV.tp [vi a0.2.2.2.2.2] 0]]) = some (VV.fn 64 [VV.tp [VV.tr (List.map vi a0.2.2.2.1) a0.2.2.2.1.length] 0, VV.tp [vi a0.2.2.2.2.1] 0, VV.tp [vi a0.2.2.2.2.2] 0]) from (ld_one ag83 rfl))
    obtain ⟨r641, h642, h⟩ := bs h
    have e643 := (ngrind_within_1_ok k a0.2.2.2.1 a0.2.2.2.2.1 a0.2.2.2.2.2 _ h642)
    rcases ifs h with ⟨h644, h⟩ | ⟨h644, h⟩
    ·injection h with h; subst h
     exact fun_ok pm pn Go.Proofs.Try.func34 (r0 := vi 0) (ans := [.reg (.n :: []), .reg (nN 3 []), .unr 6, .reg (.n :: []), .br true, .reg (.n :: .v (VV.fn 68 [VV.tp [vb a0.1.1] 0, VV.tp [vi a0.1.2] 0]) :: .n :: []), .reg (.n :: .call (vi r623) :: .n :: []), .reg (.n :: .n :: []), .br false, .reg (.n :: .n :: []), .reg (.n :: []), .br true, .reg (.n :: .v (VV.fn 68 [VV.tp [vb a0.2.1.1] 0, VV.tp [vi a0.2.1.2] 0]) :: .n :: []), .reg (.n :: .call (vi r629) :: .n :: []), .reg (.n :: .n :: []), .br false, .reg (.n :: .n :: []), .reg (.n :: []), .br true, .reg (arK1_1 a0), .reg (.n :: .call (vi r635) :: .n :: []), .reg (.n :: .n :: []), .br false, .reg (.n :: .n :: []), .reg (.n :: []), .br true, .reg (arK1_2 a0), .reg (.n :: .call (vi r641) :: .n :: []), .reg (.n :: .n :: []), .br false, .reg (.n :: .n :: []), .reg (.n :: []), .br false, .reg (.n :: [])]) (fr := true) (by kernel_rfl) (an (an (ti trivial) (an (an (ti (ti (ti trivial))) (an (an (ti trivial) (an (an (show (decide ((0 : Int) < 4)) = true from (decide_eq_true (by decide))) trivial) (an (an (an e621 (an e622 (ti trivial))) (an (ti (an e625 (ti trivial))) (an (ti (ti trivial)) (an (not_f (decide_eq_true h626)) trivial)))) (ti (ti trivial))))) (an (an (ti trivial) (an (an (show (decide ((1 : Int) < 4)) = true from (decide_eq_true (by decide))) trivial) (an (an (an e627 (an e628 (ti trivial))) (an (ti (an e631 (ti trivial))) (an (ti (ti trivial)) (an (not_f (decide_eq_true h632)) trivial)))) (ti (ti trivial))))) (an (an (ti trivial) (an (an (show (decide ((2 : Int) < 4)) = true from (decide_eq_true (by decide))) trivial) (an (an (an e633 (an e634 (ti trivial))) (an (ti (an e637 (ti trivial))) (an (ti (ti trivial)) (an (not_f (decide_eq_true h638)) trivial)))) (ti (ti trivial))))) (an (an (ti trivial) (an (an (show (decide ((3 : Int) < 4)) = true from (decide_eq_true (by decide))) trivial) (an (an (an e639 (an e640 (ti trivial))) (an (ti (an e643 (ti trivial))) (an (ti (ti trivial)) (an (not_f (decide_eq_true h644)) trivial)))) (ti (ti trivial))))) (an (ti trivial) (an (show (decide ((4 : Int) < 4)) = false from (decide_eq_false (by decide))) trivial))))))) (an (ti trivial) trivial))) (ti trivial)) (Wv.refl _)
    ·injection h with h; subst h
     exact fun_ok pm pn Go.Proofs.Try.func34 (r0 := vi r641) (ans := [.reg (.n :: []), .reg (nN 3 []), .unr 5, .reg (.n :: []), .br true, .reg (.n :: .v (VV.fn 68 [VV.tp [vb a0.1.1] 0, VV.tp [vi a0.1.2] 0]) :: .n :: []), .reg (.n :: .call (vi r623) :: .n :: []), .reg (.n :: .n :: []), .br false, .reg (.n :: .n :: []), .reg (.n :: []), .br true, .reg (.n :: .v (VV.fn 68 [VV.tp [vb a0.2.1.1] 0, VV.tp [vi a0.2.1.2] 0]) :: .n :: []), .reg (.n :: .call (vi r629) :: .n :: []), .reg (.n :: .n :: []), .br false, .reg (.n :: .n :: []), .reg (.n :: []), .br true, .reg (arK1_1 a0), .reg (.n :: .call (vi r635) :: .n :: []), .reg (.n :: .n :: []), .br false, .reg (.n :: .n :: []), .reg (.n :: []), .br true, .reg (arK1_2 a0), .reg (.n :: .call (vi r641) :: .n :: []), .reg (.n :: .n :: []), .br true, .reg (.n :: .n :: [])]) (fr := true) (by kernel_rfl) (an (an (ti trivial) (an (ti (ti (ti trivial))) (an (an (ti trivial) (an (an (show (decide ((0 : Int) < 4)) = true from (decide_eq_true (by decide))) trivial) (an (an (an e621 (an e622 (ti trivial))) (an (ti (an e625 (ti trivial))) (an (ti (ti trivial)) (an (not_f (decide_eq_true h626)) trivial)))) (ti (ti trivial))))) (an (an (ti trivial) (an (an (show (decide ((1 : Int) < 4)) = true from (decide_eq_true (by decide))) trivial) (an (an (an e627 (an e628 (ti trivial))) (an (ti (an e631 (ti trivial))) (an (ti (ti trivial)) (an (not_f (decide_eq_true h632)) trivial)))) (ti (ti trivial))))) (an (an (ti trivial) (an (an (show (decide ((2 : Int) < 4)) = true from (decide_eq_true (by decide))) trivial) (an (an (an e633 (an e634 (ti trivial))) (an (ti (an e637 (ti trivial))) (an (ti (ti trivial)) (an (not_f (decide_eq_true h638)) trivial)))) (ti (ti trivial))))) (an (ti trivial) (an (an (show (decide ((3 : Int) < 4)) = true from (decide_eq_true (by decide))) trivial) (an (an e639 (an e640 (ti trivial))) (an (ti (an e643 (ti trivial))) (an (ti (ti trivial)) (an (not_t (decide_eq_false h644)) (an (ti (ti trivial)) trivial)))))))))))) (ti trivial)) (Wv.refl _)
   ·injection h with h; subst h
    exact fun_ok pm pn Go.Proofs.Try.func34 (r0 := vi r635) (ans := [.reg (.n :: []), .reg (nN 3 []), .unr 4, .reg (.n :: []), .br true, .reg (.n :: .v (VV.fn 68 [VV.tp [vb a0.1.1] 0, VV.tp [vi a0.1.2] 0]) :: .n :: []), .reg (.n :: .call (vi r623) :: .n :: []), .reg (.n :: .n :: []), .br false, .reg (.n :: .n :: []), .reg (.n :: []), .br true, .reg (.n :: .v (VV.fn 68 [VV.tp [vb a0.2.1.1] 0, VV.tp [vi a0.2.1.2] 0]) :: .n :: []), .reg (.n :: .call (vi r629) :: .n :: []), .reg (.n :: .n :: []), .br false, .reg (.n :: .n :: []), .reg (.n :: []), .br true, .reg (arK1_1 a0), .reg (.n :: .call (vi r635) :: .n :: []), .reg (.n :: .n :: []), .br true, .reg (.n :: .n :: [])]) (fr := true) (by kernel_rfl) (an (an (ti trivial) (an (ti (ti (ti trivial))) (an (an (ti trivial) (an (an (show (decide ((0 : Int) < 4)) = true from (decide_eq_true (by decide))) trivial) (an (an (an e621 (an e622 (ti trivial))) (an (ti (an e625 (ti trivial))) (an (ti (ti trivial)) (an (not_f (decide_eq_true h626)) trivial)))) (ti (ti trivial))))) (an (an (ti trivial) (an (an (show (decide ((1 : Int) < 4)) = true from (decide_eq_true (by decide))) trivial) (an (an (an e627 (an e628 (ti trivial))) (an (ti (an e631 (ti trivial))) (an (ti (ti trivial)) (an (not_f (decide_eq_true h632)) trivial)))) (ti (ti trivial))))) (an (ti trivial) (an (an (show (decide ((2 : Int) < 4)) = true from (decide_eq_true (by decide))) trivial) (an (an e633 (an e634 (ti trivial))) (an (ti (an e637 (ti trivial))) (an (ti (ti trivial)) (an (not_t (decide_eq_false h638)) (an (ti (ti trivial)) trivial))))))))))) (ti trivial)) (Wv.refl _)
  ·injection h with h; subst h
   exact fun_ok pm pn Go.Proofs.Try.func34 (r0 := vi r629) (ans := [.reg (.n :: []), .reg (nN 3 []), .unr 3, .reg (.n :: []), .br true, .reg (.n :: .v (VV.fn 68 [VV.tp [vb a0.1.1] 0, VV.tp [vi a0.1.2] 0]) :: .n :: []), .reg (.n :: .call (vi r623) :: .n :: []), .reg (.n :: .n :: []), .br false, .reg (.n :: .n :: []), .reg (.n :: []), .br true, .reg (.n :: .v (VV.fn 68 [VV.tp [vb a0.2.1.1] 0, VV.tp [vi a0.2.1.2] 0]) :: .n :: []), .reg (.n :: .call (vi r629) :: .n :: []), .reg (.n :: .n :: []), .br true, .reg (.n :: .n :: [])]) (fr := true) (by kernel_rfl) (an (an (ti trivial) (an (ti (ti (ti trivial))) (an (an (ti trivial) (an (an (show (decide ((0 : Int) < 4)) = true from (decide_eq_true (by decide))) trivial) (an (an (an e621 (an e622 (ti trivial))) (an (ti (an e625 (ti trivial))) (an (ti (ti trivial)) (an (not_f (decide_eq_true h626)) trivial)))) (ti (ti trivial))))) (an (ti trivial) (an (an (show (decide ((1 : Int) < 4)) = true from (decide_eq_true (by decide))) trivial) (an (an e627 (an e628 (ti trivial))) (an (ti (an e631 (ti trivial))) (an (ti (ti trivial)) (an (not_t (decide_eq_false h632)) (an (ti (ti trivial)) trivial)))))))))) (ti trivial)) (Wv.refl _)
 ·injection h with h; subst h
  exact fun_ok pm pn Go.Proofs.Try.func34 (r0 := vi r623) (ans := [.reg (.n :: []), .reg (nN 3 []), .unr 2, .reg (.n :: []), .br true, .reg (.n :: .v (VV.fn 68 [VV.tp [vb a0.1.1] 0, VV.tp [vi a0.1.2] 0]) :: .n :: []), .reg (.n :: .call (vi r623) :: .n :: []), .reg (.n :: .n :: []), .br true, .reg (.n :: .n :: [])]) (fr := true) (by kernel_rfl) (an (an (ti trivial) (an (ti (ti (ti trivial))) (an (ti trivial) (an (an (show (decide ((0 : Int) < 4)) = true from (decide_eq_true (by decide))) trivial) (an (an e621 (an e622 (ti trivial))) (an (ti (an e625 (ti trivial))) (an (ti (ti trivial)) (an (not_t (decide_eq_false h626)) (an (ti (ti trivial)) trivial))))))))) (ti trivial)) (Wv.refl _)
theorem eqK1_2 (z0 : (Bool × Int)) (z1 : (Bool × Int)) (z2 : ((List Int) × Int × Int)) (z3 : ((List Int) × Int × Int)) : [VV.tr ([VV.fn 68 [VV.tp [vb (((z0, z1, z2, z3).1).1)] 0, VV.tp [vi (((z0, z1, z2, z3).1).2)] 0], VV.fn 68 [VV.tp [vb (((z0, z1, z2, z3).2.1).1)] 0, VV.tp [vi (((z0, z1, z2, z3).2.1).2)] 0], VV.fn 64 [VV.tp [VV.tr (List.map vi (((z0, z1, z2, z3).2.2.1).1)) ((((z0, z1, z2, z3).2.2.1).1).length)] 0, VV.tp [vi (((z0, z1, z2, z3).2.2.1).2.1)] 0, VV.tp [vi (((z0, z1, z2, z3).2.2.1).2.2)] 0], VV.fn 64 [VV.tp [VV.tr (List.map vi (((z0, z1, z2, z3).2.2.2).1)) ((((z0, z1, z2, z3).2.2.2).1).length)] 0, VV.tp [vi (((z0, z1, z2, z3).2.2.2).2.1)] 0, VV.tp [vi (((z0, z1, z2, z3).2.2.2).2.2)] 0]]) 4] = [VV.tr (List.drop 0 (List.map unfr [VV.fn 68 [VV.tp [vb z0.1] 0, VV.tp [vi z0.2] 0], VV.fn 68 [VV.tp [vb z1.1] 0, VV.tp [vi z1.2] 0], VV.fn 64 [VV.tp [VV.tr (List.map vi z2.1) z2.1.length] 0, VV.tp [vi z2.2.1] 0, VV.tp [vi z2.2.2] 0], VV.fn 64 [VV.tp [VV.tr (List.map vi z3.1) z3.1.length] 0, VV.tp [vi z3.2.1] 0, VV.tp [vi z3.2.2] 0]])) 4] := by first | rfl | (simp only [drop0, unfr_vi, unfr_vb, List.map_cons, List.map_nil, un_i, un_b, un_tr, List.length_map, List.length_cons, List.length_nil]; done) | (simp only [drop0, unfr_vi, unfr_vb, List.map_cons, List.map_nil, un_i, un_b, un_tr, List.length_map, List.length_cons, List.length_nil]; rfl) | (simp only [drop0, unfr_vi, unfr_vb, List.map_cons, List.map_nil, un_i, un_b, un_tr, List.length_map, List.length_cons, List.length_nil, List.length_cons, List.length_nil, List.length_append]; done)
def arK1_3 (z0 : (List SGrit)) : List Ans := (.n :: .v (VV.tr (List.flatMap c_SGrit z0) z0.length) :: nN 3 (.v (vs ((z0.getD ((0 : Int)).toNat default).Name)) :: .v (vb (mget ([] : List (ByteArray × Bool)) ((z0.getD ((0 : Int)).toNat default).Name))) :: .n :: []))
def arK1_4 (z0 : (List SGrit)) : List Ans := (.n :: .v (VV.tr (List.flatMap c_SGrit z0) z0.length) :: nN 3 (.v (vs ((z0.getD ((0 : Int)).toNat default).Name)) :: .n :: []))
def arK1_5 (z0 : (List SGrit)) (z1 : (Bool × Int)) (z2 : (Bool × Int)) (z3 : ((List Int) × Int × Int)) (z4 : ((List Int) × Int × Int)) (z5 : Int) : List Ans := (.v (VV.tr (List.flatMap c_SGrit z0) z0.length) :: nN 3 (.v (vs ((z0.getD ((0 : Int)).toNat default).Name)) :: .call (VV.fn 68 [VV.tp [vb z1.1] 0, VV.tp [vi z1.2] 0]) :: .n :: .n :: .call (VV.fn 68 [VV.tp [vb z2.1] 0, VV.tp [vi z2.2] 0]) :: .v (VV.tr (List.flatMap c_SGrit z0) z0.length) :: nN 3 (.v (vi ((z0.getD ((0 : Int)).toNat default).Damage)) :: .v VV.any :: .call (VV.fn 64 [VV.tp [VV.tr (List.map vi z3.1) z3.1.length] 0, VV.tp [vi z3.2.1] 0, VV.tp [vi z3.2.2] 0]) :: .v (VV.tr (List.flatMap c_SGrit z0) z0.length) :: nN 3 (.v (vi ((z0.getD ((0 : Int)).toNat default).Rate)) :: .v VV.any :: .call (VV.fn 64 [VV.tp [VV.tr (List.map vi z4.1) z4.1.length] 0, VV.tp [vi z4.2.1] 0, VV.tp [vi z4.2.2] 0]) :: .n :: .call (vi z5) :: .n :: []))))
def arK1_6 (z0 : (List SGrit)) : List Ans := (.n :: .v (VV.tr (List.flatMap c_SGrit z0) z0.length) :: nN 3 (.v (vs ((z0.getD ((0 : Int)).toNat default).Name)) :: .b false :: .n :: []))
theorem eqK1_3 (z0 : (List SGrit)) (z1 : Int) : [vi 0, vi 1000000, VV.tr (List.map vi ([(z0.getD z1.toNat default).Damage] : List Int)) (([(z0.getD z1.toNat default).Damage] : List Int).length)] = [vi 0, vi 1000000, VV.tr [vi ((z0.getD z1.toNat default).Damage)] 1] := by first | rfl | (simp only [unfr_vi, List.map_cons, List.map_nil, un_i, un_tr, List.length_map, List.length_cons, List.length_nil]; done) | (simp only [unfr_vi, List.map_cons, List.map_nil, un_i, un_tr, List.length_map, List.length_cons, List.length_nil]; rfl) | (simp only [unfr_vi, List.map_cons, List.map_nil, un_i, un_tr, List.length_map, List.length_cons, List.length_nil, List.length_cons, List.length_nil, List.length_append]; done)
theorem eqK1_4 (z0 : (List SGrit)) (z1 : Int) : [vi 1, vi 100000, VV.tr (List.map vi ([(z0.getD z1.toNat default).Rate] : List Int)) (([(z0.getD z1.toNat default).Rate] : List Int).length)] = [vi 1, vi 100000, VV.tr [vi ((z0.getD z1.toNat default).Rate)] 1] := by first | rfl | (simp only [unfr_vi, List.map_cons, List.map_nil, un_i, un_tr, List.length_map, List.length_cons, List.length_nil]; done) | (simp only [unfr_vi, List.map_cons, List.map_nil, un_i, un_tr, List.length_map, List.length_cons, List.length_nil]; rfl) | (simp only [unfr_vi, List.map_cons, List.map_nil, un_i, un_tr, List.length_map, List.length_cons, List.length_nil, List.length_cons, List.length_nil, List.length_append]; done)
def arK1_7 (z0 : (List SGrit)) (z1 : Int) (z2 : List (ByteArray × Bool)) : List Ans := (.n :: .v (VV.tr (List.flatMap c_SGrit z0) z0.length) :: nN 3 (.v (vs ((z0.getD z1.toNat default).Name)) :: .v (vb (mget z2 ((z0.getD z1.toNat default).Name))) :: .n :: []))
def arK1_8 (z0 : (List SGrit)) (z1 : Int) : List Ans := (.n :: .v (VV.tr (List.flatMap c_SGrit z0) z0.length) :: nN 3 (.v (vs ((z0.getD z1.toNat default).Name)) :: .n :: []))
def arK1_9 (z0 : (List SGrit)) (z1 : Int) (z2 : (Bool × Int)) (z3 : (Bool × Int)) (z4 : ((List Int) × Int × Int)) (z5 : ((List Int) × Int × Int)) (z6 : Int) : List Ans := (.v (VV.tr (List.flatMap c_SGrit z0) z0.length) :: nN 3 (.v (vs ((z0.getD z1.toNat default).Name)) :: .call (VV.fn 68 [VV.tp [vb z2.1] 0, VV.tp [vi z2.2] 0]) :: .n :: .n :: .call (VV.fn 68 [VV.tp [vb z3.1] 0, VV.tp [vi z3.2] 0]) :: .v (VV.tr (List.flatMap c_SGrit z0) z0.length) :: nN 3 (.v (vi ((z0.getD z1.toNat default).Damage)) :: .v VV.any :: .call (VV.fn 64 [VV.tp [VV.tr (List.map vi z4.1) z4.1.length] 0, VV.tp [vi z4.2.1] 0, VV.tp [vi z4.2.2] 0]) :: .v (VV.tr (List.flatMap c_SGrit z0) z0.length) :: nN 3 (.v (vi ((z0.getD z1.toNat default).Rate)) :: .v VV.any :: .call (VV.fn 64 [VV.tp [VV.tr (List.map vi z5.1) z5.1.length] 0, VV.tp [vi z5.2.1] 0, VV.tp [vi z5.2.2] 0]) :: .n :: .call (vi z6) :: .n :: []))))
def arK1_10 (z0 : (List SGrit)) (z1 : Int) : List Ans := (.n :: .v (VV.tr (List.flatMap c_SGrit z0) z0.length) :: nN 3 (.v (vs ((z0.getD z1.toNat default).Name)) :: .b false :: .n :: []))
noncomputable def arK1_11 (z0 : (List SGrit)) (z1 : Int) (z2 : List (ByteArray × Bool)) (z3 : (Bool × Int)) (z4 : (Bool × Int)) (z5 : ((List Int) × Int × Int)) (z6 : ((List Int) × Int × Int)) (z7 : Int) : List Ans := (.n :: .n :: .inl (inlF Go.Proofs.Try.f86 [.reg (.n :: []), .reg (arK1_7 z0 z1 z2), .reg (arK1_8 z0 z1), .reg (arK1_9 z0 z1 z3 z4 z5 z6 z7)]) :: .n :: [])
noncomputable def arK1_12 (z0 : (List SGrit)) (z1 : Int) (z2 : (Bool × Int)) (z3 : (Bool × Int)) (z4 : ((List Int) × Int × Int)) (z5 : ((List Int) × Int × Int)) (z6 : Int) : List Ans := (.n :: .n :: .inl (inlF Go.Proofs.Try.f86 [.reg (.n :: []), .reg (arK1_10 z0 z1), .reg (arK1_8 z0 z1), .reg (arK1_9 z0 z1 z2 z3 z4 z5 z6)]) :: .n :: [])
def ngrind_CheckGrits_i34_i90_l0_0_h (a0 : (List SGrit)) (r826 : (Bool × Int)) (r832 : Int) (y1 : List (ByteArray × Bool)) (x6 : Int) : VS := ⟨mkA [(1, VV.pt 4 0), (5, vi (a0.length : Int)), (6, vi x6)], [none, some ⟨true, bigX + 1, List.flatMap (mpE vb) y1⟩, some ⟨true, 1, [VV.mp 1]⟩, none, some ⟨true, 1, [VV.fn 86 [VV.pt 2 0, VV.tp [VV.tr (List.flatMap c_SGrit a0) a0.length] 0]]⟩, some ⟨true, 1, [VV.fn 68 [VV.tp [vb r826.1] 0, VV.tp [vi r826.2] 0], VV.fn 90 [VV.tp [vi (a0.length : Int)] 0, VV.pt 4 0]]⟩], (.node none (mkA [(0, VV.rf 5 0 2), (2, vi 0), (4, VV.fn 90 [VV.tp [vi (a0.length : Int)] 0, VV.pt 4 0]), (5, vi r832), (6, VV.rf 5 0 2), (7, vi 2), (8, vi 1), (9, vb (decide ((1 : Int) < 2))), (10, VV.pt 5 1), (11, VV.fn 90 [VV.tp [vi (a0.length : Int)] 0, VV.pt 4 0]), (12, VV.fn 90 [VV.tp [vi (a0.length : Int)] 0, VV.pt 4 0]), (13, vi r832), (14, vi r832), (15, vb (!(decide (r832 = 0)))), (17, vi 1)]) (.node none (mkA [(0, VV.tr (List.flatMap c_SGrit a0) a0.length), (1, VV.tp [VV.tr (List.flatMap c_SGrit a0) a0.length] 0), (2, vi 0), (3, VV.pt 2 0), (4, VV.mp 1), (5, VV.tr (List.flatMap c_SGrit a0) a0.length), (6, vi (a0.length : Int)), (7, vb (decide ((a0.length : Int) ≤ 12))), (8, VV.fn 68 [VV.tp [vb r826.1] 0, VV.tp [vi r826.2] 0]), (9, VV.tr (List.flatMap c_SGrit a0) a0.length), (10, vi (a0.length : Int)), (11, VV.fn 86 [VV.pt 2 0, VV.tp [VV.tr (List.flatMap c_SGrit a0) a0.length] 0]), (12, VV.fn 90 [VV.tp [vi (a0.length : Int)] 0, VV.pt 4 0]), (13, VV.rf 5 0 2)]) .nil))⟩
def ngrind_CheckGrits_i34_i90_l0_0_e0 (a0 : (List SGrit)) (r826 : (Bool × Int)) (r832 : Int) (r : Int × (List (ByteArray × Bool))) : VS := ⟨mkA [(2, vi r.1)], [none, some ⟨true, bigX + 1, List.flatMap (mpE vb) r.2⟩, some ⟨true, 1, [VV.mp 1]⟩, none, some ⟨true, 1, [VV.fn 86 [VV.pt 2 0, VV.tp [VV.tr (List.flatMap c_SGrit a0) a0.length] 0]]⟩, some ⟨true, 1, [VV.fn 68 [VV.tp [vb r826.1] 0, VV.tp [vi r826.2] 0], VV.fn 90 [VV.tp [vi (a0.length : Int)] 0, VV.pt 4 0]]⟩], (.node none (mkA [(0, VV.rf 5 0 2), (2, vi 0), (4, VV.fn 90 [VV.tp [vi (a0.length : Int)] 0, VV.pt 4 0]), (5, vi r832), (6, VV.rf 5 0 2), (7, vi 2), (8, vi 1), (9, vb (decide ((1 : Int) < 2))), (10, VV.pt 5 1), (11, VV.fn 90 [VV.tp [vi (a0.length : Int)] 0, VV.pt 4 0]), (12, VV.fn 90 [VV.tp [vi (a0.length : Int)] 0, VV.pt 4 0]), (13, vi r832), (14, vi r832), (15, vb (!(decide (r832 = 0)))), (17, vi 1)]) (.node none (mkA [(0, VV.tr (List.flatMap c_SGrit a0) a0.length), (1, VV.tp [VV.tr (List.flatMap c_SGrit a0) a0.length] 0), (2, vi 0), (3, VV.pt 2 0), (4, VV.mp 1), (5, VV.tr (List.flatMap c_SGrit a0) a0.length), (6, vi (a0.length : Int)), (7, vb (decide ((a0.length : Int) ≤ 12))), (8, VV.fn 68 [VV.tp [vb r826.1] 0, VV.tp [vi r826.2] 0]), (9, VV.tr (List.flatMap c_SGrit a0) a0.length), (10, vi (a0.length : Int)), (11, VV.fn 86 [VV.pt 2 0, VV.tp [VV.tr (List.flatMap c_SGrit a0) a0.length] 0]), (12, VV.fn 90 [VV.tp [vi (a0.length : Int)] 0, VV.pt 4 0]), (13, VV.rf 5 0 2)]) .nil))⟩
def ngrind_CheckGrits_i34_i90_l0_0_e1 (a0 : (List SGrit)) (r826 : (Bool × Int)) (r832 : Int) (r : (List (ByteArray × Bool))) : VS := ⟨mkA [], [none, some ⟨true, bigX + 1, List.flatMap (mpE vb) r⟩, some ⟨true, 1, [VV.mp 1]⟩, none, some ⟨true, 1, [VV.fn 86 [VV.pt 2 0, VV.tp [VV.tr (List.flatMap c_SGrit a0) a0.length] 0]]⟩, some ⟨true, 1, [VV.fn 68 [VV.tp [vb r826.1] 0, VV.tp [vi r826.2] 0], VV.fn 90 [VV.tp [vi (a0.length : Int)] 0, VV.pt 4 0]]⟩], (.node none (mkA [(0, VV.rf 5 0 2), (2, vi 0), (4, VV.fn 90 [VV.tp [vi (a0.length : Int)] 0, VV.pt 4 0]), (5, vi r832), (6, VV.rf 5 0 2), (7, vi 2), (8, vi 1), (9, vb (decide ((1 : Int) < 2))), (10, VV.pt 5 1), (11, VV.fn 90 [VV.tp [vi (a0.length : Int)] 0, VV.pt 4 0]), (12, VV.fn 90 [VV.tp [vi (a0.length : Int)] 0, VV.pt 4 0]), (13, vi r832), (14, vi r832), (15, vb (!(decide (r832 = 0)))), (17, vi 1)]) (.node none (mkA [(0, VV.tr (List.flatMap c_SGrit a0) a0.length), (1, VV.tp [VV.tr (List.flatMap c_SGrit a0) a0.length] 0), (2, vi 0), (3, VV.pt 2 0), (4, VV.mp 1), (5, VV.tr (List.flatMap c_SGrit a0) a0.length), (6, vi (a0.length : Int)), (7, vb (decide ((a0.length : Int) ≤ 12))), (8, VV.fn 68 [VV.tp [vb r826.1] 0, VV.tp [vi r826.2] 0]), (9, VV.tr (List.flatMap c_SGrit a0) a0.length), (10, vi (a0.length : Int)), (11, VV.fn 86 [VV.pt 2 0, VV.tp [VV.tr (List.flatMap c_SGrit a0) a0.length] 0]), (12, VV.fn 90 [VV.tp [vi (a0.length : Int)] 0, VV.pt 4 0]), (13, VV.rf 5 0 2)]) .nil))⟩
def ngrind_CheckGrits_i34_i90_l0_0 (k : Nat) (a0 : (List SGrit)) (r826 : (Bool × Int)) (r832 : Int) : Nat → (List (ByteArray × Bool)) → Int → Option (Sum (Int × (List (ByteArray × Bool))) (List (ByteArray × Bool)))
  | 0, _, _ => none
  | fuel + 1, y1, x6 => if x6 < (a0.length : Int) then (if 0 ≤ x6 ∧ x6 < (a0.length : Int) then (if mhas y1 ((a0.getD x6.toNat default).Name) = true then ((ngrind_named k ((a0.getD x6.toNat default).Name)).bind fun r979 => ((ngrind_need k (!(mget y1 ((a0.getD x6.toNat default).Name))) 5).bind fun r982 => ((ngrind_within k 0 1000000 ([(a0.getD x6.toNat default).Damage] : List Int)).bind fun r987 => ((ngrind_within k 1 100000 ([(a0.getD x6.toNat default).Rate] : List Int)).bind fun r992 => ((ngrind_firstOf_c0_Lgrind_need_1_grind_need_1_grind_within_1_grind_within_1 k (r979, r982, r987, r992)).bind fun r995 => (if r995 = 0 then (ngrind_CheckGrits_i34_i90_l0_0 k a0 r826 r832 fuel (mset y1 ((a0.getD x6.toNat default).Name) true) (w64 (x6 + 1))) else (some (.inl (r995, mset y1 ((a0.getD x6.toNat default).Name) true))))))))) else ((ngrind_named k ((a0.getD x6.toNat default).Name)).bind fun r1009 => ((ngrind_need k (!false) 5).bind fun r1012 => ((ngrind_within k 0 1000000 ([(a0.getD x6.toNat default).Damage] : List Int)).bind fun r1016 => ((ngrind_within k 1 100000 ([(a0.getD x6.toNat default).Rate] : List Int)).bind fun r1021 => ((ngrind_firstOf_c0_Lgrind_need_1_grind_need_1_grind_within_1_grind_within_1 k (r1009, r1012, r1016, r1021)).bind fun r1024 => (if r1024 = 0 then (ngrind_CheckGrits_i34_i90_l0_0 k a0 r826 r832 fuel (mset y1 ((a0.getD x6.toNat default).Name) true) (w64 (x6 + 1))) else (some (.inl (r1024, mset y1 ((a0.getD x6.toNat default).Name) true)))))))))) else none) else (some (.inr y1))
theorem ngrind_CheckGrits_i34_i90_l0_0_ok (k : Nat) (a0 : (List SGrit)) (r826 : (Bool × Int)) (r832 : Int) : ∀ (fuel : Nat) (y1 : List (ByteArray × Bool)) (x6 : Int) (r : Sum (Int × (List (ByteArray × Bool))) (List (ByteArray × Bool))), ngrind_CheckGrits_i34_i90_l0_0 k a0 r826 r832 fuel y1 x6 = some r → (match r with | .inl r => VLoop none Go.Proofs.Try.prog (szF Go.Proofs.Try.f90) (bodyOf Go.Proofs.Try.f90 0) (ngrind_CheckGrits_i34_i90_l0_0_h a0 r826 r832 y1 x6) .ret (ngrind_CheckGrits_i34_i90_l0_0_e0 a0 r826 r832 r) | .inr r => VLoop none Go.Proofs.Try.prog (szF Go.Proofs.Try.f90) (bodyOf Go.Proofs.Try.f90 0) (ngrind_CheckGrits_i34_i90_l0_0_h a0 r826 r832 y1 x6) (.exit 0) (ngrind_CheckGrits_i34_i90_l0_0_e1 a0 r826 r832 r)) := by
 intro fuel
 induction fuel with
 | zero => intro y1 x6 r h; rw [ngrind_CheckGrits_i34_i90_l0_0.eq_1] at h; cases h
 | succ fuel ih =>
  intro y1 x6 r h
  rw [ngrind_CheckGrits_i34_i90_l0_0.eq_2] at h
  rcases ifs h with ⟨h966, h⟩ | ⟨h966, h⟩
  ·have e967 := (show loadL Go.Proofs.Try.prog 22 0 [VV.tr (List.flatMap c_SGrit a0) a0.length] = some (VV.tr (List.flatMap c_SGrit a0) a0.length) from (ld_one ag22 rfl))
   obtain ⟨h968, h⟩ := ifn h
   have e969 := (show loadL Go.Proofs.Try.prog 9 (x6.toNat * 3 + 0) (List.flatMap c_SGrit a0) = some (vs ((a0.getD x6.toNat default).Name)) from (ld_flat ag9 c_SGrit 3 0 len_c_SGrit (by omega) a0 default h968 (by omega)).trans rfl)
   rcases ifs h with ⟨h970, h⟩ | ⟨h970, h⟩
   ·have e971 := (show keysM (kdV (.string ((a0.getD x6.toNat default).Name))) (List.flatMap (mpE vb) y1) = true ∧ lkM (.string ((a0.getD x6.toNat default).Name)) (List.flatMap (mpE vb) y1) = some (vb (mget y1 ((a0.getD x6.toNat default).Name))) from ⟨(keysM_mp vb ((a0.getD x6.toNat default).Name) y1), (lkM_has vb ((a0.getD x6.toNat default).Name) y1 h970)⟩)
    have e972 := (ti (an e967 (ti (an h968 (ti (an e969 (an e971 (ti trivial))))))))
    have e973 := (show loadL Go.Proofs.Try.prog 22 0 [VV.tr (List.flatMap c_SGrit a0) a0.length] = some (VV.tr (List.flatMap c_SGrit a0) a0.length) from (ld_one ag22 rfl))
    have e974 := (show loadL Go.Proofs.Try.prog 9 (x6.toNat * 3 + 0) (List.flatMap c_SGrit a0) = some (vs ((a0.getD x6.toNat default).Name)) from (ld_flat ag9 c_SGrit 3 0 len_c_SGrit (by omega) a0 default h968 (by omega)).trans rfl)
    have e975 := (show keysM (kdV (.string ((a0.getD x6.toNat default).Name))) (List.flatMap (mpE vb) y1) = true from (keysM_mp vb ((a0.getD x6.toNat default).Name) y1))
    have e976 := (ti (an e973 (ti (an h968 (ti (an e974 (an e975 trivial)))))))
    have e977 := (show loadL Go.Proofs.Try.prog 22 0 [VV.tr (List.flatMap c_SGrit a0) a0.length] = some (VV.tr (List.flatMap c_SGrit a0) a0.length) from (ld_one ag22 rfl))
    have e978 := (show loadL Go.Proofs.Try.prog 9 (x6.toNat * 3 + 0) (List.flatMap c_SGrit a0) = some (vs ((a0.getD x6.toNat default).Name)) from (ld_flat ag9 c_SGrit 3 0 len_c_SGrit (by omega) a0 default h968 (by omega)).trans rfl)
    obtain ⟨r979, h980, h⟩ := bs h
    have e981 := (ngrind_named_ok k ((a0.getD x6.toNat default).Name) _ h980)
    obtain ⟨r982, h983, h⟩ := bs h
    have e984 := (ngrind_need_ok k (!(mget y1 ((a0.getD x6.toNat default).Name))) 5 _ h983)
    have e985 := (show loadL Go.Proofs.Try.prog 22 0 [VV.tr (List.flatMap c_SGrit a0) a0.length] = some (VV.tr (List.flatMap c_SGrit a0) a0.length) from (ld_one ag22 rfl))
    have e986 := (show loadL Go.Proofs.Try.prog 3 (x6.toNat * 3 + 1) (List.flatMap c_SGrit a0) = some (vi ((a0.getD x6.toNat default).Damage)) from (ld_flat ag3 c_SGrit 3 1 len_c_SGrit (by omega) a0 default h968 (by omega)).trans rfl)
    obtain ⟨r987, h988, h⟩ := bs h
    have e989 := (VC.args (ngrind_within_ok k 0 1000000 ([(a0.getD x6.toNat default).Damage] : List Int) _ h988) (eqK1_3 a0 x6))
    have e990 := (show loadL Go.Proofs.Try.prog 22 0 [VV.tr (List.flatMap c_SGrit a0) a0.length] = some (VV.tr (List.flatMap c_SGrit a0) a0.length) from (ld_one ag22 rfl))
    have e991 := (show loadL Go.Proofs.Try.prog 3 (x6.toNat * 3 + 2) (List.flatMap c_SGrit a0) = some (vi ((a0.getD x6.toNat default).Rate)) from (ld_flat ag3 c_SGrit 3 2 len_c_SGrit (by omega) a0 default h968 (by omega)).trans rfl)
    obtain ⟨r992, h993, h⟩ := bs h
    have e994 := (VC.args (ngrind_within_ok k 1 100000 ([(a0.getD x6.toNat default).Rate] : List Int) _ h993) (eqK1_4 a0 x6))
    obtain ⟨r995, h996, h⟩ := bs h
    have e997 := (VC.args (ngrind_firstOf_c0_Lgrind_need_1_grind_need_1_grind_within_1_grind_within_1_ok k (r979, r982, r987, r992) _ h996) (eqK1_2 r979 r982 r987 r992))
    have e998 := (an e977 (ti (an h968 (ti (an e978 (an e981 (ti (ti (an e984 (an e985 (ti (an h968 (ti (an e986 (ti (an e989 (an e990 (ti (an h968 (ti (an e991 (ti (an e994 (ti (an e997 (ti trivial))))))))))))))))))))))))))
    have e999 := (an (an Go.Proofs.Try.func86 (an (ti trivial) (an e972 (an e976 (an e998 trivial))))) (ti trivial))
    rcases ifs h with ⟨h1000, h⟩ | ⟨h1000, h⟩
    ·have h2 := ih _ _ _ h
     obtain ⟨q, hv, hq⟩ := pkR (rd := none) (P := Go.Proofs.Try.prog) (fn := Go.Proofs.Try.f90) (k := 0) (s := (ngrind_CheckGrits_i34_i90_l0_0_h a0 r826 r832 y1 x6)) (ans := [.reg (.n :: []), .br true, .reg (.n :: .n :: []), .reg (arK1_11 a0 x6 y1 r979 r982 r987 r992 r995), .reg (.n :: .n :: []), .br false, .reg (.n :: .n :: [])]) (c := ⟨[(1, none), (5, none), (6, none)], [none, some (List.flatMap (mpE vb) (mset y1 ((a0.getD x6.toNat default).Name) true)), none, none, none, none], []⟩) (e := .normal) (s1 := (ngrind_CheckGrits_i34_i90_l0_0_h a0 r826 r832 (mset y1 ((a0.getD x6.toNat default).Name) true) (w64 (x6 + 1)))) (an (an (ti trivial) (an (an (decide_eq_true h966) trivial) (an (an (ti (ti trivial)) (an (ti (ti (an e999 (ti trivial)))) (an (ti (ti trivial)) (an (not_f (decide_eq_true h1000)) trivial)))) (ti (ti trivial))))) (ti (an (show upM (.string ((a0.getD x6.toNat default).Name)) (vb true) (List.flatMap (mpE vb) y1) = List.flatMap (mpE vb) (mset y1 ((a0.getD x6.toNat default).Name) true) from (by exact upM_mp vb ((a0.getD x6.toNat default).Name) true y1)) trivial))) (by kernel_rfl)
     cases r with
     | inl r => exact round_next pm pn hv hq h2
     | inr r =>
      exact round_next pm pn hv hq h2
    ·injection h with h; subst h
     exact round_stop (c := ⟨[(2, none)], [none, some (List.flatMap (mpE vb) (mset y1 ((a0.getD x6.toNat default).Name) true)), none, none, none, none], []⟩) (s1 := (ngrind_CheckGrits_i34_i90_l0_0_e0 a0 r826 r832 (r995, mset y1 ((a0.getD x6.toNat default).Name) true))) pm pn (ans := [.reg (.n :: []), .br true, .reg (.n :: .n :: []), .reg (arK1_11 a0 x6 y1 r979 r982 r987 r992 r995), .reg (.n :: .n :: []), .br true, .reg (.n :: .n :: [])]) (by kernel_rfl) (by intro e; cases e) (an (an (ti trivial) (an (an (decide_eq_true h966) trivial) (an (ti (ti trivial)) (an (ti (ti (an e999 (ti trivial)))) (an (ti (ti trivial)) (an (not_t (decide_eq_false h1000)) (an (ti (ti trivial)) trivial))))))) (ti (an (show upM (.string ((a0.getD x6.toNat default).Name)) (vb true) (List.flatMap (mpE vb) y1) = List.flatMap (mpE vb) (mset y1 ((a0.getD x6.toNat default).Name) true) from (by exact upM_mp vb ((a0.getD x6.toNat default).Name) true y1)) trivial)))
   ·have e1001 := (show keysM (kdV (.string ((a0.getD x6.toNat default).Name))) (List.flatMap (mpE vb) y1) = true ∧ lkM (.string ((a0.getD x6.toNat default).Name)) (List.flatMap (mpE vb) y1) = none from ⟨(keysM_mp vb ((a0.getD x6.toNat default).Name) y1), (lkM_no vb ((a0.getD x6.toNat default).Name) y1 (bool_f h970))⟩)
    have e1002 := (ti (an e967 (ti (an h968 (ti (an e969 (an e1001 (ti trivial))))))))
    have e1003 := (show loadL Go.Proofs.Try.prog 22 0 [VV.tr (List.flatMap c_SGrit a0) a0.length] = some (VV.tr (List.flatMap c_SGrit a0) a0.length) from (ld_one ag22 rfl))
    have e1004 := (show loadL Go.Proofs.Try.prog 9 (x6.toNat * 3 + 0) (List.flatMap c_SGrit a0) = some (vs ((a0.getD x6.toNat default).Name)) from (ld_flat ag9 c_SGrit 3 0 len_c_SGrit (by omega) a0 default h968 (by omega)).trans rfl)
    have e1005 := (show keysM (kdV (.string ((a0.getD x6.toNat default).Name))) (List.flatMap (mpE vb) y1) = true from (keysM_mp vb ((a0.getD x6.toNat default).Name) y1))
    have e1006 := (ti (an e1003 (ti (an h968 (ti (an e1004 (an e1005 trivial)))))))
    have e1007 := (show loadL Go.Proofs.Try.prog 22 0 [VV.tr (List.flatMap c_SGrit a0) a0.length] = some (VV.tr (List.flatMap c_SGrit a0) a0.length) from (ld_one ag22 rfl))
    have e1008 := (show loadL Go.Proofs.Try.prog 9 (x6.toNat * 3 + 0) (List.flatMap c_SGrit a0) = some (vs ((a0.getD x6.toNat default).Name)) from (ld_flat ag9 c_SGrit 3 0 len_c_SGrit (by omega) a0 default h968 (by omega)).trans rfl)
    obtain ⟨r1009, h1010, h⟩ := bs h
    have e1011 := (ngrind_named_ok k ((a0.getD x6.toNat default).Name) _ h1010)
    obtain ⟨r1012, h1013, h⟩ := bs h
    have e1014 := (show loadL Go.Proofs.Try.prog 22 0 [VV.tr (List.flatMap c_SGrit a0) a0.length] = some (VV.tr (List.flatMap c_SGrit a0) a0.length) from (ld_one ag22 rfl))
    have e1015 := (show loadL Go.Proofs.Try.prog 3 (x6.toNat * 3 + 1) (List.flatMap c_SGrit a0) = some (vi ((a0.getD x6.toNat default).Damage)) from (ld_flat ag3 c_SGrit 3 1 len_c_SGrit (by omega) a0 default h968 (by omega)).trans rfl)
    obtain ⟨r1016, h1017, h⟩ := bs h
    have e1018 := (VC.args (ngrind_within_ok k 0 1000000 ([(a0.getD x6.toNat default).Damage] : List Int) _ h1017) (eqK1_3 a0 x6))
    have e1019 := (show loadL Go.Proofs.Try.prog 22 0 [VV.tr (List.flatMap c_SGrit a0) a0.length] = some (VV.tr (List.flatMap c_SGrit a0) a0.length) from (ld_one ag22 rfl))
    have e1020 := (show loadL Go.Proofs.Try.prog 3 (x6.toNat * 3 + 2) (List.flatMap c_SGrit a0) = some (vi ((a0.getD x6.toNat default).Rate)) from (ld_flat ag3 c_SGrit 3 2 len_c_SGrit (by omega) a0 default h968 (by omega)).trans rfl)
    obtain ⟨r1021, h1022, h⟩ := bs h
    have e1023 := (VC.args (ngrind_within_ok k 1 100000 ([(a0.getD x6.toNat default).Rate] : List Int) _ h1022) (eqK1_4 a0 x6))
    obtain ⟨r1024, h1025, h⟩ := bs h
    have e1026 := (VC.args (ngrind_firstOf_c0_Lgrind_need_1_grind_need_1_grind_within_1_grind_within_1_ok k (r1009, r1012, r1016, r1021) _ h1025) (eqK1_2 r1009 r1012 r1016 r1021))
    have e1027 := (an e1007 (ti (an h968 (ti (an e1008 (an e1011 (ti (ti (an (ngrind_need_ok k (!false) 5 _ h1013) (an e1014 (ti (an h968 (ti (an e1015 (ti (an e1018 (an e1019 (ti (an h968 (ti (an e1020 (ti (an e1023 (ti (an e1026 (ti trivial))))))))))))))))))))))))))
    have e1028 := (an (an Go.Proofs.Try.func86 (an (ti trivial) (an e1002 (an e1006 (an e1027 trivial))))) (ti trivial))
    rcases ifs h with ⟨h1029, h⟩ | ⟨h1029, h⟩
    ·have h2 := ih _ _ _ h
     obtain ⟨q, hv, hq⟩ := pkR (rd := none) (P := Go.Proofs.Try.prog) (fn := Go.Proofs.Try.f90) (k := 0) (s := (ngrind_CheckGrits_i34_i90_l0_0_h a0 r826 r832 y1 x6)) (ans := [.reg (.n :: []), .br true, .reg (.n :: .n :: []), .reg (arK1_12 a0 x6 r1009 r1012 r1016 r1021 r1024), .reg (.n :: .n :: []), .br false, .reg (.n :: .n :: [])]) (c := ⟨[(1, none), (5, none), (6, none)], [none, some (List.flatMap (mpE vb) (mset y1 ((a0.getD x6.toNat default).Name) true)), none, none, none, none], []⟩) (e := .normal) (s1 := (ngrind_CheckGrits_i34_i90_l0_0_h a0 r826 r832 (mset y1 ((a0.getD x6.toNat default).Name) true) (w64 (x6 + 1)))) (an (an (ti trivial) (an (an (decide_eq_true h966) trivial) (an (an (ti (ti trivial)) (an (ti (ti (an e1028 (ti trivial)))) (an (ti (ti trivial)) (an (not_f (decide_eq_true h1029)) trivial)))) (ti (ti trivial))))) (ti (an (show upM (.string ((a0.getD x6.toNat default).Name)) (vb true) (List.flatMap (mpE vb) y1) = List.flatMap (mpE vb) (mset y1 ((a0.getD x6.toNat default).Name) true) from (by exact upM_mp vb ((a0.getD x6.toNat default).Name) true y1)) trivial))) (by kernel_rfl)
     cases r with
     | inl r => exact round_next pm pn hv hq h2
     | inr r =>
      exact round_next pm pn hv hq h2
    ·injection h with h; subst h
     exact round_stop (c := ⟨[(2, none)], [none, some (List.flatMap (mpE vb) (mset y1 ((a0.getD x6.toNat default).Name) true)), none, none, none, none], []⟩) (s1 := (ngrind_CheckGrits_i34_i90_l0_0_e0 a0 r826 r832 (r1024, mset y1 ((a0.getD x6.toNat default).Name) true))) pm pn (ans := [.reg (.n :: []), .br true, .reg (.n :: .n :: []), .reg (arK1_12 a0 x6 r1009 r1012 r1016 r1021 r1024), .reg (.n :: .n :: []), .br true, .reg (.n :: .n :: [])]) (by kernel_rfl) (by intro e; cases e) (an (an (ti trivial) (an (an (decide_eq_true h966) trivial) (an (ti (ti trivial)) (an (ti (ti (an e1028 (ti trivial)))) (an (ti (ti trivial)) (an (not_t (decide_eq_false h1029)) (an (ti (ti trivial)) trivial))))))) (ti (an (show upM (.string ((a0.getD x6.toNat default).Name)) (vb true) (List.flatMap (mpE vb) y1) = List.flatMap (mpE vb) (mset y1 ((a0.getD x6.toNat default).Name) true) from (by exact upM_mp vb ((a0.getD x6.toNat default).Name) true y1)) trivial)))
  ·injection h with h; subst h
   exact round_stop (c := ⟨[], [none, none, none, none, none, none], []⟩) (s1 := (ngrind_CheckGrits_i34_i90_l0_0_e1 a0 r826 r832 y1)) pm pn (ans := [.reg (.n :: []), .br false]) (by kernel_rfl) (by intro e; cases e) (an (an (ti trivial) (an (decide_eq_false h966) trivial)) (ti trivial))
noncomputable def arK1_13 (z0 : (List SGrit)) (z1 : (Bool × Int)) (z2 : Int) : List Ans := (.v (VV.tr (List.flatMap c_SGrit z0) z0.length) :: .n :: .n :: .call (VV.fn 68 [VV.tp [vb z1.1] 0, VV.tp [vi z1.2] 0]) :: .v (VV.tr (List.flatMap c_SGrit z0) z0.length) :: .n :: .n :: .inl (inlF Go.Proofs.Try.f73 [.reg (nN 3 []), .frz 3, .reg (.n :: .n :: [])]) :: .n :: .inl (inlF Go.Proofs.Try.f34 [.reg (.n :: []), .reg (nN 3 []), .unr 2, .reg (.n :: []), .br true, .reg (.v (VV.pt 5 0) :: .n :: .n :: []), .reg (.n :: .call (vi z2) :: .n :: []), .reg (.n :: .n :: []), .br true, .reg (.n :: .n :: [])]) :: .n :: [])
def ngrind_CheckGrits (k : Nat) (a0 : (List SGrit)) : Option Int :=
  (ngrind_need k (decide ((a0.length : Int) ≤ 12)) 8).bind fun r826 => ((ngrind_need_1 k r826.1 r826.2).bind fun r832 => (if r832 = 0 then ((ngrind_CheckGrits_i34_i90_l0_0 k a0 r826 r832 k ([] : List (ByteArray × Bool)) 0).bind fun r1031 => (match r1031 with | .inl r1032 => (if r1032.1 = 0 then (some 0) else (some r1032.1)) | .inr r1033 => (some 0))) else (some r832)))
theorem ngrind_CheckGrits_ok (k : Nat) (a0 : (List SGrit)) (r : Int) (h : ngrind_CheckGrits k a0 = some r) : VC Go.Proofs.Try.prog 63 [VV.tr (List.flatMap c_SGrit a0) a0.length] (vi r) := by
 unfold ngrind_CheckGrits at h
 have e825 := (show loadL Go.Proofs.Try.prog 22 0 [VV.tr (List.flatMap c_SGrit a0) a0.length] = some (VV.tr (List.flatMap c_SGrit a0) a0.length) from (ld_one ag22 rfl))
 obtain ⟨r826, h827, h⟩ := bs h
 have e828 := (ngrind_need_ok k (decide ((a0.length : Int) ≤ 12)) 8 _ h827)
 have e829 := (show loadL Go.Proofs.Try.prog 22 0 [VV.tr (List.flatMap c_SGrit a0) a0.length] = some (VV.tr (List.flatMap c_SGrit a0) a0.length) from (ld_one ag22 rfl))
 have e830 := (an (an Go.Proofs.Try.func73 (an (ti (ti (ti trivial))) (an (ti (ti trivial)) trivial))) (ti trivial))
 have e831 := (show ((0 : Int) ≤ 0 ∧ (0 : Int) < ((2 : Nat) : Int)) ∧ VV.pt 5 (0 + (0 : Int).toNat * 1) = VV.pt 5 0 from ⟨⟨by decide, by decide⟩, rfl⟩)
 obtain ⟨r832, h833, h⟩ := bs h
 have e834 := (ngrind_need_1_ok k r826.1 r826.2 _ h833)
 rcases ifs h with ⟨h835, h⟩ | ⟨h835, h⟩
 ·have e836 := (show ((0 : Int) ≤ 1 ∧ (1 : Int) < ((2 : Nat) : Int)) ∧ VV.pt 5 (0 + (1 : Int).toNat * 1) = VV.pt 5 1 from ⟨⟨by decide, by decide⟩, rfl⟩)
  have e837 := (show loadL Go.Proofs.Try.prog 3 0 [vi (a0.length : Int)] = some (vi (a0.length : Int)) from (ld_one ag3 rfl))
  obtain ⟨r1031, h1030, h⟩ := bs h
  have hph1030 := ngrind_CheckGrits_i34_i90_l0_0_ok k a0 r826 r832 _ _ _ _ h1030
  cases r1031 with
  | inl r1032 =>
   dsimp only at h
   have e1034 := (an (ti (an (show [] = List.flatMap (mpE vb) ([] : List (ByteArray × Bool)) from rfl) trivial)) (VRun.loop hph1030))
   have e1035 := (an (an Go.Proofs.Try.func90 (an (ti trivial) (an (an e837 (ti trivial)) e1034))) (ti trivial))
   rcases ifs h with ⟨h1036, h⟩ | ⟨h1036, h⟩
   ·have e1037 := (an (an Go.Proofs.Try.func34 (an (ti trivial) (an (an (ti (ti (ti trivial))) (an (an (ti trivial) (an (an (show (decide ((0 : Int) < 2)) = true from (decide_eq_true (by decide))) trivial) (an (an (an e831 (ti (ti trivial))) (an (ti (an e834 (ti trivial))) (an (ti (ti trivial)) (an (not_f (decide_eq_true h835)) trivial)))) (ti (ti trivial))))) (an (an (ti trivial) (an (an (show (decide ((1 : Int) < 2)) = true from (decide_eq_true (by decide))) trivial) (an (an (an e836 (ti (ti trivial))) (an (ti (an e1035 (ti trivial))) (an (ti (ti trivial)) (an (not_f (decide_eq_true h1036)) trivial)))) (ti (ti trivial))))) (an (ti trivial) (an (show (decide ((2 : Int) < 2)) = false from (decide_eq_false (by decide))) trivial))))) (an (ti trivial) trivial)))) (ti trivial))
    have e1038 := (an e825 (ti (ti (an e828 (an e829 (ti (ti (an e830 (ti (an e1037 (ti trivial)))))))))))
    injection h with h; subst h
    exact fun_ok pm pn Go.Proofs.Try.func63 (r0 := vi 0) (ans := [.reg (.n :: .n :: []), .frz 0, .reg (nN 3 []), .reg (.v (VV.tr (List.flatMap c_SGrit a0) a0.length) :: .n :: .n :: .call (VV.fn 68 [VV.tp [vb r826.1] 0, VV.tp [vi r826.2] 0]) :: .v (VV.tr (List.flatMap c_SGrit a0) a0.length) :: .n :: .n :: .inl (inlF Go.Proofs.Try.f73 [.reg (nN 3 []), .frz 3, .reg (.n :: .n :: [])]) :: .n :: .inl (inlF Go.Proofs.Try.f34 [.reg (.n :: []), .reg (nN 3 []), .unr 4, .reg (.n :: []), .br true, .reg (.v (VV.pt 5 0) :: .n :: .n :: []), .reg (.n :: .call (vi r832) :: .n :: []), .reg (.n :: .n :: []), .br false, .reg (.n :: .n :: []), .reg (.n :: []), .br true, .reg (.v (VV.pt 5 1) :: .n :: .n :: []), .reg (.n :: .inl (inlF Go.Proofs.Try.f90 [.reg (.n :: []), .reg (.v (vi (a0.length : Int)) :: .n :: []), .sub ⟨[(1, none), (5, none), (6, none)], [none, some (List.flatMap (mpE vb) ([] : List (ByteArray × Bool))), none, none, none, none], []⟩ .ret (ngrind_CheckGrits_i34_i90_l0_0_e0 a0 r826 r832 r1032)]) :: .n :: []), .reg (.n :: .n :: []), .br false, .reg (.n :: .n :: []), .reg (.n :: []), .br false, .reg (.n :: [])]) :: .n :: [])]) (fr := true) (by kernel_rfl) (an (an (ti (ti trivial)) (an (ti (ti (ti trivial))) (an e1038 trivial))) (ti trivial)) (Wv.refl _)
   ·have e1039 := (an (an Go.Proofs.Try.func34 (an (ti trivial) (an (ti (ti (ti trivial))) (an (an (ti trivial) (an (an (show (decide ((0 : Int) < 2)) = true from (decide_eq_true (by decide))) trivial) (an (an (an e831 (ti (ti trivial))) (an (ti (an e834 (ti trivial))) (an (ti (ti trivial)) (an (not_f (decide_eq_true h835)) trivial)))) (ti (ti trivial))))) (an (ti trivial) (an (an (show (decide ((1 : Int) < 2)) = true from (decide_eq_true (by decide))) trivial) (an (an e836 (ti (ti trivial))) (an (ti (an e1035 (ti trivial))) (an (ti (ti trivial)) (an (not_t (decide_eq_false h1036)) (an (ti (ti trivial)) trivial))))))))))) (ti trivial))
    have e1040 := (an e825 (ti (ti (an e828 (an e829 (ti (ti (an e830 (ti (an e1039 (ti trivial)))))))))))
    injection h with h; subst h
    exact fun_ok pm pn Go.Proofs.Try.func63 (r0 := vi r1032.1) (ans := [.reg (.n :: .n :: []), .frz 0, .reg (nN 3 []), .reg (.v (VV.tr (List.flatMap c_SGrit a0) a0.length) :: .n :: .n :: .call (VV.fn 68 [VV.tp [vb r826.1] 0, VV.tp [vi r826.2] 0]) :: .v (VV.tr (List.flatMap c_SGrit a0) a0.length) :: .n :: .n :: .inl (inlF Go.Proofs.Try.f73 [.reg (nN 3 []), .frz 3, .reg (.n :: .n :: [])]) :: .n :: .inl (inlF Go.Proofs.Try.f34 [.reg (.n :: []), .reg (nN 3 []), .unr 3, .reg (.n :: []), .br true, .reg (.v (VV.pt 5 0) :: .n :: .n :: []), .reg (.n :: .call (vi r832) :: .n :: []), .reg (.n :: .n :: []), .br false, .reg (.n :: .n :: []), .reg (.n :: []), .br true, .reg (.v (VV.pt 5 1) :: .n :: .n :: []), .reg (.n :: .inl (inlF Go.Proofs.Try.f90 [.reg (.n :: []), .reg (.v (vi (a0.length : Int)) :: .n :: []), .sub ⟨[(1, none), (5, none), (6, none)], [none, some (List.flatMap (mpE vb) ([] : List (ByteArray × Bool))), none, none, none, none], []⟩ .ret (ngrind_CheckGrits_i34_i90_l0_0_e0 a0 r826 r832 r1032)]) :: .n :: []), .reg (.n :: .n :: []), .br true, .reg (.n :: .n :: [])]) :: .n :: [])]) (fr := true) (by kernel_rfl) (an (an (ti (ti trivial)) (an (ti (ti (ti trivial))) (an e1040 trivial))) (ti trivial)) (Wv.refl _)
  | inr r1033 =>
   dsimp only at h
   have e1041 := (an (ti (an (show [] = List.flatMap (mpE vb) ([] : List (ByteArray × Bool)) from rfl) trivial)) (VRun.loop hph1030))
   have e1042 := (an (an Go.Proofs.Try.func90 (an (ti trivial) (an (an (an e837 (ti trivial)) e1041) (an (ti trivial) trivial)))) (ti trivial))
   have e1043 := (an (an Go.Proofs.Try.func34 (an (ti trivial) (an (an (ti (ti (ti trivial))) (an (an (ti trivial) (an (an (show (decide ((0 : Int) < 2)) = true from (decide_eq_true (by decide))) trivial) (an (an (an e831 (ti (ti trivial))) (an (ti (an e834 (ti trivial))) (an (ti (ti trivial)) (an (not_f (decide_eq_true h835)) trivial)))) (ti (ti trivial))))) (an (an (ti trivial) (an (an (show (decide ((1 : Int) < 2)) = true from (decide_eq_true (by decide))) trivial) (an (an (an e836 (ti (ti trivial))) (an (ti (an e1042 (ti trivial))) (an (ti (ti trivial)) (an (show (!(decide ((0 : Int) = 0))) = false from (not_f (decide_eq_true (by decide)))) trivial)))) (ti (ti trivial))))) (an (ti trivial) (an (show (decide ((2 : Int) < 2)) = false from (decide_eq_false (by decide))) trivial))))) (an (ti trivial) trivial)))) (ti trivial))
   have e1044 := (an e825 (ti (ti (an e828 (an e829 (ti (ti (an e830 (ti (an e1043 (ti trivial)))))))))))
   injection h with h; subst h
   exact fun_ok pm pn Go.Proofs.Try.func63 (r0 := vi 0) (ans := [.reg (.n :: .n :: []), .frz 0, .reg (nN 3 []), .reg (.v (VV.tr (List.flatMap c_SGrit a0) a0.length) :: .n :: .n :: .call (VV.fn 68 [VV.tp [vb r826.1] 0, VV.tp [vi r826.2] 0]) :: .v (VV.tr (List.flatMap c_SGrit a0) a0.length) :: .n :: .n :: .inl (inlF Go.Proofs.Try.f73 [.reg (nN 3 []), .frz 3, .reg (.n :: .n :: [])]) :: .n :: .inl (inlF Go.Proofs.Try.f34 [.reg (.n :: []), .reg (nN 3 []), .unr 4, .reg (.n :: []), .br true, .reg (.v (VV.pt 5 0) :: .n :: .n :: []), .reg (.n :: .call (vi r832) :: .n :: []), .reg (.n :: .n :: []), .br false, .reg (.n :: .n :: []), .reg (.n :: []), .br true, .reg (.v (VV.pt 5 1) :: .n :: .n :: []), .reg (.n :: .inl (inlF Go.Proofs.Try.f90 [.reg (.n :: []), .reg (.v (vi (a0.length : Int)) :: .n :: []), .sub ⟨[(1, none), (5, none), (6, none)], [none, some (List.flatMap (mpE vb) ([] : List (ByteArray × Bool))), none, none, none, none], []⟩ (.exit 0) (ngrind_CheckGrits_i34_i90_l0_0_e1 a0 r826 r832 r1033), .reg (.n :: [])]) :: .n :: []), .reg (.n :: .n :: []), .br false, .reg (.n :: .n :: []), .reg (.n :: []), .br false, .reg (.n :: [])]) :: .n :: [])]) (fr := true) (by kernel_rfl) (an (an (ti (ti trivial)) (an (ti (ti (ti trivial))) (an e1044 trivial))) (ti trivial)) (Wv.refl _)
 ·have e1045 := (an (an Go.Proofs.Try.func34 (an (ti trivial) (an (ti (ti (ti trivial))) (an (ti trivial) (an (an (show (decide ((0 : Int) < 2)) = true from (decide_eq_true (by decide))) trivial) (an (an e831 (ti (ti trivial))) (an (ti (an e834 (ti trivial))) (an (ti (ti trivial)) (an (not_t (decide_eq_false h835)) (an (ti (ti trivial)) trivial)))))))))) (ti trivial))
  have e1046 := (an e825 (ti (ti (an e828 (an e829 (ti (ti (an e830 (ti (an e1045 (ti trivial)))))))))))
  injection h with h; subst h
  exact fun_ok pm pn Go.Proofs.Try.func63 (r0 := vi r832) (ans := [.reg (.n :: .n :: []), .frz 0, .reg (nN 3 []), .reg (arK1_13 a0 r826 r832)]) (fr := true) (by kernel_rfl) (an (an (ti (ti trivial)) (an (ti (ti (ti trivial))) (an e1046 trivial))) (ti trivial)) (Wv.refl _)
def nspeculumref04_GritAt_l0_0_h (a0 : (List SGrit)) (a1 : ByteArray) (x5 : Int) : VS := ⟨mkA [(0, VV.tr (List.flatMap c_SGrit a0) a0.length), (1, vs a1), (5, vi x5)], [], .nil⟩
def nspeculumref04_GritAt_l0_0_e0 (a0 : (List SGrit)) (a1 : ByteArray) (r : Int) : VS := ⟨mkA [(4, vi r)], [], .nil⟩
def nspeculumref04_GritAt_l0_0_e1 (a0 : (List SGrit)) (a1 : ByteArray) (r : Unit) : VS := ⟨mkA [], [], .nil⟩
def nspeculumref04_GritAt_l0_0 (k : Nat) (a0 : (List SGrit)) (a1 : ByteArray) : Nat → Int → Option (Sum Int Unit)
  | 0, _ => none
  | fuel + 1, x5 => if x5 < (a0.length : Int) then (if 0 ≤ x5 ∧ x5 < (a0.length : Int) then (if ((a0.getD x5.toNat default).Name) = a1 then (some (.inl x5)) else (nspeculumref04_GritAt_l0_0 k a0 a1 fuel (w64 (x5 + 1)))) else none) else (some (.inr ()))
theorem nspeculumref04_GritAt_l0_0_ok (k : Nat) (a0 : (List SGrit)) (a1 : ByteArray) : ∀ (fuel : Nat) (x5 : Int) (r : Sum Int Unit), nspeculumref04_GritAt_l0_0 k a0 a1 fuel x5 = some r → (match r with | .inl r => VLoop none Go.Proofs.Try.prog (szF Go.Proofs.Try.f38) (bodyOf Go.Proofs.Try.f38 0) (nspeculumref04_GritAt_l0_0_h a0 a1 x5) .ret (nspeculumref04_GritAt_l0_0_e0 a0 a1 r) | .inr r => VLoop none Go.Proofs.Try.prog (szF Go.Proofs.Try.f38) (bodyOf Go.Proofs.Try.f38 0) (nspeculumref04_GritAt_l0_0_h a0 a1 x5) (.exit 0) (nspeculumref04_GritAt_l0_0_e1 a0 a1 r)) := by
 intro fuel
 induction fuel with
 | zero => intro x5 r h; rw [nspeculumref04_GritAt_l0_0.eq_1] at h; cases h
 | succ fuel ih =>
  intro x5 r h
  rw [nspeculumref04_GritAt_l0_0.eq_2] at h
  rcases ifs h with ⟨h1088, h⟩ | ⟨h1088, h⟩
  ·obtain ⟨h1089, h⟩ := ifn h
   have e1090 := (show loadL Go.Proofs.Try.prog 9 (x5.toNat * 3 + 0) (List.flatMap c_SGrit a0) = some (vs ((a0.getD x5.toNat default).Name)) from (ld_flat ag9 c_SGrit 3 0 len_c_SGrit (by omega) a0 default h1089 (by omega)).trans rfl)
   have e1091 := (ti (ti (an h1089 (ti (an e1090 (ti (ti trivial)))))))
   rcases ifs h with ⟨h1092, h⟩ | ⟨h1092, h⟩
   ·injection h with h; subst h
    exact round_stop (c := ⟨[(4, none)], [], []⟩) (s1 := (nspeculumref04_GritAt_l0_0_e0 a0 a1 x5)) pm pn (ans := [.reg (nN 4 []), .br true, .reg (nN 4 (.v (vs ((a0.getD x5.toNat default).Name)) :: .n :: .n :: [])), .br true, .reg (.n :: .n :: [])]) (by kernel_rfl) (by intro e; cases e) (an (an (an (ti (ti (ti (ti trivial)))) (an (decide_eq_true h1088) trivial)) (an e1091 (an (decide_eq_true h1092) (an (ti (ti trivial)) trivial)))) (ti trivial))
   ·have h2 := ih _ _ h
    obtain ⟨q, hv, hq⟩ := pkR (rd := none) (P := Go.Proofs.Try.prog) (fn := Go.Proofs.Try.f38) (k := 0) (s := (nspeculumref04_GritAt_l0_0_h a0 a1 x5)) (ans := [.reg (nN 4 []), .br true, .reg (nN 4 (.v (vs ((a0.getD x5.toNat default).Name)) :: .n :: .n :: [])), .br false, .reg (nN 3 [])]) (c := ⟨[(0, none), (1, none), (5, none)], [], []⟩) (e := .normal) (s1 := (nspeculumref04_GritAt_l0_0_h a0 a1 (w64 (x5 + 1)))) (an (an (an (ti (ti (ti (ti trivial)))) (an (decide_eq_true h1088) trivial)) (an (an e1091 (an (decide_eq_false h1092) trivial)) (ti (ti (ti trivial))))) (ti trivial)) (by kernel_rfl)
    cases r with
    | inl r => exact round_next pm pn hv hq h2
    | inr r =>
     exact round_next pm pn hv hq h2
  ·injection h with h; subst h
   exact round_stop (c := ⟨[], [], []⟩) (s1 := (nspeculumref04_GritAt_l0_0_e1 a0 a1 ())) pm pn (ans := [.reg (nN 4 []), .br false]) (by kernel_rfl) (by intro e; cases e) (an (an (ti (ti (ti (ti trivial)))) (an (decide_eq_false h1088) trivial)) (ti trivial))
def nspeculumref04_GritAt (k : Nat) (a0 : (List SGrit)) (a1 : ByteArray) : Option Int :=
  (nspeculumref04_GritAt_l0_0 k a0 a1 k 0).bind fun r1094 => (match r1094 with | .inl r1095 => (some r1095) | .inr r1096 => (some (-1)))
theorem nspeculumref04_GritAt_ok (k : Nat) (a0 : (List SGrit)) (a1 : ByteArray) (r : Int) (h : nspeculumref04_GritAt k a0 a1 = some r) : VC Go.Proofs.Try.prog 38 [VV.tr (List.flatMap c_SGrit a0) a0.length, vs a1] (vi r) := by
 unfold nspeculumref04_GritAt at h
 obtain ⟨r1094, h1093, h⟩ := bs h
 have hph1093 := nspeculumref04_GritAt_l0_0_ok k a0 a1 _ _ _ h1093
 cases r1094 with
 | inl r1095 =>
  dsimp only at h
  have e1097 := (an (ti trivial) (VRun.loop hph1093))
  injection h with h; subst h
  exact fun_ok pm pn Go.Proofs.Try.func38 (r0 := vi r1095) (ans := [.reg (.n :: []), .reg (.n :: []), .sub ⟨[(0, none), (1, none), (5, none)], [], []⟩ .ret (nspeculumref04_GritAt_l0_0_e0 a0 a1 r1095)]) (fr := true) (by kernel_rfl) (an (an (ti trivial) (an (ti trivial) e1097)) (ti trivial)) (Wv.refl _)
 | inr r1096 =>
  dsimp only at h
  have e1098 := (an (ti trivial) (VRun.loop hph1093))
  injection h with h; subst h
  exact fun_ok pm pn Go.Proofs.Try.func38 (r0 := vi (-1)) (ans := [.reg (.n :: []), .reg (.n :: []), .sub ⟨[(0, none), (1, none), (5, none)], [], []⟩ (.exit 0) (nspeculumref04_GritAt_l0_0_e1 a0 a1 r1096), .reg (.n :: [])]) (fr := true) (by kernel_rfl) (an (an (ti trivial) (an (an (ti trivial) e1098) (an (ti trivial) trivial))) (ti trivial)) (Wv.refl _)
def arK1_14 (z0 : (List SGrit)) (z1 : Int) (z2 : Bool) (z3 : Bool) : List Ans := (nN 4 (.v (vi ((z0.getD z1.toNat default).Damage)) :: .call (vb z2) :: nN 6 (.v (vi ((z0.getD z1.toNat default).Rate)) :: .call (vb z3) :: .n :: .b false :: [])))
def arK1_15 (z0 : (List SGrit)) (z1 : Int) (z2 : Bool) : List Ans := (nN 4 (.v (vi ((z0.getD z1.toNat default).Damage)) :: .call (vb z2) :: .n :: .n :: nS 7 (.b true :: [])))
def nspeculumref04_CheckGrits_l0_0_h (a0 : (List SGrit)) (x3 : Int) : VS := ⟨mkA [(0, VV.tr (List.flatMap c_SGrit a0) a0.length), (3, vi x3)], [], .nil⟩
def nspeculumref04_CheckGrits_l0_0_e0 (a0 : (List SGrit)) (r : Int) : VS := ⟨mkA [(2, vi r)], [], .nil⟩
def nspeculumref04_CheckGrits_l0_0_e1 (a0 : (List SGrit)) (r : Unit) : VS := ⟨mkA [], [], .nil⟩
def nspeculumref04_CheckGrits_l0_0 (k : Nat) (a0 : (List SGrit)) : Nat → Int → Option (Sum Int Unit)
  | 0, _ => none
  | fuel + 1, x3 => if x3 < (a0.length : Int) then (if 0 ≤ x3 ∧ x3 < (a0.length : Int) then ((nspeculumbase_IsName k ((a0.getD x3.toNat default).Name)).bind fun r1230 => (if r1230 = true then ((nspeculumref04_GritAt k a0 ((a0.getD x3.toNat default).Name)).bind fun r1236 => (if r1236 < x3 then (some (.inl 5)) else ((nspeculumbase_Within k ((a0.getD x3.toNat default).Damage) 0 1000000).bind fun r1242 => (if r1242 = true then ((nspeculumbase_Within k ((a0.getD x3.toNat default).Rate) 1 100000).bind fun r1247 => (if r1247 = true then (nspeculumref04_CheckGrits_l0_0 k a0 fuel (w64 (x3 + 1))) else (some (.inl 2)))) else (some (.inl 2)))))) else (some (.inl 4)))) else none) else (some (.inr ()))
theorem nspeculumref04_CheckGrits_l0_0_ok (k : Nat) (a0 : (List SGrit)) : ∀ (fuel : Nat) (x3 : Int) (r : Sum Int Unit), nspeculumref04_CheckGrits_l0_0 k a0 fuel x3 = some r → (match r with | .inl r => VLoop none Go.Proofs.Try.prog (szF Go.Proofs.Try.f10) (bodyOf Go.Proofs.Try.f10 0) (nspeculumref04_CheckGrits_l0_0_h a0 x3) .ret (nspeculumref04_CheckGrits_l0_0_e0 a0 r) | .inr r => VLoop none Go.Proofs.Try.prog (szF Go.Proofs.Try.f10) (bodyOf Go.Proofs.Try.f10 0) (nspeculumref04_CheckGrits_l0_0_h a0 x3) (.exit 0) (nspeculumref04_CheckGrits_l0_0_e1 a0 r)) := by
 intro fuel
 induction fuel with
 | zero => intro x3 r h; rw [nspeculumref04_CheckGrits_l0_0.eq_1] at h; cases h
 | succ fuel ih =>
  intro x3 r h
  rw [nspeculumref04_CheckGrits_l0_0.eq_2] at h
  rcases ifs h with ⟨h1227, h⟩ | ⟨h1227, h⟩
  ·obtain ⟨h1228, h⟩ := ifn h
   have e1229 := (show loadL Go.Proofs.Try.prog 9 (x3.toNat * 3 + 0) (List.flatMap c_SGrit a0) = some (vs ((a0.getD x3.toNat default).Name)) from (ld_flat ag9 c_SGrit 3 0 len_c_SGrit (by omega) a0 default h1228 (by omega)).trans rfl)
   obtain ⟨r1230, h1231, h⟩ := bs h
   have e1232 := (nspeculumbase_IsName_ok k ((a0.getD x3.toNat default).Name) _ h1231)
   have e1233 := (ti (ti (an h1228 (ti (an e1229 (an e1232 (ti trivial)))))))
   rcases ifs h with ⟨h1234, h⟩ | ⟨h1234, h⟩
   ·have e1235 := (show loadL Go.Proofs.Try.prog 9 (x3.toNat * 3 + 0) (List.flatMap c_SGrit a0) = some (vs ((a0.getD x3.toNat default).Name)) from (ld_flat ag9 c_SGrit 3 0 len_c_SGrit (by omega) a0 default h1228 (by omega)).trans rfl)
    obtain ⟨r1236, h1237, h⟩ := bs h
    have e1238 := (nspeculumref04_GritAt_ok k a0 ((a0.getD x3.toNat default).Name) _ h1237)
    have e1239 := (ti (ti (ti (an h1228 (ti (an e1235 (an e1238 (ti (ti trivial)))))))))
    rcases ifs h with ⟨h1240, h⟩ | ⟨h1240, h⟩
    ·injection h with h; subst h
     exact round_stop (c := ⟨[(2, none)], [], []⟩) (s1 := (nspeculumref04_CheckGrits_l0_0_e0 a0 5)) pm pn (ans := [.reg (nN 4 []), .br true, .reg (nN 4 (.v (vs ((a0.getD x3.toNat default).Name)) :: .call (vb r1230) :: .n :: [])), .br false, .reg (nN 5 (.v (vs ((a0.getD x3.toNat default).Name)) :: .call (vi r1236) :: .n :: .n :: [])), .br true, .reg (.n :: [])]) (by kernel_rfl) (by intro e; cases e) (an (an (an (ti (ti (ti (ti trivial)))) (an (decide_eq_true h1227) trivial)) (an (an e1233 (an (not_f h1234) trivial)) (an e1239 (an (decide_eq_true h1240) (an (ti trivial) trivial))))) (ti trivial))
    ·have e1241 := (show loadL Go.Proofs.Try.prog 3 (x3.toNat * 3 + 1) (List.flatMap c_SGrit a0) = some (vi ((a0.getD x3.toNat default).Damage)) from (ld_flat ag3 c_SGrit 3 1 len_c_SGrit (by omega) a0 default h1228 (by omega)).trans rfl)
     obtain ⟨r1242, h1243, h⟩ := bs h
     have e1244 := (nspeculumbase_Within_ok k ((a0.getD x3.toNat default).Damage) 0 1000000 _ h1243)
     rcases ifs h with ⟨h1245, h⟩ | ⟨h1245, h⟩
     ·have e1246 := (an (not_f h1245) (show loadL Go.Proofs.Try.prog 3 (x3.toNat * 3 + 2) (List.flatMap c_SGrit a0) = some (vi ((a0.getD x3.toNat default).Rate)) from (ld_flat ag3 c_SGrit 3 2 len_c_SGrit (by omega) a0 default h1228 (by omega)).trans rfl))
      obtain ⟨r1247, h1248, h⟩ := bs h
      have e1249 := (an (not_f h1245) (nspeculumbase_Within_ok k ((a0.getD x3.toNat default).Rate) 1 100000 _ h1248))
      have e1250 := (ti (ti (an h1228 (ti (an e1241 (an e1244 (ti (ti (an (an (not_f h1245) trivial) (an (an (not_f h1245) trivial) (an (an (not_f h1245) h1228) (an (an (not_f h1245) trivial) (an e1246 (an e1249 (an (an (not_f h1245) trivial) (an (not_f h1245) trivial))))))))))))))))
      rcases ifs h with ⟨h1251, h⟩ | ⟨h1251, h⟩
      ·have h2 := ih _ _ h
       obtain ⟨q, hv, hq⟩ := pkR (rd := none) (P := Go.Proofs.Try.prog) (fn := Go.Proofs.Try.f10) (k := 0) (s := (nspeculumref04_CheckGrits_l0_0_h a0 x3)) (ans := [.reg (nN 4 []), .br true, .reg (nN 4 (.v (vs ((a0.getD x3.toNat default).Name)) :: .call (vb r1230) :: .n :: [])), .br false, .reg (nN 5 (.v (vs ((a0.getD x3.toNat default).Name)) :: .call (vi r1236) :: .n :: .n :: [])), .br false, .reg (arK1_14 a0 x3 r1242 r1247), .br false, .reg (nN 3 [])]) (c := ⟨[(0, none), (3, none)], [], []⟩) (e := .normal) (s1 := (nspeculumref04_CheckGrits_l0_0_h a0 (w64 (x3 + 1)))) (an (an (an (ti (ti (ti (ti trivial)))) (an (decide_eq_true h1227) trivial)) (an (an (an e1233 (an (not_f h1234) trivial)) (an (an e1239 (an (decide_eq_false h1240) trivial)) (an e1250 (an (not_f h1251) trivial)))) (ti (ti (ti trivial))))) (ti trivial)) (by kernel_rfl)
       cases r with
       | inl r => exact round_next pm pn hv hq h2
       | inr r =>
        exact round_next pm pn hv hq h2
      ·injection h with h; subst h
       exact round_stop (c := ⟨[(2, none)], [], []⟩) (s1 := (nspeculumref04_CheckGrits_l0_0_e0 a0 2)) pm pn (ans := [.reg (nN 4 []), .br true, .reg (nN 4 (.v (vs ((a0.getD x3.toNat default).Name)) :: .call (vb r1230) :: .n :: [])), .br false, .reg (nN 5 (.v (vs ((a0.getD x3.toNat default).Name)) :: .call (vi r1236) :: .n :: .n :: [])), .br false, .reg (arK1_14 a0 x3 r1242 r1247), .br true, .reg (.n :: [])]) (by kernel_rfl) (by intro e; cases e) (an (an (an (ti (ti (ti (ti trivial)))) (an (decide_eq_true h1227) trivial)) (an (an e1233 (an (not_f h1234) trivial)) (an (an e1239 (an (decide_eq_false h1240) trivial)) (an e1250 (an (not_t (bool_f h1251)) (an (ti trivial) trivial)))))) (ti trivial))
     ·have e1252 := (ti (ti (an h1228 (ti (an e1241 (an e1244 (ti (ti (an (not_t (bool_f h1245)) (an (not_t (bool_f h1245)) (an (not_t (bool_f h1245)) (an (not_t (bool_f h1245)) (an (not_t (bool_f h1245)) (an (not_t (bool_f h1245)) (an (not_t (bool_f h1245)) (an (not_t (bool_f h1245)) trivial))))))))))))))))
      injection h with h; subst h
      exact round_stop (c := ⟨[(2, none)], [], []⟩) (s1 := (nspeculumref04_CheckGrits_l0_0_e0 a0 2)) pm pn (ans := [.reg (nN 4 []), .br true, .reg (nN 4 (.v (vs ((a0.getD x3.toNat default).Name)) :: .call (vb r1230) :: .n :: [])), .br false, .reg (nN 5 (.v (vs ((a0.getD x3.toNat default).Name)) :: .call (vi r1236) :: .n :: .n :: [])), .br false, .reg (arK1_15 a0 x3 r1242), .br true, .reg (.n :: [])]) (by kernel_rfl) (by intro e; cases e) (an (an (an (ti (ti (ti (ti trivial)))) (an (decide_eq_true h1227) trivial)) (an (an e1233 (an (not_f h1234) trivial)) (an (an e1239 (an (decide_eq_false h1240) trivial)) (an e1252 (an rt (an (ti trivial) trivial)))))) (ti trivial))
   ·injection h with h; subst h
    exact round_stop (c := ⟨[(2, none)], [], []⟩) (s1 := (nspeculumref04_CheckGrits_l0_0_e0 a0 4)) pm pn (ans := [.reg (nN 4 []), .br true, .reg (nN 4 (.v (vs ((a0.getD x3.toNat default).Name)) :: .call (vb r1230) :: .n :: [])), .br true, .reg (.n :: [])]) (by kernel_rfl) (by intro e; cases e) (an (an (an (ti (ti (ti (ti trivial)))) (an (decide_eq_true h1227) trivial)) (an e1233 (an (not_t (bool_f h1234)) (an (ti trivial) trivial)))) (ti trivial))
  ·injection h with h; subst h
   exact round_stop (c := ⟨[], [], []⟩) (s1 := (nspeculumref04_CheckGrits_l0_0_e1 a0 ())) pm pn (ans := [.reg (nN 4 []), .br false]) (by kernel_rfl) (by intro e; cases e) (an (an (ti (ti (ti (ti trivial)))) (an (decide_eq_false h1227) trivial)) (ti trivial))
def nspeculumref04_CheckGrits (k : Nat) (a0 : (List SGrit)) : Option Int :=
  if 12 < (a0.length : Int) then (some 8) else ((nspeculumref04_CheckGrits_l0_0 k a0 k 0).bind fun r1254 => (match r1254 with | .inl r1255 => (some r1255) | .inr r1256 => (some 0)))
theorem nspeculumref04_CheckGrits_ok (k : Nat) (a0 : (List SGrit)) (r : Int) (h : nspeculumref04_CheckGrits k a0 = some r) : VC Go.Proofs.Try.prog 10 [VV.tr (List.flatMap c_SGrit a0) a0.length] (vi r) := by
 unfold nspeculumref04_CheckGrits at h
 rcases ifs h with ⟨h1174, h⟩ | ⟨h1174, h⟩
 ·injection h with h; subst h
  exact fun_ok pm pn Go.Proofs.Try.func10 (r0 := vi 8) (ans := [.reg (.n :: []), .reg (nN 3 []), .br true, .reg (.n :: [])]) (fr := true) (by kernel_rfl) (an (an (ti trivial) (an (ti (ti (ti trivial))) (an (decide_eq_true h1174) (an (ti trivial) trivial)))) (ti trivial)) (Wv.refl _)
 ·obtain ⟨r1254, h1253, h⟩ := bs h
  have hph1253 := nspeculumref04_CheckGrits_l0_0_ok k a0 _ _ _ h1253
  cases r1254 with
  | inl r1255 =>
   dsimp only at h
   have e1257 := (an (ti trivial) (VRun.loop hph1253))
   injection h with h; subst h
   exact fun_ok pm pn Go.Proofs.Try.func10 (r0 := vi r1255) (ans := [.reg (.n :: []), .reg (nN 3 []), .br false, .reg (.n :: []), .sub ⟨[(0, none), (3, none)], [], []⟩ .ret (nspeculumref04_CheckGrits_l0_0_e0 a0 r1255)]) (fr := true) (by kernel_rfl) (an (an (ti trivial) (an (an (ti (ti (ti trivial))) (an (decide_eq_false h1174) trivial)) (an (ti trivial) e1257))) (ti trivial)) (Wv.refl _)
  | inr r1256 =>
   dsimp only at h
   have e1258 := (an (ti trivial) (VRun.loop hph1253))
   injection h with h; subst h
   exact fun_ok pm pn Go.Proofs.Try.func10 (r0 := vi 0) (ans := [.reg (.n :: []), .reg (nN 3 []), .br false, .reg (.n :: []), .sub ⟨[(0, none), (3, none)], [], []⟩ (.exit 0) (nspeculumref04_CheckGrits_l0_0_e1 a0 r1256), .reg (.n :: [])]) (fr := true) (by kernel_rfl) (an (an (ti trivial) (an (an (ti (ti (ti trivial))) (an (decide_eq_false h1174) trivial)) (an (an (ti trivial) e1258) (an (ti trivial) trivial)))) (ti trivial)) (Wv.refl _)
end Go.Proofs.Ytjhclaollpkdgaa.Vg

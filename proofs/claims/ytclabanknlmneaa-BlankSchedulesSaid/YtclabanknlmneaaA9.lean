/- Written by a program out of the program: what Go functions do, as plain functions, and their contracts. -/
import Derived.Test.YtclabanknlmneaaA5
namespace Go.Proofs.Ytclabanknlmneaa.Vg
set_option maxRecDepth 100000
set_option maxHeartbeats 4000000
set_option linter.unusedVariables false
set_option linter.unusedSimpArgs false
open Go Go.Proofs.Ytclabanknlmneaa.Ev Go.Proofs.Ytclabanknlmneaa.Vv
def nawake (k : Nat) : Option Bool := some true
theorem nawake_ok (k : Nat) (r : Bool) (h : nawake k = some r) : VC Go.Proofs.Try.prog 12 [] (vb r) := by
  injection h with h; subst h
  exact vc_awake
def nspeculumref03_timeOf (k : Nat) (a0 : (List Int)) (a1 : Int) : Option Int :=
  if a1 < 0 then (some 0) else (if 0 ≤ a1 ∧ a1 < (a0.length : Int) then (some (a0.getD a1.toNat 0)) else none)
theorem nspeculumref03_timeOf_ok (k : Nat) (a0 : (List Int)) (a1 : Int) (r : Int) (h : nspeculumref03_timeOf k a0 a1 = some r) : VC Go.Proofs.Try.prog 80 [VV.tr (List.map vi a0) a0.length, vi a1] (vi r) := by
 unfold nspeculumref03_timeOf at h
 rcases ifs h with ⟨h1747, h⟩ | ⟨h1747, h⟩
 ·injection h with h; subst h
  exact fun_ok pm pn Go.Proofs.Try.func80 (r0 := vi 0) (ans := [.reg (.n :: []), .reg (.n :: .n :: []), .br true, .reg (.n :: [])]) (fr := true) (by kernel_rfl) (an (an (ti trivial) (an (ti (ti trivial)) (an (decide_eq_true h1747) (an (ti trivial) trivial)))) (ti trivial)) (Wv.refl _)
 ·obtain ⟨h1748, h⟩ := ifn h
  have e1749 := (show loadL Go.Proofs.Try.prog 3 (a1.toNat * 1) (List.map vi a0) = some (vi (a0.getD a1.toNat 0)) from ld_map ag3 vi a0 0 h1748 (by omega))
  injection h with h; subst h
  exact fun_ok pm pn Go.Proofs.Try.func80 (r0 := vi (a0.getD a1.toNat 0)) (ans := [.reg (.n :: []), .reg (.n :: .n :: []), .br false, .reg (nN 3 (.v (vi (a0.getD a1.toNat 0)) :: .n :: []))]) (fr := true) (by kernel_rfl) (an (an (ti trivial) (an (an (ti (ti trivial)) (an (decide_eq_false h1747) trivial)) (an (ti (ti (an h1748 (an e1749 (ti trivial))))) trivial))) (ti trivial)) (Wv.refl _)
theorem eqA9_0 (z0 : List Int) (z1 : (List SCoolBound)) (z2 : Int) : [VV.tr (List.map vi z0) z0.length, vi ((z1.getD z2.toNat default).To)] = [VV.tr (List.drop 0 (List.map unfr (List.map vi z0))) z0.length, vi ((z1.getD z2.toNat default).To)] := by first | rfl | (simp only [drop0, unfr_vi, List.map_cons, List.map_nil, un_i, un_tr, List.length_map, List.length_cons, List.length_nil]; done) | (simp only [drop0, unfr_vi, List.map_cons, List.map_nil, un_i, un_tr, List.length_map, List.length_cons, List.length_nil]; rfl) | (simp only [drop0, unfr_vi, List.map_cons, List.map_nil, un_i, un_tr, List.length_map, List.length_cons, List.length_nil, List.length_cons, List.length_nil, List.length_append]; done)
def arA9_0 (z0 : Int) (z1 : List Int) (z2 : (List SCoolBound)) (z3 : Int) : List Ans := (nN 7 (.call (vi z0) :: nN 4 (.v (vi (z1.getD ((z2.getD z3.toNat default).From).toNat 0)) :: nN 4 (.b true :: []))))
theorem eqA9_1 (z0 : List Int) (z1 : (List SCoolBound)) : [VV.tr (List.map vi z0) z0.length, vi ((z1.getD ((0 : Int)).toNat default).To)] = [VV.tr (List.drop 0 (List.map unfr (List.map vi z0))) z0.length, vi ((z1.getD ((0 : Int)).toNat default).To)] := by first | rfl | (simp only [drop0, unfr_vi, List.map_cons, List.map_nil, un_i, un_tr, List.length_map, List.length_cons, List.length_nil]; done) | (simp only [drop0, unfr_vi, List.map_cons, List.map_nil, un_i, un_tr, List.length_map, List.length_cons, List.length_nil]; rfl) | (simp only [drop0, unfr_vi, List.map_cons, List.map_nil, un_i, un_tr, List.length_map, List.length_cons, List.length_nil, List.length_cons, List.length_nil, List.length_append]; done)
theorem eqA9_2 (z0 : (List Int)) (z1 : (List SCoolBound)) : [VV.tr (List.map vi z0) z0.length, vi ((z1.getD ((0 : Int)).toNat default).To)] = [VV.tr (List.drop 0 (List.map unfr (List.map vi z0))) z0.length, vi ((z1.getD ((0 : Int)).toNat default).To)] := by first | rfl | (simp only [drop0, unfr_vi, List.map_cons, List.map_nil, un_i, un_tr, List.length_map, List.length_cons, List.length_nil]; done) | (simp only [drop0, unfr_vi, List.map_cons, List.map_nil, un_i, un_tr, List.length_map, List.length_cons, List.length_nil]; rfl) | (simp only [drop0, unfr_vi, List.map_cons, List.map_nil, un_i, un_tr, List.length_map, List.length_cons, List.length_nil, List.length_cons, List.length_nil, List.length_append]; done)
theorem eqA9_3 (z0 : (List Int)) (z1 : (List SCoolBound)) : [VV.tr (List.map vi z0) z0.length, vi ((z1.getD ((0 : Int)).toNat default).From)] = [VV.tr (List.drop 0 (List.map unfr (List.map vi z0))) z0.length, vi ((z1.getD ((0 : Int)).toNat default).From)] := by first | rfl | (simp only [drop0, unfr_vi, List.map_cons, List.map_nil, un_i, un_tr, List.length_map, List.length_cons, List.length_nil]; done) | (simp only [drop0, unfr_vi, List.map_cons, List.map_nil, un_i, un_tr, List.length_map, List.length_cons, List.length_nil]; rfl) | (simp only [drop0, unfr_vi, List.map_cons, List.map_nil, un_i, un_tr, List.length_map, List.length_cons, List.length_nil, List.length_cons, List.length_nil, List.length_append]; done)
theorem eqA9_4 (z0 : (List Int)) (z1 : (List SCoolBound)) (z2 : Int) : [VV.tr (List.map vi z0) z0.length, vi ((z1.getD z2.toNat default).To)] = [VV.tr (List.drop 0 (List.map unfr (List.map vi z0))) z0.length, vi ((z1.getD z2.toNat default).To)] := by first | rfl | (simp only [drop0, unfr_vi, List.map_cons, List.map_nil, un_i, un_tr, List.length_map, List.length_cons, List.length_nil]; done) | (simp only [drop0, unfr_vi, List.map_cons, List.map_nil, un_i, un_tr, List.length_map, List.length_cons, List.length_nil]; rfl) | (simp only [drop0, unfr_vi, List.map_cons, List.map_nil, un_i, un_tr, List.length_map, List.length_cons, List.length_nil, List.length_cons, List.length_nil, List.length_append]; done)
theorem eqA9_5 (z0 : (List Int)) (z1 : (List SCoolBound)) (z2 : Int) : [VV.tr (List.map vi z0) z0.length, vi ((z1.getD z2.toNat default).From)] = [VV.tr (List.drop 0 (List.map unfr (List.map vi z0))) z0.length, vi ((z1.getD z2.toNat default).From)] := by first | rfl | (simp only [drop0, unfr_vi, List.map_cons, List.map_nil, un_i, un_tr, List.length_map, List.length_cons, List.length_nil]; done) | (simp only [drop0, unfr_vi, List.map_cons, List.map_nil, un_i, un_tr, List.length_map, List.length_cons, List.length_nil]; rfl) | (simp only [drop0, unfr_vi, List.map_cons, List.map_nil, un_i, un_tr, List.length_map, List.length_cons, List.length_nil, List.length_cons, List.length_nil, List.length_append]; done)
def arA9_1 (z0 : (List SCoolBound)) (z1 : Int) (z2 : Int) (z3 : Int) : List Ans := (nN 5 (.v (vi ((z0.getD z1.toNat default).To)) :: .call (vi z2) :: nN 5 (.v (vi ((z0.getD z1.toNat default).From)) :: .call (vi z3) :: nN 5 (.v (vi ((z0.getD z1.toNat default).Most)) :: .n :: []))))
def nspeculumref03_Earliest_l1_0_h (a0 : SAnnealing) (r1952 : (List SCoolBound)) (x6 : Int) (y1z : List Int) (x7 : Int) : VS := ⟨mkA [(1, VV.pt 0 0), (4, VV.fr (List.flatMap c_SCoolBound r1952) r1952.length), (5, VV.rf 1 0 y1z.length), (6, vi x6), (7, vi x7)], [some ⟨true, 1, c_SAnnealing a0⟩, some ⟨false, 1, List.map vi y1z⟩], .nil⟩
def nspeculumref03_Earliest_l1_0_e0 (a0 : SAnnealing) (r1952 : (List SCoolBound)) (x6 : Int) (r : (List Int)) : VS := ⟨mkA [(1, VV.pt 0 0), (4, VV.fr (List.flatMap c_SCoolBound r1952) r1952.length), (5, VV.rf 1 0 r.length), (6, vi x6)], [some ⟨true, 1, c_SAnnealing a0⟩, some ⟨false, 1, List.map vi r⟩], .nil⟩
def nspeculumref03_Earliest_l1_0 (k : Nat) (a0 : SAnnealing) (r1952 : (List SCoolBound)) (x6 : Int) : Nat → (List Int) → Int → Option ((List Int))
  | 0, _, _ => none
  | fuel + 1, y1z, x7 => if x7 < (r1952.length : Int) then (if 0 ≤ x7 ∧ x7 < (r1952.length : Int) then (if 0 ≤ ((r1952.getD x7.toNat default).From) then ((nspeculumref03_timeOf k y1z ((r1952.getD x7.toNat default).To)).bind fun r2101 => (if 0 ≤ (r1952.getD x7.toNat default).From ∧ (r1952.getD x7.toNat default).From < (y1z.length : Int) then (if ((r1952.getD x7.toNat default).Most) < (w64 (r2101 - (y1z.getD ((r1952.getD x7.toNat default).From).toNat 0))) then (nspeculumref03_Earliest_l1_0 k a0 r1952 x6 fuel (y1z.set ((r1952.getD x7.toNat default).From).toNat (w64 (r2101 - ((r1952.getD x7.toNat default).Most)))) (w64 (x7 + 1))) else (nspeculumref03_Earliest_l1_0 k a0 r1952 x6 fuel y1z (w64 (x7 + 1)))) else none)) else (nspeculumref03_Earliest_l1_0 k a0 r1952 x6 fuel y1z (w64 (x7 + 1)))) else none) else (some y1z)
theorem nspeculumref03_Earliest_l1_0_ok (k : Nat) (a0 : SAnnealing) (r1952 : (List SCoolBound)) (x6 : Int) : ∀ (fuel : Nat) (y1z : List Int) (x7 : Int) (r : (List Int)), nspeculumref03_Earliest_l1_0 k a0 r1952 x6 fuel y1z x7 = some r → (VLoop none Go.Proofs.Try.prog (szF Go.Proofs.Try.f37) (bodyOf Go.Proofs.Try.f37 1) (nspeculumref03_Earliest_l1_0_h a0 r1952 x6 y1z x7) (.exit 2) (nspeculumref03_Earliest_l1_0_e0 a0 r1952 x6 r)) := by
 intro fuel
 induction fuel with
 | zero => intro y1z x7 r h; rw [nspeculumref03_Earliest_l1_0.eq_1] at h; cases h
 | succ fuel ih =>
  intro y1z x7 r h
  rw [nspeculumref03_Earliest_l1_0.eq_2] at h
  rcases ifs h with ⟨h2097, h⟩ | ⟨h2097, h⟩
  ·obtain ⟨h2098, h⟩ := ifn h
   have e2099 := (show loadL Go.Proofs.Try.prog 66 (x7.toNat * 3) (List.flatMap c_SCoolBound r1952) = some (VV.ag (c_SCoolBound (r1952.getD x7.toNat default))) from ld_whole ag66 c_SCoolBound 3 sz66 len_c_SCoolBound r1952 default h2098 (by omega))
   rcases ifs h with ⟨h2100, h⟩ | ⟨h2100, h⟩
   ·obtain ⟨r2101, h2102, h⟩ := bs h
    have e2103 := (an (decide_eq_true h2100) (VC.args (nspeculumref03_timeOf_ok k y1z ((r1952.getD x7.toNat default).To) _ h2102) (eqA9_0 y1z r1952 x7)))
    obtain ⟨h2104, h⟩ := ifn h
    have e2105 := (an (decide_eq_true h2100) (show loadL Go.Proofs.Try.prog 3 (0 + ((r1952.getD x7.toNat default).From).toNat * 1) (List.map vi y1z) = some (vi (y1z.getD ((r1952.getD x7.toNat default).From).toNat 0)) from ld_map ag3 vi y1z 0 h2104 (by omega)))
    have e2106 := (ti (ti (ti (ti (an (an (decide_eq_true h2100) trivial) (an (an (decide_eq_true h2100) trivial) (an (an (decide_eq_true h2100) trivial) (an e2103 (an (an (decide_eq_true h2100) trivial) (an (an (decide_eq_true h2100) trivial) (an (an (decide_eq_true h2100) trivial) (an (an (decide_eq_true h2100) h2104) (an e2105 (an (an (decide_eq_true h2100) trivial) (an (an (decide_eq_true h2100) trivial) (an (an (decide_eq_true h2100) trivial) (an (an (decide_eq_true h2100) trivial) (an (decide_eq_true h2100) trivial))))))))))))))))))
    rcases ifs h with ⟨h2107, h⟩ | ⟨h2107, h⟩
    ·have e2109 := (VC.args (nspeculumref03_timeOf_ok k y1z ((r1952.getD x7.toNat default).To) _ h2102) (eqA9_0 y1z r1952 x7))
     have e2110 := (show (0 + ((r1952.getD x7.toNat default).From).toNat * 1) + 1 ≤ List.length (List.map vi y1z) from (by simp only [List.length_map]; omega))
     have e2111 := (ti (ti (ti (ti (ti (ti (an e2109 (ti (ti (ti (an h2104 (an e2110 trivial))))))))))))
     have h2 := ih _ _ _ h
     obtain ⟨q, hv, hq⟩ := pkR (rd := none) (P := Go.Proofs.Try.prog) (fn := Go.Proofs.Try.f37) (k := 1) (s := (nspeculumref03_Earliest_l1_0_h a0 r1952 x6 y1z x7)) (ans := [.reg (nN 4 []), .br true, .reg (nN 3 (.v (VV.ag (c_SCoolBound (r1952.getD x7.toNat default))) :: .n :: .n :: [])), .reg (arA9_0 r2101 y1z r1952 x7), .br true, .reg (nN 6 (.call (vi r2101) :: nN 5 [])), .reg (nN 3 [])]) (c := ⟨[(1, none), (4, none), (5, some (VV.rf 1 0 ((y1z.set ((r1952.getD x7.toNat default).From).toNat (w64 (r2101 - ((r1952.getD x7.toNat default).Most)))).length))), (6, none), (7, none)], [none, some (List.map vi (y1z.set ((r1952.getD x7.toNat default).From).toNat (w64 (r2101 - ((r1952.getD x7.toNat default).Most)))))], []⟩) (e := .normal) (s1 := (nspeculumref03_Earliest_l1_0_h a0 r1952 x6 (y1z.set ((r1952.getD x7.toNat default).From).toNat (w64 (r2101 - ((r1952.getD x7.toNat default).Most)))) (w64 (x7 + 1)))) (an (an (an (ti (ti (ti (ti trivial)))) (an (decide_eq_true h2097) trivial)) (an (an (ti (ti (an h2098 (an e2099 (ti (ti trivial)))))) (an e2106 (an (decide_eq_true h2107) e2111))) (ti (ti (ti trivial))))) (an (an (show Wv (VV.rf 1 0 y1z.length) (VV.rf 1 0 ((y1z.set ((r1952.getD x7.toNat default).From).toNat (w64 (r2101 - ((r1952.getD x7.toNat default).Most)))).length)) from (Wv.of_eq (by simp))) trivial) (an (show putT (0 + ((r1952.getD x7.toNat default).From).toNat * 1) (List.map vi y1z) [vi (w64 (r2101 - ((r1952.getD x7.toNat default).Most)))] = List.map vi (y1z.set ((r1952.getD x7.toNat default).From).toNat (w64 (r2101 - ((r1952.getD x7.toNat default).Most)))) from (by exact putT_vi y1z h2104 (w64 (r2101 - ((r1952.getD x7.toNat default).Most))) (by omega))) trivial))) (by kernel_rfl)
     exact round_next pm pn hv hq h2
    ·have h2 := ih _ _ _ h
     obtain ⟨q, hv, hq⟩ := pkR (rd := none) (P := Go.Proofs.Try.prog) (fn := Go.Proofs.Try.f37) (k := 1) (s := (nspeculumref03_Earliest_l1_0_h a0 r1952 x6 y1z x7)) (ans := [.reg (nN 4 []), .br true, .reg (nN 3 (.v (VV.ag (c_SCoolBound (r1952.getD x7.toNat default))) :: .n :: .n :: [])), .reg (arA9_0 r2101 y1z r1952 x7), .br false, .reg (nN 3 [])]) (c := ⟨[(1, none), (4, none), (5, none), (6, none), (7, none)], [none, none], []⟩) (e := .normal) (s1 := (nspeculumref03_Earliest_l1_0_h a0 r1952 x6 y1z (w64 (x7 + 1)))) (an (an (an (ti (ti (ti (ti trivial)))) (an (decide_eq_true h2097) trivial)) (an (an (ti (ti (an h2098 (an e2099 (ti (ti trivial)))))) (an e2106 (an (decide_eq_false h2107) trivial))) (ti (ti (ti trivial))))) (ti trivial)) (by kernel_rfl)
     exact round_next pm pn hv hq h2
   ·have e2112 := (ti (ti (ti (ti (an (decide_eq_false h2100) (an (decide_eq_false h2100) (an (decide_eq_false h2100) (an (decide_eq_false h2100) (an (decide_eq_false h2100) (an (decide_eq_false h2100) (an (decide_eq_false h2100) (an (decide_eq_false h2100) (an (decide_eq_false h2100) (an (decide_eq_false h2100) (an (decide_eq_false h2100) (an (decide_eq_false h2100) (an (decide_eq_false h2100) (an (decide_eq_false h2100) trivial))))))))))))))))))
    have h2 := ih _ _ _ h
    obtain ⟨q, hv, hq⟩ := pkR (rd := none) (P := Go.Proofs.Try.prog) (fn := Go.Proofs.Try.f37) (k := 1) (s := (nspeculumref03_Earliest_l1_0_h a0 r1952 x6 y1z x7)) (ans := [.reg (nN 4 []), .br true, .reg (nN 3 (.v (VV.ag (c_SCoolBound (r1952.getD x7.toNat default))) :: .n :: .n :: [])), .reg (nN 4 (nS 13 (.b false :: []))), .br false, .reg (nN 3 [])]) (c := ⟨[(1, none), (4, none), (5, none), (6, none), (7, none)], [none, none], []⟩) (e := .normal) (s1 := (nspeculumref03_Earliest_l1_0_h a0 r1952 x6 y1z (w64 (x7 + 1)))) (an (an (an (ti (ti (ti (ti trivial)))) (an (decide_eq_true h2097) trivial)) (an (an (ti (ti (an h2098 (an e2099 (ti (ti trivial)))))) (an e2112 (an rf trivial))) (ti (ti (ti trivial))))) (ti trivial)) (by kernel_rfl)
    exact round_next pm pn hv hq h2
  ·injection h with h; subst h
   exact round_stop (c := ⟨[(1, none), (4, none), (5, none), (6, none)], [none, none], []⟩) (s1 := (nspeculumref03_Earliest_l1_0_e0 a0 r1952 x6 y1z)) pm pn (ans := [.reg (nN 4 []), .br false]) (by kernel_rfl) (by intro e; cases e) (an (an (ti (ti (ti (ti trivial)))) (an (decide_eq_false h2097) trivial)) (ti trivial))
def nspeculumref03_Earliest_l0_0_h (a0 : SAnnealing) (r1952 : (List SCoolBound)) (y1 : List Int) (x6 : Int) : VS := ⟨mkA [(1, VV.pt 0 0), (4, VV.fr (List.flatMap c_SCoolBound r1952) r1952.length), (5, VV.rf 1 0 y1.length), (6, vi x6)], [some ⟨true, 1, c_SAnnealing a0⟩, some ⟨false, 1, List.map vi y1⟩], .nil⟩
def nspeculumref03_Earliest_l0_0_e0 (a0 : SAnnealing) (r1952 : (List SCoolBound)) (r : (List Int)) : VS := ⟨mkA [(4, VV.fr (List.flatMap c_SCoolBound r1952) r1952.length), (5, VV.rf 1 0 r.length)], [some ⟨true, 1, c_SAnnealing a0⟩, some ⟨false, 1, List.map vi r⟩], .nil⟩
def nspeculumref03_Earliest_l0_0 (k : Nat) (a0 : SAnnealing) (r1952 : (List SCoolBound)) : Nat → (List Int) → Int → Option ((List Int))
  | 0, _, _ => none
  | fuel + 1, y1, x6 => if x6 ≤ (w64 ((a0.Steps.length : Int) + 2)) then ((nspeculumref03_Earliest_l1_0 k a0 r1952 x6 k y1 0).bind fun r2114 => (nspeculumref03_Earliest_l0_0 k a0 r1952 fuel r2114 (w64 (x6 + 1)))) else (some y1)
theorem nspeculumref03_Earliest_l0_0_ok (k : Nat) (a0 : SAnnealing) (r1952 : (List SCoolBound)) : ∀ (fuel : Nat) (y1 : List Int) (x6 : Int) (r : (List Int)), nspeculumref03_Earliest_l0_0 k a0 r1952 fuel y1 x6 = some r → (VLoop none Go.Proofs.Try.prog (szF Go.Proofs.Try.f37) (bodyOf Go.Proofs.Try.f37 0) (nspeculumref03_Earliest_l0_0_h a0 r1952 y1 x6) (.exit 0) (nspeculumref03_Earliest_l0_0_e0 a0 r1952 r)) := by
 intro fuel
 induction fuel with
 | zero => intro y1 x6 r h; rw [nspeculumref03_Earliest_l0_0.eq_1] at h; cases h
 | succ fuel ih =>
  intro y1 x6 r h
  rw [nspeculumref03_Earliest_l0_0.eq_2] at h
  rcases ifs h with ⟨h2064, h⟩ | ⟨h2064, h⟩
  ·obtain ⟨r2114, h2113, h⟩ := bs h
   have hph2113 := nspeculumref03_Earliest_l1_0_ok k a0 r1952 x6 _ _ _ _ h2113
   have e2115 := (an (ti trivial) (VRun.loop hph2113))
   have h2 := ih _ _ _ h
   obtain ⟨q, hv, hq⟩ := pkR (rd := none) (P := Go.Proofs.Try.prog) (fn := Go.Proofs.Try.f37) (k := 0) (s := (nspeculumref03_Earliest_l0_0_h a0 r1952 y1 x6)) (ans := [.reg (nN 6 []), .br true, .reg (.n :: []), .sub ⟨[(1, none), (4, none), (5, none), (6, none), (7, none)], [none, none], []⟩ (.exit 2) (nspeculumref03_Earliest_l1_0_e0 a0 r1952 x6 r2114), .reg (nN 3 [])]) (c := ⟨[(1, none), (4, none), (5, none), (6, none)], [none, none], []⟩) (e := .normal) (s1 := (nspeculumref03_Earliest_l0_0_h a0 r1952 r2114 (w64 (x6 + 1)))) (an (an (an (ti (ti (ti (ti (ti (ti trivial)))))) (an (decide_eq_true h2064) trivial)) (an (an (ti trivial) e2115) (ti (ti (ti trivial))))) (ti trivial)) (by kernel_rfl)
   exact round_next pm pn hv hq h2
  ·injection h with h; subst h
   exact round_stop (c := ⟨[(4, none), (5, none)], [none, none], []⟩) (s1 := (nspeculumref03_Earliest_l0_0_e0 a0 r1952 y1)) pm pn (ans := [.reg (nN 6 []), .br false]) (by kernel_rfl) (by intro e; cases e) (an (an (ti (ti (ti (ti (ti (ti trivial)))))) (an (decide_eq_false h2064) trivial)) (ti trivial))
def nspeculumref03_Earliest_l2_0_h (a0 : SAnnealing) (r1952 : (List SCoolBound)) (r2117 : (List Int)) (x9 : Int) : VS := ⟨mkA [(4, VV.fr (List.flatMap c_SCoolBound r1952) r1952.length), (5, VV.rf 1 0 r2117.length), (9, vi x9)], [some ⟨true, 1, c_SAnnealing a0⟩, some ⟨false, 1, List.map vi r2117⟩], .nil⟩
def nspeculumref03_Earliest_l2_0_e0 (a0 : SAnnealing) (r1952 : (List SCoolBound)) (r2117 : (List Int)) (r : Unit) : VS := ⟨mkA [(2, VV.c (.slice none 0 0)), (3, vb false)], [], .nil⟩
def nspeculumref03_Earliest_l2_0_e1 (a0 : SAnnealing) (r1952 : (List SCoolBound)) (r2117 : (List Int)) (r : Unit) : VS := ⟨mkA [(5, VV.rf 1 0 r2117.length)], [some ⟨true, 1, c_SAnnealing a0⟩, some ⟨false, 1, List.map vi r2117⟩], .nil⟩
def nspeculumref03_Earliest_l2_0 (k : Nat) (a0 : SAnnealing) (r1952 : (List SCoolBound)) (r2117 : (List Int)) : Nat → Int → Option (Sum Unit Unit)
  | 0, _ => none
  | fuel + 1, x9 => if x9 < (r1952.length : Int) then (if 0 ≤ x9 ∧ x9 < (r1952.length : Int) then ((nspeculumref03_timeOf k r2117 ((r1952.getD x9.toNat default).To)).bind fun r2148 => ((nspeculumref03_timeOf k r2117 ((r1952.getD x9.toNat default).From)).bind fun r2152 => (if ((r1952.getD x9.toNat default).Most) < (w64 (r2148 - r2152)) then (some (.inl ())) else (nspeculumref03_Earliest_l2_0 k a0 r1952 r2117 fuel (w64 (x9 + 1)))))) else none) else (some (.inr ()))
theorem nspeculumref03_Earliest_l2_0_ok (k : Nat) (a0 : SAnnealing) (r1952 : (List SCoolBound)) (r2117 : (List Int)) : ∀ (fuel : Nat) (x9 : Int) (r : Sum Unit Unit), nspeculumref03_Earliest_l2_0 k a0 r1952 r2117 fuel x9 = some r → (match r with | .inl r => VLoop none Go.Proofs.Try.prog (szF Go.Proofs.Try.f37) (bodyOf Go.Proofs.Try.f37 2) (nspeculumref03_Earliest_l2_0_h a0 r1952 r2117 x9) .ret (nspeculumref03_Earliest_l2_0_e0 a0 r1952 r2117 r) | .inr r => VLoop none Go.Proofs.Try.prog (szF Go.Proofs.Try.f37) (bodyOf Go.Proofs.Try.f37 2) (nspeculumref03_Earliest_l2_0_h a0 r1952 r2117 x9) (.exit 4) (nspeculumref03_Earliest_l2_0_e1 a0 r1952 r2117 r)) := by
 intro fuel
 induction fuel with
 | zero => intro x9 r h; rw [nspeculumref03_Earliest_l2_0.eq_1] at h; cases h
 | succ fuel ih =>
  intro x9 r h
  rw [nspeculumref03_Earliest_l2_0.eq_2] at h
  rcases ifs h with ⟨h2145, h⟩ | ⟨h2145, h⟩
  ·obtain ⟨h2146, h⟩ := ifn h
   have e2147 := (show loadL Go.Proofs.Try.prog 3 (x9.toNat * 3 + 1) (List.flatMap c_SCoolBound r1952) = some (vi ((r1952.getD x9.toNat default).To)) from (ld_flat ag3 c_SCoolBound 3 1 len_c_SCoolBound (by omega) r1952 default h2146 (by omega)).trans rfl)
   obtain ⟨r2148, h2149, h⟩ := bs h
   have e2150 := (VC.args (nspeculumref03_timeOf_ok k r2117 ((r1952.getD x9.toNat default).To) _ h2149) (eqA9_4 r2117 r1952 x9))
   have e2151 := (show loadL Go.Proofs.Try.prog 3 (x9.toNat * 3 + 0) (List.flatMap c_SCoolBound r1952) = some (vi ((r1952.getD x9.toNat default).From)) from (ld_flat ag3 c_SCoolBound 3 0 len_c_SCoolBound (by omega) r1952 default h2146 (by omega)).trans rfl)
   obtain ⟨r2152, h2153, h⟩ := bs h
   have e2154 := (VC.args (nspeculumref03_timeOf_ok k r2117 ((r1952.getD x9.toNat default).From) _ h2153) (eqA9_5 r2117 r1952 x9))
   have e2155 := (show loadL Go.Proofs.Try.prog 3 (x9.toNat * 3 + 2) (List.flatMap c_SCoolBound r1952) = some (vi ((r1952.getD x9.toNat default).Most)) from (ld_flat ag3 c_SCoolBound 3 2 len_c_SCoolBound (by omega) r1952 default h2146 (by omega)).trans rfl)
   have e2156 := (ti (ti (ti (an h2146 (ti (an e2147 (an e2150 (ti (ti (ti (an h2146 (ti (an e2151 (an e2154 (ti (ti (ti (an h2146 (ti (an e2155 (ti trivial)))))))))))))))))))))
   rcases ifs h with ⟨h2157, h⟩ | ⟨h2157, h⟩
   ·injection h with h; subst h
    exact round_stop (c := ⟨[(2, none), (3, none)], [], []⟩) (s1 := (nspeculumref03_Earliest_l2_0_e0 a0 r1952 r2117 ())) pm pn (ans := [.reg (nN 4 []), .br true, .reg (arA9_1 r1952 x9 r2148 r2152), .br true, .reg (.n :: .n :: [])]) (by kernel_rfl) (by intro e; cases e) (an (an (an (ti (ti (ti (ti trivial)))) (an (decide_eq_true h2145) trivial)) (an e2156 (an (decide_eq_true h2157) (an (ti (ti trivial)) trivial)))) (ti trivial))
   ·have h2 := ih _ _ h
    obtain ⟨q, hv, hq⟩ := pkR (rd := none) (P := Go.Proofs.Try.prog) (fn := Go.Proofs.Try.f37) (k := 2) (s := (nspeculumref03_Earliest_l2_0_h a0 r1952 r2117 x9)) (ans := [.reg (nN 4 []), .br true, .reg (arA9_1 r1952 x9 r2148 r2152), .br false, .reg (nN 3 [])]) (c := ⟨[(4, none), (5, none), (9, none)], [none, none], []⟩) (e := .normal) (s1 := (nspeculumref03_Earliest_l2_0_h a0 r1952 r2117 (w64 (x9 + 1)))) (an (an (an (ti (ti (ti (ti trivial)))) (an (decide_eq_true h2145) trivial)) (an (an e2156 (an (decide_eq_false h2157) trivial)) (ti (ti (ti trivial))))) (ti trivial)) (by kernel_rfl)
    cases r with
    | inl r => exact round_next pm pn hv hq h2
    | inr r =>
     exact round_next pm pn hv hq h2
  ·injection h with h; subst h
   exact round_stop (c := ⟨[(5, none)], [none, none], []⟩) (s1 := (nspeculumref03_Earliest_l2_0_e1 a0 r1952 r2117 ())) pm pn (ans := [.reg (nN 4 []), .br false]) (by kernel_rfl) (by intro e; cases e) (an (an (ti (ti (ti (ti trivial)))) (an (decide_eq_false h2145) trivial)) (ti trivial))
theorem eqA9_6 (z0 : (List Int)) : VV.tu [VV.fw 1 (List.drop 0 (List.map unfr (List.map vi z0))) z0.length, vb true] = VV.tu [VV.fw 1 (List.map vi z0) z0.length, vb true] := by first | rfl | (simp only [drop0, unfr_vi, unfr_vb, List.map_cons, List.map_nil, un_i, un_b, List.length_map, List.length_cons, List.length_nil]; done) | (simp only [drop0, unfr_vi, unfr_vb, List.map_cons, List.map_nil, un_i, un_b, List.length_map, List.length_cons, List.length_nil]; rfl) | (simp only [drop0, unfr_vi, unfr_vb, List.map_cons, List.map_nil, un_i, un_b, List.length_map, List.length_cons, List.length_nil, List.length_cons, List.length_nil, List.length_append]; done)
def nspeculumref03_Earliest (k : Nat) (a0 : SAnnealing) : Option ((List Int) × Bool) :=
  (nspeculumref03_System k a0).bind fun r1952 => (if 0 ≤ (w64 ((a0.Steps.length : Int) + 1)) ∧ (w64 ((a0.Steps.length : Int) + 1)) ≤ 1000000000 then ((nspeculumref03_Earliest_l0_0 k a0 r1952 k (List.replicate (w64 ((a0.Steps.length : Int) + 1)).toNat (0 : Int)) 0).bind fun r2117 => ((nspeculumref03_Earliest_l2_0 k a0 r1952 r2117 k 0).bind fun r2159 => (match r2159 with | .inl r2160 => (some ([], false)) | .inr r2161 => (some (r2117, true))))) else none)
theorem nspeculumref03_Earliest_ok (k : Nat) (a0 : SAnnealing) (r : ((List Int) × Bool)) (h : nspeculumref03_Earliest k a0 = some r) : VC Go.Proofs.Try.prog 37 [VV.ag (c_SAnnealing a0)] (VV.tu [VV.fw 1 (List.map vi r.1) r.1.length, vb r.2]) := by
 unfold nspeculumref03_Earliest at h
 obtain ⟨r1952, h1953, h⟩ := bs h
 have e1954 := (show VC Go.Proofs.Try.prog 35 [VV.ag (c_SAnnealing a0)] (VV.fr (List.flatMap c_SCoolBound r1952) r1952.length) from (VC.weak (nspeculumref03_System_ok k a0 _ h1953) (Wv.fw rfl rfl)))
 obtain ⟨h1955, h⟩ := ifn h
 have e1956 := (show 0 ≤ (w64 ((a0.Steps.length : Int) + 1)) ∧ (w64 ((a0.Steps.length : Int) + 1)) = (w64 ((a0.Steps.length : Int) + 1)) ∧ (8 * (w64 ((a0.Steps.length : Int) + 1)).toNat) ≤ 281474976710656 ∧ (w64 ((a0.Steps.length : Int) + 1)) < 1099511627776 from ⟨by omega, rfl, by omega, by omega⟩)
 obtain ⟨r2117, h2116, h⟩ := bs h
 have hph2116 := nspeculumref03_Earliest_l0_0_ok k a0 r1952 _ _ _ _ h2116
 have e2118 := (an (an (an (show Wv (VV.rf 1 0 ((w64 ((a0.Steps.length : Int) + 1)).toNat)) (VV.rf 1 0 ((List.replicate (w64 ((a0.Steps.length : Int) + 1)).toNat (0 : Int)).length)) from (Wv.of_eq (by simp))) trivial) (an (show List.replicate (w64 ((a0.Steps.length : Int) + 1)).toNat (VV.c (.int .i64 0)) = List.map vi (List.replicate (w64 ((a0.Steps.length : Int) + 1)).toNat (0 : Int)) from replicate_vi _) trivial)) (VRun.loop hph2116))
 obtain ⟨r2159, h2158, h⟩ := bs h
 have hph2158 := nspeculumref03_Earliest_l2_0_ok k a0 r1952 r2117 _ _ _ h2158
 cases r2159 with
 | inl r2160 =>
  dsimp only at h
  have e2162 := (an (ti trivial) (VRun.loop hph2158))
  injection h with h; subst h
  exact fun_ok pm pn Go.Proofs.Try.func37 (r0 := VV.tu [VV.c (.slice none 0 0), vb false]) (ans := [.reg (nN 3 []), .reg (.n :: .call (VV.fr (List.flatMap c_SCoolBound r1952) r1952.length) :: .n :: []), .reg (nN 6 []), .reg (.n :: []), .sub ⟨[(1, none), (4, none), (5, some (VV.rf 1 0 ((List.replicate (w64 ((a0.Steps.length : Int) + 1)).toNat (0 : Int)).length))), (6, none)], [none, some (List.map vi (List.replicate (w64 ((a0.Steps.length : Int) + 1)).toNat (0 : Int)))], []⟩ (.exit 0) (nspeculumref03_Earliest_l0_0_e0 a0 r1952 r2117), .reg (.n :: []), .sub ⟨[(4, none), (5, none), (9, none)], [none, none], []⟩ .ret (nspeculumref03_Earliest_l2_0_e0 a0 r1952 r2117 r2160)]) (fr := true) (by kernel_rfl) (an (an (ti (ti (ti trivial))) (an (ti (an e1954 (ti trivial))) (an (ti (ti (ti (ti (an e1956 (ti trivial)))))) (an (an (ti trivial) e2118) (an (ti trivial) e2162))))) (ti (ti trivial))) (Wv.tuL (.cons Wv.nilFw (.cons (Wv.refl _) .nil)))
 | inr r2161 =>
  dsimp only at h
  have e2163 := (an (ti trivial) (VRun.loop hph2158))
  injection h with h; subst h
  exact fun_ok pm pn Go.Proofs.Try.func37 (r0 := VV.tu [VV.fw 1 (List.drop 0 (List.map unfr (List.map vi r2117))) r2117.length, vb true]) (ans := [.reg (nN 3 []), .reg (.n :: .call (VV.fr (List.flatMap c_SCoolBound r1952) r1952.length) :: .n :: []), .reg (nN 6 []), .reg (.n :: []), .sub ⟨[(1, none), (4, none), (5, some (VV.rf 1 0 ((List.replicate (w64 ((a0.Steps.length : Int) + 1)).toNat (0 : Int)).length))), (6, none)], [none, some (List.map vi (List.replicate (w64 ((a0.Steps.length : Int) + 1)).toNat (0 : Int)))], []⟩ (.exit 0) (nspeculumref03_Earliest_l0_0_e0 a0 r1952 r2117), .reg (.n :: []), .sub ⟨[(4, none), (5, none), (9, none)], [none, none], []⟩ (.exit 4) (nspeculumref03_Earliest_l2_0_e1 a0 r1952 r2117 r2161), .reg (nN 3 [])]) (fr := true) (by kernel_rfl) (an (an (ti (ti (ti trivial))) (an (ti (an e1954 (ti trivial))) (an (ti (ti (ti (ti (an e1956 (ti trivial)))))) (an (an (ti trivial) e2118) (an (an (ti trivial) e2163) (an (ti (ti (ti trivial))) trivial)))))) (an (show List.all (List.map vi r2117) new0 = true from (by exact new0_vi _)) (ti trivial))) (Wv.of_eq (eqA9_6 r2117))
def nspeculumbase_Ints_l0_0_h (a0 : (List Int)) (a1 : (List Int)) (x5 : Int) : VS := ⟨mkA [(0, VV.tr (List.map vi a0) a0.length), (1, VV.tr (List.map vi a1) a1.length), (5, vi x5)], [], .nil⟩
def nspeculumbase_Ints_l0_0_e0 (a0 : (List Int)) (a1 : (List Int)) (r : Unit) : VS := ⟨mkA [(4, vb false)], [], .nil⟩
def nspeculumbase_Ints_l0_0_e1 (a0 : (List Int)) (a1 : (List Int)) (r : Unit) : VS := ⟨mkA [], [], .nil⟩
def nspeculumbase_Ints_l0_0 (k : Nat) (a0 : (List Int)) (a1 : (List Int)) : Nat → Int → Option (Sum Unit Unit)
  | 0, _ => none
  | fuel + 1, x5 => if x5 < (a0.length : Int) then (if 0 ≤ x5 ∧ x5 < (a0.length : Int) then (if 0 ≤ x5 ∧ x5 < (a1.length : Int) then (if (a0.getD x5.toNat 0) = (a1.getD x5.toNat 0) then (nspeculumbase_Ints_l0_0 k a0 a1 fuel (w64 (x5 + 1))) else (some (.inl ()))) else none) else none) else (some (.inr ()))
theorem nspeculumbase_Ints_l0_0_ok (k : Nat) (a0 : (List Int)) (a1 : (List Int)) : ∀ (fuel : Nat) (x5 : Int) (r : Sum Unit Unit), nspeculumbase_Ints_l0_0 k a0 a1 fuel x5 = some r → (match r with | .inl r => VLoop none Go.Proofs.Try.prog (szF Go.Proofs.Try.f38) (bodyOf Go.Proofs.Try.f38 0) (nspeculumbase_Ints_l0_0_h a0 a1 x5) .ret (nspeculumbase_Ints_l0_0_e0 a0 a1 r) | .inr r => VLoop none Go.Proofs.Try.prog (szF Go.Proofs.Try.f38) (bodyOf Go.Proofs.Try.f38 0) (nspeculumbase_Ints_l0_0_h a0 a1 x5) (.exit 0) (nspeculumbase_Ints_l0_0_e1 a0 a1 r)) := by
 intro fuel
 induction fuel with
 | zero => intro x5 r h; rw [nspeculumbase_Ints_l0_0.eq_1] at h; cases h
 | succ fuel ih =>
  intro x5 r h
  rw [nspeculumbase_Ints_l0_0.eq_2] at h
  rcases ifs h with ⟨h2213, h⟩ | ⟨h2213, h⟩
  ·obtain ⟨h2214, h⟩ := ifn h
   have e2215 := (show loadL Go.Proofs.Try.prog 3 (x5.toNat * 1) (List.map vi a0) = some (vi (a0.getD x5.toNat 0)) from ld_map ag3 vi a0 0 h2214 (by omega))
   obtain ⟨h2216, h⟩ := ifn h
   have e2217 := (show loadL Go.Proofs.Try.prog 3 (x5.toNat * 1) (List.map vi a1) = some (vi (a1.getD x5.toNat 0)) from ld_map ag3 vi a1 0 h2216 (by omega))
   have e2218 := (ti (ti (an h2214 (an e2215 (ti (ti (an h2216 (an e2217 (ti trivial)))))))))
   rcases ifs h with ⟨h2219, h⟩ | ⟨h2219, h⟩
   ·have h2 := ih _ _ h
    obtain ⟨q, hv, hq⟩ := pkR (rd := none) (P := Go.Proofs.Try.prog) (fn := Go.Proofs.Try.f38) (k := 0) (s := (nspeculumbase_Ints_l0_0_h a0 a1 x5)) (ans := [.reg (nN 4 []), .br true, .reg (nN 3 (.v (vi (a0.getD x5.toNat 0)) :: nN 3 (.v (vi (a1.getD x5.toNat 0)) :: .n :: []))), .br false, .reg (nN 3 [])]) (c := ⟨[(0, none), (1, none), (5, none)], [], []⟩) (e := .normal) (s1 := (nspeculumbase_Ints_l0_0_h a0 a1 (w64 (x5 + 1)))) (an (an (an (ti (ti (ti (ti trivial)))) (an (decide_eq_true h2213) trivial)) (an (an e2218 (an (not_f (decide_eq_true h2219)) trivial)) (ti (ti (ti trivial))))) (ti trivial)) (by kernel_rfl)
    cases r with
    | inl r => exact round_next pm pn hv hq h2
    | inr r =>
     exact round_next pm pn hv hq h2
   ·injection h with h; subst h
    exact round_stop (c := ⟨[(4, none)], [], []⟩) (s1 := (nspeculumbase_Ints_l0_0_e0 a0 a1 ())) pm pn (ans := [.reg (nN 4 []), .br true, .reg (nN 3 (.v (vi (a0.getD x5.toNat 0)) :: nN 3 (.v (vi (a1.getD x5.toNat 0)) :: .n :: []))), .br true, .reg (.n :: [])]) (by kernel_rfl) (by intro e; cases e) (an (an (an (ti (ti (ti (ti trivial)))) (an (decide_eq_true h2213) trivial)) (an e2218 (an (not_t (decide_eq_false h2219)) (an (ti trivial) trivial)))) (ti trivial))
  ·injection h with h; subst h
   exact round_stop (c := ⟨[], [], []⟩) (s1 := (nspeculumbase_Ints_l0_0_e1 a0 a1 ())) pm pn (ans := [.reg (nN 4 []), .br false]) (by kernel_rfl) (by intro e; cases e) (an (an (ti (ti (ti (ti trivial)))) (an (decide_eq_false h2213) trivial)) (ti trivial))
def nspeculumbase_Ints (k : Nat) (a0 : (List Int)) (a1 : (List Int)) : Option Bool :=
  if (a0.length : Int) = (a1.length : Int) then ((nspeculumbase_Ints_l0_0 k a0 a1 k 0).bind fun r2221 => (match r2221 with | .inl r2222 => (some false) | .inr r2223 => (some true))) else (some false)
theorem nspeculumbase_Ints_ok (k : Nat) (a0 : (List Int)) (a1 : (List Int)) (r : Bool) (h : nspeculumbase_Ints k a0 a1 = some r) : VC Go.Proofs.Try.prog 38 [VV.tr (List.map vi a0) a0.length, VV.tr (List.map vi a1) a1.length] (vb r) := by
 unfold nspeculumbase_Ints at h
 rcases ifs h with ⟨h2198, h⟩ | ⟨h2198, h⟩
 ·obtain ⟨r2221, h2220, h⟩ := bs h
  have hph2220 := nspeculumbase_Ints_l0_0_ok k a0 a1 _ _ _ h2220
  cases r2221 with
  | inl r2222 =>
   dsimp only at h
   have e2224 := (an (ti trivial) (VRun.loop hph2220))
   injection h with h; subst h
   exact fun_ok pm pn Go.Proofs.Try.func38 (r0 := vb false) (ans := [.reg (.n :: []), .reg (nN 5 []), .br false, .reg (.n :: []), .sub ⟨[(0, none), (1, none), (5, none)], [], []⟩ .ret (nspeculumbase_Ints_l0_0_e0 a0 a1 r2222)]) (fr := true) (by kernel_rfl) (an (an (ti trivial) (an (an (ti (ti (ti (ti (ti trivial))))) (an (not_f (decide_eq_true h2198)) trivial)) (an (ti trivial) e2224))) (ti trivial)) (Wv.refl _)
  | inr r2223 =>
   dsimp only at h
   have e2225 := (an (ti trivial) (VRun.loop hph2220))
   injection h with h; subst h
   exact fun_ok pm pn Go.Proofs.Try.func38 (r0 := vb true) (ans := [.reg (.n :: []), .reg (nN 5 []), .br false, .reg (.n :: []), .sub ⟨[(0, none), (1, none), (5, none)], [], []⟩ (.exit 0) (nspeculumbase_Ints_l0_0_e1 a0 a1 r2223), .reg (.n :: [])]) (fr := true) (by kernel_rfl) (an (an (ti trivial) (an (an (ti (ti (ti (ti (ti trivial))))) (an (not_f (decide_eq_true h2198)) trivial)) (an (an (ti trivial) e2225) (an (ti trivial) trivial)))) (ti trivial)) (Wv.refl _)
 ·injection h with h; subst h
  exact fun_ok pm pn Go.Proofs.Try.func38 (r0 := vb false) (ans := [.reg (.n :: []), .reg (nN 5 []), .br true, .reg (.n :: [])]) (fr := true) (by kernel_rfl) (an (an (ti trivial) (an (ti (ti (ti (ti (ti trivial))))) (an (not_t (decide_eq_false h2198)) (an (ti trivial) trivial)))) (ti trivial)) (Wv.refl _)
def arA9_2 (z0 : (List Int)) (z1 : Int) (z2 : (List SCoolBound)) : List Ans := (nN 4 (.v (vi (z0.getD z1.toNat 0)) :: .n :: .v (VV.ag (c_SCoolBound (z2.getD (z0.getD z1.toNat 0).toNat default))) :: .n :: .n :: []))
def nspeculumref03_CheckCircle_l0_0_h (a1 : (List Int)) (r2308 : (List SCoolBound)) (x7 : Int) : VS := ⟨mkA [(1, VV.tr (List.map vi a1) a1.length), (6, VV.fr (List.flatMap c_SCoolBound r2308) r2308.length), (7, vi x7)], [], .nil⟩
def nspeculumref03_CheckCircle_l0_0_e0 (a1 : (List Int)) (r2308 : (List SCoolBound)) (r : Unit) : VS := ⟨mkA [(4, vi 0), (5, vi 6)], [], .nil⟩
def nspeculumref03_CheckCircle_l0_0_e1 (a1 : (List Int)) (r2308 : (List SCoolBound)) (r : Unit) : VS := ⟨mkA [(1, VV.tr (List.map vi a1) a1.length), (6, VV.fr (List.flatMap c_SCoolBound r2308) r2308.length)], [], .nil⟩
def nspeculumref03_CheckCircle_l0_0 (k : Nat) (a1 : (List Int)) (r2308 : (List SCoolBound)) : Nat → Int → Option (Sum Unit Unit)
  | 0, _ => none
  | fuel + 1, x7 => if x7 < (a1.length : Int) then (if 0 ≤ x7 ∧ x7 < (a1.length : Int) then ((nspeculumbase_Within k (a1.getD x7.toNat 0) 0 (w64 ((r2308.length : Int) - 1))).bind fun r2334 => (if r2334 = true then (nspeculumref03_CheckCircle_l0_0 k a1 r2308 fuel (w64 (x7 + 1))) else (some (.inl ())))) else none) else (some (.inr ()))
theorem nspeculumref03_CheckCircle_l0_0_ok (k : Nat) (a1 : (List Int)) (r2308 : (List SCoolBound)) : ∀ (fuel : Nat) (x7 : Int) (r : Sum Unit Unit), nspeculumref03_CheckCircle_l0_0 k a1 r2308 fuel x7 = some r → (match r with | .inl r => VLoop none Go.Proofs.Try.prog (szF Go.Proofs.Try.f39) (bodyOf Go.Proofs.Try.f39 0) (nspeculumref03_CheckCircle_l0_0_h a1 r2308 x7) .ret (nspeculumref03_CheckCircle_l0_0_e0 a1 r2308 r) | .inr r => VLoop none Go.Proofs.Try.prog (szF Go.Proofs.Try.f39) (bodyOf Go.Proofs.Try.f39 0) (nspeculumref03_CheckCircle_l0_0_h a1 r2308 x7) (.exit 0) (nspeculumref03_CheckCircle_l0_0_e1 a1 r2308 r)) := by
 intro fuel
 induction fuel with
 | zero => intro x7 r h; rw [nspeculumref03_CheckCircle_l0_0.eq_1] at h; cases h
 | succ fuel ih =>
  intro x7 r h
  rw [nspeculumref03_CheckCircle_l0_0.eq_2] at h
  rcases ifs h with ⟨h2331, h⟩ | ⟨h2331, h⟩
  ·obtain ⟨h2332, h⟩ := ifn h
   have e2333 := (show loadL Go.Proofs.Try.prog 3 (x7.toNat * 1) (List.map vi a1) = some (vi (a1.getD x7.toNat 0)) from ld_map ag3 vi a1 0 h2332 (by omega))
   obtain ⟨r2334, h2335, h⟩ := bs h
   have e2336 := (nspeculumbase_Within_ok k (a1.getD x7.toNat 0) 0 (w64 ((r2308.length : Int) - 1)) _ h2335)
   have e2337 := (ti (ti (an h2332 (an e2333 (ti (ti (ti (an e2336 (ti trivial)))))))))
   rcases ifs h with ⟨h2338, h⟩ | ⟨h2338, h⟩
   ·have h2 := ih _ _ h
    obtain ⟨q, hv, hq⟩ := pkR (rd := none) (P := Go.Proofs.Try.prog) (fn := Go.Proofs.Try.f39) (k := 0) (s := (nspeculumref03_CheckCircle_l0_0_h a1 r2308 x7)) (ans := [.reg (nN 4 []), .br true, .reg (nN 3 (.v (vi (a1.getD x7.toNat 0)) :: nN 3 (.call (vb r2334) :: .n :: []))), .br false, .reg (nN 3 [])]) (c := ⟨[(1, none), (6, none), (7, none)], [], []⟩) (e := .normal) (s1 := (nspeculumref03_CheckCircle_l0_0_h a1 r2308 (w64 (x7 + 1)))) (an (an (an (ti (ti (ti (ti trivial)))) (an (decide_eq_true h2331) trivial)) (an (an e2337 (an (not_f h2338) trivial)) (ti (ti (ti trivial))))) (ti trivial)) (by kernel_rfl)
    cases r with
    | inl r => exact round_next pm pn hv hq h2
    | inr r =>
     exact round_next pm pn hv hq h2
   ·injection h with h; subst h
    exact round_stop (c := ⟨[(4, none), (5, none)], [], []⟩) (s1 := (nspeculumref03_CheckCircle_l0_0_e0 a1 r2308 ())) pm pn (ans := [.reg (nN 4 []), .br true, .reg (nN 3 (.v (vi (a1.getD x7.toNat 0)) :: nN 3 (.call (vb r2334) :: .n :: []))), .br true, .reg (.n :: .n :: [])]) (by kernel_rfl) (by intro e; cases e) (an (an (an (ti (ti (ti (ti trivial)))) (an (decide_eq_true h2331) trivial)) (an e2337 (an (not_t (bool_f h2338)) (an (ti (ti trivial)) trivial)))) (ti trivial))
  ·injection h with h; subst h
   exact round_stop (c := ⟨[(1, none), (6, none)], [], []⟩) (s1 := (nspeculumref03_CheckCircle_l0_0_e1 a1 r2308 ())) pm pn (ans := [.reg (nN 4 []), .br false]) (by kernel_rfl) (by intro e; cases e) (an (an (ti (ti (ti (ti trivial)))) (an (decide_eq_false h2331) trivial)) (ti trivial))
def nspeculumref03_CheckCircle_l1_0_h (a1 : (List Int)) (r2308 : (List SCoolBound)) (x10 : Int) (x8 : Int) (x9 : Int) : VS := ⟨mkA [(1, VV.tr (List.map vi a1) a1.length), (6, VV.fr (List.flatMap c_SCoolBound r2308) r2308.length), (8, vi x8), (9, vi x9), (10, vi x10)], [], .nil⟩
def nspeculumref03_CheckCircle_l1_0_e0 (a1 : (List Int)) (r2308 : (List SCoolBound)) (r : Unit) : VS := ⟨mkA [(4, vi 0), (5, vi 25)], [], .nil⟩
def nspeculumref03_CheckCircle_l1_0_e1 (a1 : (List Int)) (r2308 : (List SCoolBound)) (r : Int) : VS := ⟨mkA [(8, vi r)], [], .nil⟩
def nspeculumref03_CheckCircle_l1_0 (k : Nat) (a1 : (List Int)) (r2308 : (List SCoolBound)) : Nat → Int → Int → Int → Option (Sum Unit Int)
  | 0, _, _, _ => none
  | fuel + 1, x10, x8, x9 => if x10 < (a1.length : Int) then (if 0 ≤ x10 ∧ x10 < (a1.length : Int) then (if 0 ≤ (a1.getD x10.toNat 0) ∧ (a1.getD x10.toNat 0) < (r2308.length : Int) then (if ((r2308.getD (a1.getD x10.toNat 0).toNat default).From) = x9 then (nspeculumref03_CheckCircle_l1_0 k a1 r2308 fuel (w64 (x10 + 1)) (w64 (x8 + ((r2308.getD (a1.getD x10.toNat 0).toNat default).Most))) ((r2308.getD (a1.getD x10.toNat 0).toNat default).To)) else (some (.inl ()))) else none) else none) else (some (.inr x8))
theorem nspeculumref03_CheckCircle_l1_0_ok (k : Nat) (a1 : (List Int)) (r2308 : (List SCoolBound)) : ∀ (fuel : Nat) (x10 : Int) (x8 : Int) (x9 : Int) (r : Sum Unit Int), nspeculumref03_CheckCircle_l1_0 k a1 r2308 fuel x10 x8 x9 = some r → (match r with | .inl r => VLoop none Go.Proofs.Try.prog (szF Go.Proofs.Try.f39) (bodyOf Go.Proofs.Try.f39 1) (nspeculumref03_CheckCircle_l1_0_h a1 r2308 x10 x8 x9) .ret (nspeculumref03_CheckCircle_l1_0_e0 a1 r2308 r) | .inr r => VLoop none Go.Proofs.Try.prog (szF Go.Proofs.Try.f39) (bodyOf Go.Proofs.Try.f39 1) (nspeculumref03_CheckCircle_l1_0_h a1 r2308 x10 x8 x9) (.exit 2) (nspeculumref03_CheckCircle_l1_0_e1 a1 r2308 r)) := by
 intro fuel
 induction fuel with
 | zero => intro x10 x8 x9 r h; rw [nspeculumref03_CheckCircle_l1_0.eq_1] at h; cases h
 | succ fuel ih =>
  intro x10 x8 x9 r h
  rw [nspeculumref03_CheckCircle_l1_0.eq_2] at h
  rcases ifs h with ⟨h2364, h⟩ | ⟨h2364, h⟩
  ·obtain ⟨h2365, h⟩ := ifn h
   have e2366 := (show loadL Go.Proofs.Try.prog 3 (x10.toNat * 1) (List.map vi a1) = some (vi (a1.getD x10.toNat 0)) from ld_map ag3 vi a1 0 h2365 (by omega))
   obtain ⟨h2367, h⟩ := ifn h
   have e2368 := (show loadL Go.Proofs.Try.prog 66 ((a1.getD x10.toNat 0).toNat * 3) (List.flatMap c_SCoolBound r2308) = some (VV.ag (c_SCoolBound (r2308.getD (a1.getD x10.toNat 0).toNat default))) from ld_whole ag66 c_SCoolBound 3 sz66 len_c_SCoolBound r2308 default h2367 (by omega))
   have e2369 := (ti (ti (ti (an h2365 (an e2366 (an h2367 (an e2368 (ti (ti trivial)))))))))
   rcases ifs h with ⟨h2370, h⟩ | ⟨h2370, h⟩
   ·have h2 := ih _ _ _ _ h
    obtain ⟨q, hv, hq⟩ := pkR (rd := none) (P := Go.Proofs.Try.prog) (fn := Go.Proofs.Try.f39) (k := 1) (s := (nspeculumref03_CheckCircle_l1_0_h a1 r2308 x10 x8 x9)) (ans := [.reg (nN 4 []), .br true, .reg (arA9_2 a1 x10 r2308), .reg (nN 4 []), .br false, .reg (nN 8 []), .reg (nN 3 [])]) (c := ⟨[(1, none), (6, none), (8, none), (9, none), (10, none)], [], []⟩) (e := .normal) (s1 := (nspeculumref03_CheckCircle_l1_0_h a1 r2308 (w64 (x10 + 1)) (w64 (x8 + ((r2308.getD (a1.getD x10.toNat 0).toNat default).Most))) ((r2308.getD (a1.getD x10.toNat 0).toNat default).To))) (an (an (an (ti (ti (ti (ti trivial)))) (an (decide_eq_true h2364) trivial)) (an (an e2369 (an (an (ti (ti (ti (ti trivial)))) (an (not_f (decide_eq_true h2370)) trivial)) (ti (ti (ti (ti (ti (ti (ti (ti trivial)))))))))) (ti (ti (ti trivial))))) (ti trivial)) (by kernel_rfl)
    cases r with
    | inl r => exact round_next pm pn hv hq h2
    | inr r =>
     exact round_next pm pn hv hq h2
   ·injection h with h; subst h
    exact round_stop (c := ⟨[(4, none), (5, none)], [], []⟩) (s1 := (nspeculumref03_CheckCircle_l1_0_e0 a1 r2308 ())) pm pn (ans := [.reg (nN 4 []), .br true, .reg (arA9_2 a1 x10 r2308), .reg (nN 4 []), .br true, .reg (.n :: .n :: [])]) (by kernel_rfl) (by intro e; cases e) (an (an (an (ti (ti (ti (ti trivial)))) (an (decide_eq_true h2364) trivial)) (an e2369 (an (ti (ti (ti (ti trivial)))) (an (not_t (decide_eq_false h2370)) (an (ti (ti trivial)) trivial))))) (ti trivial))
  ·injection h with h; subst h
   exact round_stop (c := ⟨[(8, none)], [], []⟩) (s1 := (nspeculumref03_CheckCircle_l1_0_e1 a1 r2308 x8)) pm pn (ans := [.reg (nN 4 []), .br false]) (by kernel_rfl) (by intro e; cases e) (an (an (ti (ti (ti (ti trivial)))) (an (decide_eq_false h2364) trivial)) (ti trivial))
def arA9_3 (z0 : (List Int)) (z1 : (List SCoolBound)) : List Ans := (nN 6 (.v (vi (z0.getD (w64 ((z0.length : Int) - 1)).toNat 0)) :: .n :: .n :: .v (vi ((z1.getD (z0.getD (w64 ((z0.length : Int) - 1)).toNat 0).toNat default).To)) :: .n :: .n :: []))
def nspeculumref03_CheckCircle (k : Nat) (a0 : SAnnealing) (a1 : (List Int)) : Option (Int × Int) :=
  (nspeculumref03_System k a0).bind fun r2308 => ((nspeculumbase_Within k (a1.length : Int) 1 200).bind fun r2311 => (if r2311 = true then ((nspeculumref03_CheckCircle_l0_0 k a1 r2308 k 0).bind fun r2340 => (match r2340 with | .inl r2341 => (some (0, 6)) | .inr r2342 => (if 0 ≤ w64 ((a1.length : Int) - 1) ∧ w64 ((a1.length : Int) - 1) < (a1.length : Int) then (if 0 ≤ (a1.getD (w64 ((a1.length : Int) - 1)).toNat 0) ∧ (a1.getD (w64 ((a1.length : Int) - 1)).toNat 0) < (r2308.length : Int) then ((nspeculumref03_CheckCircle_l1_0 k a1 r2308 k 0 0 ((r2308.getD (a1.getD (w64 ((a1.length : Int) - 1)).toNat 0).toNat default).To)).bind fun r2372 => (match r2372 with | .inl r2373 => (some (0, 25)) | .inr r2374 => (if 0 ≤ r2374 then (some (0, 22)) else (some (r2374, 0))))) else none) else none))) else (some (0, 10))))
theorem nspeculumref03_CheckCircle_ok (k : Nat) (a0 : SAnnealing) (a1 : (List Int)) (r : (Int × Int)) (h : nspeculumref03_CheckCircle k a0 a1 = some r) : VC Go.Proofs.Try.prog 39 [VV.ag (c_SAnnealing a0), VV.tr (List.map vi a1) a1.length] (VV.tu [vi r.1, vi r.2]) := by
 unfold nspeculumref03_CheckCircle at h
 obtain ⟨r2308, h2309, h⟩ := bs h
 have e2310 := (show VC Go.Proofs.Try.prog 35 [VV.ag (c_SAnnealing a0)] (VV.fr (List.flatMap c_SCoolBound r2308) r2308.length) from (VC.weak (nspeculumref03_System_ok k a0 _ h2309) (Wv.fw rfl rfl)))
 obtain ⟨r2311, h2312, h⟩ := bs h
 have e2313 := (nspeculumbase_Within_ok k (a1.length : Int) 1 200 _ h2312)
 rcases ifs h with ⟨h2314, h⟩ | ⟨h2314, h⟩
 ·obtain ⟨r2340, h2339, h⟩ := bs h
  have hph2339 := nspeculumref03_CheckCircle_l0_0_ok k a1 r2308 _ _ _ h2339
  cases r2340 with
  | inl r2341 =>
   dsimp only at h
   have e2343 := (an (ti trivial) (VRun.loop hph2339))
   injection h with h; subst h
   exact fun_ok pm pn Go.Proofs.Try.func39 (r0 := VV.tu [vi 0, vi 6]) (ans := [.reg (nN 3 []), .reg (.n :: .call (VV.fr (List.flatMap c_SCoolBound r2308) r2308.length) :: .n :: []), .reg (.n :: .n :: .call (vb r2311) :: .n :: []), .br false, .reg (.n :: []), .sub ⟨[(1, none), (6, none), (7, none)], [], []⟩ .ret (nspeculumref03_CheckCircle_l0_0_e0 a1 r2308 r2341)]) (fr := true) (by kernel_rfl) (an (an (ti (ti (ti trivial))) (an (ti (an e2310 (ti trivial))) (an (an (ti (ti (an e2313 (ti trivial)))) (an (not_f h2314) trivial)) (an (ti trivial) e2343)))) (ti (ti trivial))) (Wv.refl _)
  | inr r2342 =>
   dsimp only at h
   have e2344 := (an (ti trivial) (VRun.loop hph2339))
   obtain ⟨h2345, h⟩ := ifn h
   have e2346 := (show loadL Go.Proofs.Try.prog 3 ((w64 ((a1.length : Int) - 1)).toNat * 1) (List.map vi a1) = some (vi (a1.getD (w64 ((a1.length : Int) - 1)).toNat 0)) from ld_map ag3 vi a1 0 h2345 (by omega))
   obtain ⟨h2347, h⟩ := ifn h
   have e2348 := (show loadL Go.Proofs.Try.prog 3 ((a1.getD (w64 ((a1.length : Int) - 1)).toNat 0).toNat * 3 + 1) (List.flatMap c_SCoolBound r2308) = some (vi ((r2308.getD (a1.getD (w64 ((a1.length : Int) - 1)).toNat 0).toNat default).To)) from (ld_flat ag3 c_SCoolBound 3 1 len_c_SCoolBound (by omega) r2308 default h2347 (by omega)).trans rfl)
   have e2349 := (ti (ti (ti (ti (ti (an h2345 (an e2346 (an h2347 (ti (an e2348 (ti (ti trivial))))))))))))
   obtain ⟨r2372, h2371, h⟩ := bs h
   have hph2371 := nspeculumref03_CheckCircle_l1_0_ok k a1 r2308 _ _ _ _ _ h2371
   cases r2372 with
   | inl r2373 =>
    dsimp only at h
    have e2375 := (an (ti trivial) (VRun.loop hph2371))
    injection h with h; subst h
    exact fun_ok pm pn Go.Proofs.Try.func39 (r0 := VV.tu [vi 0, vi 25]) (ans := [.reg (nN 3 []), .reg (.n :: .call (VV.fr (List.flatMap c_SCoolBound r2308) r2308.length) :: .n :: []), .reg (.n :: .n :: .call (vb r2311) :: .n :: []), .br false, .reg (.n :: []), .sub ⟨[(1, none), (6, none), (7, none)], [], []⟩ (.exit 0) (nspeculumref03_CheckCircle_l0_0_e1 a1 r2308 r2342), .reg (arA9_3 a1 r2308), .reg (.n :: []), .sub ⟨[(1, none), (6, none), (8, none), (9, none), (10, none)], [], []⟩ .ret (nspeculumref03_CheckCircle_l1_0_e0 a1 r2308 r2373)]) (fr := true) (by kernel_rfl) (an (an (ti (ti (ti trivial))) (an (ti (an e2310 (ti trivial))) (an (an (ti (ti (an e2313 (ti trivial)))) (an (not_f h2314) trivial)) (an (an (ti trivial) e2344) (an e2349 (an (ti trivial) e2375)))))) (ti (ti trivial))) (Wv.refl _)
   | inr r2374 =>
    dsimp only at h
    have e2376 := (an (ti trivial) (VRun.loop hph2371))
    rcases ifs h with ⟨h2377, h⟩ | ⟨h2377, h⟩
    ·injection h with h; subst h
     exact fun_ok pm pn Go.Proofs.Try.func39 (r0 := VV.tu [vi 0, vi 22]) (ans := [.reg (nN 3 []), .reg (.n :: .call (VV.fr (List.flatMap c_SCoolBound r2308) r2308.length) :: .n :: []), .reg (.n :: .n :: .call (vb r2311) :: .n :: []), .br false, .reg (.n :: []), .sub ⟨[(1, none), (6, none), (7, none)], [], []⟩ (.exit 0) (nspeculumref03_CheckCircle_l0_0_e1 a1 r2308 r2342), .reg (arA9_3 a1 r2308), .reg (.n :: []), .sub ⟨[(1, none), (6, none), (8, none), (9, none), (10, none)], [], []⟩ (.exit 2) (nspeculumref03_CheckCircle_l1_0_e1 a1 r2308 r2374), .reg (.n :: .n :: []), .br true, .reg (.n :: .n :: [])]) (fr := true) (by kernel_rfl) (an (an (ti (ti (ti trivial))) (an (ti (an e2310 (ti trivial))) (an (an (ti (ti (an e2313 (ti trivial)))) (an (not_f h2314) trivial)) (an (an (ti trivial) e2344) (an e2349 (an (an (ti trivial) e2376) (an (ti (ti trivial)) (an (decide_eq_true h2377) (an (ti (ti trivial)) trivial))))))))) (ti (ti trivial))) (Wv.refl _)
    ·injection h with h; subst h
     exact fun_ok pm pn Go.Proofs.Try.func39 (r0 := VV.tu [vi r2374, vi 0]) (ans := [.reg (nN 3 []), .reg (.n :: .call (VV.fr (List.flatMap c_SCoolBound r2308) r2308.length) :: .n :: []), .reg (.n :: .n :: .call (vb r2311) :: .n :: []), .br false, .reg (.n :: []), .sub ⟨[(1, none), (6, none), (7, none)], [], []⟩ (.exit 0) (nspeculumref03_CheckCircle_l0_0_e1 a1 r2308 r2342), .reg (arA9_3 a1 r2308), .reg (.n :: []), .sub ⟨[(1, none), (6, none), (8, none), (9, none), (10, none)], [], []⟩ (.exit 2) (nspeculumref03_CheckCircle_l1_0_e1 a1 r2308 r2374), .reg (.n :: .n :: []), .br false, .reg (nN 3 [])]) (fr := true) (by kernel_rfl) (an (an (ti (ti (ti trivial))) (an (ti (an e2310 (ti trivial))) (an (an (ti (ti (an e2313 (ti trivial)))) (an (not_f h2314) trivial)) (an (an (ti trivial) e2344) (an e2349 (an (an (ti trivial) e2376) (an (an (ti (ti trivial)) (an (decide_eq_false h2377) trivial)) (an (ti (ti (ti trivial))) trivial)))))))) (ti (ti trivial))) (Wv.refl _)
 ·injection h with h; subst h
  exact fun_ok pm pn Go.Proofs.Try.func39 (r0 := VV.tu [vi 0, vi 10]) (ans := [.reg (nN 3 []), .reg (.n :: .call (VV.fr (List.flatMap c_SCoolBound r2308) r2308.length) :: .n :: []), .reg (.n :: .n :: .call (vb r2311) :: .n :: []), .br true, .reg (.n :: .n :: [])]) (fr := true) (by kernel_rfl) (an (an (ti (ti (ti trivial))) (an (ti (an e2310 (ti trivial))) (an (ti (ti (an e2313 (ti trivial)))) (an (not_t (bool_f h2314)) (an (ti (ti trivial)) trivial))))) (ti (ti trivial))) (Wv.refl _)
def nspeculumbase_CopyInts (k : Nat) (a0 : (List Int)) : Option (List Int) :=
  if ([] : List Int).length + a0.length ≤ 1000000000 then (some (([] : List Int) ++ a0)) else none
theorem nspeculumbase_CopyInts_ok (k : Nat) (a0 : (List Int)) (r : (List Int)) (h : nspeculumbase_CopyInts k a0 = some r) : VC Go.Proofs.Try.prog 41 [VV.tr (List.map vi a0) a0.length] (VV.fw 1 (List.map vi r) r.length) := by
 unfold nspeculumbase_CopyInts at h
 obtain ⟨h2386, h⟩ := ifn h
 have e2387 := (show List.length [] = 0 * 1 ∧ List.length (List.map vi a0) = a0.length * 1 ∧ (0 + a0.length) * 8 ≤ 140737488355328 ∧ 0 + a0.length < 1099511627776 ∧ List.all (List.map vi a0) VV.still = true from ⟨(by rw [show [] = List.map vi ([] : List Int) from rfl]; simp), (by simp), (by first | omega | (simp at h2386 ⊢; omega)), (by first | omega | (simp at h2386 ⊢; omega)), (by exact still_vi _)⟩)
 injection h with h; subst h
 exact fun_ok pm pn Go.Proofs.Try.func41 (r0 := VV.fw 1 (List.drop 0 (List.map unfr ([] ++ (List.map vi a0)))) (0 + a0.length)) (ans := [.reg (.n :: []), .reg (nN 4 [])]) (fr := true) (by kernel_rfl) (an (an (ti trivial) (an (ti (ti (an e2387 (ti trivial)))) trivial)) (an (show List.all ([] ++ (List.map vi a0)) new0 = true from (by rw [show [] ++ (List.map vi a0) = List.map vi (([] : List Int) ++ a0) from (by rw [show [] = List.map vi ([] : List Int) from rfl]; exact List.map_append.symm)]; exact new0_vi _)) trivial)) (Wv.of_eq (by simp only [show [] ++ (List.map vi a0) = List.map vi (([] : List Int) ++ a0) from (by rw [show [] = List.map vi ([] : List Int) from rfl]; exact List.map_append.symm), drop0, unfr_vi, unfr_vb, unfr_vs, List.map_cons, List.map_nil, un_i, un_k, un_b, un_s, un_tr, un_fr, List.length_map, List.length_replicate, List.length_append, List.length_set, List.length_cons, List.length_nil, unfr_c_SAnnealing, unfr_g_SAnnealing, unfr_c_SCoolStep, unfr_c_SCoolWindow, unfr_c_SRange, unfr_c_SCoolBound, unfr_c_Sschedule, unfr_g_Sschedule]))
def arA9_4 (z0 : ((List SCoolBound) × Int)) (z1 : (List Int)) (z2 : Int) : List Ans := (nN 4 (.v (vi ((z0.1.getD (z1.getD z2.toNat 0).toNat default).From)) :: .n :: .n :: []))
def arA9_5 (z0 : ((List SCoolBound) × Int)) (z1 : (List Int)) (z2 : Int) : List Ans := (nN 5 (.v (vi ((z0.1.getD (z1.getD z2.toNat 0).toNat default).Most)) :: nN 5 (.v (vi ((z0.1.getD (z1.getD z2.toNat 0).toNat default).To)) :: .n :: .n :: [])))
def nblank_CheckCircle_l0_0_h (a1 : (List Int)) (r2468 : ((List SCoolBound) × Int)) (x28 : Int) : VS := ⟨mkA [(1, VV.tr (List.map vi a1) a1.length), (6, VV.fr (List.flatMap c_SCoolBound r2468.1) r2468.1.length), (26, VV.tr (List.map vi a1) a1.length), (27, vi (a1.length : Int)), (28, vi x28)], [], .nil⟩
def nblank_CheckCircle_l0_0_e0 (a1 : (List Int)) (r2468 : ((List SCoolBound) × Int)) (r : Unit) : VS := ⟨mkA [(4, vi 0), (5, vi 6)], [], .nil⟩
def nblank_CheckCircle_l0_0_e1 (a1 : (List Int)) (r2468 : ((List SCoolBound) × Int)) (r : Unit) : VS := ⟨mkA [(1, VV.tr (List.map vi a1) a1.length), (6, VV.fr (List.flatMap c_SCoolBound r2468.1) r2468.1.length)], [], .nil⟩
def nblank_CheckCircle_l0_0 (k : Nat) (a1 : (List Int)) (r2468 : ((List SCoolBound) × Int)) : Nat → Int → Option (Sum Unit Unit)
  | 0, _ => none
  | fuel + 1, x28 => if x28 < (a1.length : Int) then (if 0 ≤ x28 ∧ x28 < (a1.length : Int) then ((nblank_isWithin k (a1.getD x28.toNat 0) 0 (w64 ((r2468.1.length : Int) - 1))).bind fun r2493 => (if r2493 = true then (nblank_CheckCircle_l0_0 k a1 r2468 fuel (w64 (x28 + 1))) else (some (.inl ())))) else none) else (some (.inr ()))
theorem nblank_CheckCircle_l0_0_ok (k : Nat) (a1 : (List Int)) (r2468 : ((List SCoolBound) × Int)) : ∀ (fuel : Nat) (x28 : Int) (r : Sum Unit Unit), nblank_CheckCircle_l0_0 k a1 r2468 fuel x28 = some r → (match r with | .inl r => VLoop none Go.Proofs.Try.prog (szF Go.Proofs.Try.f40) (bodyOf Go.Proofs.Try.f40 0) (nblank_CheckCircle_l0_0_h a1 r2468 x28) .ret (nblank_CheckCircle_l0_0_e0 a1 r2468 r) | .inr r => VLoop none Go.Proofs.Try.prog (szF Go.Proofs.Try.f40) (bodyOf Go.Proofs.Try.f40 0) (nblank_CheckCircle_l0_0_h a1 r2468 x28) (.exit 0) (nblank_CheckCircle_l0_0_e1 a1 r2468 r)) := by
 intro fuel
 induction fuel with
 | zero => intro x28 r h; rw [nblank_CheckCircle_l0_0.eq_1] at h; cases h
 | succ fuel ih =>
  intro x28 r h
  rw [nblank_CheckCircle_l0_0.eq_2] at h
  rcases ifs h with ⟨h2490, h⟩ | ⟨h2490, h⟩
  ·obtain ⟨h2491, h⟩ := ifn h
   have e2492 := (show loadL Go.Proofs.Try.prog 3 (x28.toNat * 1) (List.map vi a1) = some (vi (a1.getD x28.toNat 0)) from ld_map ag3 vi a1 0 h2491 (by omega))
   obtain ⟨r2493, h2494, h⟩ := bs h
   have e2495 := (nblank_isWithin_ok k (a1.getD x28.toNat 0) 0 (w64 ((r2468.1.length : Int) - 1)) _ h2494)
   rcases ifs h with ⟨h2496, h⟩ | ⟨h2496, h⟩
   ·have h2 := ih _ _ h
    obtain ⟨q, hv, hq⟩ := pkR (rd := none) (P := Go.Proofs.Try.prog) (fn := Go.Proofs.Try.f40) (k := 0) (s := (nblank_CheckCircle_l0_0_h a1 r2468 x28)) (ans := [.reg (.n :: []), .br true, .reg (.n :: .v (vi (a1.getD x28.toNat 0)) :: .n :: []), .reg (nN 4 (.call (vb r2493) :: .n :: [])), .br false, .reg (.n :: .n :: [])]) (c := ⟨[(1, none), (6, none), (26, none), (27, none), (28, none)], [], []⟩) (e := .normal) (s1 := (nblank_CheckCircle_l0_0_h a1 r2468 (w64 (x28 + 1)))) (an (an (ti trivial) (an (an (decide_eq_true h2490) trivial) (an (an (an h2491 (an e2492 (ti trivial))) (an (ti (ti (ti (ti (an e2495 (ti trivial)))))) (an (not_f h2496) trivial))) (ti (ti trivial))))) (ti trivial)) (by kernel_rfl)
    cases r with
    | inl r => exact round_next pm pn hv hq h2
    | inr r =>
     exact round_next pm pn hv hq h2
   ·injection h with h; subst h
    exact round_stop (c := ⟨[(4, none), (5, none)], [], []⟩) (s1 := (nblank_CheckCircle_l0_0_e0 a1 r2468 ())) pm pn (ans := [.reg (.n :: []), .br true, .reg (.n :: .v (vi (a1.getD x28.toNat 0)) :: .n :: []), .reg (nN 4 (.call (vb r2493) :: .n :: [])), .br true, .reg (.n :: .n :: [])]) (by kernel_rfl) (by intro e; cases e) (an (an (ti trivial) (an (an (decide_eq_true h2490) trivial) (an (an h2491 (an e2492 (ti trivial))) (an (ti (ti (ti (ti (an e2495 (ti trivial)))))) (an (not_t (bool_f h2496)) (an (ti (ti trivial)) trivial)))))) (ti trivial))
  ·injection h with h; subst h
   exact round_stop (c := ⟨[(1, none), (6, none)], [], []⟩) (s1 := (nblank_CheckCircle_l0_0_e1 a1 r2468 ())) pm pn (ans := [.reg (.n :: []), .br false]) (by kernel_rfl) (by intro e; cases e) (an (an (ti trivial) (an (decide_eq_false h2490) trivial)) (ti trivial))
def arA9_6 (z0 : ((List SCoolBound) × Int)) : List Ans := (.n :: .call (VV.tu [VV.fr (List.flatMap c_SCoolBound z0.1) z0.1.length, vi z0.2]) :: nN 5 [])
def nblank_CheckCircle_l1_0_h (a1 : (List Int)) (r2468 : ((List SCoolBound) × Int)) (x10 : Int) (x11 : Int) (x51 : Int) : VS := ⟨mkA [(6, VV.fr (List.flatMap c_SCoolBound r2468.1) r2468.1.length), (10, vi x10), (11, vi x11), (49, VV.tr (List.map vi a1) a1.length), (50, vi (a1.length : Int)), (51, vi x51)], [], .nil⟩
def nblank_CheckCircle_l1_0_e0 (a1 : (List Int)) (r2468 : ((List SCoolBound) × Int)) (r : Unit) : VS := ⟨mkA [(4, vi 0), (5, vi 25)], [], .nil⟩
def nblank_CheckCircle_l1_0_e1 (a1 : (List Int)) (r2468 : ((List SCoolBound) × Int)) (r : Int) : VS := ⟨mkA [(10, vi r)], [], .nil⟩
def nblank_CheckCircle_l1_0 (k : Nat) (a1 : (List Int)) (r2468 : ((List SCoolBound) × Int)) : Nat → Int → Int → Int → Option (Sum Unit Int)
  | 0, _, _, _ => none
  | fuel + 1, x10, x11, x51 => if x51 < (a1.length : Int) then (if 0 ≤ x51 ∧ x51 < (a1.length : Int) then (if 0 ≤ (a1.getD x51.toNat 0) ∧ (a1.getD x51.toNat 0) < (r2468.1.length : Int) then (if ((r2468.1.getD (a1.getD x51.toNat 0).toNat default).From) = x11 then (nblank_CheckCircle_l1_0 k a1 r2468 fuel (w64 (x10 + ((r2468.1.getD (a1.getD x51.toNat 0).toNat default).Most))) ((r2468.1.getD (a1.getD x51.toNat 0).toNat default).To) (w64 (x51 + 1))) else (some (.inl ()))) else none) else none) else (some (.inr x10))
theorem nblank_CheckCircle_l1_0_ok (k : Nat) (a1 : (List Int)) (r2468 : ((List SCoolBound) × Int)) : ∀ (fuel : Nat) (x10 : Int) (x11 : Int) (x51 : Int) (r : Sum Unit Int), nblank_CheckCircle_l1_0 k a1 r2468 fuel x10 x11 x51 = some r → (match r with | .inl r => VLoop none Go.Proofs.Try.prog (szF Go.Proofs.Try.f40) (bodyOf Go.Proofs.Try.f40 1) (nblank_CheckCircle_l1_0_h a1 r2468 x10 x11 x51) .ret (nblank_CheckCircle_l1_0_e0 a1 r2468 r) | .inr r => VLoop none Go.Proofs.Try.prog (szF Go.Proofs.Try.f40) (bodyOf Go.Proofs.Try.f40 1) (nblank_CheckCircle_l1_0_h a1 r2468 x10 x11 x51) (.exit 2) (nblank_CheckCircle_l1_0_e1 a1 r2468 r)) := by
 intro fuel
 induction fuel with
 | zero => intro x10 x11 x51 r h; rw [nblank_CheckCircle_l1_0.eq_1] at h; cases h
 | succ fuel ih =>
  intro x10 x11 x51 r h
  rw [nblank_CheckCircle_l1_0.eq_2] at h
  rcases ifs h with ⟨h2528, h⟩ | ⟨h2528, h⟩
  ·obtain ⟨h2529, h⟩ := ifn h
   have e2530 := (show loadL Go.Proofs.Try.prog 3 (x51.toNat * 1) (List.map vi a1) = some (vi (a1.getD x51.toNat 0)) from ld_map ag3 vi a1 0 h2529 (by omega))
   obtain ⟨h2531, h⟩ := ifn h
   have e2532 := (show loadL Go.Proofs.Try.prog 3 ((a1.getD x51.toNat 0).toNat * 3 + 0) (List.flatMap c_SCoolBound r2468.1) = some (vi ((r2468.1.getD (a1.getD x51.toNat 0).toNat default).From)) from (ld_flat ag3 c_SCoolBound 3 0 len_c_SCoolBound (by omega) r2468.1 default h2531 (by omega)).trans rfl)
   have e2533 := (ti (ti (an h2531 (ti (an e2532 (ti (ti trivial)))))))
   rcases ifs h with ⟨h2534, h⟩ | ⟨h2534, h⟩
   ·have e2535 := (show loadL Go.Proofs.Try.prog 3 ((a1.getD x51.toNat 0).toNat * 3 + 2) (List.flatMap c_SCoolBound r2468.1) = some (vi ((r2468.1.getD (a1.getD x51.toNat 0).toNat default).Most)) from (ld_flat ag3 c_SCoolBound 3 2 len_c_SCoolBound (by omega) r2468.1 default h2531 (by omega)).trans rfl)
    have e2536 := (show loadL Go.Proofs.Try.prog 3 ((a1.getD x51.toNat 0).toNat * 3 + 1) (List.flatMap c_SCoolBound r2468.1) = some (vi ((r2468.1.getD (a1.getD x51.toNat 0).toNat default).To)) from (ld_flat ag3 c_SCoolBound 3 1 len_c_SCoolBound (by omega) r2468.1 default h2531 (by omega)).trans rfl)
    have e2537 := (ti (ti (ti (an h2531 (ti (an e2535 (ti (ti (ti (an h2531 (ti (an e2536 (ti (ti trivial))))))))))))))
    have h2 := ih _ _ _ _ h
    obtain ⟨q, hv, hq⟩ := pkR (rd := none) (P := Go.Proofs.Try.prog) (fn := Go.Proofs.Try.f40) (k := 1) (s := (nblank_CheckCircle_l1_0_h a1 r2468 x10 x11 x51)) (ans := [.reg (.n :: []), .br true, .reg (.n :: .v (vi (a1.getD x51.toNat 0)) :: .n :: []), .reg (arA9_4 r2468 a1 x51), .br false, .reg (arA9_5 r2468 a1 x51), .reg (.n :: .n :: [])]) (c := ⟨[(6, none), (10, none), (11, none), (49, none), (50, none), (51, none)], [], []⟩) (e := .normal) (s1 := (nblank_CheckCircle_l1_0_h a1 r2468 (w64 (x10 + ((r2468.1.getD (a1.getD x51.toNat 0).toNat default).Most))) ((r2468.1.getD (a1.getD x51.toNat 0).toNat default).To) (w64 (x51 + 1)))) (an (an (ti trivial) (an (an (decide_eq_true h2528) trivial) (an (an (an h2529 (an e2530 (ti trivial))) (an (an e2533 (an (not_f (decide_eq_true h2534)) trivial)) e2537)) (ti (ti trivial))))) (ti trivial)) (by kernel_rfl)
    cases r with
    | inl r => exact round_next pm pn hv hq h2
    | inr r =>
     exact round_next pm pn hv hq h2
   ·injection h with h; subst h
    exact round_stop (c := ⟨[(4, none), (5, none)], [], []⟩) (s1 := (nblank_CheckCircle_l1_0_e0 a1 r2468 ())) pm pn (ans := [.reg (.n :: []), .br true, .reg (.n :: .v (vi (a1.getD x51.toNat 0)) :: .n :: []), .reg (arA9_4 r2468 a1 x51), .br true, .reg (.n :: .n :: [])]) (by kernel_rfl) (by intro e; cases e) (an (an (ti trivial) (an (an (decide_eq_true h2528) trivial) (an (an h2529 (an e2530 (ti trivial))) (an e2533 (an (not_t (decide_eq_false h2534)) (an (ti (ti trivial)) trivial)))))) (ti trivial))
  ·injection h with h; subst h
   exact round_stop (c := ⟨[(10, none)], [], []⟩) (s1 := (nblank_CheckCircle_l1_0_e1 a1 r2468 x10)) pm pn (ans := [.reg (.n :: []), .br false]) (by kernel_rfl) (by intro e; cases e) (an (an (ti trivial) (an (decide_eq_false h2528) trivial)) (ti trivial))
def arA9_7 (z0 : (List Int)) (z1 : ((List SCoolBound) × Int)) : List Ans := (nN 6 (.v (vi (z0.getD (w64 ((z0.length : Int) - 1)).toNat 0)) :: .n :: .n :: .v (vi ((z1.1.getD (z0.getD (w64 ((z0.length : Int) - 1)).toNat 0).toNat default).To)) :: .n :: .n :: []))
def nblank_CheckCircle (k : Nat) (a0 : SAnnealing) (a1 : (List Int)) : Option (Int × Int) :=
  (nblank_CoolSystem k a0).bind fun r2468 => (if r2468.2 = 0 then ((nblank_isWithin k (a1.length : Int) 1 200).bind fun r2472 => (if r2472 = true then ((nblank_CheckCircle_l0_0 k a1 r2468 k 0).bind fun r2498 => (match r2498 with | .inl r2499 => (some (0, 6)) | .inr r2500 => (if 0 ≤ w64 ((a1.length : Int) - 1) ∧ w64 ((a1.length : Int) - 1) < (a1.length : Int) then (if 0 ≤ (a1.getD (w64 ((a1.length : Int) - 1)).toNat 0) ∧ (a1.getD (w64 ((a1.length : Int) - 1)).toNat 0) < (r2468.1.length : Int) then ((nblank_CheckCircle_l1_0 k a1 r2468 k 0 ((r2468.1.getD (a1.getD (w64 ((a1.length : Int) - 1)).toNat 0).toNat default).To) 0).bind fun r2539 => (match r2539 with | .inl r2540 => (some (0, 25)) | .inr r2541 => (if 0 ≤ r2541 then (some (0, 22)) else (some (r2541, 0))))) else none) else none))) else (some (0, 10)))) else (some (0, r2468.2)))
theorem nblank_CheckCircle_ok (k : Nat) (a0 : SAnnealing) (a1 : (List Int)) (r : (Int × Int)) (h : nblank_CheckCircle k a0 a1 = some r) : VC Go.Proofs.Try.prog 40 [VV.ag (c_SAnnealing a0), VV.tr (List.map vi a1) a1.length] (VV.tu [vi r.1, vi r.2]) := by
 unfold nblank_CheckCircle at h
 obtain ⟨r2468, h2469, h⟩ := bs h
 have e2470 := (show VC Go.Proofs.Try.prog 34 [VV.ag (c_SAnnealing a0)] (VV.tu [VV.fr (List.flatMap c_SCoolBound r2468.1) r2468.1.length, vi r2468.2]) from (VC.weak (nblank_CoolSystem_ok k a0 _ h2469) (Wv.tuL (.cons (Wv.fw rfl rfl) (.cons (Wv.refl _) .nil)))))
 rcases ifs h with ⟨h2471, h⟩ | ⟨h2471, h⟩
 ·obtain ⟨r2472, h2473, h⟩ := bs h
  have e2474 := (nblank_isWithin_ok k (a1.length : Int) 1 200 _ h2473)
  rcases ifs h with ⟨h2475, h⟩ | ⟨h2475, h⟩
  ·obtain ⟨r2498, h2497, h⟩ := bs h
   have hph2497 := nblank_CheckCircle_l0_0_ok k a1 r2468 _ _ _ h2497
   cases r2498 with
   | inl r2499 =>
    dsimp only at h
    have e2501 := (an (ti trivial) (VRun.loop hph2497))
    injection h with h; subst h
    exact fun_ok pm pn Go.Proofs.Try.func40 (r0 := VV.tu [vi 0, vi 6]) (ans := [.reg (nN 3 []), .reg (arA9_6 r2468), .reg (.n :: .n :: []), .br false, .reg (.n :: .n :: .call (vb r2472) :: .n :: []), .br false, .reg (nN 3 []), .sub ⟨[(1, none), (6, none), (26, none), (27, none), (28, none)], [], []⟩ .ret (nblank_CheckCircle_l0_0_e0 a1 r2468 r2499)]) (fr := true) (by kernel_rfl) (an (an (ti (ti (ti trivial))) (an (ti (an e2470 (ti (ti (ti (ti (ti trivial))))))) (an (an (ti (ti trivial)) (an (not_f (decide_eq_true h2471)) trivial)) (an (an (ti (ti (an e2474 (ti trivial)))) (an (not_f h2475) trivial)) (an (ti (ti (ti trivial))) e2501))))) (ti (ti trivial))) (Wv.refl _)
   | inr r2500 =>
    dsimp only at h
    have e2502 := (an (ti trivial) (VRun.loop hph2497))
    obtain ⟨h2503, h⟩ := ifn h
    have e2504 := (show loadL Go.Proofs.Try.prog 3 ((w64 ((a1.length : Int) - 1)).toNat * 1) (List.map vi a1) = some (vi (a1.getD (w64 ((a1.length : Int) - 1)).toNat 0)) from ld_map ag3 vi a1 0 h2503 (by omega))
    obtain ⟨h2505, h⟩ := ifn h
    have e2506 := (show loadL Go.Proofs.Try.prog 3 ((a1.getD (w64 ((a1.length : Int) - 1)).toNat 0).toNat * 3 + 1) (List.flatMap c_SCoolBound r2468.1) = some (vi ((r2468.1.getD (a1.getD (w64 ((a1.length : Int) - 1)).toNat 0).toNat default).To)) from (ld_flat ag3 c_SCoolBound 3 1 len_c_SCoolBound (by omega) r2468.1 default h2505 (by omega)).trans rfl)
    have e2507 := (ti (ti (ti (ti (ti (an h2503 (an e2504 (an h2505 (ti (an e2506 (ti (ti trivial))))))))))))
    obtain ⟨r2539, h2538, h⟩ := bs h
    have hph2538 := nblank_CheckCircle_l1_0_ok k a1 r2468 _ _ _ _ _ h2538
    cases r2539 with
    | inl r2540 =>
     dsimp only at h
     have e2542 := (an (ti trivial) (VRun.loop hph2538))
     injection h with h; subst h
     exact fun_ok pm pn Go.Proofs.Try.func40 (r0 := VV.tu [vi 0, vi 25]) (ans := [.reg (nN 3 []), .reg (arA9_6 r2468), .reg (.n :: .n :: []), .br false, .reg (.n :: .n :: .call (vb r2472) :: .n :: []), .br false, .reg (nN 3 []), .sub ⟨[(1, none), (6, none), (26, none), (27, none), (28, none)], [], []⟩ (.exit 0) (nblank_CheckCircle_l0_0_e1 a1 r2468 r2500), .reg (arA9_7 a1 r2468), .reg (nN 3 []), .sub ⟨[(6, none), (10, none), (11, none), (49, none), (50, none), (51, none)], [], []⟩ .ret (nblank_CheckCircle_l1_0_e0 a1 r2468 r2540)]) (fr := true) (by kernel_rfl) (an (an (ti (ti (ti trivial))) (an (ti (an e2470 (ti (ti (ti (ti (ti trivial))))))) (an (an (ti (ti trivial)) (an (not_f (decide_eq_true h2471)) trivial)) (an (an (ti (ti (an e2474 (ti trivial)))) (an (not_f h2475) trivial)) (an (an (ti (ti (ti trivial))) e2502) (an e2507 (an (ti (ti (ti trivial))) e2542))))))) (ti (ti trivial))) (Wv.refl _)
    | inr r2541 =>
     dsimp only at h
     have e2543 := (an (ti trivial) (VRun.loop hph2538))
     rcases ifs h with ⟨h2544, h⟩ | ⟨h2544, h⟩
     ·injection h with h; subst h
      exact fun_ok pm pn Go.Proofs.Try.func40 (r0 := VV.tu [vi 0, vi 22]) (ans := [.reg (nN 3 []), .reg (arA9_6 r2468), .reg (.n :: .n :: []), .br false, .reg (.n :: .n :: .call (vb r2472) :: .n :: []), .br false, .reg (nN 3 []), .sub ⟨[(1, none), (6, none), (26, none), (27, none), (28, none)], [], []⟩ (.exit 0) (nblank_CheckCircle_l0_0_e1 a1 r2468 r2500), .reg (arA9_7 a1 r2468), .reg (nN 3 []), .sub ⟨[(6, none), (10, none), (11, none), (49, none), (50, none), (51, none)], [], []⟩ (.exit 2) (nblank_CheckCircle_l1_0_e1 a1 r2468 r2541), .reg (.n :: .n :: []), .br true, .reg (.n :: .n :: [])]) (fr := true) (by kernel_rfl) (an (an (ti (ti (ti trivial))) (an (ti (an e2470 (ti (ti (ti (ti (ti trivial))))))) (an (an (ti (ti trivial)) (an (not_f (decide_eq_true h2471)) trivial)) (an (an (ti (ti (an e2474 (ti trivial)))) (an (not_f h2475) trivial)) (an (an (ti (ti (ti trivial))) e2502) (an e2507 (an (an (ti (ti (ti trivial))) e2543) (an (ti (ti trivial)) (an (decide_eq_true h2544) (an (ti (ti trivial)) trivial)))))))))) (ti (ti trivial))) (Wv.refl _)
     ·injection h with h; subst h
      exact fun_ok pm pn Go.Proofs.Try.func40 (r0 := VV.tu [vi r2541, vi 0]) (ans := [.reg (nN 3 []), .reg (arA9_6 r2468), .reg (.n :: .n :: []), .br false, .reg (.n :: .n :: .call (vb r2472) :: .n :: []), .br false, .reg (nN 3 []), .sub ⟨[(1, none), (6, none), (26, none), (27, none), (28, none)], [], []⟩ (.exit 0) (nblank_CheckCircle_l0_0_e1 a1 r2468 r2500), .reg (arA9_7 a1 r2468), .reg (nN 3 []), .sub ⟨[(6, none), (10, none), (11, none), (49, none), (50, none), (51, none)], [], []⟩ (.exit 2) (nblank_CheckCircle_l1_0_e1 a1 r2468 r2541), .reg (.n :: .n :: []), .br false, .reg (nN 3 [])]) (fr := true) (by kernel_rfl) (an (an (ti (ti (ti trivial))) (an (ti (an e2470 (ti (ti (ti (ti (ti trivial))))))) (an (an (ti (ti trivial)) (an (not_f (decide_eq_true h2471)) trivial)) (an (an (ti (ti (an e2474 (ti trivial)))) (an (not_f h2475) trivial)) (an (an (ti (ti (ti trivial))) e2502) (an e2507 (an (an (ti (ti (ti trivial))) e2543) (an (an (ti (ti trivial)) (an (decide_eq_false h2544) trivial)) (an (ti (ti (ti trivial))) trivial))))))))) (ti (ti trivial))) (Wv.refl _)
  ·injection h with h; subst h
   exact fun_ok pm pn Go.Proofs.Try.func40 (r0 := VV.tu [vi 0, vi 10]) (ans := [.reg (nN 3 []), .reg (arA9_6 r2468), .reg (.n :: .n :: []), .br false, .reg (.n :: .n :: .call (vb r2472) :: .n :: []), .br true, .reg (.n :: .n :: [])]) (fr := true) (by kernel_rfl) (an (an (ti (ti (ti trivial))) (an (ti (an e2470 (ti (ti (ti (ti (ti trivial))))))) (an (an (ti (ti trivial)) (an (not_f (decide_eq_true h2471)) trivial)) (an (ti (ti (an e2474 (ti trivial)))) (an (not_t (bool_f h2475)) (an (ti (ti trivial)) trivial)))))) (ti (ti trivial))) (Wv.refl _)
 ·injection h with h; subst h
  exact fun_ok pm pn Go.Proofs.Try.func40 (r0 := VV.tu [vi 0, vi r2468.2]) (ans := [.reg (nN 3 []), .reg (arA9_6 r2468), .reg (.n :: .n :: []), .br true, .reg (nN 3 [])]) (fr := true) (by kernel_rfl) (an (an (ti (ti (ti trivial))) (an (ti (an e2470 (ti (ti (ti (ti (ti trivial))))))) (an (ti (ti trivial)) (an (not_t (decide_eq_false h2471)) (an (ti (ti (ti trivial))) trivial))))) (ti (ti trivial))) (Wv.refl _)
def arA9_8 (z0 : SAnnealing) (z1 : ((List Int) × (List Int) × Int)) : List Ans := (.n :: .call (VV.ag (g_SAnnealing z0)) :: .call (VV.tu [VV.fr (List.map vi z1.1) z1.1.length, VV.fr (List.map vi z1.2.1) z1.2.1.length, vi z1.2.2]) :: nN 7 [])
def arA9_9 (z0 : SAnnealing) (z1 : (List Int)) (z2 : (Int × Int)) : List Ans := (.n :: .call (VV.ag (g_SAnnealing z0)) :: .n :: .call (VV.fr (List.map vi z1) z1.length) :: .call (VV.tu [vi z2.1, vi z2.2]) :: nN 5 [])
def nspeculumlaw03_BlankSchedules (k : Nat) (a0 : SAnnealing) : Option Bool :=
  (nawake k).bind fun r2558 => (if r2558 = true then ((nspeculumlaw03_Light k a0).bind fun r2561 => (if r2561 = true then ((nspeculumlaw03_own k a0).bind fun r2565 => ((nblank_Earliest k r2565).bind fun r2568 => ((nspeculumref03_CheckAnnealing k a0).bind fun r2571 => (if r2571 = 0 then ((nspeculumref03_Earliest k a0).bind fun r2575 => (if r2575.2 = true then (if r2568.2.2 = 0 then (if (r2568.2.1.length : Int) = 0 then ((nspeculumbase_Ints k r2568.1 r2575.1).bind fun r2581 => (some r2581)) else (some false)) else (some false)) else (if r2568.2.2 = 21 then (if (r2568.1.length : Int) = 0 then ((nspeculumref03_CheckCircle k a0 r2568.2.1).bind fun r2593 => ((nspeculumbase_CopyInts k r2568.2.1).bind fun r2599 => ((nblank_CheckCircle k r2565 r2599).bind fun r2602 => (if r2593.2 = 0 then (if r2602.2 = 0 then (some (decide (r2602.1 = r2593.1))) else (some false)) else (some false))))) else (some false)) else (some false)))) else (if r2568.2.2 = r2571 then (some (decide ((w64 ((r2568.1.length : Int) + (r2568.2.1.length : Int))) = 0))) else (some false)))))) else (some true))) else (some false))
theorem nspeculumlaw03_BlankSchedules_ok (k : Nat) (a0 : SAnnealing) (r : Bool) (h : nspeculumlaw03_BlankSchedules k a0 = some r) : VC Go.Proofs.Try.prog 8 [VV.ag (c_SAnnealing a0)] (vb r) := by
 unfold nspeculumlaw03_BlankSchedules at h
 obtain ⟨r2558, h2559, h⟩ := bs h
 rcases ifs h with ⟨h2560, h⟩ | ⟨h2560, h⟩
 ·obtain ⟨r2561, h2562, h⟩ := bs h
  have e2563 := (ti (an (nspeculumlaw03_Light_ok k a0 _ h2562) (ti trivial)))
  rcases ifs h with ⟨h2564, h⟩ | ⟨h2564, h⟩
  ·obtain ⟨r2565, h2566, h⟩ := bs h
   have e2567 := (show VC Go.Proofs.Try.prog 26 [VV.ag (c_SAnnealing a0)] (VV.ag (g_SAnnealing r2565)) from (VC.weak (nspeculumlaw03_own_ok k a0 _ h2566) (Wv.agL (.cons (Wv.refl _) (.cons (Wv.refl _) (.cons (Wv.fw rfl rfl) (.cons (Wv.fw rfl rfl) .nil)))))))
   obtain ⟨r2568, h2569, h⟩ := bs h
   have e2570 := (ti (an e2567 (an (nblank_Earliest_ok k r2565 _ h2569) (ti (ti (ti (ti (ti (ti (ti trivial))))))))))
   obtain ⟨r2571, h2572, h⟩ := bs h
   have e2573 := (nspeculumref03_CheckAnnealing_ok k a0 _ h2572)
   rcases ifs h with ⟨h2574, h⟩ | ⟨h2574, h⟩
   ·obtain ⟨r2575, h2576, h⟩ := bs h
    have e2577 := (show VC Go.Proofs.Try.prog 37 [VV.ag (c_SAnnealing a0)] (VV.tu [VV.fr (List.map vi r2575.1) r2575.1.length, vb r2575.2]) from (VC.weak (nspeculumref03_Earliest_ok k a0 _ h2576) (Wv.tuL (.cons (Wv.fw rfl rfl) (.cons (Wv.refl _) .nil)))))
    rcases ifs h with ⟨h2578, h⟩ | ⟨h2578, h⟩
    ·rcases ifs h with ⟨h2579, h⟩ | ⟨h2579, h⟩
     ·rcases ifs h with ⟨h2580, h⟩ | ⟨h2580, h⟩
      ·obtain ⟨r2581, h2582, h⟩ := bs h
       have e2583 := (an (decide_eq_true h2580) (nspeculumbase_Ints_ok k r2568.1 r2575.1 _ h2582))
       have e2584 := (ti (ti (ti (an (an (decide_eq_true h2579) trivial) (an (an (decide_eq_true h2579) trivial) (an (an (decide_eq_true h2579) trivial) (an (decide_eq_true h2579) (ti (an (an (decide_eq_true h2580) trivial) (an (an (decide_eq_true h2580) trivial) (an e2583 (an (decide_eq_true h2580) (ti trivial)))))))))))))
       injection h with h; subst h
       exact fun_ok pm pn Go.Proofs.Try.func8 (r0 := vb r2581) (ans := [.reg (.n :: .n :: []), .reg (.call (vb r2558) :: .n :: []), .br false, .reg (.n :: .call (vb r2561) :: .n :: []), .br false, .reg (arA9_8 r2565 r2568), .reg (.n :: .call (vi r2571) :: .n :: []), .reg (.n :: .n :: []), .br false, .reg (.n :: .call (VV.tu [VV.fr (List.map vi r2575.1) r2575.1.length, vb r2575.2]) :: nN 5 []), .reg (.n :: []), .br true, .reg (nN 6 (.b true :: nN 3 (.call (vb r2581) :: .b true :: .n :: [])))]) (fr := true) (by kernel_rfl) (an (an (ti (ti trivial)) (an (an (an (nawake_ok k _ h2559) (ti trivial)) (an (not_f h2560) trivial)) (an (an e2563 (an (not_f h2564) trivial)) (an e2570 (an (an (ti (an e2573 (ti trivial))) (an (ti (ti trivial)) (an (not_f (decide_eq_true h2574)) trivial))) (an (ti (an e2577 (ti (ti (ti (ti (ti trivial))))))) (an (ti trivial) (an h2578 (an e2584 trivial))))))))) (ti trivial)) (Wv.refl _)
      ·have e2585 := (ti (ti (ti (an (an (decide_eq_true h2579) trivial) (an (an (decide_eq_true h2579) trivial) (an (an (decide_eq_true h2579) trivial) (an (decide_eq_true h2579) (ti (an (decide_eq_false h2580) (an (decide_eq_false h2580) (an (decide_eq_false h2580) (an (decide_eq_false h2580) (ti trivial)))))))))))))
       injection h with h; subst h
       exact fun_ok pm pn Go.Proofs.Try.func8 (r0 := vb false) (ans := [.reg (.n :: .n :: []), .reg (.call (vb r2558) :: .n :: []), .br false, .reg (.n :: .call (vb r2561) :: .n :: []), .br false, .reg (arA9_8 r2565 r2568), .reg (.n :: .call (vi r2571) :: .n :: []), .reg (.n :: .n :: []), .br false, .reg (.n :: .call (VV.tu [VV.fr (List.map vi r2575.1) r2575.1.length, vb r2575.2]) :: nN 5 []), .reg (.n :: []), .br true, .reg (nN 6 (.b true :: .n :: nS 3 (.b false :: .n :: [])))]) (fr := true) (by kernel_rfl) (an (an (ti (ti trivial)) (an (an (an (nawake_ok k _ h2559) (ti trivial)) (an (not_f h2560) trivial)) (an (an e2563 (an (not_f h2564) trivial)) (an e2570 (an (an (ti (an e2573 (ti trivial))) (an (ti (ti trivial)) (an (not_f (decide_eq_true h2574)) trivial))) (an (ti (an e2577 (ti (ti (ti (ti (ti trivial))))))) (an (ti trivial) (an h2578 (an e2585 trivial))))))))) (ti trivial)) (Wv.refl _)
     ·have e2586 := (ti (ti (ti (an (decide_eq_false h2579) (an (decide_eq_false h2579) (an (decide_eq_false h2579) (an (decide_eq_false h2579) (ti (an rf (an rf (an rf (an rf (ti trivial)))))))))))))
      injection h with h; subst h
      exact fun_ok pm pn Go.Proofs.Try.func8 (r0 := vb false) (ans := [.reg (.n :: .n :: []), .reg (.call (vb r2558) :: .n :: []), .br false, .reg (.n :: .call (vb r2561) :: .n :: []), .br false, .reg (arA9_8 r2565 r2568), .reg (.n :: .call (vi r2571) :: .n :: []), .reg (.n :: .n :: []), .br false, .reg (.n :: .call (VV.tu [VV.fr (List.map vi r2575.1) r2575.1.length, vb r2575.2]) :: nN 5 []), .reg (.n :: []), .br true, .reg (nN 3 (nS 3 (.b false :: .n :: nS 3 (.b false :: .n :: []))))]) (fr := true) (by kernel_rfl) (an (an (ti (ti trivial)) (an (an (an (nawake_ok k _ h2559) (ti trivial)) (an (not_f h2560) trivial)) (an (an e2563 (an (not_f h2564) trivial)) (an e2570 (an (an (ti (an e2573 (ti trivial))) (an (ti (ti trivial)) (an (not_f (decide_eq_true h2574)) trivial))) (an (ti (an e2577 (ti (ti (ti (ti (ti trivial))))))) (an (ti trivial) (an h2578 (an e2586 trivial))))))))) (ti trivial)) (Wv.refl _)
    ·rcases ifs h with ⟨h2587, h⟩ | ⟨h2587, h⟩
     ·have e2588 := (an (not_f (decide_eq_true h2587)) trivial)
      have e2589 := (an (not_f (decide_eq_true h2587)) trivial)
      have e2590 := (an (not_f (decide_eq_true h2587)) trivial)
      have e2591 := (ti (ti (ti (an e2588 (an e2589 (an e2590 (an (not_f (decide_eq_true h2587)) trivial)))))))
      rcases ifs h with ⟨h2592, h⟩ | ⟨h2592, h⟩
      ·obtain ⟨r2593, h2594, h⟩ := bs h
       have e2595 := (nspeculumref03_CheckCircle_ok k a0 r2568.2.1 _ h2594)
       have e2596 := (ti (ti (an e2595 (ti (ti (ti (ti (ti trivial))))))))
       have e2598 := (show VC Go.Proofs.Try.prog 26 [VV.ag (c_SAnnealing a0)] (VV.ag (g_SAnnealing r2565)) from (VC.weak (nspeculumlaw03_own_ok k a0 _ h2566) (Wv.agL (.cons (Wv.refl _) (.cons (Wv.refl _) (.cons (Wv.fw rfl rfl) (.cons (Wv.fw rfl rfl) .nil)))))))
       obtain ⟨r2599, h2600, h⟩ := bs h
       have e2601 := (show VC Go.Proofs.Try.prog 41 [VV.tr (List.map vi r2568.2.1) r2568.2.1.length] (VV.fr (List.map vi r2599) r2599.length) from (VC.weak (nspeculumbase_CopyInts_ok k r2568.2.1 _ h2600) (Wv.fw rfl rfl)))
       obtain ⟨r2602, h2603, h⟩ := bs h
       have e2604 := (nblank_CheckCircle_ok k r2565 r2599 _ h2603)
       have e2605 := (ti (an e2598 (ti (an e2601 (an e2604 (ti (ti (ti (ti (ti trivial))))))))))
       rcases ifs h with ⟨h2606, h⟩ | ⟨h2606, h⟩
       ·rcases ifs h with ⟨h2607, h⟩ | ⟨h2607, h⟩
        ·have e2608 := (ti (ti (ti (an (an (decide_eq_true h2606) trivial) (an (an (decide_eq_true h2606) trivial) (an (decide_eq_true h2606) (ti (an (an (decide_eq_true h2607) trivial) (an (an (decide_eq_true h2607) trivial) (an (an (decide_eq_true h2607) trivial) (an (decide_eq_true h2607) (ti trivial))))))))))))
         injection h with h; subst h
         exact fun_ok pm pn Go.Proofs.Try.func8 (r0 := vb (decide (r2602.1 = r2593.1))) (ans := [.reg (.n :: .n :: []), .reg (.call (vb r2558) :: .n :: []), .br false, .reg (.n :: .call (vb r2561) :: .n :: []), .br false, .reg (arA9_8 r2565 r2568), .reg (.n :: .call (vi r2571) :: .n :: []), .reg (.n :: .n :: []), .br false, .reg (.n :: .call (VV.tu [VV.fr (List.map vi r2575.1) r2575.1.length, vb r2575.2]) :: nN 5 []), .reg (.n :: []), .br false, .reg (nN 6 (.b false :: [])), .br false, .reg (.n :: .n :: .call (VV.tu [vi r2593.1, vi r2593.2]) :: nN 5 []), .reg (arA9_9 r2565 r2599 r2602), .reg (nN 5 (.b true :: nN 4 (.b true :: .n :: [])))]) (fr := true) (by kernel_rfl) (an (an (ti (ti trivial)) (an (an (an (nawake_ok k _ h2559) (ti trivial)) (an (not_f h2560) trivial)) (an (an e2563 (an (not_f h2564) trivial)) (an e2570 (an (an (ti (an e2573 (ti trivial))) (an (ti (ti trivial)) (an (not_f (decide_eq_true h2574)) trivial))) (an (ti (an e2577 (ti (ti (ti (ti (ti trivial))))))) (an (an (ti trivial) (an (bool_f h2578) trivial)) (an (an e2591 (an (not_f (decide_eq_true h2592)) trivial)) (an e2596 (an e2605 (an e2608 trivial))))))))))) (ti trivial)) (Wv.refl _)
        ·have e2609 := (ti (ti (ti (an (an (decide_eq_true h2606) trivial) (an (an (decide_eq_true h2606) trivial) (an (decide_eq_true h2606) (ti (an (decide_eq_false h2607) (an (decide_eq_false h2607) (an (decide_eq_false h2607) (an (decide_eq_false h2607) (ti trivial))))))))))))
         injection h with h; subst h
         exact fun_ok pm pn Go.Proofs.Try.func8 (r0 := vb false) (ans := [.reg (.n :: .n :: []), .reg (.call (vb r2558) :: .n :: []), .br false, .reg (.n :: .call (vb r2561) :: .n :: []), .br false, .reg (arA9_8 r2565 r2568), .reg (.n :: .call (vi r2571) :: .n :: []), .reg (.n :: .n :: []), .br false, .reg (.n :: .call (VV.tu [VV.fr (List.map vi r2575.1) r2575.1.length, vb r2575.2]) :: nN 5 []), .reg (.n :: []), .br false, .reg (nN 6 (.b false :: [])), .br false, .reg (.n :: .n :: .call (VV.tu [vi r2593.1, vi r2593.2]) :: nN 5 []), .reg (arA9_9 r2565 r2599 r2602), .reg (nN 5 (.b true :: .n :: nS 3 (.b false :: .n :: [])))]) (fr := true) (by kernel_rfl) (an (an (ti (ti trivial)) (an (an (an (nawake_ok k _ h2559) (ti trivial)) (an (not_f h2560) trivial)) (an (an e2563 (an (not_f h2564) trivial)) (an e2570 (an (an (ti (an e2573 (ti trivial))) (an (ti (ti trivial)) (an (not_f (decide_eq_true h2574)) trivial))) (an (ti (an e2577 (ti (ti (ti (ti (ti trivial))))))) (an (an (ti trivial) (an (bool_f h2578) trivial)) (an (an e2591 (an (not_f (decide_eq_true h2592)) trivial)) (an e2596 (an e2605 (an e2609 trivial))))))))))) (ti trivial)) (Wv.refl _)
       ·have e2610 := (ti (ti (ti (an (decide_eq_false h2606) (an (decide_eq_false h2606) (an (decide_eq_false h2606) (ti (an rf (an rf (an rf (an rf (ti trivial))))))))))))
        injection h with h; subst h
        exact fun_ok pm pn Go.Proofs.Try.func8 (r0 := vb false) (ans := [.reg (.n :: .n :: []), .reg (.call (vb r2558) :: .n :: []), .br false, .reg (.n :: .call (vb r2561) :: .n :: []), .br false, .reg (arA9_8 r2565 r2568), .reg (.n :: .call (vi r2571) :: .n :: []), .reg (.n :: .n :: []), .br false, .reg (.n :: .call (VV.tu [VV.fr (List.map vi r2575.1) r2575.1.length, vb r2575.2]) :: nN 5 []), .reg (.n :: []), .br false, .reg (nN 6 (.b false :: [])), .br false, .reg (.n :: .n :: .call (VV.tu [vi r2593.1, vi r2593.2]) :: nN 5 []), .reg (arA9_9 r2565 r2599 r2602), .reg (nN 3 (.skip :: .skip :: .b false :: .n :: nS 3 (.b false :: .n :: [])))]) (fr := true) (by kernel_rfl) (an (an (ti (ti trivial)) (an (an (an (nawake_ok k _ h2559) (ti trivial)) (an (not_f h2560) trivial)) (an (an e2563 (an (not_f h2564) trivial)) (an e2570 (an (an (ti (an e2573 (ti trivial))) (an (ti (ti trivial)) (an (not_f (decide_eq_true h2574)) trivial))) (an (ti (an e2577 (ti (ti (ti (ti (ti trivial))))))) (an (an (ti trivial) (an (bool_f h2578) trivial)) (an (an e2591 (an (not_f (decide_eq_true h2592)) trivial)) (an e2596 (an e2605 (an e2610 trivial))))))))))) (ti trivial)) (Wv.refl _)
      ·injection h with h; subst h
       exact fun_ok pm pn Go.Proofs.Try.func8 (r0 := vb false) (ans := [.reg (.n :: .n :: []), .reg (.call (vb r2558) :: .n :: []), .br false, .reg (.n :: .call (vb r2561) :: .n :: []), .br false, .reg (arA9_8 r2565 r2568), .reg (.n :: .call (vi r2571) :: .n :: []), .reg (.n :: .n :: []), .br false, .reg (.n :: .call (VV.tu [VV.fr (List.map vi r2575.1) r2575.1.length, vb r2575.2]) :: nN 5 []), .reg (.n :: []), .br false, .reg (nN 6 (.b false :: [])), .br true, .reg (.n :: [])]) (fr := true) (by kernel_rfl) (an (an (ti (ti trivial)) (an (an (an (nawake_ok k _ h2559) (ti trivial)) (an (not_f h2560) trivial)) (an (an e2563 (an (not_f h2564) trivial)) (an e2570 (an (an (ti (an e2573 (ti trivial))) (an (ti (ti trivial)) (an (not_f (decide_eq_true h2574)) trivial))) (an (ti (an e2577 (ti (ti (ti (ti (ti trivial))))))) (an (an (ti trivial) (an (bool_f h2578) trivial)) (an e2591 (an (not_t (decide_eq_false h2592)) (an (ti trivial) trivial)))))))))) (ti trivial)) (Wv.refl _)
     ·have e2611 := (ti (ti (ti (an (not_t (decide_eq_false h2587)) (an (not_t (decide_eq_false h2587)) (an (not_t (decide_eq_false h2587)) (an (not_t (decide_eq_false h2587)) trivial)))))))
      injection h with h; subst h
      exact fun_ok pm pn Go.Proofs.Try.func8 (r0 := vb false) (ans := [.reg (.n :: .n :: []), .reg (.call (vb r2558) :: .n :: []), .br false, .reg (.n :: .call (vb r2561) :: .n :: []), .br false, .reg (arA9_8 r2565 r2568), .reg (.n :: .call (vi r2571) :: .n :: []), .reg (.n :: .n :: []), .br false, .reg (.n :: .call (VV.tu [VV.fr (List.map vi r2575.1) r2575.1.length, vb r2575.2]) :: nN 5 []), .reg (.n :: []), .br false, .reg (nN 3 (nS 3 (.b true :: []))), .br true, .reg (.n :: [])]) (fr := true) (by kernel_rfl) (an (an (ti (ti trivial)) (an (an (an (nawake_ok k _ h2559) (ti trivial)) (an (not_f h2560) trivial)) (an (an e2563 (an (not_f h2564) trivial)) (an e2570 (an (an (ti (an e2573 (ti trivial))) (an (ti (ti trivial)) (an (not_f (decide_eq_true h2574)) trivial))) (an (ti (an e2577 (ti (ti (ti (ti (ti trivial))))))) (an (an (ti trivial) (an (bool_f h2578) trivial)) (an e2611 (an rt (an (ti trivial) trivial)))))))))) (ti trivial)) (Wv.refl _)
   ·rcases ifs h with ⟨h2612, h⟩ | ⟨h2612, h⟩
    ·have e2613 := (ti (ti (ti (ti (an (an (decide_eq_true h2612) trivial) (an (an (decide_eq_true h2612) trivial) (an (an (decide_eq_true h2612) trivial) (an (an (decide_eq_true h2612) trivial) (an (an (decide_eq_true h2612) trivial) (an (an (decide_eq_true h2612) trivial) (an (decide_eq_true h2612) (ti trivial))))))))))))
     injection h with h; subst h
     exact fun_ok pm pn Go.Proofs.Try.func8 (r0 := vb (decide ((w64 ((r2568.1.length : Int) + (r2568.2.1.length : Int))) = 0))) (ans := [.reg (.n :: .n :: []), .reg (.call (vb r2558) :: .n :: []), .br false, .reg (.n :: .call (vb r2561) :: .n :: []), .br false, .reg (arA9_8 r2565 r2568), .reg (.n :: .call (vi r2571) :: .n :: []), .reg (.n :: .n :: []), .br true, .reg (nN 10 (.b true :: .n :: []))]) (fr := true) (by kernel_rfl) (an (an (ti (ti trivial)) (an (an (an (nawake_ok k _ h2559) (ti trivial)) (an (not_f h2560) trivial)) (an (an e2563 (an (not_f h2564) trivial)) (an e2570 (an (ti (an e2573 (ti trivial))) (an (ti (ti trivial)) (an (not_t (decide_eq_false h2574)) (an e2613 trivial)))))))) (ti trivial)) (Wv.refl _)
    ·have e2614 := (ti (ti (ti (ti (an (decide_eq_false h2612) (an (decide_eq_false h2612) (an (decide_eq_false h2612) (an (decide_eq_false h2612) (an (decide_eq_false h2612) (an (decide_eq_false h2612) (an (decide_eq_false h2612) (ti trivial))))))))))))
     injection h with h; subst h
     exact fun_ok pm pn Go.Proofs.Try.func8 (r0 := vb false) (ans := [.reg (.n :: .n :: []), .reg (.call (vb r2558) :: .n :: []), .br false, .reg (.n :: .call (vb r2561) :: .n :: []), .br false, .reg (arA9_8 r2565 r2568), .reg (.n :: .call (vi r2571) :: .n :: []), .reg (.n :: .n :: []), .br true, .reg (nN 4 (nS 6 (.b false :: .n :: [])))]) (fr := true) (by kernel_rfl) (an (an (ti (ti trivial)) (an (an (an (nawake_ok k _ h2559) (ti trivial)) (an (not_f h2560) trivial)) (an (an e2563 (an (not_f h2564) trivial)) (an e2570 (an (ti (an e2573 (ti trivial))) (an (ti (ti trivial)) (an (not_t (decide_eq_false h2574)) (an e2614 trivial)))))))) (ti trivial)) (Wv.refl _)
  ·injection h with h; subst h
   exact fun_ok pm pn Go.Proofs.Try.func8 (r0 := vb true) (ans := [.reg (.n :: .n :: []), .reg (.call (vb r2558) :: .n :: []), .br false, .reg (.n :: .call (vb r2561) :: .n :: []), .br true, .reg (.n :: [])]) (fr := true) (by kernel_rfl) (an (an (ti (ti trivial)) (an (an (an (nawake_ok k _ h2559) (ti trivial)) (an (not_f h2560) trivial)) (an e2563 (an (not_t (bool_f h2564)) (an (ti trivial) trivial))))) (ti trivial)) (Wv.refl _)
 ·injection h with h; subst h
  exact fun_ok pm pn Go.Proofs.Try.func8 (r0 := vb false) (ans := [.reg (.n :: .n :: []), .reg (.call (vb r2558) :: .n :: []), .br true, .reg (.n :: [])]) (fr := true) (by kernel_rfl) (an (an (ti (ti trivial)) (an (an (nawake_ok k _ h2559) (ti trivial)) (an (not_t (bool_f h2560)) (an (ti trivial) trivial)))) (ti trivial)) (Wv.refl _)
end Go.Proofs.Ytclabanknlmneaa.Vg

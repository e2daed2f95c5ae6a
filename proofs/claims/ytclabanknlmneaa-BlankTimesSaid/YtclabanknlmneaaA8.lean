/- Written by a program out of the program: what Go functions do, as plain functions, and their contracts. -/
import Derived.Test.YtclabanknlmneaaA5
namespace Go.Proofs.Ytclabanknlmneaa.Vg
set_option maxRecDepth 100000
set_option maxHeartbeats 4000000
set_option linter.unusedVariables false
set_option linter.unusedSimpArgs false
open Go Go.Proofs.Ytclabanknlmneaa.Ev Go.Proofs.Ytclabanknlmneaa.Vv
theorem ag67 : isAggT Go.Proofs.Try.prog 67 = some false := by kernel_rfl
theorem eqok33 : EqOK Go.Proofs.Try.prog 33 [some (.i .i64), some (.i .i64)] := eqOK_of (by kernel_rfl) (by kernel_rfl) (eqT_struct Go.Proofs.Try.underlying33 (by kernel_rfl) (by kernel_rfl) (by kernel_rfl) (.cons (by decide +kernel) rfl (eqT_int Go.Proofs.Try.underlying3 (by kernel_rfl) (by kernel_rfl)) (.cons (by decide +kernel) rfl (eqT_int Go.Proofs.Try.underlying3 (by kernel_rfl) (by kernel_rfl)) .nil)))
def nawake (k : Nat) : Option Bool := some true
theorem nawake_ok (k : Nat) (r : Bool) (h : nawake k = some r) : VC Go.Proofs.Try.prog 12 [] (vb r) := by
  injection h with h; subst h
  exact vc_awake
def nspeculumbase_CopyInts (k : Nat) (a0 : (List Int)) : Option (List Int) :=
  if ([] : List Int).length + a0.length ≤ 1000000000 then (some (([] : List Int) ++ a0)) else none
theorem nspeculumbase_CopyInts_ok (k : Nat) (a0 : (List Int)) (r : (List Int)) (h : nspeculumbase_CopyInts k a0 = some r) : VC Go.Proofs.Try.prog 41 [VV.tr (List.map vi a0) a0.length] (VV.fw 1 (List.map vi r) r.length) := by
 unfold nspeculumbase_CopyInts at h
 obtain ⟨h1730, h⟩ := ifn h
 have e1731 := (show List.length [] = 0 * 1 ∧ List.length (List.map vi a0) = a0.length * 1 ∧ (0 + a0.length) * 8 ≤ 140737488355328 ∧ 0 + a0.length < 1099511627776 ∧ List.all (List.map vi a0) VV.still = true from ⟨(by rw [show [] = List.map vi ([] : List Int) from rfl]; simp), (by simp), (by first | omega | (simp at h1730 ⊢; omega)), (by first | omega | (simp at h1730 ⊢; omega)), (by exact still_vi _)⟩)
 injection h with h; subst h
 exact fun_ok pm pn Go.Proofs.Try.func41 (r0 := VV.fw 1 (List.drop 0 (List.map unfr ([] ++ (List.map vi a0)))) (0 + a0.length)) (ans := [.reg (.n :: []), .reg (nN 4 [])]) (fr := true) (by kernel_rfl) (an (an (ti trivial) (an (ti (ti (an e1731 (ti trivial)))) trivial)) (an (show List.all ([] ++ (List.map vi a0)) new0 = true from (by rw [show [] ++ (List.map vi a0) = List.map vi (([] : List Int) ++ a0) from (by rw [show [] = List.map vi ([] : List Int) from rfl]; exact List.map_append.symm)]; exact new0_vi _)) trivial)) (Wv.of_eq (by simp only [show [] ++ (List.map vi a0) = List.map vi (([] : List Int) ++ a0) from (by rw [show [] = List.map vi ([] : List Int) from rfl]; exact List.map_append.symm), drop0, unfr_vi, unfr_vb, unfr_vs, List.map_cons, List.map_nil, un_i, un_k, un_b, un_s, un_tr, un_fr, List.length_map, List.length_replicate, List.length_append, List.length_set, List.length_cons, List.length_nil, unfr_c_SAnnealing, unfr_g_SAnnealing, unfr_c_SCoolStep, unfr_c_SCoolWindow, unfr_c_SRange, unfr_c_SCoolBound, unfr_c_Sschedule, unfr_g_Sschedule]))
def arA8_0 (z0 : (List Int)) (z1 : Int) : List Ans := (nN 4 (.v (vi (z0.getD (w64 (z1 + 1)).toNat 0)) :: nN 3 (.v (vi (z0.getD z1.toNat 0)) :: .n :: .n :: [])))
def arA8_1 (z0 : (List Int)) (z1 : SAnnealing) (z2 : Int) (z3 : Bool) : List Ans := (nN 4 (.v (vi (z0.getD ((z1.Windows.getD z2.toNat default).Level).toNat 0)) :: nN 4 (.call (vb z3) :: .n :: [])))
def nblank_CheckTimes_l0_0_h (a0 : SAnnealing) (a1 : (List Int)) (x28 : Int) : VS := ⟨mkA [(1, VV.tr (List.map vi a1) a1.length), (2, VV.pt 0 0), (26, VV.tr (List.map vi a1) a1.length), (27, vi (a1.length : Int)), (28, vi x28)], [some ⟨true, 1, c_SAnnealing a0⟩], .nil⟩
def nblank_CheckTimes_l0_0_e0 (a0 : SAnnealing) (a1 : (List Int)) (r : Int) : VS := ⟨mkA [(4, vi r), (5, vi 2)], [], .nil⟩
def nblank_CheckTimes_l0_0_e1 (a0 : SAnnealing) (a1 : (List Int)) (r : Unit) : VS := ⟨mkA [(1, VV.tr (List.map vi a1) a1.length), (2, VV.pt 0 0)], [some ⟨true, 1, c_SAnnealing a0⟩], .nil⟩
def nblank_CheckTimes_l0_0 (k : Nat) (a0 : SAnnealing) (a1 : (List Int)) : Nat → Int → Option (Sum Int Unit)
  | 0, _ => none
  | fuel + 1, x28 => if x28 < (a1.length : Int) then (if 0 ≤ x28 ∧ x28 < (a1.length : Int) then ((nblank_isWithin k (a1.getD x28.toNat 0) 0 10000000).bind fun r1870 => (if r1870 = true then (nblank_CheckTimes_l0_0 k a0 a1 fuel (w64 (x28 + 1))) else (some (.inl x28)))) else none) else (some (.inr ()))
theorem nblank_CheckTimes_l0_0_ok (k : Nat) (a0 : SAnnealing) (a1 : (List Int)) : ∀ (fuel : Nat) (x28 : Int) (r : Sum Int Unit), nblank_CheckTimes_l0_0 k a0 a1 fuel x28 = some r → (match r with | .inl r => VLoop none Go.Proofs.Try.prog (szF Go.Proofs.Try.f42) (bodyOf Go.Proofs.Try.f42 0) (nblank_CheckTimes_l0_0_h a0 a1 x28) .ret (nblank_CheckTimes_l0_0_e0 a0 a1 r) | .inr r => VLoop none Go.Proofs.Try.prog (szF Go.Proofs.Try.f42) (bodyOf Go.Proofs.Try.f42 0) (nblank_CheckTimes_l0_0_h a0 a1 x28) (.exit 0) (nblank_CheckTimes_l0_0_e1 a0 a1 r)) := by
 intro fuel
 induction fuel with
 | zero => intro x28 r h; rw [nblank_CheckTimes_l0_0.eq_1] at h; cases h
 | succ fuel ih =>
  intro x28 r h
  rw [nblank_CheckTimes_l0_0.eq_2] at h
  rcases ifs h with ⟨h1867, h⟩ | ⟨h1867, h⟩
  ·obtain ⟨h1868, h⟩ := ifn h
   have e1869 := (show loadL Go.Proofs.Try.prog 3 (x28.toNat * 1) (List.map vi a1) = some (vi (a1.getD x28.toNat 0)) from ld_map ag3 vi a1 0 h1868 (by omega))
   obtain ⟨r1870, h1871, h⟩ := bs h
   have e1872 := (nblank_isWithin_ok k (a1.getD x28.toNat 0) 0 10000000 _ h1871)
   rcases ifs h with ⟨h1873, h⟩ | ⟨h1873, h⟩
   ·have h2 := ih _ _ h
    obtain ⟨q, hv, hq⟩ := pkR (rd := none) (P := Go.Proofs.Try.prog) (fn := Go.Proofs.Try.f42) (k := 0) (s := (nblank_CheckTimes_l0_0_h a0 a1 x28)) (ans := [.reg (.n :: []), .br true, .reg (.n :: .n :: .v (vi (a1.getD x28.toNat 0)) :: .n :: .n :: []), .reg (.n :: .call (vb r1870) :: .n :: []), .br false, .reg (.n :: .n :: [])]) (c := ⟨[(1, none), (2, none), (26, none), (27, none), (28, none)], [none], []⟩) (e := .normal) (s1 := (nblank_CheckTimes_l0_0_h a0 a1 (w64 (x28 + 1)))) (an (an (ti trivial) (an (an (decide_eq_true h1867) trivial) (an (an (ti (an h1868 (an e1869 (ti (ti trivial))))) (an (ti (an e1872 (ti trivial))) (an (not_f h1873) trivial))) (ti (ti trivial))))) (ti trivial)) (by kernel_rfl)
    cases r with
    | inl r => exact round_next pm pn hv hq h2
    | inr r =>
     exact round_next pm pn hv hq h2
   ·injection h with h; subst h
    exact round_stop (c := ⟨[(4, none), (5, none)], [], []⟩) (s1 := (nblank_CheckTimes_l0_0_e0 a0 a1 x28)) pm pn (ans := [.reg (.n :: []), .br true, .reg (.n :: .n :: .v (vi (a1.getD x28.toNat 0)) :: .n :: .n :: []), .reg (.n :: .call (vb r1870) :: .n :: []), .br true, .reg (nN 3 [])]) (by kernel_rfl) (by intro e; cases e) (an (an (ti trivial) (an (an (decide_eq_true h1867) trivial) (an (ti (an h1868 (an e1869 (ti (ti trivial))))) (an (ti (an e1872 (ti trivial))) (an (not_t (bool_f h1873)) (an (ti (ti (ti trivial))) trivial)))))) (ti trivial))
  ·injection h with h; subst h
   exact round_stop (c := ⟨[(1, none), (2, none)], [none], []⟩) (s1 := (nblank_CheckTimes_l0_0_e1 a0 a1 ())) pm pn (ans := [.reg (.n :: []), .br false]) (by kernel_rfl) (by intro e; cases e) (an (an (ti trivial) (an (decide_eq_false h1867) trivial)) (ti trivial))
def nblank_CheckTimes_l1_0_h (a0 : SAnnealing) (a1 : (List Int)) (x41 : Int) : VS := ⟨mkA [(1, VV.tr (List.map vi a1) a1.length), (2, VV.pt 0 0), (39, VV.tr (List.flatMap c_SCoolStep a0.Steps) a0.Steps.length), (40, vi (a0.Steps.length : Int)), (41, vi x41)], [some ⟨true, 1, c_SAnnealing a0⟩], .nil⟩
def nblank_CheckTimes_l1_0_e0 (a0 : SAnnealing) (a1 : (List Int)) (r : Int × Int) : VS := ⟨mkA [(4, vi r.1), (5, vi r.2)], [], .nil⟩
def nblank_CheckTimes_l1_0_e1 (a0 : SAnnealing) (a1 : (List Int)) (r : Unit) : VS := ⟨mkA [(1, VV.tr (List.map vi a1) a1.length), (2, VV.pt 0 0)], [some ⟨true, 1, c_SAnnealing a0⟩], .nil⟩
def nblank_CheckTimes_l1_0 (k : Nat) (a0 : SAnnealing) (a1 : (List Int)) : Nat → Int → Option (Sum (Int × Int) Unit)
  | 0, _ => none
  | fuel + 1, x41 => if x41 < (a0.Steps.length : Int) then (if 0 ≤ x41 ∧ x41 < (a0.Steps.length : Int) then (if 0 ≤ w64 (x41 + 1) ∧ w64 (x41 + 1) < (a1.length : Int) then (if 0 ≤ x41 ∧ x41 < (a1.length : Int) then ((nblank_leastMinutes k a0 x41).bind fun r1914 => (if (w64 ((a1.getD (w64 (x41 + 1)).toNat 0) - (a1.getD x41.toNat 0))) < r1914 then (some (.inl (x41, 19))) else (if ((a0.Steps.getD x41.toNat default).Most) < (w64 ((a1.getD (w64 (x41 + 1)).toNat 0) - (a1.getD x41.toNat 0))) then (some (.inl (x41, 18))) else (nblank_CheckTimes_l1_0 k a0 a1 fuel (w64 (x41 + 1)))))) else none) else none) else none) else (some (.inr ()))
theorem nblank_CheckTimes_l1_0_ok (k : Nat) (a0 : SAnnealing) (a1 : (List Int)) : ∀ (fuel : Nat) (x41 : Int) (r : Sum (Int × Int) Unit), nblank_CheckTimes_l1_0 k a0 a1 fuel x41 = some r → (match r with | .inl r => VLoop none Go.Proofs.Try.prog (szF Go.Proofs.Try.f42) (bodyOf Go.Proofs.Try.f42 1) (nblank_CheckTimes_l1_0_h a0 a1 x41) .ret (nblank_CheckTimes_l1_0_e0 a0 a1 r) | .inr r => VLoop none Go.Proofs.Try.prog (szF Go.Proofs.Try.f42) (bodyOf Go.Proofs.Try.f42 1) (nblank_CheckTimes_l1_0_h a0 a1 x41) (.exit 2) (nblank_CheckTimes_l1_0_e1 a0 a1 r)) := by
 intro fuel
 induction fuel with
 | zero => intro x41 r h; rw [nblank_CheckTimes_l1_0.eq_1] at h; cases h
 | succ fuel ih =>
  intro x41 r h
  rw [nblank_CheckTimes_l1_0.eq_2] at h
  rcases ifs h with ⟨h1906, h⟩ | ⟨h1906, h⟩
  ·obtain ⟨h1907, h⟩ := ifn h
   have e1908 := (show loadL Go.Proofs.Try.prog 59 (x41.toNat * 3) (List.flatMap c_SCoolStep a0.Steps) = some (VV.ag (c_SCoolStep (a0.Steps.getD x41.toNat default))) from ld_whole ag59 c_SCoolStep 3 sz59 len_c_SCoolStep a0.Steps default h1907 (by omega))
   obtain ⟨h1909, h⟩ := ifn h
   have e1910 := (show loadL Go.Proofs.Try.prog 3 ((w64 (x41 + 1)).toNat * 1) (List.map vi a1) = some (vi (a1.getD (w64 (x41 + 1)).toNat 0)) from ld_map ag3 vi a1 0 h1909 (by omega))
   obtain ⟨h1911, h⟩ := ifn h
   have e1912 := (show loadL Go.Proofs.Try.prog 3 (x41.toNat * 1) (List.map vi a1) = some (vi (a1.getD x41.toNat 0)) from ld_map ag3 vi a1 0 h1911 (by omega))
   have e1913 := (ti (ti (ti (an h1909 (an e1910 (ti (ti (an h1911 (an e1912 (ti (ti trivial)))))))))))
   obtain ⟨r1914, h1915, h⟩ := bs h
   have e1916 := (nblank_leastMinutes_ok k a0 x41 _ h1915)
   rcases ifs h with ⟨h1917, h⟩ | ⟨h1917, h⟩
   ·injection h with h; subst h
    exact round_stop (c := ⟨[(4, none), (5, none)], [], []⟩) (s1 := (nblank_CheckTimes_l1_0_e0 a0 a1 (x41, 19))) pm pn (ans := [.reg (.n :: []), .br true, .reg (.n :: .n :: .v (VV.ag (c_SCoolStep (a0.Steps.getD x41.toNat default))) :: nN 3 []), .reg (arA8_0 a1 x41), .reg (nN 3 (.call (vi r1914) :: .n :: [])), .br true, .reg (nN 3 [])]) (by kernel_rfl) (by intro e; cases e) (an (an (ti trivial) (an (an (decide_eq_true h1906) trivial) (an (ti (an h1907 (an e1908 (ti (ti (ti trivial)))))) (an e1913 (an (ti (ti (ti (an e1916 (ti trivial))))) (an (decide_eq_true h1917) (an (ti (ti (ti trivial))) trivial))))))) (ti trivial))
   ·rcases ifs h with ⟨h1918, h⟩ | ⟨h1918, h⟩
    ·injection h with h; subst h
     exact round_stop (c := ⟨[(4, none), (5, none)], [], []⟩) (s1 := (nblank_CheckTimes_l1_0_e0 a0 a1 (x41, 18))) pm pn (ans := [.reg (.n :: []), .br true, .reg (.n :: .n :: .v (VV.ag (c_SCoolStep (a0.Steps.getD x41.toNat default))) :: nN 3 []), .reg (arA8_0 a1 x41), .reg (nN 3 (.call (vi r1914) :: .n :: [])), .br false, .reg (nN 4 []), .br true, .reg (nN 3 [])]) (by kernel_rfl) (by intro e; cases e) (an (an (ti trivial) (an (an (decide_eq_true h1906) trivial) (an (ti (an h1907 (an e1908 (ti (ti (ti trivial)))))) (an e1913 (an (an (ti (ti (ti (an e1916 (ti trivial))))) (an (decide_eq_false h1917) trivial)) (an (ti (ti (ti (ti trivial)))) (an (decide_eq_true h1918) (an (ti (ti (ti trivial))) trivial)))))))) (ti trivial))
    ·have h2 := ih _ _ h
     obtain ⟨q, hv, hq⟩ := pkR (rd := none) (P := Go.Proofs.Try.prog) (fn := Go.Proofs.Try.f42) (k := 1) (s := (nblank_CheckTimes_l1_0_h a0 a1 x41)) (ans := [.reg (.n :: []), .br true, .reg (.n :: .n :: .v (VV.ag (c_SCoolStep (a0.Steps.getD x41.toNat default))) :: nN 3 []), .reg (arA8_0 a1 x41), .reg (nN 3 (.call (vi r1914) :: .n :: [])), .br false, .reg (nN 4 []), .br false, .reg (.n :: .n :: [])]) (c := ⟨[(1, none), (2, none), (39, none), (40, none), (41, none)], [none], []⟩) (e := .normal) (s1 := (nblank_CheckTimes_l1_0_h a0 a1 (w64 (x41 + 1)))) (an (an (ti trivial) (an (an (decide_eq_true h1906) trivial) (an (an (ti (an h1907 (an e1908 (ti (ti (ti trivial)))))) (an e1913 (an (an (ti (ti (ti (an e1916 (ti trivial))))) (an (decide_eq_false h1917) trivial)) (an (ti (ti (ti (ti trivial)))) (an (decide_eq_false h1918) trivial))))) (ti (ti trivial))))) (ti trivial)) (by kernel_rfl)
     cases r with
     | inl r => exact round_next pm pn hv hq h2
     | inr r =>
      exact round_next pm pn hv hq h2
  ·injection h with h; subst h
   exact round_stop (c := ⟨[(1, none), (2, none)], [none], []⟩) (s1 := (nblank_CheckTimes_l1_0_e1 a0 a1 ())) pm pn (ans := [.reg (.n :: []), .br false]) (by kernel_rfl) (by intro e; cases e) (an (an (ti trivial) (an (decide_eq_false h1906) trivial)) (ti trivial))
def nblank_CheckTimes_l2_0_h (a0 : SAnnealing) (a1 : (List Int)) (x71 : Int) : VS := ⟨mkA [(1, VV.tr (List.map vi a1) a1.length), (69, VV.tr (List.flatMap c_SCoolWindow a0.Windows) a0.Windows.length), (70, vi (a0.Windows.length : Int)), (71, vi x71)], [], .nil⟩
def nblank_CheckTimes_l2_0_e0 (a0 : SAnnealing) (a1 : (List Int)) (r : Int) : VS := ⟨mkA [(4, vi r), (5, vi 26)], [], .nil⟩
def nblank_CheckTimes_l2_0_e1 (a0 : SAnnealing) (a1 : (List Int)) (r : Unit) : VS := ⟨mkA [], [], .nil⟩
def nblank_CheckTimes_l2_0 (k : Nat) (a0 : SAnnealing) (a1 : (List Int)) : Nat → Int → Option (Sum Int Unit)
  | 0, _ => none
  | fuel + 1, x71 => if x71 < (a0.Windows.length : Int) then (if 0 ≤ x71 ∧ x71 < (a0.Windows.length : Int) then (if 0 ≤ (a0.Windows.getD x71.toNat default).Level ∧ (a0.Windows.getD x71.toNat default).Level < (a1.length : Int) then ((nblank_isWithin k (a1.getD ((a0.Windows.getD x71.toNat default).Level).toNat 0) ((a0.Windows.getD x71.toNat default).From) ((a0.Windows.getD x71.toNat default).To)).bind fun r1950 => (if r1950 = true then (nblank_CheckTimes_l2_0 k a0 a1 fuel (w64 (x71 + 1))) else (some (.inl x71)))) else none) else none) else (some (.inr ()))
theorem nblank_CheckTimes_l2_0_ok (k : Nat) (a0 : SAnnealing) (a1 : (List Int)) : ∀ (fuel : Nat) (x71 : Int) (r : Sum Int Unit), nblank_CheckTimes_l2_0 k a0 a1 fuel x71 = some r → (match r with | .inl r => VLoop none Go.Proofs.Try.prog (szF Go.Proofs.Try.f42) (bodyOf Go.Proofs.Try.f42 2) (nblank_CheckTimes_l2_0_h a0 a1 x71) .ret (nblank_CheckTimes_l2_0_e0 a0 a1 r) | .inr r => VLoop none Go.Proofs.Try.prog (szF Go.Proofs.Try.f42) (bodyOf Go.Proofs.Try.f42 2) (nblank_CheckTimes_l2_0_h a0 a1 x71) (.exit 4) (nblank_CheckTimes_l2_0_e1 a0 a1 r)) := by
 intro fuel
 induction fuel with
 | zero => intro x71 r h; rw [nblank_CheckTimes_l2_0.eq_1] at h; cases h
 | succ fuel ih =>
  intro x71 r h
  rw [nblank_CheckTimes_l2_0.eq_2] at h
  rcases ifs h with ⟨h1945, h⟩ | ⟨h1945, h⟩
  ·obtain ⟨h1946, h⟩ := ifn h
   have e1947 := (show loadL Go.Proofs.Try.prog 85 (x71.toNat * 3) (List.flatMap c_SCoolWindow a0.Windows) = some (VV.ag (c_SCoolWindow (a0.Windows.getD x71.toNat default))) from ld_whole ag85 c_SCoolWindow 3 sz85 len_c_SCoolWindow a0.Windows default h1946 (by omega))
   obtain ⟨h1948, h⟩ := ifn h
   have e1949 := (show loadL Go.Proofs.Try.prog 3 (((a0.Windows.getD x71.toNat default).Level).toNat * 1) (List.map vi a1) = some (vi (a1.getD ((a0.Windows.getD x71.toNat default).Level).toNat 0)) from ld_map ag3 vi a1 0 h1948 (by omega))
   obtain ⟨r1950, h1951, h⟩ := bs h
   have e1952 := (nblank_isWithin_ok k (a1.getD ((a0.Windows.getD x71.toNat default).Level).toNat 0) ((a0.Windows.getD x71.toNat default).From) ((a0.Windows.getD x71.toNat default).To) _ h1951)
   have e1953 := (ti (ti (ti (an h1948 (an e1949 (ti (ti (ti (ti (an e1952 (ti trivial)))))))))))
   rcases ifs h with ⟨h1954, h⟩ | ⟨h1954, h⟩
   ·have h2 := ih _ _ h
    obtain ⟨q, hv, hq⟩ := pkR (rd := none) (P := Go.Proofs.Try.prog) (fn := Go.Proofs.Try.f42) (k := 2) (s := (nblank_CheckTimes_l2_0_h a0 a1 x71)) (ans := [.reg (.n :: []), .br true, .reg (.n :: .n :: .v (VV.ag (c_SCoolWindow (a0.Windows.getD x71.toNat default))) :: nN 3 []), .reg (arA8_1 a1 a0 x71 r1950), .br false, .reg (.n :: .n :: [])]) (c := ⟨[(1, none), (69, none), (70, none), (71, none)], [], []⟩) (e := .normal) (s1 := (nblank_CheckTimes_l2_0_h a0 a1 (w64 (x71 + 1)))) (an (an (ti trivial) (an (an (decide_eq_true h1945) trivial) (an (an (ti (an h1946 (an e1947 (ti (ti (ti trivial)))))) (an e1953 (an (not_f h1954) trivial))) (ti (ti trivial))))) (ti trivial)) (by kernel_rfl)
    cases r with
    | inl r => exact round_next pm pn hv hq h2
    | inr r =>
     exact round_next pm pn hv hq h2
   ·injection h with h; subst h
    exact round_stop (c := ⟨[(4, none), (5, none)], [], []⟩) (s1 := (nblank_CheckTimes_l2_0_e0 a0 a1 x71)) pm pn (ans := [.reg (.n :: []), .br true, .reg (.n :: .n :: .v (VV.ag (c_SCoolWindow (a0.Windows.getD x71.toNat default))) :: nN 3 []), .reg (arA8_1 a1 a0 x71 r1950), .br true, .reg (nN 3 [])]) (by kernel_rfl) (by intro e; cases e) (an (an (ti trivial) (an (an (decide_eq_true h1945) trivial) (an (ti (an h1946 (an e1947 (ti (ti (ti trivial)))))) (an e1953 (an (not_t (bool_f h1954)) (an (ti (ti (ti trivial))) trivial)))))) (ti trivial))
  ·injection h with h; subst h
   exact round_stop (c := ⟨[], [], []⟩) (s1 := (nblank_CheckTimes_l2_0_e1 a0 a1 ())) pm pn (ans := [.reg (.n :: []), .br false]) (by kernel_rfl) (by intro e; cases e) (an (an (ti trivial) (an (decide_eq_false h1945) trivial)) (ti trivial))
def nblank_CheckTimes (k : Nat) (a0 : SAnnealing) (a1 : (List Int)) : Option (Int × Int) :=
  (nblank_CheckAnnealing k a0).bind fun r1848 => (if r1848 = 0 then (if (a1.length : Int) = (w64 ((a0.Steps.length : Int) + 1)) then ((nblank_CheckTimes_l0_0 k a0 a1 k 0).bind fun r1875 => (match r1875 with | .inl r1876 => (some (r1876, 2)) | .inr r1877 => ((nblank_CheckTimes_l1_0 k a0 a1 k 0).bind fun r1920 => (match r1920 with | .inl r1921 => (some (r1921.1, r1921.2)) | .inr r1922 => ((nblank_CheckTimes_l2_0 k a0 a1 k 0).bind fun r1956 => (match r1956 with | .inl r1957 => (some (r1957, 26)) | .inr r1958 => (some (0, 0)))))))) else (some (0, 10))) else (some (0, r1848)))
theorem nblank_CheckTimes_ok (k : Nat) (a0 : SAnnealing) (a1 : (List Int)) (r : (Int × Int)) (h : nblank_CheckTimes k a0 a1 = some r) : VC Go.Proofs.Try.prog 42 [VV.ag (c_SAnnealing a0), VV.tr (List.map vi a1) a1.length] (VV.tu [vi r.1, vi r.2]) := by
 unfold nblank_CheckTimes at h
 obtain ⟨r1848, h1849, h⟩ := bs h
 have e1850 := (ti (an (nblank_CheckAnnealing_ok k a0 _ h1849) (ti trivial)))
 rcases ifs h with ⟨h1851, h⟩ | ⟨h1851, h⟩
 ·rcases ifs h with ⟨h1852, h⟩ | ⟨h1852, h⟩
  ·obtain ⟨r1875, h1874, h⟩ := bs h
   have hph1874 := nblank_CheckTimes_l0_0_ok k a0 a1 _ _ _ h1874
   cases r1875 with
   | inl r1876 =>
    dsimp only at h
    have e1878 := (an (ti trivial) (VRun.loop hph1874))
    injection h with h; subst h
    exact fun_ok pm pn Go.Proofs.Try.func42 (r0 := VV.tu [vi r1876, vi 2]) (ans := [.reg (nN 3 []), .reg (.n :: .call (vi r1848) :: .n :: []), .reg (.n :: .n :: []), .br false, .reg (nN 7 []), .br false, .reg (nN 3 []), .sub ⟨[(1, none), (2, none), (26, none), (27, none), (28, none)], [none], []⟩ .ret (nblank_CheckTimes_l0_0_e0 a0 a1 r1876)]) (fr := true) (by kernel_rfl) (an (an (ti (ti (ti trivial))) (an (an e1850 (an (ti (ti trivial)) (an (not_f (decide_eq_true h1851)) trivial))) (an (an (ti (ti (ti (ti (ti (ti (ti trivial))))))) (an (not_f (decide_eq_true h1852)) trivial)) (an (ti (ti (ti trivial))) e1878)))) (ti (ti trivial))) (Wv.refl _)
   | inr r1877 =>
    dsimp only at h
    have e1879 := (an (ti trivial) (VRun.loop hph1874))
    obtain ⟨r1920, h1919, h⟩ := bs h
    have hph1919 := nblank_CheckTimes_l1_0_ok k a0 a1 _ _ _ h1919
    cases r1920 with
    | inl r1921 =>
     dsimp only at h
     have e1923 := (an (ti trivial) (VRun.loop hph1919))
     injection h with h; subst h
     exact fun_ok pm pn Go.Proofs.Try.func42 (r0 := VV.tu [vi r1921.1, vi r1921.2]) (ans := [.reg (nN 3 []), .reg (.n :: .call (vi r1848) :: .n :: []), .reg (.n :: .n :: []), .br false, .reg (nN 7 []), .br false, .reg (nN 3 []), .sub ⟨[(1, none), (2, none), (26, none), (27, none), (28, none)], [none], []⟩ (.exit 0) (nblank_CheckTimes_l0_0_e1 a0 a1 r1877), .reg (nN 4 []), .sub ⟨[(1, none), (2, none), (39, none), (40, none), (41, none)], [none], []⟩ .ret (nblank_CheckTimes_l1_0_e0 a0 a1 r1921)]) (fr := true) (by kernel_rfl) (an (an (ti (ti (ti trivial))) (an (an e1850 (an (ti (ti trivial)) (an (not_f (decide_eq_true h1851)) trivial))) (an (an (ti (ti (ti (ti (ti (ti (ti trivial))))))) (an (not_f (decide_eq_true h1852)) trivial)) (an (an (ti (ti (ti trivial))) e1879) (an (ti (ti (ti (ti trivial)))) e1923))))) (ti (ti trivial))) (Wv.refl _)
    | inr r1922 =>
     dsimp only at h
     have e1924 := (an (ti trivial) (VRun.loop hph1919))
     obtain ⟨r1956, h1955, h⟩ := bs h
     have hph1955 := nblank_CheckTimes_l2_0_ok k a0 a1 _ _ _ h1955
     cases r1956 with
     | inl r1957 =>
      dsimp only at h
      have e1959 := (an (ti trivial) (VRun.loop hph1955))
      injection h with h; subst h
      exact fun_ok pm pn Go.Proofs.Try.func42 (r0 := VV.tu [vi r1957, vi 26]) (ans := [.reg (nN 3 []), .reg (.n :: .call (vi r1848) :: .n :: []), .reg (.n :: .n :: []), .br false, .reg (nN 7 []), .br false, .reg (nN 3 []), .sub ⟨[(1, none), (2, none), (26, none), (27, none), (28, none)], [none], []⟩ (.exit 0) (nblank_CheckTimes_l0_0_e1 a0 a1 r1877), .reg (nN 4 []), .sub ⟨[(1, none), (2, none), (39, none), (40, none), (41, none)], [none], []⟩ (.exit 2) (nblank_CheckTimes_l1_0_e1 a0 a1 r1922), .reg (nN 4 []), .sub ⟨[(1, none), (69, none), (70, none), (71, none)], [], []⟩ .ret (nblank_CheckTimes_l2_0_e0 a0 a1 r1957)]) (fr := true) (by kernel_rfl) (an (an (ti (ti (ti trivial))) (an (an e1850 (an (ti (ti trivial)) (an (not_f (decide_eq_true h1851)) trivial))) (an (an (ti (ti (ti (ti (ti (ti (ti trivial))))))) (an (not_f (decide_eq_true h1852)) trivial)) (an (an (ti (ti (ti trivial))) e1879) (an (an (ti (ti (ti (ti trivial)))) e1924) (an (ti (ti (ti (ti trivial)))) e1959)))))) (ti (ti trivial))) (Wv.refl _)
     | inr r1958 =>
      dsimp only at h
      have e1960 := (an (ti trivial) (VRun.loop hph1955))
      injection h with h; subst h
      exact fun_ok pm pn Go.Proofs.Try.func42 (r0 := VV.tu [vi 0, vi 0]) (ans := [.reg (nN 3 []), .reg (.n :: .call (vi r1848) :: .n :: []), .reg (.n :: .n :: []), .br false, .reg (nN 7 []), .br false, .reg (nN 3 []), .sub ⟨[(1, none), (2, none), (26, none), (27, none), (28, none)], [none], []⟩ (.exit 0) (nblank_CheckTimes_l0_0_e1 a0 a1 r1877), .reg (nN 4 []), .sub ⟨[(1, none), (2, none), (39, none), (40, none), (41, none)], [none], []⟩ (.exit 2) (nblank_CheckTimes_l1_0_e1 a0 a1 r1922), .reg (nN 4 []), .sub ⟨[(1, none), (69, none), (70, none), (71, none)], [], []⟩ (.exit 4) (nblank_CheckTimes_l2_0_e1 a0 a1 r1958), .reg (.n :: .n :: [])]) (fr := true) (by kernel_rfl) (an (an (ti (ti (ti trivial))) (an (an e1850 (an (ti (ti trivial)) (an (not_f (decide_eq_true h1851)) trivial))) (an (an (ti (ti (ti (ti (ti (ti (ti trivial))))))) (an (not_f (decide_eq_true h1852)) trivial)) (an (an (ti (ti (ti trivial))) e1879) (an (an (ti (ti (ti (ti trivial)))) e1924) (an (an (ti (ti (ti (ti trivial)))) e1960) (an (ti (ti trivial)) trivial))))))) (ti (ti trivial))) (Wv.refl _)
  ·injection h with h; subst h
   exact fun_ok pm pn Go.Proofs.Try.func42 (r0 := VV.tu [vi 0, vi 10]) (ans := [.reg (nN 3 []), .reg (.n :: .call (vi r1848) :: .n :: []), .reg (.n :: .n :: []), .br false, .reg (nN 7 []), .br true, .reg (.n :: .n :: [])]) (fr := true) (by kernel_rfl) (an (an (ti (ti (ti trivial))) (an (an e1850 (an (ti (ti trivial)) (an (not_f (decide_eq_true h1851)) trivial))) (an (ti (ti (ti (ti (ti (ti (ti trivial))))))) (an (not_t (decide_eq_false h1852)) (an (ti (ti trivial)) trivial))))) (ti (ti trivial))) (Wv.refl _)
 ·injection h with h; subst h
  exact fun_ok pm pn Go.Proofs.Try.func42 (r0 := VV.tu [vi 0, vi r1848]) (ans := [.reg (nN 3 []), .reg (.n :: .call (vi r1848) :: .n :: []), .reg (.n :: .n :: []), .br true, .reg (nN 3 [])]) (fr := true) (by kernel_rfl) (an (an (ti (ti (ti trivial))) (an e1850 (an (ti (ti trivial)) (an (not_t (decide_eq_false h1851)) (an (ti (ti (ti trivial))) trivial))))) (ti (ti trivial))) (Wv.refl _)
def arA8_2 (z0 : (List Int)) (z1 : Int) : List Ans := (.v (VV.tr (List.map vi z0) z0.length) :: nN 3 (.v (vi (z0.getD (w64 (z1 + 1)).toNat 0)) :: .v (VV.tr (List.map vi z0) z0.length) :: .n :: .n :: .v (vi (z0.getD z1.toNat 0)) :: .n :: .n :: []))
def nblank_Worst_1 (k : Nat) (a0 : Int) (q0_0 : (List Int)) : Option Int :=
  if 0 ≤ w64 (a0 + 1) ∧ w64 (a0 + 1) < (q0_0.length : Int) then (if 0 ≤ a0 ∧ a0 < (q0_0.length : Int) then (some (w64 ((q0_0.getD (w64 (a0 + 1)).toNat 0) - (q0_0.getD a0.toNat 0)))) else none) else none
theorem nblank_Worst_1_ok (k : Nat) (a0 : Int) (q0_0 : (List Int)) (r : Int) (h : nblank_Worst_1 k a0 q0_0 = some r) : VC Go.Proofs.Try.prog 81 [vi a0, VV.tp [VV.tr (List.map vi q0_0) q0_0.length] 0] (vi r) := by
 unfold nblank_Worst_1 at h
 have e1984 := (show loadL Go.Proofs.Try.prog 67 0 [VV.tr (List.map vi q0_0) q0_0.length] = some (VV.tr (List.map vi q0_0) q0_0.length) from (ld_one ag67 rfl))
 obtain ⟨h1985, h⟩ := ifn h
 have e1986 := (show loadL Go.Proofs.Try.prog 3 ((w64 (a0 + 1)).toNat * 1) (List.map vi q0_0) = some (vi (q0_0.getD (w64 (a0 + 1)).toNat 0)) from ld_map ag3 vi q0_0 0 h1985 (by omega))
 have e1987 := (show loadL Go.Proofs.Try.prog 67 0 [VV.tr (List.map vi q0_0) q0_0.length] = some (VV.tr (List.map vi q0_0) q0_0.length) from (ld_one ag67 rfl))
 obtain ⟨h1988, h⟩ := ifn h
 have e1989 := (show loadL Go.Proofs.Try.prog 3 (a0.toNat * 1) (List.map vi q0_0) = some (vi (q0_0.getD a0.toNat 0)) from ld_map ag3 vi q0_0 0 h1988 (by omega))
 have e1990 := (an e1984 (ti (ti (an h1985 (an e1986 (an e1987 (ti (an h1988 (an e1989 (ti (ti trivial)))))))))))
 injection h with h; subst h
 exact fun_ok pm pn Go.Proofs.Try.func81 (r0 := vi (w64 ((q0_0.getD (w64 (a0 + 1)).toNat 0) - (q0_0.getD a0.toNat 0)))) (ans := [.reg (.n :: []), .reg (arA8_2 q0_0 a0)]) (fr := true) (by kernel_rfl) (an (an (ti trivial) (an e1990 trivial)) (ti trivial)) (Wv.refl _)
def arA8_3 (z0 : Int) (z1 : Int) (z2 : Int) (z3 : Int) : List Ans := (.n :: .n :: .call (vi z0) :: .n :: .n :: .call (vi z1) :: nN 3 (.call (vi z2) :: .n :: .n :: .call (vi z3) :: .n :: .n :: []))
def nblank_Worst_l0_0_h (a0 : SAnnealing) (a1 : (List Int)) (x10 : Int) (x26 : Int) : VS := ⟨mkA [(2, VV.pt 0 0), (5, VV.pt 2 0), (9, VV.fn 81 [VV.tp [VV.tr (List.map vi a1) a1.length] 0]), (10, vi x10), (25, vi (a0.Steps.length : Int)), (26, vi x26)], [some ⟨true, 1, c_SAnnealing a0⟩, none, some ⟨true, 1, [vi 0, vi 0]⟩], .nil⟩
def nblank_Worst_l0_0_e0 (a0 : SAnnealing) (a1 : (List Int)) (r : Int) : VS := ⟨mkA [(2, VV.pt 0 0), (5, VV.pt 2 0), (9, VV.fn 81 [VV.tp [VV.tr (List.map vi a1) a1.length] 0]), (10, vi r)], [some ⟨true, 1, c_SAnnealing a0⟩, none, some ⟨true, 1, [vi 0, vi 0]⟩], .nil⟩
def nblank_Worst_l0_0 (k : Nat) (a0 : SAnnealing) (a1 : (List Int)) : Nat → Int → Int → Option (Int)
  | 0, _, _ => none
  | fuel + 1, x10, x26 => if x26 < (a0.Steps.length : Int) then ((nblank_minuteStress k a0 x26).bind fun r2087 => ((nblank_Worst_1 k x10 a1).bind fun r2090 => ((nblank_minuteStress k a0 x10).bind fun r2092 => ((nblank_Worst_1 k x26 a1).bind fun r2095 => (if (w64 (r2092 * r2095)) < (w64 (r2087 * r2090)) then (nblank_Worst_l0_0 k a0 a1 fuel x26 (w64 (x26 + 1))) else (nblank_Worst_l0_0 k a0 a1 fuel x10 (w64 (x26 + 1)))))))) else (some x10)
theorem nblank_Worst_l0_0_ok (k : Nat) (a0 : SAnnealing) (a1 : (List Int)) : ∀ (fuel : Nat) (x10 : Int) (x26 : Int) (r : Int), nblank_Worst_l0_0 k a0 a1 fuel x10 x26 = some r → (VLoop none Go.Proofs.Try.prog (szF Go.Proofs.Try.f43) (bodyOf Go.Proofs.Try.f43 0) (nblank_Worst_l0_0_h a0 a1 x10 x26) (.exit 0) (nblank_Worst_l0_0_e0 a0 a1 r)) := by
 intro fuel
 induction fuel with
 | zero => intro x10 x26 r h; rw [nblank_Worst_l0_0.eq_1] at h; cases h
 | succ fuel ih =>
  intro x10 x26 r h
  rw [nblank_Worst_l0_0.eq_2] at h
  rcases ifs h with ⟨h2086, h⟩ | ⟨h2086, h⟩
  ·obtain ⟨r2087, h2088, h⟩ := bs h
   have e2089 := (nblank_minuteStress_ok k a0 x26 _ h2088)
   obtain ⟨r2090, h2091, h⟩ := bs h
   obtain ⟨r2092, h2093, h⟩ := bs h
   have e2094 := (nblank_minuteStress_ok k a0 x10 _ h2093)
   obtain ⟨r2095, h2096, h⟩ := bs h
   have e2097 := (ti (ti (an e2089 (ti (ti (an (nblank_Worst_1_ok k x10 a1 _ h2091) (ti (ti (ti (an e2094 (ti (ti (an (nblank_Worst_1_ok k x26 a1 _ h2096) (ti (ti trivial)))))))))))))))
   rcases ifs h with ⟨h2098, h⟩ | ⟨h2098, h⟩
   ·have h2 := ih _ _ _ h
    obtain ⟨q, hv, hq⟩ := pkR (rd := none) (P := Go.Proofs.Try.prog) (fn := Go.Proofs.Try.f43) (k := 0) (s := (nblank_Worst_l0_0_h a0 a1 x10 x26)) (ans := [.reg (.n :: []), .br true, .reg (.n :: .n :: []), .reg (arA8_3 r2087 r2090 r2092 r2095), .br true, .reg (.n :: .n :: []), .reg (.n :: .n :: [])]) (c := ⟨[(2, none), (5, none), (9, none), (10, none), (25, none), (26, none)], [none, none, none], []⟩) (e := .normal) (s1 := (nblank_Worst_l0_0_h a0 a1 x26 (w64 (x26 + 1)))) (an (an (ti trivial) (an (an (decide_eq_true h2086) trivial) (an (an (ti (ti trivial)) (an e2097 (an (decide_eq_true h2098) (ti (ti trivial))))) (ti (ti trivial))))) (ti trivial)) (by kernel_rfl)
    exact round_next pm pn hv hq h2
   ·have h2 := ih _ _ _ h
    obtain ⟨q, hv, hq⟩ := pkR (rd := none) (P := Go.Proofs.Try.prog) (fn := Go.Proofs.Try.f43) (k := 0) (s := (nblank_Worst_l0_0_h a0 a1 x10 x26)) (ans := [.reg (.n :: []), .br true, .reg (.n :: .n :: []), .reg (arA8_3 r2087 r2090 r2092 r2095), .br false, .reg (.n :: .n :: [])]) (c := ⟨[(2, none), (5, none), (9, none), (10, none), (25, none), (26, none)], [none, none, none], []⟩) (e := .normal) (s1 := (nblank_Worst_l0_0_h a0 a1 x10 (w64 (x26 + 1)))) (an (an (ti trivial) (an (an (decide_eq_true h2086) trivial) (an (an (ti (ti trivial)) (an e2097 (an (decide_eq_false h2098) trivial))) (ti (ti trivial))))) (ti trivial)) (by kernel_rfl)
    exact round_next pm pn hv hq h2
  ·injection h with h; subst h
   exact round_stop (c := ⟨[(2, none), (5, none), (9, none), (10, none)], [none, none, none], []⟩) (s1 := (nblank_Worst_l0_0_e0 a0 a1 x10)) pm pn (ans := [.reg (.n :: []), .br false]) (by kernel_rfl) (by intro e; cases e) (an (an (ti trivial) (an (decide_eq_false h2086) trivial)) (ti trivial))
def arA8_4 (z0 : (List Int)) (z1 : (Int × Int)) : List Ans := (.n :: .v (VV.tr (List.map vi z0) z0.length) :: .call (VV.tu [vi z1.1, vi z1.2]) :: nN 5 [])
def arA8_5 (z0 : Int) (z1 : Int) (z2 : SRange) : List Ans := (nN 3 (.call (vi z0) :: .n :: .n :: .call (vi z1) :: .call (VV.ag (c_SRange z2)) :: nN 3 []))
theorem eqA8_0 (z0 : (Int × Int)) : VV.tu [vi 0, VV.ag [vi 0, vi 0], vi z0.2] = VV.tu [vi 0, VV.ag (c_SRange (⟨0, 0⟩ : SRange)), vi z0.2] := by first | rfl | (simp only [unfr_vi, List.map_cons, List.map_nil, un_i, unfr_c_SRange]; done) | (simp only [unfr_vi, List.map_cons, List.map_nil, un_i, unfr_c_SRange]; rfl) | (simp only [unfr_vi, List.map_cons, List.map_nil, un_i, unfr_c_SRange, c_SRange, List.length_cons, List.length_nil, List.length_append]; done)
def nblank_Worst (k : Nat) (a0 : SAnnealing) (a1 : (List Int)) : Option (Int × SRange × Int) :=
  (nblank_CheckTimes k a0 a1).bind fun r2048 => (if r2048.2 = 0 then ((nblank_Worst_l0_0 k a0 a1 k 0 0).bind fun r2100 => ((nblank_minuteStress k a0 r2100).bind fun r2102 => ((nblank_Worst_1 k r2100 a1).bind fun r2105 => ((nblank_enclose k r2102 r2105).bind fun r2107 => (some (r2100, r2107, 0)))))) else (some (0, (⟨0, 0⟩ : SRange), r2048.2)))
theorem nblank_Worst_ok (k : Nat) (a0 : SAnnealing) (a1 : (List Int)) (r : (Int × SRange × Int)) (h : nblank_Worst k a0 a1 = some r) : VC Go.Proofs.Try.prog 43 [VV.ag (c_SAnnealing a0), VV.tr (List.map vi a1) a1.length] (VV.tu [vi r.1, VV.ag (c_SRange r.2.1), vi r.2.2]) := by
 unfold nblank_Worst at h
 have e2047 := (show loadL Go.Proofs.Try.prog 67 0 [VV.tr (List.map vi a1) a1.length] = some (VV.tr (List.map vi a1) a1.length) from (ld_one ag67 rfl))
 obtain ⟨r2048, h2049, h⟩ := bs h
 have e2050 := (ti (an e2047 (an (nblank_CheckTimes_ok k a0 a1 _ h2049) (ti (ti (ti (ti (ti trivial))))))))
 rcases ifs h with ⟨h2051, h⟩ | ⟨h2051, h⟩
 ·obtain ⟨r2100, h2099, h⟩ := bs h
  have hph2099 := nblank_Worst_l0_0_ok k a0 a1 _ _ _ _ h2099
  have e2101 := (an (ti trivial) (VRun.loop hph2099))
  obtain ⟨r2102, h2103, h⟩ := bs h
  have e2104 := (nblank_minuteStress_ok k a0 r2100 _ h2103)
  obtain ⟨r2105, h2106, h⟩ := bs h
  obtain ⟨r2107, h2108, h⟩ := bs h
  have e2109 := (nblank_enclose_ok k r2102 r2105 _ h2108)
  have e2110 := (ti (ti (ti (an e2104 (ti (ti (an (nblank_Worst_1_ok k r2100 a1 _ h2106) (an e2109 (ti (ti (ti trivial)))))))))))
  injection h with h; subst h
  exact fun_ok pm pn Go.Proofs.Try.func43 (r0 := VV.tu [vi r2100, VV.ag (c_SRange r2107), vi 0]) (ans := [.reg (nN 5 []), .frz 1, .reg (arA8_4 a1 r2048), .reg (.n :: .n :: []), .br false, .reg (.n :: .n :: []), .reg (.n :: []), .reg (nN 4 []), .sub ⟨[(2, none), (5, none), (9, none), (10, none), (25, none), (26, none)], [none, none, none], []⟩ (.exit 0) (nblank_Worst_l0_0_e0 a0 a1 r2100), .reg (arA8_5 r2102 r2105 r2107)]) (fr := true) (by kernel_rfl) (an (an (ti (ti (ti (ti (ti trivial))))) (an (an e2050 (an (ti (ti trivial)) (an (not_f (decide_eq_true h2051)) trivial))) (an (ti (ti trivial)) (an (ti trivial) (an (an (ti (ti (ti (ti trivial)))) e2101) (an e2110 trivial)))))) (ti (an (ti (ti (ti trivial))) (ti trivial)))) (Wv.refl _)
 ·injection h with h; subst h
  exact fun_ok pm pn Go.Proofs.Try.func43 (r0 := VV.tu [vi 0, VV.ag [vi 0, vi 0], vi r2048.2]) (ans := [.reg (nN 5 []), .frz 1, .reg (arA8_4 a1 r2048), .reg (.n :: .n :: []), .br true, .reg (nN 5 [])]) (fr := true) (by kernel_rfl) (an (an (ti (ti (ti (ti (ti trivial))))) (an e2050 (an (ti (ti trivial)) (an (not_t (decide_eq_false h2051)) (an (ti (ti (ti (ti (ti trivial))))) trivial))))) (ti (an (ti (ti (ti trivial))) (ti trivial)))) (Wv.of_eq (eqA8_0 r2048))
def nspeculumref03_CheckTimes_l0_0_h (a0 : SAnnealing) (a1 : (List Int)) (x6 : Int) : VS := ⟨mkA [(1, VV.tr (List.map vi a1) a1.length), (2, VV.pt 0 0), (6, vi x6)], [some ⟨true, 1, c_SAnnealing a0⟩], .nil⟩
def nspeculumref03_CheckTimes_l0_0_e0 (a0 : SAnnealing) (a1 : (List Int)) (r : Int) : VS := ⟨mkA [(4, vi r), (5, vi 2)], [], .nil⟩
def nspeculumref03_CheckTimes_l0_0_e1 (a0 : SAnnealing) (a1 : (List Int)) (r : Unit) : VS := ⟨mkA [(1, VV.tr (List.map vi a1) a1.length), (2, VV.pt 0 0)], [some ⟨true, 1, c_SAnnealing a0⟩], .nil⟩
def nspeculumref03_CheckTimes_l0_0 (k : Nat) (a0 : SAnnealing) (a1 : (List Int)) : Nat → Int → Option (Sum Int Unit)
  | 0, _ => none
  | fuel + 1, x6 => if x6 < (a1.length : Int) then (if 0 ≤ x6 ∧ x6 < (a1.length : Int) then ((nspeculumbase_Within k (a1.getD x6.toNat 0) 0 10000000).bind fun r2256 => (if r2256 = true then (nspeculumref03_CheckTimes_l0_0 k a0 a1 fuel (w64 (x6 + 1))) else (some (.inl x6)))) else none) else (some (.inr ()))
theorem nspeculumref03_CheckTimes_l0_0_ok (k : Nat) (a0 : SAnnealing) (a1 : (List Int)) : ∀ (fuel : Nat) (x6 : Int) (r : Sum Int Unit), nspeculumref03_CheckTimes_l0_0 k a0 a1 fuel x6 = some r → (match r with | .inl r => VLoop none Go.Proofs.Try.prog (szF Go.Proofs.Try.f44) (bodyOf Go.Proofs.Try.f44 0) (nspeculumref03_CheckTimes_l0_0_h a0 a1 x6) .ret (nspeculumref03_CheckTimes_l0_0_e0 a0 a1 r) | .inr r => VLoop none Go.Proofs.Try.prog (szF Go.Proofs.Try.f44) (bodyOf Go.Proofs.Try.f44 0) (nspeculumref03_CheckTimes_l0_0_h a0 a1 x6) (.exit 0) (nspeculumref03_CheckTimes_l0_0_e1 a0 a1 r)) := by
 intro fuel
 induction fuel with
 | zero => intro x6 r h; rw [nspeculumref03_CheckTimes_l0_0.eq_1] at h; cases h
 | succ fuel ih =>
  intro x6 r h
  rw [nspeculumref03_CheckTimes_l0_0.eq_2] at h
  rcases ifs h with ⟨h2253, h⟩ | ⟨h2253, h⟩
  ·obtain ⟨h2254, h⟩ := ifn h
   have e2255 := (show loadL Go.Proofs.Try.prog 3 (x6.toNat * 1) (List.map vi a1) = some (vi (a1.getD x6.toNat 0)) from ld_map ag3 vi a1 0 h2254 (by omega))
   obtain ⟨r2256, h2257, h⟩ := bs h
   have e2258 := (nspeculumbase_Within_ok k (a1.getD x6.toNat 0) 0 10000000 _ h2257)
   have e2259 := (ti (ti (an h2254 (an e2255 (an e2258 (ti trivial))))))
   rcases ifs h with ⟨h2260, h⟩ | ⟨h2260, h⟩
   ·have h2 := ih _ _ h
    obtain ⟨q, hv, hq⟩ := pkR (rd := none) (P := Go.Proofs.Try.prog) (fn := Go.Proofs.Try.f44) (k := 0) (s := (nspeculumref03_CheckTimes_l0_0_h a0 a1 x6)) (ans := [.reg (nN 4 []), .br true, .reg (nN 3 (.v (vi (a1.getD x6.toNat 0)) :: .call (vb r2256) :: .n :: [])), .br false, .reg (nN 3 [])]) (c := ⟨[(1, none), (2, none), (6, none)], [none], []⟩) (e := .normal) (s1 := (nspeculumref03_CheckTimes_l0_0_h a0 a1 (w64 (x6 + 1)))) (an (an (an (ti (ti (ti (ti trivial)))) (an (decide_eq_true h2253) trivial)) (an (an e2259 (an (not_f h2260) trivial)) (ti (ti (ti trivial))))) (ti trivial)) (by kernel_rfl)
    cases r with
    | inl r => exact round_next pm pn hv hq h2
    | inr r =>
     exact round_next pm pn hv hq h2
   ·injection h with h; subst h
    exact round_stop (c := ⟨[(4, none), (5, none)], [], []⟩) (s1 := (nspeculumref03_CheckTimes_l0_0_e0 a0 a1 x6)) pm pn (ans := [.reg (nN 4 []), .br true, .reg (nN 3 (.v (vi (a1.getD x6.toNat 0)) :: .call (vb r2256) :: .n :: [])), .br true, .reg (nN 3 [])]) (by kernel_rfl) (by intro e; cases e) (an (an (an (ti (ti (ti (ti trivial)))) (an (decide_eq_true h2253) trivial)) (an e2259 (an (not_t (bool_f h2260)) (an (ti (ti (ti trivial))) trivial)))) (ti trivial))
  ·injection h with h; subst h
   exact round_stop (c := ⟨[(1, none), (2, none)], [none], []⟩) (s1 := (nspeculumref03_CheckTimes_l0_0_e1 a0 a1 ())) pm pn (ans := [.reg (nN 4 []), .br false]) (by kernel_rfl) (by intro e; cases e) (an (an (ti (ti (ti (ti trivial)))) (an (decide_eq_false h2253) trivial)) (ti trivial))
def nspeculumref03_CheckTimes_l1_0_h (a0 : SAnnealing) (a1 : (List Int)) (x7 : Int) : VS := ⟨mkA [(1, VV.tr (List.map vi a1) a1.length), (2, VV.pt 0 0), (7, vi x7)], [some ⟨true, 1, c_SAnnealing a0⟩], .nil⟩
def nspeculumref03_CheckTimes_l1_0_e0 (a0 : SAnnealing) (a1 : (List Int)) (r : Int × Int) : VS := ⟨mkA [(4, vi r.1), (5, vi r.2)], [], .nil⟩
def nspeculumref03_CheckTimes_l1_0_e1 (a0 : SAnnealing) (a1 : (List Int)) (r : Unit) : VS := ⟨mkA [(1, VV.tr (List.map vi a1) a1.length), (2, VV.pt 0 0)], [some ⟨true, 1, c_SAnnealing a0⟩], .nil⟩
def nspeculumref03_CheckTimes_l1_0 (k : Nat) (a0 : SAnnealing) (a1 : (List Int)) : Nat → Int → Option (Sum (Int × Int) Unit)
  | 0, _ => none
  | fuel + 1, x7 => if x7 < (a0.Steps.length : Int) then (if 0 ≤ w64 (x7 + 1) ∧ w64 (x7 + 1) < (a1.length : Int) then (if 0 ≤ x7 ∧ x7 < (a1.length : Int) then ((nspeculumref03_LeastMinutes k a0 x7).bind fun r2301 => (if (w64 ((a1.getD (w64 (x7 + 1)).toNat 0) - (a1.getD x7.toNat 0))) < r2301 then (some (.inl (x7, 19))) else (if 0 ≤ x7 ∧ x7 < (a0.Steps.length : Int) then (if ((a0.Steps.getD x7.toNat default).Most) < (w64 ((a1.getD (w64 (x7 + 1)).toNat 0) - (a1.getD x7.toNat 0))) then (some (.inl (x7, 18))) else (nspeculumref03_CheckTimes_l1_0 k a0 a1 fuel (w64 (x7 + 1)))) else none))) else none) else none) else (some (.inr ()))
theorem nspeculumref03_CheckTimes_l1_0_ok (k : Nat) (a0 : SAnnealing) (a1 : (List Int)) : ∀ (fuel : Nat) (x7 : Int) (r : Sum (Int × Int) Unit), nspeculumref03_CheckTimes_l1_0 k a0 a1 fuel x7 = some r → (match r with | .inl r => VLoop none Go.Proofs.Try.prog (szF Go.Proofs.Try.f44) (bodyOf Go.Proofs.Try.f44 1) (nspeculumref03_CheckTimes_l1_0_h a0 a1 x7) .ret (nspeculumref03_CheckTimes_l1_0_e0 a0 a1 r) | .inr r => VLoop none Go.Proofs.Try.prog (szF Go.Proofs.Try.f44) (bodyOf Go.Proofs.Try.f44 1) (nspeculumref03_CheckTimes_l1_0_h a0 a1 x7) (.exit 2) (nspeculumref03_CheckTimes_l1_0_e1 a0 a1 r)) := by
 intro fuel
 induction fuel with
 | zero => intro x7 r h; rw [nspeculumref03_CheckTimes_l1_0.eq_1] at h; cases h
 | succ fuel ih =>
  intro x7 r h
  rw [nspeculumref03_CheckTimes_l1_0.eq_2] at h
  rcases ifs h with ⟨h2295, h⟩ | ⟨h2295, h⟩
  ·obtain ⟨h2296, h⟩ := ifn h
   have e2297 := (show loadL Go.Proofs.Try.prog 3 ((w64 (x7 + 1)).toNat * 1) (List.map vi a1) = some (vi (a1.getD (w64 (x7 + 1)).toNat 0)) from ld_map ag3 vi a1 0 h2296 (by omega))
   obtain ⟨h2298, h⟩ := ifn h
   have e2299 := (show loadL Go.Proofs.Try.prog 3 (x7.toNat * 1) (List.map vi a1) = some (vi (a1.getD x7.toNat 0)) from ld_map ag3 vi a1 0 h2298 (by omega))
   have e2300 := (ti (ti (ti (an h2296 (an e2297 (ti (ti (an h2298 (an e2299 (ti (ti trivial)))))))))))
   obtain ⟨r2301, h2302, h⟩ := bs h
   have e2303 := (nspeculumref03_LeastMinutes_ok k a0 x7 _ h2302)
   rcases ifs h with ⟨h2304, h⟩ | ⟨h2304, h⟩
   ·injection h with h; subst h
    exact round_stop (c := ⟨[(4, none), (5, none)], [], []⟩) (s1 := (nspeculumref03_CheckTimes_l1_0_e0 a0 a1 (x7, 19))) pm pn (ans := [.reg (nN 5 []), .br true, .reg (arA8_0 a1 x7), .reg (nN 3 (.call (vi r2301) :: .n :: [])), .br true, .reg (nN 3 [])]) (by kernel_rfl) (by intro e; cases e) (an (an (an (ti (ti (ti (ti (ti trivial))))) (an (decide_eq_true h2295) trivial)) (an e2300 (an (ti (ti (ti (an e2303 (ti trivial))))) (an (decide_eq_true h2304) (an (ti (ti (ti trivial))) trivial))))) (ti trivial))
   ·obtain ⟨h2305, h⟩ := ifn h
    have e2306 := (show loadL Go.Proofs.Try.prog 3 (x7.toNat * 3 + 2) (List.flatMap c_SCoolStep a0.Steps) = some (vi ((a0.Steps.getD x7.toNat default).Most)) from (ld_flat ag3 c_SCoolStep 3 2 len_c_SCoolStep (by omega) a0.Steps default h2305 (by omega)).trans rfl)
    have e2307 := (ti (ti (ti (ti (an h2305 (ti (an e2306 (ti trivial))))))))
    rcases ifs h with ⟨h2308, h⟩ | ⟨h2308, h⟩
    ·injection h with h; subst h
     exact round_stop (c := ⟨[(4, none), (5, none)], [], []⟩) (s1 := (nspeculumref03_CheckTimes_l1_0_e0 a0 a1 (x7, 18))) pm pn (ans := [.reg (nN 5 []), .br true, .reg (arA8_0 a1 x7), .reg (nN 3 (.call (vi r2301) :: .n :: [])), .br false, .reg (nN 6 (.v (vi ((a0.Steps.getD x7.toNat default).Most)) :: .n :: [])), .br true, .reg (nN 3 [])]) (by kernel_rfl) (by intro e; cases e) (an (an (an (ti (ti (ti (ti (ti trivial))))) (an (decide_eq_true h2295) trivial)) (an e2300 (an (an (ti (ti (ti (an e2303 (ti trivial))))) (an (decide_eq_false h2304) trivial)) (an e2307 (an (decide_eq_true h2308) (an (ti (ti (ti trivial))) trivial)))))) (ti trivial))
    ·have h2 := ih _ _ h
     obtain ⟨q, hv, hq⟩ := pkR (rd := none) (P := Go.Proofs.Try.prog) (fn := Go.Proofs.Try.f44) (k := 1) (s := (nspeculumref03_CheckTimes_l1_0_h a0 a1 x7)) (ans := [.reg (nN 5 []), .br true, .reg (arA8_0 a1 x7), .reg (nN 3 (.call (vi r2301) :: .n :: [])), .br false, .reg (nN 6 (.v (vi ((a0.Steps.getD x7.toNat default).Most)) :: .n :: [])), .br false, .reg (nN 3 [])]) (c := ⟨[(1, none), (2, none), (7, none)], [none], []⟩) (e := .normal) (s1 := (nspeculumref03_CheckTimes_l1_0_h a0 a1 (w64 (x7 + 1)))) (an (an (an (ti (ti (ti (ti (ti trivial))))) (an (decide_eq_true h2295) trivial)) (an (an e2300 (an (an (ti (ti (ti (an e2303 (ti trivial))))) (an (decide_eq_false h2304) trivial)) (an e2307 (an (decide_eq_false h2308) trivial)))) (ti (ti (ti trivial))))) (ti trivial)) (by kernel_rfl)
     cases r with
     | inl r => exact round_next pm pn hv hq h2
     | inr r =>
      exact round_next pm pn hv hq h2
  ·injection h with h; subst h
   exact round_stop (c := ⟨[(1, none), (2, none)], [none], []⟩) (s1 := (nspeculumref03_CheckTimes_l1_0_e1 a0 a1 ())) pm pn (ans := [.reg (nN 5 []), .br false]) (by kernel_rfl) (by intro e; cases e) (an (an (ti (ti (ti (ti (ti trivial))))) (an (decide_eq_false h2295) trivial)) (ti trivial))
def nspeculumref03_CheckTimes_l2_0_h (a0 : SAnnealing) (a1 : (List Int)) (x9 : Int) : VS := ⟨mkA [(1, VV.tr (List.map vi a1) a1.length), (2, VV.pt 0 0), (9, vi x9)], [some ⟨true, 1, c_SAnnealing a0⟩], .nil⟩
def nspeculumref03_CheckTimes_l2_0_e0 (a0 : SAnnealing) (a1 : (List Int)) (r : Int) : VS := ⟨mkA [(4, vi r), (5, vi 26)], [], .nil⟩
def nspeculumref03_CheckTimes_l2_0_e1 (a0 : SAnnealing) (a1 : (List Int)) (r : Unit) : VS := ⟨mkA [], [], .nil⟩
def nspeculumref03_CheckTimes_l2_0 (k : Nat) (a0 : SAnnealing) (a1 : (List Int)) : Nat → Int → Option (Sum Int Unit)
  | 0, _ => none
  | fuel + 1, x9 => if x9 < (a0.Windows.length : Int) then (if 0 ≤ x9 ∧ x9 < (a0.Windows.length : Int) then (if 0 ≤ (a0.Windows.getD x9.toNat default).Level ∧ (a0.Windows.getD x9.toNat default).Level < (a1.length : Int) then ((nspeculumbase_Within k (a1.getD ((a0.Windows.getD x9.toNat default).Level).toNat 0) ((a0.Windows.getD x9.toNat default).From) ((a0.Windows.getD x9.toNat default).To)).bind fun r2343 => (if r2343 = true then (nspeculumref03_CheckTimes_l2_0 k a0 a1 fuel (w64 (x9 + 1))) else (some (.inl x9)))) else none) else none) else (some (.inr ()))
theorem nspeculumref03_CheckTimes_l2_0_ok (k : Nat) (a0 : SAnnealing) (a1 : (List Int)) : ∀ (fuel : Nat) (x9 : Int) (r : Sum Int Unit), nspeculumref03_CheckTimes_l2_0 k a0 a1 fuel x9 = some r → (match r with | .inl r => VLoop none Go.Proofs.Try.prog (szF Go.Proofs.Try.f44) (bodyOf Go.Proofs.Try.f44 2) (nspeculumref03_CheckTimes_l2_0_h a0 a1 x9) .ret (nspeculumref03_CheckTimes_l2_0_e0 a0 a1 r) | .inr r => VLoop none Go.Proofs.Try.prog (szF Go.Proofs.Try.f44) (bodyOf Go.Proofs.Try.f44 2) (nspeculumref03_CheckTimes_l2_0_h a0 a1 x9) (.exit 4) (nspeculumref03_CheckTimes_l2_0_e1 a0 a1 r)) := by
 intro fuel
 induction fuel with
 | zero => intro x9 r h; rw [nspeculumref03_CheckTimes_l2_0.eq_1] at h; cases h
 | succ fuel ih =>
  intro x9 r h
  rw [nspeculumref03_CheckTimes_l2_0.eq_2] at h
  rcases ifs h with ⟨h2337, h⟩ | ⟨h2337, h⟩
  ·obtain ⟨h2338, h⟩ := ifn h
   have e2339 := (show loadL Go.Proofs.Try.prog 85 (x9.toNat * 3) (List.flatMap c_SCoolWindow a0.Windows) = some (VV.ag (c_SCoolWindow (a0.Windows.getD x9.toNat default))) from ld_whole ag85 c_SCoolWindow 3 sz85 len_c_SCoolWindow a0.Windows default h2338 (by omega))
   have e2340 := (ti (ti (ti (an h2338 (an e2339 (ti (ti trivial)))))))
   obtain ⟨h2341, h⟩ := ifn h
   have e2342 := (show loadL Go.Proofs.Try.prog 3 (((a0.Windows.getD x9.toNat default).Level).toNat * 1) (List.map vi a1) = some (vi (a1.getD ((a0.Windows.getD x9.toNat default).Level).toNat 0)) from ld_map ag3 vi a1 0 h2341 (by omega))
   obtain ⟨r2343, h2344, h⟩ := bs h
   have e2345 := (nspeculumbase_Within_ok k (a1.getD ((a0.Windows.getD x9.toNat default).Level).toNat 0) ((a0.Windows.getD x9.toNat default).From) ((a0.Windows.getD x9.toNat default).To) _ h2344)
   have e2346 := (ti (ti (ti (an h2341 (an e2342 (ti (ti (ti (ti (an e2345 (ti trivial)))))))))))
   rcases ifs h with ⟨h2347, h⟩ | ⟨h2347, h⟩
   ·have h2 := ih _ _ h
    obtain ⟨q, hv, hq⟩ := pkR (rd := none) (P := Go.Proofs.Try.prog) (fn := Go.Proofs.Try.f44) (k := 2) (s := (nspeculumref03_CheckTimes_l2_0_h a0 a1 x9)) (ans := [.reg (nN 5 []), .br true, .reg (nN 4 (.v (VV.ag (c_SCoolWindow (a0.Windows.getD x9.toNat default))) :: .n :: .n :: [])), .reg (arA8_1 a1 a0 x9 r2343), .br false, .reg (nN 3 [])]) (c := ⟨[(1, none), (2, none), (9, none)], [none], []⟩) (e := .normal) (s1 := (nspeculumref03_CheckTimes_l2_0_h a0 a1 (w64 (x9 + 1)))) (an (an (an (ti (ti (ti (ti (ti trivial))))) (an (decide_eq_true h2337) trivial)) (an (an e2340 (an e2346 (an (not_f h2347) trivial))) (ti (ti (ti trivial))))) (ti trivial)) (by kernel_rfl)
    cases r with
    | inl r => exact round_next pm pn hv hq h2
    | inr r =>
     exact round_next pm pn hv hq h2
   ·injection h with h; subst h
    exact round_stop (c := ⟨[(4, none), (5, none)], [], []⟩) (s1 := (nspeculumref03_CheckTimes_l2_0_e0 a0 a1 x9)) pm pn (ans := [.reg (nN 5 []), .br true, .reg (nN 4 (.v (VV.ag (c_SCoolWindow (a0.Windows.getD x9.toNat default))) :: .n :: .n :: [])), .reg (arA8_1 a1 a0 x9 r2343), .br true, .reg (nN 3 [])]) (by kernel_rfl) (by intro e; cases e) (an (an (an (ti (ti (ti (ti (ti trivial))))) (an (decide_eq_true h2337) trivial)) (an e2340 (an e2346 (an (not_t (bool_f h2347)) (an (ti (ti (ti trivial))) trivial))))) (ti trivial))
  ·injection h with h; subst h
   exact round_stop (c := ⟨[], [], []⟩) (s1 := (nspeculumref03_CheckTimes_l2_0_e1 a0 a1 ())) pm pn (ans := [.reg (nN 5 []), .br false]) (by kernel_rfl) (by intro e; cases e) (an (an (ti (ti (ti (ti (ti trivial))))) (an (decide_eq_false h2337) trivial)) (ti trivial))
def nspeculumref03_CheckTimes (k : Nat) (a0 : SAnnealing) (a1 : (List Int)) : Option (Int × Int) :=
  if (a1.length : Int) = (w64 ((a0.Steps.length : Int) + 1)) then ((nspeculumref03_CheckTimes_l0_0 k a0 a1 k 0).bind fun r2262 => (match r2262 with | .inl r2263 => (some (r2263, 2)) | .inr r2264 => ((nspeculumref03_CheckTimes_l1_0 k a0 a1 k 0).bind fun r2310 => (match r2310 with | .inl r2311 => (some (r2311.1, r2311.2)) | .inr r2312 => ((nspeculumref03_CheckTimes_l2_0 k a0 a1 k 0).bind fun r2349 => (match r2349 with | .inl r2350 => (some (r2350, 26)) | .inr r2351 => (some (0, 0)))))))) else (some (0, 10))
theorem nspeculumref03_CheckTimes_ok (k : Nat) (a0 : SAnnealing) (a1 : (List Int)) (r : (Int × Int)) (h : nspeculumref03_CheckTimes k a0 a1 = some r) : VC Go.Proofs.Try.prog 44 [VV.ag (c_SAnnealing a0), VV.tr (List.map vi a1) a1.length] (VV.tu [vi r.1, vi r.2]) := by
 unfold nspeculumref03_CheckTimes at h
 rcases ifs h with ⟨h2236, h⟩ | ⟨h2236, h⟩
 ·obtain ⟨r2262, h2261, h⟩ := bs h
  have hph2261 := nspeculumref03_CheckTimes_l0_0_ok k a0 a1 _ _ _ h2261
  cases r2262 with
  | inl r2263 =>
   dsimp only at h
   have e2265 := (an (ti trivial) (VRun.loop hph2261))
   injection h with h; subst h
   exact fun_ok pm pn Go.Proofs.Try.func44 (r0 := VV.tu [vi r2263, vi 2]) (ans := [.reg (nN 3 []), .reg (nN 7 []), .br false, .reg (.n :: []), .sub ⟨[(1, none), (2, none), (6, none)], [none], []⟩ .ret (nspeculumref03_CheckTimes_l0_0_e0 a0 a1 r2263)]) (fr := true) (by kernel_rfl) (an (an (ti (ti (ti trivial))) (an (an (ti (ti (ti (ti (ti (ti (ti trivial))))))) (an (not_f (decide_eq_true h2236)) trivial)) (an (ti trivial) e2265))) (ti (ti trivial))) (Wv.refl _)
  | inr r2264 =>
   dsimp only at h
   have e2266 := (an (ti trivial) (VRun.loop hph2261))
   obtain ⟨r2310, h2309, h⟩ := bs h
   have hph2309 := nspeculumref03_CheckTimes_l1_0_ok k a0 a1 _ _ _ h2309
   cases r2310 with
   | inl r2311 =>
    dsimp only at h
    have e2313 := (an (ti trivial) (VRun.loop hph2309))
    injection h with h; subst h
    exact fun_ok pm pn Go.Proofs.Try.func44 (r0 := VV.tu [vi r2311.1, vi r2311.2]) (ans := [.reg (nN 3 []), .reg (nN 7 []), .br false, .reg (.n :: []), .sub ⟨[(1, none), (2, none), (6, none)], [none], []⟩ (.exit 0) (nspeculumref03_CheckTimes_l0_0_e1 a0 a1 r2264), .reg (.n :: []), .sub ⟨[(1, none), (2, none), (7, none)], [none], []⟩ .ret (nspeculumref03_CheckTimes_l1_0_e0 a0 a1 r2311)]) (fr := true) (by kernel_rfl) (an (an (ti (ti (ti trivial))) (an (an (ti (ti (ti (ti (ti (ti (ti trivial))))))) (an (not_f (decide_eq_true h2236)) trivial)) (an (an (ti trivial) e2266) (an (ti trivial) e2313)))) (ti (ti trivial))) (Wv.refl _)
   | inr r2312 =>
    dsimp only at h
    have e2314 := (an (ti trivial) (VRun.loop hph2309))
    obtain ⟨r2349, h2348, h⟩ := bs h
    have hph2348 := nspeculumref03_CheckTimes_l2_0_ok k a0 a1 _ _ _ h2348
    cases r2349 with
    | inl r2350 =>
     dsimp only at h
     have e2352 := (an (ti trivial) (VRun.loop hph2348))
     injection h with h; subst h
     exact fun_ok pm pn Go.Proofs.Try.func44 (r0 := VV.tu [vi r2350, vi 26]) (ans := [.reg (nN 3 []), .reg (nN 7 []), .br false, .reg (.n :: []), .sub ⟨[(1, none), (2, none), (6, none)], [none], []⟩ (.exit 0) (nspeculumref03_CheckTimes_l0_0_e1 a0 a1 r2264), .reg (.n :: []), .sub ⟨[(1, none), (2, none), (7, none)], [none], []⟩ (.exit 2) (nspeculumref03_CheckTimes_l1_0_e1 a0 a1 r2312), .reg (.n :: []), .sub ⟨[(1, none), (2, none), (9, none)], [none], []⟩ .ret (nspeculumref03_CheckTimes_l2_0_e0 a0 a1 r2350)]) (fr := true) (by kernel_rfl) (an (an (ti (ti (ti trivial))) (an (an (ti (ti (ti (ti (ti (ti (ti trivial))))))) (an (not_f (decide_eq_true h2236)) trivial)) (an (an (ti trivial) e2266) (an (an (ti trivial) e2314) (an (ti trivial) e2352))))) (ti (ti trivial))) (Wv.refl _)
    | inr r2351 =>
     dsimp only at h
     have e2353 := (an (ti trivial) (VRun.loop hph2348))
     injection h with h; subst h
     exact fun_ok pm pn Go.Proofs.Try.func44 (r0 := VV.tu [vi 0, vi 0]) (ans := [.reg (nN 3 []), .reg (nN 7 []), .br false, .reg (.n :: []), .sub ⟨[(1, none), (2, none), (6, none)], [none], []⟩ (.exit 0) (nspeculumref03_CheckTimes_l0_0_e1 a0 a1 r2264), .reg (.n :: []), .sub ⟨[(1, none), (2, none), (7, none)], [none], []⟩ (.exit 2) (nspeculumref03_CheckTimes_l1_0_e1 a0 a1 r2312), .reg (.n :: []), .sub ⟨[(1, none), (2, none), (9, none)], [none], []⟩ (.exit 4) (nspeculumref03_CheckTimes_l2_0_e1 a0 a1 r2351), .reg (.n :: .n :: [])]) (fr := true) (by kernel_rfl) (an (an (ti (ti (ti trivial))) (an (an (ti (ti (ti (ti (ti (ti (ti trivial))))))) (an (not_f (decide_eq_true h2236)) trivial)) (an (an (ti trivial) e2266) (an (an (ti trivial) e2314) (an (an (ti trivial) e2353) (an (ti (ti trivial)) trivial)))))) (ti (ti trivial))) (Wv.refl _)
 ·injection h with h; subst h
  exact fun_ok pm pn Go.Proofs.Try.func44 (r0 := VV.tu [vi 0, vi 10]) (ans := [.reg (nN 3 []), .reg (nN 7 []), .br true, .reg (.n :: .n :: [])]) (fr := true) (by kernel_rfl) (an (an (ti (ti (ti trivial))) (an (ti (ti (ti (ti (ti (ti (ti trivial))))))) (an (not_t (decide_eq_false h2236)) (an (ti (ti trivial)) trivial)))) (ti (ti trivial))) (Wv.refl _)
def arA8_6 (z0 : Int) (z1 : (List Int)) (z2 : Int) (z3 : Int) (z4 : Int) : List Ans := (.n :: .n :: .call (vi z0) :: nN 4 (.v (vi (z1.getD (w64 (z2 + 1)).toNat 0)) :: nN 3 (.v (vi (z1.getD z2.toNat 0)) :: nN 4 (.call (vi z3) :: nN 4 (.v (vi (z1.getD (w64 (z4 + 1)).toNat 0)) :: nN 3 (.v (vi (z1.getD z4.toNat 0)) :: nN 3 []))))))
def nspeculumref03_Worst_l0_0_h (a0 : SAnnealing) (a1 : (List Int)) (x5 : Int) (x6 : Int) : VS := ⟨mkA [(1, VV.tr (List.map vi a1) a1.length), (2, VV.pt 0 0), (5, vi x5), (6, vi x6)], [some ⟨true, 1, c_SAnnealing a0⟩], .nil⟩
def nspeculumref03_Worst_l0_0_e0 (a0 : SAnnealing) (a1 : (List Int)) (r : Int) : VS := ⟨mkA [(5, vi r)], [], .nil⟩
def nspeculumref03_Worst_l0_0 (k : Nat) (a0 : SAnnealing) (a1 : (List Int)) : Nat → Int → Int → Option (Int)
  | 0, _, _ => none
  | fuel + 1, x5, x6 => if x6 < (a0.Steps.length : Int) then ((nspeculumref03_Work k a0 x6).bind fun r2448 => (if 0 ≤ w64 (x5 + 1) ∧ w64 (x5 + 1) < (a1.length : Int) then (if 0 ≤ x5 ∧ x5 < (a1.length : Int) then ((nspeculumref03_Work k a0 x5).bind fun r2455 => (if 0 ≤ w64 (x6 + 1) ∧ w64 (x6 + 1) < (a1.length : Int) then (if 0 ≤ x6 ∧ x6 < (a1.length : Int) then (if (w64 (r2455 * (w64 ((a1.getD (w64 (x6 + 1)).toNat 0) - (a1.getD x6.toNat 0))))) < (w64 (r2448 * (w64 ((a1.getD (w64 (x5 + 1)).toNat 0) - (a1.getD x5.toNat 0))))) then (nspeculumref03_Worst_l0_0 k a0 a1 fuel x6 (w64 (x6 + 1))) else (nspeculumref03_Worst_l0_0 k a0 a1 fuel x5 (w64 (x6 + 1)))) else none) else none)) else none) else none)) else (some x5)
theorem nspeculumref03_Worst_l0_0_ok (k : Nat) (a0 : SAnnealing) (a1 : (List Int)) : ∀ (fuel : Nat) (x5 : Int) (x6 : Int) (r : Int), nspeculumref03_Worst_l0_0 k a0 a1 fuel x5 x6 = some r → (VLoop none Go.Proofs.Try.prog (szF Go.Proofs.Try.f45) (bodyOf Go.Proofs.Try.f45 0) (nspeculumref03_Worst_l0_0_h a0 a1 x5 x6) (.exit 0) (nspeculumref03_Worst_l0_0_e0 a0 a1 r)) := by
 intro fuel
 induction fuel with
 | zero => intro x5 x6 r h; rw [nspeculumref03_Worst_l0_0.eq_1] at h; cases h
 | succ fuel ih =>
  intro x5 x6 r h
  rw [nspeculumref03_Worst_l0_0.eq_2] at h
  rcases ifs h with ⟨h2447, h⟩ | ⟨h2447, h⟩
  ·obtain ⟨r2448, h2449, h⟩ := bs h
   have e2450 := (nspeculumref03_Work_ok k a0 x6 _ h2449)
   obtain ⟨h2451, h⟩ := ifn h
   have e2452 := (show loadL Go.Proofs.Try.prog 3 ((w64 (x5 + 1)).toNat * 1) (List.map vi a1) = some (vi (a1.getD (w64 (x5 + 1)).toNat 0)) from ld_map ag3 vi a1 0 h2451 (by omega))
   obtain ⟨h2453, h⟩ := ifn h
   have e2454 := (show loadL Go.Proofs.Try.prog 3 (x5.toNat * 1) (List.map vi a1) = some (vi (a1.getD x5.toNat 0)) from ld_map ag3 vi a1 0 h2453 (by omega))
   obtain ⟨r2455, h2456, h⟩ := bs h
   have e2457 := (nspeculumref03_Work_ok k a0 x5 _ h2456)
   obtain ⟨h2458, h⟩ := ifn h
   have e2459 := (show loadL Go.Proofs.Try.prog 3 ((w64 (x6 + 1)).toNat * 1) (List.map vi a1) = some (vi (a1.getD (w64 (x6 + 1)).toNat 0)) from ld_map ag3 vi a1 0 h2458 (by omega))
   obtain ⟨h2460, h⟩ := ifn h
   have e2461 := (show loadL Go.Proofs.Try.prog 3 (x6.toNat * 1) (List.map vi a1) = some (vi (a1.getD x6.toNat 0)) from ld_map ag3 vi a1 0 h2460 (by omega))
   have e2462 := (ti (ti (an e2450 (ti (ti (ti (an h2451 (an e2452 (ti (ti (an h2453 (an e2454 (ti (ti (ti (ti (an e2457 (ti (ti (ti (an h2458 (an e2459 (ti (ti (an h2460 (an e2461 (ti (ti (ti trivial)))))))))))))))))))))))))))))
   rcases ifs h with ⟨h2463, h⟩ | ⟨h2463, h⟩
   ·have h2 := ih _ _ _ h
    obtain ⟨q, hv, hq⟩ := pkR (rd := none) (P := Go.Proofs.Try.prog) (fn := Go.Proofs.Try.f45) (k := 0) (s := (nspeculumref03_Worst_l0_0_h a0 a1 x5 x6)) (ans := [.reg (nN 5 []), .br true, .reg (arA8_6 r2448 a1 x5 r2455 x6), .br true, .reg (.n :: .n :: []), .reg (nN 3 [])]) (c := ⟨[(1, none), (2, none), (5, none), (6, none)], [none], []⟩) (e := .normal) (s1 := (nspeculumref03_Worst_l0_0_h a0 a1 x6 (w64 (x6 + 1)))) (an (an (an (ti (ti (ti (ti (ti trivial))))) (an (decide_eq_true h2447) trivial)) (an (an e2462 (an (decide_eq_true h2463) (ti (ti trivial)))) (ti (ti (ti trivial))))) (ti trivial)) (by kernel_rfl)
    exact round_next pm pn hv hq h2
   ·have h2 := ih _ _ _ h
    obtain ⟨q, hv, hq⟩ := pkR (rd := none) (P := Go.Proofs.Try.prog) (fn := Go.Proofs.Try.f45) (k := 0) (s := (nspeculumref03_Worst_l0_0_h a0 a1 x5 x6)) (ans := [.reg (nN 5 []), .br true, .reg (arA8_6 r2448 a1 x5 r2455 x6), .br false, .reg (nN 3 [])]) (c := ⟨[(1, none), (2, none), (5, none), (6, none)], [none], []⟩) (e := .normal) (s1 := (nspeculumref03_Worst_l0_0_h a0 a1 x5 (w64 (x6 + 1)))) (an (an (an (ti (ti (ti (ti (ti trivial))))) (an (decide_eq_true h2447) trivial)) (an (an e2462 (an (decide_eq_false h2463) trivial)) (ti (ti (ti trivial))))) (ti trivial)) (by kernel_rfl)
    exact round_next pm pn hv hq h2
  ·injection h with h; subst h
   exact round_stop (c := ⟨[(5, none)], [], []⟩) (s1 := (nspeculumref03_Worst_l0_0_e0 a0 a1 x5)) pm pn (ans := [.reg (nN 5 []), .br false]) (by kernel_rfl) (by intro e; cases e) (an (an (ti (ti (ti (ti (ti trivial))))) (an (decide_eq_false h2447) trivial)) (ti trivial))
def nspeculumref03_Worst (k : Nat) (a0 : SAnnealing) (a1 : (List Int)) : Option Int :=
  (nspeculumref03_Worst_l0_0 k a0 a1 k 0 1).bind fun r2465 => (some r2465)
theorem nspeculumref03_Worst_ok (k : Nat) (a0 : SAnnealing) (a1 : (List Int)) (r : Int) (h : nspeculumref03_Worst k a0 a1 = some r) : VC Go.Proofs.Try.prog 45 [VV.ag (c_SAnnealing a0), VV.tr (List.map vi a1) a1.length] (vi r) := by
 unfold nspeculumref03_Worst at h
 obtain ⟨r2465, h2464, h⟩ := bs h
 have hph2464 := nspeculumref03_Worst_l0_0_ok k a0 a1 _ _ _ _ h2464
 have e2466 := (an (ti trivial) (VRun.loop hph2464))
 injection h with h; subst h
 exact fun_ok pm pn Go.Proofs.Try.func45 (r0 := vi r2465) (ans := [.reg (.n :: .n :: []), .reg (.n :: []), .reg (.n :: []), .sub ⟨[(1, none), (2, none), (5, none), (6, none)], [none], []⟩ (.exit 0) (nspeculumref03_Worst_l0_0_e0 a0 a1 r2465), .reg (.n :: .n :: [])]) (fr := true) (by kernel_rfl) (an (an (ti (ti trivial)) (an (ti trivial) (an (an (ti trivial) e2466) (an (ti (ti trivial)) trivial)))) (ti trivial)) (Wv.refl _)
def arA8_7 (z0 : ((List Int) × (List Int) × Int)) (z1 : Int) (z2 : (List Int)) : List Ans := (nN 3 (.v (vi (z0.1.getD z1.toNat 0)) :: nN 3 (.v (vi (z2.getD z1.toNat 0)) :: .n :: [])))
def nspeculumlaw03_BlankTimes_l0_0_h (a1 : (List Int)) (r2639 : ((List Int) × (List Int) × Int)) (x17 : Int) : VS := ⟨mkA [(1, VV.tr (List.map vi a1) a1.length), (14, VV.fr (List.map vi r2639.1) r2639.1.length), (17, vi x17)], [], .nil⟩
def nspeculumlaw03_BlankTimes_l0_0_e0 (a1 : (List Int)) (r2639 : ((List Int) × (List Int) × Int)) (r : Unit) : VS := ⟨mkA [(4, vb false)], [], .nil⟩
def nspeculumlaw03_BlankTimes_l0_0_e1 (a1 : (List Int)) (r2639 : ((List Int) × (List Int) × Int)) (r : Unit) : VS := ⟨mkA [], [], .nil⟩
def nspeculumlaw03_BlankTimes_l0_0 (k : Nat) (a1 : (List Int)) (r2639 : ((List Int) × (List Int) × Int)) : Nat → Int → Option (Sum Unit Unit)
  | 0, _ => none
  | fuel + 1, x17 => if x17 < (r2639.1.length : Int) then (if 0 ≤ x17 ∧ x17 < (r2639.1.length : Int) then (if 0 ≤ x17 ∧ x17 < (a1.length : Int) then (if (a1.getD x17.toNat 0) < (r2639.1.getD x17.toNat 0) then (some (.inl ())) else (nspeculumlaw03_BlankTimes_l0_0 k a1 r2639 fuel (w64 (x17 + 1)))) else none) else none) else (some (.inr ()))
theorem nspeculumlaw03_BlankTimes_l0_0_ok (k : Nat) (a1 : (List Int)) (r2639 : ((List Int) × (List Int) × Int)) : ∀ (fuel : Nat) (x17 : Int) (r : Sum Unit Unit), nspeculumlaw03_BlankTimes_l0_0 k a1 r2639 fuel x17 = some r → (match r with | .inl r => VLoop none Go.Proofs.Try.prog (szF Go.Proofs.Try.f9) (bodyOf Go.Proofs.Try.f9 0) (nspeculumlaw03_BlankTimes_l0_0_h a1 r2639 x17) .ret (nspeculumlaw03_BlankTimes_l0_0_e0 a1 r2639 r) | .inr r => VLoop none Go.Proofs.Try.prog (szF Go.Proofs.Try.f9) (bodyOf Go.Proofs.Try.f9 0) (nspeculumlaw03_BlankTimes_l0_0_h a1 r2639 x17) (.exit 0) (nspeculumlaw03_BlankTimes_l0_0_e1 a1 r2639 r)) := by
 intro fuel
 induction fuel with
 | zero => intro x17 r h; rw [nspeculumlaw03_BlankTimes_l0_0.eq_1] at h; cases h
 | succ fuel ih =>
  intro x17 r h
  rw [nspeculumlaw03_BlankTimes_l0_0.eq_2] at h
  rcases ifs h with ⟨h2668, h⟩ | ⟨h2668, h⟩
  ·obtain ⟨h2669, h⟩ := ifn h
   have e2670 := (show loadL Go.Proofs.Try.prog 3 (x17.toNat * 1) (List.map vi r2639.1) = some (vi (r2639.1.getD x17.toNat 0)) from ld_map ag3 vi r2639.1 0 h2669 (by omega))
   obtain ⟨h2671, h⟩ := ifn h
   have e2672 := (show loadL Go.Proofs.Try.prog 3 (x17.toNat * 1) (List.map vi a1) = some (vi (a1.getD x17.toNat 0)) from ld_map ag3 vi a1 0 h2671 (by omega))
   have e2673 := (ti (ti (an h2669 (an e2670 (ti (ti (an h2671 (an e2672 (ti trivial)))))))))
   rcases ifs h with ⟨h2674, h⟩ | ⟨h2674, h⟩
   ·injection h with h; subst h
    exact round_stop (c := ⟨[(4, none)], [], []⟩) (s1 := (nspeculumlaw03_BlankTimes_l0_0_e0 a1 r2639 ())) pm pn (ans := [.reg (nN 4 []), .br true, .reg (arA8_7 r2639 x17 a1), .br true, .reg (.n :: [])]) (by kernel_rfl) (by intro e; cases e) (an (an (an (ti (ti (ti (ti trivial)))) (an (decide_eq_true h2668) trivial)) (an e2673 (an (decide_eq_true h2674) (an (ti trivial) trivial)))) (ti trivial))
   ·have h2 := ih _ _ h
    obtain ⟨q, hv, hq⟩ := pkR (rd := none) (P := Go.Proofs.Try.prog) (fn := Go.Proofs.Try.f9) (k := 0) (s := (nspeculumlaw03_BlankTimes_l0_0_h a1 r2639 x17)) (ans := [.reg (nN 4 []), .br true, .reg (arA8_7 r2639 x17 a1), .br false, .reg (nN 3 [])]) (c := ⟨[(1, none), (14, none), (17, none)], [], []⟩) (e := .normal) (s1 := (nspeculumlaw03_BlankTimes_l0_0_h a1 r2639 (w64 (x17 + 1)))) (an (an (an (ti (ti (ti (ti trivial)))) (an (decide_eq_true h2668) trivial)) (an (an e2673 (an (decide_eq_false h2674) trivial)) (ti (ti (ti trivial))))) (ti trivial)) (by kernel_rfl)
    cases r with
    | inl r => exact round_next pm pn hv hq h2
    | inr r =>
     exact round_next pm pn hv hq h2
  ·injection h with h; subst h
   exact round_stop (c := ⟨[], [], []⟩) (s1 := (nspeculumlaw03_BlankTimes_l0_0_e1 a1 r2639 ())) pm pn (ans := [.reg (nN 4 []), .br false]) (by kernel_rfl) (by intro e; cases e) (an (an (ti (ti (ti (ti trivial)))) (an (decide_eq_false h2668) trivial)) (ti trivial))
def arA8_8 (z0 : SAnnealing) (z1 : (List Int)) (z2 : (Int × Int)) : List Ans := (.n :: .call (VV.ag (g_SAnnealing z0)) :: .n :: .call (VV.fr (List.map vi z1) z1.length) :: .call (VV.tu [vi z2.1, vi z2.2]) :: nN 5 [])
def arA8_9 (z0 : SAnnealing) (z1 : (List Int)) (z2 : (Int × SRange × Int)) : List Ans := (.n :: .call (VV.ag (g_SAnnealing z0)) :: .n :: .call (VV.fr (List.map vi z1) z1.length) :: .call (VV.tu [vi z2.1, VV.ag (c_SRange z2.2.1), vi z2.2.2]) :: nN 8 [])
def arA8_10 (z0 : Int) (z1 : (List Int)) (z2 : Int) (z3 : SRange) : List Ans := (nN 6 (.b false :: nN 4 (.call (vi z0) :: nN 4 (.v (vi (z1.getD (w64 (z2 + 1)).toNat 0)) :: nN 3 (.v (vi (z1.getD z2.toNat 0)) :: .n :: .call (VV.ag (c_SRange z3)) :: .n :: .b false :: [])))))
def arA8_11 (z0 : SAnnealing) (z1 : ((List Int) × (List Int) × Int)) : List Ans := (.n :: .call (VV.ag (g_SAnnealing z0)) :: .call (VV.tu [VV.fr (List.map vi z1.1) z1.1.length, VV.fr (List.map vi z1.2.1) z1.2.1.length, vi z1.2.2]) :: nN 7 [])
def arA8_12  : List Ans := (nN 7 (.b true :: nN 3 (.b true :: .n :: .skip :: .skip :: .b false :: .n :: nS 3 (.b false :: .n :: []))))
def arA8_13  : List Ans := (nN 7 (.b true :: .n :: .skip :: .skip :: .b false :: .n :: .skip :: .skip :: .b false :: .n :: nS 3 (.b false :: .n :: [])))
def arA8_14  : List Ans := (nN 4 (nS 3 (.b false :: .n :: .skip :: .skip :: .b false :: .n :: .skip :: .skip :: .b false :: .n :: nS 3 (.b false :: .n :: []))))
def nspeculumlaw03_BlankTimes (k : Nat) (a0 : SAnnealing) (a1 : (List Int)) : Option Bool :=
  (nawake k).bind fun r2565 => (if r2565 = true then ((nspeculumlaw03_Light k a0).bind fun r2568 => (if r2568 = true then (if 12 < (a1.length : Int) then (some true) else ((nspeculumlaw03_own k a0).bind fun r2573 => ((nspeculumbase_CopyInts k a1).bind fun r2576 => ((nblank_CheckTimes k r2573 r2576).bind fun r2579 => ((nblank_Worst k r2573 r2576).bind fun r2587 => ((nspeculumref03_CheckAnnealing k a0).bind fun r2590 => (if r2590 = 0 then ((nspeculumref03_CheckTimes k a0 a1).bind fun r2594 => (if r2579.2 = r2594.2 then (if r2579.1 = r2594.1 then (if r2594.2 = 0 then ((nspeculumref03_Worst k a0 a1).bind fun r2605 => (if r2587.2.2 = 0 then (if r2587.1 = r2605 then ((nspeculumref03_Work k a0 r2605).bind fun r2616 => (if 0 ≤ w64 (r2605 + 1) ∧ w64 (r2605 + 1) < (a1.length : Int) then (if 0 ≤ r2605 ∧ r2605 < (a1.length : Int) then ((nspeculumref03_Rounded k r2616 (w64 ((a1.getD (w64 (r2605 + 1)).toNat 0) - (a1.getD r2605.toNat 0)))).bind fun r2631 => (if ((r2587.2.1.Lo : Int) == r2631.Lo && ((r2587.2.1.Hi : Int) == r2631.Hi && true)) = true then ((nblank_Earliest k r2573).bind fun r2639 => (if r2639.2.2 = 0 then (if (r2639.2.1.length : Int) = 0 then (if (r2639.1.length : Int) = (a1.length : Int) then ((nspeculumlaw03_BlankTimes_l0_0 k a1 r2639 k 0).bind fun r2676 => (match r2676 with | .inl r2677 => (some false) | .inr r2678 => (some true))) else (some false)) else (some false)) else (some false))) else (some false))) else none) else none)) else (some false)) else (some false))) else (if r2587.2.2 = r2594.2 then (if r2587.1 = 0 then (some ((r2587.2.1.Lo : Int) == 0 && ((r2587.2.1.Hi : Int) == 0 && true))) else (some false)) else (some false))) else (some false)) else (some false))) else (if r2579.2 = r2590 then (if r2587.2.2 = r2590 then (if r2579.1 = 0 then (if r2587.1 = 0 then (some ((r2587.2.1.Lo : Int) == 0 && ((r2587.2.1.Hi : Int) == 0 && true))) else (some false)) else (some false)) else (some false)) else (some false))))))))) else (some true))) else (some false))
theorem nspeculumlaw03_BlankTimes_ok (k : Nat) (a0 : SAnnealing) (a1 : (List Int)) (r : Bool) (h : nspeculumlaw03_BlankTimes k a0 a1 = some r) : VC Go.Proofs.Try.prog 9 [VV.ag (c_SAnnealing a0), VV.tr (List.map vi a1) a1.length] (vb r) := by
 unfold nspeculumlaw03_BlankTimes at h
 obtain ⟨r2565, h2566, h⟩ := bs h
 rcases ifs h with ⟨h2567, h⟩ | ⟨h2567, h⟩
 ·obtain ⟨r2568, h2569, h⟩ := bs h
  rcases ifs h with ⟨h2570, h⟩ | ⟨h2570, h⟩
  ·have e2571 := (ti (an (nspeculumlaw03_Light_ok k a0 _ h2569) (ti (ti (an (an (not_f h2570) trivial) (an (an (not_f h2570) trivial) (an (an (not_f h2570) trivial) (an (not_f h2570) trivial))))))))
   rcases ifs h with ⟨h2572, h⟩ | ⟨h2572, h⟩
   ·injection h with h; subst h
    exact fun_ok pm pn Go.Proofs.Try.func9 (r0 := vb true) (ans := [.reg (.n :: .n :: []), .reg (.call (vb r2565) :: .n :: []), .br false, .reg (.n :: .call (vb r2568) :: nN 5 (.b false :: [])), .br true, .reg (.n :: [])]) (fr := true) (by kernel_rfl) (an (an (ti (ti trivial)) (an (an (an (nawake_ok k _ h2566) (ti trivial)) (an (not_f h2567) trivial)) (an e2571 (an (decide_eq_true h2572) (an (ti trivial) trivial))))) (ti trivial)) (Wv.refl _)
   ·obtain ⟨r2573, h2574, h⟩ := bs h
    have e2575 := (show VC Go.Proofs.Try.prog 26 [VV.ag (c_SAnnealing a0)] (VV.ag (g_SAnnealing r2573)) from (VC.weak (nspeculumlaw03_own_ok k a0 _ h2574) (Wv.agL (.cons (Wv.refl _) (.cons (Wv.refl _) (.cons (Wv.fw rfl rfl) (.cons (Wv.fw rfl rfl) .nil)))))))
    obtain ⟨r2576, h2577, h⟩ := bs h
    have e2578 := (show VC Go.Proofs.Try.prog 41 [VV.tr (List.map vi a1) a1.length] (VV.fr (List.map vi r2576) r2576.length) from (VC.weak (nspeculumbase_CopyInts_ok k a1 _ h2577) (Wv.fw rfl rfl)))
    obtain ⟨r2579, h2580, h⟩ := bs h
    have e2581 := (nblank_CheckTimes_ok k r2573 r2576 _ h2580)
    have e2582 := (ti (an e2575 (ti (an e2578 (an e2581 (ti (ti (ti (ti (ti trivial))))))))))
    have e2584 := (show VC Go.Proofs.Try.prog 26 [VV.ag (c_SAnnealing a0)] (VV.ag (g_SAnnealing r2573)) from (VC.weak (nspeculumlaw03_own_ok k a0 _ h2574) (Wv.agL (.cons (Wv.refl _) (.cons (Wv.refl _) (.cons (Wv.fw rfl rfl) (.cons (Wv.fw rfl rfl) .nil)))))))
    have e2586 := (show VC Go.Proofs.Try.prog 41 [VV.tr (List.map vi a1) a1.length] (VV.fr (List.map vi r2576) r2576.length) from (VC.weak (nspeculumbase_CopyInts_ok k a1 _ h2577) (Wv.fw rfl rfl)))
    obtain ⟨r2587, h2588, h⟩ := bs h
    have e2589 := (ti (an e2584 (ti (an e2586 (an (nblank_Worst_ok k r2573 r2576 _ h2588) (ti (ti (ti (ti (ti (ti (ti (ti trivial)))))))))))))
    obtain ⟨r2590, h2591, h⟩ := bs h
    have e2592 := (nspeculumref03_CheckAnnealing_ok k a0 _ h2591)
    rcases ifs h with ⟨h2593, h⟩ | ⟨h2593, h⟩
    ·obtain ⟨r2594, h2595, h⟩ := bs h
     have e2596 := (nspeculumref03_CheckTimes_ok k a0 a1 _ h2595)
     have e2597 := (ti (ti (an e2596 (ti (ti (ti (ti (ti trivial))))))))
     rcases ifs h with ⟨h2598, h⟩ | ⟨h2598, h⟩
     ·have e2599 := (an (not_f (decide_eq_true h2598)) trivial)
      have e2600 := (an (not_f (decide_eq_true h2598)) trivial)
      have e2601 := (an (not_f (decide_eq_true h2598)) trivial)
      have e2602 := (ti (ti (ti (ti (an e2599 (an e2600 (an e2601 (an (not_f (decide_eq_true h2598)) trivial))))))))
      rcases ifs h with ⟨h2603, h⟩ | ⟨h2603, h⟩
      ·rcases ifs h with ⟨h2604, h⟩ | ⟨h2604, h⟩
       ·obtain ⟨r2605, h2606, h⟩ := bs h
        have e2607 := (nspeculumref03_Worst_ok k a0 a1 _ h2606)
        rcases ifs h with ⟨h2608, h⟩ | ⟨h2608, h⟩
        ·have e2609 := (an (not_f (decide_eq_true h2608)) trivial)
         have e2610 := (an (not_f (decide_eq_true h2608)) trivial)
         have e2611 := (an (not_f (decide_eq_true h2608)) trivial)
         rcases ifs h with ⟨h2612, h⟩ | ⟨h2612, h⟩
         ·have e2613 := (an (not_f (decide_eq_true h2612)) trivial)
          have e2614 := (an (not_f (decide_eq_true h2612)) trivial)
          have e2615 := (an (not_f (decide_eq_true h2612)) trivial)
          obtain ⟨r2616, h2617, h⟩ := bs h
          have e2618 := (an (not_f (decide_eq_true h2612)) (nspeculumref03_Work_ok k a0 r2605 _ h2617))
          have e2619 := (an (not_f (decide_eq_true h2612)) trivial)
          have e2620 := (an (not_f (decide_eq_true h2612)) trivial)
          have e2621 := (an (not_f (decide_eq_true h2612)) trivial)
          obtain ⟨h2622, h⟩ := ifn h
          have e2623 := (an (not_f (decide_eq_true h2612)) h2622)
          have e2624 := (an (not_f (decide_eq_true h2612)) (show loadL Go.Proofs.Try.prog 3 ((w64 (r2605 + 1)).toNat * 1) (List.map vi a1) = some (vi (a1.getD (w64 (r2605 + 1)).toNat 0)) from ld_map ag3 vi a1 0 h2622 (by omega)))
          have e2625 := (an (not_f (decide_eq_true h2612)) trivial)
          have e2626 := (an (not_f (decide_eq_true h2612)) trivial)
          obtain ⟨h2627, h⟩ := ifn h
          have e2628 := (an (not_f (decide_eq_true h2612)) h2627)
          have e2629 := (an (not_f (decide_eq_true h2612)) (show loadL Go.Proofs.Try.prog 3 (r2605.toNat * 1) (List.map vi a1) = some (vi (a1.getD r2605.toNat 0)) from ld_map ag3 vi a1 0 h2627 (by omega)))
          have e2630 := (an (not_f (decide_eq_true h2612)) trivial)
          obtain ⟨r2631, h2632, h⟩ := bs h
          have e2633 := (an (not_f (decide_eq_true h2612)) (nspeculumref03_Rounded_ok k r2616 (w64 ((a1.getD (w64 (r2605 + 1)).toNat 0) - (a1.getD r2605.toNat 0))) _ h2632))
          have e2634 := (an (not_f (decide_eq_true h2612)) (show List.map kdV [Value.int .i64 r2587.2.1.Lo, Value.int .i64 r2587.2.1.Hi] = List.map kdV [Value.int .i64 r2631.Lo, Value.int .i64 r2631.Hi] ∧ EqOK Go.Proofs.Try.prog 33 (List.map kdV [Value.int .i64 r2631.Lo, Value.int .i64 r2631.Hi]) from ⟨rfl, eqok33⟩))
          have e2635 := (ti (ti (ti (an e2609 (an e2610 (an e2611 (an (not_f (decide_eq_true h2608)) (ti (an e2613 (an e2614 (an e2615 (an e2618 (an e2619 (an e2620 (an e2621 (an e2623 (an e2624 (an e2625 (an e2626 (an e2628 (an e2629 (an e2630 (an e2633 (an e2634 (an (not_f (decide_eq_true h2612)) trivial)))))))))))))))))))))))))
          rcases ifs h with ⟨h2636, h⟩ | ⟨h2636, h⟩
          ·have e2638 := (show VC Go.Proofs.Try.prog 26 [VV.ag (c_SAnnealing a0)] (VV.ag (g_SAnnealing r2573)) from (VC.weak (nspeculumlaw03_own_ok k a0 _ h2574) (Wv.agL (.cons (Wv.refl _) (.cons (Wv.refl _) (.cons (Wv.fw rfl rfl) (.cons (Wv.fw rfl rfl) .nil)))))))
           obtain ⟨r2639, h2640, h⟩ := bs h
           have e2641 := (ti (an e2638 (an (nblank_Earliest_ok k r2573 _ h2640) (ti (ti (ti (ti (ti (ti (ti trivial))))))))))
           rcases ifs h with ⟨h2642, h⟩ | ⟨h2642, h⟩
           ·have e2643 := (an (not_f (decide_eq_true h2642)) trivial)
            have e2644 := (an (not_f (decide_eq_true h2642)) trivial)
            have e2645 := (an (not_f (decide_eq_true h2642)) trivial)
            rcases ifs h with ⟨h2646, h⟩ | ⟨h2646, h⟩
            ·have e2647 := (an (not_f (decide_eq_true h2646)) trivial)
             have e2648 := (an (not_f (decide_eq_true h2646)) trivial)
             have e2649 := (an (not_f (decide_eq_true h2646)) trivial)
             have e2650 := (an (not_f (decide_eq_true h2646)) trivial)
             have e2651 := (an (not_f (decide_eq_true h2646)) trivial)
             have e2652 := (ti (ti (ti (an e2643 (an e2644 (an e2645 (an (not_f (decide_eq_true h2642)) (ti (an e2647 (an e2648 (an e2649 (an e2650 (an e2651 (an (not_f (decide_eq_true h2646)) trivial))))))))))))))
             rcases ifs h with ⟨h2653, h⟩ | ⟨h2653, h⟩
             ·obtain ⟨r2676, h2675, h⟩ := bs h
              have hph2675 := nspeculumlaw03_BlankTimes_l0_0_ok k a1 r2639 _ _ _ h2675
              cases r2676 with
              | inl r2677 =>
               dsimp only at h
               have e2679 := (an (ti trivial) (VRun.loop hph2675))
               injection h with h; subst h
               exact fun_ok pm pn Go.Proofs.Try.func9 (r0 := vb false) (ans := [.reg (.n :: .n :: []), .reg (.call (vb r2565) :: .n :: []), .br false, .reg (.n :: .call (vb r2568) :: nN 5 (.b false :: [])), .br false, .reg (arA8_8 r2573 r2576 r2579), .reg (arA8_9 r2573 r2576 r2587), .reg (.n :: .call (vi r2590) :: .n :: []), .reg (.n :: .n :: []), .br false, .reg (.n :: .n :: .call (VV.tu [vi r2594.1, vi r2594.2]) :: nN 5 []), .reg (nN 7 (.b false :: [])), .br false, .reg (.n :: .n :: []), .br false, .reg (.n :: .n :: .call (vi r2605) :: .n :: []), .reg (arA8_10 r2616 a1 r2605 r2631), .br false, .reg (arA8_11 r2573 r2639), .reg (nN 6 (.b false :: nN 6 (.b false :: []))), .br false, .reg (.n :: []), .sub ⟨[(1, none), (14, none), (17, none)], [], []⟩ .ret (nspeculumlaw03_BlankTimes_l0_0_e0 a1 r2639 r2677)]) (fr := true) (by kernel_rfl) (an (an (ti (ti trivial)) (an (an (an (nawake_ok k _ h2566) (ti trivial)) (an (not_f h2567) trivial)) (an (an e2571 (an (decide_eq_false h2572) trivial)) (an e2582 (an e2589 (an (an (ti (an e2592 (ti trivial))) (an (ti (ti trivial)) (an (not_f (decide_eq_true h2593)) trivial))) (an e2597 (an (an e2602 (an (not_f (decide_eq_true h2603)) trivial)) (an (an (ti (ti trivial)) (an (not_f (decide_eq_true h2604)) trivial)) (an (ti (ti (an e2607 (ti trivial)))) (an (an e2635 (an (not_f h2636) trivial)) (an e2641 (an (an e2652 (an (not_f (decide_eq_true h2653)) trivial)) (an (ti trivial) e2679)))))))))))))) (ti trivial)) (Wv.refl _)
              | inr r2678 =>
               dsimp only at h
               have e2680 := (an (ti trivial) (VRun.loop hph2675))
               injection h with h; subst h
               exact fun_ok pm pn Go.Proofs.Try.func9 (r0 := vb true) (ans := [.reg (.n :: .n :: []), .reg (.call (vb r2565) :: .n :: []), .br false, .reg (.n :: .call (vb r2568) :: nN 5 (.b false :: [])), .br false, .reg (arA8_8 r2573 r2576 r2579), .reg (arA8_9 r2573 r2576 r2587), .reg (.n :: .call (vi r2590) :: .n :: []), .reg (.n :: .n :: []), .br false, .reg (.n :: .n :: .call (VV.tu [vi r2594.1, vi r2594.2]) :: nN 5 []), .reg (nN 7 (.b false :: [])), .br false, .reg (.n :: .n :: []), .br false, .reg (.n :: .n :: .call (vi r2605) :: .n :: []), .reg (arA8_10 r2616 a1 r2605 r2631), .br false, .reg (arA8_11 r2573 r2639), .reg (nN 6 (.b false :: nN 6 (.b false :: []))), .br false, .reg (.n :: []), .sub ⟨[(1, none), (14, none), (17, none)], [], []⟩ (.exit 0) (nspeculumlaw03_BlankTimes_l0_0_e1 a1 r2639 r2678), .reg (.n :: [])]) (fr := true) (by kernel_rfl) (an (an (ti (ti trivial)) (an (an (an (nawake_ok k _ h2566) (ti trivial)) (an (not_f h2567) trivial)) (an (an e2571 (an (decide_eq_false h2572) trivial)) (an e2582 (an e2589 (an (an (ti (an e2592 (ti trivial))) (an (ti (ti trivial)) (an (not_f (decide_eq_true h2593)) trivial))) (an e2597 (an (an e2602 (an (not_f (decide_eq_true h2603)) trivial)) (an (an (ti (ti trivial)) (an (not_f (decide_eq_true h2604)) trivial)) (an (ti (ti (an e2607 (ti trivial)))) (an (an e2635 (an (not_f h2636) trivial)) (an e2641 (an (an e2652 (an (not_f (decide_eq_true h2653)) trivial)) (an (an (ti trivial) e2680) (an (ti trivial) trivial))))))))))))))) (ti trivial)) (Wv.refl _)
             ·injection h with h; subst h
              exact fun_ok pm pn Go.Proofs.Try.func9 (r0 := vb false) (ans := [.reg (.n :: .n :: []), .reg (.call (vb r2565) :: .n :: []), .br false, .reg (.n :: .call (vb r2568) :: nN 5 (.b false :: [])), .br false, .reg (arA8_8 r2573 r2576 r2579), .reg (arA8_9 r2573 r2576 r2587), .reg (.n :: .call (vi r2590) :: .n :: []), .reg (.n :: .n :: []), .br false, .reg (.n :: .n :: .call (VV.tu [vi r2594.1, vi r2594.2]) :: nN 5 []), .reg (nN 7 (.b false :: [])), .br false, .reg (.n :: .n :: []), .br false, .reg (.n :: .n :: .call (vi r2605) :: .n :: []), .reg (arA8_10 r2616 a1 r2605 r2631), .br false, .reg (arA8_11 r2573 r2639), .reg (nN 6 (.b false :: nN 6 (.b false :: []))), .br true, .reg (.n :: [])]) (fr := true) (by kernel_rfl) (an (an (ti (ti trivial)) (an (an (an (nawake_ok k _ h2566) (ti trivial)) (an (not_f h2567) trivial)) (an (an e2571 (an (decide_eq_false h2572) trivial)) (an e2582 (an e2589 (an (an (ti (an e2592 (ti trivial))) (an (ti (ti trivial)) (an (not_f (decide_eq_true h2593)) trivial))) (an e2597 (an (an e2602 (an (not_f (decide_eq_true h2603)) trivial)) (an (an (ti (ti trivial)) (an (not_f (decide_eq_true h2604)) trivial)) (an (ti (ti (an e2607 (ti trivial)))) (an (an e2635 (an (not_f h2636) trivial)) (an e2641 (an e2652 (an (not_t (decide_eq_false h2653)) (an (ti trivial) trivial))))))))))))))) (ti trivial)) (Wv.refl _)
            ·have e2681 := (ti (ti (ti (an e2643 (an e2644 (an e2645 (an (not_f (decide_eq_true h2642)) (ti (an (not_t (decide_eq_false h2646)) (an (not_t (decide_eq_false h2646)) (an (not_t (decide_eq_false h2646)) (an (not_t (decide_eq_false h2646)) (an (not_t (decide_eq_false h2646)) (an (not_t (decide_eq_false h2646)) trivial))))))))))))))
             injection h with h; subst h
             exact fun_ok pm pn Go.Proofs.Try.func9 (r0 := vb false) (ans := [.reg (.n :: .n :: []), .reg (.call (vb r2565) :: .n :: []), .br false, .reg (.n :: .call (vb r2568) :: nN 5 (.b false :: [])), .br false, .reg (arA8_8 r2573 r2576 r2579), .reg (arA8_9 r2573 r2576 r2587), .reg (.n :: .call (vi r2590) :: .n :: []), .reg (.n :: .n :: []), .br false, .reg (.n :: .n :: .call (VV.tu [vi r2594.1, vi r2594.2]) :: nN 5 []), .reg (nN 7 (.b false :: [])), .br false, .reg (.n :: .n :: []), .br false, .reg (.n :: .n :: .call (vi r2605) :: .n :: []), .reg (arA8_10 r2616 a1 r2605 r2631), .br false, .reg (arA8_11 r2573 r2639), .reg (nN 6 (.b false :: .n :: nS 5 (.b true :: []))), .br true, .reg (.n :: [])]) (fr := true) (by kernel_rfl) (an (an (ti (ti trivial)) (an (an (an (nawake_ok k _ h2566) (ti trivial)) (an (not_f h2567) trivial)) (an (an e2571 (an (decide_eq_false h2572) trivial)) (an e2582 (an e2589 (an (an (ti (an e2592 (ti trivial))) (an (ti (ti trivial)) (an (not_f (decide_eq_true h2593)) trivial))) (an e2597 (an (an e2602 (an (not_f (decide_eq_true h2603)) trivial)) (an (an (ti (ti trivial)) (an (not_f (decide_eq_true h2604)) trivial)) (an (ti (ti (an e2607 (ti trivial)))) (an (an e2635 (an (not_f h2636) trivial)) (an e2641 (an e2681 (an rt (an (ti trivial) trivial))))))))))))))) (ti trivial)) (Wv.refl _)
           ·have e2682 := (ti (ti (ti (an (not_t (decide_eq_false h2642)) (an (not_t (decide_eq_false h2642)) (an (not_t (decide_eq_false h2642)) (an (not_t (decide_eq_false h2642)) (ti (an rt (an rt (an rt (an rt (an rt (an rt trivial))))))))))))))
            injection h with h; subst h
            exact fun_ok pm pn Go.Proofs.Try.func9 (r0 := vb false) (ans := [.reg (.n :: .n :: []), .reg (.call (vb r2565) :: .n :: []), .br false, .reg (.n :: .call (vb r2568) :: nN 5 (.b false :: [])), .br false, .reg (arA8_8 r2573 r2576 r2579), .reg (arA8_9 r2573 r2576 r2587), .reg (.n :: .call (vi r2590) :: .n :: []), .reg (.n :: .n :: []), .br false, .reg (.n :: .n :: .call (VV.tu [vi r2594.1, vi r2594.2]) :: nN 5 []), .reg (nN 7 (.b false :: [])), .br false, .reg (.n :: .n :: []), .br false, .reg (.n :: .n :: .call (vi r2605) :: .n :: []), .reg (arA8_10 r2616 a1 r2605 r2631), .br false, .reg (arA8_11 r2573 r2639), .reg (nN 3 (nS 3 (.b true :: .n :: nS 5 (.b true :: [])))), .br true, .reg (.n :: [])]) (fr := true) (by kernel_rfl) (an (an (ti (ti trivial)) (an (an (an (nawake_ok k _ h2566) (ti trivial)) (an (not_f h2567) trivial)) (an (an e2571 (an (decide_eq_false h2572) trivial)) (an e2582 (an e2589 (an (an (ti (an e2592 (ti trivial))) (an (ti (ti trivial)) (an (not_f (decide_eq_true h2593)) trivial))) (an e2597 (an (an e2602 (an (not_f (decide_eq_true h2603)) trivial)) (an (an (ti (ti trivial)) (an (not_f (decide_eq_true h2604)) trivial)) (an (ti (ti (an e2607 (ti trivial)))) (an (an e2635 (an (not_f h2636) trivial)) (an e2641 (an e2682 (an rt (an (ti trivial) trivial))))))))))))))) (ti trivial)) (Wv.refl _)
          ·injection h with h; subst h
           exact fun_ok pm pn Go.Proofs.Try.func9 (r0 := vb false) (ans := [.reg (.n :: .n :: []), .reg (.call (vb r2565) :: .n :: []), .br false, .reg (.n :: .call (vb r2568) :: nN 5 (.b false :: [])), .br false, .reg (arA8_8 r2573 r2576 r2579), .reg (arA8_9 r2573 r2576 r2587), .reg (.n :: .call (vi r2590) :: .n :: []), .reg (.n :: .n :: []), .br false, .reg (.n :: .n :: .call (VV.tu [vi r2594.1, vi r2594.2]) :: nN 5 []), .reg (nN 7 (.b false :: [])), .br false, .reg (.n :: .n :: []), .br false, .reg (.n :: .n :: .call (vi r2605) :: .n :: []), .reg (arA8_10 r2616 a1 r2605 r2631), .br true, .reg (.n :: [])]) (fr := true) (by kernel_rfl) (an (an (ti (ti trivial)) (an (an (an (nawake_ok k _ h2566) (ti trivial)) (an (not_f h2567) trivial)) (an (an e2571 (an (decide_eq_false h2572) trivial)) (an e2582 (an e2589 (an (an (ti (an e2592 (ti trivial))) (an (ti (ti trivial)) (an (not_f (decide_eq_true h2593)) trivial))) (an e2597 (an (an e2602 (an (not_f (decide_eq_true h2603)) trivial)) (an (an (ti (ti trivial)) (an (not_f (decide_eq_true h2604)) trivial)) (an (ti (ti (an e2607 (ti trivial)))) (an e2635 (an (not_t (bool_f h2636)) (an (ti trivial) trivial))))))))))))) (ti trivial)) (Wv.refl _)
         ·have e2683 := (ti (ti (ti (an e2609 (an e2610 (an e2611 (an (not_f (decide_eq_true h2608)) (ti (an (not_t (decide_eq_false h2612)) (an (not_t (decide_eq_false h2612)) (an (not_t (decide_eq_false h2612)) (an (not_t (decide_eq_false h2612)) (an (not_t (decide_eq_false h2612)) (an (not_t (decide_eq_false h2612)) (an (not_t (decide_eq_false h2612)) (an (not_t (decide_eq_false h2612)) (an (not_t (decide_eq_false h2612)) (an (not_t (decide_eq_false h2612)) (an (not_t (decide_eq_false h2612)) (an (not_t (decide_eq_false h2612)) (an (not_t (decide_eq_false h2612)) (an (not_t (decide_eq_false h2612)) (an (not_t (decide_eq_false h2612)) (an (not_t (decide_eq_false h2612)) (an (not_t (decide_eq_false h2612)) trivial)))))))))))))))))))))))))
          injection h with h; subst h
          exact fun_ok pm pn Go.Proofs.Try.func9 (r0 := vb false) (ans := [.reg (.n :: .n :: []), .reg (.call (vb r2565) :: .n :: []), .br false, .reg (.n :: .call (vb r2568) :: nN 5 (.b false :: [])), .br false, .reg (arA8_8 r2573 r2576 r2579), .reg (arA8_9 r2573 r2576 r2587), .reg (.n :: .call (vi r2590) :: .n :: []), .reg (.n :: .n :: []), .br false, .reg (.n :: .n :: .call (VV.tu [vi r2594.1, vi r2594.2]) :: nN 5 []), .reg (nN 7 (.b false :: [])), .br false, .reg (.n :: .n :: []), .br false, .reg (.n :: .n :: .call (vi r2605) :: .n :: []), .reg (nN 6 (.b false :: .n :: nS 16 (.b true :: []))), .br true, .reg (.n :: [])]) (fr := true) (by kernel_rfl) (an (an (ti (ti trivial)) (an (an (an (nawake_ok k _ h2566) (ti trivial)) (an (not_f h2567) trivial)) (an (an e2571 (an (decide_eq_false h2572) trivial)) (an e2582 (an e2589 (an (an (ti (an e2592 (ti trivial))) (an (ti (ti trivial)) (an (not_f (decide_eq_true h2593)) trivial))) (an e2597 (an (an e2602 (an (not_f (decide_eq_true h2603)) trivial)) (an (an (ti (ti trivial)) (an (not_f (decide_eq_true h2604)) trivial)) (an (ti (ti (an e2607 (ti trivial)))) (an e2683 (an rt (an (ti trivial) trivial))))))))))))) (ti trivial)) (Wv.refl _)
        ·have e2684 := (ti (ti (ti (an (not_t (decide_eq_false h2608)) (an (not_t (decide_eq_false h2608)) (an (not_t (decide_eq_false h2608)) (an (not_t (decide_eq_false h2608)) (ti (an rt (an rt (an rt (an rt (an rt (an rt (an rt (an rt (an rt (an rt (an rt (an rt (an rt (an rt (an rt (an rt (an rt trivial)))))))))))))))))))))))))
         injection h with h; subst h
         exact fun_ok pm pn Go.Proofs.Try.func9 (r0 := vb false) (ans := [.reg (.n :: .n :: []), .reg (.call (vb r2565) :: .n :: []), .br false, .reg (.n :: .call (vb r2568) :: nN 5 (.b false :: [])), .br false, .reg (arA8_8 r2573 r2576 r2579), .reg (arA8_9 r2573 r2576 r2587), .reg (.n :: .call (vi r2590) :: .n :: []), .reg (.n :: .n :: []), .br false, .reg (.n :: .n :: .call (VV.tu [vi r2594.1, vi r2594.2]) :: nN 5 []), .reg (nN 7 (.b false :: [])), .br false, .reg (.n :: .n :: []), .br false, .reg (.n :: .n :: .call (vi r2605) :: .n :: []), .reg (nN 3 (nS 3 (.b true :: .n :: nS 16 (.b true :: [])))), .br true, .reg (.n :: [])]) (fr := true) (by kernel_rfl) (an (an (ti (ti trivial)) (an (an (an (nawake_ok k _ h2566) (ti trivial)) (an (not_f h2567) trivial)) (an (an e2571 (an (decide_eq_false h2572) trivial)) (an e2582 (an e2589 (an (an (ti (an e2592 (ti trivial))) (an (ti (ti trivial)) (an (not_f (decide_eq_true h2593)) trivial))) (an e2597 (an (an e2602 (an (not_f (decide_eq_true h2603)) trivial)) (an (an (ti (ti trivial)) (an (not_f (decide_eq_true h2604)) trivial)) (an (ti (ti (an e2607 (ti trivial)))) (an e2684 (an rt (an (ti trivial) trivial))))))))))))) (ti trivial)) (Wv.refl _)
       ·rcases ifs h with ⟨h2685, h⟩ | ⟨h2685, h⟩
        ·rcases ifs h with ⟨h2686, h⟩ | ⟨h2686, h⟩
         ·have e2687 := (an (decide_eq_true h2686) (show List.map kdV [Value.int .i64 r2587.2.1.Lo, Value.int .i64 r2587.2.1.Hi] = List.map kdV [Value.int .i64 0, Value.int .i64 0] ∧ EqOK Go.Proofs.Try.prog 33 (List.map kdV [Value.int .i64 0, Value.int .i64 0]) from ⟨rfl, eqok33⟩))
          have e2688 := (ti (ti (ti (ti (an (an (decide_eq_true h2685) trivial) (an (an (decide_eq_true h2685) trivial) (an (decide_eq_true h2685) (ti (an (an (decide_eq_true h2686) trivial) (an (an (decide_eq_true h2686) trivial) (an e2687 (an (decide_eq_true h2686) (ti trivial)))))))))))))
          injection h with h; subst h
          exact fun_ok pm pn Go.Proofs.Try.func9 (r0 := vb ((r2587.2.1.Lo : Int) == 0 && ((r2587.2.1.Hi : Int) == 0 && true))) (ans := [.reg (.n :: .n :: []), .reg (.call (vb r2565) :: .n :: []), .br false, .reg (.n :: .call (vb r2568) :: nN 5 (.b false :: [])), .br false, .reg (arA8_8 r2573 r2576 r2579), .reg (arA8_9 r2573 r2576 r2587), .reg (.n :: .call (vi r2590) :: .n :: []), .reg (.n :: .n :: []), .br false, .reg (.n :: .n :: .call (VV.tu [vi r2594.1, vi r2594.2]) :: nN 5 []), .reg (nN 7 (.b false :: [])), .br false, .reg (.n :: .n :: []), .br true, .reg (nN 6 (.b true :: nN 4 (.b true :: .n :: [])))]) (fr := true) (by kernel_rfl) (an (an (ti (ti trivial)) (an (an (an (nawake_ok k _ h2566) (ti trivial)) (an (not_f h2567) trivial)) (an (an e2571 (an (decide_eq_false h2572) trivial)) (an e2582 (an e2589 (an (an (ti (an e2592 (ti trivial))) (an (ti (ti trivial)) (an (not_f (decide_eq_true h2593)) trivial))) (an e2597 (an (an e2602 (an (not_f (decide_eq_true h2603)) trivial)) (an (ti (ti trivial)) (an (not_t (decide_eq_false h2604)) (an e2688 trivial))))))))))) (ti trivial)) (Wv.refl _)
         ·have e2689 := (ti (ti (ti (ti (an (an (decide_eq_true h2685) trivial) (an (an (decide_eq_true h2685) trivial) (an (decide_eq_true h2685) (ti (an (decide_eq_false h2686) (an (decide_eq_false h2686) (an (decide_eq_false h2686) (an (decide_eq_false h2686) (ti trivial)))))))))))))
          injection h with h; subst h
          exact fun_ok pm pn Go.Proofs.Try.func9 (r0 := vb false) (ans := [.reg (.n :: .n :: []), .reg (.call (vb r2565) :: .n :: []), .br false, .reg (.n :: .call (vb r2568) :: nN 5 (.b false :: [])), .br false, .reg (arA8_8 r2573 r2576 r2579), .reg (arA8_9 r2573 r2576 r2587), .reg (.n :: .call (vi r2590) :: .n :: []), .reg (.n :: .n :: []), .br false, .reg (.n :: .n :: .call (VV.tu [vi r2594.1, vi r2594.2]) :: nN 5 []), .reg (nN 7 (.b false :: [])), .br false, .reg (.n :: .n :: []), .br true, .reg (nN 6 (.b true :: .n :: nS 3 (.b false :: .n :: [])))]) (fr := true) (by kernel_rfl) (an (an (ti (ti trivial)) (an (an (an (nawake_ok k _ h2566) (ti trivial)) (an (not_f h2567) trivial)) (an (an e2571 (an (decide_eq_false h2572) trivial)) (an e2582 (an e2589 (an (an (ti (an e2592 (ti trivial))) (an (ti (ti trivial)) (an (not_f (decide_eq_true h2593)) trivial))) (an e2597 (an (an e2602 (an (not_f (decide_eq_true h2603)) trivial)) (an (ti (ti trivial)) (an (not_t (decide_eq_false h2604)) (an e2689 trivial))))))))))) (ti trivial)) (Wv.refl _)
        ·have e2690 := (ti (ti (ti (ti (an (decide_eq_false h2685) (an (decide_eq_false h2685) (an (decide_eq_false h2685) (ti (an rf (an rf (an rf (an rf (ti trivial)))))))))))))
         injection h with h; subst h
         exact fun_ok pm pn Go.Proofs.Try.func9 (r0 := vb false) (ans := [.reg (.n :: .n :: []), .reg (.call (vb r2565) :: .n :: []), .br false, .reg (.n :: .call (vb r2568) :: nN 5 (.b false :: [])), .br false, .reg (arA8_8 r2573 r2576 r2579), .reg (arA8_9 r2573 r2576 r2587), .reg (.n :: .call (vi r2590) :: .n :: []), .reg (.n :: .n :: []), .br false, .reg (.n :: .n :: .call (VV.tu [vi r2594.1, vi r2594.2]) :: nN 5 []), .reg (nN 7 (.b false :: [])), .br false, .reg (.n :: .n :: []), .br true, .reg (nN 4 (.skip :: .skip :: .b false :: .n :: nS 3 (.b false :: .n :: [])))]) (fr := true) (by kernel_rfl) (an (an (ti (ti trivial)) (an (an (an (nawake_ok k _ h2566) (ti trivial)) (an (not_f h2567) trivial)) (an (an e2571 (an (decide_eq_false h2572) trivial)) (an e2582 (an e2589 (an (an (ti (an e2592 (ti trivial))) (an (ti (ti trivial)) (an (not_f (decide_eq_true h2593)) trivial))) (an e2597 (an (an e2602 (an (not_f (decide_eq_true h2603)) trivial)) (an (ti (ti trivial)) (an (not_t (decide_eq_false h2604)) (an e2690 trivial))))))))))) (ti trivial)) (Wv.refl _)
      ·injection h with h; subst h
       exact fun_ok pm pn Go.Proofs.Try.func9 (r0 := vb false) (ans := [.reg (.n :: .n :: []), .reg (.call (vb r2565) :: .n :: []), .br false, .reg (.n :: .call (vb r2568) :: nN 5 (.b false :: [])), .br false, .reg (arA8_8 r2573 r2576 r2579), .reg (arA8_9 r2573 r2576 r2587), .reg (.n :: .call (vi r2590) :: .n :: []), .reg (.n :: .n :: []), .br false, .reg (.n :: .n :: .call (VV.tu [vi r2594.1, vi r2594.2]) :: nN 5 []), .reg (nN 7 (.b false :: [])), .br true, .reg (.n :: [])]) (fr := true) (by kernel_rfl) (an (an (ti (ti trivial)) (an (an (an (nawake_ok k _ h2566) (ti trivial)) (an (not_f h2567) trivial)) (an (an e2571 (an (decide_eq_false h2572) trivial)) (an e2582 (an e2589 (an (an (ti (an e2592 (ti trivial))) (an (ti (ti trivial)) (an (not_f (decide_eq_true h2593)) trivial))) (an e2597 (an e2602 (an (not_t (decide_eq_false h2603)) (an (ti trivial) trivial)))))))))) (ti trivial)) (Wv.refl _)
     ·have e2691 := (ti (ti (ti (ti (an (not_t (decide_eq_false h2598)) (an (not_t (decide_eq_false h2598)) (an (not_t (decide_eq_false h2598)) (an (not_t (decide_eq_false h2598)) trivial))))))))
      injection h with h; subst h
      exact fun_ok pm pn Go.Proofs.Try.func9 (r0 := vb false) (ans := [.reg (.n :: .n :: []), .reg (.call (vb r2565) :: .n :: []), .br false, .reg (.n :: .call (vb r2568) :: nN 5 (.b false :: [])), .br false, .reg (arA8_8 r2573 r2576 r2579), .reg (arA8_9 r2573 r2576 r2587), .reg (.n :: .call (vi r2590) :: .n :: []), .reg (.n :: .n :: []), .br false, .reg (.n :: .n :: .call (VV.tu [vi r2594.1, vi r2594.2]) :: nN 5 []), .reg (nN 4 (nS 3 (.b true :: []))), .br true, .reg (.n :: [])]) (fr := true) (by kernel_rfl) (an (an (ti (ti trivial)) (an (an (an (nawake_ok k _ h2566) (ti trivial)) (an (not_f h2567) trivial)) (an (an e2571 (an (decide_eq_false h2572) trivial)) (an e2582 (an e2589 (an (an (ti (an e2592 (ti trivial))) (an (ti (ti trivial)) (an (not_f (decide_eq_true h2593)) trivial))) (an e2597 (an e2691 (an rt (an (ti trivial) trivial)))))))))) (ti trivial)) (Wv.refl _)
    ·rcases ifs h with ⟨h2692, h⟩ | ⟨h2692, h⟩
     ·rcases ifs h with ⟨h2693, h⟩ | ⟨h2693, h⟩
      ·rcases ifs h with ⟨h2694, h⟩ | ⟨h2694, h⟩
       ·rcases ifs h with ⟨h2695, h⟩ | ⟨h2695, h⟩
        ·have e2696 := (an (decide_eq_true h2695) (show List.map kdV [Value.int .i64 r2587.2.1.Lo, Value.int .i64 r2587.2.1.Hi] = List.map kdV [Value.int .i64 0, Value.int .i64 0] ∧ EqOK Go.Proofs.Try.prog 33 (List.map kdV [Value.int .i64 0, Value.int .i64 0]) from ⟨rfl, eqok33⟩))
         have e2697 := (ti (ti (ti (ti (an (an (decide_eq_true h2692) trivial) (an (an (decide_eq_true h2692) trivial) (an (an (decide_eq_true h2692) trivial) (an (decide_eq_true h2692) (ti (an (an (decide_eq_true h2693) trivial) (an (an (decide_eq_true h2693) trivial) (an (decide_eq_true h2693) (ti (an (an (decide_eq_true h2694) trivial) (an (an (decide_eq_true h2694) trivial) (an (decide_eq_true h2694) (ti (an (an (decide_eq_true h2695) trivial) (an (an (decide_eq_true h2695) trivial) (an e2696 (an (decide_eq_true h2695) (ti trivial))))))))))))))))))))))
         injection h with h; subst h
         exact fun_ok pm pn Go.Proofs.Try.func9 (r0 := vb ((r2587.2.1.Lo : Int) == 0 && ((r2587.2.1.Hi : Int) == 0 && true))) (ans := [.reg (.n :: .n :: []), .reg (.call (vb r2565) :: .n :: []), .br false, .reg (.n :: .call (vb r2568) :: nN 5 (.b false :: [])), .br false, .reg (arA8_8 r2573 r2576 r2579), .reg (arA8_9 r2573 r2576 r2587), .reg (.n :: .call (vi r2590) :: .n :: []), .reg (.n :: .n :: []), .br true, .reg (nN 7 (.b true :: nN 3 (.b true :: nN 3 (.b true :: nN 4 (.b true :: .n :: [])))))]) (fr := true) (by kernel_rfl) (an (an (ti (ti trivial)) (an (an (an (nawake_ok k _ h2566) (ti trivial)) (an (not_f h2567) trivial)) (an (an e2571 (an (decide_eq_false h2572) trivial)) (an e2582 (an e2589 (an (ti (an e2592 (ti trivial))) (an (ti (ti trivial)) (an (not_t (decide_eq_false h2593)) (an e2697 trivial))))))))) (ti trivial)) (Wv.refl _)
        ·have e2698 := (ti (ti (ti (ti (an (an (decide_eq_true h2692) trivial) (an (an (decide_eq_true h2692) trivial) (an (an (decide_eq_true h2692) trivial) (an (decide_eq_true h2692) (ti (an (an (decide_eq_true h2693) trivial) (an (an (decide_eq_true h2693) trivial) (an (decide_eq_true h2693) (ti (an (an (decide_eq_true h2694) trivial) (an (an (decide_eq_true h2694) trivial) (an (decide_eq_true h2694) (ti (an (decide_eq_false h2695) (an (decide_eq_false h2695) (an (decide_eq_false h2695) (an (decide_eq_false h2695) (ti trivial))))))))))))))))))))))
         injection h with h; subst h
         exact fun_ok pm pn Go.Proofs.Try.func9 (r0 := vb false) (ans := [.reg (.n :: .n :: []), .reg (.call (vb r2565) :: .n :: []), .br false, .reg (.n :: .call (vb r2568) :: nN 5 (.b false :: [])), .br false, .reg (arA8_8 r2573 r2576 r2579), .reg (arA8_9 r2573 r2576 r2587), .reg (.n :: .call (vi r2590) :: .n :: []), .reg (.n :: .n :: []), .br true, .reg (nN 7 (.b true :: nN 3 (.b true :: nN 3 (.b true :: .n :: nS 3 (.b false :: .n :: [])))))]) (fr := true) (by kernel_rfl) (an (an (ti (ti trivial)) (an (an (an (nawake_ok k _ h2566) (ti trivial)) (an (not_f h2567) trivial)) (an (an e2571 (an (decide_eq_false h2572) trivial)) (an e2582 (an e2589 (an (ti (an e2592 (ti trivial))) (an (ti (ti trivial)) (an (not_t (decide_eq_false h2593)) (an e2698 trivial))))))))) (ti trivial)) (Wv.refl _)
       ·have e2699 := (ti (ti (ti (ti (an (an (decide_eq_true h2692) trivial) (an (an (decide_eq_true h2692) trivial) (an (an (decide_eq_true h2692) trivial) (an (decide_eq_true h2692) (ti (an (an (decide_eq_true h2693) trivial) (an (an (decide_eq_true h2693) trivial) (an (decide_eq_true h2693) (ti (an (decide_eq_false h2694) (an (decide_eq_false h2694) (an (decide_eq_false h2694) (ti (an rf (an rf (an rf (an rf (ti trivial))))))))))))))))))))))
        injection h with h; subst h
        exact fun_ok pm pn Go.Proofs.Try.func9 (r0 := vb false) (ans := [.reg (.n :: .n :: []), .reg (.call (vb r2565) :: .n :: []), .br false, .reg (.n :: .call (vb r2568) :: nN 5 (.b false :: [])), .br false, .reg (arA8_8 r2573 r2576 r2579), .reg (arA8_9 r2573 r2576 r2587), .reg (.n :: .call (vi r2590) :: .n :: []), .reg (.n :: .n :: []), .br true, .reg arA8_12]) (fr := true) (by kernel_rfl) (an (an (ti (ti trivial)) (an (an (an (nawake_ok k _ h2566) (ti trivial)) (an (not_f h2567) trivial)) (an (an e2571 (an (decide_eq_false h2572) trivial)) (an e2582 (an e2589 (an (ti (an e2592 (ti trivial))) (an (ti (ti trivial)) (an (not_t (decide_eq_false h2593)) (an e2699 trivial))))))))) (ti trivial)) (Wv.refl _)
      ·have e2700 := (ti (ti (ti (ti (an (an (decide_eq_true h2692) trivial) (an (an (decide_eq_true h2692) trivial) (an (an (decide_eq_true h2692) trivial) (an (decide_eq_true h2692) (ti (an (decide_eq_false h2693) (an (decide_eq_false h2693) (an (decide_eq_false h2693) (ti (an rf (an rf (an rf (ti (an rf (an rf (an rf (an rf (ti trivial))))))))))))))))))))))
       injection h with h; subst h
       exact fun_ok pm pn Go.Proofs.Try.func9 (r0 := vb false) (ans := [.reg (.n :: .n :: []), .reg (.call (vb r2565) :: .n :: []), .br false, .reg (.n :: .call (vb r2568) :: nN 5 (.b false :: [])), .br false, .reg (arA8_8 r2573 r2576 r2579), .reg (arA8_9 r2573 r2576 r2587), .reg (.n :: .call (vi r2590) :: .n :: []), .reg (.n :: .n :: []), .br true, .reg arA8_13]) (fr := true) (by kernel_rfl) (an (an (ti (ti trivial)) (an (an (an (nawake_ok k _ h2566) (ti trivial)) (an (not_f h2567) trivial)) (an (an e2571 (an (decide_eq_false h2572) trivial)) (an e2582 (an e2589 (an (ti (an e2592 (ti trivial))) (an (ti (ti trivial)) (an (not_t (decide_eq_false h2593)) (an e2700 trivial))))))))) (ti trivial)) (Wv.refl _)
     ·have e2701 := (ti (ti (ti (ti (an (decide_eq_false h2692) (an (decide_eq_false h2692) (an (decide_eq_false h2692) (an (decide_eq_false h2692) (ti (an rf (an rf (an rf (ti (an rf (an rf (an rf (ti (an rf (an rf (an rf (an rf (ti trivial))))))))))))))))))))))
      injection h with h; subst h
      exact fun_ok pm pn Go.Proofs.Try.func9 (r0 := vb false) (ans := [.reg (.n :: .n :: []), .reg (.call (vb r2565) :: .n :: []), .br false, .reg (.n :: .call (vb r2568) :: nN 5 (.b false :: [])), .br false, .reg (arA8_8 r2573 r2576 r2579), .reg (arA8_9 r2573 r2576 r2587), .reg (.n :: .call (vi r2590) :: .n :: []), .reg (.n :: .n :: []), .br true, .reg arA8_14]) (fr := true) (by kernel_rfl) (an (an (ti (ti trivial)) (an (an (an (nawake_ok k _ h2566) (ti trivial)) (an (not_f h2567) trivial)) (an (an e2571 (an (decide_eq_false h2572) trivial)) (an e2582 (an e2589 (an (ti (an e2592 (ti trivial))) (an (ti (ti trivial)) (an (not_t (decide_eq_false h2593)) (an e2701 trivial))))))))) (ti trivial)) (Wv.refl _)
  ·have e2702 := (ti (an (nspeculumlaw03_Light_ok k a0 _ h2569) (ti (ti (an (not_t (bool_f h2570)) (an (not_t (bool_f h2570)) (an (not_t (bool_f h2570)) (an (not_t (bool_f h2570)) trivial))))))))
   injection h with h; subst h
   exact fun_ok pm pn Go.Proofs.Try.func9 (r0 := vb true) (ans := [.reg (.n :: .n :: []), .reg (.call (vb r2565) :: .n :: []), .br false, .reg (.n :: .call (vb r2568) :: .n :: .n :: nS 3 (.b true :: [])), .br true, .reg (.n :: [])]) (fr := true) (by kernel_rfl) (an (an (ti (ti trivial)) (an (an (an (nawake_ok k _ h2566) (ti trivial)) (an (not_f h2567) trivial)) (an e2702 (an rt (an (ti trivial) trivial))))) (ti trivial)) (Wv.refl _)
 ·injection h with h; subst h
  exact fun_ok pm pn Go.Proofs.Try.func9 (r0 := vb false) (ans := [.reg (.n :: .n :: []), .reg (.call (vb r2565) :: .n :: []), .br true, .reg (.n :: [])]) (fr := true) (by kernel_rfl) (an (an (ti (ti trivial)) (an (an (nawake_ok k _ h2566) (ti trivial)) (an (not_t (bool_f h2567)) (an (ti trivial) trivial)))) (ti trivial)) (Wv.refl _)
end Go.Proofs.Ytclabanknlmneaa.Vg

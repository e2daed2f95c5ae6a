/- Written by a program out of the program: what Go functions do, as plain functions, and their contracts. -/
import Derived.Test.YtclabanknlmneaaA5
namespace Go.Proofs.Ytclabanknlmneaa.Vg
set_option maxRecDepth 100000
set_option maxHeartbeats 4000000
set_option linter.unusedVariables false
set_option linter.unusedSimpArgs false
open Go Go.Proofs.Ytclabanknlmneaa.Ev Go.Proofs.Ytclabanknlmneaa.Vv
def nawake (k : Nat) : Option Bool := some true
theorem nawake_ok (k : Nat) (r : Bool) (h : nawake k = some r) : VC Go.Proofs.Try.prog 12 [] (vb r) := by
  injection h with h; subst h
  exact vc_awake
def nspeculumbase_CopyInts (k : Nat) (a0 : (List Int)) : Option (List Int) :=
  if ([] : List Int).length + a0.length ≤ 1000000000 then (some (([] : List Int) ++ a0)) else none
theorem nspeculumbase_CopyInts_ok (k : Nat) (a0 : (List Int)) (r : (List Int)) (h : nspeculumbase_CopyInts k a0 = some r) : VC Go.Proofs.Try.prog 41 [VV.tr (List.map vi a0) a0.length] (VV.fw 1 (List.map vi r) r.length) := by
 unfold nspeculumbase_CopyInts at h
 obtain ⟨h1734, h⟩ := ifn h
 have e1735 := (show List.length [] = 0 * 1 ∧ List.length (List.map vi a0) = a0.length * 1 ∧ (0 + a0.length) * 8 ≤ 140737488355328 ∧ 0 + a0.length < 1099511627776 ∧ List.all (List.map vi a0) VV.still = true from ⟨(by rw [show [] = List.map vi ([] : List Int) from rfl]; simp), (by simp), (by first | omega | (simp at h1734 ⊢; omega)), (by first | omega | (simp at h1734 ⊢; omega)), (by exact still_vi _)⟩)
 injection h with h; subst h
 exact fun_ok pm pn Go.Proofs.Try.func41 (r0 := VV.fw 1 (List.drop 0 (List.map unfr ([] ++ (List.map vi a0)))) (0 + a0.length)) (ans := [.reg (.n :: []), .reg (nN 4 [])]) (fr := true) (by kernel_rfl) (an (an (ti trivial) (an (ti (ti (an e1735 (ti trivial)))) trivial)) (an (show List.all ([] ++ (List.map vi a0)) new0 = true from (by rw [show [] ++ (List.map vi a0) = List.map vi (([] : List Int) ++ a0) from (by rw [show [] = List.map vi ([] : List Int) from rfl]; exact List.map_append.symm)]; exact new0_vi _)) trivial)) (Wv.of_eq (by simp only [show [] ++ (List.map vi a0) = List.map vi (([] : List Int) ++ a0) from (by rw [show [] = List.map vi ([] : List Int) from rfl]; exact List.map_append.symm), drop0, unfr_vi, unfr_vb, unfr_vs, List.map_cons, List.map_nil, un_i, un_k, un_b, un_s, un_tr, un_fr, List.length_map, List.length_replicate, List.length_append, List.length_set, List.length_cons, List.length_nil, unfr_c_SAnnealing, unfr_g_SAnnealing, unfr_c_SCoolStep, unfr_c_SCoolWindow, unfr_c_SRange, unfr_c_SCoolBound, unfr_c_Sschedule, unfr_g_Sschedule]))
def arA7_0 (z0 : ((List SCoolBound) × Int)) (z1 : (List Int)) (z2 : Int) : List Ans := (nN 4 (.v (vi ((z0.1.getD (z1.getD z2.toNat 0).toNat default).From)) :: .n :: .n :: []))
def arA7_1 (z0 : ((List SCoolBound) × Int)) (z1 : (List Int)) (z2 : Int) : List Ans := (nN 5 (.v (vi ((z0.1.getD (z1.getD z2.toNat 0).toNat default).Most)) :: nN 5 (.v (vi ((z0.1.getD (z1.getD z2.toNat 0).toNat default).To)) :: .n :: .n :: [])))
def nblank_CheckCircle_l0_0_h (a1 : (List Int)) (r1816 : ((List SCoolBound) × Int)) (x28 : Int) : VS := ⟨mkA [(1, VV.tr (List.map vi a1) a1.length), (6, VV.fr (List.flatMap c_SCoolBound r1816.1) r1816.1.length), (26, VV.tr (List.map vi a1) a1.length), (27, vi (a1.length : Int)), (28, vi x28)], [], .nil⟩
def nblank_CheckCircle_l0_0_e0 (a1 : (List Int)) (r1816 : ((List SCoolBound) × Int)) (r : Unit) : VS := ⟨mkA [(4, vi 0), (5, vi 6)], [], .nil⟩
def nblank_CheckCircle_l0_0_e1 (a1 : (List Int)) (r1816 : ((List SCoolBound) × Int)) (r : Unit) : VS := ⟨mkA [(1, VV.tr (List.map vi a1) a1.length), (6, VV.fr (List.flatMap c_SCoolBound r1816.1) r1816.1.length)], [], .nil⟩
def nblank_CheckCircle_l0_0 (k : Nat) (a1 : (List Int)) (r1816 : ((List SCoolBound) × Int)) : Nat → Int → Option (Sum Unit Unit)
  | 0, _ => none
  | fuel + 1, x28 => if x28 < (a1.length : Int) then (if 0 ≤ x28 ∧ x28 < (a1.length : Int) then ((nblank_isWithin k (a1.getD x28.toNat 0) 0 (w64 ((r1816.1.length : Int) - 1))).bind fun r1841 => (if r1841 = true then (nblank_CheckCircle_l0_0 k a1 r1816 fuel (w64 (x28 + 1))) else (some (.inl ())))) else none) else (some (.inr ()))
theorem nblank_CheckCircle_l0_0_ok (k : Nat) (a1 : (List Int)) (r1816 : ((List SCoolBound) × Int)) : ∀ (fuel : Nat) (x28 : Int) (r : Sum Unit Unit), nblank_CheckCircle_l0_0 k a1 r1816 fuel x28 = some r → (match r with | .inl r => VLoop none Go.Proofs.Try.prog (szF Go.Proofs.Try.f40) (bodyOf Go.Proofs.Try.f40 0) (nblank_CheckCircle_l0_0_h a1 r1816 x28) .ret (nblank_CheckCircle_l0_0_e0 a1 r1816 r) | .inr r => VLoop none Go.Proofs.Try.prog (szF Go.Proofs.Try.f40) (bodyOf Go.Proofs.Try.f40 0) (nblank_CheckCircle_l0_0_h a1 r1816 x28) (.exit 0) (nblank_CheckCircle_l0_0_e1 a1 r1816 r)) := by
 intro fuel
 induction fuel with
 | zero => intro x28 r h; rw [nblank_CheckCircle_l0_0.eq_1] at h; cases h
 | succ fuel ih =>
  intro x28 r h
  rw [nblank_CheckCircle_l0_0.eq_2] at h
  rcases ifs h with ⟨h1838, h⟩ | ⟨h1838, h⟩
  ·obtain ⟨h1839, h⟩ := ifn h
   have e1840 := (show loadL Go.Proofs.Try.prog 3 (x28.toNat * 1) (List.map vi a1) = some (vi (a1.getD x28.toNat 0)) from ld_map ag3 vi a1 0 h1839 (by omega))
   obtain ⟨r1841, h1842, h⟩ := bs h
   have e1843 := (nblank_isWithin_ok k (a1.getD x28.toNat 0) 0 (w64 ((r1816.1.length : Int) - 1)) _ h1842)
   rcases ifs h with ⟨h1844, h⟩ | ⟨h1844, h⟩
   ·have h2 := ih _ _ h
    obtain ⟨q, hv, hq⟩ := pkR (rd := none) (P := Go.Proofs.Try.prog) (fn := Go.Proofs.Try.f40) (k := 0) (s := (nblank_CheckCircle_l0_0_h a1 r1816 x28)) (ans := [.reg (.n :: []), .br true, .reg (.n :: .v (vi (a1.getD x28.toNat 0)) :: .n :: []), .reg (nN 4 (.call (vb r1841) :: .n :: [])), .br false, .reg (.n :: .n :: [])]) (c := ⟨[(1, none), (6, none), (26, none), (27, none), (28, none)], [], []⟩) (e := .normal) (s1 := (nblank_CheckCircle_l0_0_h a1 r1816 (w64 (x28 + 1)))) (an (an (ti trivial) (an (an (decide_eq_true h1838) trivial) (an (an (an h1839 (an e1840 (ti trivial))) (an (ti (ti (ti (ti (an e1843 (ti trivial)))))) (an (not_f h1844) trivial))) (ti (ti trivial))))) (ti trivial)) (by kernel_rfl)
    cases r with
    | inl r => exact round_next pm pn hv hq h2
    | inr r =>
     exact round_next pm pn hv hq h2
   ·injection h with h; subst h
    exact round_stop (c := ⟨[(4, none), (5, none)], [], []⟩) (s1 := (nblank_CheckCircle_l0_0_e0 a1 r1816 ())) pm pn (ans := [.reg (.n :: []), .br true, .reg (.n :: .v (vi (a1.getD x28.toNat 0)) :: .n :: []), .reg (nN 4 (.call (vb r1841) :: .n :: [])), .br true, .reg (.n :: .n :: [])]) (by kernel_rfl) (by intro e; cases e) (an (an (ti trivial) (an (an (decide_eq_true h1838) trivial) (an (an h1839 (an e1840 (ti trivial))) (an (ti (ti (ti (ti (an e1843 (ti trivial)))))) (an (not_t (bool_f h1844)) (an (ti (ti trivial)) trivial)))))) (ti trivial))
  ·injection h with h; subst h
   exact round_stop (c := ⟨[(1, none), (6, none)], [], []⟩) (s1 := (nblank_CheckCircle_l0_0_e1 a1 r1816 ())) pm pn (ans := [.reg (.n :: []), .br false]) (by kernel_rfl) (by intro e; cases e) (an (an (ti trivial) (an (decide_eq_false h1838) trivial)) (ti trivial))
def arA7_2 (z0 : ((List SCoolBound) × Int)) : List Ans := (.n :: .call (VV.tu [VV.fr (List.flatMap c_SCoolBound z0.1) z0.1.length, vi z0.2]) :: nN 5 [])
def nblank_CheckCircle_l1_0_h (a1 : (List Int)) (r1816 : ((List SCoolBound) × Int)) (x10 : Int) (x11 : Int) (x51 : Int) : VS := ⟨mkA [(6, VV.fr (List.flatMap c_SCoolBound r1816.1) r1816.1.length), (10, vi x10), (11, vi x11), (49, VV.tr (List.map vi a1) a1.length), (50, vi (a1.length : Int)), (51, vi x51)], [], .nil⟩
def nblank_CheckCircle_l1_0_e0 (a1 : (List Int)) (r1816 : ((List SCoolBound) × Int)) (r : Unit) : VS := ⟨mkA [(4, vi 0), (5, vi 25)], [], .nil⟩
def nblank_CheckCircle_l1_0_e1 (a1 : (List Int)) (r1816 : ((List SCoolBound) × Int)) (r : Int) : VS := ⟨mkA [(10, vi r)], [], .nil⟩
def nblank_CheckCircle_l1_0 (k : Nat) (a1 : (List Int)) (r1816 : ((List SCoolBound) × Int)) : Nat → Int → Int → Int → Option (Sum Unit Int)
  | 0, _, _, _ => none
  | fuel + 1, x10, x11, x51 => if x51 < (a1.length : Int) then (if 0 ≤ x51 ∧ x51 < (a1.length : Int) then (if 0 ≤ (a1.getD x51.toNat 0) ∧ (a1.getD x51.toNat 0) < (r1816.1.length : Int) then (if ((r1816.1.getD (a1.getD x51.toNat 0).toNat default).From) = x11 then (nblank_CheckCircle_l1_0 k a1 r1816 fuel (w64 (x10 + ((r1816.1.getD (a1.getD x51.toNat 0).toNat default).Most))) ((r1816.1.getD (a1.getD x51.toNat 0).toNat default).To) (w64 (x51 + 1))) else (some (.inl ()))) else none) else none) else (some (.inr x10))
theorem nblank_CheckCircle_l1_0_ok (k : Nat) (a1 : (List Int)) (r1816 : ((List SCoolBound) × Int)) : ∀ (fuel : Nat) (x10 : Int) (x11 : Int) (x51 : Int) (r : Sum Unit Int), nblank_CheckCircle_l1_0 k a1 r1816 fuel x10 x11 x51 = some r → (match r with | .inl r => VLoop none Go.Proofs.Try.prog (szF Go.Proofs.Try.f40) (bodyOf Go.Proofs.Try.f40 1) (nblank_CheckCircle_l1_0_h a1 r1816 x10 x11 x51) .ret (nblank_CheckCircle_l1_0_e0 a1 r1816 r) | .inr r => VLoop none Go.Proofs.Try.prog (szF Go.Proofs.Try.f40) (bodyOf Go.Proofs.Try.f40 1) (nblank_CheckCircle_l1_0_h a1 r1816 x10 x11 x51) (.exit 2) (nblank_CheckCircle_l1_0_e1 a1 r1816 r)) := by
 intro fuel
 induction fuel with
 | zero => intro x10 x11 x51 r h; rw [nblank_CheckCircle_l1_0.eq_1] at h; cases h
 | succ fuel ih =>
  intro x10 x11 x51 r h
  rw [nblank_CheckCircle_l1_0.eq_2] at h
  rcases ifs h with ⟨h1876, h⟩ | ⟨h1876, h⟩
  ·obtain ⟨h1877, h⟩ := ifn h
   have e1878 := (show loadL Go.Proofs.Try.prog 3 (x51.toNat * 1) (List.map vi a1) = some (vi (a1.getD x51.toNat 0)) from ld_map ag3 vi a1 0 h1877 (by omega))
   obtain ⟨h1879, h⟩ := ifn h
   have e1880 := (show loadL Go.Proofs.Try.prog 3 ((a1.getD x51.toNat 0).toNat * 3 + 0) (List.flatMap c_SCoolBound r1816.1) = some (vi ((r1816.1.getD (a1.getD x51.toNat 0).toNat default).From)) from (ld_flat ag3 c_SCoolBound 3 0 len_c_SCoolBound (by omega) r1816.1 default h1879 (by omega)).trans rfl)
   have e1881 := (ti (ti (an h1879 (ti (an e1880 (ti (ti trivial)))))))
   rcases ifs h with ⟨h1882, h⟩ | ⟨h1882, h⟩
   ·have e1883 := (show loadL Go.Proofs.Try.prog 3 ((a1.getD x51.toNat 0).toNat * 3 + 2) (List.flatMap c_SCoolBound r1816.1) = some (vi ((r1816.1.getD (a1.getD x51.toNat 0).toNat default).Most)) from (ld_flat ag3 c_SCoolBound 3 2 len_c_SCoolBound (by omega) r1816.1 default h1879 (by omega)).trans rfl)
    have e1884 := (show loadL Go.Proofs.Try.prog 3 ((a1.getD x51.toNat 0).toNat * 3 + 1) (List.flatMap c_SCoolBound r1816.1) = some (vi ((r1816.1.getD (a1.getD x51.toNat 0).toNat default).To)) from (ld_flat ag3 c_SCoolBound 3 1 len_c_SCoolBound (by omega) r1816.1 default h1879 (by omega)).trans rfl)
    have e1885 := (ti (ti (ti (an h1879 (ti (an e1883 (ti (ti (ti (an h1879 (ti (an e1884 (ti (ti trivial))))))))))))))
    have h2 := ih _ _ _ _ h
    obtain ⟨q, hv, hq⟩ := pkR (rd := none) (P := Go.Proofs.Try.prog) (fn := Go.Proofs.Try.f40) (k := 1) (s := (nblank_CheckCircle_l1_0_h a1 r1816 x10 x11 x51)) (ans := [.reg (.n :: []), .br true, .reg (.n :: .v (vi (a1.getD x51.toNat 0)) :: .n :: []), .reg (arA7_0 r1816 a1 x51), .br false, .reg (arA7_1 r1816 a1 x51), .reg (.n :: .n :: [])]) (c := ⟨[(6, none), (10, none), (11, none), (49, none), (50, none), (51, none)], [], []⟩) (e := .normal) (s1 := (nblank_CheckCircle_l1_0_h a1 r1816 (w64 (x10 + ((r1816.1.getD (a1.getD x51.toNat 0).toNat default).Most))) ((r1816.1.getD (a1.getD x51.toNat 0).toNat default).To) (w64 (x51 + 1)))) (an (an (ti trivial) (an (an (decide_eq_true h1876) trivial) (an (an (an h1877 (an e1878 (ti trivial))) (an (an e1881 (an (not_f (decide_eq_true h1882)) trivial)) e1885)) (ti (ti trivial))))) (ti trivial)) (by kernel_rfl)
    cases r with
    | inl r => exact round_next pm pn hv hq h2
    | inr r =>
     exact round_next pm pn hv hq h2
   ·injection h with h; subst h
    exact round_stop (c := ⟨[(4, none), (5, none)], [], []⟩) (s1 := (nblank_CheckCircle_l1_0_e0 a1 r1816 ())) pm pn (ans := [.reg (.n :: []), .br true, .reg (.n :: .v (vi (a1.getD x51.toNat 0)) :: .n :: []), .reg (arA7_0 r1816 a1 x51), .br true, .reg (.n :: .n :: [])]) (by kernel_rfl) (by intro e; cases e) (an (an (ti trivial) (an (an (decide_eq_true h1876) trivial) (an (an h1877 (an e1878 (ti trivial))) (an e1881 (an (not_t (decide_eq_false h1882)) (an (ti (ti trivial)) trivial)))))) (ti trivial))
  ·injection h with h; subst h
   exact round_stop (c := ⟨[(10, none)], [], []⟩) (s1 := (nblank_CheckCircle_l1_0_e1 a1 r1816 x10)) pm pn (ans := [.reg (.n :: []), .br false]) (by kernel_rfl) (by intro e; cases e) (an (an (ti trivial) (an (decide_eq_false h1876) trivial)) (ti trivial))
def arA7_3 (z0 : (List Int)) (z1 : ((List SCoolBound) × Int)) : List Ans := (nN 6 (.v (vi (z0.getD (w64 ((z0.length : Int) - 1)).toNat 0)) :: .n :: .n :: .v (vi ((z1.1.getD (z0.getD (w64 ((z0.length : Int) - 1)).toNat 0).toNat default).To)) :: .n :: .n :: []))
def nblank_CheckCircle (k : Nat) (a0 : SAnnealing) (a1 : (List Int)) : Option (Int × Int) :=
  (nblank_CoolSystem k a0).bind fun r1816 => (if r1816.2 = 0 then ((nblank_isWithin k (a1.length : Int) 1 200).bind fun r1820 => (if r1820 = true then ((nblank_CheckCircle_l0_0 k a1 r1816 k 0).bind fun r1846 => (match r1846 with | .inl r1847 => (some (0, 6)) | .inr r1848 => (if 0 ≤ w64 ((a1.length : Int) - 1) ∧ w64 ((a1.length : Int) - 1) < (a1.length : Int) then (if 0 ≤ (a1.getD (w64 ((a1.length : Int) - 1)).toNat 0) ∧ (a1.getD (w64 ((a1.length : Int) - 1)).toNat 0) < (r1816.1.length : Int) then ((nblank_CheckCircle_l1_0 k a1 r1816 k 0 ((r1816.1.getD (a1.getD (w64 ((a1.length : Int) - 1)).toNat 0).toNat default).To) 0).bind fun r1887 => (match r1887 with | .inl r1888 => (some (0, 25)) | .inr r1889 => (if 0 ≤ r1889 then (some (0, 22)) else (some (r1889, 0))))) else none) else none))) else (some (0, 10)))) else (some (0, r1816.2)))
theorem nblank_CheckCircle_ok (k : Nat) (a0 : SAnnealing) (a1 : (List Int)) (r : (Int × Int)) (h : nblank_CheckCircle k a0 a1 = some r) : VC Go.Proofs.Try.prog 40 [VV.ag (c_SAnnealing a0), VV.tr (List.map vi a1) a1.length] (VV.tu [vi r.1, vi r.2]) := by
 unfold nblank_CheckCircle at h
 obtain ⟨r1816, h1817, h⟩ := bs h
 have e1818 := (show VC Go.Proofs.Try.prog 34 [VV.ag (c_SAnnealing a0)] (VV.tu [VV.fr (List.flatMap c_SCoolBound r1816.1) r1816.1.length, vi r1816.2]) from (VC.weak (nblank_CoolSystem_ok k a0 _ h1817) (Wv.tuL (.cons (Wv.fw rfl rfl) (.cons (Wv.refl _) .nil)))))
 rcases ifs h with ⟨h1819, h⟩ | ⟨h1819, h⟩
 ·obtain ⟨r1820, h1821, h⟩ := bs h
  have e1822 := (nblank_isWithin_ok k (a1.length : Int) 1 200 _ h1821)
  rcases ifs h with ⟨h1823, h⟩ | ⟨h1823, h⟩
  ·obtain ⟨r1846, h1845, h⟩ := bs h
   have hph1845 := nblank_CheckCircle_l0_0_ok k a1 r1816 _ _ _ h1845
   cases r1846 with
   | inl r1847 =>
    dsimp only at h
    have e1849 := (an (ti trivial) (VRun.loop hph1845))
    injection h with h; subst h
    exact fun_ok pm pn Go.Proofs.Try.func40 (r0 := VV.tu [vi 0, vi 6]) (ans := [.reg (nN 3 []), .reg (arA7_2 r1816), .reg (.n :: .n :: []), .br false, .reg (.n :: .n :: .call (vb r1820) :: .n :: []), .br false, .reg (nN 3 []), .sub ⟨[(1, none), (6, none), (26, none), (27, none), (28, none)], [], []⟩ .ret (nblank_CheckCircle_l0_0_e0 a1 r1816 r1847)]) (fr := true) (by kernel_rfl) (an (an (ti (ti (ti trivial))) (an (ti (an e1818 (ti (ti (ti (ti (ti trivial))))))) (an (an (ti (ti trivial)) (an (not_f (decide_eq_true h1819)) trivial)) (an (an (ti (ti (an e1822 (ti trivial)))) (an (not_f h1823) trivial)) (an (ti (ti (ti trivial))) e1849))))) (ti (ti trivial))) (Wv.refl _)
   | inr r1848 =>
    dsimp only at h
    have e1850 := (an (ti trivial) (VRun.loop hph1845))
    obtain ⟨h1851, h⟩ := ifn h
    have e1852 := (show loadL Go.Proofs.Try.prog 3 ((w64 ((a1.length : Int) - 1)).toNat * 1) (List.map vi a1) = some (vi (a1.getD (w64 ((a1.length : Int) - 1)).toNat 0)) from ld_map ag3 vi a1 0 h1851 (by omega))
    obtain ⟨h1853, h⟩ := ifn h
    have e1854 := (show loadL Go.Proofs.Try.prog 3 ((a1.getD (w64 ((a1.length : Int) - 1)).toNat 0).toNat * 3 + 1) (List.flatMap c_SCoolBound r1816.1) = some (vi ((r1816.1.getD (a1.getD (w64 ((a1.length : Int) - 1)).toNat 0).toNat default).To)) from (ld_flat ag3 c_SCoolBound 3 1 len_c_SCoolBound (by omega) r1816.1 default h1853 (by omega)).trans rfl)
    have e1855 := (ti (ti (ti (ti (ti (an h1851 (an e1852 (an h1853 (ti (an e1854 (ti (ti trivial))))))))))))
    obtain ⟨r1887, h1886, h⟩ := bs h
    have hph1886 := nblank_CheckCircle_l1_0_ok k a1 r1816 _ _ _ _ _ h1886
    cases r1887 with
    | inl r1888 =>
     dsimp only at h
     have e1890 := (an (ti trivial) (VRun.loop hph1886))
     injection h with h; subst h
     exact fun_ok pm pn Go.Proofs.Try.func40 (r0 := VV.tu [vi 0, vi 25]) (ans := [.reg (nN 3 []), .reg (arA7_2 r1816), .reg (.n :: .n :: []), .br false, .reg (.n :: .n :: .call (vb r1820) :: .n :: []), .br false, .reg (nN 3 []), .sub ⟨[(1, none), (6, none), (26, none), (27, none), (28, none)], [], []⟩ (.exit 0) (nblank_CheckCircle_l0_0_e1 a1 r1816 r1848), .reg (arA7_3 a1 r1816), .reg (nN 3 []), .sub ⟨[(6, none), (10, none), (11, none), (49, none), (50, none), (51, none)], [], []⟩ .ret (nblank_CheckCircle_l1_0_e0 a1 r1816 r1888)]) (fr := true) (by kernel_rfl) (an (an (ti (ti (ti trivial))) (an (ti (an e1818 (ti (ti (ti (ti (ti trivial))))))) (an (an (ti (ti trivial)) (an (not_f (decide_eq_true h1819)) trivial)) (an (an (ti (ti (an e1822 (ti trivial)))) (an (not_f h1823) trivial)) (an (an (ti (ti (ti trivial))) e1850) (an e1855 (an (ti (ti (ti trivial))) e1890))))))) (ti (ti trivial))) (Wv.refl _)
    | inr r1889 =>
     dsimp only at h
     have e1891 := (an (ti trivial) (VRun.loop hph1886))
     rcases ifs h with ⟨h1892, h⟩ | ⟨h1892, h⟩
     ·injection h with h; subst h
      exact fun_ok pm pn Go.Proofs.Try.func40 (r0 := VV.tu [vi 0, vi 22]) (ans := [.reg (nN 3 []), .reg (arA7_2 r1816), .reg (.n :: .n :: []), .br false, .reg (.n :: .n :: .call (vb r1820) :: .n :: []), .br false, .reg (nN 3 []), .sub ⟨[(1, none), (6, none), (26, none), (27, none), (28, none)], [], []⟩ (.exit 0) (nblank_CheckCircle_l0_0_e1 a1 r1816 r1848), .reg (arA7_3 a1 r1816), .reg (nN 3 []), .sub ⟨[(6, none), (10, none), (11, none), (49, none), (50, none), (51, none)], [], []⟩ (.exit 2) (nblank_CheckCircle_l1_0_e1 a1 r1816 r1889), .reg (.n :: .n :: []), .br true, .reg (.n :: .n :: [])]) (fr := true) (by kernel_rfl) (an (an (ti (ti (ti trivial))) (an (ti (an e1818 (ti (ti (ti (ti (ti trivial))))))) (an (an (ti (ti trivial)) (an (not_f (decide_eq_true h1819)) trivial)) (an (an (ti (ti (an e1822 (ti trivial)))) (an (not_f h1823) trivial)) (an (an (ti (ti (ti trivial))) e1850) (an e1855 (an (an (ti (ti (ti trivial))) e1891) (an (ti (ti trivial)) (an (decide_eq_true h1892) (an (ti (ti trivial)) trivial)))))))))) (ti (ti trivial))) (Wv.refl _)
     ·injection h with h; subst h
      exact fun_ok pm pn Go.Proofs.Try.func40 (r0 := VV.tu [vi r1889, vi 0]) (ans := [.reg (nN 3 []), .reg (arA7_2 r1816), .reg (.n :: .n :: []), .br false, .reg (.n :: .n :: .call (vb r1820) :: .n :: []), .br false, .reg (nN 3 []), .sub ⟨[(1, none), (6, none), (26, none), (27, none), (28, none)], [], []⟩ (.exit 0) (nblank_CheckCircle_l0_0_e1 a1 r1816 r1848), .reg (arA7_3 a1 r1816), .reg (nN 3 []), .sub ⟨[(6, none), (10, none), (11, none), (49, none), (50, none), (51, none)], [], []⟩ (.exit 2) (nblank_CheckCircle_l1_0_e1 a1 r1816 r1889), .reg (.n :: .n :: []), .br false, .reg (nN 3 [])]) (fr := true) (by kernel_rfl) (an (an (ti (ti (ti trivial))) (an (ti (an e1818 (ti (ti (ti (ti (ti trivial))))))) (an (an (ti (ti trivial)) (an (not_f (decide_eq_true h1819)) trivial)) (an (an (ti (ti (an e1822 (ti trivial)))) (an (not_f h1823) trivial)) (an (an (ti (ti (ti trivial))) e1850) (an e1855 (an (an (ti (ti (ti trivial))) e1891) (an (an (ti (ti trivial)) (an (decide_eq_false h1892) trivial)) (an (ti (ti (ti trivial))) trivial))))))))) (ti (ti trivial))) (Wv.refl _)
  ·injection h with h; subst h
   exact fun_ok pm pn Go.Proofs.Try.func40 (r0 := VV.tu [vi 0, vi 10]) (ans := [.reg (nN 3 []), .reg (arA7_2 r1816), .reg (.n :: .n :: []), .br false, .reg (.n :: .n :: .call (vb r1820) :: .n :: []), .br true, .reg (.n :: .n :: [])]) (fr := true) (by kernel_rfl) (an (an (ti (ti (ti trivial))) (an (ti (an e1818 (ti (ti (ti (ti (ti trivial))))))) (an (an (ti (ti trivial)) (an (not_f (decide_eq_true h1819)) trivial)) (an (ti (ti (an e1822 (ti trivial)))) (an (not_t (bool_f h1823)) (an (ti (ti trivial)) trivial)))))) (ti (ti trivial))) (Wv.refl _)
 ·injection h with h; subst h
  exact fun_ok pm pn Go.Proofs.Try.func40 (r0 := VV.tu [vi 0, vi r1816.2]) (ans := [.reg (nN 3 []), .reg (arA7_2 r1816), .reg (.n :: .n :: []), .br true, .reg (nN 3 [])]) (fr := true) (by kernel_rfl) (an (an (ti (ti (ti trivial))) (an (ti (an e1818 (ti (ti (ti (ti (ti trivial))))))) (an (ti (ti trivial)) (an (not_t (decide_eq_false h1819)) (an (ti (ti (ti trivial))) trivial))))) (ti (ti trivial))) (Wv.refl _)
def arA7_4 (z0 : (List Int)) (z1 : Int) (z2 : (List SCoolBound)) : List Ans := (nN 4 (.v (vi (z0.getD z1.toNat 0)) :: .n :: .v (VV.ag (c_SCoolBound (z2.getD (z0.getD z1.toNat 0).toNat default))) :: .n :: .n :: []))
def nspeculumref03_CheckCircle_l0_0_h (a1 : (List Int)) (r1971 : (List SCoolBound)) (x7 : Int) : VS := ⟨mkA [(1, VV.tr (List.map vi a1) a1.length), (6, VV.fr (List.flatMap c_SCoolBound r1971) r1971.length), (7, vi x7)], [], .nil⟩
def nspeculumref03_CheckCircle_l0_0_e0 (a1 : (List Int)) (r1971 : (List SCoolBound)) (r : Unit) : VS := ⟨mkA [(4, vi 0), (5, vi 6)], [], .nil⟩
def nspeculumref03_CheckCircle_l0_0_e1 (a1 : (List Int)) (r1971 : (List SCoolBound)) (r : Unit) : VS := ⟨mkA [(1, VV.tr (List.map vi a1) a1.length), (6, VV.fr (List.flatMap c_SCoolBound r1971) r1971.length)], [], .nil⟩
def nspeculumref03_CheckCircle_l0_0 (k : Nat) (a1 : (List Int)) (r1971 : (List SCoolBound)) : Nat → Int → Option (Sum Unit Unit)
  | 0, _ => none
  | fuel + 1, x7 => if x7 < (a1.length : Int) then (if 0 ≤ x7 ∧ x7 < (a1.length : Int) then ((nspeculumbase_Within k (a1.getD x7.toNat 0) 0 (w64 ((r1971.length : Int) - 1))).bind fun r1997 => (if r1997 = true then (nspeculumref03_CheckCircle_l0_0 k a1 r1971 fuel (w64 (x7 + 1))) else (some (.inl ())))) else none) else (some (.inr ()))
theorem nspeculumref03_CheckCircle_l0_0_ok (k : Nat) (a1 : (List Int)) (r1971 : (List SCoolBound)) : ∀ (fuel : Nat) (x7 : Int) (r : Sum Unit Unit), nspeculumref03_CheckCircle_l0_0 k a1 r1971 fuel x7 = some r → (match r with | .inl r => VLoop none Go.Proofs.Try.prog (szF Go.Proofs.Try.f39) (bodyOf Go.Proofs.Try.f39 0) (nspeculumref03_CheckCircle_l0_0_h a1 r1971 x7) .ret (nspeculumref03_CheckCircle_l0_0_e0 a1 r1971 r) | .inr r => VLoop none Go.Proofs.Try.prog (szF Go.Proofs.Try.f39) (bodyOf Go.Proofs.Try.f39 0) (nspeculumref03_CheckCircle_l0_0_h a1 r1971 x7) (.exit 0) (nspeculumref03_CheckCircle_l0_0_e1 a1 r1971 r)) := by
 intro fuel
 induction fuel with
 | zero => intro x7 r h; rw [nspeculumref03_CheckCircle_l0_0.eq_1] at h; cases h
 | succ fuel ih =>
  intro x7 r h
  rw [nspeculumref03_CheckCircle_l0_0.eq_2] at h
  rcases ifs h with ⟨h1994, h⟩ | ⟨h1994, h⟩
  ·obtain ⟨h1995, h⟩ := ifn h
   have e1996 := (show loadL Go.Proofs.Try.prog 3 (x7.toNat * 1) (List.map vi a1) = some (vi (a1.getD x7.toNat 0)) from ld_map ag3 vi a1 0 h1995 (by omega))
   obtain ⟨r1997, h1998, h⟩ := bs h
   have e1999 := (nspeculumbase_Within_ok k (a1.getD x7.toNat 0) 0 (w64 ((r1971.length : Int) - 1)) _ h1998)
   have e2000 := (ti (ti (an h1995 (an e1996 (ti (ti (ti (an e1999 (ti trivial)))))))))
   rcases ifs h with ⟨h2001, h⟩ | ⟨h2001, h⟩
   ·have h2 := ih _ _ h
    obtain ⟨q, hv, hq⟩ := pkR (rd := none) (P := Go.Proofs.Try.prog) (fn := Go.Proofs.Try.f39) (k := 0) (s := (nspeculumref03_CheckCircle_l0_0_h a1 r1971 x7)) (ans := [.reg (nN 4 []), .br true, .reg (nN 3 (.v (vi (a1.getD x7.toNat 0)) :: nN 3 (.call (vb r1997) :: .n :: []))), .br false, .reg (nN 3 [])]) (c := ⟨[(1, none), (6, none), (7, none)], [], []⟩) (e := .normal) (s1 := (nspeculumref03_CheckCircle_l0_0_h a1 r1971 (w64 (x7 + 1)))) (an (an (an (ti (ti (ti (ti trivial)))) (an (decide_eq_true h1994) trivial)) (an (an e2000 (an (not_f h2001) trivial)) (ti (ti (ti trivial))))) (ti trivial)) (by kernel_rfl)
    cases r with
    | inl r => exact round_next pm pn hv hq h2
    | inr r =>
     exact round_next pm pn hv hq h2
   ·injection h with h; subst h
    exact round_stop (c := ⟨[(4, none), (5, none)], [], []⟩) (s1 := (nspeculumref03_CheckCircle_l0_0_e0 a1 r1971 ())) pm pn (ans := [.reg (nN 4 []), .br true, .reg (nN 3 (.v (vi (a1.getD x7.toNat 0)) :: nN 3 (.call (vb r1997) :: .n :: []))), .br true, .reg (.n :: .n :: [])]) (by kernel_rfl) (by intro e; cases e) (an (an (an (ti (ti (ti (ti trivial)))) (an (decide_eq_true h1994) trivial)) (an e2000 (an (not_t (bool_f h2001)) (an (ti (ti trivial)) trivial)))) (ti trivial))
  ·injection h with h; subst h
   exact round_stop (c := ⟨[(1, none), (6, none)], [], []⟩) (s1 := (nspeculumref03_CheckCircle_l0_0_e1 a1 r1971 ())) pm pn (ans := [.reg (nN 4 []), .br false]) (by kernel_rfl) (by intro e; cases e) (an (an (ti (ti (ti (ti trivial)))) (an (decide_eq_false h1994) trivial)) (ti trivial))
def nspeculumref03_CheckCircle_l1_0_h (a1 : (List Int)) (r1971 : (List SCoolBound)) (x10 : Int) (x8 : Int) (x9 : Int) : VS := ⟨mkA [(1, VV.tr (List.map vi a1) a1.length), (6, VV.fr (List.flatMap c_SCoolBound r1971) r1971.length), (8, vi x8), (9, vi x9), (10, vi x10)], [], .nil⟩
def nspeculumref03_CheckCircle_l1_0_e0 (a1 : (List Int)) (r1971 : (List SCoolBound)) (r : Unit) : VS := ⟨mkA [(4, vi 0), (5, vi 25)], [], .nil⟩
def nspeculumref03_CheckCircle_l1_0_e1 (a1 : (List Int)) (r1971 : (List SCoolBound)) (r : Int) : VS := ⟨mkA [(8, vi r)], [], .nil⟩
def nspeculumref03_CheckCircle_l1_0 (k : Nat) (a1 : (List Int)) (r1971 : (List SCoolBound)) : Nat → Int → Int → Int → Option (Sum Unit Int)
  | 0, _, _, _ => none
  | fuel + 1, x10, x8, x9 => if x10 < (a1.length : Int) then (if 0 ≤ x10 ∧ x10 < (a1.length : Int) then (if 0 ≤ (a1.getD x10.toNat 0) ∧ (a1.getD x10.toNat 0) < (r1971.length : Int) then (if ((r1971.getD (a1.getD x10.toNat 0).toNat default).From) = x9 then (nspeculumref03_CheckCircle_l1_0 k a1 r1971 fuel (w64 (x10 + 1)) (w64 (x8 + ((r1971.getD (a1.getD x10.toNat 0).toNat default).Most))) ((r1971.getD (a1.getD x10.toNat 0).toNat default).To)) else (some (.inl ()))) else none) else none) else (some (.inr x8))
theorem nspeculumref03_CheckCircle_l1_0_ok (k : Nat) (a1 : (List Int)) (r1971 : (List SCoolBound)) : ∀ (fuel : Nat) (x10 : Int) (x8 : Int) (x9 : Int) (r : Sum Unit Int), nspeculumref03_CheckCircle_l1_0 k a1 r1971 fuel x10 x8 x9 = some r → (match r with | .inl r => VLoop none Go.Proofs.Try.prog (szF Go.Proofs.Try.f39) (bodyOf Go.Proofs.Try.f39 1) (nspeculumref03_CheckCircle_l1_0_h a1 r1971 x10 x8 x9) .ret (nspeculumref03_CheckCircle_l1_0_e0 a1 r1971 r) | .inr r => VLoop none Go.Proofs.Try.prog (szF Go.Proofs.Try.f39) (bodyOf Go.Proofs.Try.f39 1) (nspeculumref03_CheckCircle_l1_0_h a1 r1971 x10 x8 x9) (.exit 2) (nspeculumref03_CheckCircle_l1_0_e1 a1 r1971 r)) := by
 intro fuel
 induction fuel with
 | zero => intro x10 x8 x9 r h; rw [nspeculumref03_CheckCircle_l1_0.eq_1] at h; cases h
 | succ fuel ih =>
  intro x10 x8 x9 r h
  rw [nspeculumref03_CheckCircle_l1_0.eq_2] at h
  rcases ifs h with ⟨h2027, h⟩ | ⟨h2027, h⟩
  ·obtain ⟨h2028, h⟩ := ifn h
   have e2029 := (show loadL Go.Proofs.Try.prog 3 (x10.toNat * 1) (List.map vi a1) = some (vi (a1.getD x10.toNat 0)) from ld_map ag3 vi a1 0 h2028 (by omega))
   obtain ⟨h2030, h⟩ := ifn h
   have e2031 := (show loadL Go.Proofs.Try.prog 66 ((a1.getD x10.toNat 0).toNat * 3) (List.flatMap c_SCoolBound r1971) = some (VV.ag (c_SCoolBound (r1971.getD (a1.getD x10.toNat 0).toNat default))) from ld_whole ag66 c_SCoolBound 3 sz66 len_c_SCoolBound r1971 default h2030 (by omega))
   have e2032 := (ti (ti (ti (an h2028 (an e2029 (an h2030 (an e2031 (ti (ti trivial)))))))))
   rcases ifs h with ⟨h2033, h⟩ | ⟨h2033, h⟩
   ·have h2 := ih _ _ _ _ h
    obtain ⟨q, hv, hq⟩ := pkR (rd := none) (P := Go.Proofs.Try.prog) (fn := Go.Proofs.Try.f39) (k := 1) (s := (nspeculumref03_CheckCircle_l1_0_h a1 r1971 x10 x8 x9)) (ans := [.reg (nN 4 []), .br true, .reg (arA7_4 a1 x10 r1971), .reg (nN 4 []), .br false, .reg (nN 8 []), .reg (nN 3 [])]) (c := ⟨[(1, none), (6, none), (8, none), (9, none), (10, none)], [], []⟩) (e := .normal) (s1 := (nspeculumref03_CheckCircle_l1_0_h a1 r1971 (w64 (x10 + 1)) (w64 (x8 + ((r1971.getD (a1.getD x10.toNat 0).toNat default).Most))) ((r1971.getD (a1.getD x10.toNat 0).toNat default).To))) (an (an (an (ti (ti (ti (ti trivial)))) (an (decide_eq_true h2027) trivial)) (an (an e2032 (an (an (ti (ti (ti (ti trivial)))) (an (not_f (decide_eq_true h2033)) trivial)) (ti (ti (ti (ti (ti (ti (ti (ti trivial)))))))))) (ti (ti (ti trivial))))) (ti trivial)) (by kernel_rfl)
    cases r with
    | inl r => exact round_next pm pn hv hq h2
    | inr r =>
     exact round_next pm pn hv hq h2
   ·injection h with h; subst h
    exact round_stop (c := ⟨[(4, none), (5, none)], [], []⟩) (s1 := (nspeculumref03_CheckCircle_l1_0_e0 a1 r1971 ())) pm pn (ans := [.reg (nN 4 []), .br true, .reg (arA7_4 a1 x10 r1971), .reg (nN 4 []), .br true, .reg (.n :: .n :: [])]) (by kernel_rfl) (by intro e; cases e) (an (an (an (ti (ti (ti (ti trivial)))) (an (decide_eq_true h2027) trivial)) (an e2032 (an (ti (ti (ti (ti trivial)))) (an (not_t (decide_eq_false h2033)) (an (ti (ti trivial)) trivial))))) (ti trivial))
  ·injection h with h; subst h
   exact round_stop (c := ⟨[(8, none)], [], []⟩) (s1 := (nspeculumref03_CheckCircle_l1_0_e1 a1 r1971 x8)) pm pn (ans := [.reg (nN 4 []), .br false]) (by kernel_rfl) (by intro e; cases e) (an (an (ti (ti (ti (ti trivial)))) (an (decide_eq_false h2027) trivial)) (ti trivial))
def arA7_5 (z0 : (List Int)) (z1 : (List SCoolBound)) : List Ans := (nN 6 (.v (vi (z0.getD (w64 ((z0.length : Int) - 1)).toNat 0)) :: .n :: .n :: .v (vi ((z1.getD (z0.getD (w64 ((z0.length : Int) - 1)).toNat 0).toNat default).To)) :: .n :: .n :: []))
def nspeculumref03_CheckCircle (k : Nat) (a0 : SAnnealing) (a1 : (List Int)) : Option (Int × Int) :=
  (nspeculumref03_System k a0).bind fun r1971 => ((nspeculumbase_Within k (a1.length : Int) 1 200).bind fun r1974 => (if r1974 = true then ((nspeculumref03_CheckCircle_l0_0 k a1 r1971 k 0).bind fun r2003 => (match r2003 with | .inl r2004 => (some (0, 6)) | .inr r2005 => (if 0 ≤ w64 ((a1.length : Int) - 1) ∧ w64 ((a1.length : Int) - 1) < (a1.length : Int) then (if 0 ≤ (a1.getD (w64 ((a1.length : Int) - 1)).toNat 0) ∧ (a1.getD (w64 ((a1.length : Int) - 1)).toNat 0) < (r1971.length : Int) then ((nspeculumref03_CheckCircle_l1_0 k a1 r1971 k 0 0 ((r1971.getD (a1.getD (w64 ((a1.length : Int) - 1)).toNat 0).toNat default).To)).bind fun r2035 => (match r2035 with | .inl r2036 => (some (0, 25)) | .inr r2037 => (if 0 ≤ r2037 then (some (0, 22)) else (some (r2037, 0))))) else none) else none))) else (some (0, 10))))
theorem nspeculumref03_CheckCircle_ok (k : Nat) (a0 : SAnnealing) (a1 : (List Int)) (r : (Int × Int)) (h : nspeculumref03_CheckCircle k a0 a1 = some r) : VC Go.Proofs.Try.prog 39 [VV.ag (c_SAnnealing a0), VV.tr (List.map vi a1) a1.length] (VV.tu [vi r.1, vi r.2]) := by
 unfold nspeculumref03_CheckCircle at h
 obtain ⟨r1971, h1972, h⟩ := bs h
 have e1973 := (show VC Go.Proofs.Try.prog 35 [VV.ag (c_SAnnealing a0)] (VV.fr (List.flatMap c_SCoolBound r1971) r1971.length) from (VC.weak (nspeculumref03_System_ok k a0 _ h1972) (Wv.fw rfl rfl)))
 obtain ⟨r1974, h1975, h⟩ := bs h
 have e1976 := (nspeculumbase_Within_ok k (a1.length : Int) 1 200 _ h1975)
 rcases ifs h with ⟨h1977, h⟩ | ⟨h1977, h⟩
 ·obtain ⟨r2003, h2002, h⟩ := bs h
  have hph2002 := nspeculumref03_CheckCircle_l0_0_ok k a1 r1971 _ _ _ h2002
  cases r2003 with
  | inl r2004 =>
   dsimp only at h
   have e2006 := (an (ti trivial) (VRun.loop hph2002))
   injection h with h; subst h
   exact fun_ok pm pn Go.Proofs.Try.func39 (r0 := VV.tu [vi 0, vi 6]) (ans := [.reg (nN 3 []), .reg (.n :: .call (VV.fr (List.flatMap c_SCoolBound r1971) r1971.length) :: .n :: []), .reg (.n :: .n :: .call (vb r1974) :: .n :: []), .br false, .reg (.n :: []), .sub ⟨[(1, none), (6, none), (7, none)], [], []⟩ .ret (nspeculumref03_CheckCircle_l0_0_e0 a1 r1971 r2004)]) (fr := true) (by kernel_rfl) (an (an (ti (ti (ti trivial))) (an (ti (an e1973 (ti trivial))) (an (an (ti (ti (an e1976 (ti trivial)))) (an (not_f h1977) trivial)) (an (ti trivial) e2006)))) (ti (ti trivial))) (Wv.refl _)
  | inr r2005 =>
   dsimp only at h
   have e2007 := (an (ti trivial) (VRun.loop hph2002))
   obtain ⟨h2008, h⟩ := ifn h
   have e2009 := (show loadL Go.Proofs.Try.prog 3 ((w64 ((a1.length : Int) - 1)).toNat * 1) (List.map vi a1) = some (vi (a1.getD (w64 ((a1.length : Int) - 1)).toNat 0)) from ld_map ag3 vi a1 0 h2008 (by omega))
   obtain ⟨h2010, h⟩ := ifn h
   have e2011 := (show loadL Go.Proofs.Try.prog 3 ((a1.getD (w64 ((a1.length : Int) - 1)).toNat 0).toNat * 3 + 1) (List.flatMap c_SCoolBound r1971) = some (vi ((r1971.getD (a1.getD (w64 ((a1.length : Int) - 1)).toNat 0).toNat default).To)) from (ld_flat ag3 c_SCoolBound 3 1 len_c_SCoolBound (by omega) r1971 default h2010 (by omega)).trans rfl)
   have e2012 := (ti (ti (ti (ti (ti (an h2008 (an e2009 (an h2010 (ti (an e2011 (ti (ti trivial))))))))))))
   obtain ⟨r2035, h2034, h⟩ := bs h
   have hph2034 := nspeculumref03_CheckCircle_l1_0_ok k a1 r1971 _ _ _ _ _ h2034
   cases r2035 with
   | inl r2036 =>
    dsimp only at h
    have e2038 := (an (ti trivial) (VRun.loop hph2034))
    injection h with h; subst h
    exact fun_ok pm pn Go.Proofs.Try.func39 (r0 := VV.tu [vi 0, vi 25]) (ans := [.reg (nN 3 []), .reg (.n :: .call (VV.fr (List.flatMap c_SCoolBound r1971) r1971.length) :: .n :: []), .reg (.n :: .n :: .call (vb r1974) :: .n :: []), .br false, .reg (.n :: []), .sub ⟨[(1, none), (6, none), (7, none)], [], []⟩ (.exit 0) (nspeculumref03_CheckCircle_l0_0_e1 a1 r1971 r2005), .reg (arA7_5 a1 r1971), .reg (.n :: []), .sub ⟨[(1, none), (6, none), (8, none), (9, none), (10, none)], [], []⟩ .ret (nspeculumref03_CheckCircle_l1_0_e0 a1 r1971 r2036)]) (fr := true) (by kernel_rfl) (an (an (ti (ti (ti trivial))) (an (ti (an e1973 (ti trivial))) (an (an (ti (ti (an e1976 (ti trivial)))) (an (not_f h1977) trivial)) (an (an (ti trivial) e2007) (an e2012 (an (ti trivial) e2038)))))) (ti (ti trivial))) (Wv.refl _)
   | inr r2037 =>
    dsimp only at h
    have e2039 := (an (ti trivial) (VRun.loop hph2034))
    rcases ifs h with ⟨h2040, h⟩ | ⟨h2040, h⟩
    ·injection h with h; subst h
     exact fun_ok pm pn Go.Proofs.Try.func39 (r0 := VV.tu [vi 0, vi 22]) (ans := [.reg (nN 3 []), .reg (.n :: .call (VV.fr (List.flatMap c_SCoolBound r1971) r1971.length) :: .n :: []), .reg (.n :: .n :: .call (vb r1974) :: .n :: []), .br false, .reg (.n :: []), .sub ⟨[(1, none), (6, none), (7, none)], [], []⟩ (.exit 0) (nspeculumref03_CheckCircle_l0_0_e1 a1 r1971 r2005), .reg (arA7_5 a1 r1971), .reg (.n :: []), .sub ⟨[(1, none), (6, none), (8, none), (9, none), (10, none)], [], []⟩ (.exit 2) (nspeculumref03_CheckCircle_l1_0_e1 a1 r1971 r2037), .reg (.n :: .n :: []), .br true, .reg (.n :: .n :: [])]) (fr := true) (by kernel_rfl) (an (an (ti (ti (ti trivial))) (an (ti (an e1973 (ti trivial))) (an (an (ti (ti (an e1976 (ti trivial)))) (an (not_f h1977) trivial)) (an (an (ti trivial) e2007) (an e2012 (an (an (ti trivial) e2039) (an (ti (ti trivial)) (an (decide_eq_true h2040) (an (ti (ti trivial)) trivial))))))))) (ti (ti trivial))) (Wv.refl _)
    ·injection h with h; subst h
     exact fun_ok pm pn Go.Proofs.Try.func39 (r0 := VV.tu [vi r2037, vi 0]) (ans := [.reg (nN 3 []), .reg (.n :: .call (VV.fr (List.flatMap c_SCoolBound r1971) r1971.length) :: .n :: []), .reg (.n :: .n :: .call (vb r1974) :: .n :: []), .br false, .reg (.n :: []), .sub ⟨[(1, none), (6, none), (7, none)], [], []⟩ (.exit 0) (nspeculumref03_CheckCircle_l0_0_e1 a1 r1971 r2005), .reg (arA7_5 a1 r1971), .reg (.n :: []), .sub ⟨[(1, none), (6, none), (8, none), (9, none), (10, none)], [], []⟩ (.exit 2) (nspeculumref03_CheckCircle_l1_0_e1 a1 r1971 r2037), .reg (.n :: .n :: []), .br false, .reg (nN 3 [])]) (fr := true) (by kernel_rfl) (an (an (ti (ti (ti trivial))) (an (ti (an e1973 (ti trivial))) (an (an (ti (ti (an e1976 (ti trivial)))) (an (not_f h1977) trivial)) (an (an (ti trivial) e2007) (an e2012 (an (an (ti trivial) e2039) (an (an (ti (ti trivial)) (an (decide_eq_false h2040) trivial)) (an (ti (ti (ti trivial))) trivial)))))))) (ti (ti trivial))) (Wv.refl _)
 ·injection h with h; subst h
  exact fun_ok pm pn Go.Proofs.Try.func39 (r0 := VV.tu [vi 0, vi 10]) (ans := [.reg (nN 3 []), .reg (.n :: .call (VV.fr (List.flatMap c_SCoolBound r1971) r1971.length) :: .n :: []), .reg (.n :: .n :: .call (vb r1974) :: .n :: []), .br true, .reg (.n :: .n :: [])]) (fr := true) (by kernel_rfl) (an (an (ti (ti (ti trivial))) (an (ti (an e1973 (ti trivial))) (an (ti (ti (an e1976 (ti trivial)))) (an (not_t (bool_f h1977)) (an (ti (ti trivial)) trivial))))) (ti (ti trivial))) (Wv.refl _)
def arA7_6 (z0 : SAnnealing) (z1 : (List Int)) (z2 : (Int × Int)) : List Ans := (.n :: .call (VV.ag (g_SAnnealing z0)) :: .n :: .call (VV.fr (List.map vi z1) z1.length) :: .call (VV.tu [vi z2.1, vi z2.2]) :: nN 5 [])
def arA7_7 (z0 : SAnnealing) (z1 : ((List Int) × (List Int) × Int)) : List Ans := (.n :: .call (VV.ag (g_SAnnealing z0)) :: .call (VV.tu [VV.fr (List.map vi z1.1) z1.1.length, VV.fr (List.map vi z1.2.1) z1.2.1.length, vi z1.2.2]) :: nN 7 [])
def nspeculumlaw03_BlankCircles (k : Nat) (a0 : SAnnealing) (a1 : (List Int)) : Option Bool :=
  (nawake k).bind fun r2105 => (if r2105 = true then ((nspeculumlaw03_Light k a0).bind fun r2108 => (if r2108 = true then (if 30 < (a1.length : Int) then (if (a1.length : Int) ≤ 200 then (some true) else (if 203 < (a1.length : Int) then (some true) else ((nspeculumlaw03_own k a0).bind fun r2117 => ((nspeculumbase_CopyInts k a1).bind fun r2120 => ((nblank_CheckCircle k r2117 r2120).bind fun r2123 => ((nspeculumref03_CheckAnnealing k a0).bind fun r2127 => (if r2127 = 0 then ((nspeculumref03_CheckCircle k a0 a1).bind fun r2131 => (if r2123.2 = r2131.2 then (if r2123.1 = r2131.1 then (if r2131.2 = 0 then ((nblank_Earliest k r2117).bind fun r2144 => (if r2144.2.2 = 21 then (some (decide (0 < (r2144.2.1.length : Int)))) else (some false))) else (some true)) else (some false)) else (some false))) else (if r2123.2 = r2127 then (some (decide (r2123.1 = 0))) else (some false))))))))) else (if 203 < (a1.length : Int) then (some true) else ((nspeculumlaw03_own k a0).bind fun r2157 => ((nspeculumbase_CopyInts k a1).bind fun r2160 => ((nblank_CheckCircle k r2157 r2160).bind fun r2163 => ((nspeculumref03_CheckAnnealing k a0).bind fun r2167 => (if r2167 = 0 then ((nspeculumref03_CheckCircle k a0 a1).bind fun r2171 => (if r2163.2 = r2171.2 then (if r2163.1 = r2171.1 then (if r2171.2 = 0 then ((nblank_Earliest k r2157).bind fun r2184 => (if r2184.2.2 = 21 then (some (decide (0 < (r2184.2.1.length : Int)))) else (some false))) else (some true)) else (some false)) else (some false))) else (if r2163.2 = r2167 then (some (decide (r2163.1 = 0))) else (some false))))))))) else (some true))) else (some false))
theorem nspeculumlaw03_BlankCircles_ok (k : Nat) (a0 : SAnnealing) (a1 : (List Int)) (r : Bool) (h : nspeculumlaw03_BlankCircles k a0 a1 = some r) : VC Go.Proofs.Try.prog 10 [VV.ag (c_SAnnealing a0), VV.tr (List.map vi a1) a1.length] (vb r) := by
 unfold nspeculumlaw03_BlankCircles at h
 obtain ⟨r2105, h2106, h⟩ := bs h
 rcases ifs h with ⟨h2107, h⟩ | ⟨h2107, h⟩
 ·obtain ⟨r2108, h2109, h⟩ := bs h
  rcases ifs h with ⟨h2110, h⟩ | ⟨h2110, h⟩
  ·rcases ifs h with ⟨h2111, h⟩ | ⟨h2111, h⟩
   ·have e2112 := (an (not_f h2110) (decide_eq_true h2111))
    rcases ifs h with ⟨h2113, h⟩ | ⟨h2113, h⟩
    ·have e2114 := (ti (an (nspeculumlaw03_Light_ok k a0 _ h2109) (ti (ti (an (an (not_f h2110) trivial) (an (an (not_f h2110) trivial) (an (an (not_f h2110) trivial) (an (an (not_f h2110) trivial) (an (an (decide_eq_true h2111) trivial) (an (an (decide_eq_true h2111) trivial) (an (an (decide_eq_true h2111) trivial) (an e2112 (an (not_f h2110) (ti (an (decide_eq_true h2113) (an (decide_eq_true h2113) (an (decide_eq_true h2113) (an (decide_eq_true h2113) trivial))))))))))))))))))
     injection h with h; subst h
     exact fun_ok pm pn Go.Proofs.Try.func10 (r0 := vb true) (ans := [.reg (.n :: .n :: []), .reg (.call (vb r2105) :: .n :: []), .br false, .reg (.n :: .call (vb r2108) :: nN 9 (.b true :: .b false :: .n :: nS 3 (.b true :: []))), .br true, .reg (.n :: [])]) (fr := true) (by kernel_rfl) (an (an (ti (ti trivial)) (an (an (an (nawake_ok k _ h2106) (ti trivial)) (an (not_f h2107) trivial)) (an e2114 (an rt (an (ti trivial) trivial))))) (ti trivial)) (Wv.refl _)
    ·have e2115 := (ti (an (nspeculumlaw03_Light_ok k a0 _ h2109) (ti (ti (an (an (not_f h2110) trivial) (an (an (not_f h2110) trivial) (an (an (not_f h2110) trivial) (an (an (not_f h2110) trivial) (an (an (decide_eq_true h2111) trivial) (an (an (decide_eq_true h2111) trivial) (an (an (decide_eq_true h2111) trivial) (an e2112 (an (not_f h2110) (ti (an (an (decide_eq_false h2113) trivial) (an (an (decide_eq_false h2113) trivial) (an (an (decide_eq_false h2113) trivial) (an (decide_eq_false h2113) trivial))))))))))))))))))
     rcases ifs h with ⟨h2116, h⟩ | ⟨h2116, h⟩
     ·injection h with h; subst h
      exact fun_ok pm pn Go.Proofs.Try.func10 (r0 := vb true) (ans := [.reg (.n :: .n :: []), .reg (.call (vb r2105) :: .n :: []), .br false, .reg (.n :: .call (vb r2108) :: nN 9 (.b true :: .b false :: nN 4 (.b false :: []))), .br true, .reg (.n :: [])]) (fr := true) (by kernel_rfl) (an (an (ti (ti trivial)) (an (an (an (nawake_ok k _ h2106) (ti trivial)) (an (not_f h2107) trivial)) (an e2115 (an (decide_eq_true h2116) (an (ti trivial) trivial))))) (ti trivial)) (Wv.refl _)
     ·obtain ⟨r2117, h2118, h⟩ := bs h
      have e2119 := (show VC Go.Proofs.Try.prog 26 [VV.ag (c_SAnnealing a0)] (VV.ag (g_SAnnealing r2117)) from (VC.weak (nspeculumlaw03_own_ok k a0 _ h2118) (Wv.agL (.cons (Wv.refl _) (.cons (Wv.refl _) (.cons (Wv.fw rfl rfl) (.cons (Wv.fw rfl rfl) .nil)))))))
      obtain ⟨r2120, h2121, h⟩ := bs h
      have e2122 := (show VC Go.Proofs.Try.prog 41 [VV.tr (List.map vi a1) a1.length] (VV.fr (List.map vi r2120) r2120.length) from (VC.weak (nspeculumbase_CopyInts_ok k a1 _ h2121) (Wv.fw rfl rfl)))
      obtain ⟨r2123, h2124, h⟩ := bs h
      have e2125 := (nblank_CheckCircle_ok k r2117 r2120 _ h2124)
      have e2126 := (ti (an e2119 (ti (an e2122 (an e2125 (ti (ti (ti (ti (ti trivial))))))))))
      obtain ⟨r2127, h2128, h⟩ := bs h
      have e2129 := (nspeculumref03_CheckAnnealing_ok k a0 _ h2128)
      rcases ifs h with ⟨h2130, h⟩ | ⟨h2130, h⟩
      ·obtain ⟨r2131, h2132, h⟩ := bs h
       have e2133 := (nspeculumref03_CheckCircle_ok k a0 a1 _ h2132)
       have e2134 := (ti (ti (an e2133 (ti (ti (ti (ti (ti trivial))))))))
       rcases ifs h with ⟨h2135, h⟩ | ⟨h2135, h⟩
       ·have e2136 := (an (not_f (decide_eq_true h2135)) trivial)
        have e2137 := (an (not_f (decide_eq_true h2135)) trivial)
        have e2138 := (an (not_f (decide_eq_true h2135)) trivial)
        have e2139 := (ti (ti (ti (ti (an e2136 (an e2137 (an e2138 (an (not_f (decide_eq_true h2135)) trivial))))))))
        rcases ifs h with ⟨h2140, h⟩ | ⟨h2140, h⟩
        ·rcases ifs h with ⟨h2141, h⟩ | ⟨h2141, h⟩
         ·have e2143 := (show VC Go.Proofs.Try.prog 26 [VV.ag (c_SAnnealing a0)] (VV.ag (g_SAnnealing r2117)) from (VC.weak (nspeculumlaw03_own_ok k a0 _ h2118) (Wv.agL (.cons (Wv.refl _) (.cons (Wv.refl _) (.cons (Wv.fw rfl rfl) (.cons (Wv.fw rfl rfl) .nil)))))))
          obtain ⟨r2144, h2145, h⟩ := bs h
          have e2146 := (ti (an e2143 (an (nblank_Earliest_ok k r2117 _ h2145) (ti (ti (ti (ti (ti (ti (ti trivial))))))))))
          rcases ifs h with ⟨h2147, h⟩ | ⟨h2147, h⟩
          ·have e2148 := (ti (ti (ti (an (an (decide_eq_true h2147) trivial) (an (an (decide_eq_true h2147) trivial) (an (an (decide_eq_true h2147) trivial) (an (decide_eq_true h2147) (ti trivial))))))))
           injection h with h; subst h
           exact fun_ok pm pn Go.Proofs.Try.func10 (r0 := vb (decide (0 < (r2144.2.1.length : Int)))) (ans := [.reg (.n :: .n :: []), .reg (.call (vb r2105) :: .n :: []), .br false, .reg (.n :: .call (vb r2108) :: nN 9 (.b true :: .b false :: nN 4 (.b false :: []))), .br false, .reg (arA7_6 r2117 r2120 r2123), .reg (.n :: .call (vi r2127) :: .n :: []), .reg (.n :: .n :: []), .br false, .reg (.n :: .n :: .call (VV.tu [vi r2131.1, vi r2131.2]) :: nN 5 []), .reg (nN 7 (.b false :: [])), .br false, .reg (.n :: .n :: []), .br false, .reg (arA7_7 r2117 r2144), .reg (nN 6 (.b true :: .n :: []))]) (fr := true) (by kernel_rfl) (an (an (ti (ti trivial)) (an (an (an (nawake_ok k _ h2106) (ti trivial)) (an (not_f h2107) trivial)) (an (an e2115 (an (decide_eq_false h2116) trivial)) (an e2126 (an (an (ti (an e2129 (ti trivial))) (an (ti (ti trivial)) (an (not_f (decide_eq_true h2130)) trivial))) (an e2134 (an (an e2139 (an (not_f (decide_eq_true h2140)) trivial)) (an (an (ti (ti trivial)) (an (not_f (decide_eq_true h2141)) trivial)) (an e2146 (an e2148 trivial)))))))))) (ti trivial)) (Wv.refl _)
          ·have e2149 := (ti (ti (ti (an (decide_eq_false h2147) (an (decide_eq_false h2147) (an (decide_eq_false h2147) (an (decide_eq_false h2147) (ti trivial))))))))
           injection h with h; subst h
           exact fun_ok pm pn Go.Proofs.Try.func10 (r0 := vb false) (ans := [.reg (.n :: .n :: []), .reg (.call (vb r2105) :: .n :: []), .br false, .reg (.n :: .call (vb r2108) :: nN 9 (.b true :: .b false :: nN 4 (.b false :: []))), .br false, .reg (arA7_6 r2117 r2120 r2123), .reg (.n :: .call (vi r2127) :: .n :: []), .reg (.n :: .n :: []), .br false, .reg (.n :: .n :: .call (VV.tu [vi r2131.1, vi r2131.2]) :: nN 5 []), .reg (nN 7 (.b false :: [])), .br false, .reg (.n :: .n :: []), .br false, .reg (arA7_7 r2117 r2144), .reg (nN 3 (nS 3 (.b false :: .n :: [])))]) (fr := true) (by kernel_rfl) (an (an (ti (ti trivial)) (an (an (an (nawake_ok k _ h2106) (ti trivial)) (an (not_f h2107) trivial)) (an (an e2115 (an (decide_eq_false h2116) trivial)) (an e2126 (an (an (ti (an e2129 (ti trivial))) (an (ti (ti trivial)) (an (not_f (decide_eq_true h2130)) trivial))) (an e2134 (an (an e2139 (an (not_f (decide_eq_true h2140)) trivial)) (an (an (ti (ti trivial)) (an (not_f (decide_eq_true h2141)) trivial)) (an e2146 (an e2149 trivial)))))))))) (ti trivial)) (Wv.refl _)
         ·injection h with h; subst h
          exact fun_ok pm pn Go.Proofs.Try.func10 (r0 := vb true) (ans := [.reg (.n :: .n :: []), .reg (.call (vb r2105) :: .n :: []), .br false, .reg (.n :: .call (vb r2108) :: nN 9 (.b true :: .b false :: nN 4 (.b false :: []))), .br false, .reg (arA7_6 r2117 r2120 r2123), .reg (.n :: .call (vi r2127) :: .n :: []), .reg (.n :: .n :: []), .br false, .reg (.n :: .n :: .call (VV.tu [vi r2131.1, vi r2131.2]) :: nN 5 []), .reg (nN 7 (.b false :: [])), .br false, .reg (.n :: .n :: []), .br true, .reg (.n :: [])]) (fr := true) (by kernel_rfl) (an (an (ti (ti trivial)) (an (an (an (nawake_ok k _ h2106) (ti trivial)) (an (not_f h2107) trivial)) (an (an e2115 (an (decide_eq_false h2116) trivial)) (an e2126 (an (an (ti (an e2129 (ti trivial))) (an (ti (ti trivial)) (an (not_f (decide_eq_true h2130)) trivial))) (an e2134 (an (an e2139 (an (not_f (decide_eq_true h2140)) trivial)) (an (ti (ti trivial)) (an (not_t (decide_eq_false h2141)) (an (ti trivial) trivial)))))))))) (ti trivial)) (Wv.refl _)
        ·injection h with h; subst h
         exact fun_ok pm pn Go.Proofs.Try.func10 (r0 := vb false) (ans := [.reg (.n :: .n :: []), .reg (.call (vb r2105) :: .n :: []), .br false, .reg (.n :: .call (vb r2108) :: nN 9 (.b true :: .b false :: nN 4 (.b false :: []))), .br false, .reg (arA7_6 r2117 r2120 r2123), .reg (.n :: .call (vi r2127) :: .n :: []), .reg (.n :: .n :: []), .br false, .reg (.n :: .n :: .call (VV.tu [vi r2131.1, vi r2131.2]) :: nN 5 []), .reg (nN 7 (.b false :: [])), .br true, .reg (.n :: [])]) (fr := true) (by kernel_rfl) (an (an (ti (ti trivial)) (an (an (an (nawake_ok k _ h2106) (ti trivial)) (an (not_f h2107) trivial)) (an (an e2115 (an (decide_eq_false h2116) trivial)) (an e2126 (an (an (ti (an e2129 (ti trivial))) (an (ti (ti trivial)) (an (not_f (decide_eq_true h2130)) trivial))) (an e2134 (an e2139 (an (not_t (decide_eq_false h2140)) (an (ti trivial) trivial))))))))) (ti trivial)) (Wv.refl _)
       ·have e2150 := (ti (ti (ti (ti (an (not_t (decide_eq_false h2135)) (an (not_t (decide_eq_false h2135)) (an (not_t (decide_eq_false h2135)) (an (not_t (decide_eq_false h2135)) trivial))))))))
        injection h with h; subst h
        exact fun_ok pm pn Go.Proofs.Try.func10 (r0 := vb false) (ans := [.reg (.n :: .n :: []), .reg (.call (vb r2105) :: .n :: []), .br false, .reg (.n :: .call (vb r2108) :: nN 9 (.b true :: .b false :: nN 4 (.b false :: []))), .br false, .reg (arA7_6 r2117 r2120 r2123), .reg (.n :: .call (vi r2127) :: .n :: []), .reg (.n :: .n :: []), .br false, .reg (.n :: .n :: .call (VV.tu [vi r2131.1, vi r2131.2]) :: nN 5 []), .reg (nN 4 (nS 3 (.b true :: []))), .br true, .reg (.n :: [])]) (fr := true) (by kernel_rfl) (an (an (ti (ti trivial)) (an (an (an (nawake_ok k _ h2106) (ti trivial)) (an (not_f h2107) trivial)) (an (an e2115 (an (decide_eq_false h2116) trivial)) (an e2126 (an (an (ti (an e2129 (ti trivial))) (an (ti (ti trivial)) (an (not_f (decide_eq_true h2130)) trivial))) (an e2134 (an e2150 (an rt (an (ti trivial) trivial))))))))) (ti trivial)) (Wv.refl _)
      ·rcases ifs h with ⟨h2151, h⟩ | ⟨h2151, h⟩
       ·have e2152 := (ti (ti (ti (ti (an (an (decide_eq_true h2151) trivial) (an (an (decide_eq_true h2151) trivial) (an (decide_eq_true h2151) (ti trivial))))))))
        injection h with h; subst h
        exact fun_ok pm pn Go.Proofs.Try.func10 (r0 := vb (decide (r2123.1 = 0))) (ans := [.reg (.n :: .n :: []), .reg (.call (vb r2105) :: .n :: []), .br false, .reg (.n :: .call (vb r2108) :: nN 9 (.b true :: .b false :: nN 4 (.b false :: []))), .br false, .reg (arA7_6 r2117 r2120 r2123), .reg (.n :: .call (vi r2127) :: .n :: []), .reg (.n :: .n :: []), .br true, .reg (nN 6 (.b true :: .n :: []))]) (fr := true) (by kernel_rfl) (an (an (ti (ti trivial)) (an (an (an (nawake_ok k _ h2106) (ti trivial)) (an (not_f h2107) trivial)) (an (an e2115 (an (decide_eq_false h2116) trivial)) (an e2126 (an (ti (an e2129 (ti trivial))) (an (ti (ti trivial)) (an (not_t (decide_eq_false h2130)) (an e2152 trivial)))))))) (ti trivial)) (Wv.refl _)
       ·have e2153 := (ti (ti (ti (ti (an (decide_eq_false h2151) (an (decide_eq_false h2151) (an (decide_eq_false h2151) (ti trivial))))))))
        injection h with h; subst h
        exact fun_ok pm pn Go.Proofs.Try.func10 (r0 := vb false) (ans := [.reg (.n :: .n :: []), .reg (.call (vb r2105) :: .n :: []), .br false, .reg (.n :: .call (vb r2108) :: nN 9 (.b true :: .b false :: nN 4 (.b false :: []))), .br false, .reg (arA7_6 r2117 r2120 r2123), .reg (.n :: .call (vi r2127) :: .n :: []), .reg (.n :: .n :: []), .br true, .reg (nN 4 (.skip :: .skip :: .b false :: .n :: []))]) (fr := true) (by kernel_rfl) (an (an (ti (ti trivial)) (an (an (an (nawake_ok k _ h2106) (ti trivial)) (an (not_f h2107) trivial)) (an (an e2115 (an (decide_eq_false h2116) trivial)) (an e2126 (an (ti (an e2129 (ti trivial))) (an (ti (ti trivial)) (an (not_t (decide_eq_false h2130)) (an e2153 trivial)))))))) (ti trivial)) (Wv.refl _)
   ·have e2154 := (an (not_f h2110) (decide_eq_false h2111))
    have e2155 := (ti (an (nspeculumlaw03_Light_ok k a0 _ h2109) (ti (ti (an (an (not_f h2110) trivial) (an (an (not_f h2110) trivial) (an (an (not_f h2110) trivial) (an (an (not_f h2110) trivial) (an (decide_eq_false h2111) (an (decide_eq_false h2111) (an (decide_eq_false h2111) (an e2154 (an (not_f h2110) (ti (an (an rf trivial) (an (an rf trivial) (an (an rf trivial) (an rf trivial))))))))))))))))))
    rcases ifs h with ⟨h2156, h⟩ | ⟨h2156, h⟩
    ·injection h with h; subst h
     exact fun_ok pm pn Go.Proofs.Try.func10 (r0 := vb true) (ans := [.reg (.n :: .n :: []), .reg (.call (vb r2105) :: .n :: []), .br false, .reg (.n :: .call (vb r2108) :: nN 6 (nS 3 (.b false :: .b false :: nN 4 (.b false :: [])))), .br true, .reg (.n :: [])]) (fr := true) (by kernel_rfl) (an (an (ti (ti trivial)) (an (an (an (nawake_ok k _ h2106) (ti trivial)) (an (not_f h2107) trivial)) (an e2155 (an (decide_eq_true h2156) (an (ti trivial) trivial))))) (ti trivial)) (Wv.refl _)
    ·obtain ⟨r2157, h2158, h⟩ := bs h
     have e2159 := (show VC Go.Proofs.Try.prog 26 [VV.ag (c_SAnnealing a0)] (VV.ag (g_SAnnealing r2157)) from (VC.weak (nspeculumlaw03_own_ok k a0 _ h2158) (Wv.agL (.cons (Wv.refl _) (.cons (Wv.refl _) (.cons (Wv.fw rfl rfl) (.cons (Wv.fw rfl rfl) .nil)))))))
     obtain ⟨r2160, h2161, h⟩ := bs h
     have e2162 := (show VC Go.Proofs.Try.prog 41 [VV.tr (List.map vi a1) a1.length] (VV.fr (List.map vi r2160) r2160.length) from (VC.weak (nspeculumbase_CopyInts_ok k a1 _ h2161) (Wv.fw rfl rfl)))
     obtain ⟨r2163, h2164, h⟩ := bs h
     have e2165 := (nblank_CheckCircle_ok k r2157 r2160 _ h2164)
     have e2166 := (ti (an e2159 (ti (an e2162 (an e2165 (ti (ti (ti (ti (ti trivial))))))))))
     obtain ⟨r2167, h2168, h⟩ := bs h
     have e2169 := (nspeculumref03_CheckAnnealing_ok k a0 _ h2168)
     rcases ifs h with ⟨h2170, h⟩ | ⟨h2170, h⟩
     ·obtain ⟨r2171, h2172, h⟩ := bs h
      have e2173 := (nspeculumref03_CheckCircle_ok k a0 a1 _ h2172)
      have e2174 := (ti (ti (an e2173 (ti (ti (ti (ti (ti trivial))))))))
      rcases ifs h with ⟨h2175, h⟩ | ⟨h2175, h⟩
      ·have e2176 := (an (not_f (decide_eq_true h2175)) trivial)
       have e2177 := (an (not_f (decide_eq_true h2175)) trivial)
       have e2178 := (an (not_f (decide_eq_true h2175)) trivial)
       have e2179 := (ti (ti (ti (ti (an e2176 (an e2177 (an e2178 (an (not_f (decide_eq_true h2175)) trivial))))))))
       rcases ifs h with ⟨h2180, h⟩ | ⟨h2180, h⟩
       ·rcases ifs h with ⟨h2181, h⟩ | ⟨h2181, h⟩
        ·have e2183 := (show VC Go.Proofs.Try.prog 26 [VV.ag (c_SAnnealing a0)] (VV.ag (g_SAnnealing r2157)) from (VC.weak (nspeculumlaw03_own_ok k a0 _ h2158) (Wv.agL (.cons (Wv.refl _) (.cons (Wv.refl _) (.cons (Wv.fw rfl rfl) (.cons (Wv.fw rfl rfl) .nil)))))))
         obtain ⟨r2184, h2185, h⟩ := bs h
         have e2186 := (ti (an e2183 (an (nblank_Earliest_ok k r2157 _ h2185) (ti (ti (ti (ti (ti (ti (ti trivial))))))))))
         rcases ifs h with ⟨h2187, h⟩ | ⟨h2187, h⟩
         ·have e2188 := (ti (ti (ti (an (an (decide_eq_true h2187) trivial) (an (an (decide_eq_true h2187) trivial) (an (an (decide_eq_true h2187) trivial) (an (decide_eq_true h2187) (ti trivial))))))))
          injection h with h; subst h
          exact fun_ok pm pn Go.Proofs.Try.func10 (r0 := vb (decide (0 < (r2184.2.1.length : Int)))) (ans := [.reg (.n :: .n :: []), .reg (.call (vb r2105) :: .n :: []), .br false, .reg (.n :: .call (vb r2108) :: nN 6 (nS 3 (.b false :: .b false :: nN 4 (.b false :: [])))), .br false, .reg (arA7_6 r2157 r2160 r2163), .reg (.n :: .call (vi r2167) :: .n :: []), .reg (.n :: .n :: []), .br false, .reg (.n :: .n :: .call (VV.tu [vi r2171.1, vi r2171.2]) :: nN 5 []), .reg (nN 7 (.b false :: [])), .br false, .reg (.n :: .n :: []), .br false, .reg (arA7_7 r2157 r2184), .reg (nN 6 (.b true :: .n :: []))]) (fr := true) (by kernel_rfl) (an (an (ti (ti trivial)) (an (an (an (nawake_ok k _ h2106) (ti trivial)) (an (not_f h2107) trivial)) (an (an e2155 (an (decide_eq_false h2156) trivial)) (an e2166 (an (an (ti (an e2169 (ti trivial))) (an (ti (ti trivial)) (an (not_f (decide_eq_true h2170)) trivial))) (an e2174 (an (an e2179 (an (not_f (decide_eq_true h2180)) trivial)) (an (an (ti (ti trivial)) (an (not_f (decide_eq_true h2181)) trivial)) (an e2186 (an e2188 trivial)))))))))) (ti trivial)) (Wv.refl _)
         ·have e2189 := (ti (ti (ti (an (decide_eq_false h2187) (an (decide_eq_false h2187) (an (decide_eq_false h2187) (an (decide_eq_false h2187) (ti trivial))))))))
          injection h with h; subst h
          exact fun_ok pm pn Go.Proofs.Try.func10 (r0 := vb false) (ans := [.reg (.n :: .n :: []), .reg (.call (vb r2105) :: .n :: []), .br false, .reg (.n :: .call (vb r2108) :: nN 6 (nS 3 (.b false :: .b false :: nN 4 (.b false :: [])))), .br false, .reg (arA7_6 r2157 r2160 r2163), .reg (.n :: .call (vi r2167) :: .n :: []), .reg (.n :: .n :: []), .br false, .reg (.n :: .n :: .call (VV.tu [vi r2171.1, vi r2171.2]) :: nN 5 []), .reg (nN 7 (.b false :: [])), .br false, .reg (.n :: .n :: []), .br false, .reg (arA7_7 r2157 r2184), .reg (nN 3 (nS 3 (.b false :: .n :: [])))]) (fr := true) (by kernel_rfl) (an (an (ti (ti trivial)) (an (an (an (nawake_ok k _ h2106) (ti trivial)) (an (not_f h2107) trivial)) (an (an e2155 (an (decide_eq_false h2156) trivial)) (an e2166 (an (an (ti (an e2169 (ti trivial))) (an (ti (ti trivial)) (an (not_f (decide_eq_true h2170)) trivial))) (an e2174 (an (an e2179 (an (not_f (decide_eq_true h2180)) trivial)) (an (an (ti (ti trivial)) (an (not_f (decide_eq_true h2181)) trivial)) (an e2186 (an e2189 trivial)))))))))) (ti trivial)) (Wv.refl _)
        ·injection h with h; subst h
         exact fun_ok pm pn Go.Proofs.Try.func10 (r0 := vb true) (ans := [.reg (.n :: .n :: []), .reg (.call (vb r2105) :: .n :: []), .br false, .reg (.n :: .call (vb r2108) :: nN 6 (nS 3 (.b false :: .b false :: nN 4 (.b false :: [])))), .br false, .reg (arA7_6 r2157 r2160 r2163), .reg (.n :: .call (vi r2167) :: .n :: []), .reg (.n :: .n :: []), .br false, .reg (.n :: .n :: .call (VV.tu [vi r2171.1, vi r2171.2]) :: nN 5 []), .reg (nN 7 (.b false :: [])), .br false, .reg (.n :: .n :: []), .br true, .reg (.n :: [])]) (fr := true) (by kernel_rfl) (an (an (ti (ti trivial)) (an (an (an (nawake_ok k _ h2106) (ti trivial)) (an (not_f h2107) trivial)) (an (an e2155 (an (decide_eq_false h2156) trivial)) (an e2166 (an (an (ti (an e2169 (ti trivial))) (an (ti (ti trivial)) (an (not_f (decide_eq_true h2170)) trivial))) (an e2174 (an (an e2179 (an (not_f (decide_eq_true h2180)) trivial)) (an (ti (ti trivial)) (an (not_t (decide_eq_false h2181)) (an (ti trivial) trivial)))))))))) (ti trivial)) (Wv.refl _)
       ·injection h with h; subst h
        exact fun_ok pm pn Go.Proofs.Try.func10 (r0 := vb false) (ans := [.reg (.n :: .n :: []), .reg (.call (vb r2105) :: .n :: []), .br false, .reg (.n :: .call (vb r2108) :: nN 6 (nS 3 (.b false :: .b false :: nN 4 (.b false :: [])))), .br false, .reg (arA7_6 r2157 r2160 r2163), .reg (.n :: .call (vi r2167) :: .n :: []), .reg (.n :: .n :: []), .br false, .reg (.n :: .n :: .call (VV.tu [vi r2171.1, vi r2171.2]) :: nN 5 []), .reg (nN 7 (.b false :: [])), .br true, .reg (.n :: [])]) (fr := true) (by kernel_rfl) (an (an (ti (ti trivial)) (an (an (an (nawake_ok k _ h2106) (ti trivial)) (an (not_f h2107) trivial)) (an (an e2155 (an (decide_eq_false h2156) trivial)) (an e2166 (an (an (ti (an e2169 (ti trivial))) (an (ti (ti trivial)) (an (not_f (decide_eq_true h2170)) trivial))) (an e2174 (an e2179 (an (not_t (decide_eq_false h2180)) (an (ti trivial) trivial))))))))) (ti trivial)) (Wv.refl _)
      ·have e2190 := (ti (ti (ti (ti (an (not_t (decide_eq_false h2175)) (an (not_t (decide_eq_false h2175)) (an (not_t (decide_eq_false h2175)) (an (not_t (decide_eq_false h2175)) trivial))))))))
       injection h with h; subst h
       exact fun_ok pm pn Go.Proofs.Try.func10 (r0 := vb false) (ans := [.reg (.n :: .n :: []), .reg (.call (vb r2105) :: .n :: []), .br false, .reg (.n :: .call (vb r2108) :: nN 6 (nS 3 (.b false :: .b false :: nN 4 (.b false :: [])))), .br false, .reg (arA7_6 r2157 r2160 r2163), .reg (.n :: .call (vi r2167) :: .n :: []), .reg (.n :: .n :: []), .br false, .reg (.n :: .n :: .call (VV.tu [vi r2171.1, vi r2171.2]) :: nN 5 []), .reg (nN 4 (nS 3 (.b true :: []))), .br true, .reg (.n :: [])]) (fr := true) (by kernel_rfl) (an (an (ti (ti trivial)) (an (an (an (nawake_ok k _ h2106) (ti trivial)) (an (not_f h2107) trivial)) (an (an e2155 (an (decide_eq_false h2156) trivial)) (an e2166 (an (an (ti (an e2169 (ti trivial))) (an (ti (ti trivial)) (an (not_f (decide_eq_true h2170)) trivial))) (an e2174 (an e2190 (an rt (an (ti trivial) trivial))))))))) (ti trivial)) (Wv.refl _)
     ·rcases ifs h with ⟨h2191, h⟩ | ⟨h2191, h⟩
      ·have e2192 := (ti (ti (ti (ti (an (an (decide_eq_true h2191) trivial) (an (an (decide_eq_true h2191) trivial) (an (decide_eq_true h2191) (ti trivial))))))))
       injection h with h; subst h
       exact fun_ok pm pn Go.Proofs.Try.func10 (r0 := vb (decide (r2163.1 = 0))) (ans := [.reg (.n :: .n :: []), .reg (.call (vb r2105) :: .n :: []), .br false, .reg (.n :: .call (vb r2108) :: nN 6 (nS 3 (.b false :: .b false :: nN 4 (.b false :: [])))), .br false, .reg (arA7_6 r2157 r2160 r2163), .reg (.n :: .call (vi r2167) :: .n :: []), .reg (.n :: .n :: []), .br true, .reg (nN 6 (.b true :: .n :: []))]) (fr := true) (by kernel_rfl) (an (an (ti (ti trivial)) (an (an (an (nawake_ok k _ h2106) (ti trivial)) (an (not_f h2107) trivial)) (an (an e2155 (an (decide_eq_false h2156) trivial)) (an e2166 (an (ti (an e2169 (ti trivial))) (an (ti (ti trivial)) (an (not_t (decide_eq_false h2170)) (an e2192 trivial)))))))) (ti trivial)) (Wv.refl _)
      ·have e2193 := (ti (ti (ti (ti (an (decide_eq_false h2191) (an (decide_eq_false h2191) (an (decide_eq_false h2191) (ti trivial))))))))
       injection h with h; subst h
       exact fun_ok pm pn Go.Proofs.Try.func10 (r0 := vb false) (ans := [.reg (.n :: .n :: []), .reg (.call (vb r2105) :: .n :: []), .br false, .reg (.n :: .call (vb r2108) :: nN 6 (nS 3 (.b false :: .b false :: nN 4 (.b false :: [])))), .br false, .reg (arA7_6 r2157 r2160 r2163), .reg (.n :: .call (vi r2167) :: .n :: []), .reg (.n :: .n :: []), .br true, .reg (nN 4 (.skip :: .skip :: .b false :: .n :: []))]) (fr := true) (by kernel_rfl) (an (an (ti (ti trivial)) (an (an (an (nawake_ok k _ h2106) (ti trivial)) (an (not_f h2107) trivial)) (an (an e2155 (an (decide_eq_false h2156) trivial)) (an e2166 (an (ti (an e2169 (ti trivial))) (an (ti (ti trivial)) (an (not_t (decide_eq_false h2170)) (an e2193 trivial)))))))) (ti trivial)) (Wv.refl _)
  ·have e2194 := (ti (an (nspeculumlaw03_Light_ok k a0 _ h2109) (ti (ti (an (not_t (bool_f h2110)) (an (not_t (bool_f h2110)) (an (not_t (bool_f h2110)) (an (not_t (bool_f h2110)) (ti (ti (ti (an (not_t (bool_f h2110)) (an (not_t (bool_f h2110)) (ti (an rt (an rt (an rt (an rt trivial))))))))))))))))))
   injection h with h; subst h
   exact fun_ok pm pn Go.Proofs.Try.func10 (r0 := vb true) (ans := [.reg (.n :: .n :: []), .reg (.call (vb r2105) :: .n :: []), .br false, .reg (.n :: .call (vb r2108) :: .n :: .n :: nS 8 (.b true :: .n :: nS 3 (.b true :: []))), .br true, .reg (.n :: [])]) (fr := true) (by kernel_rfl) (an (an (ti (ti trivial)) (an (an (an (nawake_ok k _ h2106) (ti trivial)) (an (not_f h2107) trivial)) (an e2194 (an rt (an (ti trivial) trivial))))) (ti trivial)) (Wv.refl _)
 ·injection h with h; subst h
  exact fun_ok pm pn Go.Proofs.Try.func10 (r0 := vb false) (ans := [.reg (.n :: .n :: []), .reg (.call (vb r2105) :: .n :: []), .br true, .reg (.n :: [])]) (fr := true) (by kernel_rfl) (an (an (ti (ti trivial)) (an (an (nawake_ok k _ h2106) (ti trivial)) (an (not_t (bool_f h2107)) (an (ti trivial) trivial)))) (ti trivial)) (Wv.refl _)
end Go.Proofs.Ytclabanknlmneaa.Vg

/- Written by a program out of the program: what Go functions do, as plain functions, and their contracts. -/
import Derived.Test.YtkffimkedibmnaaO1
namespace Go.Proofs.Ytkffimkedibmnaa.Vg
set_option maxRecDepth 100000
set_option maxHeartbeats 4000000
set_option linter.unusedVariables false
set_option linter.unusedSimpArgs false
open Go Go.Proofs.Ytkffimkedibmnaa.Ev Go.Proofs.Ytkffimkedibmnaa.Vv
def nspeculumbase_Within (k : Nat) (a0 : Int) (a1 : Int) (a2 : Int) : Option Bool :=
  if a1 ≤ a0 then (some (decide (a0 ≤ a2))) else (some false)
theorem nspeculumbase_Within_ok (k : Nat) (a0 : Int) (a1 : Int) (a2 : Int) (r : Bool) (h : nspeculumbase_Within k a0 a1 a2 = some r) : VC Go.Proofs.Try.prog 56 [vi a0, vi a1, vi a2] (vb r) := by
 unfold nspeculumbase_Within at h
 rcases ifs h with ⟨h1673, h⟩ | ⟨h1673, h⟩
 ·have e1674 := (ti (ti (ti (ti (an (an (decide_eq_true h1673) trivial) (an (an (decide_eq_true h1673) trivial) (an (an (decide_eq_true h1673) trivial) (an (decide_eq_true h1673) (ti trivial)))))))))
  injection h with h; subst h
  exact fun_ok pm pn Go.Proofs.Try.func56 (r0 := vb (decide (a0 ≤ a2))) (ans := [.reg (.n :: []), .reg (nN 7 (.b true :: .n :: []))]) (fr := true) (by kernel_rfl) (an (an (ti trivial) (an e1674 trivial)) (ti trivial)) (Wv.refl _)
 ·have e1675 := (ti (ti (ti (ti (an (decide_eq_false h1673) (an (decide_eq_false h1673) (an (decide_eq_false h1673) (an (decide_eq_false h1673) (ti trivial)))))))))
  injection h with h; subst h
  exact fun_ok pm pn Go.Proofs.Try.func56 (r0 := vb false) (ans := [.reg (.n :: []), .reg (nN 4 (nS 3 (.b false :: .n :: [])))]) (fr := true) (by kernel_rfl) (an (an (ti trivial) (an e1675 trivial)) (ti trivial)) (Wv.refl _)
def nspeculumbase_Abs (k : Nat) (a0 : Int) : Option Int :=
  if a0 < 0 then (some (w64 (0 - a0))) else (some a0)
theorem nspeculumbase_Abs_ok (k : Nat) (a0 : Int) (r : Int) (h : nspeculumbase_Abs k a0 = some r) : VC Go.Proofs.Try.prog 89 [vi a0] (vi r) := by
 unfold nspeculumbase_Abs at h
 rcases ifs h with ⟨h1692, h⟩ | ⟨h1692, h⟩
 ·injection h with h; subst h
  exact fun_ok pm pn Go.Proofs.Try.func89 (r0 := vi (w64 (0 - a0))) (ans := [.reg (.n :: []), .reg (.n :: .n :: []), .br true, .reg (nN 3 [])]) (fr := true) (by kernel_rfl) (an (an (ti trivial) (an (ti (ti trivial)) (an (decide_eq_true h1692) (an (ti (ti (ti trivial))) trivial)))) (ti trivial)) (Wv.refl _)
 ·injection h with h; subst h
  exact fun_ok pm pn Go.Proofs.Try.func89 (r0 := vi a0) (ans := [.reg (.n :: []), .reg (.n :: .n :: []), .br false, .reg (.n :: .n :: [])]) (fr := true) (by kernel_rfl) (an (an (ti trivial) (an (an (ti (ti trivial)) (an (decide_eq_false h1692) trivial)) (an (ti (ti trivial)) trivial))) (ti trivial)) (Wv.refl _)
def nspeculumbase_Gcd_l0_0_h  (x0 : Int) (x1 : Int) : VS := ⟨mkA [(0, vi x0), (1, vi x1)], [], .nil⟩
def nspeculumbase_Gcd_l0_0_e0  (r : Int) : VS := ⟨mkA [(0, vi r)], [], .nil⟩
def nspeculumbase_Gcd_l0_0 (k : Nat)  : Nat → Int → Int → Option (Int)
  | 0, _, _ => none
  | fuel + 1, x0, x1 => if x1 = 0 then (some x0) else (if x1 ≠ 0 then (nspeculumbase_Gcd_l0_0 k  fuel x1 (x0.tmod x1)) else none)
theorem nspeculumbase_Gcd_l0_0_ok (k : Nat)  : ∀ (fuel : Nat) (x0 : Int) (x1 : Int) (r : Int), nspeculumbase_Gcd_l0_0 k  fuel x0 x1 = some r → (VLoop none Go.Proofs.Try.prog (szF Go.Proofs.Try.f37) (bodyOf Go.Proofs.Try.f37 0) (nspeculumbase_Gcd_l0_0_h  x0 x1) (.exit 0) (nspeculumbase_Gcd_l0_0_e0  r)) := by
 intro fuel
 induction fuel with
 | zero => intro x0 x1 r h; rw [nspeculumbase_Gcd_l0_0.eq_1] at h; cases h
 | succ fuel ih =>
  intro x0 x1 r h
  rw [nspeculumbase_Gcd_l0_0.eq_2] at h
  rcases ifs h with ⟨h1700, h⟩ | ⟨h1700, h⟩
  ·injection h with h; subst h
   exact round_stop (c := ⟨[(0, none)], [], []⟩) (s1 := (nspeculumbase_Gcd_l0_0_e0  x0)) pm pn (ans := [.reg (.n :: .n :: []), .br false]) (by kernel_rfl) (by intro e; cases e) (an (an (ti (ti trivial)) (an (not_f (decide_eq_true h1700)) trivial)) (ti trivial))
  ·obtain ⟨h1701, h⟩ := ifn h
   have h2 := ih _ _ _ h
   obtain ⟨q, hv, hq⟩ := pkR (rd := none) (P := Go.Proofs.Try.prog) (fn := Go.Proofs.Try.f37) (k := 0) (s := (nspeculumbase_Gcd_l0_0_h  x0 x1)) (ans := [.reg (.n :: .n :: []), .br true, .reg (nN 6 [])]) (c := ⟨[(0, none), (1, none)], [], []⟩) (e := .normal) (s1 := (nspeculumbase_Gcd_l0_0_h  x1 (x0.tmod x1))) (an (an (an (ti (ti trivial)) (an (not_t (decide_eq_false h1700)) trivial)) (ti (ti (ti (an h1701 (ti (ti trivial))))))) (ti trivial)) (by kernel_rfl)
   exact round_next pm pn hv hq h2
def nspeculumbase_Gcd (k : Nat) (a0 : Int) (a1 : Int) : Option Int :=
  (nspeculumbase_Gcd_l0_0 k k a0 a1).bind fun r1703 => ((nspeculumbase_Abs k r1703).bind fun r1705 => (some r1705))
theorem nspeculumbase_Gcd_ok (k : Nat) (a0 : Int) (a1 : Int) (r : Int) (h : nspeculumbase_Gcd k a0 a1 = some r) : VC Go.Proofs.Try.prog 37 [vi a0, vi a1] (vi r) := by
 unfold nspeculumbase_Gcd at h
 obtain ⟨r1703, h1702, h⟩ := bs h
 have hph1702 := nspeculumbase_Gcd_l0_0_ok k  _ _ _ _ h1702
 have e1704 := (an (ti trivial) (VRun.loop hph1702))
 obtain ⟨r1705, h1706, h⟩ := bs h
 have e1707 := (ti (an (nspeculumbase_Abs_ok k r1703 _ h1706) (ti trivial)))
 injection h with h; subst h
 exact fun_ok pm pn Go.Proofs.Try.func37 (r0 := vi r1705) (ans := [.reg (.n :: []), .sub ⟨[(0, none), (1, none)], [], []⟩ (.exit 0) (nspeculumbase_Gcd_l0_0_e0  r1703), .reg (.n :: .call (vi r1705) :: .n :: [])]) (fr := true) (by kernel_rfl) (an (an (ti trivial) (an e1704 (an e1707 trivial))) (ti trivial)) (Wv.refl _)
def nspeculumbase_IsLowest (k : Nat) (a0 : SFrac) : Option Bool :=
  if 0 < a0.Den then ((nspeculumbase_Gcd k a0.Num a0.Den).bind fun r1714 => (some (decide (r1714 = 1)))) else (some false)
theorem nspeculumbase_IsLowest_ok (k : Nat) (a0 : SFrac) (r : Bool) (h : nspeculumbase_IsLowest k a0 = some r) : VC Go.Proofs.Try.prog 86 [VV.ag (c_SFrac a0)] (vb r) := by
 unfold nspeculumbase_IsLowest at h
 rcases ifs h with ⟨h1713, h⟩ | ⟨h1713, h⟩
 ·obtain ⟨r1714, h1715, h⟩ := bs h
  have e1716 := (an (decide_eq_true h1713) (nspeculumbase_Gcd_ok k a0.Num a0.Den _ h1715))
  have e1717 := (ti (ti (ti (ti (an (an (decide_eq_true h1713) trivial) (an (an (decide_eq_true h1713) trivial) (an (an (decide_eq_true h1713) trivial) (an (an (decide_eq_true h1713) trivial) (an e1716 (an (an (decide_eq_true h1713) trivial) (an (decide_eq_true h1713) (ti trivial))))))))))))
  injection h with h; subst h
  exact fun_ok pm pn Go.Proofs.Try.func86 (r0 := vb (decide (r1714 = 1))) (ans := [.reg (.n :: .n :: []), .reg (nN 8 (.call (vi r1714) :: .n :: .b true :: .n :: []))]) (fr := true) (by kernel_rfl) (an (an (ti (ti trivial)) (an e1717 trivial)) (ti trivial)) (Wv.refl _)
 ·have e1718 := (ti (ti (ti (ti (an (decide_eq_false h1713) (an (decide_eq_false h1713) (an (decide_eq_false h1713) (an (decide_eq_false h1713) (an (decide_eq_false h1713) (an (decide_eq_false h1713) (an (decide_eq_false h1713) (ti trivial))))))))))))
  injection h with h; subst h
  exact fun_ok pm pn Go.Proofs.Try.func86 (r0 := vb false) (ans := [.reg (.n :: .n :: []), .reg (nN 4 (nS 6 (.b false :: .n :: [])))]) (fr := true) (by kernel_rfl) (an (an (ti (ti trivial)) (an e1718 trivial)) (ti trivial)) (Wv.refl _)
def nspeculumref02_CheckConic (k : Nat) (a0 : SConic) : Option Int :=
  if a0.Radius = 0 then (some 2) else ((nspeculumbase_Within k a0.Radius (-10000000) 10000000).bind fun r1732 => (if r1732 = true then ((nspeculumbase_IsLowest k a0.K).bind fun r1737 => (if r1737 = true then ((nspeculumbase_Within k a0.K.Num (-100) 100).bind fun r1741 => (if r1741 = true then (if 100 < a0.K.Den then (some 2) else (some 0)) else (some 2))) else (some 3))) else (some 2)))
theorem nspeculumref02_CheckConic_ok (k : Nat) (a0 : SConic) (r : Int) (h : nspeculumref02_CheckConic k a0 = some r) : VC Go.Proofs.Try.prog 73 [VV.ag (c_SConic a0)] (vi r) := by
 unfold nspeculumref02_CheckConic at h
 rcases ifs h with ⟨h1730, h⟩ | ⟨h1730, h⟩
 ·have e1731 := (ti (ti (ti (ti (an (decide_eq_true h1730) (an (decide_eq_true h1730) (an (decide_eq_true h1730) (an (decide_eq_true h1730) (an (decide_eq_true h1730) trivial)))))))))
  injection h with h; subst h
  exact fun_ok pm pn Go.Proofs.Try.func73 (r0 := vi 2) (ans := [.reg (.n :: .n :: []), .reg (nN 4 (nS 4 (.b true :: []))), .br true, .reg (.n :: [])]) (fr := true) (by kernel_rfl) (an (an (ti (ti trivial)) (an e1731 (an rt (an (ti trivial) trivial)))) (ti trivial)) (Wv.refl _)
 ·obtain ⟨r1732, h1733, h⟩ := bs h
  have e1734 := (an (decide_eq_false h1730) (nspeculumbase_Within_ok k a0.Radius (-10000000) 10000000 _ h1733))
  have e1735 := (ti (ti (ti (ti (an (an (decide_eq_false h1730) trivial) (an (an (decide_eq_false h1730) trivial) (an e1734 (an (an (decide_eq_false h1730) trivial) (an (decide_eq_false h1730) trivial)))))))))
  rcases ifs h with ⟨h1736, h⟩ | ⟨h1736, h⟩
  ·obtain ⟨r1737, h1738, h⟩ := bs h
   have e1739 := (nspeculumbase_IsLowest_ok k a0.K _ h1738)
   rcases ifs h with ⟨h1740, h⟩ | ⟨h1740, h⟩
   ·obtain ⟨r1741, h1742, h⟩ := bs h
    have e1743 := (nspeculumbase_Within_ok k a0.K.Num (-100) 100 _ h1742)
    rcases ifs h with ⟨h1744, h⟩ | ⟨h1744, h⟩
    ·have e1745 := (ti (ti (ti (an e1743 (ti (ti (an (an (not_f h1744) trivial) (an (an (not_f h1744) trivial) (an (an (not_f h1744) trivial) (an (an (not_f h1744) trivial) (an (not_f h1744) trivial)))))))))))
     rcases ifs h with ⟨h1746, h⟩ | ⟨h1746, h⟩
     ·injection h with h; subst h
      exact fun_ok pm pn Go.Proofs.Try.func73 (r0 := vi 2) (ans := [.reg (.n :: .n :: []), .reg (nN 6 (.call (vb r1732) :: .n :: .b false :: [])), .br false, .reg (.n :: .n :: .call (vb r1737) :: .n :: []), .br false, .reg (nN 3 (.call (vb r1741) :: nN 6 (.b false :: []))), .br true, .reg (.n :: [])]) (fr := true) (by kernel_rfl) (an (an (ti (ti trivial)) (an (an e1735 (an (not_f h1736) trivial)) (an (an (ti (ti (an e1739 (ti trivial)))) (an (not_f h1740) trivial)) (an e1745 (an (decide_eq_true h1746) (an (ti trivial) trivial)))))) (ti trivial)) (Wv.refl _)
     ·injection h with h; subst h
      exact fun_ok pm pn Go.Proofs.Try.func73 (r0 := vi 0) (ans := [.reg (.n :: .n :: []), .reg (nN 6 (.call (vb r1732) :: .n :: .b false :: [])), .br false, .reg (.n :: .n :: .call (vb r1737) :: .n :: []), .br false, .reg (nN 3 (.call (vb r1741) :: nN 6 (.b false :: []))), .br false, .reg (.n :: [])]) (fr := true) (by kernel_rfl) (an (an (ti (ti trivial)) (an (an e1735 (an (not_f h1736) trivial)) (an (an (ti (ti (an e1739 (ti trivial)))) (an (not_f h1740) trivial)) (an (an e1745 (an (decide_eq_false h1746) trivial)) (an (ti trivial) trivial))))) (ti trivial)) (Wv.refl _)
    ·have e1747 := (ti (ti (ti (an e1743 (ti (ti (an (not_t (bool_f h1744)) (an (not_t (bool_f h1744)) (an (not_t (bool_f h1744)) (an (not_t (bool_f h1744)) (an (not_t (bool_f h1744)) trivial)))))))))))
     injection h with h; subst h
     exact fun_ok pm pn Go.Proofs.Try.func73 (r0 := vi 2) (ans := [.reg (.n :: .n :: []), .reg (nN 6 (.call (vb r1732) :: .n :: .b false :: [])), .br false, .reg (.n :: .n :: .call (vb r1737) :: .n :: []), .br false, .reg (nN 3 (.call (vb r1741) :: .n :: .n :: nS 4 (.b true :: []))), .br true, .reg (.n :: [])]) (fr := true) (by kernel_rfl) (an (an (ti (ti trivial)) (an (an e1735 (an (not_f h1736) trivial)) (an (an (ti (ti (an e1739 (ti trivial)))) (an (not_f h1740) trivial)) (an e1747 (an rt (an (ti trivial) trivial)))))) (ti trivial)) (Wv.refl _)
   ·injection h with h; subst h
    exact fun_ok pm pn Go.Proofs.Try.func73 (r0 := vi 3) (ans := [.reg (.n :: .n :: []), .reg (nN 6 (.call (vb r1732) :: .n :: .b false :: [])), .br false, .reg (.n :: .n :: .call (vb r1737) :: .n :: []), .br true, .reg (.n :: [])]) (fr := true) (by kernel_rfl) (an (an (ti (ti trivial)) (an (an e1735 (an (not_f h1736) trivial)) (an (ti (ti (an e1739 (ti trivial)))) (an (not_t (bool_f h1740)) (an (ti trivial) trivial))))) (ti trivial)) (Wv.refl _)
  ·injection h with h; subst h
   exact fun_ok pm pn Go.Proofs.Try.func73 (r0 := vi 2) (ans := [.reg (.n :: .n :: []), .reg (nN 6 (.call (vb r1732) :: .n :: .b false :: [])), .br true, .reg (.n :: [])]) (fr := true) (by kernel_rfl) (an (an (ti (ti trivial)) (an e1735 (an (not_t (bool_f h1736)) (an (ti trivial) trivial)))) (ti trivial)) (Wv.refl _)
end Go.Proofs.Ytkffimkedibmnaa.Vg

/- Written by a program out of the program: what Go functions do, as plain functions, and their contracts. -/
import Derived.Test.YtclabanknlmneaaA5
namespace Go.Proofs.Ytclabanknlmneaa.Vg
set_option maxRecDepth 100000
set_option maxHeartbeats 4000000
set_option linter.unusedVariables false
set_option linter.unusedSimpArgs false
open Go Go.Proofs.Ytclabanknlmneaa.Ev Go.Proofs.Ytclabanknlmneaa.Vv
def nawake (k : Nat) : Option Bool := some true
theorem nawake_ok (k : Nat) (r : Bool) (h : nawake k = some r) : VC Go.Proofs.Try.prog 12 [] (vb r) := by
  injection h with h; subst h
  exact vc_awake
def nblank_LeastMinutes (k : Nat) (a0 : SAnnealing) (a1 : Int) : Option (Int × Int) :=
  (nblank_checkStep k a0 a1).bind fun r1752 => (if r1752 = 0 then ((nblank_leastMinutes k a0 a1).bind fun r1756 => (some (r1756, 0))) else (some (0, r1752)))
theorem nblank_LeastMinutes_ok (k : Nat) (a0 : SAnnealing) (a1 : Int) (r : (Int × Int)) (h : nblank_LeastMinutes k a0 a1 = some r) : VC Go.Proofs.Try.prog 27 [VV.ag (c_SAnnealing a0), vi a1] (VV.tu [vi r.1, vi r.2]) := by
 unfold nblank_LeastMinutes at h
 obtain ⟨r1752, h1753, h⟩ := bs h
 have e1754 := (ti (ti (an (nblank_checkStep_ok k a0 a1 _ h1753) (ti trivial))))
 rcases ifs h with ⟨h1755, h⟩ | ⟨h1755, h⟩
 ·obtain ⟨r1756, h1757, h⟩ := bs h
  have e1758 := (nblank_leastMinutes_ok k a0 a1 _ h1757)
  injection h with h; subst h
  exact fun_ok pm pn Go.Proofs.Try.func27 (r0 := VV.tu [vi r1756, vi 0]) (ans := [.reg (nN 3 []), .reg (.n :: .n :: .call (vi r1752) :: .n :: []), .reg (.n :: .n :: []), .br false, .reg (.n :: .n :: .call (vi r1756) :: .n :: .n :: [])]) (fr := true) (by kernel_rfl) (an (an (ti (ti (ti trivial))) (an (an e1754 (an (ti (ti trivial)) (an (not_f (decide_eq_true h1755)) trivial))) (an (ti (ti (an e1758 (ti (ti trivial))))) trivial))) (ti (ti trivial))) (Wv.refl _)
 ·injection h with h; subst h
  exact fun_ok pm pn Go.Proofs.Try.func27 (r0 := VV.tu [vi 0, vi r1752]) (ans := [.reg (nN 3 []), .reg (.n :: .n :: .call (vi r1752) :: .n :: []), .reg (.n :: .n :: []), .br true, .reg (nN 3 [])]) (fr := true) (by kernel_rfl) (an (an (ti (ti (ti trivial))) (an e1754 (an (ti (ti trivial)) (an (not_t (decide_eq_false h1755)) (an (ti (ti (ti trivial))) trivial))))) (ti (ti trivial))) (Wv.refl _)
theorem eqA6_0 (z0 : SAnnealing) (z1 : Int) (z2 : SAnnealing) : [VV.ag (c_SAnnealing (⟨minI 500 (w64 (z0.Thick + z1)), z2.Factor, z2.Steps, z2.Windows⟩ : SAnnealing))] = [VV.ag [vi (minI 500 (w64 (z0.Thick + z1))), vi z2.Factor, VV.tr (List.flatMap c_SCoolStep z2.Steps) z2.Steps.length, VV.tr (List.flatMap c_SCoolWindow z2.Windows) z2.Windows.length]] := by first | rfl | (simp only [unfr_vi, List.map_cons, List.map_nil, un_i, un_tr, List.length_cons, List.length_nil, unfr_c_SAnnealing, unfr_c_SCoolStep, unfr_c_SCoolWindow]; done) | (simp only [unfr_vi, List.map_cons, List.map_nil, un_i, un_tr, List.length_cons, List.length_nil, unfr_c_SAnnealing, unfr_c_SCoolStep, unfr_c_SCoolWindow]; rfl) | (simp only [unfr_vi, List.map_cons, List.map_nil, un_i, un_tr, List.length_cons, List.length_nil, unfr_c_SAnnealing, unfr_c_SCoolStep, unfr_c_SCoolWindow, c_SAnnealing, c_SCoolStep, c_SCoolWindow, List.length_cons, List.length_nil, List.length_append]; done)
def arA6_0 (z0 : SAnnealing) (z1 : (Int × Int)) : List Ans := (.n :: .call (VV.ag (g_SAnnealing z0)) :: .n :: .call (VV.tu [vi z1.1, vi z1.2]) :: nN 5 [])
theorem eqA6_1 (z0 : Int) (z1 : SAnnealing) : [VV.ag (c_SAnnealing (⟨z0, z1.Factor, z1.Steps, z1.Windows⟩ : SAnnealing))] = [VV.ag [vi z0, vi z1.Factor, VV.tr (List.flatMap c_SCoolStep z1.Steps) z1.Steps.length, VV.tr (List.flatMap c_SCoolWindow z1.Windows) z1.Windows.length]] := by first | rfl | (simp only [unfr_vi, List.map_cons, List.map_nil, un_i, un_tr, List.length_cons, List.length_nil, unfr_c_SAnnealing, unfr_c_SCoolStep, unfr_c_SCoolWindow]; done) | (simp only [unfr_vi, List.map_cons, List.map_nil, un_i, un_tr, List.length_cons, List.length_nil, unfr_c_SAnnealing, unfr_c_SCoolStep, unfr_c_SCoolWindow]; rfl) | (simp only [unfr_vi, List.map_cons, List.map_nil, un_i, un_tr, List.length_cons, List.length_nil, unfr_c_SAnnealing, unfr_c_SCoolStep, unfr_c_SCoolWindow, c_SAnnealing, c_SCoolStep, c_SCoolWindow, List.length_cons, List.length_nil, List.length_append]; done)
def arA6_1 (z0 : ((List Int) × (List Int) × Int)) (z1 : Int) (z2 : ((List Int) × (List Int) × Int)) : List Ans := (nN 3 (.v (vi (z0.1.getD z1.toNat 0)) :: nN 3 (.v (vi (z2.1.getD z1.toNat 0)) :: .n :: [])))
def nspeculumlaw03_BlankThicker_l0_0_h (a0 : SAnnealing) (a1 : Int) (r1899 : SAnnealing) (x6 : Int) : VS := ⟨mkA [(2, VV.pt 0 0), (5, VV.pt 1 0), (6, vi x6)], [some ⟨true, 1, c_SAnnealing a0⟩, some ⟨true, 1, [vi (minI 500 (w64 (a0.Thick + a1))), vi r1899.Factor, VV.fr (List.flatMap c_SCoolStep r1899.Steps) r1899.Steps.length, VV.fr (List.flatMap c_SCoolWindow r1899.Windows) r1899.Windows.length]⟩], .nil⟩
def nspeculumlaw03_BlankThicker_l0_0_e0 (a0 : SAnnealing) (a1 : Int) (r1899 : SAnnealing) (r : Unit) : VS := ⟨mkA [(4, vb false)], [], .nil⟩
def nspeculumlaw03_BlankThicker_l0_0_e1 (a0 : SAnnealing) (a1 : Int) (r1899 : SAnnealing) (r : Int) : VS := ⟨mkA [(2, VV.pt 0 0), (5, VV.pt 1 0)], [some ⟨true, 1, c_SAnnealing a0⟩, some ⟨true, 1, [vi r, vi r1899.Factor, VV.fr (List.flatMap c_SCoolStep r1899.Steps) r1899.Steps.length, VV.fr (List.flatMap c_SCoolWindow r1899.Windows) r1899.Windows.length]⟩], .nil⟩
def nspeculumlaw03_BlankThicker_l0_0 (k : Nat) (a0 : SAnnealing) (a1 : Int) (r1899 : SAnnealing) : Nat → Int → Option (Sum Unit Int)
  | 0, _ => none
  | fuel + 1, x6 => if x6 < (a0.Steps.length : Int) then ((nspeculumlaw03_own k a0).bind fun r1965 => ((nblank_LeastMinutes k r1965 x6).bind fun r1968 => ((nspeculumlaw03_own k (⟨minI 500 (w64 (a0.Thick + a1)), r1899.Factor, r1899.Steps, r1899.Windows⟩ : SAnnealing)).bind fun r1972 => ((nblank_LeastMinutes k r1972 x6).bind fun r1975 => (if r1968.2 = 0 then (if r1975.2 = 0 then (if r1975.1 < r1968.1 then (some (.inl ())) else (nspeculumlaw03_BlankThicker_l0_0 k a0 a1 r1899 fuel (w64 (x6 + 1)))) else (some (.inl ()))) else (some (.inl ()))))))) else (some (.inr (minI 500 (w64 (a0.Thick + a1)))))
theorem nspeculumlaw03_BlankThicker_l0_0_ok (k : Nat) (a0 : SAnnealing) (a1 : Int) (r1899 : SAnnealing) : ∀ (fuel : Nat) (x6 : Int) (r : Sum Unit Int), nspeculumlaw03_BlankThicker_l0_0 k a0 a1 r1899 fuel x6 = some r → (match r with | .inl r => VLoop none Go.Proofs.Try.prog (szF Go.Proofs.Try.f11) (bodyOf Go.Proofs.Try.f11 0) (nspeculumlaw03_BlankThicker_l0_0_h a0 a1 r1899 x6) .ret (nspeculumlaw03_BlankThicker_l0_0_e0 a0 a1 r1899 r) | .inr r => VLoop none Go.Proofs.Try.prog (szF Go.Proofs.Try.f11) (bodyOf Go.Proofs.Try.f11 0) (nspeculumlaw03_BlankThicker_l0_0_h a0 a1 r1899 x6) (.exit 0) (nspeculumlaw03_BlankThicker_l0_0_e1 a0 a1 r1899 r)) := by
 intro fuel
 induction fuel with
 | zero => intro x6 r h; rw [nspeculumlaw03_BlankThicker_l0_0.eq_1] at h; cases h
 | succ fuel ih =>
  intro x6 r h
  rw [nspeculumlaw03_BlankThicker_l0_0.eq_2] at h
  rcases ifs h with ⟨h1964, h⟩ | ⟨h1964, h⟩
  ·obtain ⟨r1965, h1966, h⟩ := bs h
   have e1967 := (show VC Go.Proofs.Try.prog 26 [VV.ag (c_SAnnealing a0)] (VV.ag (g_SAnnealing r1965)) from (VC.weak (nspeculumlaw03_own_ok k a0 _ h1966) (Wv.agL (.cons (Wv.refl _) (.cons (Wv.refl _) (.cons (Wv.fw rfl rfl) (.cons (Wv.fw rfl rfl) .nil)))))))
   obtain ⟨r1968, h1969, h⟩ := bs h
   have e1970 := (nblank_LeastMinutes_ok k r1965 x6 _ h1969)
   have e1971 := (ti (an e1967 (ti (an e1970 (ti (ti (ti (ti (ti trivial)))))))))
   obtain ⟨r1972, h1973, h⟩ := bs h
   have e1974 := (VC.args (VC.weak (nspeculumlaw03_own_ok k (⟨minI 500 (w64 (a0.Thick + a1)), r1899.Factor, r1899.Steps, r1899.Windows⟩ : SAnnealing) _ h1973) (Wv.agL (.cons (Wv.refl _) (.cons (Wv.refl _) (.cons (Wv.fw rfl rfl) (.cons (Wv.fw rfl rfl) .nil)))))) (eqA6_0 a0 a1 r1899))
   obtain ⟨r1975, h1976, h⟩ := bs h
   have e1977 := (nblank_LeastMinutes_ok k r1972 x6 _ h1976)
   have e1978 := (ti (an e1974 (ti (an e1977 (ti (ti (ti (ti (ti trivial)))))))))
   rcases ifs h with ⟨h1979, h⟩ | ⟨h1979, h⟩
   ·have e1980 := (an (not_f (decide_eq_true h1979)) trivial)
    have e1981 := (an (not_f (decide_eq_true h1979)) trivial)
    rcases ifs h with ⟨h1982, h⟩ | ⟨h1982, h⟩
    ·have e1983 := (an (not_f (decide_eq_true h1982)) trivial)
     have e1984 := (an (not_f (decide_eq_true h1982)) trivial)
     have e1985 := (an (not_f (decide_eq_true h1982)) trivial)
     have e1986 := (ti (ti (ti (an e1980 (an e1981 (an (not_f (decide_eq_true h1979)) (ti (an e1983 (an e1984 (an e1985 (an (not_f (decide_eq_true h1982)) trivial)))))))))))
     rcases ifs h with ⟨h1987, h⟩ | ⟨h1987, h⟩
     ·injection h with h; subst h
      exact round_stop (c := ⟨[(4, none)], [], []⟩) (s1 := (nspeculumlaw03_BlankThicker_l0_0_e0 a0 a1 r1899 ())) pm pn (ans := [.reg (nN 5 []), .br true, .reg (arA6_0 r1965 r1968), .reg (arA6_0 r1972 r1975), .reg (nN 5 (.b false :: nN 4 (.b false :: []))), .br true, .reg (.n :: [])]) (by kernel_rfl) (by intro e; cases e) (an (an (an (ti (ti (ti (ti (ti trivial))))) (an (decide_eq_true h1964) trivial)) (an e1971 (an e1978 (an e1986 (an (decide_eq_true h1987) (an (ti trivial) trivial)))))) (ti trivial))
     ·have h2 := ih _ _ h
      obtain ⟨q, hv, hq⟩ := pkR (rd := none) (P := Go.Proofs.Try.prog) (fn := Go.Proofs.Try.f11) (k := 0) (s := (nspeculumlaw03_BlankThicker_l0_0_h a0 a1 r1899 x6)) (ans := [.reg (nN 5 []), .br true, .reg (arA6_0 r1965 r1968), .reg (arA6_0 r1972 r1975), .reg (nN 5 (.b false :: nN 4 (.b false :: []))), .br false, .reg (nN 3 [])]) (c := ⟨[(2, none), (5, none), (6, none)], [none, none], []⟩) (e := .normal) (s1 := (nspeculumlaw03_BlankThicker_l0_0_h a0 a1 r1899 (w64 (x6 + 1)))) (an (an (an (ti (ti (ti (ti (ti trivial))))) (an (decide_eq_true h1964) trivial)) (an (an e1971 (an e1978 (an e1986 (an (decide_eq_false h1987) trivial)))) (ti (ti (ti trivial))))) (ti trivial)) (by kernel_rfl)
      cases r with
      | inl r => exact round_next pm pn hv hq h2
      | inr r =>
       exact round_next pm pn hv hq h2
    ·have e1988 := (ti (ti (ti (an e1980 (an e1981 (an (not_f (decide_eq_true h1979)) (ti (an (not_t (decide_eq_false h1982)) (an (not_t (decide_eq_false h1982)) (an (not_t (decide_eq_false h1982)) (an (not_t (decide_eq_false h1982)) trivial)))))))))))
     injection h with h; subst h
     exact round_stop (c := ⟨[(4, none)], [], []⟩) (s1 := (nspeculumlaw03_BlankThicker_l0_0_e0 a0 a1 r1899 ())) pm pn (ans := [.reg (nN 5 []), .br true, .reg (arA6_0 r1965 r1968), .reg (arA6_0 r1972 r1975), .reg (nN 5 (.b false :: .n :: nS 3 (.b true :: []))), .br true, .reg (.n :: [])]) (by kernel_rfl) (by intro e; cases e) (an (an (an (ti (ti (ti (ti (ti trivial))))) (an (decide_eq_true h1964) trivial)) (an e1971 (an e1978 (an e1988 (an rt (an (ti trivial) trivial)))))) (ti trivial))
   ·have e1989 := (ti (ti (ti (an (not_t (decide_eq_false h1979)) (an (not_t (decide_eq_false h1979)) (an (not_t (decide_eq_false h1979)) (ti (an rt (an rt (an rt (an rt trivial)))))))))))
    injection h with h; subst h
    exact round_stop (c := ⟨[(4, none)], [], []⟩) (s1 := (nspeculumlaw03_BlankThicker_l0_0_e0 a0 a1 r1899 ())) pm pn (ans := [.reg (nN 5 []), .br true, .reg (arA6_0 r1965 r1968), .reg (arA6_0 r1972 r1975), .reg (nN 3 (.skip :: .skip :: .b true :: .n :: nS 3 (.b true :: []))), .br true, .reg (.n :: [])]) (by kernel_rfl) (by intro e; cases e) (an (an (an (ti (ti (ti (ti (ti trivial))))) (an (decide_eq_true h1964) trivial)) (an e1971 (an e1978 (an e1989 (an rt (an (ti trivial) trivial)))))) (ti trivial))
  ·injection h with h; subst h
   exact round_stop (c := ⟨[(2, none), (5, none)], [none, none], []⟩) (s1 := (nspeculumlaw03_BlankThicker_l0_0_e1 a0 a1 r1899 (minI 500 (w64 (a0.Thick + a1))))) pm pn (ans := [.reg (nN 5 []), .br false]) (by kernel_rfl) (by intro e; cases e) (an (an (ti (ti (ti (ti (ti trivial))))) (an (decide_eq_false h1964) trivial)) (ti trivial))
def nspeculumlaw03_BlankThicker_l1_0_h (r1998 : ((List Int) × (List Int) × Int)) (r2004 : ((List Int) × (List Int) × Int)) (x17 : Int) : VS := ⟨mkA [(11, VV.fr (List.map vi r1998.1) r1998.1.length), (14, VV.fr (List.map vi r2004.1) r2004.1.length), (17, vi x17)], [], .nil⟩
def nspeculumlaw03_BlankThicker_l1_0_e0 (r1998 : ((List Int) × (List Int) × Int)) (r2004 : ((List Int) × (List Int) × Int)) (r : Unit) : VS := ⟨mkA [(4, vb false)], [], .nil⟩
def nspeculumlaw03_BlankThicker_l1_0_e1 (r1998 : ((List Int) × (List Int) × Int)) (r2004 : ((List Int) × (List Int) × Int)) (r : Unit) : VS := ⟨mkA [], [], .nil⟩
def nspeculumlaw03_BlankThicker_l1_0 (k : Nat) (r1998 : ((List Int) × (List Int) × Int)) (r2004 : ((List Int) × (List Int) × Int)) : Nat → Int → Option (Sum Unit Unit)
  | 0, _ => none
  | fuel + 1, x17 => if x17 < (r1998.1.length : Int) then (if 0 ≤ x17 ∧ x17 < (r2004.1.length : Int) then (if 0 ≤ x17 ∧ x17 < (r1998.1.length : Int) then (if (r2004.1.getD x17.toNat 0) < (r1998.1.getD x17.toNat 0) then (some (.inl ())) else (nspeculumlaw03_BlankThicker_l1_0 k r1998 r2004 fuel (w64 (x17 + 1)))) else none) else none) else (some (.inr ()))
theorem nspeculumlaw03_BlankThicker_l1_0_ok (k : Nat) (r1998 : ((List Int) × (List Int) × Int)) (r2004 : ((List Int) × (List Int) × Int)) : ∀ (fuel : Nat) (x17 : Int) (r : Sum Unit Unit), nspeculumlaw03_BlankThicker_l1_0 k r1998 r2004 fuel x17 = some r → (match r with | .inl r => VLoop none Go.Proofs.Try.prog (szF Go.Proofs.Try.f11) (bodyOf Go.Proofs.Try.f11 1) (nspeculumlaw03_BlankThicker_l1_0_h r1998 r2004 x17) .ret (nspeculumlaw03_BlankThicker_l1_0_e0 r1998 r2004 r) | .inr r => VLoop none Go.Proofs.Try.prog (szF Go.Proofs.Try.f11) (bodyOf Go.Proofs.Try.f11 1) (nspeculumlaw03_BlankThicker_l1_0_h r1998 r2004 x17) (.exit 2) (nspeculumlaw03_BlankThicker_l1_0_e1 r1998 r2004 r)) := by
 intro fuel
 induction fuel with
 | zero => intro x17 r h; rw [nspeculumlaw03_BlankThicker_l1_0.eq_1] at h; cases h
 | succ fuel ih =>
  intro x17 r h
  rw [nspeculumlaw03_BlankThicker_l1_0.eq_2] at h
  rcases ifs h with ⟨h2030, h⟩ | ⟨h2030, h⟩
  ·obtain ⟨h2031, h⟩ := ifn h
   have e2032 := (show loadL Go.Proofs.Try.prog 3 (x17.toNat * 1) (List.map vi r2004.1) = some (vi (r2004.1.getD x17.toNat 0)) from ld_map ag3 vi r2004.1 0 h2031 (by omega))
   obtain ⟨h2033, h⟩ := ifn h
   have e2034 := (show loadL Go.Proofs.Try.prog 3 (x17.toNat * 1) (List.map vi r1998.1) = some (vi (r1998.1.getD x17.toNat 0)) from ld_map ag3 vi r1998.1 0 h2033 (by omega))
   have e2035 := (ti (ti (an h2031 (an e2032 (ti (ti (an h2033 (an e2034 (ti trivial)))))))))
   rcases ifs h with ⟨h2036, h⟩ | ⟨h2036, h⟩
   ·injection h with h; subst h
    exact round_stop (c := ⟨[(4, none)], [], []⟩) (s1 := (nspeculumlaw03_BlankThicker_l1_0_e0 r1998 r2004 ())) pm pn (ans := [.reg (nN 4 []), .br true, .reg (arA6_1 r2004 x17 r1998), .br true, .reg (.n :: [])]) (by kernel_rfl) (by intro e; cases e) (an (an (an (ti (ti (ti (ti trivial)))) (an (decide_eq_true h2030) trivial)) (an e2035 (an (decide_eq_true h2036) (an (ti trivial) trivial)))) (ti trivial))
   ·have h2 := ih _ _ h
    obtain ⟨q, hv, hq⟩ := pkR (rd := none) (P := Go.Proofs.Try.prog) (fn := Go.Proofs.Try.f11) (k := 1) (s := (nspeculumlaw03_BlankThicker_l1_0_h r1998 r2004 x17)) (ans := [.reg (nN 4 []), .br true, .reg (arA6_1 r2004 x17 r1998), .br false, .reg (nN 3 [])]) (c := ⟨[(11, none), (14, none), (17, none)], [], []⟩) (e := .normal) (s1 := (nspeculumlaw03_BlankThicker_l1_0_h r1998 r2004 (w64 (x17 + 1)))) (an (an (an (ti (ti (ti (ti trivial)))) (an (decide_eq_true h2030) trivial)) (an (an e2035 (an (decide_eq_false h2036) trivial)) (ti (ti (ti trivial))))) (ti trivial)) (by kernel_rfl)
    cases r with
    | inl r => exact round_next pm pn hv hq h2
    | inr r =>
     exact round_next pm pn hv hq h2
  ·injection h with h; subst h
   exact round_stop (c := ⟨[], [], []⟩) (s1 := (nspeculumlaw03_BlankThicker_l1_0_e1 r1998 r2004 ())) pm pn (ans := [.reg (nN 4 []), .br false]) (by kernel_rfl) (by intro e; cases e) (an (an (ti (ti (ti (ti trivial)))) (an (decide_eq_false h2030) trivial)) (ti trivial))
def arA6_2 (z0 : SAnnealing) (z1 : ((List Int) × (List Int) × Int)) : List Ans := (.n :: .call (VV.ag (g_SAnnealing z0)) :: .call (VV.tu [VV.fr (List.map vi z1.1) z1.1.length, VV.fr (List.map vi z1.2.1) z1.2.1.length, vi z1.2.2]) :: nN 7 [])
def nspeculumlaw03_BlankThicker (k : Nat) (a0 : SAnnealing) (a1 : Int) : Option Bool :=
  (nawake k).bind fun r1888 => (if r1888 = true then ((nspeculumlaw03_Light k a0).bind fun r1891 => (if r1891 = true then ((nspeculumbase_Within k a1 0 100).bind fun r1894 => (if r1894 = true then ((nspeculumlaw03_own k a0).bind fun r1899 => (if (minI 500 (w64 (a0.Thick + a1))) < a0.Thick then (some true) else ((nblank_CheckAnnealing k r1899).bind fun r1906 => (if r1906 = 0 then (if 30 < (a0.Steps.length : Int) then (some false) else ((nspeculumlaw03_BlankThicker_l0_0 k a0 a1 r1899 k 0).bind fun r1991 => (match r1991 with | .inl r1992 => (some false) | .inr r1993 => ((nblank_Earliest k r1899).bind fun r1998 => ((nspeculumlaw03_own k (⟨r1993, r1899.Factor, r1899.Steps, r1899.Windows⟩ : SAnnealing)).bind fun r2001 => ((nblank_Earliest k r2001).bind fun r2004 => (if r2004.2.2 = 0 then (if r1998.2.2 = 0 then (if (r1998.1.length : Int) = (r2004.1.length : Int) then ((nspeculumlaw03_BlankThicker_l1_0 k r1998 r2004 k 0).bind fun r2038 => (match r2038 with | .inl r2039 => (some false) | .inr r2040 => (some true))) else (some false)) else (some false)) else (some (decide (r2004.2.2 = 21)))))))))) else (some true))))) else (some true))) else (some true))) else (some false))
theorem nspeculumlaw03_BlankThicker_ok (k : Nat) (a0 : SAnnealing) (a1 : Int) (r : Bool) (h : nspeculumlaw03_BlankThicker k a0 a1 = some r) : VC Go.Proofs.Try.prog 11 [VV.ag (c_SAnnealing a0), vi a1] (vb r) := by
 unfold nspeculumlaw03_BlankThicker at h
 obtain ⟨r1888, h1889, h⟩ := bs h
 rcases ifs h with ⟨h1890, h⟩ | ⟨h1890, h⟩
 ·obtain ⟨r1891, h1892, h⟩ := bs h
  rcases ifs h with ⟨h1893, h⟩ | ⟨h1893, h⟩
  ·obtain ⟨r1894, h1895, h⟩ := bs h
   have e1896 := (an (not_f h1893) (nspeculumbase_Within_ok k a1 0 100 _ h1895))
   have e1897 := (ti (an (nspeculumlaw03_Light_ok k a0 _ h1892) (ti (ti (an (an (not_f h1893) trivial) (an e1896 (an (an (not_f h1893) trivial) (an (not_f h1893) trivial))))))))
   rcases ifs h with ⟨h1898, h⟩ | ⟨h1898, h⟩
   ·obtain ⟨r1899, h1900, h⟩ := bs h
    have e1901 := (show VC Go.Proofs.Try.prog 26 [VV.ag (c_SAnnealing a0)] (VV.ag (g_SAnnealing r1899)) from (VC.weak (nspeculumlaw03_own_ok k a0 _ h1900) (Wv.agL (.cons (Wv.refl _) (.cons (Wv.refl _) (.cons (Wv.fw rfl rfl) (.cons (Wv.fw rfl rfl) .nil)))))))
    rcases ifs h with ⟨h1902, h⟩ | ⟨h1902, h⟩
    ·have e1903 := (ti (ti (ti (ti (ti (ti (an (decide_eq_true h1902) (an (decide_eq_true h1902) (an (decide_eq_true h1902) (an (decide_eq_true h1902) (an (decide_eq_true h1902) trivial)))))))))))
     injection h with h; subst h
     exact fun_ok pm pn Go.Proofs.Try.func11 (r0 := vb true) (ans := [.reg (.n :: .n :: []), .reg (.call (vb r1888) :: .n :: []), .br false, .reg (.n :: .call (vb r1891) :: nN 3 (.call (vb r1894) :: .n :: .b false :: [])), .br false, .reg (.n :: .call (VV.ag (g_SAnnealing r1899)) :: .n :: .n :: []), .reg (nN 7 []), .reg (nN 6 (nS 4 (.b true :: []))), .br true, .reg (.n :: [])]) (fr := true) (by kernel_rfl) (an (an (ti (ti trivial)) (an (an (an (nawake_ok k _ h1889) (ti trivial)) (an (not_f h1890) trivial)) (an (an e1897 (an (not_f h1898) trivial)) (an (ti (an e1901 (ti (ti trivial)))) (an (ti (ti (ti (ti (ti (ti (ti trivial))))))) (an e1903 (an rt (an (ti trivial) trivial)))))))) (ti trivial)) (Wv.refl _)
    ·have e1905 := (an (decide_eq_false h1902) (show VC Go.Proofs.Try.prog 26 [VV.ag (c_SAnnealing a0)] (VV.ag (g_SAnnealing r1899)) from (VC.weak (nspeculumlaw03_own_ok k a0 _ h1900) (Wv.agL (.cons (Wv.refl _) (.cons (Wv.refl _) (.cons (Wv.fw rfl rfl) (.cons (Wv.fw rfl rfl) .nil))))))))
     obtain ⟨r1906, h1907, h⟩ := bs h
     have e1908 := (an (decide_eq_false h1902) (nblank_CheckAnnealing_ok k r1899 _ h1907))
     have e1909 := (ti (ti (ti (ti (ti (ti (an (an (decide_eq_false h1902) trivial) (an e1905 (an e1908 (an (an (decide_eq_false h1902) trivial) (an (decide_eq_false h1902) trivial)))))))))))
     rcases ifs h with ⟨h1910, h⟩ | ⟨h1910, h⟩
     ·rcases ifs h with ⟨h1911, h⟩ | ⟨h1911, h⟩
      ·injection h with h; subst h
       exact fun_ok pm pn Go.Proofs.Try.func11 (r0 := vb false) (ans := [.reg (.n :: .n :: []), .reg (.call (vb r1888) :: .n :: []), .br false, .reg (.n :: .call (vb r1891) :: nN 3 (.call (vb r1894) :: .n :: .b false :: [])), .br false, .reg (.n :: .call (VV.ag (g_SAnnealing r1899)) :: .n :: .n :: []), .reg (nN 7 []), .reg (nN 7 (.call (VV.ag (g_SAnnealing r1899)) :: .call (vi r1906) :: .n :: .b false :: [])), .br false, .reg (nN 4 []), .br true, .reg (.n :: [])]) (fr := true) (by kernel_rfl) (an (an (ti (ti trivial)) (an (an (an (nawake_ok k _ h1889) (ti trivial)) (an (not_f h1890) trivial)) (an (an e1897 (an (not_f h1898) trivial)) (an (ti (an e1901 (ti (ti trivial)))) (an (ti (ti (ti (ti (ti (ti (ti trivial))))))) (an (an e1909 (an (not_f (decide_eq_true h1910)) trivial)) (an (ti (ti (ti (ti trivial)))) (an (decide_eq_true h1911) (an (ti trivial) trivial))))))))) (ti trivial)) (Wv.refl _)
      ·obtain ⟨r1991, h1990, h⟩ := bs h
       have hph1990 := nspeculumlaw03_BlankThicker_l0_0_ok k a0 a1 r1899 _ _ _ h1990
       cases r1991 with
       | inl r1992 =>
        dsimp only at h
        have e1994 := (an (ti trivial) (VRun.loop hph1990))
        injection h with h; subst h
        exact fun_ok pm pn Go.Proofs.Try.func11 (r0 := vb false) (ans := [.reg (.n :: .n :: []), .reg (.call (vb r1888) :: .n :: []), .br false, .reg (.n :: .call (vb r1891) :: nN 3 (.call (vb r1894) :: .n :: .b false :: [])), .br false, .reg (.n :: .call (VV.ag (g_SAnnealing r1899)) :: .n :: .n :: []), .reg (nN 7 []), .reg (nN 7 (.call (VV.ag (g_SAnnealing r1899)) :: .call (vi r1906) :: .n :: .b false :: [])), .br false, .reg (nN 4 []), .br false, .reg (.n :: []), .sub ⟨[(2, none), (5, none), (6, none)], [none, none], []⟩ .ret (nspeculumlaw03_BlankThicker_l0_0_e0 a0 a1 r1899 r1992)]) (fr := true) (by kernel_rfl) (an (an (ti (ti trivial)) (an (an (an (nawake_ok k _ h1889) (ti trivial)) (an (not_f h1890) trivial)) (an (an e1897 (an (not_f h1898) trivial)) (an (ti (an e1901 (ti (ti trivial)))) (an (ti (ti (ti (ti (ti (ti (ti trivial))))))) (an (an e1909 (an (not_f (decide_eq_true h1910)) trivial)) (an (an (ti (ti (ti (ti trivial)))) (an (decide_eq_false h1911) trivial)) (an (ti trivial) e1994)))))))) (ti trivial)) (Wv.refl _)
       | inr r1993 =>
        dsimp only at h
        have e1995 := (an (ti trivial) (VRun.loop hph1990))
        have e1997 := (show VC Go.Proofs.Try.prog 26 [VV.ag (c_SAnnealing a0)] (VV.ag (g_SAnnealing r1899)) from (VC.weak (nspeculumlaw03_own_ok k a0 _ h1900) (Wv.agL (.cons (Wv.refl _) (.cons (Wv.refl _) (.cons (Wv.fw rfl rfl) (.cons (Wv.fw rfl rfl) .nil)))))))
        obtain ⟨r1998, h1999, h⟩ := bs h
        have e2000 := (ti (an e1997 (an (nblank_Earliest_ok k r1899 _ h1999) (ti (ti (ti (ti (ti (ti (ti trivial))))))))))
        obtain ⟨r2001, h2002, h⟩ := bs h
        have e2003 := (VC.args (VC.weak (nspeculumlaw03_own_ok k (⟨r1993, r1899.Factor, r1899.Steps, r1899.Windows⟩ : SAnnealing) _ h2002) (Wv.agL (.cons (Wv.refl _) (.cons (Wv.refl _) (.cons (Wv.fw rfl rfl) (.cons (Wv.fw rfl rfl) .nil)))))) (eqA6_1 r1993 r1899))
        obtain ⟨r2004, h2005, h⟩ := bs h
        have e2006 := (ti (an e2003 (an (nblank_Earliest_ok k r2001 _ h2005) (ti (ti (ti (ti (ti (ti (ti trivial))))))))))
        rcases ifs h with ⟨h2007, h⟩ | ⟨h2007, h⟩
        ·rcases ifs h with ⟨h2008, h⟩ | ⟨h2008, h⟩
         ·have e2009 := (an (not_f (decide_eq_true h2008)) trivial)
          have e2010 := (an (not_f (decide_eq_true h2008)) trivial)
          have e2011 := (an (not_f (decide_eq_true h2008)) trivial)
          have e2012 := (an (not_f (decide_eq_true h2008)) trivial)
          have e2013 := (an (not_f (decide_eq_true h2008)) trivial)
          have e2014 := (ti (ti (ti (an e2009 (an e2010 (an e2011 (an e2012 (an e2013 (an (not_f (decide_eq_true h2008)) trivial)))))))))
          rcases ifs h with ⟨h2015, h⟩ | ⟨h2015, h⟩
          ·obtain ⟨r2038, h2037, h⟩ := bs h
           have hph2037 := nspeculumlaw03_BlankThicker_l1_0_ok k r1998 r2004 _ _ _ h2037
           cases r2038 with
           | inl r2039 =>
            dsimp only at h
            have e2041 := (an (ti trivial) (VRun.loop hph2037))
            injection h with h; subst h
            exact fun_ok pm pn Go.Proofs.Try.func11 (r0 := vb false) (ans := [.reg (.n :: .n :: []), .reg (.call (vb r1888) :: .n :: []), .br false, .reg (.n :: .call (vb r1891) :: nN 3 (.call (vb r1894) :: .n :: .b false :: [])), .br false, .reg (.n :: .call (VV.ag (g_SAnnealing r1899)) :: .n :: .n :: []), .reg (nN 7 []), .reg (nN 7 (.call (VV.ag (g_SAnnealing r1899)) :: .call (vi r1906) :: .n :: .b false :: [])), .br false, .reg (nN 4 []), .br false, .reg (.n :: []), .sub ⟨[(2, none), (5, none), (6, none)], [none, none], []⟩ (.exit 0) (nspeculumlaw03_BlankThicker_l0_0_e1 a0 a1 r1899 r1993), .reg (arA6_2 r1899 r1998), .reg (arA6_2 r2001 r2004), .reg (.n :: .n :: []), .br false, .reg (nN 8 (.b false :: [])), .br false, .reg (.n :: []), .sub ⟨[(11, none), (14, none), (17, none)], [], []⟩ .ret (nspeculumlaw03_BlankThicker_l1_0_e0 r1998 r2004 r2039)]) (fr := true) (by kernel_rfl) (an (an (ti (ti trivial)) (an (an (an (nawake_ok k _ h1889) (ti trivial)) (an (not_f h1890) trivial)) (an (an e1897 (an (not_f h1898) trivial)) (an (ti (an e1901 (ti (ti trivial)))) (an (ti (ti (ti (ti (ti (ti (ti trivial))))))) (an (an e1909 (an (not_f (decide_eq_true h1910)) trivial)) (an (an (ti (ti (ti (ti trivial)))) (an (decide_eq_false h1911) trivial)) (an (an (ti trivial) e1995) (an e2000 (an e2006 (an (an (ti (ti trivial)) (an (not_f (decide_eq_true h2007)) trivial)) (an (an e2014 (an (not_f (decide_eq_true h2015)) trivial)) (an (ti trivial) e2041))))))))))))) (ti trivial)) (Wv.refl _)
           | inr r2040 =>
            dsimp only at h
            have e2042 := (an (ti trivial) (VRun.loop hph2037))
            injection h with h; subst h
            exact fun_ok pm pn Go.Proofs.Try.func11 (r0 := vb true) (ans := [.reg (.n :: .n :: []), .reg (.call (vb r1888) :: .n :: []), .br false, .reg (.n :: .call (vb r1891) :: nN 3 (.call (vb r1894) :: .n :: .b false :: [])), .br false, .reg (.n :: .call (VV.ag (g_SAnnealing r1899)) :: .n :: .n :: []), .reg (nN 7 []), .reg (nN 7 (.call (VV.ag (g_SAnnealing r1899)) :: .call (vi r1906) :: .n :: .b false :: [])), .br false, .reg (nN 4 []), .br false, .reg (.n :: []), .sub ⟨[(2, none), (5, none), (6, none)], [none, none], []⟩ (.exit 0) (nspeculumlaw03_BlankThicker_l0_0_e1 a0 a1 r1899 r1993), .reg (arA6_2 r1899 r1998), .reg (arA6_2 r2001 r2004), .reg (.n :: .n :: []), .br false, .reg (nN 8 (.b false :: [])), .br false, .reg (.n :: []), .sub ⟨[(11, none), (14, none), (17, none)], [], []⟩ (.exit 2) (nspeculumlaw03_BlankThicker_l1_0_e1 r1998 r2004 r2040), .reg (.n :: [])]) (fr := true) (by kernel_rfl) (an (an (ti (ti trivial)) (an (an (an (nawake_ok k _ h1889) (ti trivial)) (an (not_f h1890) trivial)) (an (an e1897 (an (not_f h1898) trivial)) (an (ti (an e1901 (ti (ti trivial)))) (an (ti (ti (ti (ti (ti (ti (ti trivial))))))) (an (an e1909 (an (not_f (decide_eq_true h1910)) trivial)) (an (an (ti (ti (ti (ti trivial)))) (an (decide_eq_false h1911) trivial)) (an (an (ti trivial) e1995) (an e2000 (an e2006 (an (an (ti (ti trivial)) (an (not_f (decide_eq_true h2007)) trivial)) (an (an e2014 (an (not_f (decide_eq_true h2015)) trivial)) (an (an (ti trivial) e2042) (an (ti trivial) trivial)))))))))))))) (ti trivial)) (Wv.refl _)
          ·injection h with h; subst h
           exact fun_ok pm pn Go.Proofs.Try.func11 (r0 := vb false) (ans := [.reg (.n :: .n :: []), .reg (.call (vb r1888) :: .n :: []), .br false, .reg (.n :: .call (vb r1891) :: nN 3 (.call (vb r1894) :: .n :: .b false :: [])), .br false, .reg (.n :: .call (VV.ag (g_SAnnealing r1899)) :: .n :: .n :: []), .reg (nN 7 []), .reg (nN 7 (.call (VV.ag (g_SAnnealing r1899)) :: .call (vi r1906) :: .n :: .b false :: [])), .br false, .reg (nN 4 []), .br false, .reg (.n :: []), .sub ⟨[(2, none), (5, none), (6, none)], [none, none], []⟩ (.exit 0) (nspeculumlaw03_BlankThicker_l0_0_e1 a0 a1 r1899 r1993), .reg (arA6_2 r1899 r1998), .reg (arA6_2 r2001 r2004), .reg (.n :: .n :: []), .br false, .reg (nN 8 (.b false :: [])), .br true, .reg (.n :: [])]) (fr := true) (by kernel_rfl) (an (an (ti (ti trivial)) (an (an (an (nawake_ok k _ h1889) (ti trivial)) (an (not_f h1890) trivial)) (an (an e1897 (an (not_f h1898) trivial)) (an (ti (an e1901 (ti (ti trivial)))) (an (ti (ti (ti (ti (ti (ti (ti trivial))))))) (an (an e1909 (an (not_f (decide_eq_true h1910)) trivial)) (an (an (ti (ti (ti (ti trivial)))) (an (decide_eq_false h1911) trivial)) (an (an (ti trivial) e1995) (an e2000 (an e2006 (an (an (ti (ti trivial)) (an (not_f (decide_eq_true h2007)) trivial)) (an e2014 (an (not_t (decide_eq_false h2015)) (an (ti trivial) trivial)))))))))))))) (ti trivial)) (Wv.refl _)
         ·have e2043 := (ti (ti (ti (an (not_t (decide_eq_false h2008)) (an (not_t (decide_eq_false h2008)) (an (not_t (decide_eq_false h2008)) (an (not_t (decide_eq_false h2008)) (an (not_t (decide_eq_false h2008)) (an (not_t (decide_eq_false h2008)) trivial)))))))))
          injection h with h; subst h
          exact fun_ok pm pn Go.Proofs.Try.func11 (r0 := vb false) (ans := [.reg (.n :: .n :: []), .reg (.call (vb r1888) :: .n :: []), .br false, .reg (.n :: .call (vb r1891) :: nN 3 (.call (vb r1894) :: .n :: .b false :: [])), .br false, .reg (.n :: .call (VV.ag (g_SAnnealing r1899)) :: .n :: .n :: []), .reg (nN 7 []), .reg (nN 7 (.call (VV.ag (g_SAnnealing r1899)) :: .call (vi r1906) :: .n :: .b false :: [])), .br false, .reg (nN 4 []), .br false, .reg (.n :: []), .sub ⟨[(2, none), (5, none), (6, none)], [none, none], []⟩ (.exit 0) (nspeculumlaw03_BlankThicker_l0_0_e1 a0 a1 r1899 r1993), .reg (arA6_2 r1899 r1998), .reg (arA6_2 r2001 r2004), .reg (.n :: .n :: []), .br false, .reg (nN 3 (nS 5 (.b true :: []))), .br true, .reg (.n :: [])]) (fr := true) (by kernel_rfl) (an (an (ti (ti trivial)) (an (an (an (nawake_ok k _ h1889) (ti trivial)) (an (not_f h1890) trivial)) (an (an e1897 (an (not_f h1898) trivial)) (an (ti (an e1901 (ti (ti trivial)))) (an (ti (ti (ti (ti (ti (ti (ti trivial))))))) (an (an e1909 (an (not_f (decide_eq_true h1910)) trivial)) (an (an (ti (ti (ti (ti trivial)))) (an (decide_eq_false h1911) trivial)) (an (an (ti trivial) e1995) (an e2000 (an e2006 (an (an (ti (ti trivial)) (an (not_f (decide_eq_true h2007)) trivial)) (an e2043 (an rt (an (ti trivial) trivial)))))))))))))) (ti trivial)) (Wv.refl _)
        ·injection h with h; subst h
         exact fun_ok pm pn Go.Proofs.Try.func11 (r0 := vb (decide (r2004.2.2 = 21))) (ans := [.reg (.n :: .n :: []), .reg (.call (vb r1888) :: .n :: []), .br false, .reg (.n :: .call (vb r1891) :: nN 3 (.call (vb r1894) :: .n :: .b false :: [])), .br false, .reg (.n :: .call (VV.ag (g_SAnnealing r1899)) :: .n :: .n :: []), .reg (nN 7 []), .reg (nN 7 (.call (VV.ag (g_SAnnealing r1899)) :: .call (vi r1906) :: .n :: .b false :: [])), .br false, .reg (nN 4 []), .br false, .reg (.n :: []), .sub ⟨[(2, none), (5, none), (6, none)], [none, none], []⟩ (.exit 0) (nspeculumlaw03_BlankThicker_l0_0_e1 a0 a1 r1899 r1993), .reg (arA6_2 r1899 r1998), .reg (arA6_2 r2001 r2004), .reg (.n :: .n :: []), .br true, .reg (nN 3 [])]) (fr := true) (by kernel_rfl) (an (an (ti (ti trivial)) (an (an (an (nawake_ok k _ h1889) (ti trivial)) (an (not_f h1890) trivial)) (an (an e1897 (an (not_f h1898) trivial)) (an (ti (an e1901 (ti (ti trivial)))) (an (ti (ti (ti (ti (ti (ti (ti trivial))))))) (an (an e1909 (an (not_f (decide_eq_true h1910)) trivial)) (an (an (ti (ti (ti (ti trivial)))) (an (decide_eq_false h1911) trivial)) (an (an (ti trivial) e1995) (an e2000 (an e2006 (an (ti (ti trivial)) (an (not_t (decide_eq_false h2007)) (an (ti (ti (ti trivial))) trivial))))))))))))) (ti trivial)) (Wv.refl _)
     ·injection h with h; subst h
      exact fun_ok pm pn Go.Proofs.Try.func11 (r0 := vb true) (ans := [.reg (.n :: .n :: []), .reg (.call (vb r1888) :: .n :: []), .br false, .reg (.n :: .call (vb r1891) :: nN 3 (.call (vb r1894) :: .n :: .b false :: [])), .br false, .reg (.n :: .call (VV.ag (g_SAnnealing r1899)) :: .n :: .n :: []), .reg (nN 7 []), .reg (nN 7 (.call (VV.ag (g_SAnnealing r1899)) :: .call (vi r1906) :: .n :: .b false :: [])), .br true, .reg (.n :: [])]) (fr := true) (by kernel_rfl) (an (an (ti (ti trivial)) (an (an (an (nawake_ok k _ h1889) (ti trivial)) (an (not_f h1890) trivial)) (an (an e1897 (an (not_f h1898) trivial)) (an (ti (an e1901 (ti (ti trivial)))) (an (ti (ti (ti (ti (ti (ti (ti trivial))))))) (an e1909 (an (not_t (decide_eq_false h1910)) (an (ti trivial) trivial)))))))) (ti trivial)) (Wv.refl _)
   ·injection h with h; subst h
    exact fun_ok pm pn Go.Proofs.Try.func11 (r0 := vb true) (ans := [.reg (.n :: .n :: []), .reg (.call (vb r1888) :: .n :: []), .br false, .reg (.n :: .call (vb r1891) :: nN 3 (.call (vb r1894) :: .n :: .b false :: [])), .br true, .reg (.n :: [])]) (fr := true) (by kernel_rfl) (an (an (ti (ti trivial)) (an (an (an (nawake_ok k _ h1889) (ti trivial)) (an (not_f h1890) trivial)) (an e1897 (an (not_t (bool_f h1898)) (an (ti trivial) trivial))))) (ti trivial)) (Wv.refl _)
  ·have e2044 := (ti (an (nspeculumlaw03_Light_ok k a0 _ h1892) (ti (ti (an (not_t (bool_f h1893)) (an (not_t (bool_f h1893)) (an (not_t (bool_f h1893)) (an (not_t (bool_f h1893)) trivial))))))))
   injection h with h; subst h
   exact fun_ok pm pn Go.Proofs.Try.func11 (r0 := vb true) (ans := [.reg (.n :: .n :: []), .reg (.call (vb r1888) :: .n :: []), .br false, .reg (.n :: .call (vb r1891) :: .n :: .n :: nS 3 (.b true :: [])), .br true, .reg (.n :: [])]) (fr := true) (by kernel_rfl) (an (an (ti (ti trivial)) (an (an (an (nawake_ok k _ h1889) (ti trivial)) (an (not_f h1890) trivial)) (an e2044 (an rt (an (ti trivial) trivial))))) (ti trivial)) (Wv.refl _)
 ·injection h with h; subst h
  exact fun_ok pm pn Go.Proofs.Try.func11 (r0 := vb false) (ans := [.reg (.n :: .n :: []), .reg (.call (vb r1888) :: .n :: []), .br true, .reg (.n :: [])]) (fr := true) (by kernel_rfl) (an (an (ti (ti trivial)) (an (an (nawake_ok k _ h1889) (ti trivial)) (an (not_t (bool_f h1890)) (an (ti trivial) trivial)))) (ti trivial)) (Wv.refl _)
end Go.Proofs.Ytclabanknlmneaa.Vg

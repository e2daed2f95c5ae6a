/- Written by a program out of the program: what Go functions do, as plain functions, and their contracts. -/
import Derived.Test.YtgaopkhkabbcfaaO3
namespace Go.Proofs.Ytgaopkhkabbcfaa.Vg
set_option maxRecDepth 100000
set_option maxHeartbeats 4000000
set_option linter.unusedVariables false
set_option linter.unusedSimpArgs false
open Go Go.Proofs.Ytgaopkhkabbcfaa.Ev Go.Proofs.Ytgaopkhkabbcfaa.Vv
structure A59 where
  e0 : Int
  e1 : Int
  e2 : Int
  deriving Inhabited
def c_A59 (x : A59) : List VV := [vi x.e0, vi x.e1, vi x.e2]
theorem len_c_A59 (x : A59) : (c_A59 x).length = 3 := rfl
theorem still_c_A59 (xs : List A59) : (xs.flatMap c_A59).all VV.still = true := all_flat (fun _ => rfl) xs
theorem isC_c_A59 (xs : List A59) : (xs.flatMap c_A59).all VV.isC = true := all_flat (fun _ => rfl) xs
theorem new0_c_A59 (xs : List A59) : (xs.flatMap c_A59).all new0 = true := all_flat (fun _ => rfl) xs
theorem unfr_c_A59 (xs : List A59) : (xs.flatMap c_A59).map unfr = xs.flatMap c_A59 := unfr_flat (fun _ => rfl) xs
theorem ag3 : isAggT Go.Proofs.Try.prog 3 = some false := by kernel_rfl
def nspeculumref02_CheckFrac (k : Nat) (a0 : SFrac) : Option Int :=
  (nspeculumbase_IsLowest k a0).bind fun r1854 => (if r1854 = true then ((nspeculumbase_IsSmall k a0).bind fun r1858 => (if r1858 = true then (some 0) else (some 2))) else (some 3))
theorem nspeculumref02_CheckFrac_ok (k : Nat) (a0 : SFrac) (r : Int) (h : nspeculumref02_CheckFrac k a0 = some r) : VC Go.Proofs.Try.prog 57 [VV.ag (c_SFrac a0)] (vi r) := by
 unfold nspeculumref02_CheckFrac at h
 obtain ⟨r1854, h1855, h⟩ := bs h
 have e1856 := (nspeculumbase_IsLowest_ok k a0 _ h1855)
 rcases ifs h with ⟨h1857, h⟩ | ⟨h1857, h⟩
 ·obtain ⟨r1858, h1859, h⟩ := bs h
  have e1860 := (ti (an (nspeculumbase_IsSmall_ok k a0 _ h1859) (ti trivial)))
  rcases ifs h with ⟨h1861, h⟩ | ⟨h1861, h⟩
  ·injection h with h; subst h
   exact fun_ok pm pn Go.Proofs.Try.func57 (r0 := vi 0) (ans := [.reg (.n :: .n :: []), .reg (.n :: .call (vb r1854) :: .n :: []), .br false, .reg (.n :: .call (vb r1858) :: .n :: []), .br false, .reg (.n :: [])]) (fr := true) (by kernel_rfl) (an (an (ti (ti trivial)) (an (an (ti (an e1856 (ti trivial))) (an (not_f h1857) trivial)) (an (an e1860 (an (not_f h1861) trivial)) (an (ti trivial) trivial)))) (ti trivial)) (Wv.refl _)
  ·injection h with h; subst h
   exact fun_ok pm pn Go.Proofs.Try.func57 (r0 := vi 2) (ans := [.reg (.n :: .n :: []), .reg (.n :: .call (vb r1854) :: .n :: []), .br false, .reg (.n :: .call (vb r1858) :: .n :: []), .br true, .reg (.n :: [])]) (fr := true) (by kernel_rfl) (an (an (ti (ti trivial)) (an (an (ti (an e1856 (ti trivial))) (an (not_f h1857) trivial)) (an e1860 (an (not_t (bool_f h1861)) (an (ti trivial) trivial))))) (ti trivial)) (Wv.refl _)
 ·injection h with h; subst h
  exact fun_ok pm pn Go.Proofs.Try.func57 (r0 := vi 3) (ans := [.reg (.n :: .n :: []), .reg (.n :: .call (vb r1854) :: .n :: []), .br true, .reg (.n :: [])]) (fr := true) (by kernel_rfl) (an (an (ti (ti trivial)) (an (ti (an e1856 (ti trivial))) (an (not_t (bool_f h1857)) (an (ti trivial) trivial)))) (ti trivial)) (Wv.refl _)
def nspeculumref02_CheckMatrix_l0_0_h (a0 : SMatrix) (x15 : Int) : VS := ⟨mkA [(14, VV.ag (c_SMatrix a0)), (15, vi x15)], [], .nil⟩
def nspeculumref02_CheckMatrix_l0_0_e0 (a0 : SMatrix) (r : Int) : VS := ⟨mkA [(2, vi r)], [], .nil⟩
def nspeculumref02_CheckMatrix_l0_0_e1 (a0 : SMatrix) (r : Unit) : VS := ⟨mkA [], [], .nil⟩
def nspeculumref02_CheckMatrix_l0_0 (k : Nat) (a0 : SMatrix) : Nat → Int → Option (Sum Int Unit)
  | 0, _ => none
  | fuel + 1, x15 => if x15 < 4 then (if x15 = 0 then ((nspeculumref02_CheckFrac k a0.A).bind fun r1956 => (if r1956 = 0 then (nspeculumref02_CheckMatrix_l0_0 k a0 fuel (w64 (x15 + 1))) else (some (.inl r1956)))) else (if x15 = 1 then ((nspeculumref02_CheckFrac k a0.B).bind fun r1962 => (if r1962 = 0 then (nspeculumref02_CheckMatrix_l0_0 k a0 fuel (w64 (x15 + 1))) else (some (.inl r1962)))) else (if x15 = 2 then ((nspeculumref02_CheckFrac k a0.C).bind fun r1968 => (if r1968 = 0 then (nspeculumref02_CheckMatrix_l0_0 k a0 fuel (w64 (x15 + 1))) else (some (.inl r1968)))) else (if x15 = 3 then ((nspeculumref02_CheckFrac k a0.D).bind fun r1974 => (if r1974 = 0 then (nspeculumref02_CheckMatrix_l0_0 k a0 fuel (w64 (x15 + 1))) else (some (.inl r1974)))) else none)))) else (some (.inr ()))
theorem nspeculumref02_CheckMatrix_l0_0_ok (k : Nat) (a0 : SMatrix) : ∀ (fuel : Nat) (x15 : Int) (r : Sum Int Unit), nspeculumref02_CheckMatrix_l0_0 k a0 fuel x15 = some r → (match r with | .inl r => VLoop none Go.Proofs.Try.prog (szF Go.Proofs.Try.f32) (bodyOf Go.Proofs.Try.f32 0) (nspeculumref02_CheckMatrix_l0_0_h a0 x15) .ret (nspeculumref02_CheckMatrix_l0_0_e0 a0 r) | .inr r => VLoop none Go.Proofs.Try.prog (szF Go.Proofs.Try.f32) (bodyOf Go.Proofs.Try.f32 0) (nspeculumref02_CheckMatrix_l0_0_h a0 x15) (.exit 0) (nspeculumref02_CheckMatrix_l0_0_e1 a0 r)) := by
 intro fuel
 induction fuel with
 | zero => intro x15 r h; rw [nspeculumref02_CheckMatrix_l0_0.eq_1] at h; cases h
 | succ fuel ih =>
  intro x15 r h
  rw [nspeculumref02_CheckMatrix_l0_0.eq_2] at h
  rcases ifs h with ⟨h1953, h⟩ | ⟨h1953, h⟩
  ·rcases ifs h with ⟨h1954, h⟩ | ⟨h1954, h⟩
   ·have e1955 := (show (0:Int) ≤ x15 ∧ x15 < ((4 : Nat) : Int) ∧ partV (x15.toNat * 2) (some 2) [vi a0.A.Num, vi a0.A.Den, vi a0.B.Num, vi a0.B.Den, vi a0.C.Num, vi a0.C.Den, vi a0.D.Num, vi a0.D.Den] = some (VV.ag (c_SFrac a0.A)) from ⟨by have := (of_decide_eq_true (decide_eq_true h1954)); omega, by have := (of_decide_eq_true (decide_eq_true h1954)); omega, by rw [show x15 = (0 : Int) from (of_decide_eq_true (decide_eq_true h1954))]; rfl⟩)
    obtain ⟨r1956, h1957, h⟩ := bs h
    have e1958 := (nspeculumref02_CheckFrac_ok k a0.A _ h1957)
    rcases ifs h with ⟨h1959, h⟩ | ⟨h1959, h⟩
    ·have h2 := ih _ _ h
     obtain ⟨q, hv, hq⟩ := pkR (rd := none) (P := Go.Proofs.Try.prog) (fn := Go.Proofs.Try.f32) (k := 0) (s := (nspeculumref02_CheckMatrix_l0_0_h a0 x15)) (ans := [.reg (.n :: []), .br true, .reg (.v (VV.ag (c_SFrac a0.A)) :: .n :: .n :: []), .reg (.n :: .call (vi r1956) :: .n :: []), .reg (.n :: .n :: []), .br false, .reg (.n :: .n :: [])]) (c := ⟨[(14, none), (15, none)], [], []⟩) (e := .normal) (s1 := (nspeculumref02_CheckMatrix_l0_0_h a0 (w64 (x15 + 1)))) (an (an (ti trivial) (an (an (decide_eq_true h1953) trivial) (an (an (an e1955 (ti (ti trivial))) (an (ti (an e1958 (ti trivial))) (an (ti (ti trivial)) (an (not_f (decide_eq_true h1959)) trivial)))) (ti (ti trivial))))) (ti trivial)) (by kernel_rfl)
     cases r with
     | inl r => exact round_next pm pn hv hq h2
     | inr r =>
      exact round_next pm pn hv hq h2
    ·injection h with h; subst h
     exact round_stop (c := ⟨[(2, none)], [], []⟩) (s1 := (nspeculumref02_CheckMatrix_l0_0_e0 a0 r1956)) pm pn (ans := [.reg (.n :: []), .br true, .reg (.v (VV.ag (c_SFrac a0.A)) :: .n :: .n :: []), .reg (.n :: .call (vi r1956) :: .n :: []), .reg (.n :: .n :: []), .br true, .reg (.n :: .n :: [])]) (by kernel_rfl) (by intro e; cases e) (an (an (ti trivial) (an (an (decide_eq_true h1953) trivial) (an (an e1955 (ti (ti trivial))) (an (ti (an e1958 (ti trivial))) (an (ti (ti trivial)) (an (not_t (decide_eq_false h1959)) (an (ti (ti trivial)) trivial))))))) (ti trivial))
   ·rcases ifs h with ⟨h1960, h⟩ | ⟨h1960, h⟩
    ·have e1961 := (show (0:Int) ≤ x15 ∧ x15 < ((4 : Nat) : Int) ∧ partV (x15.toNat * 2) (some 2) [vi a0.A.Num, vi a0.A.Den, vi a0.B.Num, vi a0.B.Den, vi a0.C.Num, vi a0.C.Den, vi a0.D.Num, vi a0.D.Den] = some (VV.ag (c_SFrac a0.B)) from ⟨by have := (of_decide_eq_true (decide_eq_true h1960)); omega, by have := (of_decide_eq_true (decide_eq_true h1960)); omega, by rw [show x15 = (1 : Int) from (of_decide_eq_true (decide_eq_true h1960))]; rfl⟩)
     obtain ⟨r1962, h1963, h⟩ := bs h
     have e1964 := (nspeculumref02_CheckFrac_ok k a0.B _ h1963)
     rcases ifs h with ⟨h1965, h⟩ | ⟨h1965, h⟩
     ·have h2 := ih _ _ h
      obtain ⟨q, hv, hq⟩ := pkR (rd := none) (P := Go.Proofs.Try.prog) (fn := Go.Proofs.Try.f32) (k := 0) (s := (nspeculumref02_CheckMatrix_l0_0_h a0 x15)) (ans := [.reg (.n :: []), .br true, .reg (.v (VV.ag (c_SFrac a0.B)) :: .n :: .n :: []), .reg (.n :: .call (vi r1962) :: .n :: []), .reg (.n :: .n :: []), .br false, .reg (.n :: .n :: [])]) (c := ⟨[(14, none), (15, none)], [], []⟩) (e := .normal) (s1 := (nspeculumref02_CheckMatrix_l0_0_h a0 (w64 (x15 + 1)))) (an (an (ti trivial) (an (an (decide_eq_true h1953) trivial) (an (an (an e1961 (ti (ti trivial))) (an (ti (an e1964 (ti trivial))) (an (ti (ti trivial)) (an (not_f (decide_eq_true h1965)) trivial)))) (ti (ti trivial))))) (ti trivial)) (by kernel_rfl)
      cases r with
      | inl r => exact round_next pm pn hv hq h2
      | inr r =>
       exact round_next pm pn hv hq h2
     ·injection h with h; subst h
      exact round_stop (c := ⟨[(2, none)], [], []⟩) (s1 := (nspeculumref02_CheckMatrix_l0_0_e0 a0 r1962)) pm pn (ans := [.reg (.n :: []), .br true, .reg (.v (VV.ag (c_SFrac a0.B)) :: .n :: .n :: []), .reg (.n :: .call (vi r1962) :: .n :: []), .reg (.n :: .n :: []), .br true, .reg (.n :: .n :: [])]) (by kernel_rfl) (by intro e; cases e) (an (an (ti trivial) (an (an (decide_eq_true h1953) trivial) (an (an e1961 (ti (ti trivial))) (an (ti (an e1964 (ti trivial))) (an (ti (ti trivial)) (an (not_t (decide_eq_false h1965)) (an (ti (ti trivial)) trivial))))))) (ti trivial))
    ·rcases ifs h with ⟨h1966, h⟩ | ⟨h1966, h⟩
     ·have e1967 := (show (0:Int) ≤ x15 ∧ x15 < ((4 : Nat) : Int) ∧ partV (x15.toNat * 2) (some 2) [vi a0.A.Num, vi a0.A.Den, vi a0.B.Num, vi a0.B.Den, vi a0.C.Num, vi a0.C.Den, vi a0.D.Num, vi a0.D.Den] = some (VV.ag (c_SFrac a0.C)) from ⟨by have := (of_decide_eq_true (decide_eq_true h1966)); omega, by have := (of_decide_eq_true (decide_eq_true h1966)); omega, by rw [show x15 = (2 : Int) from (of_decide_eq_true (decide_eq_true h1966))]; rfl⟩)
      obtain ⟨r1968, h1969, h⟩ := bs h
      have e1970 := (nspeculumref02_CheckFrac_ok k a0.C _ h1969)
      rcases ifs h with ⟨h1971, h⟩ | ⟨h1971, h⟩
      ·have h2 := ih _ _ h
       obtain ⟨q, hv, hq⟩ := pkR (rd := none) (P := Go.Proofs.Try.prog) (fn := Go.Proofs.Try.f32) (k := 0) (s := (nspeculumref02_CheckMatrix_l0_0_h a0 x15)) (ans := [.reg (.n :: []), .br true, .reg (.v (VV.ag (c_SFrac a0.C)) :: .n :: .n :: []), .reg (.n :: .call (vi r1968) :: .n :: []), .reg (.n :: .n :: []), .br false, .reg (.n :: .n :: [])]) (c := ⟨[(14, none), (15, none)], [], []⟩) (e := .normal) (s1 := (nspeculumref02_CheckMatrix_l0_0_h a0 (w64 (x15 + 1)))) (an (an (ti trivial) (an (an (decide_eq_true h1953) trivial) (an (an (an e1967 (ti (ti trivial))) (an (ti (an e1970 (ti trivial))) (an (ti (ti trivial)) (an (not_f (decide_eq_true h1971)) trivial)))) (ti (ti trivial))))) (ti trivial)) (by kernel_rfl)
       cases r with
       | inl r => exact round_next pm pn hv hq h2
       | inr r =>
        exact round_next pm pn hv hq h2
      ·injection h with h; subst h
       exact round_stop (c := ⟨[(2, none)], [], []⟩) (s1 := (nspeculumref02_CheckMatrix_l0_0_e0 a0 r1968)) pm pn (ans := [.reg (.n :: []), .br true, .reg (.v (VV.ag (c_SFrac a0.C)) :: .n :: .n :: []), .reg (.n :: .call (vi r1968) :: .n :: []), .reg (.n :: .n :: []), .br true, .reg (.n :: .n :: [])]) (by kernel_rfl) (by intro e; cases e) (an (an (ti trivial) (an (an (decide_eq_true h1953) trivial) (an (an e1967 (ti (ti trivial))) (an (ti (an e1970 (ti trivial))) (an (ti (ti trivial)) (an (not_t (decide_eq_false h1971)) (an (ti (ti trivial)) trivial))))))) (ti trivial))
     ·rcases ifs h with ⟨h1972, h⟩ | ⟨h1972, h⟩
      ·have e1973 := (show (0:Int) ≤ x15 ∧ x15 < ((4 : Nat) : Int) ∧ partV (x15.toNat * 2) (some 2) [vi a0.A.Num, vi a0.A.Den, vi a0.B.Num, vi a0.B.Den, vi a0.C.Num, vi a0.C.Den, vi a0.D.Num, vi a0.D.Den] = some (VV.ag (c_SFrac a0.D)) from ⟨by have := (of_decide_eq_true (decide_eq_true h1972)); omega, by have := (of_decide_eq_true (decide_eq_true h1972)); omega, by rw [show x15 = (3 : Int) from (of_decide_eq_true (decide_eq_true h1972))]; rfl⟩)
       obtain ⟨r1974, h1975, h⟩ := bs h
       have e1976 := (nspeculumref02_CheckFrac_ok k a0.D _ h1975)
       rcases ifs h with ⟨h1977, h⟩ | ⟨h1977, h⟩
       ·have h2 := ih _ _ h
        obtain ⟨q, hv, hq⟩ := pkR (rd := none) (P := Go.Proofs.Try.prog) (fn := Go.Proofs.Try.f32) (k := 0) (s := (nspeculumref02_CheckMatrix_l0_0_h a0 x15)) (ans := [.reg (.n :: []), .br true, .reg (.v (VV.ag (c_SFrac a0.D)) :: .n :: .n :: []), .reg (.n :: .call (vi r1974) :: .n :: []), .reg (.n :: .n :: []), .br false, .reg (.n :: .n :: [])]) (c := ⟨[(14, none), (15, none)], [], []⟩) (e := .normal) (s1 := (nspeculumref02_CheckMatrix_l0_0_h a0 (w64 (x15 + 1)))) (an (an (ti trivial) (an (an (decide_eq_true h1953) trivial) (an (an (an e1973 (ti (ti trivial))) (an (ti (an e1976 (ti trivial))) (an (ti (ti trivial)) (an (not_f (decide_eq_true h1977)) trivial)))) (ti (ti trivial))))) (ti trivial)) (by kernel_rfl)
        cases r with
        | inl r => exact round_next pm pn hv hq h2
        | inr r =>
         exact round_next pm pn hv hq h2
       ·injection h with h; subst h
        exact round_stop (c := ⟨[(2, none)], [], []⟩) (s1 := (nspeculumref02_CheckMatrix_l0_0_e0 a0 r1974)) pm pn (ans := [.reg (.n :: []), .br true, .reg (.v (VV.ag (c_SFrac a0.D)) :: .n :: .n :: []), .reg (.n :: .call (vi r1974) :: .n :: []), .reg (.n :: .n :: []), .br true, .reg (.n :: .n :: [])]) (by kernel_rfl) (by intro e; cases e) (an (an (ti trivial) (an (an (decide_eq_true h1953) trivial) (an (an e1973 (ti (ti trivial))) (an (ti (an e1976 (ti trivial))) (an (ti (ti trivial)) (an (not_t (decide_eq_false h1977)) (an (ti (ti trivial)) trivial))))))) (ti trivial))
      ·cases h
  ·injection h with h; subst h
   exact round_stop (c := ⟨[], [], []⟩) (s1 := (nspeculumref02_CheckMatrix_l0_0_e1 a0 ())) pm pn (ans := [.reg (.n :: []), .br false]) (by kernel_rfl) (by intro e; cases e) (an (an (ti trivial) (an (decide_eq_false h1953) trivial)) (ti trivial))
def nspeculumref02_CheckMatrix (k : Nat) (a0 : SMatrix) : Option Int :=
  (nspeculumref02_CheckMatrix_l0_0 k a0 k 0).bind fun r1979 => (match r1979 with | .inl r1980 => (some r1980) | .inr r1981 => (some 0))
theorem nspeculumref02_CheckMatrix_ok (k : Nat) (a0 : SMatrix) (r : Int) (h : nspeculumref02_CheckMatrix k a0 = some r) : VC Go.Proofs.Try.prog 32 [VV.ag (c_SMatrix a0)] (vi r) := by
 unfold nspeculumref02_CheckMatrix at h
 have e1922 := (ti (ti (ti (ti (ti (ti (ti (ti (ti (ti trivial))))))))))
 obtain ⟨r1979, h1978, h⟩ := bs h
 have hph1978 := nspeculumref02_CheckMatrix_l0_0_ok k a0 _ _ _ h1978
 cases r1979 with
 | inl r1980 =>
  dsimp only at h
  have e1982 := (an (ti trivial) (VRun.loop hph1978))
  injection h with h; subst h
  exact fun_ok pm pn Go.Proofs.Try.func32 (r0 := vi r1980) (ans := [.reg (.n :: .n :: []), .reg (nN 10 []), .sub ⟨[(14, none), (15, none)], [], []⟩ .ret (nspeculumref02_CheckMatrix_l0_0_e0 a0 r1980)]) (fr := true) (by kernel_rfl) (an (an (ti (ti trivial)) (an e1922 e1982)) (ti trivial)) (Wv.refl _)
 | inr r1981 =>
  dsimp only at h
  have e1983 := (an (ti trivial) (VRun.loop hph1978))
  injection h with h; subst h
  exact fun_ok pm pn Go.Proofs.Try.func32 (r0 := vi 0) (ans := [.reg (.n :: .n :: []), .reg (nN 10 []), .sub ⟨[(14, none), (15, none)], [], []⟩ (.exit 0) (nspeculumref02_CheckMatrix_l0_0_e1 a0 r1981), .reg (.n :: [])]) (fr := true) (by kernel_rfl) (an (an (ti (ti trivial)) (an (an e1922 e1983) (an (ti trivial) trivial))) (ti trivial)) (Wv.refl _)
theorem eqWF_0 (z0 : Int) : VV.ag [vi z0, vi 1] = VV.ag (c_SFrac (⟨z0, 1⟩ : SFrac)) := by first | rfl | (simp only [unfr_vi, List.map_cons, List.map_nil, un_i, unfr_c_SFrac]; done) | (simp only [unfr_vi, List.map_cons, List.map_nil, un_i, unfr_c_SFrac]; rfl) | (simp only [unfr_vi, List.map_cons, List.map_nil, un_i, unfr_c_SFrac, c_SFrac, List.length_cons, List.length_nil, List.length_append]; done)
def nspeculumref02_Whole (k : Nat) (a0 : Int) : Option SFrac :=
  some (⟨a0, 1⟩ : SFrac)
theorem nspeculumref02_Whole_ok (k : Nat) (a0 : Int) (r : SFrac) (h : nspeculumref02_Whole k a0 = some r) : VC Go.Proofs.Try.prog 59 [vi a0] (VV.ag (c_SFrac r)) := by
 unfold nspeculumref02_Whole at h
 injection h with h; subst h
 exact fun_ok pm pn Go.Proofs.Try.func59 (r0 := VV.ag [vi a0, vi 1]) (ans := [.reg (.n :: []), .reg (nN 3 [])]) (fr := true) (by kernel_rfl) (an (an (ti trivial) (an (ti (ti (ti trivial))) trivial)) (an (ti (ti (ti trivial))) trivial)) (Wv.of_eq (eqWF_0 a0))
theorem eqWF_1 (z0 : SFrac) : VV.ag [vi (w64 (0 - z0.Num)), vi z0.Den] = VV.ag (c_SFrac (⟨w64 (0 - z0.Num), z0.Den⟩ : SFrac)) := by first | rfl | (simp only [unfr_vi, List.map_cons, List.map_nil, un_i, unfr_c_SFrac]; done) | (simp only [unfr_vi, List.map_cons, List.map_nil, un_i, unfr_c_SFrac]; rfl) | (simp only [unfr_vi, List.map_cons, List.map_nil, un_i, unfr_c_SFrac, c_SFrac, List.length_cons, List.length_nil, List.length_append]; done)
def nspeculumref02_opposite (k : Nat) (a0 : SFrac) : Option SFrac :=
  some (⟨w64 (0 - a0.Num), a0.Den⟩ : SFrac)
theorem nspeculumref02_opposite_ok (k : Nat) (a0 : SFrac) (r : SFrac) (h : nspeculumref02_opposite k a0 = some r) : VC Go.Proofs.Try.prog 85 [VV.ag (c_SFrac a0)] (VV.ag (c_SFrac r)) := by
 unfold nspeculumref02_opposite at h
 injection h with h; subst h
 exact fun_ok pm pn Go.Proofs.Try.func85 (r0 := VV.ag [vi (w64 (0 - a0.Num)), vi a0.Den]) (ans := [.reg (.n :: .n :: []), .reg (nN 7 [])]) (fr := true) (by kernel_rfl) (an (an (ti (ti trivial)) (an (ti (ti (ti (ti (ti (ti (ti trivial))))))) trivial)) (an (ti (ti (ti trivial))) trivial)) (Wv.of_eq (eqWF_1 a0))
theorem eqWF_2  : ([⟨true, bigH, [vb ((⟨false⟩ : SWay).Large)]⟩] : List Blk) = ([⟨true, bigH, [vb false]⟩] : List Blk) := by first | rfl | (simp only [unfr_vb, List.map_cons, List.map_nil, un_b]; done) | (simp only [unfr_vb, List.map_cons, List.map_nil, un_b]; rfl) | (simp only [unfr_vb, List.map_cons, List.map_nil, un_b, List.length_cons, List.length_nil, List.length_append]; done)
theorem eqWF_3  : VV.tu [VV.ag [vi 0, vi 0], vi 8] = VV.tu [VV.ag (c_SFrac (⟨0, 0⟩ : SFrac)), vi 8] := by first | rfl | (simp only [unfr_vi, List.map_cons, List.map_nil, un_i, unfr_c_SFrac]; done) | (simp only [unfr_vi, List.map_cons, List.map_nil, un_i, unfr_c_SFrac]; rfl) | (simp only [unfr_vi, List.map_cons, List.map_nil, un_i, unfr_c_SFrac, c_SFrac, List.length_cons, List.length_nil, List.length_append]; done)
def nspeculumref02_fraction (k : Nat) (a0 : SFrac) (a1 : SWay) : Option (SFrac × Int) :=
  if a1.Large = true then (some ((⟨0, 0⟩ : SFrac), 8)) else (some (a0, 0))
theorem nspeculumref02_fraction_ok (k : Nat) (a0 : SFrac) (a1 : SWay) (r : (SFrac × Int)) (h : nspeculumref02_fraction k a0 a1 = some r) : VC Go.Proofs.Try.prog 86 [VV.ag (c_SFrac a0), VV.ag (c_SWay a1)] (VV.tu [VV.ag (c_SFrac r.1), vi r.2]) := by
 unfold nspeculumref02_fraction at h
 rcases ifs h with ⟨h1999, h⟩ | ⟨h1999, h⟩
 ·injection h with h; subst h
  exact fun_ok pm pn Go.Proofs.Try.func86 (r0 := VV.tu [VV.ag [vi 0, vi 0], vi 8]) (ans := [.reg (nN 4 []), .reg (.n :: .n :: []), .br true, .reg (nN 3 [])]) (fr := true) (by kernel_rfl) (an (an (ti (ti (ti (ti trivial)))) (an (ti (ti trivial)) (an h1999 (an (ti (ti (ti trivial))) trivial)))) (an (ti (ti (ti trivial))) (ti trivial))) (Wv.of_eq eqWF_3)
 ·injection h with h; subst h
  exact fun_ok pm pn Go.Proofs.Try.func86 (r0 := VV.tu [VV.ag (c_SFrac a0), vi 0]) (ans := [.reg (nN 4 []), .reg (.n :: .n :: []), .br false, .reg (nN 3 [])]) (fr := true) (by kernel_rfl) (an (an (ti (ti (ti (ti trivial)))) (an (an (ti (ti trivial)) (an (bool_f h1999) trivial)) (an (ti (ti (ti trivial))) trivial))) (an (ti (ti (ti trivial))) (ti trivial))) (Wv.refl _)
theorem eqWF_4  : VV.tu [VV.ag [vi 0, vi 0], vi 11] = VV.tu [VV.ag (c_SFrac (⟨0, 0⟩ : SFrac)), vi 11] := by first | rfl | (simp only [unfr_vi, List.map_cons, List.map_nil, un_i, unfr_c_SFrac]; done) | (simp only [unfr_vi, List.map_cons, List.map_nil, un_i, unfr_c_SFrac]; rfl) | (simp only [unfr_vi, List.map_cons, List.map_nil, un_i, unfr_c_SFrac, c_SFrac, List.length_cons, List.length_nil, List.length_append]; done)
def arWF_0 (z0 : SFrac) (z1 : (SFrac × SWay)) : List Ans := (.n :: .call (VV.ag (c_SFrac z0)) :: .n :: .n :: .mod1 3 (VV.ag (c_SFrac z1.1)) ⟨true, bigH, [vb z1.2.Large]⟩ :: .n :: .n :: [])
def nspeculumref02_by (k : Nat) (a0 : SFrac) (a1 : SMatrix) : Option (SFrac × Int) :=
  if a1.C.Num = 0 then (some ((⟨0, 0⟩ : SFrac), 11)) else ((nspeculumref02_opposite k a0).bind fun r2004 => ((n_speculumref02_Way_Quo k (⟨false⟩ : SWay) r2004 a1.C).bind fun r2007 => ((nspeculumref02_fraction k r2007.1 r2007.2).bind fun r2011 => (some (r2011.1, r2011.2)))))
theorem nspeculumref02_by_ok (k : Nat) (a0 : SFrac) (a1 : SMatrix) (r : (SFrac × Int)) (h : nspeculumref02_by k a0 a1 = some r) : VC Go.Proofs.Try.prog 58 [VV.ag (c_SFrac a0), VV.ag (c_SMatrix a1)] (VV.tu [VV.ag (c_SFrac r.1), vi r.2]) := by
 unfold nspeculumref02_by at h
 rcases ifs h with ⟨h2003, h⟩ | ⟨h2003, h⟩
 ·injection h with h; subst h
  exact fun_ok pm pn Go.Proofs.Try.func58 (r0 := VV.tu [VV.ag [vi 0, vi 0], vi 11]) (ans := [.reg (nN 4 []), .reg (nN 4 []), .br true, .reg (nN 3 [])]) (fr := true) (by kernel_rfl) (an (an (ti (ti (ti (ti trivial)))) (an (ti (ti (ti (ti trivial)))) (an (decide_eq_true h2003) (an (ti (ti (ti trivial))) trivial)))) (an (ti (ti (ti trivial))) (ti trivial))) (Wv.of_eq eqWF_4)
 ·obtain ⟨r2004, h2005, h⟩ := bs h
  have e2006 := (nspeculumref02_opposite_ok k a0 _ h2005)
  obtain ⟨r2007, h2008, h⟩ := bs h
  have e2009 := (an (VM.args (n_speculumref02_Way_Quo_ok k (⟨false⟩ : SWay) r2004 a1.C _ h2008) rfl eqWF_2 rfl) (an (ti trivial) (ti trivial)))
  have e2010 := (ti (an e2006 (ti (ti (an e2009 (ti (ti trivial)))))))
  obtain ⟨r2011, h2012, h⟩ := bs h
  have e2013 := (nspeculumref02_fraction_ok k r2007.1 r2007.2 _ h2012)
  injection h with h; subst h
  exact fun_ok pm pn Go.Proofs.Try.func58 (r0 := VV.tu [VV.ag (c_SFrac r2011.1), vi r2011.2]) (ans := [.reg (nN 4 []), .reg (nN 4 []), .br false, .reg (.n :: []), .reg (arWF_0 r2004 r2007), .reg (.n :: .n :: .call (VV.tu [VV.ag (c_SFrac r2011.1), vi r2011.2]) :: nN 4 [])]) (fr := true) (by kernel_rfl) (an (an (ti (ti (ti (ti trivial)))) (an (an (ti (ti (ti (ti trivial)))) (an (decide_eq_false h2003) trivial)) (an (ti trivial) (an e2010 (an (ti (ti (an e2013 (ti (ti (ti (ti trivial))))))) trivial))))) (an (ti (ti (ti trivial))) (ti trivial))) (Wv.refl _)
def arWF_1 (z0 : SFrac) (z1 : (SFrac × Int)) : List Ans := (.call (VV.ag (c_SFrac z0)) :: .n :: .call (VV.tu [VV.ag (c_SFrac z1.1), vi z1.2]) :: nN 4 [])
def nspeculumref02_Focal (k : Nat) (a0 : SMatrix) : Option (SFrac × Int) :=
  (nspeculumref02_Whole k 1).bind fun r2018 => ((nspeculumref02_by k r2018 a0).bind fun r2020 => (some (r2020.1, r2020.2)))
theorem nspeculumref02_Focal_ok (k : Nat) (a0 : SMatrix) (r : (SFrac × Int)) (h : nspeculumref02_Focal k a0 = some r) : VC Go.Proofs.Try.prog 33 [VV.ag (c_SMatrix a0)] (VV.tu [VV.ag (c_SFrac r.1), vi r.2]) := by
 unfold nspeculumref02_Focal at h
 obtain ⟨r2018, h2019, h⟩ := bs h
 obtain ⟨r2020, h2021, h⟩ := bs h
 have e2022 := (nspeculumref02_by_ok k r2018 a0 _ h2021)
 have e2023 := (an (nspeculumref02_Whole_ok k 1 _ h2019) (ti (an e2022 (ti (ti (ti (ti trivial)))))))
 injection h with h; subst h
 exact fun_ok pm pn Go.Proofs.Try.func33 (r0 := VV.tu [VV.ag (c_SFrac r2020.1), vi r2020.2]) (ans := [.reg (nN 3 []), .reg (arWF_1 r2018 r2020)]) (fr := true) (by kernel_rfl) (an (an (ti (ti (ti trivial))) (an e2023 trivial)) (an (ti (ti (ti trivial))) (ti trivial))) (Wv.refl _)
def nspeculumref02_BackFocus (k : Nat) (a0 : SMatrix) : Option (SFrac × Int) :=
  (nspeculumref02_by k a0.A a0).bind fun r2031 => (some (r2031.1, r2031.2))
theorem nspeculumref02_BackFocus_ok (k : Nat) (a0 : SMatrix) (r : (SFrac × Int)) (h : nspeculumref02_BackFocus k a0 = some r) : VC Go.Proofs.Try.prog 34 [VV.ag (c_SMatrix a0)] (VV.tu [VV.ag (c_SFrac r.1), vi r.2]) := by
 unfold nspeculumref02_BackFocus at h
 obtain ⟨r2031, h2032, h⟩ := bs h
 have e2033 := (nspeculumref02_by_ok k a0.A a0 _ h2032)
 have e2034 := (ti (ti (ti (an e2033 (ti (ti (ti (ti trivial))))))))
 injection h with h; subst h
 exact fun_ok pm pn Go.Proofs.Try.func34 (r0 := VV.tu [VV.ag (c_SFrac r2031.1), vi r2031.2]) (ans := [.reg (nN 3 []), .reg (nN 3 (.call (VV.tu [VV.ag (c_SFrac r2031.1), vi r2031.2]) :: nN 4 []))]) (fr := true) (by kernel_rfl) (an (an (ti (ti (ti trivial))) (an e2034 trivial)) (an (ti (ti (ti trivial))) (ti trivial))) (Wv.refl _)
def arWF_2 (z0 : (List SElement)) (z1 : Int) (z2 : Bool) : List Ans := (nN 4 (.v (vi ((z0.getD z1.toNat default).Size)) :: .call (vb z2) :: nN 6 (.v (vi ((z0.getD z1.toNat default).Kind)) :: nN 6 (.v (vi ((z0.getD z1.toNat default).Size)) :: .n :: .b true :: .b false :: .n :: nS 14 (.b true :: [])))))
def arWF_3 (z0 : (List SElement)) (z1 : Int) (z2 : Bool) : List Ans := (nN 4 (.v (vi ((z0.getD z1.toNat default).Size)) :: .call (vb z2) :: nN 6 (.v (vi ((z0.getD z1.toNat default).Kind)) :: nN 6 (.v (vi ((z0.getD z1.toNat default).Size)) :: .n :: .b true :: .b false :: nN 5 (.v (vi ((z0.getD z1.toNat default).Kind)) :: .n :: .n :: nS 6 (.b false :: .b false :: []))))))
def arWF_4 (z0 : (List SElement)) (z1 : Int) (z2 : Bool) : List Ans := (nN 4 (.v (vi ((z0.getD z1.toNat default).Size)) :: .call (vb z2) :: nN 6 (.v (vi ((z0.getD z1.toNat default).Kind)) :: .n :: .n :: nS 6 (.b false :: .b false :: nN 5 (.v (vi ((z0.getD z1.toNat default).Kind)) :: nN 6 (.v (vi ((z0.getD z1.toNat default).Size)) :: .n :: .b true :: .b false :: []))))))
def arWF_5 (z0 : (List SElement)) (z1 : Int) (z2 : Bool) : List Ans := (nN 4 (.v (vi ((z0.getD z1.toNat default).Size)) :: .call (vb z2) :: .n :: .n :: nS 14 (.b true :: .n :: nS 14 (.b true :: []))))
def nspeculumref02_CheckElements_l0_0_h (a0 : (List SElement)) (x3 : Int) : VS := ⟨mkA [(0, VV.tr (List.flatMap c_SElement a0) a0.length), (3, vi x3)], [], .nil⟩
def nspeculumref02_CheckElements_l0_0_e0 (a0 : (List SElement)) (r : Int) : VS := ⟨mkA [(2, vi r)], [], .nil⟩
def nspeculumref02_CheckElements_l0_0_e1 (a0 : (List SElement)) (r : Unit) : VS := ⟨mkA [], [], .nil⟩
def nspeculumref02_CheckElements_l0_0 (k : Nat) (a0 : (List SElement)) : Nat → Int → Option (Sum Int Unit)
  | 0, _ => none
  | fuel + 1, x3 => if x3 < (a0.length : Int) then (if 0 ≤ x3 ∧ x3 < (a0.length : Int) then ((nspeculumbase_Within k ((a0.getD x3.toNat default).Kind) 1 3).bind fun r2236 => (if r2236 = true then ((nspeculumbase_Within k ((a0.getD x3.toNat default).Size) (-10000000) 10000000).bind fun r2242 => (if r2242 = true then (if ((a0.getD x3.toNat default).Kind) = 1 then (if ((a0.getD x3.toNat default).Size) < 0 then (some (.inl 2)) else (nspeculumref02_CheckElements_l0_0 k a0 fuel (w64 (x3 + 1)))) else (if ((a0.getD x3.toNat default).Size) = 0 then (some (.inl 2)) else (nspeculumref02_CheckElements_l0_0 k a0 fuel (w64 (x3 + 1))))) else (some (.inl 2)))) else (some (.inl 15)))) else none) else (some (.inr ()))
theorem nspeculumref02_CheckElements_l0_0_ok (k : Nat) (a0 : (List SElement)) : ∀ (fuel : Nat) (x3 : Int) (r : Sum Int Unit), nspeculumref02_CheckElements_l0_0 k a0 fuel x3 = some r → (match r with | .inl r => VLoop none Go.Proofs.Try.prog (szF Go.Proofs.Try.f65) (bodyOf Go.Proofs.Try.f65 0) (nspeculumref02_CheckElements_l0_0_h a0 x3) .ret (nspeculumref02_CheckElements_l0_0_e0 a0 r) | .inr r => VLoop none Go.Proofs.Try.prog (szF Go.Proofs.Try.f65) (bodyOf Go.Proofs.Try.f65 0) (nspeculumref02_CheckElements_l0_0_h a0 x3) (.exit 0) (nspeculumref02_CheckElements_l0_0_e1 a0 r)) := by
 intro fuel
 induction fuel with
 | zero => intro x3 r h; rw [nspeculumref02_CheckElements_l0_0.eq_1] at h; cases h
 | succ fuel ih =>
  intro x3 r h
  rw [nspeculumref02_CheckElements_l0_0.eq_2] at h
  rcases ifs h with ⟨h2233, h⟩ | ⟨h2233, h⟩
  ·obtain ⟨h2234, h⟩ := ifn h
   have e2235 := (show loadL Go.Proofs.Try.prog 3 (x3.toNat * 2 + 0) (List.flatMap c_SElement a0) = some (vi ((a0.getD x3.toNat default).Kind)) from (ld_flat ag3 c_SElement 2 0 len_c_SElement (by omega) a0 default h2234 (by omega)).trans rfl)
   obtain ⟨r2236, h2237, h⟩ := bs h
   have e2238 := (nspeculumbase_Within_ok k ((a0.getD x3.toNat default).Kind) 1 3 _ h2237)
   have e2239 := (ti (ti (an h2234 (ti (an e2235 (an e2238 (ti trivial)))))))
   rcases ifs h with ⟨h2240, h⟩ | ⟨h2240, h⟩
   ·have e2241 := (show loadL Go.Proofs.Try.prog 3 (x3.toNat * 2 + 1) (List.flatMap c_SElement a0) = some (vi ((a0.getD x3.toNat default).Size)) from (ld_flat ag3 c_SElement 2 1 len_c_SElement (by omega) a0 default h2234 (by omega)).trans rfl)
    obtain ⟨r2242, h2243, h⟩ := bs h
    have e2244 := (nspeculumbase_Within_ok k ((a0.getD x3.toNat default).Size) (-10000000) 10000000 _ h2243)
    rcases ifs h with ⟨h2245, h⟩ | ⟨h2245, h⟩
    ·have e2246 := (an (not_f h2245) (show loadL Go.Proofs.Try.prog 3 (x3.toNat * 2 + 0) (List.flatMap c_SElement a0) = some (vi ((a0.getD x3.toNat default).Kind)) from (ld_flat ag3 c_SElement 2 0 len_c_SElement (by omega) a0 default h2234 (by omega)).trans rfl))
     rcases ifs h with ⟨h2247, h⟩ | ⟨h2247, h⟩
     ·have e2248 := (an (decide_eq_true h2247) (show loadL Go.Proofs.Try.prog 3 (x3.toNat * 2 + 1) (List.flatMap c_SElement a0) = some (vi ((a0.getD x3.toNat default).Size)) from (ld_flat ag3 c_SElement 2 1 len_c_SElement (by omega) a0 default h2234 (by omega)).trans rfl))
      have e2249 := (an (not_f h2245) (decide_eq_true h2247))
      rcases ifs h with ⟨h2250, h⟩ | ⟨h2250, h⟩
      ·have e2251 := (ti (ti (an h2234 (ti (an e2241 (an e2244 (ti (ti (an (an (not_f h2245) trivial) (an (an (not_f h2245) trivial) (an (an (not_f h2245) h2234) (an (an (not_f h2245) trivial) (an e2246 (an (an (not_f h2245) trivial) (an (an (not_f h2245) trivial) (an (an (decide_eq_true h2247) trivial) (an (an (decide_eq_true h2247) trivial) (an (an (decide_eq_true h2247) h2234) (an (an (decide_eq_true h2247) trivial) (an e2248 (an (an (decide_eq_true h2247) trivial) (an e2249 (an (not_f h2245) (ti (an (decide_eq_true h2250) (an (decide_eq_true h2250) (an (decide_eq_true h2250) (an (decide_eq_true h2250) (an (decide_eq_true h2250) (an (decide_eq_true h2250) (an (decide_eq_true h2250) (ti (ti (ti (ti (ti (ti (an (decide_eq_true h2250) (an (decide_eq_true h2250) trivial)))))))))))))))))))))))))))))))))))))))
       injection h with h; subst h
       exact round_stop (c := ⟨[(2, none)], [], []⟩) (s1 := (nspeculumref02_CheckElements_l0_0_e0 a0 2)) pm pn (ans := [.reg (nN 4 []), .br true, .reg (nN 4 (.v (vi ((a0.getD x3.toNat default).Kind)) :: .call (vb r2236) :: .n :: [])), .br false, .reg (arWF_2 a0 x3 r2242), .br true, .reg (.n :: [])]) (by kernel_rfl) (by intro e; cases e) (an (an (an (ti (ti (ti (ti trivial)))) (an (decide_eq_true h2233) trivial)) (an (an e2239 (an (not_f h2240) trivial)) (an e2251 (an rt (an (ti trivial) trivial))))) (ti trivial))
      ·have e2252 := (an (decide_eq_false h2250) (show loadL Go.Proofs.Try.prog 3 (x3.toNat * 2 + 0) (List.flatMap c_SElement a0) = some (vi ((a0.getD x3.toNat default).Kind)) from (ld_flat ag3 c_SElement 2 0 len_c_SElement (by omega) a0 default h2234 (by omega)).trans rfl))
       have e2253 := (an (decide_eq_false h2250) (not_f (decide_eq_true h2247)))
       have e2254 := (ti (ti (an h2234 (ti (an e2241 (an e2244 (ti (ti (an (an (not_f h2245) trivial) (an (an (not_f h2245) trivial) (an (an (not_f h2245) h2234) (an (an (not_f h2245) trivial) (an e2246 (an (an (not_f h2245) trivial) (an (an (not_f h2245) trivial) (an (an (decide_eq_true h2247) trivial) (an (an (decide_eq_true h2247) trivial) (an (an (decide_eq_true h2247) h2234) (an (an (decide_eq_true h2247) trivial) (an e2248 (an (an (decide_eq_true h2247) trivial) (an e2249 (an (not_f h2245) (ti (an (an (decide_eq_false h2250) trivial) (an (an (decide_eq_false h2250) trivial) (an (an (decide_eq_false h2250) h2234) (an (an (decide_eq_false h2250) trivial) (an e2252 (an (an (decide_eq_false h2250) trivial) (an (an (decide_eq_false h2250) trivial) (an (not_f (decide_eq_true h2247)) (an (not_f (decide_eq_true h2247)) (an (not_f (decide_eq_true h2247)) (an (not_f (decide_eq_true h2247)) (an (not_f (decide_eq_true h2247)) (an (not_f (decide_eq_true h2247)) (an e2253 (an (decide_eq_false h2250) trivial)))))))))))))))))))))))))))))))))))))))
       have h2 := ih _ _ h
       obtain ⟨q, hv, hq⟩ := pkR (rd := none) (P := Go.Proofs.Try.prog) (fn := Go.Proofs.Try.f65) (k := 0) (s := (nspeculumref02_CheckElements_l0_0_h a0 x3)) (ans := [.reg (nN 4 []), .br true, .reg (nN 4 (.v (vi ((a0.getD x3.toNat default).Kind)) :: .call (vb r2236) :: .n :: [])), .br false, .reg (arWF_3 a0 x3 r2242), .br false, .reg (nN 3 [])]) (c := ⟨[(0, none), (3, none)], [], []⟩) (e := .normal) (s1 := (nspeculumref02_CheckElements_l0_0_h a0 (w64 (x3 + 1)))) (an (an (an (ti (ti (ti (ti trivial)))) (an (decide_eq_true h2233) trivial)) (an (an (an e2239 (an (not_f h2240) trivial)) (an e2254 (an rf trivial))) (ti (ti (ti trivial))))) (ti trivial)) (by kernel_rfl)
       cases r with
       | inl r => exact round_next pm pn hv hq h2
       | inr r =>
        exact round_next pm pn hv hq h2
     ·have e2255 := (an (not_f h2245) (decide_eq_false h2247))
      have e2256 := (an rf (show loadL Go.Proofs.Try.prog 3 (x3.toNat * 2 + 0) (List.flatMap c_SElement a0) = some (vi ((a0.getD x3.toNat default).Kind)) from (ld_flat ag3 c_SElement 2 0 len_c_SElement (by omega) a0 default h2234 (by omega)).trans rfl))
      have e2257 := (an (not_t (decide_eq_false h2247)) trivial)
      have e2258 := (an (not_t (decide_eq_false h2247)) trivial)
      have e2259 := (an (not_t (decide_eq_false h2247)) h2234)
      have e2260 := (an (not_t (decide_eq_false h2247)) trivial)
      have e2261 := (an (not_t (decide_eq_false h2247)) (show loadL Go.Proofs.Try.prog 3 (x3.toNat * 2 + 1) (List.flatMap c_SElement a0) = some (vi ((a0.getD x3.toNat default).Size)) from (ld_flat ag3 c_SElement 2 1 len_c_SElement (by omega) a0 default h2234 (by omega)).trans rfl))
      have e2262 := (an (not_t (decide_eq_false h2247)) trivial)
      have e2263 := (ti (ti (an h2234 (ti (an e2241 (an e2244 (ti (ti (an (an (not_f h2245) trivial) (an (an (not_f h2245) trivial) (an (an (not_f h2245) h2234) (an (an (not_f h2245) trivial) (an e2246 (an (an (not_f h2245) trivial) (an (an (not_f h2245) trivial) (an (decide_eq_false h2247) (an (decide_eq_false h2247) (an (decide_eq_false h2247) (an (decide_eq_false h2247) (an (decide_eq_false h2247) (an (decide_eq_false h2247) (an e2255 (an (not_f h2245) (ti (an (an rf trivial) (an (an rf trivial) (an (an rf h2234) (an (an rf trivial) (an e2256 (an (an rf trivial) (an (an rf trivial) (an e2257 (an e2258 (an e2259 (an e2260 (an e2261 (an e2262 (an (an rf (not_t (decide_eq_false h2247))) (an rf trivial)))))))))))))))))))))))))))))))))))))))
      rcases ifs h with ⟨h2264, h⟩ | ⟨h2264, h⟩
      ·injection h with h; subst h
       exact round_stop (c := ⟨[(2, none)], [], []⟩) (s1 := (nspeculumref02_CheckElements_l0_0_e0 a0 2)) pm pn (ans := [.reg (nN 4 []), .br true, .reg (nN 4 (.v (vi ((a0.getD x3.toNat default).Kind)) :: .call (vb r2236) :: .n :: [])), .br false, .reg (arWF_4 a0 x3 r2242), .br true, .reg (.n :: [])]) (by kernel_rfl) (by intro e; cases e) (an (an (an (ti (ti (ti (ti trivial)))) (an (decide_eq_true h2233) trivial)) (an (an e2239 (an (not_f h2240) trivial)) (an e2263 (an (decide_eq_true h2264) (an (ti trivial) trivial))))) (ti trivial))
      ·have h2 := ih _ _ h
       obtain ⟨q, hv, hq⟩ := pkR (rd := none) (P := Go.Proofs.Try.prog) (fn := Go.Proofs.Try.f65) (k := 0) (s := (nspeculumref02_CheckElements_l0_0_h a0 x3)) (ans := [.reg (nN 4 []), .br true, .reg (nN 4 (.v (vi ((a0.getD x3.toNat default).Kind)) :: .call (vb r2236) :: .n :: [])), .br false, .reg (arWF_4 a0 x3 r2242), .br false, .reg (nN 3 [])]) (c := ⟨[(0, none), (3, none)], [], []⟩) (e := .normal) (s1 := (nspeculumref02_CheckElements_l0_0_h a0 (w64 (x3 + 1)))) (an (an (an (ti (ti (ti (ti trivial)))) (an (decide_eq_true h2233) trivial)) (an (an (an e2239 (an (not_f h2240) trivial)) (an e2263 (an (decide_eq_false h2264) trivial))) (ti (ti (ti trivial))))) (ti trivial)) (by kernel_rfl)
       cases r with
       | inl r => exact round_next pm pn hv hq h2
       | inr r =>
        exact round_next pm pn hv hq h2
    ·have e2265 := (ti (ti (an h2234 (ti (an e2241 (an e2244 (ti (ti (an (not_t (bool_f h2245)) (an (not_t (bool_f h2245)) (an (not_t (bool_f h2245)) (an (not_t (bool_f h2245)) (an (not_t (bool_f h2245)) (an (not_t (bool_f h2245)) (an (not_t (bool_f h2245)) (ti (ti (ti (ti (ti (ti (an (not_t (bool_f h2245)) (an (not_t (bool_f h2245)) (ti (an rt (an rt (an rt (an rt (an rt (an rt (an rt (ti (ti (ti (ti (ti (ti (an rt (an rt trivial)))))))))))))))))))))))))))))))))))))))
     injection h with h; subst h
     exact round_stop (c := ⟨[(2, none)], [], []⟩) (s1 := (nspeculumref02_CheckElements_l0_0_e0 a0 2)) pm pn (ans := [.reg (nN 4 []), .br true, .reg (nN 4 (.v (vi ((a0.getD x3.toNat default).Kind)) :: .call (vb r2236) :: .n :: [])), .br false, .reg (arWF_5 a0 x3 r2242), .br true, .reg (.n :: [])]) (by kernel_rfl) (by intro e; cases e) (an (an (an (ti (ti (ti (ti trivial)))) (an (decide_eq_true h2233) trivial)) (an (an e2239 (an (not_f h2240) trivial)) (an e2265 (an rt (an (ti trivial) trivial))))) (ti trivial))
   ·injection h with h; subst h
    exact round_stop (c := ⟨[(2, none)], [], []⟩) (s1 := (nspeculumref02_CheckElements_l0_0_e0 a0 15)) pm pn (ans := [.reg (nN 4 []), .br true, .reg (nN 4 (.v (vi ((a0.getD x3.toNat default).Kind)) :: .call (vb r2236) :: .n :: [])), .br true, .reg (.n :: [])]) (by kernel_rfl) (by intro e; cases e) (an (an (an (ti (ti (ti (ti trivial)))) (an (decide_eq_true h2233) trivial)) (an e2239 (an (not_t (bool_f h2240)) (an (ti trivial) trivial)))) (ti trivial))
  ·injection h with h; subst h
   exact round_stop (c := ⟨[], [], []⟩) (s1 := (nspeculumref02_CheckElements_l0_0_e1 a0 ())) pm pn (ans := [.reg (nN 4 []), .br false]) (by kernel_rfl) (by intro e; cases e) (an (an (ti (ti (ti (ti trivial)))) (an (decide_eq_false h2233) trivial)) (ti trivial))
def nspeculumref02_CheckElements (k : Nat) (a0 : (List SElement)) : Option Int :=
  if 20 < (a0.length : Int) then (some 8) else ((nspeculumref02_CheckElements_l0_0 k a0 k 0).bind fun r2267 => (match r2267 with | .inl r2268 => (some r2268) | .inr r2269 => (some 0)))
theorem nspeculumref02_CheckElements_ok (k : Nat) (a0 : (List SElement)) (r : Int) (h : nspeculumref02_CheckElements k a0 = some r) : VC Go.Proofs.Try.prog 65 [VV.tr (List.flatMap c_SElement a0) a0.length] (vi r) := by
 unfold nspeculumref02_CheckElements at h
 rcases ifs h with ⟨h2166, h⟩ | ⟨h2166, h⟩
 ·injection h with h; subst h
  exact fun_ok pm pn Go.Proofs.Try.func65 (r0 := vi 8) (ans := [.reg (.n :: []), .reg (nN 3 []), .br true, .reg (.n :: [])]) (fr := true) (by kernel_rfl) (an (an (ti trivial) (an (ti (ti (ti trivial))) (an (decide_eq_true h2166) (an (ti trivial) trivial)))) (ti trivial)) (Wv.refl _)
 ·obtain ⟨r2267, h2266, h⟩ := bs h
  have hph2266 := nspeculumref02_CheckElements_l0_0_ok k a0 _ _ _ h2266
  cases r2267 with
  | inl r2268 =>
   dsimp only at h
   have e2270 := (an (ti trivial) (VRun.loop hph2266))
   injection h with h; subst h
   exact fun_ok pm pn Go.Proofs.Try.func65 (r0 := vi r2268) (ans := [.reg (.n :: []), .reg (nN 3 []), .br false, .reg (.n :: []), .sub ⟨[(0, none), (3, none)], [], []⟩ .ret (nspeculumref02_CheckElements_l0_0_e0 a0 r2268)]) (fr := true) (by kernel_rfl) (an (an (ti trivial) (an (an (ti (ti (ti trivial))) (an (decide_eq_false h2166) trivial)) (an (ti trivial) e2270))) (ti trivial)) (Wv.refl _)
  | inr r2269 =>
   dsimp only at h
   have e2271 := (an (ti trivial) (VRun.loop hph2266))
   injection h with h; subst h
   exact fun_ok pm pn Go.Proofs.Try.func65 (r0 := vi 0) (ans := [.reg (.n :: []), .reg (nN 3 []), .br false, .reg (.n :: []), .sub ⟨[(0, none), (3, none)], [], []⟩ (.exit 0) (nspeculumref02_CheckElements_l0_0_e1 a0 r2269), .reg (.n :: [])]) (fr := true) (by kernel_rfl) (an (an (ti trivial) (an (an (ti (ti (ti trivial))) (an (decide_eq_false h2166) trivial)) (an (an (ti trivial) e2271) (an (ti trivial) trivial)))) (ti trivial)) (Wv.refl _)
theorem eqWF_5 (z0 : Int) (z1 : Int) (z2 : Int) : [VV.tr (List.flatMap c_SElement ([(⟨2, z0⟩ : SElement), (⟨1, z1⟩ : SElement), (⟨2, z2⟩ : SElement)] : List SElement)) (([(⟨2, z0⟩ : SElement), (⟨1, z1⟩ : SElement), (⟨2, z2⟩ : SElement)] : List SElement).length)] = [VV.tr (List.drop 0 (List.map unfr [vi 2, vi z0, vi 1, vi z1, vi 2, vi z2])) 3] := by first | rfl | (simp only [drop0, unfr_vi, List.map_cons, List.map_nil, un_i, un_tr, List.length_map, List.length_cons, List.length_nil, unfr_c_SElement]; done) | (simp only [drop0, unfr_vi, List.map_cons, List.map_nil, un_i, un_tr, List.length_map, List.length_cons, List.length_nil, unfr_c_SElement]; rfl) | (simp only [drop0, unfr_vi, List.map_cons, List.map_nil, un_i, un_tr, List.length_map, List.length_cons, List.length_nil, unfr_c_SElement, c_SElement, List.length_cons, List.length_nil, List.length_append]; done)
theorem eqWF_6 (z0 : SFrac) (z1 : Int) (z2 : Int) : [VV.pt 0 0, VV.ag (c_SFrac z0), VV.ag (c_SFrac (⟨z1, z2⟩ : SFrac))] = [VV.pt 0 0, VV.ag (c_SFrac z0), VV.ag [vi z1, vi z2]] := by first | rfl | (simp only [unfr_vi, List.map_cons, List.map_nil, un_i, unfr_c_SFrac]; done) | (simp only [unfr_vi, List.map_cons, List.map_nil, un_i, unfr_c_SFrac]; rfl) | (simp only [unfr_vi, List.map_cons, List.map_nil, un_i, unfr_c_SFrac, c_SFrac, List.length_cons, List.length_nil, List.length_append]; done)
theorem eqWF_7 (z0 : Bool) : ([⟨true, bigH, [vb ((⟨z0⟩ : SWay).Large)]⟩] : List Blk) = ([⟨true, bigH, [vb z0]⟩] : List Blk) := by first | rfl | (simp only [unfr_vb, List.map_cons, List.map_nil, un_b]; done) | (simp only [unfr_vb, List.map_cons, List.map_nil, un_b]; rfl) | (simp only [unfr_vb, List.map_cons, List.map_nil, un_b, List.length_cons, List.length_nil, List.length_append]; done)
theorem eqWF_8 (z0 : Int) (z1 : Int) (z2 : (SFrac × SWay)) : [VV.pt 0 0, VV.ag (c_SFrac (⟨z0, z1⟩ : SFrac)), VV.ag (c_SFrac z2.1)] = [VV.pt 0 0, VV.ag [vi z0, vi z1], VV.ag (c_SFrac z2.1)] := by first | rfl | (simp only [unfr_vi, List.map_cons, List.map_nil, un_i, unfr_c_SFrac]; done) | (simp only [unfr_vi, List.map_cons, List.map_nil, un_i, unfr_c_SFrac]; rfl) | (simp only [unfr_vi, List.map_cons, List.map_nil, un_i, unfr_c_SFrac, c_SFrac, List.length_cons, List.length_nil, List.length_append]; done)
theorem eqWF_9 (z0 : (SFrac × SWay)) (z1 : Int) (z2 : Int) : [VV.pt 0 0, VV.ag (c_SFrac z0.1), VV.ag (c_SFrac (⟨z1, z2⟩ : SFrac))] = [VV.pt 0 0, VV.ag (c_SFrac z0.1), VV.ag [vi z1, vi z2]] := by first | rfl | (simp only [unfr_vi, List.map_cons, List.map_nil, un_i, unfr_c_SFrac]; done) | (simp only [unfr_vi, List.map_cons, List.map_nil, un_i, unfr_c_SFrac]; rfl) | (simp only [unfr_vi, List.map_cons, List.map_nil, un_i, unfr_c_SFrac, c_SFrac, List.length_cons, List.length_nil, List.length_append]; done)
def arWF_6 (z0 : (List SElement)) (z1 : Int) (z2 : SFrac) : List Ans := (nN 4 (.v (vi ((z0.getD z1.toNat default).Size)) :: .call (VV.ag (c_SFrac z2)) :: .n :: .n :: []))
def arWF_7 (z0 : (SFrac × SWay)) (z1 : (SFrac × SWay)) (z2 : (SFrac × SWay)) (z3 : (SFrac × SWay)) : List Ans := (nN 5 (.mod1 1 (VV.ag (c_SFrac z0.1)) ⟨true, bigH, [vb z0.2.Large]⟩ :: .mod1 1 (VV.ag (c_SFrac z1.1)) ⟨true, bigH, [vb z1.2.Large]⟩ :: nN 5 (.mod1 1 (VV.ag (c_SFrac z2.1)) ⟨true, bigH, [vb z2.2.Large]⟩ :: .mod1 1 (VV.ag (c_SFrac z3.1)) ⟨true, bigH, [vb z3.2.Large]⟩ :: nN 4 [])))
def arWF_8 (z0 : SFrac) (z1 : (List SElement)) (z2 : Int) (z3 : SFrac) (z4 : (SFrac × SWay)) : List Ans := (.call (VV.ag (c_SFrac z0)) :: nN 4 (.v (vi ((z1.getD z2.toNat default).Size)) :: .call (VV.ag (c_SFrac z3)) :: .mod1 1 (VV.ag (c_SFrac z4.1)) ⟨true, bigH, [vb z4.2.Large]⟩ :: .n :: .n :: []))
def arWF_9 (z0 : SFrac) (z1 : (List SElement)) (z2 : Int) (z3 : SFrac) (z4 : (SFrac × SWay)) : List Ans := (.call (VV.ag (c_SFrac z0)) :: nN 4 (.v (vi ((z1.getD z2.toNat default).Size)) :: .call (VV.ag (c_SFrac z3)) :: .mod1 1 (VV.ag (c_SFrac z4.1)) ⟨true, bigH, [vb z4.2.Large]⟩ :: .n :: []))
def nspeculumref02_MatrixOf_l0_0_h (a0 : (List SElement)) (b1_0 : Bool) (b2_0 : Int) (b2_1 : Int) (b2_2 : Int) (b2_3 : Int) (b2_4 : Int) (b2_5 : Int) (b2_6 : Int) (b2_7 : Int) (x6 : Int) : VS := ⟨mkA [(0, VV.tr (List.flatMap c_SElement a0) a0.length), (2, VV.pt 0 0), (4, VV.pt 1 0), (5, VV.pt 2 0), (6, vi x6)], [some ⟨true, 1, [vi 0, vi 0, vi 0, vi 0, vi 0, vi 0, vi 0, vi 0]⟩, some ⟨true, 1, [vb b1_0]⟩, some ⟨true, 1, [vi b2_0, vi b2_1, vi b2_2, vi b2_3, vi b2_4, vi b2_5, vi b2_6, vi b2_7]⟩], .nil⟩
def nspeculumref02_MatrixOf_l0_0_e0 (a0 : (List SElement)) (r : Bool × Int × Int × Int × Int × Int × Int × Int × Int) : VS := ⟨mkA [(2, VV.pt 0 0), (4, VV.pt 1 0), (5, VV.pt 2 0)], [some ⟨true, 1, [vi 0, vi 0, vi 0, vi 0, vi 0, vi 0, vi 0, vi 0]⟩, some ⟨true, 1, [vb r.1]⟩, some ⟨true, 1, [vi r.2.1, vi r.2.2.1, vi r.2.2.2.1, vi r.2.2.2.2.1, vi r.2.2.2.2.2.1, vi r.2.2.2.2.2.2.1, vi r.2.2.2.2.2.2.2.1, vi r.2.2.2.2.2.2.2.2]⟩], .nil⟩
def nspeculumref02_MatrixOf_l0_0 (k : Nat) (a0 : (List SElement)) : Nat → Bool → Int → Int → Int → Int → Int → Int → Int → Int → Int → Option (Bool × Int × Int × Int × Int × Int × Int × Int × Int)
  | 0, _, _, _, _, _, _, _, _, _, _ => none
  | fuel + 1, b1_0, b2_0, b2_1, b2_2, b2_3, b2_4, b2_5, b2_6, b2_7, x6 => if x6 < (a0.length : Int) then (if 0 ≤ x6 ∧ x6 < (a0.length : Int) then (if ((a0.getD x6.toNat default).Kind) = 1 then ((nspeculumref02_Whole k ((a0.getD x6.toNat default).Size)).bind fun r2644 => ((n_speculumref02_Way_Mul k (⟨b1_0⟩ : SWay) r2644 (⟨b2_4, b2_5⟩ : SFrac)).bind fun r2648 => ((n_speculumref02_Way_Add k r2648.2 (⟨b2_0, b2_1⟩ : SFrac) r2648.1).bind fun r2651 => ((n_speculumref02_Way_Mul k r2651.2 r2644 (⟨b2_6, b2_7⟩ : SFrac)).bind fun r2654 => ((n_speculumref02_Way_Add k r2654.2 (⟨b2_2, b2_3⟩ : SFrac) r2654.1).bind fun r2657 => (nspeculumref02_MatrixOf_l0_0 k a0 fuel r2657.2.Large r2651.1.Num r2651.1.Den r2657.1.Num r2657.1.Den b2_4 b2_5 b2_6 b2_7 (w64 (x6 + 1)))))))) else ((nspeculumref02_Whole k 1).bind fun r2661 => ((nspeculumref02_Whole k ((a0.getD x6.toNat default).Size)).bind fun r2664 => ((n_speculumref02_Way_Quo k (⟨b1_0⟩ : SWay) r2661 r2664).bind fun r2667 => (if ((a0.getD x6.toNat default).Kind) = 2 then ((nspeculumref02_Whole k 2).bind fun r2673 => ((n_speculumref02_Way_Quo k r2667.2 r2673 r2664).bind fun r2678 => ((n_speculumref02_Way_Mul k r2678.2 r2678.1 (⟨b2_0, b2_1⟩ : SFrac)).bind fun r2682 => ((n_speculumref02_Way_Sub k r2682.2 (⟨b2_4, b2_5⟩ : SFrac) r2682.1).bind fun r2685 => ((n_speculumref02_Way_Mul k r2685.2 r2678.1 (⟨b2_2, b2_3⟩ : SFrac)).bind fun r2688 => ((n_speculumref02_Way_Sub k r2688.2 (⟨b2_6, b2_7⟩ : SFrac) r2688.1).bind fun r2691 => (nspeculumref02_MatrixOf_l0_0 k a0 fuel r2691.2.Large b2_0 b2_1 b2_2 b2_3 r2685.1.Num r2685.1.Den r2691.1.Num r2691.1.Den (w64 (x6 + 1))))))))) else ((n_speculumref02_Way_Mul k r2667.2 r2667.1 (⟨b2_0, b2_1⟩ : SFrac)).bind fun r2695 => ((n_speculumref02_Way_Sub k r2695.2 (⟨b2_4, b2_5⟩ : SFrac) r2695.1).bind fun r2698 => ((n_speculumref02_Way_Mul k r2698.2 r2667.1 (⟨b2_2, b2_3⟩ : SFrac)).bind fun r2701 => ((n_speculumref02_Way_Sub k r2701.2 (⟨b2_6, b2_7⟩ : SFrac) r2701.1).bind fun r2704 => (nspeculumref02_MatrixOf_l0_0 k a0 fuel r2704.2.Large b2_0 b2_1 b2_2 b2_3 r2698.1.Num r2698.1.Den r2704.1.Num r2704.1.Den (w64 (x6 + 1)))))))))))) else none) else (some (b1_0, b2_0, b2_1, b2_2, b2_3, b2_4, b2_5, b2_6, b2_7))
theorem nspeculumref02_MatrixOf_l0_0_ok (k : Nat) (a0 : (List SElement)) : ∀ (fuel : Nat) (b1_0 : Bool) (b2_0 : Int) (b2_1 : Int) (b2_2 : Int) (b2_3 : Int) (b2_4 : Int) (b2_5 : Int) (b2_6 : Int) (b2_7 : Int) (x6 : Int) (r : Bool × Int × Int × Int × Int × Int × Int × Int × Int), nspeculumref02_MatrixOf_l0_0 k a0 fuel b1_0 b2_0 b2_1 b2_2 b2_3 b2_4 b2_5 b2_6 b2_7 x6 = some r → (VLoop none Go.Proofs.Try.prog (szF Go.Proofs.Try.f66) (bodyOf Go.Proofs.Try.f66 0) (nspeculumref02_MatrixOf_l0_0_h a0 b1_0 b2_0 b2_1 b2_2 b2_3 b2_4 b2_5 b2_6 b2_7 x6) (.exit 0) (nspeculumref02_MatrixOf_l0_0_e0 a0 r)) := by
 intro fuel
 induction fuel with
 | zero => intro b1_0 b2_0 b2_1 b2_2 b2_3 b2_4 b2_5 b2_6 b2_7 x6 r h; rw [nspeculumref02_MatrixOf_l0_0.eq_1] at h; cases h
 | succ fuel ih =>
  intro b1_0 b2_0 b2_1 b2_2 b2_3 b2_4 b2_5 b2_6 b2_7 x6 r h
  rw [nspeculumref02_MatrixOf_l0_0.eq_2] at h
  rcases ifs h with ⟨h2639, h⟩ | ⟨h2639, h⟩
  ·obtain ⟨h2640, h⟩ := ifn h
   have e2641 := (show loadL Go.Proofs.Try.prog 3 (x6.toNat * 2 + 0) (List.flatMap c_SElement a0) = some (vi ((a0.getD x6.toNat default).Kind)) from (ld_flat ag3 c_SElement 2 0 len_c_SElement (by omega) a0 default h2640 (by omega)).trans rfl)
   rcases ifs h with ⟨h2642, h⟩ | ⟨h2642, h⟩
   ·have e2643 := (show loadL Go.Proofs.Try.prog 3 (x6.toNat * 2 + 1) (List.flatMap c_SElement a0) = some (vi ((a0.getD x6.toNat default).Size)) from (ld_flat ag3 c_SElement 2 1 len_c_SElement (by omega) a0 default h2640 (by omega)).trans rfl)
    obtain ⟨r2644, h2645, h⟩ := bs h
    have e2646 := (nspeculumref02_Whole_ok k ((a0.getD x6.toNat default).Size) _ h2645)
    have e2647 := (ti (ti (an h2640 (ti (an e2643 (an e2646 (ti (ti trivial))))))))
    obtain ⟨r2648, h2649, h⟩ := bs h
    have e2650 := (an (VM.args (n_speculumref02_Way_Mul_ok k (⟨b1_0⟩ : SWay) r2644 (⟨b2_4, b2_5⟩ : SFrac) _ h2649) (eqWF_6 r2644 b2_4 b2_5) (eqWF_7 b1_0) rfl) (an (ti trivial) (ti trivial)))
    obtain ⟨r2651, h2652, h⟩ := bs h
    have e2653 := (an (VM.args (n_speculumref02_Way_Add_ok k r2648.2 (⟨b2_0, b2_1⟩ : SFrac) r2648.1 _ h2652) (eqWF_8 b2_0 b2_1 r2648) rfl rfl) (an (ti trivial) (ti trivial)))
    obtain ⟨r2654, h2655, h⟩ := bs h
    have e2656 := (an (VM.args (n_speculumref02_Way_Mul_ok k r2651.2 r2644 (⟨b2_6, b2_7⟩ : SFrac) _ h2655) (eqWF_6 r2644 b2_6 b2_7) rfl rfl) (an (ti trivial) (ti trivial)))
    obtain ⟨r2657, h2658, h⟩ := bs h
    have e2659 := (an (VM.args (n_speculumref02_Way_Add_ok k r2654.2 (⟨b2_2, b2_3⟩ : SFrac) r2654.1 _ h2658) (eqWF_8 b2_2 b2_3 r2654) rfl rfl) (an (ti trivial) (ti trivial)))
    have e2660 := (ti (ti (ti (ti (ti (an e2650 (an e2653 (ti (ti (ti (ti (ti (an e2656 (an e2659 (ti (ti (ti (ti trivial))))))))))))))))))
    have h2 := ih _ _ _ _ _ _ _ _ _ _ _ h
    obtain ⟨q, hv, hq⟩ := pkR (rd := none) (P := Go.Proofs.Try.prog) (fn := Go.Proofs.Try.f66) (k := 0) (s := (nspeculumref02_MatrixOf_l0_0_h a0 b1_0 b2_0 b2_1 b2_2 b2_3 b2_4 b2_5 b2_6 b2_7 x6)) (ans := [.reg (nN 4 []), .br true, .reg (nN 4 (.v (vi ((a0.getD x6.toNat default).Kind)) :: .n :: [])), .br true, .reg (arWF_6 a0 x6 r2644), .reg (arWF_7 r2648 r2651 r2654 r2657), .reg (nN 3 [])]) (c := ⟨[(0, none), (2, none), (4, none), (5, none), (6, none)], [none, none, none], []⟩) (e := .normal) (s1 := (nspeculumref02_MatrixOf_l0_0_h a0 r2657.2.Large r2651.1.Num r2651.1.Den r2657.1.Num r2657.1.Den b2_4 b2_5 b2_6 b2_7 (w64 (x6 + 1)))) (an (an (an (ti (ti (ti (ti trivial)))) (an (decide_eq_true h2639) trivial)) (an (an (ti (ti (an h2640 (ti (an e2641 (ti trivial)))))) (an (decide_eq_true h2642) (an e2647 (an e2660 trivial)))) (ti (ti (ti trivial))))) (ti trivial)) (by kernel_rfl)
    exact round_next pm pn hv hq h2
   ·obtain ⟨r2661, h2662, h⟩ := bs h
    have e2663 := (show loadL Go.Proofs.Try.prog 3 (x6.toNat * 2 + 1) (List.flatMap c_SElement a0) = some (vi ((a0.getD x6.toNat default).Size)) from (ld_flat ag3 c_SElement 2 1 len_c_SElement (by omega) a0 default h2640 (by omega)).trans rfl)
    obtain ⟨r2664, h2665, h⟩ := bs h
    have e2666 := (nspeculumref02_Whole_ok k ((a0.getD x6.toNat default).Size) _ h2665)
    obtain ⟨r2667, h2668, h⟩ := bs h
    have e2669 := (an (VM.args (n_speculumref02_Way_Quo_ok k (⟨b1_0⟩ : SWay) r2661 r2664 _ h2668) rfl (eqWF_7 b1_0) rfl) (an (ti trivial) (ti trivial)))
    have e2670 := (an (nspeculumref02_Whole_ok k 1 _ h2662) (ti (ti (an h2640 (ti (an e2663 (an e2666 (an e2669 (ti (ti trivial))))))))))
    have e2671 := (show loadL Go.Proofs.Try.prog 3 (x6.toNat * 2 + 0) (List.flatMap c_SElement a0) = some (vi ((a0.getD x6.toNat default).Kind)) from (ld_flat ag3 c_SElement 2 0 len_c_SElement (by omega) a0 default h2640 (by omega)).trans rfl)
    rcases ifs h with ⟨h2672, h⟩ | ⟨h2672, h⟩
    ·obtain ⟨r2673, h2674, h⟩ := bs h
     have e2675 := (show loadL Go.Proofs.Try.prog 3 (x6.toNat * 2 + 1) (List.flatMap c_SElement a0) = some (vi ((a0.getD x6.toNat default).Size)) from (ld_flat ag3 c_SElement 2 1 len_c_SElement (by omega) a0 default h2640 (by omega)).trans rfl)
     have e2677 := (nspeculumref02_Whole_ok k ((a0.getD x6.toNat default).Size) _ h2665)
     obtain ⟨r2678, h2679, h⟩ := bs h
     have e2680 := (an (n_speculumref02_Way_Quo_ok k r2667.2 r2673 r2664 _ h2679) (an (ti trivial) (ti trivial)))
     have e2681 := (an (nspeculumref02_Whole_ok k 2 _ h2674) (ti (ti (an h2640 (ti (an e2675 (an e2677 (an e2680 (ti trivial)))))))))
     obtain ⟨r2682, h2683, h⟩ := bs h
     have e2684 := (an (VM.args (n_speculumref02_Way_Mul_ok k r2678.2 r2678.1 (⟨b2_0, b2_1⟩ : SFrac) _ h2683) (eqWF_9 r2678 b2_0 b2_1) rfl rfl) (an (ti trivial) (ti trivial)))
     obtain ⟨r2685, h2686, h⟩ := bs h
     have e2687 := (an (VM.args (n_speculumref02_Way_Sub_ok k r2682.2 (⟨b2_4, b2_5⟩ : SFrac) r2682.1 _ h2686) (eqWF_8 b2_4 b2_5 r2682) rfl rfl) (an (ti trivial) (ti trivial)))
     obtain ⟨r2688, h2689, h⟩ := bs h
     have e2690 := (an (VM.args (n_speculumref02_Way_Mul_ok k r2685.2 r2678.1 (⟨b2_2, b2_3⟩ : SFrac) _ h2689) (eqWF_9 r2678 b2_2 b2_3) rfl rfl) (an (ti trivial) (ti trivial)))
     obtain ⟨r2691, h2692, h⟩ := bs h
     have e2693 := (an (VM.args (n_speculumref02_Way_Sub_ok k r2688.2 (⟨b2_6, b2_7⟩ : SFrac) r2688.1 _ h2692) (eqWF_8 b2_6 b2_7 r2688) rfl rfl) (an (ti trivial) (ti trivial)))
     have e2694 := (ti (ti (ti (ti (ti (an e2684 (an e2687 (ti (ti (ti (ti (ti (an e2690 (an e2693 (ti (ti (ti (ti trivial))))))))))))))))))
     have h2 := ih _ _ _ _ _ _ _ _ _ _ _ h
     obtain ⟨q, hv, hq⟩ := pkR (rd := none) (P := Go.Proofs.Try.prog) (fn := Go.Proofs.Try.f66) (k := 0) (s := (nspeculumref02_MatrixOf_l0_0_h a0 b1_0 b2_0 b2_1 b2_2 b2_3 b2_4 b2_5 b2_6 b2_7 x6)) (ans := [.reg (nN 4 []), .br true, .reg (nN 4 (.v (vi ((a0.getD x6.toNat default).Kind)) :: .n :: [])), .br false, .reg (arWF_8 r2661 a0 x6 r2664 r2667), .reg (nN 4 (.v (vi ((a0.getD x6.toNat default).Kind)) :: .n :: [])), .br true, .reg (arWF_9 r2673 a0 x6 r2664 r2678), .reg (arWF_7 r2682 r2685 r2688 r2691), .reg (nN 3 [])]) (c := ⟨[(0, none), (2, none), (4, none), (5, none), (6, none)], [none, none, none], []⟩) (e := .normal) (s1 := (nspeculumref02_MatrixOf_l0_0_h a0 r2691.2.Large b2_0 b2_1 b2_2 b2_3 r2685.1.Num r2685.1.Den r2691.1.Num r2691.1.Den (w64 (x6 + 1)))) (an (an (an (ti (ti (ti (ti trivial)))) (an (decide_eq_true h2639) trivial)) (an (an (an (ti (ti (an h2640 (ti (an e2641 (ti trivial)))))) (an (decide_eq_false h2642) trivial)) (an e2670 (an (an (ti (ti (an h2640 (ti (an e2671 (ti trivial)))))) (an (decide_eq_true h2672) e2681)) e2694))) (ti (ti (ti trivial))))) (ti trivial)) (by kernel_rfl)
     exact round_next pm pn hv hq h2
    ·obtain ⟨r2695, h2696, h⟩ := bs h
     have e2697 := (an (VM.args (n_speculumref02_Way_Mul_ok k r2667.2 r2667.1 (⟨b2_0, b2_1⟩ : SFrac) _ h2696) (eqWF_9 r2667 b2_0 b2_1) rfl rfl) (an (ti trivial) (ti trivial)))
     obtain ⟨r2698, h2699, h⟩ := bs h
     have e2700 := (an (VM.args (n_speculumref02_Way_Sub_ok k r2695.2 (⟨b2_4, b2_5⟩ : SFrac) r2695.1 _ h2699) (eqWF_8 b2_4 b2_5 r2695) rfl rfl) (an (ti trivial) (ti trivial)))
     obtain ⟨r2701, h2702, h⟩ := bs h
     have e2703 := (an (VM.args (n_speculumref02_Way_Mul_ok k r2698.2 r2667.1 (⟨b2_2, b2_3⟩ : SFrac) _ h2702) (eqWF_9 r2667 b2_2 b2_3) rfl rfl) (an (ti trivial) (ti trivial)))
     obtain ⟨r2704, h2705, h⟩ := bs h
     have e2706 := (an (VM.args (n_speculumref02_Way_Sub_ok k r2701.2 (⟨b2_6, b2_7⟩ : SFrac) r2701.1 _ h2705) (eqWF_8 b2_6 b2_7 r2701) rfl rfl) (an (ti trivial) (ti trivial)))
     have e2707 := (ti (ti (ti (ti (ti (an e2697 (an e2700 (ti (ti (ti (ti (ti (an e2703 (an e2706 (ti (ti (ti (ti trivial))))))))))))))))))
     have h2 := ih _ _ _ _ _ _ _ _ _ _ _ h
     obtain ⟨q, hv, hq⟩ := pkR (rd := none) (P := Go.Proofs.Try.prog) (fn := Go.Proofs.Try.f66) (k := 0) (s := (nspeculumref02_MatrixOf_l0_0_h a0 b1_0 b2_0 b2_1 b2_2 b2_3 b2_4 b2_5 b2_6 b2_7 x6)) (ans := [.reg (nN 4 []), .br true, .reg (nN 4 (.v (vi ((a0.getD x6.toNat default).Kind)) :: .n :: [])), .br false, .reg (arWF_8 r2661 a0 x6 r2664 r2667), .reg (nN 4 (.v (vi ((a0.getD x6.toNat default).Kind)) :: .n :: [])), .br false, .reg (arWF_7 r2695 r2698 r2701 r2704), .reg (nN 3 [])]) (c := ⟨[(0, none), (2, none), (4, none), (5, none), (6, none)], [none, none, none], []⟩) (e := .normal) (s1 := (nspeculumref02_MatrixOf_l0_0_h a0 r2704.2.Large b2_0 b2_1 b2_2 b2_3 r2698.1.Num r2698.1.Den r2704.1.Num r2704.1.Den (w64 (x6 + 1)))) (an (an (an (ti (ti (ti (ti trivial)))) (an (decide_eq_true h2639) trivial)) (an (an (an (ti (ti (an h2640 (ti (an e2641 (ti trivial)))))) (an (decide_eq_false h2642) trivial)) (an e2670 (an (an (ti (ti (an h2640 (ti (an e2671 (ti trivial)))))) (an (decide_eq_false h2672) trivial)) e2707))) (ti (ti (ti trivial))))) (ti trivial)) (by kernel_rfl)
     exact round_next pm pn hv hq h2
  ·injection h with h; subst h
   exact round_stop (c := ⟨[(2, none), (4, none), (5, none)], [none, none, none], []⟩) (s1 := (nspeculumref02_MatrixOf_l0_0_e0 a0 (b1_0, b2_0, b2_1, b2_2, b2_3, b2_4, b2_5, b2_6, b2_7))) pm pn (ans := [.reg (nN 4 []), .br false]) (by kernel_rfl) (by intro e; cases e) (an (an (ti (ti (ti (ti trivial)))) (an (decide_eq_false h2639) trivial)) (ti trivial))
def arWF_10 (z0 : SFrac) (z1 : SFrac) : List Ans := (.call (VV.ag (c_SFrac z0)) :: .call (VV.ag (c_SFrac z1)) :: .call (VV.ag (c_SFrac z1)) :: .call (VV.ag (c_SFrac z0)) :: nN 3 [])
theorem eqWF_10  : VV.tu [VV.ag [vi 0, vi 0, vi 0, vi 0, vi 0, vi 0, vi 0, vi 0], vi 8] = VV.tu [VV.ag [vi (((⟨(⟨0, 0⟩ : SFrac), (⟨0, 0⟩ : SFrac), (⟨0, 0⟩ : SFrac), (⟨0, 0⟩ : SFrac)⟩ : SMatrix).A).Num), vi (((⟨(⟨0, 0⟩ : SFrac), (⟨0, 0⟩ : SFrac), (⟨0, 0⟩ : SFrac), (⟨0, 0⟩ : SFrac)⟩ : SMatrix).A).Den), vi (((⟨(⟨0, 0⟩ : SFrac), (⟨0, 0⟩ : SFrac), (⟨0, 0⟩ : SFrac), (⟨0, 0⟩ : SFrac)⟩ : SMatrix).B).Num), vi (((⟨(⟨0, 0⟩ : SFrac), (⟨0, 0⟩ : SFrac), (⟨0, 0⟩ : SFrac), (⟨0, 0⟩ : SFrac)⟩ : SMatrix).B).Den), vi (((⟨(⟨0, 0⟩ : SFrac), (⟨0, 0⟩ : SFrac), (⟨0, 0⟩ : SFrac), (⟨0, 0⟩ : SFrac)⟩ : SMatrix).C).Num), vi (((⟨(⟨0, 0⟩ : SFrac), (⟨0, 0⟩ : SFrac), (⟨0, 0⟩ : SFrac), (⟨0, 0⟩ : SFrac)⟩ : SMatrix).C).Den), vi (((⟨(⟨0, 0⟩ : SFrac), (⟨0, 0⟩ : SFrac), (⟨0, 0⟩ : SFrac), (⟨0, 0⟩ : SFrac)⟩ : SMatrix).D).Num), vi (((⟨(⟨0, 0⟩ : SFrac), (⟨0, 0⟩ : SFrac), (⟨0, 0⟩ : SFrac), (⟨0, 0⟩ : SFrac)⟩ : SMatrix).D).Den)], vi 8] := by first | rfl | (simp only [unfr_vi, List.map_cons, List.map_nil, un_i]; done) | (simp only [unfr_vi, List.map_cons, List.map_nil, un_i]; rfl) | (simp only [unfr_vi, List.map_cons, List.map_nil, un_i, List.length_cons, List.length_nil, List.length_append]; done)
theorem eqWF_11 (z0 : Bool × Int × Int × Int × Int × Int × Int × Int × Int) : VV.tu [VV.ag [vi z0.2.1, vi z0.2.2.1, vi z0.2.2.2.1, vi z0.2.2.2.2.1, vi z0.2.2.2.2.2.1, vi z0.2.2.2.2.2.2.1, vi z0.2.2.2.2.2.2.2.1, vi z0.2.2.2.2.2.2.2.2], vi 0] = VV.tu [VV.ag [vi (((⟨(⟨z0.2.1, z0.2.2.1⟩ : SFrac), (⟨z0.2.2.2.1, z0.2.2.2.2.1⟩ : SFrac), (⟨z0.2.2.2.2.2.1, z0.2.2.2.2.2.2.1⟩ : SFrac), (⟨z0.2.2.2.2.2.2.2.1, z0.2.2.2.2.2.2.2.2⟩ : SFrac)⟩ : SMatrix).A).Num), vi (((⟨(⟨z0.2.1, z0.2.2.1⟩ : SFrac), (⟨z0.2.2.2.1, z0.2.2.2.2.1⟩ : SFrac), (⟨z0.2.2.2.2.2.1, z0.2.2.2.2.2.2.1⟩ : SFrac), (⟨z0.2.2.2.2.2.2.2.1, z0.2.2.2.2.2.2.2.2⟩ : SFrac)⟩ : SMatrix).A).Den), vi (((⟨(⟨z0.2.1, z0.2.2.1⟩ : SFrac), (⟨z0.2.2.2.1, z0.2.2.2.2.1⟩ : SFrac), (⟨z0.2.2.2.2.2.1, z0.2.2.2.2.2.2.1⟩ : SFrac), (⟨z0.2.2.2.2.2.2.2.1, z0.2.2.2.2.2.2.2.2⟩ : SFrac)⟩ : SMatrix).B).Num), vi (((⟨(⟨z0.2.1, z0.2.2.1⟩ : SFrac), (⟨z0.2.2.2.1, z0.2.2.2.2.1⟩ : SFrac), (⟨z0.2.2.2.2.2.1, z0.2.2.2.2.2.2.1⟩ : SFrac), (⟨z0.2.2.2.2.2.2.2.1, z0.2.2.2.2.2.2.2.2⟩ : SFrac)⟩ : SMatrix).B).Den), vi (((⟨(⟨z0.2.1, z0.2.2.1⟩ : SFrac), (⟨z0.2.2.2.1, z0.2.2.2.2.1⟩ : SFrac), (⟨z0.2.2.2.2.2.1, z0.2.2.2.2.2.2.1⟩ : SFrac), (⟨z0.2.2.2.2.2.2.2.1, z0.2.2.2.2.2.2.2.2⟩ : SFrac)⟩ : SMatrix).C).Num), vi (((⟨(⟨z0.2.1, z0.2.2.1⟩ : SFrac), (⟨z0.2.2.2.1, z0.2.2.2.2.1⟩ : SFrac), (⟨z0.2.2.2.2.2.1, z0.2.2.2.2.2.2.1⟩ : SFrac), (⟨z0.2.2.2.2.2.2.2.1, z0.2.2.2.2.2.2.2.2⟩ : SFrac)⟩ : SMatrix).C).Den), vi (((⟨(⟨z0.2.1, z0.2.2.1⟩ : SFrac), (⟨z0.2.2.2.1, z0.2.2.2.2.1⟩ : SFrac), (⟨z0.2.2.2.2.2.1, z0.2.2.2.2.2.2.1⟩ : SFrac), (⟨z0.2.2.2.2.2.2.2.1, z0.2.2.2.2.2.2.2.2⟩ : SFrac)⟩ : SMatrix).D).Num), vi (((⟨(⟨z0.2.1, z0.2.2.1⟩ : SFrac), (⟨z0.2.2.2.1, z0.2.2.2.2.1⟩ : SFrac), (⟨z0.2.2.2.2.2.1, z0.2.2.2.2.2.2.1⟩ : SFrac), (⟨z0.2.2.2.2.2.2.2.1, z0.2.2.2.2.2.2.2.2⟩ : SFrac)⟩ : SMatrix).D).Den)], vi 0] := by first | rfl | (simp only [unfr_vi, List.map_cons, List.map_nil, un_i]; done) | (simp only [unfr_vi, List.map_cons, List.map_nil, un_i]; rfl) | (simp only [unfr_vi, List.map_cons, List.map_nil, un_i, List.length_cons, List.length_nil, List.length_append]; done)
def nspeculumref02_MatrixOf (k : Nat) (a0 : (List SElement)) : Option (SMatrix × Int) :=
  (nspeculumref02_Whole k 1).bind fun r2494 => ((nspeculumref02_Whole k 0).bind fun r2496 => ((nspeculumref02_MatrixOf_l0_0 k a0 k false r2494.Num r2494.Den r2496.Num r2496.Den r2496.Num r2496.Den r2494.Num r2494.Den 0).bind fun r2709 => (if r2709.1 = true then (some ((⟨(⟨0, 0⟩ : SFrac), (⟨0, 0⟩ : SFrac), (⟨0, 0⟩ : SFrac), (⟨0, 0⟩ : SFrac)⟩ : SMatrix), 8)) else (some ((⟨(⟨r2709.2.1, r2709.2.2.1⟩ : SFrac), (⟨r2709.2.2.2.1, r2709.2.2.2.2.1⟩ : SFrac), (⟨r2709.2.2.2.2.2.1, r2709.2.2.2.2.2.2.1⟩ : SFrac), (⟨r2709.2.2.2.2.2.2.2.1, r2709.2.2.2.2.2.2.2.2⟩ : SFrac)⟩ : SMatrix), 0)))))
theorem nspeculumref02_MatrixOf_ok (k : Nat) (a0 : (List SElement)) (r : (SMatrix × Int)) (h : nspeculumref02_MatrixOf k a0 = some r) : VC Go.Proofs.Try.prog 66 [VV.tr (List.flatMap c_SElement a0) a0.length] (VV.tu [VV.ag (c_SMatrix r.1), vi r.2]) := by
 unfold nspeculumref02_MatrixOf at h
 obtain ⟨r2494, h2495, h⟩ := bs h
 obtain ⟨r2496, h2497, h⟩ := bs h
 have e2500 := (an (nspeculumref02_Whole_ok k 1 _ h2495) (an (nspeculumref02_Whole_ok k 0 _ h2497) (an (nspeculumref02_Whole_ok k 0 _ h2497) (an (nspeculumref02_Whole_ok k 1 _ h2495) (ti (ti (ti trivial)))))))
 obtain ⟨r2709, h2708, h⟩ := bs h
 have hph2708 := nspeculumref02_MatrixOf_l0_0_ok k a0 _ _ _ _ _ _ _ _ _ _ _ _ h2708
 have e2710 := (an (ti trivial) (VRun.loop hph2708))
 rcases ifs h with ⟨h2711, h⟩ | ⟨h2711, h⟩
 ·injection h with h; subst h
  exact fun_ok pm pn Go.Proofs.Try.func66 (r0 := VV.tu [VV.ag [vi 0, vi 0, vi 0, vi 0, vi 0, vi 0, vi 0, vi 0], vi 8]) (ans := [.reg (.n :: .n :: []), .reg (.n :: []), .reg (arWF_10 r2494 r2496), .reg (.n :: []), .sub ⟨[(0, none), (2, none), (4, none), (5, none), (6, none)], [none, none, none], []⟩ (.exit 0) (nspeculumref02_MatrixOf_l0_0_e0 a0 r2709), .reg (.n :: .n :: []), .br true, .reg (nN 3 [])]) (fr := true) (by kernel_rfl) (an (an (ti (ti trivial)) (an (ti trivial) (an e2500 (an (an (ti trivial) e2710) (an (ti (ti trivial)) (an h2711 (an (ti (ti (ti trivial))) trivial))))))) (an (ti (ti (ti (ti (ti (ti (ti (ti (ti trivial))))))))) (ti trivial))) (Wv.of_eq eqWF_10)
 ·injection h with h; subst h
  exact fun_ok pm pn Go.Proofs.Try.func66 (r0 := VV.tu [VV.ag [vi r2709.2.1, vi r2709.2.2.1, vi r2709.2.2.2.1, vi r2709.2.2.2.2.1, vi r2709.2.2.2.2.2.1, vi r2709.2.2.2.2.2.2.1, vi r2709.2.2.2.2.2.2.2.1, vi r2709.2.2.2.2.2.2.2.2], vi 0]) (ans := [.reg (.n :: .n :: []), .reg (.n :: []), .reg (arWF_10 r2494 r2496), .reg (.n :: []), .sub ⟨[(0, none), (2, none), (4, none), (5, none), (6, none)], [none, none, none], []⟩ (.exit 0) (nspeculumref02_MatrixOf_l0_0_e0 a0 r2709), .reg (.n :: .n :: []), .br false, .reg (nN 3 [])]) (fr := true) (by kernel_rfl) (an (an (ti (ti trivial)) (an (ti trivial) (an e2500 (an (an (ti trivial) e2710) (an (an (ti (ti trivial)) (an (bool_f h2711) trivial)) (an (ti (ti (ti trivial))) trivial)))))) (an (ti (ti (ti (ti (ti (ti (ti (ti (ti trivial))))))))) (ti trivial))) (Wv.of_eq (eqWF_11 r2709))
def arWF_11 (z0 : SFrac) (z1 : SFrac) (z2 : (SFrac × SWay)) (z3 : (SFrac × SWay)) : List Ans := (nN 3 (.call (VV.ag (c_SFrac z0)) :: .call (VV.ag (c_SFrac z1)) :: .mod1 4 (VV.ag (c_SFrac z2.1)) ⟨true, bigH, [vb z2.2.Large]⟩ :: .mod1 4 (VV.ag (c_SFrac z3.1)) ⟨true, bigH, [vb z3.2.Large]⟩ :: .n :: .n :: []))
def arWF_12 (z0 : SFrac) (z1 : SFrac) (z2 : SFrac) (z3 : (SFrac × SWay)) (z4 : (SFrac × SWay)) : List Ans := (.call (VV.ag (c_SFrac z0)) :: .n :: .n :: .call (VV.ag (c_SFrac z1)) :: .n :: .call (VV.ag (c_SFrac z2)) :: .mod1 4 (VV.ag (c_SFrac z3.1)) ⟨true, bigH, [vb z3.2.Large]⟩ :: .mod1 4 (VV.ag (c_SFrac z4.1)) ⟨true, bigH, [vb z4.2.Large]⟩ :: .n :: .n :: [])
theorem eqWF_12  : VV.tu [VV.ag [vi 0, vi 0, vi 0, vi 0, vi 0, vi 0, vi 0, vi 0], vi 8] = VV.tu [VV.ag [vi (((⟨(⟨0, 0⟩ : SFrac), (⟨0, 0⟩ : SFrac), (⟨0, 0⟩ : SFrac), (⟨0, 0⟩ : SFrac)⟩ : SPair).Focal).Num), vi (((⟨(⟨0, 0⟩ : SFrac), (⟨0, 0⟩ : SFrac), (⟨0, 0⟩ : SFrac), (⟨0, 0⟩ : SFrac)⟩ : SPair).Focal).Den), vi (((⟨(⟨0, 0⟩ : SFrac), (⟨0, 0⟩ : SFrac), (⟨0, 0⟩ : SFrac), (⟨0, 0⟩ : SFrac)⟩ : SPair).Back).Num), vi (((⟨(⟨0, 0⟩ : SFrac), (⟨0, 0⟩ : SFrac), (⟨0, 0⟩ : SFrac), (⟨0, 0⟩ : SFrac)⟩ : SPair).Back).Den), vi (((⟨(⟨0, 0⟩ : SFrac), (⟨0, 0⟩ : SFrac), (⟨0, 0⟩ : SFrac), (⟨0, 0⟩ : SFrac)⟩ : SPair).Magnify).Num), vi (((⟨(⟨0, 0⟩ : SFrac), (⟨0, 0⟩ : SFrac), (⟨0, 0⟩ : SFrac), (⟨0, 0⟩ : SFrac)⟩ : SPair).Magnify).Den), vi (((⟨(⟨0, 0⟩ : SFrac), (⟨0, 0⟩ : SFrac), (⟨0, 0⟩ : SFrac), (⟨0, 0⟩ : SFrac)⟩ : SPair).Obstruct).Num), vi (((⟨(⟨0, 0⟩ : SFrac), (⟨0, 0⟩ : SFrac), (⟨0, 0⟩ : SFrac), (⟨0, 0⟩ : SFrac)⟩ : SPair).Obstruct).Den)], vi 8] := by first | rfl | (simp only [unfr_vi, List.map_cons, List.map_nil, un_i]; done) | (simp only [unfr_vi, List.map_cons, List.map_nil, un_i]; rfl) | (simp only [unfr_vi, List.map_cons, List.map_nil, un_i, List.length_cons, List.length_nil, List.length_append]; done)
theorem eqWF_13 (z0 : (SFrac × Int)) (z1 : (SFrac × Int)) (z2 : (SFrac × SWay)) (z3 : (SFrac × SWay)) : VV.tu [VV.ag [vi z0.1.Num, vi z0.1.Den, vi z1.1.Num, vi z1.1.Den, vi z2.1.Num, vi z2.1.Den, vi z3.1.Num, vi z3.1.Den], vi 0] = VV.tu [VV.ag [vi (((⟨z0.1, z1.1, z2.1, z3.1⟩ : SPair).Focal).Num), vi (((⟨z0.1, z1.1, z2.1, z3.1⟩ : SPair).Focal).Den), vi (((⟨z0.1, z1.1, z2.1, z3.1⟩ : SPair).Back).Num), vi (((⟨z0.1, z1.1, z2.1, z3.1⟩ : SPair).Back).Den), vi (((⟨z0.1, z1.1, z2.1, z3.1⟩ : SPair).Magnify).Num), vi (((⟨z0.1, z1.1, z2.1, z3.1⟩ : SPair).Magnify).Den), vi (((⟨z0.1, z1.1, z2.1, z3.1⟩ : SPair).Obstruct).Num), vi (((⟨z0.1, z1.1, z2.1, z3.1⟩ : SPair).Obstruct).Den)], vi 0] := by first | rfl | (simp only [unfr_vi, List.map_cons, List.map_nil, un_i]; done) | (simp only [unfr_vi, List.map_cons, List.map_nil, un_i]; rfl) | (simp only [unfr_vi, List.map_cons, List.map_nil, un_i, List.length_cons, List.length_nil, List.length_append]; done)
theorem eqWF_14 (z0 : (SFrac × Int)) : VV.tu [VV.ag [vi 0, vi 0, vi 0, vi 0, vi 0, vi 0, vi 0, vi 0], vi z0.2] = VV.tu [VV.ag [vi (((⟨(⟨0, 0⟩ : SFrac), (⟨0, 0⟩ : SFrac), (⟨0, 0⟩ : SFrac), (⟨0, 0⟩ : SFrac)⟩ : SPair).Focal).Num), vi (((⟨(⟨0, 0⟩ : SFrac), (⟨0, 0⟩ : SFrac), (⟨0, 0⟩ : SFrac), (⟨0, 0⟩ : SFrac)⟩ : SPair).Focal).Den), vi (((⟨(⟨0, 0⟩ : SFrac), (⟨0, 0⟩ : SFrac), (⟨0, 0⟩ : SFrac), (⟨0, 0⟩ : SFrac)⟩ : SPair).Back).Num), vi (((⟨(⟨0, 0⟩ : SFrac), (⟨0, 0⟩ : SFrac), (⟨0, 0⟩ : SFrac), (⟨0, 0⟩ : SFrac)⟩ : SPair).Back).Den), vi (((⟨(⟨0, 0⟩ : SFrac), (⟨0, 0⟩ : SFrac), (⟨0, 0⟩ : SFrac), (⟨0, 0⟩ : SFrac)⟩ : SPair).Magnify).Num), vi (((⟨(⟨0, 0⟩ : SFrac), (⟨0, 0⟩ : SFrac), (⟨0, 0⟩ : SFrac), (⟨0, 0⟩ : SFrac)⟩ : SPair).Magnify).Den), vi (((⟨(⟨0, 0⟩ : SFrac), (⟨0, 0⟩ : SFrac), (⟨0, 0⟩ : SFrac), (⟨0, 0⟩ : SFrac)⟩ : SPair).Obstruct).Num), vi (((⟨(⟨0, 0⟩ : SFrac), (⟨0, 0⟩ : SFrac), (⟨0, 0⟩ : SFrac), (⟨0, 0⟩ : SFrac)⟩ : SPair).Obstruct).Den)], vi z0.2] := by first | rfl | (simp only [unfr_vi, List.map_cons, List.map_nil, un_i]; done) | (simp only [unfr_vi, List.map_cons, List.map_nil, un_i]; rfl) | (simp only [unfr_vi, List.map_cons, List.map_nil, un_i, List.length_cons, List.length_nil, List.length_append]; done)
theorem eqWF_15 (z0 : (SMatrix × Int)) : VV.tu [VV.ag [vi 0, vi 0, vi 0, vi 0, vi 0, vi 0, vi 0, vi 0], vi z0.2] = VV.tu [VV.ag [vi (((⟨(⟨0, 0⟩ : SFrac), (⟨0, 0⟩ : SFrac), (⟨0, 0⟩ : SFrac), (⟨0, 0⟩ : SFrac)⟩ : SPair).Focal).Num), vi (((⟨(⟨0, 0⟩ : SFrac), (⟨0, 0⟩ : SFrac), (⟨0, 0⟩ : SFrac), (⟨0, 0⟩ : SFrac)⟩ : SPair).Focal).Den), vi (((⟨(⟨0, 0⟩ : SFrac), (⟨0, 0⟩ : SFrac), (⟨0, 0⟩ : SFrac), (⟨0, 0⟩ : SFrac)⟩ : SPair).Back).Num), vi (((⟨(⟨0, 0⟩ : SFrac), (⟨0, 0⟩ : SFrac), (⟨0, 0⟩ : SFrac), (⟨0, 0⟩ : SFrac)⟩ : SPair).Back).Den), vi (((⟨(⟨0, 0⟩ : SFrac), (⟨0, 0⟩ : SFrac), (⟨0, 0⟩ : SFrac), (⟨0, 0⟩ : SFrac)⟩ : SPair).Magnify).Num), vi (((⟨(⟨0, 0⟩ : SFrac), (⟨0, 0⟩ : SFrac), (⟨0, 0⟩ : SFrac), (⟨0, 0⟩ : SFrac)⟩ : SPair).Magnify).Den), vi (((⟨(⟨0, 0⟩ : SFrac), (⟨0, 0⟩ : SFrac), (⟨0, 0⟩ : SFrac), (⟨0, 0⟩ : SFrac)⟩ : SPair).Obstruct).Num), vi (((⟨(⟨0, 0⟩ : SFrac), (⟨0, 0⟩ : SFrac), (⟨0, 0⟩ : SFrac), (⟨0, 0⟩ : SFrac)⟩ : SPair).Obstruct).Den)], vi z0.2] := by first | rfl | (simp only [unfr_vi, List.map_cons, List.map_nil, un_i]; done) | (simp only [unfr_vi, List.map_cons, List.map_nil, un_i]; rfl) | (simp only [unfr_vi, List.map_cons, List.map_nil, un_i, List.length_cons, List.length_nil, List.length_append]; done)
theorem eqWF_16 (z0 : Int) : VV.tu [VV.ag [vi 0, vi 0, vi 0, vi 0, vi 0, vi 0, vi 0, vi 0], vi z0] = VV.tu [VV.ag [vi (((⟨(⟨0, 0⟩ : SFrac), (⟨0, 0⟩ : SFrac), (⟨0, 0⟩ : SFrac), (⟨0, 0⟩ : SFrac)⟩ : SPair).Focal).Num), vi (((⟨(⟨0, 0⟩ : SFrac), (⟨0, 0⟩ : SFrac), (⟨0, 0⟩ : SFrac), (⟨0, 0⟩ : SFrac)⟩ : SPair).Focal).Den), vi (((⟨(⟨0, 0⟩ : SFrac), (⟨0, 0⟩ : SFrac), (⟨0, 0⟩ : SFrac), (⟨0, 0⟩ : SFrac)⟩ : SPair).Back).Num), vi (((⟨(⟨0, 0⟩ : SFrac), (⟨0, 0⟩ : SFrac), (⟨0, 0⟩ : SFrac), (⟨0, 0⟩ : SFrac)⟩ : SPair).Back).Den), vi (((⟨(⟨0, 0⟩ : SFrac), (⟨0, 0⟩ : SFrac), (⟨0, 0⟩ : SFrac), (⟨0, 0⟩ : SFrac)⟩ : SPair).Magnify).Num), vi (((⟨(⟨0, 0⟩ : SFrac), (⟨0, 0⟩ : SFrac), (⟨0, 0⟩ : SFrac), (⟨0, 0⟩ : SFrac)⟩ : SPair).Magnify).Den), vi (((⟨(⟨0, 0⟩ : SFrac), (⟨0, 0⟩ : SFrac), (⟨0, 0⟩ : SFrac), (⟨0, 0⟩ : SFrac)⟩ : SPair).Obstruct).Num), vi (((⟨(⟨0, 0⟩ : SFrac), (⟨0, 0⟩ : SFrac), (⟨0, 0⟩ : SFrac), (⟨0, 0⟩ : SFrac)⟩ : SPair).Obstruct).Den)], vi z0] := by first | rfl | (simp only [unfr_vi, List.map_cons, List.map_nil, un_i]; done) | (simp only [unfr_vi, List.map_cons, List.map_nil, un_i]; rfl) | (simp only [unfr_vi, List.map_cons, List.map_nil, un_i, List.length_cons, List.length_nil, List.length_append]; done)
def nspeculumref02_TwoMirrors (k : Nat) (a0 : Int) (a1 : Int) (a2 : Int) : Option (SPair × Int) :=
  (nspeculumref02_CheckElements k ([(⟨2, a0⟩ : SElement), (⟨1, a2⟩ : SElement), (⟨2, a1⟩ : SElement)] : List SElement)).bind fun r2752 => (if r2752 = 0 then ((nspeculumref02_MatrixOf k ([(⟨2, a0⟩ : SElement), (⟨1, a2⟩ : SElement), (⟨2, a1⟩ : SElement)] : List SElement)).bind fun r2756 => (if r2756.2 = 0 then ((nspeculumref02_Focal k r2756.1).bind fun r2761 => (if r2761.2 = 0 then ((nspeculumref02_BackFocus k r2756.1).bind fun r2766 => (if r2766.2 = 0 then ((nspeculumref02_Whole k a0).bind fun r2771 => ((nspeculumref02_Whole k 2).bind fun r2773 => ((n_speculumref02_Way_Quo k (⟨false⟩ : SWay) r2771 r2773).bind fun r2775 => ((n_speculumref02_Way_Quo k r2775.2 r2761.1 r2775.1).bind fun r2778 => ((nspeculumref02_Whole k 1).bind fun r2782 => ((nspeculumref02_Whole k (w64 (2 * a2))).bind fun r2784 => ((n_speculumref02_Way_Quo k r2778.2 r2784 r2771).bind fun r2788 => ((n_speculumref02_Way_Sub k r2788.2 r2782 r2788.1).bind fun r2791 => (if r2791.2.Large = true then (some ((⟨(⟨0, 0⟩ : SFrac), (⟨0, 0⟩ : SFrac), (⟨0, 0⟩ : SFrac), (⟨0, 0⟩ : SFrac)⟩ : SPair), 8)) else (some ((⟨r2761.1, r2766.1, r2778.1, r2791.1⟩ : SPair), 0))))))))))) else (some ((⟨(⟨0, 0⟩ : SFrac), (⟨0, 0⟩ : SFrac), (⟨0, 0⟩ : SFrac), (⟨0, 0⟩ : SFrac)⟩ : SPair), r2766.2)))) else (some ((⟨(⟨0, 0⟩ : SFrac), (⟨0, 0⟩ : SFrac), (⟨0, 0⟩ : SFrac), (⟨0, 0⟩ : SFrac)⟩ : SPair), r2761.2)))) else (some ((⟨(⟨0, 0⟩ : SFrac), (⟨0, 0⟩ : SFrac), (⟨0, 0⟩ : SFrac), (⟨0, 0⟩ : SFrac)⟩ : SPair), r2756.2)))) else (some ((⟨(⟨0, 0⟩ : SFrac), (⟨0, 0⟩ : SFrac), (⟨0, 0⟩ : SFrac), (⟨0, 0⟩ : SFrac)⟩ : SPair), r2752)))
theorem nspeculumref02_TwoMirrors_ok (k : Nat) (a0 : Int) (a1 : Int) (a2 : Int) (r : (SPair × Int)) (h : nspeculumref02_TwoMirrors k a0 a1 a2 = some r) : VC Go.Proofs.Try.prog 36 [vi a0, vi a1, vi a2] (VV.tu [VV.ag (c_SPair r.1), vi r.2]) := by
 unfold nspeculumref02_TwoMirrors at h
 obtain ⟨r2752, h2753, h⟩ := bs h
 have e2754 := (VC.args (nspeculumref02_CheckElements_ok k ([(⟨2, a0⟩ : SElement), (⟨1, a2⟩ : SElement), (⟨2, a1⟩ : SElement)] : List SElement) _ h2753) (eqWF_5 a0 a2 a1))
 rcases ifs h with ⟨h2755, h⟩ | ⟨h2755, h⟩
 ·obtain ⟨r2756, h2757, h⟩ := bs h
  have e2758 := (VC.args (nspeculumref02_MatrixOf_ok k ([(⟨2, a0⟩ : SElement), (⟨1, a2⟩ : SElement), (⟨2, a1⟩ : SElement)] : List SElement) _ h2757) (eqWF_5 a0 a2 a1))
  have e2759 := (ti (an e2758 (ti (ti (ti (ti (ti (ti trivial))))))))
  rcases ifs h with ⟨h2760, h⟩ | ⟨h2760, h⟩
  ·obtain ⟨r2761, h2762, h⟩ := bs h
   have e2763 := (nspeculumref02_Focal_ok k r2756.1 _ h2762)
   have e2764 := (ti (an e2763 (ti (ti (ti (ti (ti (ti trivial))))))))
   rcases ifs h with ⟨h2765, h⟩ | ⟨h2765, h⟩
   ·obtain ⟨r2766, h2767, h⟩ := bs h
    have e2768 := (nspeculumref02_BackFocus_ok k r2756.1 _ h2767)
    have e2769 := (ti (an e2768 (ti (ti (ti (ti (ti (ti trivial))))))))
    rcases ifs h with ⟨h2770, h⟩ | ⟨h2770, h⟩
    ·obtain ⟨r2771, h2772, h⟩ := bs h
     obtain ⟨r2773, h2774, h⟩ := bs h
     obtain ⟨r2775, h2776, h⟩ := bs h
     have e2777 := (an (VM.args (n_speculumref02_Way_Quo_ok k (⟨false⟩ : SWay) r2771 r2773 _ h2776) rfl eqWF_2 rfl) (an (ti trivial) (ti trivial)))
     obtain ⟨r2778, h2779, h⟩ := bs h
     have e2780 := (an (n_speculumref02_Way_Quo_ok k r2775.2 r2761.1 r2775.1 _ h2779) (an (ti trivial) (ti trivial)))
     have e2781 := (ti (ti (ti (an (nspeculumref02_Whole_ok k a0 _ h2772) (an (nspeculumref02_Whole_ok k 2 _ h2774) (an e2777 (an e2780 (ti (ti trivial)))))))))
     obtain ⟨r2782, h2783, h⟩ := bs h
     obtain ⟨r2784, h2785, h⟩ := bs h
     have e2786 := (nspeculumref02_Whole_ok k (w64 (2 * a2)) _ h2785)
     obtain ⟨r2788, h2789, h⟩ := bs h
     have e2790 := (an (n_speculumref02_Way_Quo_ok k r2778.2 r2784 r2771 _ h2789) (an (ti trivial) (ti trivial)))
     obtain ⟨r2791, h2792, h⟩ := bs h
     have e2793 := (an (n_speculumref02_Way_Sub_ok k r2788.2 r2782 r2788.1 _ h2792) (an (ti trivial) (ti trivial)))
     have e2794 := (an (nspeculumref02_Whole_ok k 1 _ h2783) (ti (ti (an e2786 (ti (an (nspeculumref02_Whole_ok k a0 _ h2772) (an e2790 (an e2793 (ti (ti trivial))))))))))
     rcases ifs h with ⟨h2795, h⟩ | ⟨h2795, h⟩
     ·injection h with h; subst h
      exact fun_ok pm pn Go.Proofs.Try.func36 (r0 := VV.tu [VV.ag [vi 0, vi 0, vi 0, vi 0, vi 0, vi 0, vi 0, vi 0], vi 8]) (ans := [.reg (.n :: .n :: []), .reg (nN 8 []), .reg (.n :: .call (vi r2752) :: .n :: []), .reg (.n :: .n :: []), .br false, .reg (.n :: .call (VV.tu [VV.ag (c_SMatrix r2756.1), vi r2756.2]) :: nN 6 []), .reg (.n :: .n :: []), .br false, .reg (.n :: []), .reg (.n :: .call (VV.tu [VV.ag (c_SFrac r2761.1), vi r2761.2]) :: nN 6 []), .reg (.n :: .n :: []), .br false, .reg (.n :: .call (VV.tu [VV.ag (c_SFrac r2766.1), vi r2766.2]) :: nN 6 []), .reg (.n :: .n :: []), .br false, .reg (.n :: []), .reg (arWF_11 r2771 r2773 r2775 r2778), .reg (arWF_12 r2782 r2784 r2771 r2788 r2791), .reg (.n :: .n :: []), .br true, .reg (nN 3 [])]) (fr := true) (by kernel_rfl) (an (an (ti (ti trivial)) (an (ti (ti (ti (ti (ti (ti (ti (ti trivial)))))))) (an (an (ti (an e2754 (ti trivial))) (an (ti (ti trivial)) (an (not_f (decide_eq_true h2755)) trivial))) (an e2759 (an (an (ti (ti trivial)) (an (not_f (decide_eq_true h2760)) trivial)) (an (ti trivial) (an (an e2764 (an (ti (ti trivial)) (an (not_f (decide_eq_true h2765)) trivial))) (an (an e2769 (an (ti (ti trivial)) (an (not_f (decide_eq_true h2770)) trivial))) (an (ti trivial) (an e2781 (an e2794 (an (ti (ti trivial)) (an h2795 (an (ti (ti (ti trivial))) trivial)))))))))))))) (an (ti (ti (ti (ti (ti (ti (ti (ti (ti trivial))))))))) (ti trivial))) (Wv.of_eq eqWF_12)
     ·injection h with h; subst h
      exact fun_ok pm pn Go.Proofs.Try.func36 (r0 := VV.tu [VV.ag [vi r2761.1.Num, vi r2761.1.Den, vi r2766.1.Num, vi r2766.1.Den, vi r2778.1.Num, vi r2778.1.Den, vi r2791.1.Num, vi r2791.1.Den], vi 0]) (ans := [.reg (.n :: .n :: []), .reg (nN 8 []), .reg (.n :: .call (vi r2752) :: .n :: []), .reg (.n :: .n :: []), .br false, .reg (.n :: .call (VV.tu [VV.ag (c_SMatrix r2756.1), vi r2756.2]) :: nN 6 []), .reg (.n :: .n :: []), .br false, .reg (.n :: []), .reg (.n :: .call (VV.tu [VV.ag (c_SFrac r2761.1), vi r2761.2]) :: nN 6 []), .reg (.n :: .n :: []), .br false, .reg (.n :: .call (VV.tu [VV.ag (c_SFrac r2766.1), vi r2766.2]) :: nN 6 []), .reg (.n :: .n :: []), .br false, .reg (.n :: []), .reg (arWF_11 r2771 r2773 r2775 r2778), .reg (arWF_12 r2782 r2784 r2771 r2788 r2791), .reg (.n :: .n :: []), .br false, .reg (nN 3 [])]) (fr := true) (by kernel_rfl) (an (an (ti (ti trivial)) (an (ti (ti (ti (ti (ti (ti (ti (ti trivial)))))))) (an (an (ti (an e2754 (ti trivial))) (an (ti (ti trivial)) (an (not_f (decide_eq_true h2755)) trivial))) (an e2759 (an (an (ti (ti trivial)) (an (not_f (decide_eq_true h2760)) trivial)) (an (ti trivial) (an (an e2764 (an (ti (ti trivial)) (an (not_f (decide_eq_true h2765)) trivial))) (an (an e2769 (an (ti (ti trivial)) (an (not_f (decide_eq_true h2770)) trivial))) (an (ti trivial) (an e2781 (an e2794 (an (an (ti (ti trivial)) (an (bool_f h2795) trivial)) (an (ti (ti (ti trivial))) trivial))))))))))))) (an (ti (ti (ti (ti (ti (ti (ti (ti (ti trivial))))))))) (ti trivial))) (Wv.of_eq (eqWF_13 r2761 r2766 r2778 r2791))
    ·injection h with h; subst h
     exact fun_ok pm pn Go.Proofs.Try.func36 (r0 := VV.tu [VV.ag [vi 0, vi 0, vi 0, vi 0, vi 0, vi 0, vi 0, vi 0], vi r2766.2]) (ans := [.reg (.n :: .n :: []), .reg (nN 8 []), .reg (.n :: .call (vi r2752) :: .n :: []), .reg (.n :: .n :: []), .br false, .reg (.n :: .call (VV.tu [VV.ag (c_SMatrix r2756.1), vi r2756.2]) :: nN 6 []), .reg (.n :: .n :: []), .br false, .reg (.n :: []), .reg (.n :: .call (VV.tu [VV.ag (c_SFrac r2761.1), vi r2761.2]) :: nN 6 []), .reg (.n :: .n :: []), .br false, .reg (.n :: .call (VV.tu [VV.ag (c_SFrac r2766.1), vi r2766.2]) :: nN 6 []), .reg (.n :: .n :: []), .br true, .reg (nN 4 [])]) (fr := true) (by kernel_rfl) (an (an (ti (ti trivial)) (an (ti (ti (ti (ti (ti (ti (ti (ti trivial)))))))) (an (an (ti (an e2754 (ti trivial))) (an (ti (ti trivial)) (an (not_f (decide_eq_true h2755)) trivial))) (an e2759 (an (an (ti (ti trivial)) (an (not_f (decide_eq_true h2760)) trivial)) (an (ti trivial) (an (an e2764 (an (ti (ti trivial)) (an (not_f (decide_eq_true h2765)) trivial))) (an e2769 (an (ti (ti trivial)) (an (not_t (decide_eq_false h2770)) (an (ti (ti (ti (ti trivial)))) trivial))))))))))) (an (ti (ti (ti (ti (ti (ti (ti (ti (ti trivial))))))))) (ti trivial))) (Wv.of_eq (eqWF_14 r2766))
   ·injection h with h; subst h
    exact fun_ok pm pn Go.Proofs.Try.func36 (r0 := VV.tu [VV.ag [vi 0, vi 0, vi 0, vi 0, vi 0, vi 0, vi 0, vi 0], vi r2761.2]) (ans := [.reg (.n :: .n :: []), .reg (nN 8 []), .reg (.n :: .call (vi r2752) :: .n :: []), .reg (.n :: .n :: []), .br false, .reg (.n :: .call (VV.tu [VV.ag (c_SMatrix r2756.1), vi r2756.2]) :: nN 6 []), .reg (.n :: .n :: []), .br false, .reg (.n :: []), .reg (.n :: .call (VV.tu [VV.ag (c_SFrac r2761.1), vi r2761.2]) :: nN 6 []), .reg (.n :: .n :: []), .br true, .reg (nN 4 [])]) (fr := true) (by kernel_rfl) (an (an (ti (ti trivial)) (an (ti (ti (ti (ti (ti (ti (ti (ti trivial)))))))) (an (an (ti (an e2754 (ti trivial))) (an (ti (ti trivial)) (an (not_f (decide_eq_true h2755)) trivial))) (an e2759 (an (an (ti (ti trivial)) (an (not_f (decide_eq_true h2760)) trivial)) (an (ti trivial) (an e2764 (an (ti (ti trivial)) (an (not_t (decide_eq_false h2765)) (an (ti (ti (ti (ti trivial)))) trivial)))))))))) (an (ti (ti (ti (ti (ti (ti (ti (ti (ti trivial))))))))) (ti trivial))) (Wv.of_eq (eqWF_14 r2761))
  ·injection h with h; subst h
   exact fun_ok pm pn Go.Proofs.Try.func36 (r0 := VV.tu [VV.ag [vi 0, vi 0, vi 0, vi 0, vi 0, vi 0, vi 0, vi 0], vi r2756.2]) (ans := [.reg (.n :: .n :: []), .reg (nN 8 []), .reg (.n :: .call (vi r2752) :: .n :: []), .reg (.n :: .n :: []), .br false, .reg (.n :: .call (VV.tu [VV.ag (c_SMatrix r2756.1), vi r2756.2]) :: nN 6 []), .reg (.n :: .n :: []), .br true, .reg (nN 4 [])]) (fr := true) (by kernel_rfl) (an (an (ti (ti trivial)) (an (ti (ti (ti (ti (ti (ti (ti (ti trivial)))))))) (an (an (ti (an e2754 (ti trivial))) (an (ti (ti trivial)) (an (not_f (decide_eq_true h2755)) trivial))) (an e2759 (an (ti (ti trivial)) (an (not_t (decide_eq_false h2760)) (an (ti (ti (ti (ti trivial)))) trivial))))))) (an (ti (ti (ti (ti (ti (ti (ti (ti (ti trivial))))))))) (ti trivial))) (Wv.of_eq (eqWF_15 r2756))
 ·injection h with h; subst h
  exact fun_ok pm pn Go.Proofs.Try.func36 (r0 := VV.tu [VV.ag [vi 0, vi 0, vi 0, vi 0, vi 0, vi 0, vi 0, vi 0], vi r2752]) (ans := [.reg (.n :: .n :: []), .reg (nN 8 []), .reg (.n :: .call (vi r2752) :: .n :: []), .reg (.n :: .n :: []), .br true, .reg (nN 4 [])]) (fr := true) (by kernel_rfl) (an (an (ti (ti trivial)) (an (ti (ti (ti (ti (ti (ti (ti (ti trivial)))))))) (an (ti (an e2754 (ti trivial))) (an (ti (ti trivial)) (an (not_t (decide_eq_false h2755)) (an (ti (ti (ti (ti trivial)))) trivial)))))) (an (ti (ti (ti (ti (ti (ti (ti (ti (ti trivial))))))))) (ti trivial))) (Wv.of_eq (eqWF_16 r2752))
def nspeculumlaw02_OpticsFoci (k : Nat) (a0 : SMatrix) (a1 : A59) : Option Bool :=
  (nspeculumlaw02_awake k).bind fun r2840 => (if r2840 = true then ((noptics_Focal k a0).bind fun r2844 => ((noptics_BackFocus k a0).bind fun r2847 => ((nspeculumref02_CheckMatrix k a0).bind fun r2850 => (if r2850 = 0 then ((nspeculumref02_Focal k a0).bind fun r2854 => ((nspeculumref02_BackFocus k a0).bind fun r2857 => (if r2844.2 = r2854.2 then (if ((r2844.1.Num : Int) == r2854.1.Num && ((r2844.1.Den : Int) == r2854.1.Den && true)) = true then (if r2847.2 = r2857.2 then (if ((r2847.1.Num : Int) == r2857.1.Num && ((r2847.1.Den : Int) == r2857.1.Den && true)) = true then ((noptics_TwoMirrors k a1.e0 a1.e1 a1.e2).bind fun r2875 => ((nspeculumref02_TwoMirrors k a1.e0 a1.e1 a1.e2).bind fun r2882 => (if r2875.2 = r2882.2 then (some ((r2875.1.Focal.Num : Int) == r2882.1.Focal.Num && ((r2875.1.Focal.Den : Int) == r2882.1.Focal.Den && ((r2875.1.Back.Num : Int) == r2882.1.Back.Num && ((r2875.1.Back.Den : Int) == r2882.1.Back.Den && ((r2875.1.Magnify.Num : Int) == r2882.1.Magnify.Num && ((r2875.1.Magnify.Den : Int) == r2882.1.Magnify.Den && ((r2875.1.Obstruct.Num : Int) == r2882.1.Obstruct.Num && ((r2875.1.Obstruct.Den : Int) == r2882.1.Obstruct.Den && true))))))))) else (some false)))) else (some false)) else (some false)) else (some false)) else (some false)))) else (if r2844.2 = r2850 then (if r2847.2 = r2850 then (if ((r2844.1.Num : Int) == 0 && ((r2844.1.Den : Int) == 0 && true)) = true then (if ((r2847.1.Num : Int) == 0 && ((r2847.1.Den : Int) == 0 && true)) = true then ((noptics_TwoMirrors k a1.e0 a1.e1 a1.e2).bind fun r2908 => ((nspeculumref02_TwoMirrors k a1.e0 a1.e1 a1.e2).bind fun r2915 => (if r2908.2 = r2915.2 then (some ((r2908.1.Focal.Num : Int) == r2915.1.Focal.Num && ((r2908.1.Focal.Den : Int) == r2915.1.Focal.Den && ((r2908.1.Back.Num : Int) == r2915.1.Back.Num && ((r2908.1.Back.Den : Int) == r2915.1.Back.Den && ((r2908.1.Magnify.Num : Int) == r2915.1.Magnify.Num && ((r2908.1.Magnify.Den : Int) == r2915.1.Magnify.Den && ((r2908.1.Obstruct.Num : Int) == r2915.1.Obstruct.Num && ((r2908.1.Obstruct.Den : Int) == r2915.1.Obstruct.Den && true))))))))) else (some false)))) else (some false)) else (some false)) else (some false)) else (some false)))))) else (some false))
theorem nspeculumlaw02_OpticsFoci_ok (k : Nat) (a0 : SMatrix) (a1 : A59) (r : Bool) (h : nspeculumlaw02_OpticsFoci k a0 a1 = some r) : VC Go.Proofs.Try.prog 8 [VV.ag (c_SMatrix a0), VV.ag (c_A59 a1)] (vb r) := by
 unfold nspeculumlaw02_OpticsFoci at h
 obtain ⟨r2840, h2841, h⟩ := bs h
 have e2842 := (an (nspeculumlaw02_awake_ok k _ h2841) (ti trivial))
 rcases ifs h with ⟨h2843, h⟩ | ⟨h2843, h⟩
 ·obtain ⟨r2844, h2845, h⟩ := bs h
  have e2846 := (ti (an (noptics_Focal_ok k a0 _ h2845) (ti (ti (ti (ti (ti (ti trivial))))))))
  obtain ⟨r2847, h2848, h⟩ := bs h
  have e2849 := (ti (an (noptics_BackFocus_ok k a0 _ h2848) (ti (ti (ti (ti (ti (ti trivial))))))))
  obtain ⟨r2850, h2851, h⟩ := bs h
  have e2852 := (nspeculumref02_CheckMatrix_ok k a0 _ h2851)
  rcases ifs h with ⟨h2853, h⟩ | ⟨h2853, h⟩
  ·obtain ⟨r2854, h2855, h⟩ := bs h
   have e2856 := (ti (an (nspeculumref02_Focal_ok k a0 _ h2855) (ti (ti (ti (ti (ti (ti trivial))))))))
   obtain ⟨r2857, h2858, h⟩ := bs h
   have e2859 := (nspeculumref02_BackFocus_ok k a0 _ h2858)
   have e2860 := (ti (an e2859 (ti (ti (ti (ti (ti (ti trivial))))))))
   rcases ifs h with ⟨h2861, h⟩ | ⟨h2861, h⟩
   ·have e2862 := (an (not_f (decide_eq_true h2861)) trivial)
    have e2863 := (an (not_f (decide_eq_true h2861)) trivial)
    have e2864 := (an (not_f (decide_eq_true h2861)) (show List.map kdV [Value.int .i64 r2844.1.Num, Value.int .i64 r2844.1.Den] = List.map kdV [Value.int .i64 r2854.1.Num, Value.int .i64 r2854.1.Den] ∧ EqOK Go.Proofs.Try.prog 23 (List.map kdV [Value.int .i64 r2854.1.Num, Value.int .i64 r2854.1.Den]) from ⟨rfl, eqok23⟩))
    rcases ifs h with ⟨h2865, h⟩ | ⟨h2865, h⟩
    ·rcases ifs h with ⟨h2866, h⟩ | ⟨h2866, h⟩
     ·have e2867 := (an (not_f (decide_eq_true h2866)) trivial)
      have e2868 := (an (not_f (decide_eq_true h2866)) trivial)
      have e2869 := (an (not_f (decide_eq_true h2866)) (show List.map kdV [Value.int .i64 r2847.1.Num, Value.int .i64 r2847.1.Den] = List.map kdV [Value.int .i64 r2857.1.Num, Value.int .i64 r2857.1.Den] ∧ EqOK Go.Proofs.Try.prog 23 (List.map kdV [Value.int .i64 r2857.1.Num, Value.int .i64 r2857.1.Den]) from ⟨rfl, eqok23⟩))
      have e2870 := (ti (ti (ti (ti (an e2862 (an e2863 (an e2864 (an (not_f (decide_eq_true h2861)) (ti (an (an (not_f h2865) trivial) (an (an (not_f h2865) trivial) (an (an (not_f h2865) trivial) (an (not_f h2865) (ti (an e2867 (an e2868 (an e2869 (an (not_f (decide_eq_true h2866)) trivial))))))))))))))))))
      rcases ifs h with ⟨h2871, h⟩ | ⟨h2871, h⟩
      ·have e2872 := (show (0:Int) ≤ 0 ∧ (0:Int) < ((3 : Nat) : Int) from ⟨by decide, by decide⟩)
       have e2873 := (show (0:Int) ≤ 1 ∧ (1:Int) < ((3 : Nat) : Int) from ⟨by decide, by decide⟩)
       have e2874 := (show (0:Int) ≤ 2 ∧ (2:Int) < ((3 : Nat) : Int) from ⟨by decide, by decide⟩)
       obtain ⟨r2875, h2876, h⟩ := bs h
       have e2877 := (noptics_TwoMirrors_ok k a1.e0 a1.e1 a1.e2 _ h2876)
       have e2878 := (an e2872 (ti (an e2873 (ti (an e2874 (ti (an e2877 (ti (ti (ti (ti (ti (ti trivial)))))))))))))
       have e2879 := (show (0:Int) ≤ 0 ∧ (0:Int) < ((3 : Nat) : Int) from ⟨by decide, by decide⟩)
       have e2880 := (show (0:Int) ≤ 1 ∧ (1:Int) < ((3 : Nat) : Int) from ⟨by decide, by decide⟩)
       have e2881 := (show (0:Int) ≤ 2 ∧ (2:Int) < ((3 : Nat) : Int) from ⟨by decide, by decide⟩)
       obtain ⟨r2882, h2883, h⟩ := bs h
       have e2884 := (nspeculumref02_TwoMirrors_ok k a1.e0 a1.e1 a1.e2 _ h2883)
       have e2885 := (an e2879 (ti (an e2880 (ti (an e2881 (ti (an e2884 (ti (ti (ti (ti (ti (ti trivial)))))))))))))
       rcases ifs h with ⟨h2886, h⟩ | ⟨h2886, h⟩
       ·have e2887 := (an (decide_eq_true h2886) (show List.map kdV [Value.int .i64 r2875.1.Focal.Num, Value.int .i64 r2875.1.Focal.Den, Value.int .i64 r2875.1.Back.Num, Value.int .i64 r2875.1.Back.Den, Value.int .i64 r2875.1.Magnify.Num, Value.int .i64 r2875.1.Magnify.Den, Value.int .i64 r2875.1.Obstruct.Num, Value.int .i64 r2875.1.Obstruct.Den] = List.map kdV [Value.int .i64 r2882.1.Focal.Num, Value.int .i64 r2882.1.Focal.Den, Value.int .i64 r2882.1.Back.Num, Value.int .i64 r2882.1.Back.Den, Value.int .i64 r2882.1.Magnify.Num, Value.int .i64 r2882.1.Magnify.Den, Value.int .i64 r2882.1.Obstruct.Num, Value.int .i64 r2882.1.Obstruct.Den] ∧ EqOK Go.Proofs.Try.prog 66 (List.map kdV [Value.int .i64 r2882.1.Focal.Num, Value.int .i64 r2882.1.Focal.Den, Value.int .i64 r2882.1.Back.Num, Value.int .i64 r2882.1.Back.Den, Value.int .i64 r2882.1.Magnify.Num, Value.int .i64 r2882.1.Magnify.Den, Value.int .i64 r2882.1.Obstruct.Num, Value.int .i64 r2882.1.Obstruct.Den]) from ⟨rfl, eqok66⟩))
        have e2888 := (ti (ti (ti (ti (an (an (decide_eq_true h2886) trivial) (an (an (decide_eq_true h2886) trivial) (an e2887 (an (decide_eq_true h2886) (ti trivial)))))))))
        injection h with h; subst h
        exact fun_ok pm pn Go.Proofs.Try.func8 (r0 := vb ((r2875.1.Focal.Num : Int) == r2882.1.Focal.Num && ((r2875.1.Focal.Den : Int) == r2882.1.Focal.Den && ((r2875.1.Back.Num : Int) == r2882.1.Back.Num && ((r2875.1.Back.Den : Int) == r2882.1.Back.Den && ((r2875.1.Magnify.Num : Int) == r2882.1.Magnify.Num && ((r2875.1.Magnify.Den : Int) == r2882.1.Magnify.Den && ((r2875.1.Obstruct.Num : Int) == r2882.1.Obstruct.Num && ((r2875.1.Obstruct.Den : Int) == r2882.1.Obstruct.Den && true))))))))) (ans := [.reg (nN 3 []), .reg (.call (vb r2840) :: .n :: []), .br false, .reg (.n :: .call (VV.tu [VV.ag (c_SFrac r2844.1), vi r2844.2]) :: nN 6 []), .reg (.n :: .call (VV.tu [VV.ag (c_SFrac r2847.1), vi r2847.2]) :: nN 6 []), .reg (.n :: .call (vi r2850) :: .n :: []), .reg (.n :: .n :: []), .br false, .reg (.n :: .call (VV.tu [VV.ag (c_SFrac r2854.1), vi r2854.2]) :: nN 6 []), .reg (.n :: .call (VV.tu [VV.ag (c_SFrac r2857.1), vi r2857.2]) :: nN 6 []), .reg (nN 7 (.b false :: nN 4 (.b false :: nN 4 (.b false :: [])))), .br false, .reg (nN 6 (.call (VV.tu [VV.ag (c_SPair r2875.1), vi r2875.2]) :: nN 6 [])), .reg (nN 6 (.call (VV.tu [VV.ag (c_SPair r2882.1), vi r2882.2]) :: nN 6 [])), .reg (nN 7 (.b true :: .n :: []))]) (fr := true) (by kernel_rfl) (an (an (ti (ti (ti trivial))) (an (an e2842 (an (not_f h2843) trivial)) (an e2846 (an e2849 (an (an (ti (an e2852 (ti trivial))) (an (ti (ti trivial)) (an (not_f (decide_eq_true h2853)) (an e2856 (an e2860 (an e2870 (an (not_f h2871) trivial))))))) (an e2878 (an e2885 (an e2888 trivial)))))))) (ti trivial)) (Wv.refl _)
       ·have e2889 := (ti (ti (ti (ti (an (decide_eq_false h2886) (an (decide_eq_false h2886) (an (decide_eq_false h2886) (an (decide_eq_false h2886) (ti trivial)))))))))
        injection h with h; subst h
        exact fun_ok pm pn Go.Proofs.Try.func8 (r0 := vb false) (ans := [.reg (nN 3 []), .reg (.call (vb r2840) :: .n :: []), .br false, .reg (.n :: .call (VV.tu [VV.ag (c_SFrac r2844.1), vi r2844.2]) :: nN 6 []), .reg (.n :: .call (VV.tu [VV.ag (c_SFrac r2847.1), vi r2847.2]) :: nN 6 []), .reg (.n :: .call (vi r2850) :: .n :: []), .reg (.n :: .n :: []), .br false, .reg (.n :: .call (VV.tu [VV.ag (c_SFrac r2854.1), vi r2854.2]) :: nN 6 []), .reg (.n :: .call (VV.tu [VV.ag (c_SFrac r2857.1), vi r2857.2]) :: nN 6 []), .reg (nN 7 (.b false :: nN 4 (.b false :: nN 4 (.b false :: [])))), .br false, .reg (nN 6 (.call (VV.tu [VV.ag (c_SPair r2875.1), vi r2875.2]) :: nN 6 [])), .reg (nN 6 (.call (VV.tu [VV.ag (c_SPair r2882.1), vi r2882.2]) :: nN 6 [])), .reg (nN 4 (nS 3 (.b false :: .n :: [])))]) (fr := true) (by kernel_rfl) (an (an (ti (ti (ti trivial))) (an (an e2842 (an (not_f h2843) trivial)) (an e2846 (an e2849 (an (an (ti (an e2852 (ti trivial))) (an (ti (ti trivial)) (an (not_f (decide_eq_true h2853)) (an e2856 (an e2860 (an e2870 (an (not_f h2871) trivial))))))) (an e2878 (an e2885 (an e2889 trivial)))))))) (ti trivial)) (Wv.refl _)
      ·injection h with h; subst h
       exact fun_ok pm pn Go.Proofs.Try.func8 (r0 := vb false) (ans := [.reg (nN 3 []), .reg (.call (vb r2840) :: .n :: []), .br false, .reg (.n :: .call (VV.tu [VV.ag (c_SFrac r2844.1), vi r2844.2]) :: nN 6 []), .reg (.n :: .call (VV.tu [VV.ag (c_SFrac r2847.1), vi r2847.2]) :: nN 6 []), .reg (.n :: .call (vi r2850) :: .n :: []), .reg (.n :: .n :: []), .br false, .reg (.n :: .call (VV.tu [VV.ag (c_SFrac r2854.1), vi r2854.2]) :: nN 6 []), .reg (.n :: .call (VV.tu [VV.ag (c_SFrac r2857.1), vi r2857.2]) :: nN 6 []), .reg (nN 7 (.b false :: nN 4 (.b false :: nN 4 (.b false :: [])))), .br true, .reg (.n :: [])]) (fr := true) (by kernel_rfl) (an (an (ti (ti (ti trivial))) (an (an e2842 (an (not_f h2843) trivial)) (an e2846 (an e2849 (an (ti (an e2852 (ti trivial))) (an (ti (ti trivial)) (an (not_f (decide_eq_true h2853)) (an e2856 (an e2860 (an e2870 (an (not_t (bool_f h2871)) (an (ti trivial) trivial)))))))))))) (ti trivial)) (Wv.refl _)
     ·have e2890 := (ti (ti (ti (ti (an e2862 (an e2863 (an e2864 (an (not_f (decide_eq_true h2861)) (ti (an (an (not_f h2865) trivial) (an (an (not_f h2865) trivial) (an (an (not_f h2865) trivial) (an (not_f h2865) (ti (an (not_t (decide_eq_false h2866)) (an (not_t (decide_eq_false h2866)) (an (not_t (decide_eq_false h2866)) (an (not_t (decide_eq_false h2866)) trivial))))))))))))))))))
      injection h with h; subst h
      exact fun_ok pm pn Go.Proofs.Try.func8 (r0 := vb false) (ans := [.reg (nN 3 []), .reg (.call (vb r2840) :: .n :: []), .br false, .reg (.n :: .call (VV.tu [VV.ag (c_SFrac r2844.1), vi r2844.2]) :: nN 6 []), .reg (.n :: .call (VV.tu [VV.ag (c_SFrac r2847.1), vi r2847.2]) :: nN 6 []), .reg (.n :: .call (vi r2850) :: .n :: []), .reg (.n :: .n :: []), .br false, .reg (.n :: .call (VV.tu [VV.ag (c_SFrac r2854.1), vi r2854.2]) :: nN 6 []), .reg (.n :: .call (VV.tu [VV.ag (c_SFrac r2857.1), vi r2857.2]) :: nN 6 []), .reg (nN 7 (.b false :: nN 4 (.b false :: .n :: nS 3 (.b true :: [])))), .br true, .reg (.n :: [])]) (fr := true) (by kernel_rfl) (an (an (ti (ti (ti trivial))) (an (an e2842 (an (not_f h2843) trivial)) (an e2846 (an e2849 (an (ti (an e2852 (ti trivial))) (an (ti (ti trivial)) (an (not_f (decide_eq_true h2853)) (an e2856 (an e2860 (an e2890 (an rt (an (ti trivial) trivial)))))))))))) (ti trivial)) (Wv.refl _)
    ·have e2891 := (ti (ti (ti (ti (an e2862 (an e2863 (an e2864 (an (not_f (decide_eq_true h2861)) (ti (an (not_t (bool_f h2865)) (an (not_t (bool_f h2865)) (an (not_t (bool_f h2865)) (an (not_t (bool_f h2865)) (ti (an rt (an rt (an rt (an rt trivial))))))))))))))))))
     injection h with h; subst h
     exact fun_ok pm pn Go.Proofs.Try.func8 (r0 := vb false) (ans := [.reg (nN 3 []), .reg (.call (vb r2840) :: .n :: []), .br false, .reg (.n :: .call (VV.tu [VV.ag (c_SFrac r2844.1), vi r2844.2]) :: nN 6 []), .reg (.n :: .call (VV.tu [VV.ag (c_SFrac r2847.1), vi r2847.2]) :: nN 6 []), .reg (.n :: .call (vi r2850) :: .n :: []), .reg (.n :: .n :: []), .br false, .reg (.n :: .call (VV.tu [VV.ag (c_SFrac r2854.1), vi r2854.2]) :: nN 6 []), .reg (.n :: .call (VV.tu [VV.ag (c_SFrac r2857.1), vi r2857.2]) :: nN 6 []), .reg (nN 7 (.b false :: .n :: nS 3 (.b true :: .n :: nS 3 (.b true :: [])))), .br true, .reg (.n :: [])]) (fr := true) (by kernel_rfl) (an (an (ti (ti (ti trivial))) (an (an e2842 (an (not_f h2843) trivial)) (an e2846 (an e2849 (an (ti (an e2852 (ti trivial))) (an (ti (ti trivial)) (an (not_f (decide_eq_true h2853)) (an e2856 (an e2860 (an e2891 (an rt (an (ti trivial) trivial)))))))))))) (ti trivial)) (Wv.refl _)
   ·have e2892 := (ti (ti (ti (ti (an (not_t (decide_eq_false h2861)) (an (not_t (decide_eq_false h2861)) (an (not_t (decide_eq_false h2861)) (an (not_t (decide_eq_false h2861)) (ti (an rt (an rt (an rt (an rt (ti (an rt (an rt (an rt (an rt trivial))))))))))))))))))
    injection h with h; subst h
    exact fun_ok pm pn Go.Proofs.Try.func8 (r0 := vb false) (ans := [.reg (nN 3 []), .reg (.call (vb r2840) :: .n :: []), .br false, .reg (.n :: .call (VV.tu [VV.ag (c_SFrac r2844.1), vi r2844.2]) :: nN 6 []), .reg (.n :: .call (VV.tu [VV.ag (c_SFrac r2847.1), vi r2847.2]) :: nN 6 []), .reg (.n :: .call (vi r2850) :: .n :: []), .reg (.n :: .n :: []), .br false, .reg (.n :: .call (VV.tu [VV.ag (c_SFrac r2854.1), vi r2854.2]) :: nN 6 []), .reg (.n :: .call (VV.tu [VV.ag (c_SFrac r2857.1), vi r2857.2]) :: nN 6 []), .reg (nN 4 (nS 3 (.b true :: .n :: nS 3 (.b true :: .n :: nS 3 (.b true :: []))))), .br true, .reg (.n :: [])]) (fr := true) (by kernel_rfl) (an (an (ti (ti (ti trivial))) (an (an e2842 (an (not_f h2843) trivial)) (an e2846 (an e2849 (an (ti (an e2852 (ti trivial))) (an (ti (ti trivial)) (an (not_f (decide_eq_true h2853)) (an e2856 (an e2860 (an e2892 (an rt (an (ti trivial) trivial)))))))))))) (ti trivial)) (Wv.refl _)
  ·rcases ifs h with ⟨h2893, h⟩ | ⟨h2893, h⟩
   ·have e2894 := (an (not_f (decide_eq_true h2893)) trivial)
    have e2895 := (an (not_f (decide_eq_true h2893)) trivial)
    have e2896 := (an (not_f (decide_eq_true h2893)) trivial)
    rcases ifs h with ⟨h2897, h⟩ | ⟨h2897, h⟩
    ·have e2898 := (an (not_f (decide_eq_true h2897)) trivial)
     have e2899 := (an (not_f (decide_eq_true h2897)) trivial)
     have e2900 := (an (not_f (decide_eq_true h2897)) (show List.map kdV [Value.int .i64 r2844.1.Num, Value.int .i64 r2844.1.Den] = List.map kdV [Value.int .i64 0, Value.int .i64 0] ∧ EqOK Go.Proofs.Try.prog 23 (List.map kdV [Value.int .i64 0, Value.int .i64 0]) from ⟨rfl, eqok23⟩))
     rcases ifs h with ⟨h2901, h⟩ | ⟨h2901, h⟩
     ·have e2902 := (an (not_f h2901) (show List.map kdV [Value.int .i64 r2847.1.Num, Value.int .i64 r2847.1.Den] = List.map kdV [Value.int .i64 0, Value.int .i64 0] ∧ EqOK Go.Proofs.Try.prog 23 (List.map kdV [Value.int .i64 0, Value.int .i64 0]) from ⟨rfl, eqok23⟩))
      have e2903 := (ti (ti (ti (ti (an e2894 (an e2895 (an e2896 (an (not_f (decide_eq_true h2893)) (ti (an e2898 (an e2899 (an e2900 (an (not_f (decide_eq_true h2897)) (ti (an (an (not_f h2901) trivial) (an (an (not_f h2901) trivial) (an e2902 (an (not_f h2901) trivial))))))))))))))))))
      rcases ifs h with ⟨h2904, h⟩ | ⟨h2904, h⟩
      ·have e2905 := (show (0:Int) ≤ 0 ∧ (0:Int) < ((3 : Nat) : Int) from ⟨by decide, by decide⟩)
       have e2906 := (show (0:Int) ≤ 1 ∧ (1:Int) < ((3 : Nat) : Int) from ⟨by decide, by decide⟩)
       have e2907 := (show (0:Int) ≤ 2 ∧ (2:Int) < ((3 : Nat) : Int) from ⟨by decide, by decide⟩)
       obtain ⟨r2908, h2909, h⟩ := bs h
       have e2910 := (noptics_TwoMirrors_ok k a1.e0 a1.e1 a1.e2 _ h2909)
       have e2911 := (an e2905 (ti (an e2906 (ti (an e2907 (ti (an e2910 (ti (ti (ti (ti (ti (ti trivial)))))))))))))
       have e2912 := (show (0:Int) ≤ 0 ∧ (0:Int) < ((3 : Nat) : Int) from ⟨by decide, by decide⟩)
       have e2913 := (show (0:Int) ≤ 1 ∧ (1:Int) < ((3 : Nat) : Int) from ⟨by decide, by decide⟩)
       have e2914 := (show (0:Int) ≤ 2 ∧ (2:Int) < ((3 : Nat) : Int) from ⟨by decide, by decide⟩)
       obtain ⟨r2915, h2916, h⟩ := bs h
       have e2917 := (nspeculumref02_TwoMirrors_ok k a1.e0 a1.e1 a1.e2 _ h2916)
       have e2918 := (an e2912 (ti (an e2913 (ti (an e2914 (ti (an e2917 (ti (ti (ti (ti (ti (ti trivial)))))))))))))
       rcases ifs h with ⟨h2919, h⟩ | ⟨h2919, h⟩
       ·have e2920 := (an (decide_eq_true h2919) (show List.map kdV [Value.int .i64 r2908.1.Focal.Num, Value.int .i64 r2908.1.Focal.Den, Value.int .i64 r2908.1.Back.Num, Value.int .i64 r2908.1.Back.Den, Value.int .i64 r2908.1.Magnify.Num, Value.int .i64 r2908.1.Magnify.Den, Value.int .i64 r2908.1.Obstruct.Num, Value.int .i64 r2908.1.Obstruct.Den] = List.map kdV [Value.int .i64 r2915.1.Focal.Num, Value.int .i64 r2915.1.Focal.Den, Value.int .i64 r2915.1.Back.Num, Value.int .i64 r2915.1.Back.Den, Value.int .i64 r2915.1.Magnify.Num, Value.int .i64 r2915.1.Magnify.Den, Value.int .i64 r2915.1.Obstruct.Num, Value.int .i64 r2915.1.Obstruct.Den] ∧ EqOK Go.Proofs.Try.prog 66 (List.map kdV [Value.int .i64 r2915.1.Focal.Num, Value.int .i64 r2915.1.Focal.Den, Value.int .i64 r2915.1.Back.Num, Value.int .i64 r2915.1.Back.Den, Value.int .i64 r2915.1.Magnify.Num, Value.int .i64 r2915.1.Magnify.Den, Value.int .i64 r2915.1.Obstruct.Num, Value.int .i64 r2915.1.Obstruct.Den]) from ⟨rfl, eqok66⟩))
        have e2921 := (ti (ti (ti (ti (an (an (decide_eq_true h2919) trivial) (an (an (decide_eq_true h2919) trivial) (an e2920 (an (decide_eq_true h2919) (ti trivial)))))))))
        injection h with h; subst h
        exact fun_ok pm pn Go.Proofs.Try.func8 (r0 := vb ((r2908.1.Focal.Num : Int) == r2915.1.Focal.Num && ((r2908.1.Focal.Den : Int) == r2915.1.Focal.Den && ((r2908.1.Back.Num : Int) == r2915.1.Back.Num && ((r2908.1.Back.Den : Int) == r2915.1.Back.Den && ((r2908.1.Magnify.Num : Int) == r2915.1.Magnify.Num && ((r2908.1.Magnify.Den : Int) == r2915.1.Magnify.Den && ((r2908.1.Obstruct.Num : Int) == r2915.1.Obstruct.Num && ((r2908.1.Obstruct.Den : Int) == r2915.1.Obstruct.Den && true))))))))) (ans := [.reg (nN 3 []), .reg (.call (vb r2840) :: .n :: []), .br false, .reg (.n :: .call (VV.tu [VV.ag (c_SFrac r2844.1), vi r2844.2]) :: nN 6 []), .reg (.n :: .call (VV.tu [VV.ag (c_SFrac r2847.1), vi r2847.2]) :: nN 6 []), .reg (.n :: .call (vi r2850) :: .n :: []), .reg (.n :: .n :: []), .br true, .reg (nN 7 (.b false :: nN 4 (.b false :: nN 4 (.b false :: [])))), .br false, .reg (nN 6 (.call (VV.tu [VV.ag (c_SPair r2908.1), vi r2908.2]) :: nN 6 [])), .reg (nN 6 (.call (VV.tu [VV.ag (c_SPair r2915.1), vi r2915.2]) :: nN 6 [])), .reg (nN 7 (.b true :: .n :: []))]) (fr := true) (by kernel_rfl) (an (an (ti (ti (ti trivial))) (an (an e2842 (an (not_f h2843) trivial)) (an e2846 (an e2849 (an (an (ti (an e2852 (ti trivial))) (an (ti (ti trivial)) (an (not_t (decide_eq_false h2853)) (an e2903 (an (not_f h2904) trivial))))) (an e2911 (an e2918 (an e2921 trivial)))))))) (ti trivial)) (Wv.refl _)
       ·have e2922 := (ti (ti (ti (ti (an (decide_eq_false h2919) (an (decide_eq_false h2919) (an (decide_eq_false h2919) (an (decide_eq_false h2919) (ti trivial)))))))))
        injection h with h; subst h
        exact fun_ok pm pn Go.Proofs.Try.func8 (r0 := vb false) (ans := [.reg (nN 3 []), .reg (.call (vb r2840) :: .n :: []), .br false, .reg (.n :: .call (VV.tu [VV.ag (c_SFrac r2844.1), vi r2844.2]) :: nN 6 []), .reg (.n :: .call (VV.tu [VV.ag (c_SFrac r2847.1), vi r2847.2]) :: nN 6 []), .reg (.n :: .call (vi r2850) :: .n :: []), .reg (.n :: .n :: []), .br true, .reg (nN 7 (.b false :: nN 4 (.b false :: nN 4 (.b false :: [])))), .br false, .reg (nN 6 (.call (VV.tu [VV.ag (c_SPair r2908.1), vi r2908.2]) :: nN 6 [])), .reg (nN 6 (.call (VV.tu [VV.ag (c_SPair r2915.1), vi r2915.2]) :: nN 6 [])), .reg (nN 4 (nS 3 (.b false :: .n :: [])))]) (fr := true) (by kernel_rfl) (an (an (ti (ti (ti trivial))) (an (an e2842 (an (not_f h2843) trivial)) (an e2846 (an e2849 (an (an (ti (an e2852 (ti trivial))) (an (ti (ti trivial)) (an (not_t (decide_eq_false h2853)) (an e2903 (an (not_f h2904) trivial))))) (an e2911 (an e2918 (an e2922 trivial)))))))) (ti trivial)) (Wv.refl _)
      ·injection h with h; subst h
       exact fun_ok pm pn Go.Proofs.Try.func8 (r0 := vb false) (ans := [.reg (nN 3 []), .reg (.call (vb r2840) :: .n :: []), .br false, .reg (.n :: .call (VV.tu [VV.ag (c_SFrac r2844.1), vi r2844.2]) :: nN 6 []), .reg (.n :: .call (VV.tu [VV.ag (c_SFrac r2847.1), vi r2847.2]) :: nN 6 []), .reg (.n :: .call (vi r2850) :: .n :: []), .reg (.n :: .n :: []), .br true, .reg (nN 7 (.b false :: nN 4 (.b false :: nN 4 (.b false :: [])))), .br true, .reg (.n :: [])]) (fr := true) (by kernel_rfl) (an (an (ti (ti (ti trivial))) (an (an e2842 (an (not_f h2843) trivial)) (an e2846 (an e2849 (an (ti (an e2852 (ti trivial))) (an (ti (ti trivial)) (an (not_t (decide_eq_false h2853)) (an e2903 (an (not_t (bool_f h2904)) (an (ti trivial) trivial)))))))))) (ti trivial)) (Wv.refl _)
     ·have e2923 := (ti (ti (ti (ti (an e2894 (an e2895 (an e2896 (an (not_f (decide_eq_true h2893)) (ti (an e2898 (an e2899 (an e2900 (an (not_f (decide_eq_true h2897)) (ti (an (not_t (bool_f h2901)) (an (not_t (bool_f h2901)) (an (not_t (bool_f h2901)) (an (not_t (bool_f h2901)) trivial))))))))))))))))))
      injection h with h; subst h
      exact fun_ok pm pn Go.Proofs.Try.func8 (r0 := vb false) (ans := [.reg (nN 3 []), .reg (.call (vb r2840) :: .n :: []), .br false, .reg (.n :: .call (VV.tu [VV.ag (c_SFrac r2844.1), vi r2844.2]) :: nN 6 []), .reg (.n :: .call (VV.tu [VV.ag (c_SFrac r2847.1), vi r2847.2]) :: nN 6 []), .reg (.n :: .call (vi r2850) :: .n :: []), .reg (.n :: .n :: []), .br true, .reg (nN 7 (.b false :: nN 4 (.b false :: .n :: nS 3 (.b true :: [])))), .br true, .reg (.n :: [])]) (fr := true) (by kernel_rfl) (an (an (ti (ti (ti trivial))) (an (an e2842 (an (not_f h2843) trivial)) (an e2846 (an e2849 (an (ti (an e2852 (ti trivial))) (an (ti (ti trivial)) (an (not_t (decide_eq_false h2853)) (an e2923 (an rt (an (ti trivial) trivial)))))))))) (ti trivial)) (Wv.refl _)
    ·have e2924 := (ti (ti (ti (ti (an e2894 (an e2895 (an e2896 (an (not_f (decide_eq_true h2893)) (ti (an (not_t (decide_eq_false h2897)) (an (not_t (decide_eq_false h2897)) (an (not_t (decide_eq_false h2897)) (an (not_t (decide_eq_false h2897)) (ti (an rt (an rt (an rt (an rt trivial))))))))))))))))))
     injection h with h; subst h
     exact fun_ok pm pn Go.Proofs.Try.func8 (r0 := vb false) (ans := [.reg (nN 3 []), .reg (.call (vb r2840) :: .n :: []), .br false, .reg (.n :: .call (VV.tu [VV.ag (c_SFrac r2844.1), vi r2844.2]) :: nN 6 []), .reg (.n :: .call (VV.tu [VV.ag (c_SFrac r2847.1), vi r2847.2]) :: nN 6 []), .reg (.n :: .call (vi r2850) :: .n :: []), .reg (.n :: .n :: []), .br true, .reg (nN 7 (.b false :: .n :: nS 3 (.b true :: .n :: nS 3 (.b true :: [])))), .br true, .reg (.n :: [])]) (fr := true) (by kernel_rfl) (an (an (ti (ti (ti trivial))) (an (an e2842 (an (not_f h2843) trivial)) (an e2846 (an e2849 (an (ti (an e2852 (ti trivial))) (an (ti (ti trivial)) (an (not_t (decide_eq_false h2853)) (an e2924 (an rt (an (ti trivial) trivial)))))))))) (ti trivial)) (Wv.refl _)
   ·have e2925 := (ti (ti (ti (ti (an (not_t (decide_eq_false h2893)) (an (not_t (decide_eq_false h2893)) (an (not_t (decide_eq_false h2893)) (an (not_t (decide_eq_false h2893)) (ti (an rt (an rt (an rt (an rt (ti (an rt (an rt (an rt (an rt trivial))))))))))))))))))
    injection h with h; subst h
    exact fun_ok pm pn Go.Proofs.Try.func8 (r0 := vb false) (ans := [.reg (nN 3 []), .reg (.call (vb r2840) :: .n :: []), .br false, .reg (.n :: .call (VV.tu [VV.ag (c_SFrac r2844.1), vi r2844.2]) :: nN 6 []), .reg (.n :: .call (VV.tu [VV.ag (c_SFrac r2847.1), vi r2847.2]) :: nN 6 []), .reg (.n :: .call (vi r2850) :: .n :: []), .reg (.n :: .n :: []), .br true, .reg (nN 4 (nS 3 (.b true :: .n :: nS 3 (.b true :: .n :: nS 3 (.b true :: []))))), .br true, .reg (.n :: [])]) (fr := true) (by kernel_rfl) (an (an (ti (ti (ti trivial))) (an (an e2842 (an (not_f h2843) trivial)) (an e2846 (an e2849 (an (ti (an e2852 (ti trivial))) (an (ti (ti trivial)) (an (not_t (decide_eq_false h2853)) (an e2925 (an rt (an (ti trivial) trivial)))))))))) (ti trivial)) (Wv.refl _)
 ·injection h with h; subst h
  exact fun_ok pm pn Go.Proofs.Try.func8 (r0 := vb false) (ans := [.reg (nN 3 []), .reg (.call (vb r2840) :: .n :: []), .br true, .reg (.n :: [])]) (fr := true) (by kernel_rfl) (an (an (ti (ti (ti trivial))) (an e2842 (an (not_t (bool_f h2843)) (an (ti trivial) trivial)))) (ti trivial)) (Wv.refl _)
end Go.Proofs.Ytgaopkhkabbcfaa.Vg

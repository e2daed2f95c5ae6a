/- Written by a program out of the program: what Go functions do, as plain functions, and their contracts. -/
import Derived.Test.YtkffimkedibmnaaO3
namespace Go.Proofs.Ytkffimkedibmnaa.Vg
set_option maxRecDepth 100000
set_option maxHeartbeats 4000000
set_option linter.unusedVariables false
set_option linter.unusedSimpArgs false
open Go Go.Proofs.Ytkffimkedibmnaa.Ev Go.Proofs.Ytkffimkedibmnaa.Vv
structure SBudget where
  Total : Int
  Effects : (List Int)
  Amounts : (List Int)
  deriving Inhabited
def c_SBudget (x : SBudget) : List VV := [vi x.Total, VV.tr (List.map vi x.Effects) x.Effects.length, VV.tr (List.map vi x.Amounts) x.Amounts.length]
theorem len_c_SBudget (x : SBudget) : (c_SBudget x).length = 3 := rfl
def g_SBudget (x : SBudget) : List VV := [vi x.Total, VV.fr (List.map vi x.Effects) x.Effects.length, VV.fr (List.map vi x.Amounts) x.Amounts.length]
theorem len_g_SBudget (x : SBudget) : (g_SBudget x).length = 3 := rfl
theorem still_c_SBudget (xs : List SBudget) : (xs.flatMap c_SBudget).all VV.still = true := all_flat (fun _ => rfl) xs
theorem still_g_SBudget (xs : List SBudget) : (xs.flatMap g_SBudget).all VV.still = true := all_flat (fun _ => rfl) xs
theorem unfr_c_SBudget (xs : List SBudget) : (xs.flatMap c_SBudget).map unfr = xs.flatMap c_SBudget := unfr_flat2 (fun _ => rfl) xs
theorem unfr_g_SBudget (xs : List SBudget) : (xs.flatMap g_SBudget).map unfr = xs.flatMap c_SBudget := unfr_flat2 (fun _ => rfl) xs
theorem new0_g_SBudget (xs : List SBudget) : (xs.flatMap g_SBudget).all new0 = true := all_flat (fun _ => rfl) xs
theorem ag3 : isAggT Go.Proofs.Try.prog 3 = some false := by kernel_rfl
def nspeculumbase_CopyInts (k : Nat) (a0 : (List Int)) : Option (List Int) :=
  if ([] : List Int).length + a0.length ≤ 1000000000 then (some (([] : List Int) ++ a0)) else none
theorem nspeculumbase_CopyInts_ok (k : Nat) (a0 : (List Int)) (r : (List Int)) (h : nspeculumbase_CopyInts k a0 = some r) : VC Go.Proofs.Try.prog 44 [VV.tr (List.map vi a0) a0.length] (VV.fw 1 (List.map vi r) r.length) := by
 unfold nspeculumbase_CopyInts at h
 obtain ⟨h1844, h⟩ := ifn h
 have e1845 := (show List.length [] = 0 * 1 ∧ List.length (List.map vi a0) = a0.length * 1 ∧ (0 + a0.length) * 8 ≤ 140737488355328 ∧ 0 + a0.length < 1099511627776 ∧ List.all (List.map vi a0) VV.still = true from ⟨(by rw [show [] = List.map vi ([] : List Int) from rfl]; simp), (by simp), (by first | omega | (simp at h1844 ⊢; omega)), (by first | omega | (simp at h1844 ⊢; omega)), (by exact still_vi _)⟩)
 injection h with h; subst h
 exact fun_ok pm pn Go.Proofs.Try.func44 (r0 := VV.fw 1 (List.drop 0 (List.map unfr ([] ++ (List.map vi a0)))) (0 + a0.length)) (ans := [.reg (.n :: []), .reg (nN 4 [])]) (fr := true) (by kernel_rfl) (an (an (ti trivial) (an (ti (ti (an e1845 (ti trivial)))) trivial)) (an (show List.all ([] ++ (List.map vi a0)) new0 = true from (by rw [show [] ++ (List.map vi a0) = List.map vi (([] : List Int) ++ a0) from (by rw [show [] = List.map vi ([] : List Int) from rfl]; exact List.map_append.symm)]; exact new0_vi _)) trivial)) (Wv.of_eq (by simp only [show [] ++ (List.map vi a0) = List.map vi (([] : List Int) ++ a0) from (by rw [show [] = List.map vi ([] : List Int) from rfl]; exact List.map_append.symm), drop0, unfr_vi, unfr_vb, unfr_vs, List.map_cons, List.map_nil, un_i, un_k, un_b, un_s, un_tr, un_fr, List.length_map, List.length_replicate, List.length_append, List.length_set, List.length_cons, List.length_nil, unfr_c_SElement, unfr_c_SFrac, unfr_c_Sway, unfr_c_SMatrix, unfr_c_SPair, unfr_c_SConic, unfr_c_SRange, unfr_c_SSpot, unfr_c_A63, unfr_c_A66, unfr_c_SWay, unfr_c_SBudget, unfr_g_SBudget]))
def noptics_checkEffects (k : Nat) (a0 : Int) (a1 : (List Int)) : Option Int :=
  (noptics_isWithin k a0 0 100000000).bind fun r1857 => (if r1857 = true then (if 30 < (a1.length : Int) then (some 8) else (some 0)) else (some 2))
theorem noptics_checkEffects_ok (k : Nat) (a0 : Int) (a1 : (List Int)) (r : Int) (h : noptics_checkEffects k a0 a1 = some r) : VC Go.Proofs.Try.prog 91 [vi a0, VV.tr (List.map vi a1) a1.length] (vi r) := by
 unfold noptics_checkEffects at h
 obtain ⟨r1857, h1858, h⟩ := bs h
 have e1859 := (noptics_isWithin_ok k a0 0 100000000 _ h1858)
 rcases ifs h with ⟨h1860, h⟩ | ⟨h1860, h⟩
 ·rcases ifs h with ⟨h1861, h⟩ | ⟨h1861, h⟩
  ·injection h with h; subst h
   exact fun_ok pm pn Go.Proofs.Try.func91 (r0 := vi 8) (ans := [.reg (.n :: []), .reg (.n :: .call (vb r1857) :: .n :: []), .br false, .reg (nN 3 []), .br true, .reg (.n :: [])]) (fr := true) (by kernel_rfl) (an (an (ti trivial) (an (an (ti (an e1859 (ti trivial))) (an (not_f h1860) trivial)) (an (ti (ti (ti trivial))) (an (decide_eq_true h1861) (an (ti trivial) trivial))))) (ti trivial)) (Wv.refl _)
  ·injection h with h; subst h
   exact fun_ok pm pn Go.Proofs.Try.func91 (r0 := vi 0) (ans := [.reg (.n :: []), .reg (.n :: .call (vb r1857) :: .n :: []), .br false, .reg (nN 3 []), .br false, .reg (.n :: [])]) (fr := true) (by kernel_rfl) (an (an (ti trivial) (an (an (ti (an e1859 (ti trivial))) (an (not_f h1860) trivial)) (an (an (ti (ti (ti trivial))) (an (decide_eq_false h1861) trivial)) (an (ti trivial) trivial)))) (ti trivial)) (Wv.refl _)
 ·injection h with h; subst h
  exact fun_ok pm pn Go.Proofs.Try.func91 (r0 := vi 2) (ans := [.reg (.n :: []), .reg (.n :: .call (vb r1857) :: .n :: []), .br true, .reg (.n :: [])]) (fr := true) (by kernel_rfl) (an (an (ti trivial) (an (ti (an e1859 (ti trivial))) (an (not_t (bool_f h1860)) (an (ti trivial) trivial)))) (ti trivial)) (Wv.refl _)
def noptics_CheckBudget_l0_0_h (a0 : SBudget) (x32 : Int) (x5 : Int) : VS := ⟨mkA [(1, VV.pt 0 0), (5, vi x5), (30, VV.tr (List.map vi a0.Effects) a0.Effects.length), (31, vi (a0.Effects.length : Int)), (32, vi x32)], [some ⟨true, 1, c_SBudget a0⟩], .nil⟩
def noptics_CheckBudget_l0_0_e0 (a0 : SBudget) (r : Unit) : VS := ⟨mkA [(2, vi 0), (3, vi 2)], [], .nil⟩
def noptics_CheckBudget_l0_0_e1 (a0 : SBudget) (r : Int) : VS := ⟨mkA [(5, vi r)], [], .nil⟩
def noptics_CheckBudget_l0_0 (k : Nat) (a0 : SBudget) : Nat → Int → Int → Option (Sum Unit Int)
  | 0, _, _ => none
  | fuel + 1, x32, x5 => if x32 < (a0.Effects.length : Int) then (if 0 ≤ x32 ∧ x32 < (a0.Effects.length : Int) then (if 0 ≤ x32 ∧ x32 < (a0.Amounts.length : Int) then ((noptics_isWithin k (a0.Effects.getD x32.toNat 0) 0 10000).bind fun r1964 => (if r1964 = true then ((noptics_isWithin k (a0.Amounts.getD x32.toNat 0) 0 10000).bind fun r1968 => (if r1968 = true then (noptics_CheckBudget_l0_0 k a0 fuel (w64 (x32 + 1)) (w64 (x5 - (w64 ((w64 ((w64 ((a0.Effects.getD x32.toNat 0) * (a0.Amounts.getD x32.toNat 0))) * (a0.Effects.getD x32.toNat 0))) * (a0.Amounts.getD x32.toNat 0)))))) else (some (.inl ())))) else (some (.inl ())))) else none) else none) else (some (.inr x5))
theorem noptics_CheckBudget_l0_0_ok (k : Nat) (a0 : SBudget) : ∀ (fuel : Nat) (x32 : Int) (x5 : Int) (r : Sum Unit Int), noptics_CheckBudget_l0_0 k a0 fuel x32 x5 = some r → (match r with | .inl r => VLoop none Go.Proofs.Try.prog (szF Go.Proofs.Try.f43) (bodyOf Go.Proofs.Try.f43 0) (noptics_CheckBudget_l0_0_h a0 x32 x5) .ret (noptics_CheckBudget_l0_0_e0 a0 r) | .inr r => VLoop none Go.Proofs.Try.prog (szF Go.Proofs.Try.f43) (bodyOf Go.Proofs.Try.f43 0) (noptics_CheckBudget_l0_0_h a0 x32 x5) (.exit 0) (noptics_CheckBudget_l0_0_e1 a0 r)) := by
 intro fuel
 induction fuel with
 | zero => intro x32 x5 r h; rw [noptics_CheckBudget_l0_0.eq_1] at h; cases h
 | succ fuel ih =>
  intro x32 x5 r h
  rw [noptics_CheckBudget_l0_0.eq_2] at h
  rcases ifs h with ⟨h1959, h⟩ | ⟨h1959, h⟩
  ·obtain ⟨h1960, h⟩ := ifn h
   have e1961 := (show loadL Go.Proofs.Try.prog 3 (x32.toNat * 1) (List.map vi a0.Effects) = some (vi (a0.Effects.getD x32.toNat 0)) from ld_map ag3 vi a0.Effects 0 h1960 (by omega))
   obtain ⟨h1962, h⟩ := ifn h
   have e1963 := (show loadL Go.Proofs.Try.prog 3 (x32.toNat * 1) (List.map vi a0.Amounts) = some (vi (a0.Amounts.getD x32.toNat 0)) from ld_map ag3 vi a0.Amounts 0 h1962 (by omega))
   obtain ⟨r1964, h1965, h⟩ := bs h
   have e1966 := (noptics_isWithin_ok k (a0.Effects.getD x32.toNat 0) 0 10000 _ h1965)
   rcases ifs h with ⟨h1967, h⟩ | ⟨h1967, h⟩
   ·obtain ⟨r1968, h1969, h⟩ := bs h
    have e1970 := (an (not_f h1967) (noptics_isWithin_ok k (a0.Amounts.getD x32.toNat 0) 0 10000 _ h1969))
    have e1971 := (ti (an e1966 (ti (ti (an (an (not_f h1967) trivial) (an e1970 (an (an (not_f h1967) trivial) (an (not_f h1967) trivial))))))))
    rcases ifs h with ⟨h1972, h⟩ | ⟨h1972, h⟩
    ·have e1973 := (ti (ti (ti (ti (ti (ti (ti (ti (ti (ti trivial))))))))))
     have h2 := ih _ _ _ h
     obtain ⟨q, hv, hq⟩ := pkR (rd := none) (P := Go.Proofs.Try.prog) (fn := Go.Proofs.Try.f43) (k := 0) (s := (noptics_CheckBudget_l0_0_h a0 x32 x5)) (ans := [.reg (.n :: []), .br true, .reg (.n :: .n :: .v (vi (a0.Effects.getD x32.toNat 0)) :: .n :: .n :: []), .reg (nN 4 (.v (vi (a0.Amounts.getD x32.toNat 0)) :: .n :: [])), .reg (.n :: .call (vb r1964) :: nN 3 (.call (vb r1968) :: .n :: .b false :: [])), .br false, .reg (nN 10 []), .reg (.n :: .n :: [])]) (c := ⟨[(1, none), (5, none), (30, none), (31, none), (32, none)], [none], []⟩) (e := .normal) (s1 := (noptics_CheckBudget_l0_0_h a0 (w64 (x32 + 1)) (w64 (x5 - (w64 ((w64 ((w64 ((a0.Effects.getD x32.toNat 0) * (a0.Amounts.getD x32.toNat 0))) * (a0.Effects.getD x32.toNat 0))) * (a0.Amounts.getD x32.toNat 0))))))) (an (an (ti trivial) (an (an (decide_eq_true h1959) trivial) (an (an (ti (an h1960 (an e1961 (ti (ti trivial))))) (an (ti (ti (ti (an h1962 (an e1963 (ti trivial)))))) (an (an e1971 (an (not_f h1972) trivial)) e1973))) (ti (ti trivial))))) (ti trivial)) (by kernel_rfl)
     cases r with
     | inl r => exact round_next pm pn hv hq h2
     | inr r =>
      exact round_next pm pn hv hq h2
    ·injection h with h; subst h
     exact round_stop (c := ⟨[(2, none), (3, none)], [], []⟩) (s1 := (noptics_CheckBudget_l0_0_e0 a0 ())) pm pn (ans := [.reg (.n :: []), .br true, .reg (.n :: .n :: .v (vi (a0.Effects.getD x32.toNat 0)) :: .n :: .n :: []), .reg (nN 4 (.v (vi (a0.Amounts.getD x32.toNat 0)) :: .n :: [])), .reg (.n :: .call (vb r1964) :: nN 3 (.call (vb r1968) :: .n :: .b false :: [])), .br true, .reg (.n :: .n :: [])]) (by kernel_rfl) (by intro e; cases e) (an (an (ti trivial) (an (an (decide_eq_true h1959) trivial) (an (ti (an h1960 (an e1961 (ti (ti trivial))))) (an (ti (ti (ti (an h1962 (an e1963 (ti trivial)))))) (an e1971 (an (not_t (bool_f h1972)) (an (ti (ti trivial)) trivial))))))) (ti trivial))
   ·have e1974 := (ti (an e1966 (ti (ti (an (not_t (bool_f h1967)) (an (not_t (bool_f h1967)) (an (not_t (bool_f h1967)) (an (not_t (bool_f h1967)) trivial))))))))
    injection h with h; subst h
    exact round_stop (c := ⟨[(2, none), (3, none)], [], []⟩) (s1 := (noptics_CheckBudget_l0_0_e0 a0 ())) pm pn (ans := [.reg (.n :: []), .br true, .reg (.n :: .n :: .v (vi (a0.Effects.getD x32.toNat 0)) :: .n :: .n :: []), .reg (nN 4 (.v (vi (a0.Amounts.getD x32.toNat 0)) :: .n :: [])), .reg (.n :: .call (vb r1964) :: .n :: .n :: nS 3 (.b true :: [])), .br true, .reg (.n :: .n :: [])]) (by kernel_rfl) (by intro e; cases e) (an (an (ti trivial) (an (an (decide_eq_true h1959) trivial) (an (ti (an h1960 (an e1961 (ti (ti trivial))))) (an (ti (ti (ti (an h1962 (an e1963 (ti trivial)))))) (an e1974 (an rt (an (ti (ti trivial)) trivial))))))) (ti trivial))
  ·injection h with h; subst h
   exact round_stop (c := ⟨[(5, none)], [], []⟩) (s1 := (noptics_CheckBudget_l0_0_e1 a0 x5)) pm pn (ans := [.reg (.n :: []), .br false]) (by kernel_rfl) (by intro e; cases e) (an (an (ti trivial) (an (decide_eq_false h1959) trivial)) (ti trivial))
def noptics_CheckBudget (k : Nat) (a0 : SBudget) : Option (Int × Int) :=
  (noptics_checkEffects k a0.Total a0.Effects).bind fun r1922 => (if r1922 = 0 then (if (a0.Amounts.length : Int) = (a0.Effects.length : Int) then ((noptics_CheckBudget_l0_0 k a0 k 0 (w64 (a0.Total * a0.Total))).bind fun r1976 => (match r1976 with | .inl r1977 => (some (0, 2)) | .inr r1978 => (if r1978 < 0 then (some (0, 26)) else (some (r1978, 0))))) else (some (0, 10))) else (some (0, r1922)))
theorem noptics_CheckBudget_ok (k : Nat) (a0 : SBudget) (r : (Int × Int)) (h : noptics_CheckBudget k a0 = some r) : VC Go.Proofs.Try.prog 43 [VV.ag (c_SBudget a0)] (VV.tu [vi r.1, vi r.2]) := by
 unfold noptics_CheckBudget at h
 obtain ⟨r1922, h1923, h⟩ := bs h
 have e1924 := (noptics_checkEffects_ok k a0.Total a0.Effects _ h1923)
 rcases ifs h with ⟨h1925, h⟩ | ⟨h1925, h⟩
 ·rcases ifs h with ⟨h1926, h⟩ | ⟨h1926, h⟩
  ·obtain ⟨r1976, h1975, h⟩ := bs h
   have hph1975 := noptics_CheckBudget_l0_0_ok k a0 _ _ _ _ h1975
   cases r1976 with
   | inl r1977 =>
    dsimp only at h
    have e1979 := (an (ti trivial) (VRun.loop hph1975))
    injection h with h; subst h
    exact fun_ok pm pn Go.Proofs.Try.func43 (r0 := VV.tu [vi 0, vi 2]) (ans := [.reg (nN 3 []), .reg (nN 4 (.call (vi r1922) :: .n :: [])), .reg (.n :: .n :: []), .br false, .reg (nN 7 []), .br false, .reg (nN 6 []), .reg (nN 4 []), .sub ⟨[(1, none), (5, none), (30, none), (31, none), (32, none)], [none], []⟩ .ret (noptics_CheckBudget_l0_0_e0 a0 r1977)]) (fr := true) (by kernel_rfl) (an (an (ti (ti (ti trivial))) (an (an (ti (ti (ti (ti (an e1924 (ti trivial)))))) (an (ti (ti trivial)) (an (not_f (decide_eq_true h1925)) trivial))) (an (an (ti (ti (ti (ti (ti (ti (ti trivial))))))) (an (not_f (decide_eq_true h1926)) trivial)) (an (ti (ti (ti (ti (ti (ti trivial)))))) (an (ti (ti (ti (ti trivial)))) e1979))))) (ti (ti trivial))) (Wv.refl _)
   | inr r1978 =>
    dsimp only at h
    have e1980 := (an (ti trivial) (VRun.loop hph1975))
    rcases ifs h with ⟨h1981, h⟩ | ⟨h1981, h⟩
    ·injection h with h; subst h
     exact fun_ok pm pn Go.Proofs.Try.func43 (r0 := VV.tu [vi 0, vi 26]) (ans := [.reg (nN 3 []), .reg (nN 4 (.call (vi r1922) :: .n :: [])), .reg (.n :: .n :: []), .br false, .reg (nN 7 []), .br false, .reg (nN 6 []), .reg (nN 4 []), .sub ⟨[(1, none), (5, none), (30, none), (31, none), (32, none)], [none], []⟩ (.exit 0) (noptics_CheckBudget_l0_0_e1 a0 r1978), .reg (.n :: .n :: []), .br true, .reg (.n :: .n :: [])]) (fr := true) (by kernel_rfl) (an (an (ti (ti (ti trivial))) (an (an (ti (ti (ti (ti (an e1924 (ti trivial)))))) (an (ti (ti trivial)) (an (not_f (decide_eq_true h1925)) trivial))) (an (an (ti (ti (ti (ti (ti (ti (ti trivial))))))) (an (not_f (decide_eq_true h1926)) trivial)) (an (ti (ti (ti (ti (ti (ti trivial)))))) (an (an (ti (ti (ti (ti trivial)))) e1980) (an (ti (ti trivial)) (an (decide_eq_true h1981) (an (ti (ti trivial)) trivial)))))))) (ti (ti trivial))) (Wv.refl _)
    ·injection h with h; subst h
     exact fun_ok pm pn Go.Proofs.Try.func43 (r0 := VV.tu [vi r1978, vi 0]) (ans := [.reg (nN 3 []), .reg (nN 4 (.call (vi r1922) :: .n :: [])), .reg (.n :: .n :: []), .br false, .reg (nN 7 []), .br false, .reg (nN 6 []), .reg (nN 4 []), .sub ⟨[(1, none), (5, none), (30, none), (31, none), (32, none)], [none], []⟩ (.exit 0) (noptics_CheckBudget_l0_0_e1 a0 r1978), .reg (.n :: .n :: []), .br false, .reg (nN 3 [])]) (fr := true) (by kernel_rfl) (an (an (ti (ti (ti trivial))) (an (an (ti (ti (ti (ti (an e1924 (ti trivial)))))) (an (ti (ti trivial)) (an (not_f (decide_eq_true h1925)) trivial))) (an (an (ti (ti (ti (ti (ti (ti (ti trivial))))))) (an (not_f (decide_eq_true h1926)) trivial)) (an (ti (ti (ti (ti (ti (ti trivial)))))) (an (an (ti (ti (ti (ti trivial)))) e1980) (an (an (ti (ti trivial)) (an (decide_eq_false h1981) trivial)) (an (ti (ti (ti trivial))) trivial))))))) (ti (ti trivial))) (Wv.refl _)
  ·injection h with h; subst h
   exact fun_ok pm pn Go.Proofs.Try.func43 (r0 := VV.tu [vi 0, vi 10]) (ans := [.reg (nN 3 []), .reg (nN 4 (.call (vi r1922) :: .n :: [])), .reg (.n :: .n :: []), .br false, .reg (nN 7 []), .br true, .reg (.n :: .n :: [])]) (fr := true) (by kernel_rfl) (an (an (ti (ti (ti trivial))) (an (an (ti (ti (ti (ti (an e1924 (ti trivial)))))) (an (ti (ti trivial)) (an (not_f (decide_eq_true h1925)) trivial))) (an (ti (ti (ti (ti (ti (ti (ti trivial))))))) (an (not_t (decide_eq_false h1926)) (an (ti (ti trivial)) trivial))))) (ti (ti trivial))) (Wv.refl _)
 ·injection h with h; subst h
  exact fun_ok pm pn Go.Proofs.Try.func43 (r0 := VV.tu [vi 0, vi r1922]) (ans := [.reg (nN 3 []), .reg (nN 4 (.call (vi r1922) :: .n :: [])), .reg (.n :: .n :: []), .br true, .reg (nN 3 [])]) (fr := true) (by kernel_rfl) (an (an (ti (ti (ti trivial))) (an (ti (ti (ti (ti (an e1924 (ti trivial)))))) (an (ti (ti trivial)) (an (not_t (decide_eq_false h1925)) (an (ti (ti (ti trivial))) trivial))))) (ti (ti trivial))) (Wv.refl _)
theorem eqWB_0 (z0 : SBudget) (z1 : (List Int)) (z2 : (List Int)) : [VV.ag (c_SBudget (⟨z0.Total, z1, z2⟩ : SBudget))] = [VV.ag [vi z0.Total, VV.tr (List.map vi z1) z1.length, VV.tr (List.map vi z2) z2.length]] := by first | rfl | (simp only [unfr_vi, List.map_cons, List.map_nil, un_i, un_tr, List.length_map, List.length_cons, List.length_nil, unfr_c_SBudget]; done) | (simp only [unfr_vi, List.map_cons, List.map_nil, un_i, un_tr, List.length_map, List.length_cons, List.length_nil, unfr_c_SBudget]; rfl) | (simp only [unfr_vi, List.map_cons, List.map_nil, un_i, un_tr, List.length_map, List.length_cons, List.length_nil, unfr_c_SBudget, c_SBudget, List.length_cons, List.length_nil, List.length_append]; done)
def nspeculumref02_CheckTotal (k : Nat) (a0 : Int) (a1 : Int) : Option Int :=
  (nspeculumbase_Within k a0 0 100000000).bind fun r1991 => (if r1991 = true then (if 30 < a1 then (some 8) else (some 0)) else (some 2))
theorem nspeculumref02_CheckTotal_ok (k : Nat) (a0 : Int) (a1 : Int) (r : Int) (h : nspeculumref02_CheckTotal k a0 a1 = some r) : VC Go.Proofs.Try.prog 93 [vi a0, vi a1] (vi r) := by
 unfold nspeculumref02_CheckTotal at h
 obtain ⟨r1991, h1992, h⟩ := bs h
 have e1993 := (nspeculumbase_Within_ok k a0 0 100000000 _ h1992)
 rcases ifs h with ⟨h1994, h⟩ | ⟨h1994, h⟩
 ·rcases ifs h with ⟨h1995, h⟩ | ⟨h1995, h⟩
  ·injection h with h; subst h
   exact fun_ok pm pn Go.Proofs.Try.func93 (r0 := vi 8) (ans := [.reg (.n :: []), .reg (.n :: .call (vb r1991) :: .n :: []), .br false, .reg (.n :: .n :: []), .br true, .reg (.n :: [])]) (fr := true) (by kernel_rfl) (an (an (ti trivial) (an (an (ti (an e1993 (ti trivial))) (an (not_f h1994) trivial)) (an (ti (ti trivial)) (an (decide_eq_true h1995) (an (ti trivial) trivial))))) (ti trivial)) (Wv.refl _)
  ·injection h with h; subst h
   exact fun_ok pm pn Go.Proofs.Try.func93 (r0 := vi 0) (ans := [.reg (.n :: []), .reg (.n :: .call (vb r1991) :: .n :: []), .br false, .reg (.n :: .n :: []), .br false, .reg (.n :: [])]) (fr := true) (by kernel_rfl) (an (an (ti trivial) (an (an (ti (an e1993 (ti trivial))) (an (not_f h1994) trivial)) (an (an (ti (ti trivial)) (an (decide_eq_false h1995) trivial)) (an (ti trivial) trivial)))) (ti trivial)) (Wv.refl _)
 ·injection h with h; subst h
  exact fun_ok pm pn Go.Proofs.Try.func93 (r0 := vi 2) (ans := [.reg (.n :: []), .reg (.n :: .call (vb r1991) :: .n :: []), .br true, .reg (.n :: [])]) (fr := true) (by kernel_rfl) (an (an (ti trivial) (an (ti (an e1993 (ti trivial))) (an (not_t (bool_f h1994)) (an (ti trivial) trivial)))) (ti trivial)) (Wv.refl _)
def arWB_0 (z0 : SBudget) (z1 : Int) (z2 : Bool) (z3 : Bool) : List Ans := (nN 4 (.v (vi (z0.Effects.getD z1.toNat 0)) :: .call (vb z2) :: nN 6 (.v (vi (z0.Amounts.getD z1.toNat 0)) :: .call (vb z3) :: .n :: .b false :: [])))
def arWB_1 (z0 : SBudget) (z1 : Int) : List Ans := (nN 4 (.v (vi (z0.Effects.getD z1.toNat 0)) :: nN 4 (.v (vi (z0.Amounts.getD z1.toNat 0)) :: .n :: .n :: [])))
def arWB_2 (z0 : SBudget) (z1 : Int) (z2 : Bool) : List Ans := (nN 4 (.v (vi (z0.Effects.getD z1.toNat 0)) :: .call (vb z2) :: .n :: .n :: nS 7 (.b true :: [])))
def nspeculumref02_CheckBudget_l0_0_h (a0 : SBudget) (x5 : Int) (x6 : Int) : VS := ⟨mkA [(1, VV.pt 0 0), (5, vi x5), (6, vi x6)], [some ⟨true, 1, c_SBudget a0⟩], .nil⟩
def nspeculumref02_CheckBudget_l0_0_e0 (a0 : SBudget) (r : Unit) : VS := ⟨mkA [(2, vi 0), (3, vi 2)], [], .nil⟩
def nspeculumref02_CheckBudget_l0_0_e1 (a0 : SBudget) (r : Int) : VS := ⟨mkA [(5, vi r)], [], .nil⟩
def nspeculumref02_CheckBudget_l0_0 (k : Nat) (a0 : SBudget) : Nat → Int → Int → Option (Sum Unit Int)
  | 0, _, _ => none
  | fuel + 1, x5, x6 => if x6 < (a0.Effects.length : Int) then (if 0 ≤ x6 ∧ x6 < (a0.Effects.length : Int) then ((nspeculumbase_Within k (a0.Effects.getD x6.toNat 0) 0 10000).bind fun r2106 => (if r2106 = true then (if 0 ≤ x6 ∧ x6 < (a0.Amounts.length : Int) then ((nspeculumbase_Within k (a0.Amounts.getD x6.toNat 0) 0 10000).bind fun r2112 => (if r2112 = true then (nspeculumref02_CheckBudget_l0_0 k a0 fuel (w64 (x5 - (w64 ((w64 ((a0.Effects.getD x6.toNat 0) * (a0.Amounts.getD x6.toNat 0))) * (w64 ((a0.Effects.getD x6.toNat 0) * (a0.Amounts.getD x6.toNat 0))))))) (w64 (x6 + 1))) else (some (.inl ())))) else none) else (some (.inl ())))) else none) else (some (.inr x5))
theorem nspeculumref02_CheckBudget_l0_0_ok (k : Nat) (a0 : SBudget) : ∀ (fuel : Nat) (x5 : Int) (x6 : Int) (r : Sum Unit Int), nspeculumref02_CheckBudget_l0_0 k a0 fuel x5 x6 = some r → (match r with | .inl r => VLoop none Go.Proofs.Try.prog (szF Go.Proofs.Try.f45) (bodyOf Go.Proofs.Try.f45 0) (nspeculumref02_CheckBudget_l0_0_h a0 x5 x6) .ret (nspeculumref02_CheckBudget_l0_0_e0 a0 r) | .inr r => VLoop none Go.Proofs.Try.prog (szF Go.Proofs.Try.f45) (bodyOf Go.Proofs.Try.f45 0) (nspeculumref02_CheckBudget_l0_0_h a0 x5 x6) (.exit 0) (nspeculumref02_CheckBudget_l0_0_e1 a0 r)) := by
 intro fuel
 induction fuel with
 | zero => intro x5 x6 r h; rw [nspeculumref02_CheckBudget_l0_0.eq_1] at h; cases h
 | succ fuel ih =>
  intro x5 x6 r h
  rw [nspeculumref02_CheckBudget_l0_0.eq_2] at h
  rcases ifs h with ⟨h2103, h⟩ | ⟨h2103, h⟩
  ·obtain ⟨h2104, h⟩ := ifn h
   have e2105 := (show loadL Go.Proofs.Try.prog 3 (x6.toNat * 1) (List.map vi a0.Effects) = some (vi (a0.Effects.getD x6.toNat 0)) from ld_map ag3 vi a0.Effects 0 h2104 (by omega))
   obtain ⟨r2106, h2107, h⟩ := bs h
   have e2108 := (nspeculumbase_Within_ok k (a0.Effects.getD x6.toNat 0) 0 10000 _ h2107)
   rcases ifs h with ⟨h2109, h⟩ | ⟨h2109, h⟩
   ·obtain ⟨h2110, h⟩ := ifn h
    have e2111 := (an (not_f h2109) (show loadL Go.Proofs.Try.prog 3 (x6.toNat * 1) (List.map vi a0.Amounts) = some (vi (a0.Amounts.getD x6.toNat 0)) from ld_map ag3 vi a0.Amounts 0 h2110 (by omega)))
    obtain ⟨r2112, h2113, h⟩ := bs h
    have e2114 := (an (not_f h2109) (nspeculumbase_Within_ok k (a0.Amounts.getD x6.toNat 0) 0 10000 _ h2113))
    have e2115 := (ti (ti (ti (an h2104 (an e2105 (an e2108 (ti (ti (an (an (not_f h2109) trivial) (an (an (not_f h2109) trivial) (an (an (not_f h2109) trivial) (an (an (not_f h2109) h2110) (an e2111 (an e2114 (an (an (not_f h2109) trivial) (an (not_f h2109) trivial))))))))))))))))
    rcases ifs h with ⟨h2116, h⟩ | ⟨h2116, h⟩
    ·have e2117 := (show loadL Go.Proofs.Try.prog 3 (x6.toNat * 1) (List.map vi a0.Effects) = some (vi (a0.Effects.getD x6.toNat 0)) from ld_map ag3 vi a0.Effects 0 h2104 (by omega))
     have e2118 := (show loadL Go.Proofs.Try.prog 3 (x6.toNat * 1) (List.map vi a0.Amounts) = some (vi (a0.Amounts.getD x6.toNat 0)) from ld_map ag3 vi a0.Amounts 0 h2110 (by omega))
     have e2119 := (ti (ti (ti (an h2104 (an e2117 (ti (ti (ti (an h2110 (an e2118 (ti (ti trivial))))))))))))
     have h2 := ih _ _ _ h
     obtain ⟨q, hv, hq⟩ := pkR (rd := none) (P := Go.Proofs.Try.prog) (fn := Go.Proofs.Try.f45) (k := 0) (s := (nspeculumref02_CheckBudget_l0_0_h a0 x5 x6)) (ans := [.reg (nN 5 []), .br true, .reg (arWB_0 a0 x6 r2106 r2112), .br false, .reg (arWB_1 a0 x6), .reg (nN 6 []), .reg (nN 3 [])]) (c := ⟨[(1, none), (5, none), (6, none)], [none], []⟩) (e := .normal) (s1 := (nspeculumref02_CheckBudget_l0_0_h a0 (w64 (x5 - (w64 ((w64 ((a0.Effects.getD x6.toNat 0) * (a0.Amounts.getD x6.toNat 0))) * (w64 ((a0.Effects.getD x6.toNat 0) * (a0.Amounts.getD x6.toNat 0))))))) (w64 (x6 + 1)))) (an (an (an (ti (ti (ti (ti (ti trivial))))) (an (decide_eq_true h2103) trivial)) (an (an (an e2115 (an (not_f h2116) trivial)) (an e2119 (ti (ti (ti (ti (ti (ti trivial)))))))) (ti (ti (ti trivial))))) (ti trivial)) (by kernel_rfl)
     cases r with
     | inl r => exact round_next pm pn hv hq h2
     | inr r =>
      exact round_next pm pn hv hq h2
    ·injection h with h; subst h
     exact round_stop (c := ⟨[(2, none), (3, none)], [], []⟩) (s1 := (nspeculumref02_CheckBudget_l0_0_e0 a0 ())) pm pn (ans := [.reg (nN 5 []), .br true, .reg (arWB_0 a0 x6 r2106 r2112), .br true, .reg (.n :: .n :: [])]) (by kernel_rfl) (by intro e; cases e) (an (an (an (ti (ti (ti (ti (ti trivial))))) (an (decide_eq_true h2103) trivial)) (an e2115 (an (not_t (bool_f h2116)) (an (ti (ti trivial)) trivial)))) (ti trivial))
   ·have e2120 := (ti (ti (ti (an h2104 (an e2105 (an e2108 (ti (ti (an (not_t (bool_f h2109)) (an (not_t (bool_f h2109)) (an (not_t (bool_f h2109)) (an (not_t (bool_f h2109)) (an (not_t (bool_f h2109)) (an (not_t (bool_f h2109)) (an (not_t (bool_f h2109)) (an (not_t (bool_f h2109)) trivial))))))))))))))))
    injection h with h; subst h
    exact round_stop (c := ⟨[(2, none), (3, none)], [], []⟩) (s1 := (nspeculumref02_CheckBudget_l0_0_e0 a0 ())) pm pn (ans := [.reg (nN 5 []), .br true, .reg (arWB_2 a0 x6 r2106), .br true, .reg (.n :: .n :: [])]) (by kernel_rfl) (by intro e; cases e) (an (an (an (ti (ti (ti (ti (ti trivial))))) (an (decide_eq_true h2103) trivial)) (an e2120 (an rt (an (ti (ti trivial)) trivial)))) (ti trivial))
  ·injection h with h; subst h
   exact round_stop (c := ⟨[(5, none)], [], []⟩) (s1 := (nspeculumref02_CheckBudget_l0_0_e1 a0 x5)) pm pn (ans := [.reg (nN 5 []), .br false]) (by kernel_rfl) (by intro e; cases e) (an (an (ti (ti (ti (ti (ti trivial))))) (an (decide_eq_false h2103) trivial)) (ti trivial))
def nspeculumref02_CheckBudget (k : Nat) (a0 : SBudget) : Option (Int × Int) :=
  (nspeculumref02_CheckTotal k a0.Total (a0.Effects.length : Int)).bind fun r2062 => (if r2062 = 0 then (if (a0.Amounts.length : Int) = (a0.Effects.length : Int) then ((nspeculumref02_CheckBudget_l0_0 k a0 k (w64 (a0.Total * a0.Total)) 0).bind fun r2122 => (match r2122 with | .inl r2123 => (some (0, 2)) | .inr r2124 => (if r2124 < 0 then (some (0, 26)) else (some (r2124, 0))))) else (some (0, 10))) else (some (0, r2062)))
theorem nspeculumref02_CheckBudget_ok (k : Nat) (a0 : SBudget) (r : (Int × Int)) (h : nspeculumref02_CheckBudget k a0 = some r) : VC Go.Proofs.Try.prog 45 [VV.ag (c_SBudget a0)] (VV.tu [vi r.1, vi r.2]) := by
 unfold nspeculumref02_CheckBudget at h
 obtain ⟨r2062, h2063, h⟩ := bs h
 have e2064 := (nspeculumref02_CheckTotal_ok k a0.Total (a0.Effects.length : Int) _ h2063)
 rcases ifs h with ⟨h2065, h⟩ | ⟨h2065, h⟩
 ·rcases ifs h with ⟨h2066, h⟩ | ⟨h2066, h⟩
  ·obtain ⟨r2122, h2121, h⟩ := bs h
   have hph2121 := nspeculumref02_CheckBudget_l0_0_ok k a0 _ _ _ _ h2121
   cases r2122 with
   | inl r2123 =>
    dsimp only at h
    have e2125 := (an (ti trivial) (VRun.loop hph2121))
    injection h with h; subst h
    exact fun_ok pm pn Go.Proofs.Try.func45 (r0 := VV.tu [vi 0, vi 2]) (ans := [.reg (nN 3 []), .reg (nN 5 (.call (vi r2062) :: .n :: [])), .reg (.n :: .n :: []), .br false, .reg (nN 7 []), .br false, .reg (nN 6 []), .reg (.n :: []), .sub ⟨[(1, none), (5, none), (6, none)], [none], []⟩ .ret (nspeculumref02_CheckBudget_l0_0_e0 a0 r2123)]) (fr := true) (by kernel_rfl) (an (an (ti (ti (ti trivial))) (an (an (ti (ti (ti (ti (ti (an e2064 (ti trivial))))))) (an (ti (ti trivial)) (an (not_f (decide_eq_true h2065)) trivial))) (an (an (ti (ti (ti (ti (ti (ti (ti trivial))))))) (an (not_f (decide_eq_true h2066)) trivial)) (an (ti (ti (ti (ti (ti (ti trivial)))))) (an (ti trivial) e2125))))) (ti (ti trivial))) (Wv.refl _)
   | inr r2124 =>
    dsimp only at h
    have e2126 := (an (ti trivial) (VRun.loop hph2121))
    rcases ifs h with ⟨h2127, h⟩ | ⟨h2127, h⟩
    ·injection h with h; subst h
     exact fun_ok pm pn Go.Proofs.Try.func45 (r0 := VV.tu [vi 0, vi 26]) (ans := [.reg (nN 3 []), .reg (nN 5 (.call (vi r2062) :: .n :: [])), .reg (.n :: .n :: []), .br false, .reg (nN 7 []), .br false, .reg (nN 6 []), .reg (.n :: []), .sub ⟨[(1, none), (5, none), (6, none)], [none], []⟩ (.exit 0) (nspeculumref02_CheckBudget_l0_0_e1 a0 r2124), .reg (.n :: .n :: []), .br true, .reg (.n :: .n :: [])]) (fr := true) (by kernel_rfl) (an (an (ti (ti (ti trivial))) (an (an (ti (ti (ti (ti (ti (an e2064 (ti trivial))))))) (an (ti (ti trivial)) (an (not_f (decide_eq_true h2065)) trivial))) (an (an (ti (ti (ti (ti (ti (ti (ti trivial))))))) (an (not_f (decide_eq_true h2066)) trivial)) (an (ti (ti (ti (ti (ti (ti trivial)))))) (an (an (ti trivial) e2126) (an (ti (ti trivial)) (an (decide_eq_true h2127) (an (ti (ti trivial)) trivial)))))))) (ti (ti trivial))) (Wv.refl _)
    ·injection h with h; subst h
     exact fun_ok pm pn Go.Proofs.Try.func45 (r0 := VV.tu [vi r2124, vi 0]) (ans := [.reg (nN 3 []), .reg (nN 5 (.call (vi r2062) :: .n :: [])), .reg (.n :: .n :: []), .br false, .reg (nN 7 []), .br false, .reg (nN 6 []), .reg (.n :: []), .sub ⟨[(1, none), (5, none), (6, none)], [none], []⟩ (.exit 0) (nspeculumref02_CheckBudget_l0_0_e1 a0 r2124), .reg (.n :: .n :: []), .br false, .reg (nN 3 [])]) (fr := true) (by kernel_rfl) (an (an (ti (ti (ti trivial))) (an (an (ti (ti (ti (ti (ti (an e2064 (ti trivial))))))) (an (ti (ti trivial)) (an (not_f (decide_eq_true h2065)) trivial))) (an (an (ti (ti (ti (ti (ti (ti (ti trivial))))))) (an (not_f (decide_eq_true h2066)) trivial)) (an (ti (ti (ti (ti (ti (ti trivial)))))) (an (an (ti trivial) e2126) (an (an (ti (ti trivial)) (an (decide_eq_false h2127) trivial)) (an (ti (ti (ti trivial))) trivial))))))) (ti (ti trivial))) (Wv.refl _)
  ·injection h with h; subst h
   exact fun_ok pm pn Go.Proofs.Try.func45 (r0 := VV.tu [vi 0, vi 10]) (ans := [.reg (nN 3 []), .reg (nN 5 (.call (vi r2062) :: .n :: [])), .reg (.n :: .n :: []), .br false, .reg (nN 7 []), .br true, .reg (.n :: .n :: [])]) (fr := true) (by kernel_rfl) (an (an (ti (ti (ti trivial))) (an (an (ti (ti (ti (ti (ti (an e2064 (ti trivial))))))) (an (ti (ti trivial)) (an (not_f (decide_eq_true h2065)) trivial))) (an (ti (ti (ti (ti (ti (ti (ti trivial))))))) (an (not_t (decide_eq_false h2066)) (an (ti (ti trivial)) trivial))))) (ti (ti trivial))) (Wv.refl _)
 ·injection h with h; subst h
  exact fun_ok pm pn Go.Proofs.Try.func45 (r0 := VV.tu [vi 0, vi r2062]) (ans := [.reg (nN 3 []), .reg (nN 5 (.call (vi r2062) :: .n :: [])), .reg (.n :: .n :: []), .br true, .reg (nN 3 [])]) (fr := true) (by kernel_rfl) (an (an (ti (ti (ti trivial))) (an (ti (ti (ti (ti (ti (an e2064 (ti trivial))))))) (an (ti (ti trivial)) (an (not_t (decide_eq_false h2065)) (an (ti (ti (ti trivial))) trivial))))) (ti (ti trivial))) (Wv.refl _)
def noptics_SplitBudget_l0_0_h (a0 : Int) (a1 : (List Int)) (x21 : Int) (x7 : Int) : VS := ⟨mkA [(0, vi a0), (1, VV.tr (List.map vi a1) a1.length), (7, vi x7), (19, VV.tr (List.map vi a1) a1.length), (20, vi (a1.length : Int)), (21, vi x21)], [], .nil⟩
def noptics_SplitBudget_l0_0_e0 (a0 : Int) (a1 : (List Int)) (r : Unit) : VS := ⟨mkA [(4, VV.c (.slice none 0 0)), (5, vi 2)], [], .nil⟩
def noptics_SplitBudget_l0_0_e1 (a0 : Int) (a1 : (List Int)) (r : Int) : VS := ⟨mkA [(0, vi a0), (1, VV.tr (List.map vi a1) a1.length), (7, vi r)], [], .nil⟩
def noptics_SplitBudget_l0_0 (k : Nat) (a0 : Int) (a1 : (List Int)) : Nat → Int → Int → Option (Sum Unit Int)
  | 0, _, _ => none
  | fuel + 1, x21, x7 => if x21 < (a1.length : Int) then (if 0 ≤ x21 ∧ x21 < (a1.length : Int) then ((noptics_isWithin k (a1.getD x21.toNat 0) 0 10000).bind fun r2250 => (if r2250 = true then (if (a1.getD x21.toNat 0) = 0 then (noptics_SplitBudget_l0_0 k a0 a1 fuel (w64 (x21 + 1)) x7) else (noptics_SplitBudget_l0_0 k a0 a1 fuel (w64 (x21 + 1)) (w64 (x7 + 1)))) else (some (.inl ())))) else none) else (some (.inr x7))
theorem noptics_SplitBudget_l0_0_ok (k : Nat) (a0 : Int) (a1 : (List Int)) : ∀ (fuel : Nat) (x21 : Int) (x7 : Int) (r : Sum Unit Int), noptics_SplitBudget_l0_0 k a0 a1 fuel x21 x7 = some r → (match r with | .inl r => VLoop none Go.Proofs.Try.prog (szF Go.Proofs.Try.f46) (bodyOf Go.Proofs.Try.f46 0) (noptics_SplitBudget_l0_0_h a0 a1 x21 x7) .ret (noptics_SplitBudget_l0_0_e0 a0 a1 r) | .inr r => VLoop none Go.Proofs.Try.prog (szF Go.Proofs.Try.f46) (bodyOf Go.Proofs.Try.f46 0) (noptics_SplitBudget_l0_0_h a0 a1 x21 x7) (.exit 0) (noptics_SplitBudget_l0_0_e1 a0 a1 r)) := by
 intro fuel
 induction fuel with
 | zero => intro x21 x7 r h; rw [noptics_SplitBudget_l0_0.eq_1] at h; cases h
 | succ fuel ih =>
  intro x21 x7 r h
  rw [noptics_SplitBudget_l0_0.eq_2] at h
  rcases ifs h with ⟨h2247, h⟩ | ⟨h2247, h⟩
  ·obtain ⟨h2248, h⟩ := ifn h
   have e2249 := (show loadL Go.Proofs.Try.prog 3 (x21.toNat * 1) (List.map vi a1) = some (vi (a1.getD x21.toNat 0)) from ld_map ag3 vi a1 0 h2248 (by omega))
   obtain ⟨r2250, h2251, h⟩ := bs h
   have e2252 := (noptics_isWithin_ok k (a1.getD x21.toNat 0) 0 10000 _ h2251)
   rcases ifs h with ⟨h2253, h⟩ | ⟨h2253, h⟩
   ·rcases ifs h with ⟨h2254, h⟩ | ⟨h2254, h⟩
    ·have h2 := ih _ _ _ h
     obtain ⟨q, hv, hq⟩ := pkR (rd := none) (P := Go.Proofs.Try.prog) (fn := Go.Proofs.Try.f46) (k := 0) (s := (noptics_SplitBudget_l0_0_h a0 a1 x21 x7)) (ans := [.reg (.n :: []), .br true, .reg (.n :: .v (vi (a1.getD x21.toNat 0)) :: .n :: []), .reg (.n :: .call (vb r2250) :: .n :: []), .br false, .reg (.n :: .n :: []), .br false, .reg (.n :: .n :: [])]) (c := ⟨[(0, none), (1, none), (7, none), (19, none), (20, none), (21, none)], [], []⟩) (e := .normal) (s1 := (noptics_SplitBudget_l0_0_h a0 a1 (w64 (x21 + 1)) x7)) (an (an (ti trivial) (an (an (decide_eq_true h2247) trivial) (an (an (an h2248 (an e2249 (ti trivial))) (an (an (ti (an e2252 (ti trivial))) (an (not_f h2253) trivial)) (an (ti (ti trivial)) (an (not_f (decide_eq_true h2254)) trivial)))) (ti (ti trivial))))) (ti trivial)) (by kernel_rfl)
     cases r with
     | inl r => exact round_next pm pn hv hq h2
     | inr r =>
      exact round_next pm pn hv hq h2
    ·have h2 := ih _ _ _ h
     obtain ⟨q, hv, hq⟩ := pkR (rd := none) (P := Go.Proofs.Try.prog) (fn := Go.Proofs.Try.f46) (k := 0) (s := (noptics_SplitBudget_l0_0_h a0 a1 x21 x7)) (ans := [.reg (.n :: []), .br true, .reg (.n :: .v (vi (a1.getD x21.toNat 0)) :: .n :: []), .reg (.n :: .call (vb r2250) :: .n :: []), .br false, .reg (.n :: .n :: []), .br true, .reg (nN 3 []), .reg (.n :: .n :: [])]) (c := ⟨[(0, none), (1, none), (7, none), (19, none), (20, none), (21, none)], [], []⟩) (e := .normal) (s1 := (noptics_SplitBudget_l0_0_h a0 a1 (w64 (x21 + 1)) (w64 (x7 + 1)))) (an (an (ti trivial) (an (an (decide_eq_true h2247) trivial) (an (an (an h2248 (an e2249 (ti trivial))) (an (an (ti (an e2252 (ti trivial))) (an (not_f h2253) trivial)) (an (ti (ti trivial)) (an (not_t (decide_eq_false h2254)) (ti (ti (ti trivial))))))) (ti (ti trivial))))) (ti trivial)) (by kernel_rfl)
     cases r with
     | inl r => exact round_next pm pn hv hq h2
     | inr r =>
      exact round_next pm pn hv hq h2
   ·injection h with h; subst h
    exact round_stop (c := ⟨[(4, none), (5, none)], [], []⟩) (s1 := (noptics_SplitBudget_l0_0_e0 a0 a1 ())) pm pn (ans := [.reg (.n :: []), .br true, .reg (.n :: .v (vi (a1.getD x21.toNat 0)) :: .n :: []), .reg (.n :: .call (vb r2250) :: .n :: []), .br true, .reg (.n :: .n :: [])]) (by kernel_rfl) (by intro e; cases e) (an (an (ti trivial) (an (an (decide_eq_true h2247) trivial) (an (an h2248 (an e2249 (ti trivial))) (an (ti (an e2252 (ti trivial))) (an (not_t (bool_f h2253)) (an (ti (ti trivial)) trivial)))))) (ti trivial))
  ·injection h with h; subst h
   exact round_stop (c := ⟨[(0, none), (1, none), (7, none)], [], []⟩) (s1 := (noptics_SplitBudget_l0_0_e1 a0 a1 x7)) pm pn (ans := [.reg (.n :: []), .br false]) (by kernel_rfl) (by intro e; cases e) (an (an (ti trivial) (an (decide_eq_false h2247) trivial)) (ti trivial))
def noptics_SplitBudget_l1_0_h (a0 : Int) (a1 : (List Int)) (r2258 : Int) (y0 : List Int) (x38 : Int) : VS := ⟨mkA [(0, vi a0), (7, vi r2258), (10, VV.rf 0 0 y0.length), (36, VV.tr (List.map vi a1) a1.length), (37, vi (a1.length : Int)), (38, vi x38)], [some ⟨false, 1, List.map vi y0⟩], .nil⟩
def noptics_SplitBudget_l1_0_e0 (a0 : Int) (a1 : (List Int)) (r2258 : Int) (r : (List Int)) : VS := ⟨mkA [(10, VV.rf 0 0 r.length)], [some ⟨false, 1, List.map vi r⟩], .nil⟩
def noptics_SplitBudget_l1_0 (k : Nat) (a0 : Int) (a1 : (List Int)) (r2258 : Int) : Nat → (List Int) → Int → Option ((List Int))
  | 0, _, _ => none
  | fuel + 1, y0, x38 => if x38 < (a1.length : Int) then (if 0 ≤ x38 ∧ x38 < (a1.length : Int) then (if 0 ≤ x38 ∧ x38 < (y0.length : Int) then (if (a1.getD x38.toNat 0) = 0 then (noptics_SplitBudget_l1_0 k a0 a1 r2258 fuel (y0.set x38.toNat 10000) (w64 (x38 + 1))) else (if r2258 ≠ 0 then ((noptics_rootDown k (w64 ((w64 (a0 * a0)).tdiv r2258))).bind fun r2303 => (if (a1.getD x38.toNat 0) ≠ 0 then (if 0 ≤ x38 ∧ x38 < ((y0.set x38.toNat 10000).length : Int) then (if x38 < ((y0.length : Nat) : Int) then (noptics_SplitBudget_l1_0 k a0 a1 r2258 fuel ((y0.set x38.toNat 10000).set x38.toNat (minI (w64 (r2303.tdiv (a1.getD x38.toNat 0))) 10000)) (w64 (x38 + 1))) else none) else none) else none)) else none)) else none) else none) else (some y0)
theorem noptics_SplitBudget_l1_0_ok (k : Nat) (a0 : Int) (a1 : (List Int)) (r2258 : Int) : ∀ (fuel : Nat) (y0 : List Int) (x38 : Int) (r : (List Int)), noptics_SplitBudget_l1_0 k a0 a1 r2258 fuel y0 x38 = some r → (VLoop none Go.Proofs.Try.prog (szF Go.Proofs.Try.f46) (bodyOf Go.Proofs.Try.f46 1) (noptics_SplitBudget_l1_0_h a0 a1 r2258 y0 x38) (.exit 2) (noptics_SplitBudget_l1_0_e0 a0 a1 r2258 r)) := by
 intro fuel
 induction fuel with
 | zero => intro y0 x38 r h; rw [noptics_SplitBudget_l1_0.eq_1] at h; cases h
 | succ fuel ih =>
  intro y0 x38 r h
  rw [noptics_SplitBudget_l1_0.eq_2] at h
  rcases ifs h with ⟨h2296, h⟩ | ⟨h2296, h⟩
  ·obtain ⟨h2297, h⟩ := ifn h
   have e2298 := (show loadL Go.Proofs.Try.prog 3 (x38.toNat * 1) (List.map vi a1) = some (vi (a1.getD x38.toNat 0)) from ld_map ag3 vi a1 0 h2297 (by omega))
   obtain ⟨h2299, h⟩ := ifn h
   have e2300 := (show (0 + x38.toNat * 1) + 1 ≤ List.length (List.map vi y0) from (by simp only [List.length_map]; omega))
   rcases ifs h with ⟨h2301, h⟩ | ⟨h2301, h⟩
   ·have h2 := ih _ _ _ h
    obtain ⟨q, hv, hq⟩ := pkR (rd := none) (P := Go.Proofs.Try.prog) (fn := Go.Proofs.Try.f46) (k := 1) (s := (noptics_SplitBudget_l1_0_h a0 a1 r2258 y0 x38)) (ans := [.reg (.n :: []), .br true, .reg (.n :: .n :: .v (vi (a1.getD x38.toNat 0)) :: .n :: .n :: []), .reg (nN 4 []), .reg (.n :: .n :: []), .br false, .reg (.n :: .n :: [])]) (c := ⟨[(0, none), (7, none), (10, some (VV.rf 0 0 ((y0.set x38.toNat 10000).length))), (36, none), (37, none), (38, none)], [some (List.map vi (y0.set x38.toNat 10000))], []⟩) (e := .normal) (s1 := (noptics_SplitBudget_l1_0_h a0 a1 r2258 (y0.set x38.toNat 10000) (w64 (x38 + 1)))) (an (an (ti trivial) (an (an (decide_eq_true h2296) trivial) (an (an (ti (an h2297 (an e2298 (ti (ti trivial))))) (an (ti (ti (an h2299 (an e2300 trivial)))) (an (ti (ti trivial)) (an (not_f (decide_eq_true h2301)) trivial)))) (ti (ti trivial))))) (an (an (show Wv (VV.rf 0 0 y0.length) (VV.rf 0 0 ((y0.set x38.toNat 10000).length)) from (Wv.of_eq (by simp))) trivial) (an (show putT (0 + x38.toNat * 1) (List.map vi y0) [vi 10000] = List.map vi (y0.set x38.toNat 10000) from (by exact putT_vi y0 h2299 10000 (by omega))) trivial))) (by kernel_rfl)
    exact round_next pm pn hv hq h2
   ·obtain ⟨h2302, h⟩ := ifn h
    obtain ⟨r2303, h2304, h⟩ := bs h
    have e2305 := (noptics_rootDown_ok k (w64 ((w64 (a0 * a0)).tdiv r2258)) _ h2304)
    obtain ⟨h2306, h⟩ := ifn h
    obtain ⟨h2307, h⟩ := ifn h
    obtain ⟨h2308, h⟩ := ifn h
    have e2309 := (show 0 ≤ x38 ∧ x38 < ((y0.length : Nat) : Int) from ⟨h2307.1, h2308⟩)
    have e2310 := (show (0 + x38.toNat * 1) + 1 ≤ List.length (putT (0 + x38.toNat * 1) (List.map vi y0) [vi 10000]) from (by rw [show putT (0 + x38.toNat * 1) (List.map vi y0) [vi 10000] = List.map vi (y0.set x38.toNat 10000) from (by exact putT_vi y0 h2299 10000 (by omega))]; simp only [List.length_map]; omega))
    have e2311 := (ti (ti (ti (ti (ti (ti (an h2302 (an e2305 (ti (an h2306 (ti (an e2309 (an e2310 trivial)))))))))))))
    have h2 := ih _ _ _ h
    obtain ⟨q, hv, hq⟩ := pkR (rd := none) (P := Go.Proofs.Try.prog) (fn := Go.Proofs.Try.f46) (k := 1) (s := (noptics_SplitBudget_l1_0_h a0 a1 r2258 y0 x38)) (ans := [.reg (.n :: []), .br true, .reg (.n :: .n :: .v (vi (a1.getD x38.toNat 0)) :: .n :: .n :: []), .reg (nN 4 []), .reg (.n :: .n :: []), .br true, .reg (nN 7 (.call (vi r2303) :: nN 5 [])), .reg (.n :: .n :: [])]) (c := ⟨[(0, none), (7, none), (10, some (VV.rf 0 0 (((y0.set x38.toNat 10000).set x38.toNat (minI (w64 (r2303.tdiv (a1.getD x38.toNat 0))) 10000)).length))), (36, none), (37, none), (38, none)], [some (List.map vi ((y0.set x38.toNat 10000).set x38.toNat (minI (w64 (r2303.tdiv (a1.getD x38.toNat 0))) 10000)))], []⟩) (e := .normal) (s1 := (noptics_SplitBudget_l1_0_h a0 a1 r2258 ((y0.set x38.toNat 10000).set x38.toNat (minI (w64 (r2303.tdiv (a1.getD x38.toNat 0))) 10000)) (w64 (x38 + 1)))) (an (an (ti trivial) (an (an (decide_eq_true h2296) trivial) (an (an (ti (an h2297 (an e2298 (ti (ti trivial))))) (an (ti (ti (an h2299 (an e2300 trivial)))) (an (ti (ti trivial)) (an (not_t (decide_eq_false h2301)) e2311)))) (ti (ti trivial))))) (an (an (show Wv (VV.rf 0 0 y0.length) (VV.rf 0 0 (((y0.set x38.toNat 10000).set x38.toNat (minI (w64 (r2303.tdiv (a1.getD x38.toNat 0))) 10000)).length)) from (Wv.of_eq (by simp))) trivial) (an (show putT (0 + x38.toNat * 1) (putT (0 + x38.toNat * 1) (List.map vi y0) [vi 10000]) [vi (minI (w64 (r2303.tdiv (a1.getD x38.toNat 0))) 10000)] = List.map vi ((y0.set x38.toNat 10000).set x38.toNat (minI (w64 (r2303.tdiv (a1.getD x38.toNat 0))) 10000)) from (by rw [show putT (0 + x38.toNat * 1) (List.map vi y0) [vi 10000] = List.map vi (y0.set x38.toNat 10000) from (by exact putT_vi y0 h2299 10000 (by omega))]; exact putT_vi (y0.set x38.toNat 10000) h2307 (minI (w64 (r2303.tdiv (a1.getD x38.toNat 0))) 10000) (by omega))) trivial))) (by kernel_rfl)
    exact round_next pm pn hv hq h2
  ·injection h with h; subst h
   exact round_stop (c := ⟨[(10, none)], [none], []⟩) (s1 := (noptics_SplitBudget_l1_0_e0 a0 a1 r2258 y0)) pm pn (ans := [.reg (.n :: []), .br false]) (by kernel_rfl) (by intro e; cases e) (an (an (ti trivial) (an (decide_eq_false h2296) trivial)) (ti trivial))
theorem eqWB_1 (z0 : (List Int)) : VV.tu [VV.fw 1 (List.drop 0 (List.map unfr (List.map vi z0))) z0.length, vi 0] = VV.tu [VV.fw 1 (List.map vi z0) z0.length, vi 0] := by first | rfl | (simp only [drop0, unfr_vi, List.map_cons, List.map_nil, un_i, List.length_map, List.length_cons, List.length_nil]; done) | (simp only [drop0, unfr_vi, List.map_cons, List.map_nil, un_i, List.length_map, List.length_cons, List.length_nil]; rfl) | (simp only [drop0, unfr_vi, List.map_cons, List.map_nil, un_i, List.length_map, List.length_cons, List.length_nil, List.length_cons, List.length_nil, List.length_append]; done)
def noptics_SplitBudget (k : Nat) (a0 : Int) (a1 : (List Int)) : Option ((List Int) × Int) :=
  (noptics_checkEffects k a0 a1).bind fun r2227 => (if r2227 = 0 then ((noptics_SplitBudget_l0_0 k a0 a1 k 0 0).bind fun r2256 => (match r2256 with | .inl r2257 => (some ([], 2)) | .inr r2258 => (if 0 ≤ (a1.length : Int) ∧ (a1.length : Int) ≤ 1000000000 then ((noptics_SplitBudget_l1_0 k a0 a1 r2258 k (List.replicate (a1.length : Int).toNat (0 : Int)) 0).bind fun r2313 => (some (r2313, 0))) else none))) else (some ([], r2227)))
theorem noptics_SplitBudget_ok (k : Nat) (a0 : Int) (a1 : (List Int)) (r : ((List Int) × Int)) (h : noptics_SplitBudget k a0 a1 = some r) : VC Go.Proofs.Try.prog 46 [vi a0, VV.tr (List.map vi a1) a1.length] (VV.tu [VV.fw 1 (List.map vi r.1) r.1.length, vi r.2]) := by
 unfold noptics_SplitBudget at h
 obtain ⟨r2227, h2228, h⟩ := bs h
 have e2229 := (noptics_checkEffects_ok k a0 a1 _ h2228)
 rcases ifs h with ⟨h2230, h⟩ | ⟨h2230, h⟩
 ·obtain ⟨r2256, h2255, h⟩ := bs h
  have hph2255 := noptics_SplitBudget_l0_0_ok k a0 a1 _ _ _ _ h2255
  cases r2256 with
  | inl r2257 =>
   dsimp only at h
   have e2259 := (an (ti trivial) (VRun.loop hph2255))
   injection h with h; subst h
   exact fun_ok pm pn Go.Proofs.Try.func46 (r0 := VV.tu [VV.c (.slice none 0 0), vi 2]) (ans := [.reg (.n :: .n :: []), .reg (.n :: .n :: .call (vi r2227) :: .n :: []), .reg (.n :: .n :: []), .br false, .reg (.n :: []), .reg (nN 3 []), .sub ⟨[(0, none), (1, none), (7, none), (19, none), (20, none), (21, none)], [], []⟩ .ret (noptics_SplitBudget_l0_0_e0 a0 a1 r2257)]) (fr := true) (by kernel_rfl) (an (an (ti (ti trivial)) (an (an (ti (ti (an e2229 (ti trivial)))) (an (ti (ti trivial)) (an (not_f (decide_eq_true h2230)) trivial))) (an (ti trivial) (an (ti (ti (ti trivial))) e2259)))) (ti (ti trivial))) (Wv.tuL (.cons Wv.nilFw (.cons (Wv.refl _) .nil)))
  | inr r2258 =>
   dsimp only at h
   have e2260 := (an (ti trivial) (VRun.loop hph2255))
   obtain ⟨h2261, h⟩ := ifn h
   have e2262 := (show 0 ≤ (a1.length : Int) ∧ (a1.length : Int) = (a1.length : Int) ∧ (8 * (a1.length : Int).toNat) ≤ 281474976710656 ∧ (a1.length : Int) < 1099511627776 from ⟨by omega, rfl, by omega, by omega⟩)
   obtain ⟨r2313, h2312, h⟩ := bs h
   have hph2312 := noptics_SplitBudget_l1_0_ok k a0 a1 r2258 _ _ _ _ h2312
   have e2314 := (an (an (an (show Wv (VV.rf 0 0 ((a1.length : Int).toNat)) (VV.rf 0 0 ((List.replicate (a1.length : Int).toNat (0 : Int)).length)) from (Wv.of_eq (by simp))) trivial) (an (show List.replicate (a1.length : Int).toNat (VV.c (.int .i64 0)) = List.map vi (List.replicate (a1.length : Int).toNat (0 : Int)) from replicate_vi _) trivial)) (VRun.loop hph2312))
   injection h with h; subst h
   exact fun_ok pm pn Go.Proofs.Try.func46 (r0 := VV.tu [VV.fw 1 (List.drop 0 (List.map unfr (List.map vi r2313))) r2313.length, vi 0]) (ans := [.reg (.n :: .n :: []), .reg (.n :: .n :: .call (vi r2227) :: .n :: []), .reg (.n :: .n :: []), .br false, .reg (.n :: []), .reg (nN 3 []), .sub ⟨[(0, none), (1, none), (7, none), (19, none), (20, none), (21, none)], [], []⟩ (.exit 0) (noptics_SplitBudget_l0_0_e1 a0 a1 r2258), .reg (nN 4 []), .reg (nN 3 []), .sub ⟨[(0, none), (7, none), (10, some (VV.rf 0 0 ((List.replicate (a1.length : Int).toNat (0 : Int)).length))), (36, none), (37, none), (38, none)], [some (List.map vi (List.replicate (a1.length : Int).toNat (0 : Int)))], []⟩ (.exit 2) (noptics_SplitBudget_l1_0_e0 a0 a1 r2258 r2313), .reg (nN 3 [])]) (fr := true) (by kernel_rfl) (an (an (ti (ti trivial)) (an (an (ti (ti (an e2229 (ti trivial)))) (an (ti (ti trivial)) (an (not_f (decide_eq_true h2230)) trivial))) (an (ti trivial) (an (an (ti (ti (ti trivial))) e2260) (an (ti (ti (an e2262 (ti trivial)))) (an (an (ti (ti (ti trivial))) e2314) (an (ti (ti (ti trivial))) trivial))))))) (an (show List.all (List.map vi r2313) new0 = true from (by exact new0_vi _)) (ti trivial))) (Wv.of_eq (eqWB_1 r2313))
 ·injection h with h; subst h
  exact fun_ok pm pn Go.Proofs.Try.func46 (r0 := VV.tu [VV.c (.slice none 0 0), vi r2227]) (ans := [.reg (.n :: .n :: []), .reg (.n :: .n :: .call (vi r2227) :: .n :: []), .reg (.n :: .n :: []), .br true, .reg (nN 3 [])]) (fr := true) (by kernel_rfl) (an (an (ti (ti trivial)) (an (ti (ti (an e2229 (ti trivial)))) (an (ti (ti trivial)) (an (not_t (decide_eq_false h2230)) (an (ti (ti (ti trivial))) trivial))))) (ti (ti trivial))) (Wv.tuL (.cons Wv.nilFw (.cons (Wv.refl _) .nil)))
def nspeculumref02_SplitBudget_l0_0_h (a0 : Int) (a1 : (List Int)) (x7 : Int) (x8 : Int) : VS := ⟨mkA [(0, vi a0), (1, VV.tr (List.map vi a1) a1.length), (7, vi x7), (8, vi x8)], [], .nil⟩
def nspeculumref02_SplitBudget_l0_0_e0 (a0 : Int) (a1 : (List Int)) (r : Unit) : VS := ⟨mkA [(4, VV.c (.slice none 0 0)), (5, vi 2)], [], .nil⟩
def nspeculumref02_SplitBudget_l0_0_e1 (a0 : Int) (a1 : (List Int)) (r : Int) : VS := ⟨mkA [(0, vi a0), (1, VV.tr (List.map vi a1) a1.length), (7, vi r)], [], .nil⟩
def nspeculumref02_SplitBudget_l0_0 (k : Nat) (a0 : Int) (a1 : (List Int)) : Nat → Int → Int → Option (Sum Unit Int)
  | 0, _, _ => none
  | fuel + 1, x7, x8 => if x8 < (a1.length : Int) then (if 0 ≤ x8 ∧ x8 < (a1.length : Int) then ((nspeculumbase_Within k (a1.getD x8.toNat 0) 0 10000).bind fun r2493 => (if r2493 = true then (if 0 < (a1.getD x8.toNat 0) then (nspeculumref02_SplitBudget_l0_0 k a0 a1 fuel (w64 (x7 + 1)) (w64 (x8 + 1))) else (nspeculumref02_SplitBudget_l0_0 k a0 a1 fuel x7 (w64 (x8 + 1)))) else (some (.inl ())))) else none) else (some (.inr x7))
theorem nspeculumref02_SplitBudget_l0_0_ok (k : Nat) (a0 : Int) (a1 : (List Int)) : ∀ (fuel : Nat) (x7 : Int) (x8 : Int) (r : Sum Unit Int), nspeculumref02_SplitBudget_l0_0 k a0 a1 fuel x7 x8 = some r → (match r with | .inl r => VLoop none Go.Proofs.Try.prog (szF Go.Proofs.Try.f47) (bodyOf Go.Proofs.Try.f47 0) (nspeculumref02_SplitBudget_l0_0_h a0 a1 x7 x8) .ret (nspeculumref02_SplitBudget_l0_0_e0 a0 a1 r) | .inr r => VLoop none Go.Proofs.Try.prog (szF Go.Proofs.Try.f47) (bodyOf Go.Proofs.Try.f47 0) (nspeculumref02_SplitBudget_l0_0_h a0 a1 x7 x8) (.exit 0) (nspeculumref02_SplitBudget_l0_0_e1 a0 a1 r)) := by
 intro fuel
 induction fuel with
 | zero => intro x7 x8 r h; rw [nspeculumref02_SplitBudget_l0_0.eq_1] at h; cases h
 | succ fuel ih =>
  intro x7 x8 r h
  rw [nspeculumref02_SplitBudget_l0_0.eq_2] at h
  rcases ifs h with ⟨h2490, h⟩ | ⟨h2490, h⟩
  ·obtain ⟨h2491, h⟩ := ifn h
   have e2492 := (show loadL Go.Proofs.Try.prog 3 (x8.toNat * 1) (List.map vi a1) = some (vi (a1.getD x8.toNat 0)) from ld_map ag3 vi a1 0 h2491 (by omega))
   obtain ⟨r2493, h2494, h⟩ := bs h
   have e2495 := (nspeculumbase_Within_ok k (a1.getD x8.toNat 0) 0 10000 _ h2494)
   have e2496 := (ti (ti (an h2491 (an e2492 (an e2495 (ti trivial))))))
   rcases ifs h with ⟨h2497, h⟩ | ⟨h2497, h⟩
   ·have e2498 := (show loadL Go.Proofs.Try.prog 3 (x8.toNat * 1) (List.map vi a1) = some (vi (a1.getD x8.toNat 0)) from ld_map ag3 vi a1 0 h2491 (by omega))
    rcases ifs h with ⟨h2499, h⟩ | ⟨h2499, h⟩
    ·have h2 := ih _ _ _ h
     obtain ⟨q, hv, hq⟩ := pkR (rd := none) (P := Go.Proofs.Try.prog) (fn := Go.Proofs.Try.f47) (k := 0) (s := (nspeculumref02_SplitBudget_l0_0_h a0 a1 x7 x8)) (ans := [.reg (nN 4 []), .br true, .reg (nN 3 (.v (vi (a1.getD x8.toNat 0)) :: .call (vb r2493) :: .n :: [])), .br false, .reg (nN 3 (.v (vi (a1.getD x8.toNat 0)) :: .n :: [])), .br true, .reg (nN 3 []), .reg (nN 3 [])]) (c := ⟨[(0, none), (1, none), (7, none), (8, none)], [], []⟩) (e := .normal) (s1 := (nspeculumref02_SplitBudget_l0_0_h a0 a1 (w64 (x7 + 1)) (w64 (x8 + 1)))) (an (an (an (ti (ti (ti (ti trivial)))) (an (decide_eq_true h2490) trivial)) (an (an (an e2496 (an (not_f h2497) trivial)) (an (ti (ti (an h2491 (an e2498 (ti trivial))))) (an (decide_eq_true h2499) (ti (ti (ti trivial)))))) (ti (ti (ti trivial))))) (ti trivial)) (by kernel_rfl)
     cases r with
     | inl r => exact round_next pm pn hv hq h2
     | inr r =>
      exact round_next pm pn hv hq h2
    ·have h2 := ih _ _ _ h
     obtain ⟨q, hv, hq⟩ := pkR (rd := none) (P := Go.Proofs.Try.prog) (fn := Go.Proofs.Try.f47) (k := 0) (s := (nspeculumref02_SplitBudget_l0_0_h a0 a1 x7 x8)) (ans := [.reg (nN 4 []), .br true, .reg (nN 3 (.v (vi (a1.getD x8.toNat 0)) :: .call (vb r2493) :: .n :: [])), .br false, .reg (nN 3 (.v (vi (a1.getD x8.toNat 0)) :: .n :: [])), .br false, .reg (nN 3 [])]) (c := ⟨[(0, none), (1, none), (7, none), (8, none)], [], []⟩) (e := .normal) (s1 := (nspeculumref02_SplitBudget_l0_0_h a0 a1 x7 (w64 (x8 + 1)))) (an (an (an (ti (ti (ti (ti trivial)))) (an (decide_eq_true h2490) trivial)) (an (an (an e2496 (an (not_f h2497) trivial)) (an (ti (ti (an h2491 (an e2498 (ti trivial))))) (an (decide_eq_false h2499) trivial))) (ti (ti (ti trivial))))) (ti trivial)) (by kernel_rfl)
     cases r with
     | inl r => exact round_next pm pn hv hq h2
     | inr r =>
      exact round_next pm pn hv hq h2
   ·injection h with h; subst h
    exact round_stop (c := ⟨[(4, none), (5, none)], [], []⟩) (s1 := (nspeculumref02_SplitBudget_l0_0_e0 a0 a1 ())) pm pn (ans := [.reg (nN 4 []), .br true, .reg (nN 3 (.v (vi (a1.getD x8.toNat 0)) :: .call (vb r2493) :: .n :: [])), .br true, .reg (.n :: .n :: [])]) (by kernel_rfl) (by intro e; cases e) (an (an (an (ti (ti (ti (ti trivial)))) (an (decide_eq_true h2490) trivial)) (an e2496 (an (not_t (bool_f h2497)) (an (ti (ti trivial)) trivial)))) (ti trivial))
  ·injection h with h; subst h
   exact round_stop (c := ⟨[(0, none), (1, none), (7, none)], [], []⟩) (s1 := (nspeculumref02_SplitBudget_l0_0_e1 a0 a1 x7)) pm pn (ans := [.reg (nN 4 []), .br false]) (by kernel_rfl) (by intro e; cases e) (an (an (ti (ti (ti (ti trivial)))) (an (decide_eq_false h2490) trivial)) (ti trivial))
def nspeculumref02_SplitBudget_l2_0_h (a0 : Int) (a1 : (List Int)) (r2503 : Int) (y0 : List Int) (x10 : Int) (x11 : Int) (x12 : Int) : VS := ⟨mkA [(0, vi a0), (1, VV.tr (List.map vi a1) a1.length), (7, vi r2503), (9, VV.rf 0 0 y0.length), (10, vi x10), (11, vi x11), (12, vi x12)], [some ⟨false, 1, List.map vi y0⟩], .nil⟩
def nspeculumref02_SplitBudget_l2_0_e0 (a0 : Int) (a1 : (List Int)) (r2503 : Int) (y0 : List Int) (x10 : Int) (r : Int) : VS := ⟨mkA [(0, vi a0), (1, VV.tr (List.map vi a1) a1.length), (7, vi r2503), (9, VV.rf 0 0 y0.length), (10, vi x10), (11, vi r)], [some ⟨false, 1, List.map vi y0⟩], .nil⟩
def nspeculumref02_SplitBudget_l2_0 (k : Nat) (a0 : Int) (a1 : (List Int)) (r2503 : Int) (y0 : List Int) (x10 : Int) : Nat → Int → Int → Option (Int)
  | 0, _, _ => none
  | fuel + 1, x11, x12 => if x11 < x12 then (if 0 ≤ x10 ∧ x10 < (a1.length : Int) then (if (w64 ((w64 (r2503 * (w64 ((a1.getD x10.toNat 0) * (w64 ((w64 ((w64 (x11 + x12)) + 1)).tdiv 2)))))) * (w64 ((a1.getD x10.toNat 0) * (w64 ((w64 ((w64 (x11 + x12)) + 1)).tdiv 2)))))) ≤ (w64 (a0 * a0)) then (nspeculumref02_SplitBudget_l2_0 k a0 a1 r2503 y0 x10 fuel (w64 ((w64 ((w64 (x11 + x12)) + 1)).tdiv 2)) x12) else (nspeculumref02_SplitBudget_l2_0 k a0 a1 r2503 y0 x10 fuel x11 (w64 ((w64 ((w64 ((w64 (x11 + x12)) + 1)).tdiv 2)) - 1)))) else none) else (some x11)
theorem nspeculumref02_SplitBudget_l2_0_ok (k : Nat) (a0 : Int) (a1 : (List Int)) (r2503 : Int) (y0 : List Int) (x10 : Int) : ∀ (fuel : Nat) (x11 : Int) (x12 : Int) (r : Int), nspeculumref02_SplitBudget_l2_0 k a0 a1 r2503 y0 x10 fuel x11 x12 = some r → (VLoop none Go.Proofs.Try.prog (szF Go.Proofs.Try.f47) (bodyOf Go.Proofs.Try.f47 2) (nspeculumref02_SplitBudget_l2_0_h a0 a1 r2503 y0 x10 x11 x12) (.exit 4) (nspeculumref02_SplitBudget_l2_0_e0 a0 a1 r2503 y0 x10 r)) := by
 intro fuel
 induction fuel with
 | zero => intro x11 x12 r h; rw [nspeculumref02_SplitBudget_l2_0.eq_1] at h; cases h
 | succ fuel ih =>
  intro x11 x12 r h
  rw [nspeculumref02_SplitBudget_l2_0.eq_2] at h
  rcases ifs h with ⟨h2598, h⟩ | ⟨h2598, h⟩
  ·have e2599 := (ti (ti (ti (ti (an (show (2 : Int) ≠ 0 from (by decide)) (ti trivial))))))
   obtain ⟨h2600, h⟩ := ifn h
   have e2601 := (show loadL Go.Proofs.Try.prog 3 (x10.toNat * 1) (List.map vi a1) = some (vi (a1.getD x10.toNat 0)) from ld_map ag3 vi a1 0 h2600 (by omega))
   have e2602 := (ti (ti (an h2600 (an e2601 (ti (ti (ti trivial)))))))
   have e2603 := (ti (ti (ti (ti (ti (ti (ti (ti (ti trivial)))))))))
   rcases ifs h with ⟨h2604, h⟩ | ⟨h2604, h⟩
   ·have h2 := ih _ _ _ h
    obtain ⟨q, hv, hq⟩ := pkR (rd := none) (P := Go.Proofs.Try.prog) (fn := Go.Proofs.Try.f47) (k := 2) (s := (nspeculumref02_SplitBudget_l2_0_h a0 a1 r2503 y0 x10 x11 x12)) (ans := [.reg (nN 3 []), .br true, .reg (nN 6 []), .reg (nN 3 (.v (vi (a1.getD x10.toNat 0)) :: nN 3 [])), .reg (nN 9 []), .br true, .reg (.n :: .n :: [])]) (c := ⟨[(0, none), (1, none), (7, none), (9, none), (10, none), (11, none), (12, none)], [none], []⟩) (e := .normal) (s1 := (nspeculumref02_SplitBudget_l2_0_h a0 a1 r2503 y0 x10 (w64 ((w64 ((w64 (x11 + x12)) + 1)).tdiv 2)) x12)) (an (an (an (ti (ti (ti trivial))) (an (decide_eq_true h2598) trivial)) (an e2599 (an e2602 (an e2603 (an (decide_eq_true h2604) (ti (ti trivial))))))) (ti trivial)) (by kernel_rfl)
    exact round_next pm pn hv hq h2
   ·have h2 := ih _ _ _ h
    obtain ⟨q, hv, hq⟩ := pkR (rd := none) (P := Go.Proofs.Try.prog) (fn := Go.Proofs.Try.f47) (k := 2) (s := (nspeculumref02_SplitBudget_l2_0_h a0 a1 r2503 y0 x10 x11 x12)) (ans := [.reg (nN 3 []), .br true, .reg (nN 6 []), .reg (nN 3 (.v (vi (a1.getD x10.toNat 0)) :: nN 3 [])), .reg (nN 9 []), .br false, .reg (nN 3 [])]) (c := ⟨[(0, none), (1, none), (7, none), (9, none), (10, none), (11, none), (12, none)], [none], []⟩) (e := .normal) (s1 := (nspeculumref02_SplitBudget_l2_0_h a0 a1 r2503 y0 x10 x11 (w64 ((w64 ((w64 ((w64 (x11 + x12)) + 1)).tdiv 2)) - 1)))) (an (an (an (ti (ti (ti trivial))) (an (decide_eq_true h2598) trivial)) (an e2599 (an e2602 (an e2603 (an (decide_eq_false h2604) (ti (ti (ti trivial)))))))) (ti trivial)) (by kernel_rfl)
    exact round_next pm pn hv hq h2
  ·injection h with h; subst h
   exact round_stop (c := ⟨[(0, none), (1, none), (7, none), (9, none), (10, none), (11, none)], [none], []⟩) (s1 := (nspeculumref02_SplitBudget_l2_0_e0 a0 a1 r2503 y0 x10 x11)) pm pn (ans := [.reg (nN 3 []), .br false]) (by kernel_rfl) (by intro e; cases e) (an (an (ti (ti (ti trivial))) (an (decide_eq_false h2598) trivial)) (ti trivial))
def nspeculumref02_SplitBudget_l1_0_h (a0 : Int) (a1 : (List Int)) (r2503 : Int) (y0 : List Int) (x10 : Int) : VS := ⟨mkA [(0, vi a0), (1, VV.tr (List.map vi a1) a1.length), (7, vi r2503), (9, VV.rf 0 0 y0.length), (10, vi x10)], [some ⟨false, 1, List.map vi y0⟩], .nil⟩
def nspeculumref02_SplitBudget_l1_0_e0 (a0 : Int) (a1 : (List Int)) (r2503 : Int) (r : (List Int)) : VS := ⟨mkA [(9, VV.rf 0 0 r.length)], [some ⟨false, 1, List.map vi r⟩], .nil⟩
def nspeculumref02_SplitBudget_l1_0 (k : Nat) (a0 : Int) (a1 : (List Int)) (r2503 : Int) : Nat → (List Int) → Int → Option ((List Int))
  | 0, _, _ => none
  | fuel + 1, y0, x10 => if x10 < (a1.length : Int) then ((nspeculumref02_SplitBudget_l2_0 k a0 a1 r2503 y0 x10 k 0 10000).bind fun r2606 => (if y0.length + ([r2606] : List Int).length ≤ 1000000000 then (nspeculumref02_SplitBudget_l1_0 k a0 a1 r2503 fuel (y0 ++ ([r2606] : List Int)) (w64 (x10 + 1))) else none)) else (some y0)
theorem nspeculumref02_SplitBudget_l1_0_ok (k : Nat) (a0 : Int) (a1 : (List Int)) (r2503 : Int) : ∀ (fuel : Nat) (y0 : List Int) (x10 : Int) (r : (List Int)), nspeculumref02_SplitBudget_l1_0 k a0 a1 r2503 fuel y0 x10 = some r → (VLoop none Go.Proofs.Try.prog (szF Go.Proofs.Try.f47) (bodyOf Go.Proofs.Try.f47 1) (nspeculumref02_SplitBudget_l1_0_h a0 a1 r2503 y0 x10) (.exit 2) (nspeculumref02_SplitBudget_l1_0_e0 a0 a1 r2503 r)) := by
 intro fuel
 induction fuel with
 | zero => intro y0 x10 r h; rw [nspeculumref02_SplitBudget_l1_0.eq_1] at h; cases h
 | succ fuel ih =>
  intro y0 x10 r h
  rw [nspeculumref02_SplitBudget_l1_0.eq_2] at h
  rcases ifs h with ⟨h2584, h⟩ | ⟨h2584, h⟩
  ·obtain ⟨r2606, h2605, h⟩ := bs h
   have hph2605 := nspeculumref02_SplitBudget_l2_0_ok k a0 a1 r2503 y0 x10 _ _ _ _ h2605
   have e2607 := (an (ti trivial) (VRun.loop hph2605))
   obtain ⟨h2608, h⟩ := ifn h
   have e2609 := (show List.length (List.map vi y0) = y0.length * 1 ∧ List.length [vi r2606] = 1 * 1 ∧ (y0.length + 1) * 8 ≤ 140737488355328 ∧ y0.length + 1 < 1099511627776 ∧ List.all [vi r2606] VV.still = true from ⟨(by simp), (by rw [show [vi r2606] = List.map vi ([r2606] : List Int) from rfl]; simp), (by first | omega | (simp at h2608 ⊢; omega)), (by first | omega | (simp at h2608 ⊢; omega)), (by rw [show [vi r2606] = List.map vi ([r2606] : List Int) from rfl]; exact still_vi _)⟩)
   have h2 := ih _ _ _ h
   obtain ⟨q, hv, hq⟩ := pkR (rd := none) (P := Go.Proofs.Try.prog) (fn := Go.Proofs.Try.f47) (k := 1) (s := (nspeculumref02_SplitBudget_l1_0_h a0 a1 r2503 y0 x10)) (ans := [.reg (nN 4 []), .br true, .reg (.n :: .n :: []), .sub ⟨[(0, none), (1, none), (7, none), (9, none), (10, none), (11, none), (12, none)], [none], []⟩ (.exit 4) (nspeculumref02_SplitBudget_l2_0_e0 a0 a1 r2503 y0 x10 r2606), .reg (nN 5 []), .reg (nN 3 [])]) (c := ⟨[(0, none), (1, none), (7, none), (9, some (VV.rf 0 0 ((y0 ++ ([r2606] : List Int)).length))), (10, none)], [some (List.map vi (y0 ++ ([r2606] : List Int)))], []⟩) (e := .normal) (s1 := (nspeculumref02_SplitBudget_l1_0_h a0 a1 r2503 (y0 ++ ([r2606] : List Int)) (w64 (x10 + 1)))) (an (an (an (ti (ti (ti (ti trivial)))) (an (decide_eq_true h2584) trivial)) (an (an (ti (ti trivial)) (an e2607 (ti (ti (ti (an e2609 (ti trivial))))))) (ti (ti (ti trivial))))) (an (an (show Wv (VV.rf 0 0 (y0.length + 1)) (VV.rf 0 0 ((y0 ++ ([r2606] : List Int)).length)) from (Wv.of_eq (by simp))) trivial) (an (show (List.map vi y0) ++ [vi r2606] = List.map vi (y0 ++ ([r2606] : List Int)) from (by rw [show [vi r2606] = List.map vi ([r2606] : List Int) from rfl]; exact List.map_append.symm)) trivial))) (by kernel_rfl)
   exact round_next pm pn hv hq h2
  ·injection h with h; subst h
   exact round_stop (c := ⟨[(9, none)], [none], []⟩) (s1 := (nspeculumref02_SplitBudget_l1_0_e0 a0 a1 r2503 y0)) pm pn (ans := [.reg (nN 4 []), .br false]) (by kernel_rfl) (by intro e; cases e) (an (an (ti (ti (ti (ti trivial)))) (an (decide_eq_false h2584) trivial)) (ti trivial))
def nspeculumref02_SplitBudget (k : Nat) (a0 : Int) (a1 : (List Int)) : Option ((List Int) × Int) :=
  (nspeculumref02_CheckTotal k a0 (a1.length : Int)).bind fun r2466 => (if r2466 = 0 then ((nspeculumref02_SplitBudget_l0_0 k a0 a1 k 0 0).bind fun r2501 => (match r2501 with | .inl r2502 => (some ([], 2)) | .inr r2503 => ((nspeculumref02_SplitBudget_l1_0 k a0 a1 r2503 k ([] : List Int) 0).bind fun r2611 => (some (r2611, 0))))) else (some ([], r2466)))
theorem nspeculumref02_SplitBudget_ok (k : Nat) (a0 : Int) (a1 : (List Int)) (r : ((List Int) × Int)) (h : nspeculumref02_SplitBudget k a0 a1 = some r) : VC Go.Proofs.Try.prog 47 [vi a0, VV.tr (List.map vi a1) a1.length] (VV.tu [VV.fw 1 (List.map vi r.1) r.1.length, vi r.2]) := by
 unfold nspeculumref02_SplitBudget at h
 obtain ⟨r2466, h2467, h⟩ := bs h
 have e2468 := (nspeculumref02_CheckTotal_ok k a0 (a1.length : Int) _ h2467)
 rcases ifs h with ⟨h2469, h⟩ | ⟨h2469, h⟩
 ·obtain ⟨r2501, h2500, h⟩ := bs h
  have hph2500 := nspeculumref02_SplitBudget_l0_0_ok k a0 a1 _ _ _ _ h2500
  cases r2501 with
  | inl r2502 =>
   dsimp only at h
   have e2504 := (an (ti trivial) (VRun.loop hph2500))
   injection h with h; subst h
   exact fun_ok pm pn Go.Proofs.Try.func47 (r0 := VV.tu [VV.c (.slice none 0 0), vi 2]) (ans := [.reg (.n :: .n :: []), .reg (nN 3 (.call (vi r2466) :: .n :: [])), .reg (.n :: .n :: []), .br false, .reg (.n :: []), .reg (.n :: []), .sub ⟨[(0, none), (1, none), (7, none), (8, none)], [], []⟩ .ret (nspeculumref02_SplitBudget_l0_0_e0 a0 a1 r2502)]) (fr := true) (by kernel_rfl) (an (an (ti (ti trivial)) (an (an (ti (ti (ti (an e2468 (ti trivial))))) (an (ti (ti trivial)) (an (not_f (decide_eq_true h2469)) trivial))) (an (ti trivial) (an (ti trivial) e2504)))) (ti (ti trivial))) (Wv.tuL (.cons Wv.nilFw (.cons (Wv.refl _) .nil)))
  | inr r2503 =>
   dsimp only at h
   have e2505 := (an (ti trivial) (VRun.loop hph2500))
   obtain ⟨r2611, h2610, h⟩ := bs h
   have hph2610 := nspeculumref02_SplitBudget_l1_0_ok k a0 a1 r2503 _ _ _ _ h2610
   have e2612 := (an (ti trivial) (VRun.loop hph2610))
   injection h with h; subst h
   exact fun_ok pm pn Go.Proofs.Try.func47 (r0 := VV.tu [VV.fw 1 (List.drop 0 (List.map unfr (List.map vi r2611))) r2611.length, vi 0]) (ans := [.reg (.n :: .n :: []), .reg (nN 3 (.call (vi r2466) :: .n :: [])), .reg (.n :: .n :: []), .br false, .reg (.n :: []), .reg (.n :: []), .sub ⟨[(0, none), (1, none), (7, none), (8, none)], [], []⟩ (.exit 0) (nspeculumref02_SplitBudget_l0_0_e1 a0 a1 r2503), .reg (.n :: []), .reg (.n :: []), .sub ⟨[(0, none), (1, none), (7, none), (9, none), (10, none)], [], [.t 9 1]⟩ (.exit 2) (nspeculumref02_SplitBudget_l1_0_e0 a0 a1 r2503 r2611), .reg (nN 3 [])]) (fr := true) (by kernel_rfl) (an (an (ti (ti trivial)) (an (an (ti (ti (ti (an e2468 (ti trivial))))) (an (ti (ti trivial)) (an (not_f (decide_eq_true h2469)) trivial))) (an (ti trivial) (an (an (ti trivial) e2505) (an (ti trivial) (an (an (ti trivial) e2612) (an (ti (ti (ti trivial))) trivial))))))) (an (show List.all (List.map vi r2611) new0 = true from (by exact new0_vi _)) (ti trivial))) (Wv.of_eq (eqWB_1 r2611))
 ·injection h with h; subst h
  exact fun_ok pm pn Go.Proofs.Try.func47 (r0 := VV.tu [VV.c (.slice none 0 0), vi r2466]) (ans := [.reg (.n :: .n :: []), .reg (nN 3 (.call (vi r2466) :: .n :: [])), .reg (.n :: .n :: []), .br true, .reg (nN 3 [])]) (fr := true) (by kernel_rfl) (an (an (ti (ti trivial)) (an (ti (ti (ti (an e2468 (ti trivial))))) (an (ti (ti trivial)) (an (not_t (decide_eq_false h2469)) (an (ti (ti (ti trivial))) trivial))))) (ti (ti trivial))) (Wv.tuL (.cons Wv.nilFw (.cons (Wv.refl _) .nil)))
def nspeculumbase_Ints_l0_0_h (a0 : (List Int)) (a1 : (List Int)) (x5 : Int) : VS := ⟨mkA [(0, VV.tr (List.map vi a0) a0.length), (1, VV.tr (List.map vi a1) a1.length), (5, vi x5)], [], .nil⟩
def nspeculumbase_Ints_l0_0_e0 (a0 : (List Int)) (a1 : (List Int)) (r : Unit) : VS := ⟨mkA [(4, vb false)], [], .nil⟩
def nspeculumbase_Ints_l0_0_e1 (a0 : (List Int)) (a1 : (List Int)) (r : Unit) : VS := ⟨mkA [], [], .nil⟩
def nspeculumbase_Ints_l0_0 (k : Nat) (a0 : (List Int)) (a1 : (List Int)) : Nat → Int → Option (Sum Unit Unit)
  | 0, _ => none
  | fuel + 1, x5 => if x5 < (a0.length : Int) then (if 0 ≤ x5 ∧ x5 < (a0.length : Int) then (if 0 ≤ x5 ∧ x5 < (a1.length : Int) then (if (a0.getD x5.toNat 0) = (a1.getD x5.toNat 0) then (nspeculumbase_Ints_l0_0 k a0 a1 fuel (w64 (x5 + 1))) else (some (.inl ()))) else none) else none) else (some (.inr ()))
theorem nspeculumbase_Ints_l0_0_ok (k : Nat) (a0 : (List Int)) (a1 : (List Int)) : ∀ (fuel : Nat) (x5 : Int) (r : Sum Unit Unit), nspeculumbase_Ints_l0_0 k a0 a1 fuel x5 = some r → (match r with | .inl r => VLoop none Go.Proofs.Try.prog (szF Go.Proofs.Try.f48) (bodyOf Go.Proofs.Try.f48 0) (nspeculumbase_Ints_l0_0_h a0 a1 x5) .ret (nspeculumbase_Ints_l0_0_e0 a0 a1 r) | .inr r => VLoop none Go.Proofs.Try.prog (szF Go.Proofs.Try.f48) (bodyOf Go.Proofs.Try.f48 0) (nspeculumbase_Ints_l0_0_h a0 a1 x5) (.exit 0) (nspeculumbase_Ints_l0_0_e1 a0 a1 r)) := by
 intro fuel
 induction fuel with
 | zero => intro x5 r h; rw [nspeculumbase_Ints_l0_0.eq_1] at h; cases h
 | succ fuel ih =>
  intro x5 r h
  rw [nspeculumbase_Ints_l0_0.eq_2] at h
  rcases ifs h with ⟨h2663, h⟩ | ⟨h2663, h⟩
  ·obtain ⟨h2664, h⟩ := ifn h
   have e2665 := (show loadL Go.Proofs.Try.prog 3 (x5.toNat * 1) (List.map vi a0) = some (vi (a0.getD x5.toNat 0)) from ld_map ag3 vi a0 0 h2664 (by omega))
   obtain ⟨h2666, h⟩ := ifn h
   have e2667 := (show loadL Go.Proofs.Try.prog 3 (x5.toNat * 1) (List.map vi a1) = some (vi (a1.getD x5.toNat 0)) from ld_map ag3 vi a1 0 h2666 (by omega))
   have e2668 := (ti (ti (an h2664 (an e2665 (ti (ti (an h2666 (an e2667 (ti trivial)))))))))
   rcases ifs h with ⟨h2669, h⟩ | ⟨h2669, h⟩
   ·have h2 := ih _ _ h
    obtain ⟨q, hv, hq⟩ := pkR (rd := none) (P := Go.Proofs.Try.prog) (fn := Go.Proofs.Try.f48) (k := 0) (s := (nspeculumbase_Ints_l0_0_h a0 a1 x5)) (ans := [.reg (nN 4 []), .br true, .reg (nN 3 (.v (vi (a0.getD x5.toNat 0)) :: nN 3 (.v (vi (a1.getD x5.toNat 0)) :: .n :: []))), .br false, .reg (nN 3 [])]) (c := ⟨[(0, none), (1, none), (5, none)], [], []⟩) (e := .normal) (s1 := (nspeculumbase_Ints_l0_0_h a0 a1 (w64 (x5 + 1)))) (an (an (an (ti (ti (ti (ti trivial)))) (an (decide_eq_true h2663) trivial)) (an (an e2668 (an (not_f (decide_eq_true h2669)) trivial)) (ti (ti (ti trivial))))) (ti trivial)) (by kernel_rfl)
    cases r with
    | inl r => exact round_next pm pn hv hq h2
    | inr r =>
     exact round_next pm pn hv hq h2
   ·injection h with h; subst h
    exact round_stop (c := ⟨[(4, none)], [], []⟩) (s1 := (nspeculumbase_Ints_l0_0_e0 a0 a1 ())) pm pn (ans := [.reg (nN 4 []), .br true, .reg (nN 3 (.v (vi (a0.getD x5.toNat 0)) :: nN 3 (.v (vi (a1.getD x5.toNat 0)) :: .n :: []))), .br true, .reg (.n :: [])]) (by kernel_rfl) (by intro e; cases e) (an (an (an (ti (ti (ti (ti trivial)))) (an (decide_eq_true h2663) trivial)) (an e2668 (an (not_t (decide_eq_false h2669)) (an (ti trivial) trivial)))) (ti trivial))
  ·injection h with h; subst h
   exact round_stop (c := ⟨[], [], []⟩) (s1 := (nspeculumbase_Ints_l0_0_e1 a0 a1 ())) pm pn (ans := [.reg (nN 4 []), .br false]) (by kernel_rfl) (by intro e; cases e) (an (an (ti (ti (ti (ti trivial)))) (an (decide_eq_false h2663) trivial)) (ti trivial))
def nspeculumbase_Ints (k : Nat) (a0 : (List Int)) (a1 : (List Int)) : Option Bool :=
  if (a0.length : Int) = (a1.length : Int) then ((nspeculumbase_Ints_l0_0 k a0 a1 k 0).bind fun r2671 => (match r2671 with | .inl r2672 => (some false) | .inr r2673 => (some true))) else (some false)
theorem nspeculumbase_Ints_ok (k : Nat) (a0 : (List Int)) (a1 : (List Int)) (r : Bool) (h : nspeculumbase_Ints k a0 a1 = some r) : VC Go.Proofs.Try.prog 48 [VV.tr (List.map vi a0) a0.length, VV.tr (List.map vi a1) a1.length] (vb r) := by
 unfold nspeculumbase_Ints at h
 rcases ifs h with ⟨h2648, h⟩ | ⟨h2648, h⟩
 ·obtain ⟨r2671, h2670, h⟩ := bs h
  have hph2670 := nspeculumbase_Ints_l0_0_ok k a0 a1 _ _ _ h2670
  cases r2671 with
  | inl r2672 =>
   dsimp only at h
   have e2674 := (an (ti trivial) (VRun.loop hph2670))
   injection h with h; subst h
   exact fun_ok pm pn Go.Proofs.Try.func48 (r0 := vb false) (ans := [.reg (.n :: []), .reg (nN 5 []), .br false, .reg (.n :: []), .sub ⟨[(0, none), (1, none), (5, none)], [], []⟩ .ret (nspeculumbase_Ints_l0_0_e0 a0 a1 r2672)]) (fr := true) (by kernel_rfl) (an (an (ti trivial) (an (an (ti (ti (ti (ti (ti trivial))))) (an (not_f (decide_eq_true h2648)) trivial)) (an (ti trivial) e2674))) (ti trivial)) (Wv.refl _)
  | inr r2673 =>
   dsimp only at h
   have e2675 := (an (ti trivial) (VRun.loop hph2670))
   injection h with h; subst h
   exact fun_ok pm pn Go.Proofs.Try.func48 (r0 := vb true) (ans := [.reg (.n :: []), .reg (nN 5 []), .br false, .reg (.n :: []), .sub ⟨[(0, none), (1, none), (5, none)], [], []⟩ (.exit 0) (nspeculumbase_Ints_l0_0_e1 a0 a1 r2673), .reg (.n :: [])]) (fr := true) (by kernel_rfl) (an (an (ti trivial) (an (an (ti (ti (ti (ti (ti trivial))))) (an (not_f (decide_eq_true h2648)) trivial)) (an (an (ti trivial) e2675) (an (ti trivial) trivial)))) (ti trivial)) (Wv.refl _)
 ·injection h with h; subst h
  exact fun_ok pm pn Go.Proofs.Try.func48 (r0 := vb false) (ans := [.reg (.n :: []), .reg (nN 5 []), .br true, .reg (.n :: [])]) (fr := true) (by kernel_rfl) (an (an (ti trivial) (an (ti (ti (ti (ti (ti trivial))))) (an (not_t (decide_eq_false h2648)) (an (ti trivial) trivial)))) (ti trivial)) (Wv.refl _)
theorem eqWB_2 (z0 : SBudget) (z1 : (List Int)) (z2 : ((List Int) × Int)) : [VV.ag (c_SBudget (⟨z0.Total, z1, z2.1⟩ : SBudget))] = [VV.ag [vi z0.Total, VV.tr (List.map vi z1) z1.length, VV.tr (List.map vi z2.1) z2.1.length]] := by first | rfl | (simp only [unfr_vi, List.map_cons, List.map_nil, un_i, un_tr, List.length_map, List.length_cons, List.length_nil, unfr_c_SBudget]; done) | (simp only [unfr_vi, List.map_cons, List.map_nil, un_i, un_tr, List.length_map, List.length_cons, List.length_nil, unfr_c_SBudget]; rfl) | (simp only [unfr_vi, List.map_cons, List.map_nil, un_i, un_tr, List.length_map, List.length_cons, List.length_nil, unfr_c_SBudget, c_SBudget, List.length_cons, List.length_nil, List.length_append]; done)
def arWB_3 (z0 : (List Int)) (z1 : (List Int)) (z2 : (Int × Int)) : List Ans := (nN 4 (.call (VV.fr (List.map vi z0) z0.length) :: .n :: .n :: .call (VV.fr (List.map vi z1) z1.length) :: .n :: .call (VV.tu [vi z2.1, vi z2.2]) :: nN 5 []))
def arWB_4 (z0 : (List Int)) (z1 : ((List Int) × Int)) : List Ans := (nN 4 (.call (VV.fr (List.map vi z0) z0.length) :: .call (VV.tu [VV.fr (List.map vi z1.1) z1.1.length, vi z1.2]) :: nN 5 []))
def arWB_5 (z0 : ((List Int) × Int)) : List Ans := (nN 4 (.call (VV.tu [VV.fr (List.map vi z0.1) z0.1.length, vi z0.2]) :: nN 5 []))
def arWB_6 (z0 : (List Int)) (z1 : (Int × Int)) : List Ans := (nN 4 (.call (VV.fr (List.map vi z0) z0.length) :: .n :: .n :: .call (VV.tu [vi z1.1, vi z1.2]) :: nN 5 []))
def nspeculumlaw02_OpticsBudgets (k : Nat) (a0 : SBudget) : Option Bool :=
  (nspeculumlaw02_awake k).bind fun r2691 => (if r2691 = true then (if 33 < (a0.Effects.length : Int) then (some true) else (if 33 < (a0.Amounts.length : Int) then (some true) else ((nspeculumbase_CopyInts k a0.Effects).bind fun r2699 => ((nspeculumbase_CopyInts k a0.Amounts).bind fun r2702 => ((noptics_CheckBudget k (⟨a0.Total, r2699, r2702⟩ : SBudget)).bind fun r2705 => ((nspeculumref02_CheckBudget k a0).bind fun r2709 => (if r2705.2 = r2709.2 then (if r2705.1 = r2709.1 then ((noptics_SplitBudget k a0.Total r2699).bind fun r2720 => ((nspeculumref02_SplitBudget k a0.Total a0.Effects).bind fun r2724 => (if r2720.2 = r2724.2 then ((nspeculumbase_Ints k r2720.1 r2724.1).bind fun r2731 => (if r2731 = true then (if r2724.2 = 0 then ((noptics_CheckBudget k (⟨a0.Total, r2699, r2720.1⟩ : SBudget)).bind fun r2740 => (some (decide (r2740.2 = 0)))) else (some true)) else (some false))) else (some false)))) else (some false)) else (some false)))))))) else (some false))
theorem nspeculumlaw02_OpticsBudgets_ok (k : Nat) (a0 : SBudget) (r : Bool) (h : nspeculumlaw02_OpticsBudgets k a0 = some r) : VC Go.Proofs.Try.prog 10 [VV.ag (c_SBudget a0)] (vb r) := by
 unfold nspeculumlaw02_OpticsBudgets at h
 obtain ⟨r2691, h2692, h⟩ := bs h
 have e2693 := (an (nspeculumlaw02_awake_ok k _ h2692) (ti trivial))
 rcases ifs h with ⟨h2694, h⟩ | ⟨h2694, h⟩
 ·rcases ifs h with ⟨h2695, h⟩ | ⟨h2695, h⟩
  ·have e2696 := (ti (ti (ti (ti (ti (an (decide_eq_true h2695) (an (decide_eq_true h2695) (an (decide_eq_true h2695) (an (decide_eq_true h2695) (an (decide_eq_true h2695) trivial))))))))))
   injection h with h; subst h
   exact fun_ok pm pn Go.Proofs.Try.func10 (r0 := vb true) (ans := [.reg (.n :: .n :: []), .reg (.call (vb r2691) :: .n :: []), .br false, .reg (nN 5 (nS 4 (.b true :: []))), .br true, .reg (.n :: [])]) (fr := true) (by kernel_rfl) (an (an (ti (ti trivial)) (an (an e2693 (an (not_f h2694) trivial)) (an e2696 (an rt (an (ti trivial) trivial))))) (ti trivial)) (Wv.refl _)
  ·have e2697 := (ti (ti (ti (ti (ti (an (an (decide_eq_false h2695) trivial) (an (an (decide_eq_false h2695) trivial) (an (an (decide_eq_false h2695) trivial) (an (an (decide_eq_false h2695) trivial) (an (decide_eq_false h2695) trivial))))))))))
   rcases ifs h with ⟨h2698, h⟩ | ⟨h2698, h⟩
   ·injection h with h; subst h
    exact fun_ok pm pn Go.Proofs.Try.func10 (r0 := vb true) (ans := [.reg (.n :: .n :: []), .reg (.call (vb r2691) :: .n :: []), .br false, .reg (nN 9 (.b false :: [])), .br true, .reg (.n :: [])]) (fr := true) (by kernel_rfl) (an (an (ti (ti trivial)) (an (an e2693 (an (not_f h2694) trivial)) (an e2697 (an (decide_eq_true h2698) (an (ti trivial) trivial))))) (ti trivial)) (Wv.refl _)
   ·obtain ⟨r2699, h2700, h⟩ := bs h
    have e2701 := (show VC Go.Proofs.Try.prog 44 [VV.tr (List.map vi a0.Effects) a0.Effects.length] (VV.fr (List.map vi r2699) r2699.length) from (VC.weak (nspeculumbase_CopyInts_ok k a0.Effects _ h2700) (Wv.fw rfl rfl)))
    obtain ⟨r2702, h2703, h⟩ := bs h
    have e2704 := (show VC Go.Proofs.Try.prog 44 [VV.tr (List.map vi a0.Amounts) a0.Amounts.length] (VV.fr (List.map vi r2702) r2702.length) from (VC.weak (nspeculumbase_CopyInts_ok k a0.Amounts _ h2703) (Wv.fw rfl rfl)))
    obtain ⟨r2705, h2706, h⟩ := bs h
    have e2707 := (VC.args (noptics_CheckBudget_ok k (⟨a0.Total, r2699, r2702⟩ : SBudget) _ h2706) (eqWB_0 a0 r2699 r2702))
    have e2708 := (ti (ti (ti (ti (an e2701 (ti (ti (an e2704 (ti (an e2707 (ti (ti (ti (ti (ti trivial)))))))))))))))
    obtain ⟨r2709, h2710, h⟩ := bs h
    have e2711 := (nspeculumref02_CheckBudget_ok k a0 _ h2710)
    rcases ifs h with ⟨h2712, h⟩ | ⟨h2712, h⟩
    ·have e2713 := (an (not_f (decide_eq_true h2712)) trivial)
     have e2714 := (an (not_f (decide_eq_true h2712)) trivial)
     have e2715 := (an (not_f (decide_eq_true h2712)) trivial)
     have e2716 := (ti (ti (ti (ti (an e2713 (an e2714 (an e2715 (an (not_f (decide_eq_true h2712)) trivial))))))))
     rcases ifs h with ⟨h2717, h⟩ | ⟨h2717, h⟩
     ·have e2719 := (show VC Go.Proofs.Try.prog 44 [VV.tr (List.map vi a0.Effects) a0.Effects.length] (VV.fr (List.map vi r2699) r2699.length) from (VC.weak (nspeculumbase_CopyInts_ok k a0.Effects _ h2700) (Wv.fw rfl rfl)))
      obtain ⟨r2720, h2721, h⟩ := bs h
      have e2722 := (show VC Go.Proofs.Try.prog 46 [vi a0.Total, VV.tr (List.map vi r2699) r2699.length] (VV.tu [VV.fr (List.map vi r2720.1) r2720.1.length, vi r2720.2]) from (VC.weak (noptics_SplitBudget_ok k a0.Total r2699 _ h2721) (Wv.tuL (.cons (Wv.fw rfl rfl) (.cons (Wv.refl _) .nil)))))
      have e2723 := (ti (ti (ti (ti (an e2719 (an e2722 (ti (ti (ti (ti (ti trivial)))))))))))
      obtain ⟨r2724, h2725, h⟩ := bs h
      have e2726 := (show VC Go.Proofs.Try.prog 47 [vi a0.Total, VV.tr (List.map vi a0.Effects) a0.Effects.length] (VV.tu [VV.fr (List.map vi r2724.1) r2724.1.length, vi r2724.2]) from (VC.weak (nspeculumref02_SplitBudget_ok k a0.Total a0.Effects _ h2725) (Wv.tuL (.cons (Wv.fw rfl rfl) (.cons (Wv.refl _) .nil)))))
      have e2727 := (ti (ti (ti (ti (an e2726 (ti (ti (ti (ti (ti trivial))))))))))
      rcases ifs h with ⟨h2728, h⟩ | ⟨h2728, h⟩
      ·have e2729 := (an (not_f (decide_eq_true h2728)) trivial)
       have e2730 := (an (not_f (decide_eq_true h2728)) trivial)
       obtain ⟨r2731, h2732, h⟩ := bs h
       have e2733 := (an (not_f (decide_eq_true h2728)) (nspeculumbase_Ints_ok k r2720.1 r2724.1 _ h2732))
       have e2734 := (an (not_f (decide_eq_true h2728)) trivial)
       have e2735 := (ti (ti (ti (ti (an e2729 (an e2730 (an e2733 (an e2734 (an (not_f (decide_eq_true h2728)) trivial)))))))))
       rcases ifs h with ⟨h2736, h⟩ | ⟨h2736, h⟩
       ·rcases ifs h with ⟨h2737, h⟩ | ⟨h2737, h⟩
        ·have e2739 := (show VC Go.Proofs.Try.prog 44 [VV.tr (List.map vi a0.Effects) a0.Effects.length] (VV.fr (List.map vi r2699) r2699.length) from (VC.weak (nspeculumbase_CopyInts_ok k a0.Effects _ h2700) (Wv.fw rfl rfl)))
         obtain ⟨r2740, h2741, h⟩ := bs h
         have e2742 := (VC.args (noptics_CheckBudget_ok k (⟨a0.Total, r2699, r2720.1⟩ : SBudget) _ h2741) (eqWB_2 a0 r2699 r2720))
         have e2743 := (ti (ti (ti (ti (an e2739 (ti (ti (an e2742 (ti (ti (ti (ti (ti trivial)))))))))))))
         injection h with h; subst h
         exact fun_ok pm pn Go.Proofs.Try.func10 (r0 := vb (decide (r2740.2 = 0))) (ans := [.reg (.n :: .n :: []), .reg (.call (vb r2691) :: .n :: []), .br false, .reg (nN 9 (.b false :: [])), .br false, .reg (arWB_3 r2699 r2702 r2705), .reg (.n :: .call (VV.tu [vi r2709.1, vi r2709.2]) :: nN 5 []), .reg (nN 7 (.b false :: [])), .br false, .reg (arWB_4 r2699 r2720), .reg (arWB_5 r2724), .reg (nN 6 (.call (vb r2731) :: .n :: .b false :: [])), .br false, .reg (.n :: .n :: []), .br false, .reg (arWB_6 r2699 r2740), .reg (nN 3 [])]) (fr := true) (by kernel_rfl) (an (an (ti (ti trivial)) (an (an e2693 (an (not_f h2694) trivial)) (an (an e2697 (an (decide_eq_false h2698) trivial)) (an e2708 (an (ti (an e2711 (ti (ti (ti (ti (ti trivial))))))) (an (an e2716 (an (not_f (decide_eq_true h2717)) trivial)) (an e2723 (an e2727 (an (an e2735 (an (not_f h2736) trivial)) (an (an (ti (ti trivial)) (an (not_f (decide_eq_true h2737)) trivial)) (an e2743 (an (ti (ti (ti trivial))) trivial)))))))))))) (ti trivial)) (Wv.refl _)
        ·injection h with h; subst h
         exact fun_ok pm pn Go.Proofs.Try.func10 (r0 := vb true) (ans := [.reg (.n :: .n :: []), .reg (.call (vb r2691) :: .n :: []), .br false, .reg (nN 9 (.b false :: [])), .br false, .reg (arWB_3 r2699 r2702 r2705), .reg (.n :: .call (VV.tu [vi r2709.1, vi r2709.2]) :: nN 5 []), .reg (nN 7 (.b false :: [])), .br false, .reg (arWB_4 r2699 r2720), .reg (arWB_5 r2724), .reg (nN 6 (.call (vb r2731) :: .n :: .b false :: [])), .br false, .reg (.n :: .n :: []), .br true, .reg (.n :: [])]) (fr := true) (by kernel_rfl) (an (an (ti (ti trivial)) (an (an e2693 (an (not_f h2694) trivial)) (an (an e2697 (an (decide_eq_false h2698) trivial)) (an e2708 (an (ti (an e2711 (ti (ti (ti (ti (ti trivial))))))) (an (an e2716 (an (not_f (decide_eq_true h2717)) trivial)) (an e2723 (an e2727 (an (an e2735 (an (not_f h2736) trivial)) (an (ti (ti trivial)) (an (not_t (decide_eq_false h2737)) (an (ti trivial) trivial)))))))))))) (ti trivial)) (Wv.refl _)
       ·injection h with h; subst h
        exact fun_ok pm pn Go.Proofs.Try.func10 (r0 := vb false) (ans := [.reg (.n :: .n :: []), .reg (.call (vb r2691) :: .n :: []), .br false, .reg (nN 9 (.b false :: [])), .br false, .reg (arWB_3 r2699 r2702 r2705), .reg (.n :: .call (VV.tu [vi r2709.1, vi r2709.2]) :: nN 5 []), .reg (nN 7 (.b false :: [])), .br false, .reg (arWB_4 r2699 r2720), .reg (arWB_5 r2724), .reg (nN 6 (.call (vb r2731) :: .n :: .b false :: [])), .br true, .reg (.n :: [])]) (fr := true) (by kernel_rfl) (an (an (ti (ti trivial)) (an (an e2693 (an (not_f h2694) trivial)) (an (an e2697 (an (decide_eq_false h2698) trivial)) (an e2708 (an (ti (an e2711 (ti (ti (ti (ti (ti trivial))))))) (an (an e2716 (an (not_f (decide_eq_true h2717)) trivial)) (an e2723 (an e2727 (an e2735 (an (not_t (bool_f h2736)) (an (ti trivial) trivial))))))))))) (ti trivial)) (Wv.refl _)
      ·have e2744 := (ti (ti (ti (ti (an (not_t (decide_eq_false h2728)) (an (not_t (decide_eq_false h2728)) (an (not_t (decide_eq_false h2728)) (an (not_t (decide_eq_false h2728)) (an (not_t (decide_eq_false h2728)) trivial)))))))))
       injection h with h; subst h
       exact fun_ok pm pn Go.Proofs.Try.func10 (r0 := vb false) (ans := [.reg (.n :: .n :: []), .reg (.call (vb r2691) :: .n :: []), .br false, .reg (nN 9 (.b false :: [])), .br false, .reg (arWB_3 r2699 r2702 r2705), .reg (.n :: .call (VV.tu [vi r2709.1, vi r2709.2]) :: nN 5 []), .reg (nN 7 (.b false :: [])), .br false, .reg (arWB_4 r2699 r2720), .reg (arWB_5 r2724), .reg (nN 4 (nS 4 (.b true :: []))), .br true, .reg (.n :: [])]) (fr := true) (by kernel_rfl) (an (an (ti (ti trivial)) (an (an e2693 (an (not_f h2694) trivial)) (an (an e2697 (an (decide_eq_false h2698) trivial)) (an e2708 (an (ti (an e2711 (ti (ti (ti (ti (ti trivial))))))) (an (an e2716 (an (not_f (decide_eq_true h2717)) trivial)) (an e2723 (an e2727 (an e2744 (an rt (an (ti trivial) trivial))))))))))) (ti trivial)) (Wv.refl _)
     ·injection h with h; subst h
      exact fun_ok pm pn Go.Proofs.Try.func10 (r0 := vb false) (ans := [.reg (.n :: .n :: []), .reg (.call (vb r2691) :: .n :: []), .br false, .reg (nN 9 (.b false :: [])), .br false, .reg (arWB_3 r2699 r2702 r2705), .reg (.n :: .call (VV.tu [vi r2709.1, vi r2709.2]) :: nN 5 []), .reg (nN 7 (.b false :: [])), .br true, .reg (.n :: [])]) (fr := true) (by kernel_rfl) (an (an (ti (ti trivial)) (an (an e2693 (an (not_f h2694) trivial)) (an (an e2697 (an (decide_eq_false h2698) trivial)) (an e2708 (an (ti (an e2711 (ti (ti (ti (ti (ti trivial))))))) (an e2716 (an (not_t (decide_eq_false h2717)) (an (ti trivial) trivial)))))))) (ti trivial)) (Wv.refl _)
    ·have e2745 := (ti (ti (ti (ti (an (not_t (decide_eq_false h2712)) (an (not_t (decide_eq_false h2712)) (an (not_t (decide_eq_false h2712)) (an (not_t (decide_eq_false h2712)) trivial))))))))
     injection h with h; subst h
     exact fun_ok pm pn Go.Proofs.Try.func10 (r0 := vb false) (ans := [.reg (.n :: .n :: []), .reg (.call (vb r2691) :: .n :: []), .br false, .reg (nN 9 (.b false :: [])), .br false, .reg (arWB_3 r2699 r2702 r2705), .reg (.n :: .call (VV.tu [vi r2709.1, vi r2709.2]) :: nN 5 []), .reg (nN 4 (nS 3 (.b true :: []))), .br true, .reg (.n :: [])]) (fr := true) (by kernel_rfl) (an (an (ti (ti trivial)) (an (an e2693 (an (not_f h2694) trivial)) (an (an e2697 (an (decide_eq_false h2698) trivial)) (an e2708 (an (ti (an e2711 (ti (ti (ti (ti (ti trivial))))))) (an e2745 (an rt (an (ti trivial) trivial)))))))) (ti trivial)) (Wv.refl _)
 ·injection h with h; subst h
  exact fun_ok pm pn Go.Proofs.Try.func10 (r0 := vb false) (ans := [.reg (.n :: .n :: []), .reg (.call (vb r2691) :: .n :: []), .br true, .reg (.n :: [])]) (fr := true) (by kernel_rfl) (an (an (ti (ti trivial)) (an e2693 (an (not_t (bool_f h2694)) (an (ti trivial) trivial)))) (ti trivial)) (Wv.refl _)
end Go.Proofs.Ytkffimkedibmnaa.Vg

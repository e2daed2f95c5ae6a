/- Written by a program out of the program: what Go functions do, as plain functions, and their contracts. -/
import Derived.Test.YtdnaijdnhgpckaaY2
namespace Go.Proofs.Ytdnaijdnhgpckaa.Vg
set_option maxRecDepth 100000
set_option maxHeartbeats 4000000
set_option linter.unusedVariables false
set_option linter.unusedSimpArgs false
open Go Go.Proofs.Ytdnaijdnhgpckaa.Ev Go.Proofs.Ytdnaijdnhgpckaa.Vv
def nawake (k : Nat) : Option Bool := some true
theorem nawake_ok (k : Nat) (r : Bool) (h : nawake k = some r) : VC Go.Proofs.Try.prog 4 [] (vb r) := by
  injection h with h; subst h
  exact vc_awake
def nspeculumbase_Ints_l0_0_h (a0 : (List Int)) (a1 : (List Int)) (x5 : Int) : VS := ⟨mkA [(0, VV.tr (List.map vi a0) a0.length), (1, VV.tr (List.map vi a1) a1.length), (5, vi x5)], [], .nil⟩
def nspeculumbase_Ints_l0_0_e0 (a0 : (List Int)) (a1 : (List Int)) (r : Unit) : VS := ⟨mkA [(4, vb false)], [], .nil⟩
def nspeculumbase_Ints_l0_0_e1 (a0 : (List Int)) (a1 : (List Int)) (r : Unit) : VS := ⟨mkA [], [], .nil⟩
def nspeculumbase_Ints_l0_0 (k : Nat) (a0 : (List Int)) (a1 : (List Int)) : Nat → Int → Option (Sum Unit Unit)
  | 0, _ => none
  | fuel + 1, x5 => if x5 < (a0.length : Int) then (if 0 ≤ x5 ∧ x5 < (a0.length : Int) then (if 0 ≤ x5 ∧ x5 < (a1.length : Int) then (if (a0.getD x5.toNat 0) = (a1.getD x5.toNat 0) then (nspeculumbase_Ints_l0_0 k a0 a1 fuel (w64 (x5 + 1))) else (some (.inl ()))) else none) else none) else (some (.inr ()))
theorem nspeculumbase_Ints_l0_0_ok (k : Nat) (a0 : (List Int)) (a1 : (List Int)) : ∀ (fuel : Nat) (x5 : Int) (r : Sum Unit Unit), nspeculumbase_Ints_l0_0 k a0 a1 fuel x5 = some r → (match r with | .inl r => VLoop none Go.Proofs.Try.prog (szF Go.Proofs.Try.f11) (bodyOf Go.Proofs.Try.f11 0) (nspeculumbase_Ints_l0_0_h a0 a1 x5) .ret (nspeculumbase_Ints_l0_0_e0 a0 a1 r) | .inr r => VLoop none Go.Proofs.Try.prog (szF Go.Proofs.Try.f11) (bodyOf Go.Proofs.Try.f11 0) (nspeculumbase_Ints_l0_0_h a0 a1 x5) (.exit 0) (nspeculumbase_Ints_l0_0_e1 a0 a1 r)) := by
 intro fuel
 induction fuel with
 | zero => intro x5 r h; rw [nspeculumbase_Ints_l0_0.eq_1] at h; cases h
 | succ fuel ih =>
  intro x5 r h
  rw [nspeculumbase_Ints_l0_0.eq_2] at h
  rcases ifs h with ⟨h2062, h⟩ | ⟨h2062, h⟩
  ·obtain ⟨h2063, h⟩ := ifn h
   have e2064 := (show loadL Go.Proofs.Try.prog 3 (x5.toNat * 1) (List.map vi a0) = some (vi (a0.getD x5.toNat 0)) from ld_map ag3 vi a0 0 h2063 (by omega))
   obtain ⟨h2065, h⟩ := ifn h
   have e2066 := (show loadL Go.Proofs.Try.prog 3 (x5.toNat * 1) (List.map vi a1) = some (vi (a1.getD x5.toNat 0)) from ld_map ag3 vi a1 0 h2065 (by omega))
   have e2067 := (ti (ti (an h2063 (an e2064 (ti (ti (an h2065 (an e2066 (ti trivial)))))))))
   rcases ifs h with ⟨h2068, h⟩ | ⟨h2068, h⟩
   ·have h2 := ih _ _ h
    obtain ⟨q, hv, hq⟩ := pkR (rd := none) (P := Go.Proofs.Try.prog) (fn := Go.Proofs.Try.f11) (k := 0) (s := (nspeculumbase_Ints_l0_0_h a0 a1 x5)) (ans := [.reg (nN 4 []), .br true, .reg (nN 3 (.v (vi (a0.getD x5.toNat 0)) :: nN 3 (.v (vi (a1.getD x5.toNat 0)) :: .n :: []))), .br false, .reg (nN 3 [])]) (c := ⟨[(0, none), (1, none), (5, none)], [], []⟩) (e := .normal) (s1 := (nspeculumbase_Ints_l0_0_h a0 a1 (w64 (x5 + 1)))) (an (an (an (ti (ti (ti (ti trivial)))) (an (decide_eq_true h2062) trivial)) (an (an e2067 (an (not_f (decide_eq_true h2068)) trivial)) (ti (ti (ti trivial))))) (ti trivial)) (by kernel_rfl)
    cases r with
    | inl r => exact round_next pm pn hv hq h2
    | inr r =>
     exact round_next pm pn hv hq h2
   ·injection h with h; subst h
    exact round_stop (c := ⟨[(4, none)], [], []⟩) (s1 := (nspeculumbase_Ints_l0_0_e0 a0 a1 ())) pm pn (ans := [.reg (nN 4 []), .br true, .reg (nN 3 (.v (vi (a0.getD x5.toNat 0)) :: nN 3 (.v (vi (a1.getD x5.toNat 0)) :: .n :: []))), .br true, .reg (.n :: [])]) (by kernel_rfl) (by intro e; cases e) (an (an (an (ti (ti (ti (ti trivial)))) (an (decide_eq_true h2062) trivial)) (an e2067 (an (not_t (decide_eq_false h2068)) (an (ti trivial) trivial)))) (ti trivial))
  ·injection h with h; subst h
   exact round_stop (c := ⟨[], [], []⟩) (s1 := (nspeculumbase_Ints_l0_0_e1 a0 a1 ())) pm pn (ans := [.reg (nN 4 []), .br false]) (by kernel_rfl) (by intro e; cases e) (an (an (ti (ti (ti (ti trivial)))) (an (decide_eq_false h2062) trivial)) (ti trivial))
def nspeculumbase_Ints (k : Nat) (a0 : (List Int)) (a1 : (List Int)) : Option Bool :=
  if (a0.length : Int) = (a1.length : Int) then ((nspeculumbase_Ints_l0_0 k a0 a1 k 0).bind fun r2070 => (match r2070 with | .inl r2071 => (some false) | .inr r2072 => (some true))) else (some false)
theorem nspeculumbase_Ints_ok (k : Nat) (a0 : (List Int)) (a1 : (List Int)) (r : Bool) (h : nspeculumbase_Ints k a0 a1 = some r) : VC Go.Proofs.Try.prog 11 [VV.tr (List.map vi a0) a0.length, VV.tr (List.map vi a1) a1.length] (vb r) := by
 unfold nspeculumbase_Ints at h
 rcases ifs h with ⟨h2047, h⟩ | ⟨h2047, h⟩
 ·obtain ⟨r2070, h2069, h⟩ := bs h
  have hph2069 := nspeculumbase_Ints_l0_0_ok k a0 a1 _ _ _ h2069
  cases r2070 with
  | inl r2071 =>
   dsimp only at h
   have e2073 := (an (ti trivial) (VRun.loop hph2069))
   injection h with h; subst h
   exact fun_ok pm pn Go.Proofs.Try.func11 (r0 := vb false) (ans := [.reg (.n :: []), .reg (nN 5 []), .br false, .reg (.n :: []), .sub ⟨[(0, none), (1, none), (5, none)], [], []⟩ .ret (nspeculumbase_Ints_l0_0_e0 a0 a1 r2071)]) (fr := true) (by kernel_rfl) (an (an (ti trivial) (an (an (ti (ti (ti (ti (ti trivial))))) (an (not_f (decide_eq_true h2047)) trivial)) (an (ti trivial) e2073))) (ti trivial)) (Wv.refl _)
  | inr r2072 =>
   dsimp only at h
   have e2074 := (an (ti trivial) (VRun.loop hph2069))
   injection h with h; subst h
   exact fun_ok pm pn Go.Proofs.Try.func11 (r0 := vb true) (ans := [.reg (.n :: []), .reg (nN 5 []), .br false, .reg (.n :: []), .sub ⟨[(0, none), (1, none), (5, none)], [], []⟩ (.exit 0) (nspeculumbase_Ints_l0_0_e1 a0 a1 r2072), .reg (.n :: [])]) (fr := true) (by kernel_rfl) (an (an (ti trivial) (an (an (ti (ti (ti (ti (ti trivial))))) (an (not_f (decide_eq_true h2047)) trivial)) (an (an (ti trivial) e2074) (an (ti trivial) trivial)))) (ti trivial)) (Wv.refl _)
 ·injection h with h; subst h
  exact fun_ok pm pn Go.Proofs.Try.func11 (r0 := vb false) (ans := [.reg (.n :: []), .reg (nN 5 []), .br true, .reg (.n :: [])]) (fr := true) (by kernel_rfl) (an (an (ti trivial) (an (ti (ti (ti (ti (ti trivial))))) (an (not_t (decide_eq_false h2047)) (an (ti trivial) trivial)))) (ti trivial)) (Wv.refl _)
theorem eqY3_0 (z0 : SAging) (z1 : (List SCoatEvent)) (z2 : (List SCoatEvent)) (z3 : Int) : [VV.ag (c_SAging z0), VV.tr (List.flatMap c_SCoatEvent z1) z1.length, VV.ag (c_SCoatEvent (⟨(z2.getD ((0 : Int)).toNat default).Mirror, z3, 0⟩ : SCoatEvent))] = [VV.ag (c_SAging z0), VV.tr (List.flatMap c_SCoatEvent z1) z1.length, VV.ag [vs ((z2.getD ((0 : Int)).toNat default).Mirror), vi z3, vi 0]] := by first | rfl | (simp only [unfr_vi, unfr_vs, List.map_cons, List.map_nil, un_i, un_s, un_tr, List.length_cons, List.length_nil, unfr_c_SAging, unfr_c_SCoatEvent]; done) | (simp only [unfr_vi, unfr_vs, List.map_cons, List.map_nil, un_i, un_s, un_tr, List.length_cons, List.length_nil, unfr_c_SAging, unfr_c_SCoatEvent]; rfl) | (simp only [unfr_vi, unfr_vs, List.map_cons, List.map_nil, un_i, un_s, un_tr, List.length_cons, List.length_nil, unfr_c_SAging, unfr_c_SCoatEvent, c_SAging, c_SCoatEvent, List.length_cons, List.length_nil, List.length_append]; done)
def nspeculumbase_Has_l0_0_h (a0 : (List Int)) (a1 : Int) (x5 : Int) : VS := ⟨mkA [(0, VV.tr (List.map vi a0) a0.length), (1, vi a1), (5, vi x5)], [], .nil⟩
def nspeculumbase_Has_l0_0_e0 (a0 : (List Int)) (a1 : Int) (r : Unit) : VS := ⟨mkA [(4, vb true)], [], .nil⟩
def nspeculumbase_Has_l0_0_e1 (a0 : (List Int)) (a1 : Int) (r : Unit) : VS := ⟨mkA [], [], .nil⟩
def nspeculumbase_Has_l0_0 (k : Nat) (a0 : (List Int)) (a1 : Int) : Nat → Int → Option (Sum Unit Unit)
  | 0, _ => none
  | fuel + 1, x5 => if x5 < (a0.length : Int) then (if 0 ≤ x5 ∧ x5 < (a0.length : Int) then (if (a0.getD x5.toNat 0) = a1 then (some (.inl ())) else (nspeculumbase_Has_l0_0 k a0 a1 fuel (w64 (x5 + 1)))) else none) else (some (.inr ()))
theorem nspeculumbase_Has_l0_0_ok (k : Nat) (a0 : (List Int)) (a1 : Int) : ∀ (fuel : Nat) (x5 : Int) (r : Sum Unit Unit), nspeculumbase_Has_l0_0 k a0 a1 fuel x5 = some r → (match r with | .inl r => VLoop none Go.Proofs.Try.prog (szF Go.Proofs.Try.f15) (bodyOf Go.Proofs.Try.f15 0) (nspeculumbase_Has_l0_0_h a0 a1 x5) .ret (nspeculumbase_Has_l0_0_e0 a0 a1 r) | .inr r => VLoop none Go.Proofs.Try.prog (szF Go.Proofs.Try.f15) (bodyOf Go.Proofs.Try.f15 0) (nspeculumbase_Has_l0_0_h a0 a1 x5) (.exit 0) (nspeculumbase_Has_l0_0_e1 a0 a1 r)) := by
 intro fuel
 induction fuel with
 | zero => intro x5 r h; rw [nspeculumbase_Has_l0_0.eq_1] at h; cases h
 | succ fuel ih =>
  intro x5 r h
  rw [nspeculumbase_Has_l0_0.eq_2] at h
  rcases ifs h with ⟨h2126, h⟩ | ⟨h2126, h⟩
  ·obtain ⟨h2127, h⟩ := ifn h
   have e2128 := (show loadL Go.Proofs.Try.prog 3 (x5.toNat * 1) (List.map vi a0) = some (vi (a0.getD x5.toNat 0)) from ld_map ag3 vi a0 0 h2127 (by omega))
   rcases ifs h with ⟨h2129, h⟩ | ⟨h2129, h⟩
   ·injection h with h; subst h
    exact round_stop (c := ⟨[(4, none)], [], []⟩) (s1 := (nspeculumbase_Has_l0_0_e0 a0 a1 ())) pm pn (ans := [.reg (nN 4 []), .br true, .reg (nN 3 (.v (vi (a0.getD x5.toNat 0)) :: .n :: .n :: [])), .br true, .reg (.n :: [])]) (by kernel_rfl) (by intro e; cases e) (an (an (an (ti (ti (ti (ti trivial)))) (an (decide_eq_true h2126) trivial)) (an (ti (ti (an h2127 (an e2128 (ti (ti trivial)))))) (an (decide_eq_true h2129) (an (ti trivial) trivial)))) (ti trivial))
   ·have h2 := ih _ _ h
    obtain ⟨q, hv, hq⟩ := pkR (rd := none) (P := Go.Proofs.Try.prog) (fn := Go.Proofs.Try.f15) (k := 0) (s := (nspeculumbase_Has_l0_0_h a0 a1 x5)) (ans := [.reg (nN 4 []), .br true, .reg (nN 3 (.v (vi (a0.getD x5.toNat 0)) :: .n :: .n :: [])), .br false, .reg (nN 3 [])]) (c := ⟨[(0, none), (1, none), (5, none)], [], []⟩) (e := .normal) (s1 := (nspeculumbase_Has_l0_0_h a0 a1 (w64 (x5 + 1)))) (an (an (an (ti (ti (ti (ti trivial)))) (an (decide_eq_true h2126) trivial)) (an (an (ti (ti (an h2127 (an e2128 (ti (ti trivial)))))) (an (decide_eq_false h2129) trivial)) (ti (ti (ti trivial))))) (ti trivial)) (by kernel_rfl)
    cases r with
    | inl r => exact round_next pm pn hv hq h2
    | inr r =>
     exact round_next pm pn hv hq h2
  ·injection h with h; subst h
   exact round_stop (c := ⟨[], [], []⟩) (s1 := (nspeculumbase_Has_l0_0_e1 a0 a1 ())) pm pn (ans := [.reg (nN 4 []), .br false]) (by kernel_rfl) (by intro e; cases e) (an (an (ti (ti (ti (ti trivial)))) (an (decide_eq_false h2126) trivial)) (ti trivial))
def nspeculumbase_Has (k : Nat) (a0 : (List Int)) (a1 : Int) : Option Bool :=
  (nspeculumbase_Has_l0_0 k a0 a1 k 0).bind fun r2131 => (match r2131 with | .inl r2132 => (some true) | .inr r2133 => (some false))
theorem nspeculumbase_Has_ok (k : Nat) (a0 : (List Int)) (a1 : Int) (r : Bool) (h : nspeculumbase_Has k a0 a1 = some r) : VC Go.Proofs.Try.prog 15 [VV.tr (List.map vi a0) a0.length, vi a1] (vb r) := by
 unfold nspeculumbase_Has at h
 obtain ⟨r2131, h2130, h⟩ := bs h
 have hph2130 := nspeculumbase_Has_l0_0_ok k a0 a1 _ _ _ h2130
 cases r2131 with
 | inl r2132 =>
  dsimp only at h
  have e2134 := (an (ti trivial) (VRun.loop hph2130))
  injection h with h; subst h
  exact fun_ok pm pn Go.Proofs.Try.func15 (r0 := vb true) (ans := [.reg (.n :: []), .reg (.n :: []), .sub ⟨[(0, none), (1, none), (5, none)], [], []⟩ .ret (nspeculumbase_Has_l0_0_e0 a0 a1 r2132)]) (fr := true) (by kernel_rfl) (an (an (ti trivial) (an (ti trivial) e2134)) (ti trivial)) (Wv.refl _)
 | inr r2133 =>
  dsimp only at h
  have e2135 := (an (ti trivial) (VRun.loop hph2130))
  injection h with h; subst h
  exact fun_ok pm pn Go.Proofs.Try.func15 (r0 := vb false) (ans := [.reg (.n :: []), .reg (.n :: []), .sub ⟨[(0, none), (1, none), (5, none)], [], []⟩ (.exit 0) (nspeculumbase_Has_l0_0_e1 a0 a1 r2133), .reg (.n :: [])]) (fr := true) (by kernel_rfl) (an (an (ti trivial) (an (an (ti trivial) e2135) (an (ti trivial) trivial))) (ti trivial)) (Wv.refl _)
theorem eqY3_1 (z0 : SAging) (z1 : (List SCoatEvent)) (z2 : (List SCoatEvent)) (z3 : Int) (z4 : Int) : [VV.ag (c_SAging z0), VV.tr (List.flatMap c_SCoatEvent z1) z1.length, VV.ag (c_SCoatEvent (⟨(z2.getD ((0 : Int)).toNat default).Mirror, z3, z4⟩ : SCoatEvent))] = [VV.ag (c_SAging z0), VV.tr (List.flatMap c_SCoatEvent z1) z1.length, VV.ag [vs ((z2.getD ((0 : Int)).toNat default).Mirror), vi z3, vi z4]] := by first | rfl | (simp only [unfr_vi, unfr_vs, List.map_cons, List.map_nil, un_i, un_s, un_tr, List.length_cons, List.length_nil, unfr_c_SAging, unfr_c_SCoatEvent]; done) | (simp only [unfr_vi, unfr_vs, List.map_cons, List.map_nil, un_i, un_s, un_tr, List.length_cons, List.length_nil, unfr_c_SAging, unfr_c_SCoatEvent]; rfl) | (simp only [unfr_vi, unfr_vs, List.map_cons, List.map_nil, un_i, un_s, un_tr, List.length_cons, List.length_nil, unfr_c_SAging, unfr_c_SCoatEvent, c_SAging, c_SCoatEvent, List.length_cons, List.length_nil, List.length_append]; done)
def arY3_0 (z0 : (List SCoatEvent)) (z1 : (List SCoatEvent)) (z2 : ((List SCoatEvent) × Int)) : List Ans := (.n :: .n :: .call (VV.fr (List.flatMap c_SCoatEvent z0) z0.length) :: nN 3 (.v (vs ((z1.getD ((0 : Int)).toNat default).Mirror)) :: nN 3 (.call (VV.tu [VV.fr (List.flatMap c_SCoatEvent z2.1) z2.1.length, vi z2.2]) :: nN 5 [])))
def nspeculumlaw08_CoatAllowed_l0_0_h (a0 : SAging) (a1 : (List SCoatEvent)) (a2 : Int) (r2208 : ((List Int) × Int)) (x12 : Int) : VS := ⟨mkA [(1, VV.tr (List.flatMap c_SCoatEvent a1) a1.length), (2, vi a2), (3, VV.pt 0 0), (7, VV.fr (List.map vi r2208.1) r2208.1.length), (12, vi x12)], [some ⟨true, 1, c_SAging a0⟩], .nil⟩
def nspeculumlaw08_CoatAllowed_l0_0_e0 (a0 : SAging) (a1 : (List SCoatEvent)) (a2 : Int) (r2208 : ((List Int) × Int)) (r : Unit) : VS := ⟨mkA [(6, vb false)], [], .nil⟩
def nspeculumlaw08_CoatAllowed_l0_0_e1 (a0 : SAging) (a1 : (List SCoatEvent)) (a2 : Int) (r2208 : ((List Int) × Int)) (r : Unit) : VS := ⟨mkA [], [], .nil⟩
def nspeculumlaw08_CoatAllowed_l0_0 (k : Nat) (a0 : SAging) (a1 : (List SCoatEvent)) (a2 : Int) (r2208 : ((List Int) × Int)) : Nat → Int → Option (Sum Unit Unit)
  | 0, _ => none
  | fuel + 1, x12 => if x12 < 3 then (if 0 < (a1.length : Int) then ((nspeculumlaw08_events k a1).bind fun r2287 => (if (0 : Int) ≤ 0 ∧ 0 < (a1.length : Int) then ((ncoat_Next k a0 r2287 (⟨(a1.getD ((0 : Int)).toNat default).Mirror, a2, x12⟩ : SCoatEvent)).bind fun r2292 => ((nspeculumbase_Has k r2208.1 x12).bind fun r2296 => (if ((decide (r2292.2 = 0)) == r2296) = true then (nspeculumlaw08_CoatAllowed_l0_0 k a0 a1 a2 r2208 fuel (w64 (x12 + 1))) else (some (.inl ()))))) else none)) else (some (.inr ()))) else (some (.inr ()))
theorem nspeculumlaw08_CoatAllowed_l0_0_ok (k : Nat) (a0 : SAging) (a1 : (List SCoatEvent)) (a2 : Int) (r2208 : ((List Int) × Int)) : ∀ (fuel : Nat) (x12 : Int) (r : Sum Unit Unit), nspeculumlaw08_CoatAllowed_l0_0 k a0 a1 a2 r2208 fuel x12 = some r → (match r with | .inl r => VLoop none Go.Proofs.Try.prog (szF Go.Proofs.Try.f3) (bodyOf Go.Proofs.Try.f3 0) (nspeculumlaw08_CoatAllowed_l0_0_h a0 a1 a2 r2208 x12) .ret (nspeculumlaw08_CoatAllowed_l0_0_e0 a0 a1 a2 r2208 r) | .inr r => VLoop none Go.Proofs.Try.prog (szF Go.Proofs.Try.f3) (bodyOf Go.Proofs.Try.f3 0) (nspeculumlaw08_CoatAllowed_l0_0_h a0 a1 a2 r2208 x12) (.exit 0) (nspeculumlaw08_CoatAllowed_l0_0_e1 a0 a1 a2 r2208 r)) := by
 intro fuel
 induction fuel with
 | zero => intro x12 r h; rw [nspeculumlaw08_CoatAllowed_l0_0.eq_1] at h; cases h
 | succ fuel ih =>
  intro x12 r h
  rw [nspeculumlaw08_CoatAllowed_l0_0.eq_2] at h
  rcases ifs h with ⟨h2284, h⟩ | ⟨h2284, h⟩
  ·have e2285 := (ti (ti (ti (an (an (decide_eq_true h2284) trivial) (an (an (decide_eq_true h2284) trivial) (an (an (decide_eq_true h2284) trivial) (an (decide_eq_true h2284) trivial)))))))
   rcases ifs h with ⟨h2286, h⟩ | ⟨h2286, h⟩
   ·obtain ⟨r2287, h2288, h⟩ := bs h
    have e2289 := (show VC Go.Proofs.Try.prog 7 [VV.tr (List.flatMap c_SCoatEvent a1) a1.length] (VV.fr (List.flatMap c_SCoatEvent r2287) r2287.length) from (VC.weak (nspeculumlaw08_events_ok k a1 _ h2288) (Wv.fw rfl rfl)))
    obtain ⟨h2290, h⟩ := ifn h
    have e2291 := (show loadL Go.Proofs.Try.prog 9 (((0 : Int)).toNat * 3 + 0) (List.flatMap c_SCoatEvent a1) = some (vs ((a1.getD ((0 : Int)).toNat default).Mirror)) from (ld_flat ag9 c_SCoatEvent 3 0 len_c_SCoatEvent (by omega) a1 default h2290 (by omega)).trans rfl)
    obtain ⟨r2292, h2293, h⟩ := bs h
    have e2294 := (VC.args (VC.weak (ncoat_Next_ok k a0 r2287 (⟨(a1.getD ((0 : Int)).toNat default).Mirror, a2, x12⟩ : SCoatEvent) _ h2293) (Wv.tuL (.cons (Wv.fw rfl rfl) (.cons (Wv.refl _) .nil)))) (eqY3_1 a0 r2287 a1 a2 x12))
    have e2295 := (ti (ti (an e2289 (ti (an h2290 (ti (an e2291 (ti (ti (ti (an e2294 (ti (ti (ti (ti (ti trivial))))))))))))))))
    obtain ⟨r2296, h2297, h⟩ := bs h
    have e2298 := (nspeculumbase_Has_ok k r2208.1 x12 _ h2297)
    rcases ifs h with ⟨h2299, h⟩ | ⟨h2299, h⟩
    ·have h2 := ih _ _ h
     obtain ⟨q, hv, hq⟩ := pkR (rd := none) (P := Go.Proofs.Try.prog) (fn := Go.Proofs.Try.f3) (k := 0) (s := (nspeculumlaw08_CoatAllowed_l0_0_h a0 a1 a2 r2208 x12)) (ans := [.reg (nN 6 (.b true :: [])), .br true, .reg (arY3_0 r2287 a1 r2292), .reg (nN 4 (.call (vb r2296) :: .n :: [])), .br false, .reg (nN 3 [])]) (c := ⟨[(1, none), (2, none), (3, none), (7, none), (12, none)], [none], []⟩) (e := .normal) (s1 := (nspeculumlaw08_CoatAllowed_l0_0_h a0 a1 a2 r2208 (w64 (x12 + 1)))) (an (an (an e2285 (an (decide_eq_true h2286) trivial)) (an (an e2295 (an (ti (ti (ti (ti (an e2298 (ti trivial)))))) (an (not_f h2299) trivial))) (ti (ti (ti trivial))))) (ti trivial)) (by kernel_rfl)
     cases r with
     | inl r => exact round_next pm pn hv hq h2
     | inr r =>
      exact round_next pm pn hv hq h2
    ·injection h with h; subst h
     exact round_stop (c := ⟨[(6, none)], [], []⟩) (s1 := (nspeculumlaw08_CoatAllowed_l0_0_e0 a0 a1 a2 r2208 ())) pm pn (ans := [.reg (nN 6 (.b true :: [])), .br true, .reg (arY3_0 r2287 a1 r2292), .reg (nN 4 (.call (vb r2296) :: .n :: [])), .br true, .reg (.n :: [])]) (by kernel_rfl) (by intro e; cases e) (an (an (an e2285 (an (decide_eq_true h2286) trivial)) (an e2295 (an (ti (ti (ti (ti (an e2298 (ti trivial)))))) (an (not_t (bool_f h2299)) (an (ti trivial) trivial))))) (ti trivial))
   ·injection h with h; subst h
    exact round_stop (c := ⟨[], [], []⟩) (s1 := (nspeculumlaw08_CoatAllowed_l0_0_e1 a0 a1 a2 r2208 ())) pm pn (ans := [.reg (nN 6 (.b true :: [])), .br false]) (by kernel_rfl) (by intro e; cases e) (an (an e2285 (an (decide_eq_false h2286) trivial)) (ti trivial))
  ·have e2300 := (ti (ti (ti (an (decide_eq_false h2284) (an (decide_eq_false h2284) (an (decide_eq_false h2284) (an (decide_eq_false h2284) trivial)))))))
   injection h with h; subst h
   exact round_stop (c := ⟨[], [], []⟩) (s1 := (nspeculumlaw08_CoatAllowed_l0_0_e1 a0 a1 a2 r2208 ())) pm pn (ans := [.reg (nN 3 (nS 3 (.b false :: []))), .br false]) (by kernel_rfl) (by intro e; cases e) (an (an e2300 (an rf trivial)) (ti trivial))
def arY3_1 (z0 : (List SCoatEvent)) (z1 : ((List Int) × Int)) : List Ans := (.n :: .n :: .call (VV.fr (List.flatMap c_SCoatEvent z0) z0.length) :: .n :: .call (VV.tu [VV.fr (List.map vi z1.1) z1.1.length, vi z1.2]) :: nN 5 [])
def arY3_2 (z0 : (List SCoatEvent)) (z1 : (Int × Int)) : List Ans := (.n :: .n :: .call (VV.fr (List.flatMap c_SCoatEvent z0) z0.length) :: .n :: .call (VV.tu [vi z1.1, vi z1.2]) :: nN 5 [])
def arY3_3 (z0 : (List Int)) (z1 : Bool) (z2 : Int) : List Ans := (nN 5 (.b false :: nN 5 (.call (VV.fr (List.map vi z0) z0.length) :: .call (vb z1) :: .n :: .b false :: nN 5 (.call (vi z2) :: .n :: .b false :: []))))
def arY3_4 (z0 : (List Int)) (z1 : Bool) : List Ans := (nN 5 (.b false :: nN 5 (.call (VV.fr (List.map vi z0) z0.length) :: .call (vb z1) :: .n :: .b false :: .n :: nS 6 (.b true :: []))))
def arY3_5  : List Ans := (nN 4 (nS 3 (.b false :: .n :: nS 3 (.b false :: .n :: .skip :: .skip :: .b false :: .n :: []))))
def nspeculumlaw08_CoatAllowed (k : Nat) (a0 : SAging) (a1 : (List SCoatEvent)) (a2 : Int) : Option Bool :=
  (nawake k).bind fun r2198 => (if r2198 = true then ((nspeculumlaw08_Past k a1).bind fun r2201 => (if r2201 = true then ((nspeculumlaw08_events k a1).bind fun r2205 => ((ncoat_Allowed k a0 r2205 a2).bind fun r2208 => ((ncoat_StateOn k a0 r2205 a2).bind fun r2214 => ((nspeculumlaw08_past k a0 a1).bind fun r2218 => (if r2218 = 0 then ((nspeculumbase_Within k a2 0 100000).bind fun r2222 => (if r2222 = true then (if r2208.2 = 0 then (if r2214.2 = 0 then ((nspeculumref08_Allowed k a0 a1 a2).bind fun r2235 => ((nspeculumbase_Ints k r2208.1 r2235).bind fun r2238 => (if r2238 = true then ((nspeculumref08_StateOn k a0 a1 a2).bind fun r2243 => (if r2214.1 = r2243 then ((nspeculumlaw08_CoatAllowed_l0_0 k a0 a1 a2 r2208 k 0).bind fun r2302 => (match r2302 with | .inl r2303 => (some false) | .inr r2304 => (some true))) else (some false))) else (some false)))) else (some false)) else (some false)) else (if r2208.2 = 2 then (if r2214.2 = 2 then (if (r2208.1.length : Int) = 0 then (some (decide (r2214.1 = 0))) else (some false)) else (some false)) else (some false)))) else (if r2208.2 = r2218 then (if r2214.2 = r2218 then (if (r2208.1.length : Int) = 0 then (some (decide (r2214.1 = 0))) else (some false)) else (some false)) else (some false))))))) else (some true))) else (some false))
theorem nspeculumlaw08_CoatAllowed_ok (k : Nat) (a0 : SAging) (a1 : (List SCoatEvent)) (a2 : Int) (r : Bool) (h : nspeculumlaw08_CoatAllowed k a0 a1 a2 = some r) : VC Go.Proofs.Try.prog 3 [VV.ag (c_SAging a0), VV.tr (List.flatMap c_SCoatEvent a1) a1.length, vi a2] (vb r) := by
 unfold nspeculumlaw08_CoatAllowed at h
 obtain ⟨r2198, h2199, h⟩ := bs h
 rcases ifs h with ⟨h2200, h⟩ | ⟨h2200, h⟩
 ·obtain ⟨r2201, h2202, h⟩ := bs h
  have e2203 := (ti (an (nspeculumlaw08_Past_ok k a1 _ h2202) (ti trivial)))
  rcases ifs h with ⟨h2204, h⟩ | ⟨h2204, h⟩
  ·obtain ⟨r2205, h2206, h⟩ := bs h
   have e2207 := (show VC Go.Proofs.Try.prog 7 [VV.tr (List.flatMap c_SCoatEvent a1) a1.length] (VV.fr (List.flatMap c_SCoatEvent r2205) r2205.length) from (VC.weak (nspeculumlaw08_events_ok k a1 _ h2206) (Wv.fw rfl rfl)))
   obtain ⟨r2208, h2209, h⟩ := bs h
   have e2210 := (show VC Go.Proofs.Try.prog 6 [VV.ag (c_SAging a0), VV.tr (List.flatMap c_SCoatEvent r2205) r2205.length, vi a2] (VV.tu [VV.fr (List.map vi r2208.1) r2208.1.length, vi r2208.2]) from (VC.weak (ncoat_Allowed_ok k a0 r2205 a2 _ h2209) (Wv.tuL (.cons (Wv.fw rfl rfl) (.cons (Wv.refl _) .nil)))))
   have e2211 := (ti (ti (an e2207 (ti (an e2210 (ti (ti (ti (ti (ti trivial))))))))))
   have e2213 := (show VC Go.Proofs.Try.prog 7 [VV.tr (List.flatMap c_SCoatEvent a1) a1.length] (VV.fr (List.flatMap c_SCoatEvent r2205) r2205.length) from (VC.weak (nspeculumlaw08_events_ok k a1 _ h2206) (Wv.fw rfl rfl)))
   obtain ⟨r2214, h2215, h⟩ := bs h
   have e2216 := (ncoat_StateOn_ok k a0 r2205 a2 _ h2215)
   have e2217 := (ti (ti (an e2213 (ti (an e2216 (ti (ti (ti (ti (ti trivial))))))))))
   obtain ⟨r2218, h2219, h⟩ := bs h
   have e2220 := (nspeculumlaw08_past_ok k a0 a1 _ h2219)
   rcases ifs h with ⟨h2221, h⟩ | ⟨h2221, h⟩
   ·obtain ⟨r2222, h2223, h⟩ := bs h
    have e2224 := (an (decide_eq_true h2221) (nspeculumbase_Within_ok k a2 0 100000 _ h2223))
    have e2225 := (ti (ti (ti (an (an (decide_eq_true h2221) trivial) (an e2224 (an (an (decide_eq_true h2221) trivial) (an (decide_eq_true h2221) trivial)))))))
    rcases ifs h with ⟨h2226, h⟩ | ⟨h2226, h⟩
    ·rcases ifs h with ⟨h2227, h⟩ | ⟨h2227, h⟩
     ·have e2228 := (an (not_f (decide_eq_true h2227)) trivial)
      have e2229 := (an (not_f (decide_eq_true h2227)) trivial)
      rcases ifs h with ⟨h2230, h⟩ | ⟨h2230, h⟩
      ·have e2231 := (an (not_f (decide_eq_true h2230)) trivial)
       have e2232 := (an (not_f (decide_eq_true h2230)) trivial)
       have e2233 := (an (not_f (decide_eq_true h2230)) trivial)
       have e2234 := (an (not_f (decide_eq_true h2230)) trivial)
       obtain ⟨r2235, h2236, h⟩ := bs h
       have e2237 := (an (not_f (decide_eq_true h2230)) (show VC Go.Proofs.Try.prog 12 [VV.ag (c_SAging a0), VV.tr (List.flatMap c_SCoatEvent a1) a1.length, vi a2] (VV.fr (List.map vi r2235) r2235.length) from (VC.weak (nspeculumref08_Allowed_ok k a0 a1 a2 _ h2236) (Wv.fw rfl rfl))))
       obtain ⟨r2238, h2239, h⟩ := bs h
       have e2240 := (an (not_f (decide_eq_true h2230)) (nspeculumbase_Ints_ok k r2208.1 r2235 _ h2239))
       have e2241 := (an (not_f (decide_eq_true h2230)) trivial)
       rcases ifs h with ⟨h2242, h⟩ | ⟨h2242, h⟩
       ·obtain ⟨r2243, h2244, h⟩ := bs h
        have e2245 := (an (not_f h2242) (nspeculumref08_StateOn_ok k a0 a1 a2 _ h2244))
        have e2246 := (ti (ti (ti (an e2228 (an e2229 (an (not_f (decide_eq_true h2227)) (ti (an e2231 (an e2232 (an e2233 (an e2234 (an e2237 (an e2240 (an e2241 (an (not_f (decide_eq_true h2230)) (ti (an (an (not_f h2242) trivial) (an (an (not_f h2242) trivial) (an (an (not_f h2242) trivial) (an (an (not_f h2242) trivial) (an e2245 (an (an (not_f h2242) trivial) (an (not_f h2242) trivial)))))))))))))))))))))))
        rcases ifs h with ⟨h2247, h⟩ | ⟨h2247, h⟩
        ·obtain ⟨r2302, h2301, h⟩ := bs h
         have hph2301 := nspeculumlaw08_CoatAllowed_l0_0_ok k a0 a1 a2 r2208 _ _ _ h2301
         cases r2302 with
         | inl r2303 =>
          dsimp only at h
          have e2305 := (an (ti trivial) (VRun.loop hph2301))
          injection h with h; subst h
          exact fun_ok pm pn Go.Proofs.Try.func3 (r0 := vb false) (ans := [.reg (.n :: .n :: []), .reg (.call (vb r2198) :: .n :: []), .br false, .reg (.n :: .call (vb r2201) :: .n :: []), .br false, .reg (arY3_1 r2205 r2208), .reg (arY3_2 r2205 r2214), .reg (.n :: .n :: .call (vi r2218) :: .n :: []), .reg (nN 4 (.call (vb r2222) :: .n :: .b true :: [])), .br false, .reg (.n :: .n :: []), .br false, .reg (arY3_3 r2235 r2238 r2243), .br false, .reg (.n :: []), .sub ⟨[(1, none), (2, none), (3, none), (7, none), (12, none)], [none], []⟩ .ret (nspeculumlaw08_CoatAllowed_l0_0_e0 a0 a1 a2 r2208 r2303)]) (fr := true) (by kernel_rfl) (an (an (ti (ti trivial)) (an (an (an (nawake_ok k _ h2199) (ti trivial)) (an (not_f h2200) trivial)) (an (an e2203 (an (not_f h2204) trivial)) (an e2211 (an e2217 (an (ti (ti (an e2220 (ti trivial)))) (an (an e2225 (an (not_f h2226) trivial)) (an (an (ti (ti trivial)) (an (not_f (decide_eq_true h2221)) trivial)) (an (an e2246 (an (not_f (decide_eq_true h2247)) trivial)) (an (ti trivial) e2305)))))))))) (ti trivial)) (Wv.refl _)
         | inr r2304 =>
          dsimp only at h
          have e2306 := (an (ti trivial) (VRun.loop hph2301))
          injection h with h; subst h
          exact fun_ok pm pn Go.Proofs.Try.func3 (r0 := vb true) (ans := [.reg (.n :: .n :: []), .reg (.call (vb r2198) :: .n :: []), .br false, .reg (.n :: .call (vb r2201) :: .n :: []), .br false, .reg (arY3_1 r2205 r2208), .reg (arY3_2 r2205 r2214), .reg (.n :: .n :: .call (vi r2218) :: .n :: []), .reg (nN 4 (.call (vb r2222) :: .n :: .b true :: [])), .br false, .reg (.n :: .n :: []), .br false, .reg (arY3_3 r2235 r2238 r2243), .br false, .reg (.n :: []), .sub ⟨[(1, none), (2, none), (3, none), (7, none), (12, none)], [none], []⟩ (.exit 0) (nspeculumlaw08_CoatAllowed_l0_0_e1 a0 a1 a2 r2208 r2304), .reg (.n :: [])]) (fr := true) (by kernel_rfl) (an (an (ti (ti trivial)) (an (an (an (nawake_ok k _ h2199) (ti trivial)) (an (not_f h2200) trivial)) (an (an e2203 (an (not_f h2204) trivial)) (an e2211 (an e2217 (an (ti (ti (an e2220 (ti trivial)))) (an (an e2225 (an (not_f h2226) trivial)) (an (an (ti (ti trivial)) (an (not_f (decide_eq_true h2221)) trivial)) (an (an e2246 (an (not_f (decide_eq_true h2247)) trivial)) (an (an (ti trivial) e2306) (an (ti trivial) trivial))))))))))) (ti trivial)) (Wv.refl _)
        ·injection h with h; subst h
         exact fun_ok pm pn Go.Proofs.Try.func3 (r0 := vb false) (ans := [.reg (.n :: .n :: []), .reg (.call (vb r2198) :: .n :: []), .br false, .reg (.n :: .call (vb r2201) :: .n :: []), .br false, .reg (arY3_1 r2205 r2208), .reg (arY3_2 r2205 r2214), .reg (.n :: .n :: .call (vi r2218) :: .n :: []), .reg (nN 4 (.call (vb r2222) :: .n :: .b true :: [])), .br false, .reg (.n :: .n :: []), .br false, .reg (arY3_3 r2235 r2238 r2243), .br true, .reg (.n :: [])]) (fr := true) (by kernel_rfl) (an (an (ti (ti trivial)) (an (an (an (nawake_ok k _ h2199) (ti trivial)) (an (not_f h2200) trivial)) (an (an e2203 (an (not_f h2204) trivial)) (an e2211 (an e2217 (an (ti (ti (an e2220 (ti trivial)))) (an (an e2225 (an (not_f h2226) trivial)) (an (an (ti (ti trivial)) (an (not_f (decide_eq_true h2221)) trivial)) (an e2246 (an (not_t (decide_eq_false h2247)) (an (ti trivial) trivial))))))))))) (ti trivial)) (Wv.refl _)
       ·have e2307 := (ti (ti (ti (an e2228 (an e2229 (an (not_f (decide_eq_true h2227)) (ti (an e2231 (an e2232 (an e2233 (an e2234 (an e2237 (an e2240 (an e2241 (an (not_f (decide_eq_true h2230)) (ti (an (not_t (bool_f h2242)) (an (not_t (bool_f h2242)) (an (not_t (bool_f h2242)) (an (not_t (bool_f h2242)) (an (not_t (bool_f h2242)) (an (not_t (bool_f h2242)) (an (not_t (bool_f h2242)) trivial)))))))))))))))))))))))
        injection h with h; subst h
        exact fun_ok pm pn Go.Proofs.Try.func3 (r0 := vb false) (ans := [.reg (.n :: .n :: []), .reg (.call (vb r2198) :: .n :: []), .br false, .reg (.n :: .call (vb r2201) :: .n :: []), .br false, .reg (arY3_1 r2205 r2208), .reg (arY3_2 r2205 r2214), .reg (.n :: .n :: .call (vi r2218) :: .n :: []), .reg (nN 4 (.call (vb r2222) :: .n :: .b true :: [])), .br false, .reg (.n :: .n :: []), .br false, .reg (arY3_4 r2235 r2238), .br true, .reg (.n :: [])]) (fr := true) (by kernel_rfl) (an (an (ti (ti trivial)) (an (an (an (nawake_ok k _ h2199) (ti trivial)) (an (not_f h2200) trivial)) (an (an e2203 (an (not_f h2204) trivial)) (an e2211 (an e2217 (an (ti (ti (an e2220 (ti trivial)))) (an (an e2225 (an (not_f h2226) trivial)) (an (an (ti (ti trivial)) (an (not_f (decide_eq_true h2221)) trivial)) (an e2307 (an rt (an (ti trivial) trivial))))))))))) (ti trivial)) (Wv.refl _)
      ·have e2308 := (ti (ti (ti (an e2228 (an e2229 (an (not_f (decide_eq_true h2227)) (ti (an (not_t (decide_eq_false h2230)) (an (not_t (decide_eq_false h2230)) (an (not_t (decide_eq_false h2230)) (an (not_t (decide_eq_false h2230)) (an (not_t (decide_eq_false h2230)) (an (not_t (decide_eq_false h2230)) (an (not_t (decide_eq_false h2230)) (an (not_t (decide_eq_false h2230)) (ti (an rt (an rt (an rt (an rt (an rt (an rt (an rt trivial)))))))))))))))))))))))
       injection h with h; subst h
       exact fun_ok pm pn Go.Proofs.Try.func3 (r0 := vb false) (ans := [.reg (.n :: .n :: []), .reg (.call (vb r2198) :: .n :: []), .br false, .reg (.n :: .call (vb r2201) :: .n :: []), .br false, .reg (arY3_1 r2205 r2208), .reg (arY3_2 r2205 r2214), .reg (.n :: .n :: .call (vi r2218) :: .n :: []), .reg (nN 4 (.call (vb r2222) :: .n :: .b true :: [])), .br false, .reg (.n :: .n :: []), .br false, .reg (nN 5 (.b false :: .n :: nS 7 (.b true :: .n :: nS 6 (.b true :: [])))), .br true, .reg (.n :: [])]) (fr := true) (by kernel_rfl) (an (an (ti (ti trivial)) (an (an (an (nawake_ok k _ h2199) (ti trivial)) (an (not_f h2200) trivial)) (an (an e2203 (an (not_f h2204) trivial)) (an e2211 (an e2217 (an (ti (ti (an e2220 (ti trivial)))) (an (an e2225 (an (not_f h2226) trivial)) (an (an (ti (ti trivial)) (an (not_f (decide_eq_true h2221)) trivial)) (an e2308 (an rt (an (ti trivial) trivial))))))))))) (ti trivial)) (Wv.refl _)
     ·have e2309 := (ti (ti (ti (an (not_t (decide_eq_false h2227)) (an (not_t (decide_eq_false h2227)) (an (not_t (decide_eq_false h2227)) (ti (an rt (an rt (an rt (an rt (an rt (an rt (an rt (an rt (ti (an rt (an rt (an rt (an rt (an rt (an rt (an rt trivial)))))))))))))))))))))))
      injection h with h; subst h
      exact fun_ok pm pn Go.Proofs.Try.func3 (r0 := vb false) (ans := [.reg (.n :: .n :: []), .reg (.call (vb r2198) :: .n :: []), .br false, .reg (.n :: .call (vb r2201) :: .n :: []), .br false, .reg (arY3_1 r2205 r2208), .reg (arY3_2 r2205 r2214), .reg (.n :: .n :: .call (vi r2218) :: .n :: []), .reg (nN 4 (.call (vb r2222) :: .n :: .b true :: [])), .br false, .reg (.n :: .n :: []), .br false, .reg (nN 3 (.skip :: .skip :: .b true :: .n :: nS 7 (.b true :: .n :: nS 6 (.b true :: [])))), .br true, .reg (.n :: [])]) (fr := true) (by kernel_rfl) (an (an (ti (ti trivial)) (an (an (an (nawake_ok k _ h2199) (ti trivial)) (an (not_f h2200) trivial)) (an (an e2203 (an (not_f h2204) trivial)) (an e2211 (an e2217 (an (ti (ti (an e2220 (ti trivial)))) (an (an e2225 (an (not_f h2226) trivial)) (an (an (ti (ti trivial)) (an (not_f (decide_eq_true h2221)) trivial)) (an e2309 (an rt (an (ti trivial) trivial))))))))))) (ti trivial)) (Wv.refl _)
    ·rcases ifs h with ⟨h2310, h⟩ | ⟨h2310, h⟩
     ·rcases ifs h with ⟨h2311, h⟩ | ⟨h2311, h⟩
      ·rcases ifs h with ⟨h2312, h⟩ | ⟨h2312, h⟩
       ·have e2313 := (ti (ti (ti (ti (an (an (decide_eq_true h2310) trivial) (an (an (decide_eq_true h2310) trivial) (an (an (decide_eq_true h2310) trivial) (an (decide_eq_true h2310) (ti (an (an (decide_eq_true h2311) trivial) (an (an (decide_eq_true h2311) trivial) (an (an (decide_eq_true h2311) trivial) (an (decide_eq_true h2311) (ti (an (an (decide_eq_true h2312) trivial) (an (an (decide_eq_true h2312) trivial) (an (decide_eq_true h2312) (ti trivial))))))))))))))))))
        injection h with h; subst h
        exact fun_ok pm pn Go.Proofs.Try.func3 (r0 := vb (decide (r2214.1 = 0))) (ans := [.reg (.n :: .n :: []), .reg (.call (vb r2198) :: .n :: []), .br false, .reg (.n :: .call (vb r2201) :: .n :: []), .br false, .reg (arY3_1 r2205 r2208), .reg (arY3_2 r2205 r2214), .reg (.n :: .n :: .call (vi r2218) :: .n :: []), .reg (nN 4 (.call (vb r2222) :: .n :: .b true :: [])), .br true, .reg (.n :: []), .reg (.n :: .n :: []), .br true, .reg (nN 7 (.b true :: nN 4 (.b true :: nN 3 (.b true :: .n :: []))))]) (fr := true) (by kernel_rfl) (an (an (ti (ti trivial)) (an (an (an (nawake_ok k _ h2199) (ti trivial)) (an (not_f h2200) trivial)) (an (an e2203 (an (not_f h2204) trivial)) (an e2211 (an e2217 (an (ti (ti (an e2220 (ti trivial)))) (an (an e2225 (an (not_t (bool_f h2226)) (ti trivial))) (an (ti (ti trivial)) (an (show (!(decide ((2 : Int) = 0))) = true from (not_t (decide_eq_false (by decide)))) (an e2313 trivial)))))))))) (ti trivial)) (Wv.refl _)
       ·have e2314 := (ti (ti (ti (ti (an (an (decide_eq_true h2310) trivial) (an (an (decide_eq_true h2310) trivial) (an (an (decide_eq_true h2310) trivial) (an (decide_eq_true h2310) (ti (an (an (decide_eq_true h2311) trivial) (an (an (decide_eq_true h2311) trivial) (an (an (decide_eq_true h2311) trivial) (an (decide_eq_true h2311) (ti (an (decide_eq_false h2312) (an (decide_eq_false h2312) (an (decide_eq_false h2312) (ti trivial))))))))))))))))))
        injection h with h; subst h
        exact fun_ok pm pn Go.Proofs.Try.func3 (r0 := vb false) (ans := [.reg (.n :: .n :: []), .reg (.call (vb r2198) :: .n :: []), .br false, .reg (.n :: .call (vb r2201) :: .n :: []), .br false, .reg (arY3_1 r2205 r2208), .reg (arY3_2 r2205 r2214), .reg (.n :: .n :: .call (vi r2218) :: .n :: []), .reg (nN 4 (.call (vb r2222) :: .n :: .b true :: [])), .br true, .reg (.n :: []), .reg (.n :: .n :: []), .br true, .reg (nN 7 (.b true :: nN 4 (.b true :: .n :: .skip :: .skip :: .b false :: .n :: [])))]) (fr := true) (by kernel_rfl) (an (an (ti (ti trivial)) (an (an (an (nawake_ok k _ h2199) (ti trivial)) (an (not_f h2200) trivial)) (an (an e2203 (an (not_f h2204) trivial)) (an e2211 (an e2217 (an (ti (ti (an e2220 (ti trivial)))) (an (an e2225 (an (not_t (bool_f h2226)) (ti trivial))) (an (ti (ti trivial)) (an (show (!(decide ((2 : Int) = 0))) = true from (not_t (decide_eq_false (by decide)))) (an e2314 trivial)))))))))) (ti trivial)) (Wv.refl _)
      ·have e2315 := (ti (ti (ti (ti (an (an (decide_eq_true h2310) trivial) (an (an (decide_eq_true h2310) trivial) (an (an (decide_eq_true h2310) trivial) (an (decide_eq_true h2310) (ti (an (decide_eq_false h2311) (an (decide_eq_false h2311) (an (decide_eq_false h2311) (an (decide_eq_false h2311) (ti (an rf (an rf (an rf (ti trivial))))))))))))))))))
       injection h with h; subst h
       exact fun_ok pm pn Go.Proofs.Try.func3 (r0 := vb false) (ans := [.reg (.n :: .n :: []), .reg (.call (vb r2198) :: .n :: []), .br false, .reg (.n :: .call (vb r2201) :: .n :: []), .br false, .reg (arY3_1 r2205 r2208), .reg (arY3_2 r2205 r2214), .reg (.n :: .n :: .call (vi r2218) :: .n :: []), .reg (nN 4 (.call (vb r2222) :: .n :: .b true :: [])), .br true, .reg (.n :: []), .reg (.n :: .n :: []), .br true, .reg (nN 7 (.b true :: .n :: nS 3 (.b false :: .n :: .skip :: .skip :: .b false :: .n :: [])))]) (fr := true) (by kernel_rfl) (an (an (ti (ti trivial)) (an (an (an (nawake_ok k _ h2199) (ti trivial)) (an (not_f h2200) trivial)) (an (an e2203 (an (not_f h2204) trivial)) (an e2211 (an e2217 (an (ti (ti (an e2220 (ti trivial)))) (an (an e2225 (an (not_t (bool_f h2226)) (ti trivial))) (an (ti (ti trivial)) (an (show (!(decide ((2 : Int) = 0))) = true from (not_t (decide_eq_false (by decide)))) (an e2315 trivial)))))))))) (ti trivial)) (Wv.refl _)
     ·have e2316 := (ti (ti (ti (ti (an (decide_eq_false h2310) (an (decide_eq_false h2310) (an (decide_eq_false h2310) (an (decide_eq_false h2310) (ti (an rf (an rf (an rf (an rf (ti (an rf (an rf (an rf (ti trivial))))))))))))))))))
      injection h with h; subst h
      exact fun_ok pm pn Go.Proofs.Try.func3 (r0 := vb false) (ans := [.reg (.n :: .n :: []), .reg (.call (vb r2198) :: .n :: []), .br false, .reg (.n :: .call (vb r2201) :: .n :: []), .br false, .reg (arY3_1 r2205 r2208), .reg (arY3_2 r2205 r2214), .reg (.n :: .n :: .call (vi r2218) :: .n :: []), .reg (nN 4 (.call (vb r2222) :: .n :: .b true :: [])), .br true, .reg (.n :: []), .reg (.n :: .n :: []), .br true, .reg arY3_5]) (fr := true) (by kernel_rfl) (an (an (ti (ti trivial)) (an (an (an (nawake_ok k _ h2199) (ti trivial)) (an (not_f h2200) trivial)) (an (an e2203 (an (not_f h2204) trivial)) (an e2211 (an e2217 (an (ti (ti (an e2220 (ti trivial)))) (an (an e2225 (an (not_t (bool_f h2226)) (ti trivial))) (an (ti (ti trivial)) (an (show (!(decide ((2 : Int) = 0))) = true from (not_t (decide_eq_false (by decide)))) (an e2316 trivial)))))))))) (ti trivial)) (Wv.refl _)
   ·have e2317 := (ti (ti (ti (an (decide_eq_false h2221) (an (decide_eq_false h2221) (an (decide_eq_false h2221) (an (decide_eq_false h2221) trivial)))))))
    rcases ifs h with ⟨h2318, h⟩ | ⟨h2318, h⟩
    ·rcases ifs h with ⟨h2319, h⟩ | ⟨h2319, h⟩
     ·rcases ifs h with ⟨h2320, h⟩ | ⟨h2320, h⟩
      ·have e2321 := (ti (ti (ti (ti (an (an (decide_eq_true h2318) trivial) (an (an (decide_eq_true h2318) trivial) (an (an (decide_eq_true h2318) trivial) (an (decide_eq_true h2318) (ti (an (an (decide_eq_true h2319) trivial) (an (an (decide_eq_true h2319) trivial) (an (an (decide_eq_true h2319) trivial) (an (decide_eq_true h2319) (ti (an (an (decide_eq_true h2320) trivial) (an (an (decide_eq_true h2320) trivial) (an (decide_eq_true h2320) (ti trivial))))))))))))))))))
       injection h with h; subst h
       exact fun_ok pm pn Go.Proofs.Try.func3 (r0 := vb (decide (r2214.1 = 0))) (ans := [.reg (.n :: .n :: []), .reg (.call (vb r2198) :: .n :: []), .br false, .reg (.n :: .call (vb r2201) :: .n :: []), .br false, .reg (arY3_1 r2205 r2208), .reg (arY3_2 r2205 r2214), .reg (.n :: .n :: .call (vi r2218) :: .n :: []), .reg (nN 3 (nS 3 (.b false :: []))), .br false, .reg (.n :: .n :: []), .br true, .reg (nN 7 (.b true :: nN 4 (.b true :: nN 3 (.b true :: .n :: []))))]) (fr := true) (by kernel_rfl) (an (an (ti (ti trivial)) (an (an (an (nawake_ok k _ h2199) (ti trivial)) (an (not_f h2200) trivial)) (an (an e2203 (an (not_f h2204) trivial)) (an e2211 (an e2217 (an (ti (ti (an e2220 (ti trivial)))) (an (an e2317 (an rf trivial)) (an (ti (ti trivial)) (an (not_t (decide_eq_false h2221)) (an e2321 trivial)))))))))) (ti trivial)) (Wv.refl _)
      ·have e2322 := (ti (ti (ti (ti (an (an (decide_eq_true h2318) trivial) (an (an (decide_eq_true h2318) trivial) (an (an (decide_eq_true h2318) trivial) (an (decide_eq_true h2318) (ti (an (an (decide_eq_true h2319) trivial) (an (an (decide_eq_true h2319) trivial) (an (an (decide_eq_true h2319) trivial) (an (decide_eq_true h2319) (ti (an (decide_eq_false h2320) (an (decide_eq_false h2320) (an (decide_eq_false h2320) (ti trivial))))))))))))))))))
       injection h with h; subst h
       exact fun_ok pm pn Go.Proofs.Try.func3 (r0 := vb false) (ans := [.reg (.n :: .n :: []), .reg (.call (vb r2198) :: .n :: []), .br false, .reg (.n :: .call (vb r2201) :: .n :: []), .br false, .reg (arY3_1 r2205 r2208), .reg (arY3_2 r2205 r2214), .reg (.n :: .n :: .call (vi r2218) :: .n :: []), .reg (nN 3 (nS 3 (.b false :: []))), .br false, .reg (.n :: .n :: []), .br true, .reg (nN 7 (.b true :: nN 4 (.b true :: .n :: .skip :: .skip :: .b false :: .n :: [])))]) (fr := true) (by kernel_rfl) (an (an (ti (ti trivial)) (an (an (an (nawake_ok k _ h2199) (ti trivial)) (an (not_f h2200) trivial)) (an (an e2203 (an (not_f h2204) trivial)) (an e2211 (an e2217 (an (ti (ti (an e2220 (ti trivial)))) (an (an e2317 (an rf trivial)) (an (ti (ti trivial)) (an (not_t (decide_eq_false h2221)) (an e2322 trivial)))))))))) (ti trivial)) (Wv.refl _)
     ·have e2323 := (ti (ti (ti (ti (an (an (decide_eq_true h2318) trivial) (an (an (decide_eq_true h2318) trivial) (an (an (decide_eq_true h2318) trivial) (an (decide_eq_true h2318) (ti (an (decide_eq_false h2319) (an (decide_eq_false h2319) (an (decide_eq_false h2319) (an (decide_eq_false h2319) (ti (an rf (an rf (an rf (ti trivial))))))))))))))))))
      injection h with h; subst h
      exact fun_ok pm pn Go.Proofs.Try.func3 (r0 := vb false) (ans := [.reg (.n :: .n :: []), .reg (.call (vb r2198) :: .n :: []), .br false, .reg (.n :: .call (vb r2201) :: .n :: []), .br false, .reg (arY3_1 r2205 r2208), .reg (arY3_2 r2205 r2214), .reg (.n :: .n :: .call (vi r2218) :: .n :: []), .reg (nN 3 (nS 3 (.b false :: []))), .br false, .reg (.n :: .n :: []), .br true, .reg (nN 7 (.b true :: .n :: nS 3 (.b false :: .n :: .skip :: .skip :: .b false :: .n :: [])))]) (fr := true) (by kernel_rfl) (an (an (ti (ti trivial)) (an (an (an (nawake_ok k _ h2199) (ti trivial)) (an (not_f h2200) trivial)) (an (an e2203 (an (not_f h2204) trivial)) (an e2211 (an e2217 (an (ti (ti (an e2220 (ti trivial)))) (an (an e2317 (an rf trivial)) (an (ti (ti trivial)) (an (not_t (decide_eq_false h2221)) (an e2323 trivial)))))))))) (ti trivial)) (Wv.refl _)
    ·have e2324 := (ti (ti (ti (ti (an (decide_eq_false h2318) (an (decide_eq_false h2318) (an (decide_eq_false h2318) (an (decide_eq_false h2318) (ti (an rf (an rf (an rf (an rf (ti (an rf (an rf (an rf (ti trivial))))))))))))))))))
     injection h with h; subst h
     exact fun_ok pm pn Go.Proofs.Try.func3 (r0 := vb false) (ans := [.reg (.n :: .n :: []), .reg (.call (vb r2198) :: .n :: []), .br false, .reg (.n :: .call (vb r2201) :: .n :: []), .br false, .reg (arY3_1 r2205 r2208), .reg (arY3_2 r2205 r2214), .reg (.n :: .n :: .call (vi r2218) :: .n :: []), .reg (nN 3 (nS 3 (.b false :: []))), .br false, .reg (.n :: .n :: []), .br true, .reg arY3_5]) (fr := true) (by kernel_rfl) (an (an (ti (ti trivial)) (an (an (an (nawake_ok k _ h2199) (ti trivial)) (an (not_f h2200) trivial)) (an (an e2203 (an (not_f h2204) trivial)) (an e2211 (an e2217 (an (ti (ti (an e2220 (ti trivial)))) (an (an e2317 (an rf trivial)) (an (ti (ti trivial)) (an (not_t (decide_eq_false h2221)) (an e2324 trivial)))))))))) (ti trivial)) (Wv.refl _)
  ·injection h with h; subst h
   exact fun_ok pm pn Go.Proofs.Try.func3 (r0 := vb true) (ans := [.reg (.n :: .n :: []), .reg (.call (vb r2198) :: .n :: []), .br false, .reg (.n :: .call (vb r2201) :: .n :: []), .br true, .reg (.n :: [])]) (fr := true) (by kernel_rfl) (an (an (ti (ti trivial)) (an (an (an (nawake_ok k _ h2199) (ti trivial)) (an (not_f h2200) trivial)) (an e2203 (an (not_t (bool_f h2204)) (an (ti trivial) trivial))))) (ti trivial)) (Wv.refl _)
 ·injection h with h; subst h
  exact fun_ok pm pn Go.Proofs.Try.func3 (r0 := vb false) (ans := [.reg (.n :: .n :: []), .reg (.call (vb r2198) :: .n :: []), .br true, .reg (.n :: [])]) (fr := true) (by kernel_rfl) (an (an (ti (ti trivial)) (an (an (nawake_ok k _ h2199) (ti trivial)) (an (not_t (bool_f h2200)) (an (ti trivial) trivial)))) (ti trivial)) (Wv.refl _)
end Go.Proofs.Ytdnaijdnhgpckaa.Vg

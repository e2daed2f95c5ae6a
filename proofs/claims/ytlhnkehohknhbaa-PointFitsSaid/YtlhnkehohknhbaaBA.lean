/- Written by a program out of the program: what Go functions do, as plain functions, and their contracts. -/
import Derived.Test.YtlhnkehohknhbaaB1
namespace Go.Proofs.Ytlhnkehohknhbaa.Vg
set_option maxRecDepth 100000
set_option maxHeartbeats 4000000
set_option linter.unusedVariables false
set_option linter.unusedSimpArgs false
open Go Go.Proofs.Ytlhnkehohknhbaa.Ev Go.Proofs.Ytlhnkehohknhbaa.Vv
structure SSkyStar where
  Shapes : (List Int)
  Error : Int
  deriving Inhabited
def c_SSkyStar (x : SSkyStar) : List VV := [VV.tr (List.map vi x.Shapes) x.Shapes.length, vi x.Error]
theorem len_c_SSkyStar (x : SSkyStar) : (c_SSkyStar x).length = 2 := rfl
def g_SSkyStar (x : SSkyStar) : List VV := [VV.fr (List.map vi x.Shapes) x.Shapes.length, vi x.Error]
theorem len_g_SSkyStar (x : SSkyStar) : (g_SSkyStar x).length = 2 := rfl
theorem still_c_SSkyStar (xs : List SSkyStar) : (xs.flatMap c_SSkyStar).all VV.still = true := all_flat (fun _ => rfl) xs
theorem still_g_SSkyStar (xs : List SSkyStar) : (xs.flatMap g_SSkyStar).all VV.still = true := all_flat (fun _ => rfl) xs
theorem unfr_c_SSkyStar (xs : List SSkyStar) : (xs.flatMap c_SSkyStar).map unfr = xs.flatMap c_SSkyStar := unfr_flat2 (fun _ => rfl) xs
theorem unfr_g_SSkyStar (xs : List SSkyStar) : (xs.flatMap g_SSkyStar).map unfr = xs.flatMap c_SSkyStar := unfr_flat2 (fun _ => rfl) xs
theorem new0_g_SSkyStar (xs : List SSkyStar) : (xs.flatMap g_SSkyStar).all new0 = true := all_flat (fun _ => rfl) xs
structure SSkyModel where
  Terms : (List Int)
  Den : Int
  deriving Inhabited
def c_SSkyModel (x : SSkyModel) : List VV := [VV.tr (List.map vi x.Terms) x.Terms.length, vi x.Den]
theorem len_c_SSkyModel (x : SSkyModel) : (c_SSkyModel x).length = 2 := rfl
def g_SSkyModel (x : SSkyModel) : List VV := [VV.fr (List.map vi x.Terms) x.Terms.length, vi x.Den]
theorem len_g_SSkyModel (x : SSkyModel) : (g_SSkyModel x).length = 2 := rfl
theorem still_c_SSkyModel (xs : List SSkyModel) : (xs.flatMap c_SSkyModel).all VV.still = true := all_flat (fun _ => rfl) xs
theorem still_g_SSkyModel (xs : List SSkyModel) : (xs.flatMap g_SSkyModel).all VV.still = true := all_flat (fun _ => rfl) xs
theorem unfr_c_SSkyModel (xs : List SSkyModel) : (xs.flatMap c_SSkyModel).map unfr = xs.flatMap c_SSkyModel := unfr_flat2 (fun _ => rfl) xs
theorem unfr_g_SSkyModel (xs : List SSkyModel) : (xs.flatMap g_SSkyModel).map unfr = xs.flatMap c_SSkyModel := unfr_flat2 (fun _ => rfl) xs
theorem new0_g_SSkyModel (xs : List SSkyModel) : (xs.flatMap g_SSkyModel).all new0 = true := all_flat (fun _ => rfl) xs
structure SRange where
  Lo : Int
  Hi : Int
  deriving Inhabited
def c_SRange (x : SRange) : List VV := [vi x.Lo, vi x.Hi]
theorem len_c_SRange (x : SRange) : (c_SRange x).length = 2 := rfl
theorem still_c_SRange (xs : List SRange) : (xs.flatMap c_SRange).all VV.still = true := all_flat (fun _ => rfl) xs
theorem isC_c_SRange (xs : List SRange) : (xs.flatMap c_SRange).all VV.isC = true := all_flat (fun _ => rfl) xs
theorem new0_c_SRange (xs : List SRange) : (xs.flatMap c_SRange).all new0 = true := all_flat (fun _ => rfl) xs
theorem unfr_c_SRange (xs : List SRange) : (xs.flatMap c_SRange).map unfr = xs.flatMap c_SRange := unfr_flat (fun _ => rfl) xs
theorem ag41 : isAggT Go.Proofs.Try.prog 41 = some false := by kernel_rfl
theorem ag65 : isAggT Go.Proofs.Try.prog 65 = some true := by kernel_rfl
theorem sz65 : szOf Go.Proofs.Try.prog 65 = some 2 := by kernel_rfl
theorem eqok55 : EqOK Go.Proofs.Try.prog 55 [some (.i .i64), some (.i .i64)] := eqOK_of (by kernel_rfl) (by kernel_rfl) (eqT_struct Go.Proofs.Try.underlying55 (by kernel_rfl) (by kernel_rfl) (by kernel_rfl) (.cons (by decide +kernel) rfl (eqT_int Go.Proofs.Try.underlying3 (by kernel_rfl) (by kernel_rfl)) (.cons (by decide +kernel) rfl (eqT_int Go.Proofs.Try.underlying3 (by kernel_rfl) (by kernel_rfl)) .nil)))
def nawake (k : Nat) : Option Bool := some true
theorem nawake_ok (k : Nat) (r : Bool) (h : nawake k = some r) : VC Go.Proofs.Try.prog 20 [] (vb r) := by
  injection h with h; subst h
  exact vc_awake
def arBA_0 (z0 : (List SSkyStar)) (z1 : Int) : List Ans := (nN 4 (.v (VV.tr (List.map vi ((z0.getD z1.toNat default).Shapes)) (((z0.getD z1.toNat default).Shapes).length)) :: .n :: .n :: []))
def nspeculumlaw09_Few_l0_0_h (a0 : (List SSkyStar)) (x3 : Int) : VS := ⟨mkA [(0, VV.tr (List.flatMap c_SSkyStar a0) a0.length), (3, vi x3)], [], .nil⟩
def nspeculumlaw09_Few_l0_0_e0 (a0 : (List SSkyStar)) (r : Unit) : VS := ⟨mkA [(2, vb false)], [], .nil⟩
def nspeculumlaw09_Few_l0_0_e1 (a0 : (List SSkyStar)) (r : Unit) : VS := ⟨mkA [(0, VV.tr (List.flatMap c_SSkyStar a0) a0.length)], [], .nil⟩
def nspeculumlaw09_Few_l0_0 (k : Nat) (a0 : (List SSkyStar)) : Nat → Int → Option (Sum Unit Unit)
  | 0, _ => none
  | fuel + 1, x3 => if x3 < (a0.length : Int) then (if 0 ≤ x3 ∧ x3 < (a0.length : Int) then (if 6 < (((a0.getD x3.toNat default).Shapes).length : Int) then (some (.inl ())) else (nspeculumlaw09_Few_l0_0 k a0 fuel (w64 (x3 + 1)))) else none) else (some (.inr ()))
theorem nspeculumlaw09_Few_l0_0_ok (k : Nat) (a0 : (List SSkyStar)) : ∀ (fuel : Nat) (x3 : Int) (r : Sum Unit Unit), nspeculumlaw09_Few_l0_0 k a0 fuel x3 = some r → (match r with | .inl r => VLoop none Go.Proofs.Try.prog (szF Go.Proofs.Try.f26) (bodyOf Go.Proofs.Try.f26 0) (nspeculumlaw09_Few_l0_0_h a0 x3) .ret (nspeculumlaw09_Few_l0_0_e0 a0 r) | .inr r => VLoop none Go.Proofs.Try.prog (szF Go.Proofs.Try.f26) (bodyOf Go.Proofs.Try.f26 0) (nspeculumlaw09_Few_l0_0_h a0 x3) (.exit 0) (nspeculumlaw09_Few_l0_0_e1 a0 r)) := by
 intro fuel
 induction fuel with
 | zero => intro x3 r h; rw [nspeculumlaw09_Few_l0_0.eq_1] at h; cases h
 | succ fuel ih =>
  intro x3 r h
  rw [nspeculumlaw09_Few_l0_0.eq_2] at h
  rcases ifs h with ⟨h356, h⟩ | ⟨h356, h⟩
  ·obtain ⟨h357, h⟩ := ifn h
   have e358 := (show loadL Go.Proofs.Try.prog 41 (x3.toNat * 2 + 0) (List.flatMap c_SSkyStar a0) = some (VV.tr (List.map vi ((a0.getD x3.toNat default).Shapes)) (((a0.getD x3.toNat default).Shapes).length)) from (ld_flat ag41 c_SSkyStar 2 0 len_c_SSkyStar (by omega) a0 default h357 (by omega)).trans rfl)
   have e359 := (ti (ti (an h357 (ti (an e358 (ti (ti trivial)))))))
   rcases ifs h with ⟨h360, h⟩ | ⟨h360, h⟩
   ·injection h with h; subst h
    exact round_stop (c := ⟨[(2, none)], [], []⟩) (s1 := (nspeculumlaw09_Few_l0_0_e0 a0 ())) pm pn (ans := [.reg (nN 4 []), .br true, .reg (arBA_0 a0 x3), .br true, .reg (.n :: [])]) (by kernel_rfl) (by intro e; cases e) (an (an (an (ti (ti (ti (ti trivial)))) (an (decide_eq_true h356) trivial)) (an e359 (an (decide_eq_true h360) (an (ti trivial) trivial)))) (ti trivial))
   ·have h2 := ih _ _ h
    obtain ⟨q, hv, hq⟩ := pkR (rd := none) (P := Go.Proofs.Try.prog) (fn := Go.Proofs.Try.f26) (k := 0) (s := (nspeculumlaw09_Few_l0_0_h a0 x3)) (ans := [.reg (nN 4 []), .br true, .reg (arBA_0 a0 x3), .br false, .reg (nN 3 [])]) (c := ⟨[(0, none), (3, none)], [], []⟩) (e := .normal) (s1 := (nspeculumlaw09_Few_l0_0_h a0 (w64 (x3 + 1)))) (an (an (an (ti (ti (ti (ti trivial)))) (an (decide_eq_true h356) trivial)) (an (an e359 (an (decide_eq_false h360) trivial)) (ti (ti (ti trivial))))) (ti trivial)) (by kernel_rfl)
    cases r with
    | inl r => exact round_next pm pn hv hq h2
    | inr r =>
     exact round_next pm pn hv hq h2
  ·injection h with h; subst h
   exact round_stop (c := ⟨[(0, none)], [], []⟩) (s1 := (nspeculumlaw09_Few_l0_0_e1 a0 ())) pm pn (ans := [.reg (nN 4 []), .br false]) (by kernel_rfl) (by intro e; cases e) (an (an (ti (ti (ti (ti trivial)))) (an (decide_eq_false h356) trivial)) (ti trivial))
def nspeculumlaw09_Few (k : Nat) (a0 : (List SSkyStar)) : Option Bool :=
  (nspeculumlaw09_Few_l0_0 k a0 k 0).bind fun r362 => (match r362 with | .inl r363 => (some false) | .inr r364 => (if (a0.length : Int) ≤ 8 then (some true) else (if 20 < (a0.length : Int) then (some (decide ((a0.length : Int) ≤ 23))) else (some false))))
theorem nspeculumlaw09_Few_ok (k : Nat) (a0 : (List SSkyStar)) (r : Bool) (h : nspeculumlaw09_Few k a0 = some r) : VC Go.Proofs.Try.prog 26 [VV.tr (List.flatMap c_SSkyStar a0) a0.length] (vb r) := by
 unfold nspeculumlaw09_Few at h
 obtain ⟨r362, h361, h⟩ := bs h
 have hph361 := nspeculumlaw09_Few_l0_0_ok k a0 _ _ _ h361
 cases r362 with
 | inl r363 =>
  dsimp only at h
  have e365 := (an (ti trivial) (VRun.loop hph361))
  injection h with h; subst h
  exact fun_ok pm pn Go.Proofs.Try.func26 (r0 := vb false) (ans := [.reg (.n :: []), .reg (.n :: []), .sub ⟨[(0, none), (3, none)], [], []⟩ .ret (nspeculumlaw09_Few_l0_0_e0 a0 r363)]) (fr := true) (by kernel_rfl) (an (an (ti trivial) (an (ti trivial) e365)) (ti trivial)) (Wv.refl _)
 | inr r364 =>
  dsimp only at h
  have e366 := (an (ti trivial) (VRun.loop hph361))
  rcases ifs h with ⟨h367, h⟩ | ⟨h367, h⟩
  ·have e368 := (ti (ti (ti (ti (an (decide_eq_true h367) (an (decide_eq_true h367) (an (decide_eq_true h367) (an (decide_eq_true h367) (ti (ti (ti (an (decide_eq_true h367) (an (decide_eq_true h367) (ti trivial))))))))))))))
   injection h with h; subst h
   exact fun_ok pm pn Go.Proofs.Try.func26 (r0 := vb true) (ans := [.reg (.n :: []), .reg (.n :: []), .sub ⟨[(0, none), (3, none)], [], []⟩ (.exit 0) (nspeculumlaw09_Few_l0_0_e1 a0 r364), .reg (nN 4 (nS 8 (.b true :: .n :: [])))]) (fr := true) (by kernel_rfl) (an (an (ti trivial) (an (an (ti trivial) e366) (an e368 trivial))) (ti trivial)) (Wv.refl _)
  ·rcases ifs h with ⟨h369, h⟩ | ⟨h369, h⟩
   ·have e370 := (an (decide_eq_false h367) (decide_eq_true h369))
    have e371 := (ti (ti (ti (ti (an (an (decide_eq_false h367) trivial) (an (an (decide_eq_false h367) trivial) (an (an (decide_eq_false h367) trivial) (an (an (decide_eq_false h367) trivial) (an (an (decide_eq_true h369) trivial) (an (an (decide_eq_true h369) trivial) (an (an (decide_eq_true h369) trivial) (an e370 (an (decide_eq_false h367) (ti trivial))))))))))))))
    injection h with h; subst h
    exact fun_ok pm pn Go.Proofs.Try.func26 (r0 := vb (decide ((a0.length : Int) ≤ 23))) (ans := [.reg (.n :: []), .reg (.n :: []), .sub ⟨[(0, none), (3, none)], [], []⟩ (.exit 0) (nspeculumlaw09_Few_l0_0_e1 a0 r364), .reg (nN 11 (.b true :: .b false :: .n :: []))]) (fr := true) (by kernel_rfl) (an (an (ti trivial) (an (an (ti trivial) e366) (an e371 trivial))) (ti trivial)) (Wv.refl _)
   ·have e372 := (an (decide_eq_false h367) (decide_eq_false h369))
    have e373 := (ti (ti (ti (ti (an (an (decide_eq_false h367) trivial) (an (an (decide_eq_false h367) trivial) (an (an (decide_eq_false h367) trivial) (an (an (decide_eq_false h367) trivial) (an (decide_eq_false h369) (an (decide_eq_false h369) (an (decide_eq_false h369) (an e372 (an (decide_eq_false h367) (ti trivial))))))))))))))
    injection h with h; subst h
    exact fun_ok pm pn Go.Proofs.Try.func26 (r0 := vb false) (ans := [.reg (.n :: []), .reg (.n :: []), .sub ⟨[(0, none), (3, none)], [], []⟩ (.exit 0) (nspeculumlaw09_Few_l0_0_e1 a0 r364), .reg (nN 8 (nS 3 (.b false :: .b false :: .n :: [])))]) (fr := true) (by kernel_rfl) (an (an (ti trivial) (an (an (ti trivial) e366) (an e373 trivial))) (ti trivial)) (Wv.refl _)
def nspeculumbase_CopyInts (k : Nat) (a0 : (List Int)) : Option (List Int) :=
  if ([] : List Int).length + a0.length ≤ 1000000000 then (some (([] : List Int) ++ a0)) else none
theorem nspeculumbase_CopyInts_ok (k : Nat) (a0 : (List Int)) (r : (List Int)) (h : nspeculumbase_CopyInts k a0 = some r) : VC Go.Proofs.Try.prog 37 [VV.tr (List.map vi a0) a0.length] (VV.fw 1 (List.map vi r) r.length) := by
 unfold nspeculumbase_CopyInts at h
 obtain ⟨h386, h⟩ := ifn h
 have e387 := (show List.length [] = 0 * 1 ∧ List.length (List.map vi a0) = a0.length * 1 ∧ (0 + a0.length) * 8 ≤ 140737488355328 ∧ 0 + a0.length < 1099511627776 ∧ List.all (List.map vi a0) VV.still = true from ⟨(by rw [show [] = List.map vi ([] : List Int) from rfl]; simp), (by simp), by simp at h386 ⊢; omega, by simp at h386 ⊢; omega, (by exact still_vi _)⟩)
 injection h with h; subst h
 exact fun_ok pm pn Go.Proofs.Try.func37 (r0 := VV.fw 1 (List.drop 0 (List.map unfr ([] ++ (List.map vi a0)))) (0 + a0.length)) (ans := [.reg (.n :: []), .reg (nN 4 [])]) (fr := true) (by kernel_rfl) (an (an (ti trivial) (an (ti (ti (an e387 (ti trivial)))) trivial)) (an (show List.all ([] ++ (List.map vi a0)) new0 = true from (by rw [show [] ++ (List.map vi a0) = List.map vi (([] : List Int) ++ a0) from (by rw [show [] = List.map vi ([] : List Int) from rfl]; exact List.map_append.symm)]; exact new0_vi _)) trivial)) (Wv.of_eq (by simp only [show [] ++ (List.map vi a0) = List.map vi (([] : List Int) ++ a0) from (by rw [show [] = List.map vi ([] : List Int) from rfl]; exact List.map_append.symm), drop0, unfr_vi, unfr_vb, unfr_vs, List.map_cons, List.map_nil, un_i, un_k, un_b, un_s, un_tr, un_fr, List.length_map, List.length_replicate, List.length_append, List.length_set, List.length_cons, List.length_nil, unfr_c_SSkyRow, unfr_c_SSkyStar, unfr_g_SSkyStar, unfr_c_SSkyModel, unfr_g_SSkyModel]))
def arBA_1 (z0 : (List SSkyStar)) (z1 : Int) (z2 : (List Int)) : List Ans := (nN 5 (.v (VV.tr (List.map vi ((z0.getD z1.toNat default).Shapes)) (((z0.getD z1.toNat default).Shapes).length)) :: .call (VV.fr (List.map vi z2) z2.length) :: nN 4 (.v (vi ((z0.getD z1.toNat default).Error)) :: nN 4 [])))
def nspeculumlaw09_stars_l0_0_h (a0 : (List SSkyStar)) (y0 : List SSkyStar) (x4 : Int) : VS := ⟨mkA [(0, VV.tr (List.flatMap c_SSkyStar a0) a0.length), (3, VV.rf 0 0 y0.length), (4, vi x4)], [some ⟨false, 2, List.flatMap g_SSkyStar y0⟩], .nil⟩
def nspeculumlaw09_stars_l0_0_e0 (a0 : (List SSkyStar)) (r : (List SSkyStar)) : VS := ⟨mkA [(3, VV.rf 0 0 r.length)], [some ⟨false, 2, List.flatMap g_SSkyStar r⟩], .nil⟩
def nspeculumlaw09_stars_l0_0 (k : Nat) (a0 : (List SSkyStar)) : Nat → (List SSkyStar) → Int → Option ((List SSkyStar))
  | 0, _, _ => none
  | fuel + 1, y0, x4 => if x4 < (a0.length : Int) then (if 0 ≤ x4 ∧ x4 < (a0.length : Int) then ((nspeculumbase_CopyInts k ((a0.getD x4.toNat default).Shapes)).bind fun r461 => (if y0.length + ([(⟨r461, (a0.getD x4.toNat default).Error⟩ : SSkyStar)] : List SSkyStar).length ≤ 1000000000 then (nspeculumlaw09_stars_l0_0 k a0 fuel (y0 ++ ([(⟨r461, (a0.getD x4.toNat default).Error⟩ : SSkyStar)] : List SSkyStar)) (w64 (x4 + 1))) else none)) else none) else (some y0)
theorem nspeculumlaw09_stars_l0_0_ok (k : Nat) (a0 : (List SSkyStar)) : ∀ (fuel : Nat) (y0 : List SSkyStar) (x4 : Int) (r : (List SSkyStar)), nspeculumlaw09_stars_l0_0 k a0 fuel y0 x4 = some r → (VLoop none Go.Proofs.Try.prog (szF Go.Proofs.Try.f28) (bodyOf Go.Proofs.Try.f28 0) (nspeculumlaw09_stars_l0_0_h a0 y0 x4) (.exit 0) (nspeculumlaw09_stars_l0_0_e0 a0 r)) := by
 intro fuel
 induction fuel with
 | zero => intro y0 x4 r h; rw [nspeculumlaw09_stars_l0_0.eq_1] at h; cases h
 | succ fuel ih =>
  intro y0 x4 r h
  rw [nspeculumlaw09_stars_l0_0.eq_2] at h
  rcases ifs h with ⟨h458, h⟩ | ⟨h458, h⟩
  ·obtain ⟨h459, h⟩ := ifn h
   have e460 := (show loadL Go.Proofs.Try.prog 41 (x4.toNat * 2 + 0) (List.flatMap c_SSkyStar a0) = some (VV.tr (List.map vi ((a0.getD x4.toNat default).Shapes)) (((a0.getD x4.toNat default).Shapes).length)) from (ld_flat ag41 c_SSkyStar 2 0 len_c_SSkyStar (by omega) a0 default h459 (by omega)).trans rfl)
   obtain ⟨r461, h462, h⟩ := bs h
   have e463 := (show VC Go.Proofs.Try.prog 37 [VV.tr (List.map vi ((a0.getD x4.toNat default).Shapes)) (((a0.getD x4.toNat default).Shapes).length)] (VV.fr (List.map vi r461) r461.length) from (VC.weak (nspeculumbase_CopyInts_ok k ((a0.getD x4.toNat default).Shapes) _ h462) (Wv.fw rfl rfl)))
   have e464 := (show loadL Go.Proofs.Try.prog 3 (x4.toNat * 2 + 1) (List.flatMap c_SSkyStar a0) = some (vi ((a0.getD x4.toNat default).Error)) from (ld_flat ag3 c_SSkyStar 2 1 len_c_SSkyStar (by omega) a0 default h459 (by omega)).trans rfl)
   obtain ⟨h465, h⟩ := ifn h
   have e466 := (show List.length (List.flatMap g_SSkyStar y0) = y0.length * 2 ∧ List.length [VV.fr (List.map vi r461) r461.length, vi ((a0.getD x4.toNat default).Error)] = 1 * 2 ∧ (y0.length + 1) * 32 ≤ 140737488355328 ∧ y0.length + 1 < 1099511627776 ∧ List.all [VV.fr (List.map vi r461) r461.length, vi ((a0.getD x4.toNat default).Error)] VV.still = true from ⟨(by rw [flatMap_len len_g_SSkyStar] <;> simp), (by rw [show [VV.fr (List.map vi r461) r461.length, vi ((a0.getD x4.toNat default).Error)] = List.flatMap g_SSkyStar ([(⟨r461, (a0.getD x4.toNat default).Error⟩ : SSkyStar)] : List SSkyStar) from rfl]; rw [flatMap_len len_g_SSkyStar] <;> simp), by simp at h465 ⊢; omega, by simp at h465 ⊢; omega, (by rw [show [VV.fr (List.map vi r461) r461.length, vi ((a0.getD x4.toNat default).Error)] = List.flatMap g_SSkyStar ([(⟨r461, (a0.getD x4.toNat default).Error⟩ : SSkyStar)] : List SSkyStar) from rfl]; exact still_g_SSkyStar _)⟩)
   have e467 := (ti (ti (ti (an h459 (ti (an e460 (an e463 (ti (ti (an h459 (ti (an e464 (ti (ti (an e466 (ti trivial))))))))))))))))
   have h2 := ih _ _ _ h
   obtain ⟨q, hv, hq⟩ := pkR (rd := none) (P := Go.Proofs.Try.prog) (fn := Go.Proofs.Try.f28) (k := 0) (s := (nspeculumlaw09_stars_l0_0_h a0 y0 x4)) (ans := [.reg (nN 4 []), .br true, .reg (arBA_1 a0 x4 r461), .reg (nN 3 [])]) (c := ⟨[(0, none), (3, some (VV.rf 0 0 ((y0 ++ ([(⟨r461, (a0.getD x4.toNat default).Error⟩ : SSkyStar)] : List SSkyStar)).length))), (4, none)], [some (List.flatMap g_SSkyStar (y0 ++ ([(⟨r461, (a0.getD x4.toNat default).Error⟩ : SSkyStar)] : List SSkyStar)))], []⟩) (e := .normal) (s1 := (nspeculumlaw09_stars_l0_0_h a0 (y0 ++ ([(⟨r461, (a0.getD x4.toNat default).Error⟩ : SSkyStar)] : List SSkyStar)) (w64 (x4 + 1)))) (an (an (an (ti (ti (ti (ti trivial)))) (an (decide_eq_true h458) trivial)) (an e467 (ti (ti (ti trivial))))) (an (an (show Wv (VV.rf 0 0 (y0.length + 1)) (VV.rf 0 0 ((y0 ++ ([(⟨r461, (a0.getD x4.toNat default).Error⟩ : SSkyStar)] : List SSkyStar)).length)) from (Wv.of_eq (by simp))) trivial) (an (show (List.flatMap g_SSkyStar y0) ++ [VV.fr (List.map vi r461) r461.length, vi ((a0.getD x4.toNat default).Error)] = List.flatMap g_SSkyStar (y0 ++ ([(⟨r461, (a0.getD x4.toNat default).Error⟩ : SSkyStar)] : List SSkyStar)) from (by rw [show [VV.fr (List.map vi r461) r461.length, vi ((a0.getD x4.toNat default).Error)] = List.flatMap g_SSkyStar ([(⟨r461, (a0.getD x4.toNat default).Error⟩ : SSkyStar)] : List SSkyStar) from rfl]; exact List.flatMap_append.symm)) trivial))) (by kernel_rfl)
   exact round_next pm pn hv hq h2
  ·injection h with h; subst h
   exact round_stop (c := ⟨[(3, none)], [none], []⟩) (s1 := (nspeculumlaw09_stars_l0_0_e0 a0 y0)) pm pn (ans := [.reg (nN 4 []), .br false]) (by kernel_rfl) (by intro e; cases e) (an (an (ti (ti (ti (ti trivial)))) (an (decide_eq_false h458) trivial)) (ti trivial))
theorem eqBA_0 (z0 : (List SSkyStar)) : VV.fw 2 (List.drop 0 (List.map unfr (List.flatMap g_SSkyStar z0))) z0.length = VV.fw 2 (List.flatMap c_SSkyStar z0) z0.length := by first | rfl | simp only [drop0, List.map_cons, List.map_nil, List.length_map, unfr_c_SSkyStar, unfr_g_SSkyStar]
def nspeculumlaw09_stars (k : Nat) (a0 : (List SSkyStar)) : Option (List SSkyStar) :=
  (nspeculumlaw09_stars_l0_0 k a0 k ([] : List SSkyStar) 0).bind fun r469 => (some r469)
theorem nspeculumlaw09_stars_ok (k : Nat) (a0 : (List SSkyStar)) (r : (List SSkyStar)) (h : nspeculumlaw09_stars k a0 = some r) : VC Go.Proofs.Try.prog 28 [VV.tr (List.flatMap c_SSkyStar a0) a0.length] (VV.fw 2 (List.flatMap c_SSkyStar r) r.length) := by
 unfold nspeculumlaw09_stars at h
 obtain ⟨r469, h468, h⟩ := bs h
 have hph468 := nspeculumlaw09_stars_l0_0_ok k a0 _ _ _ _ h468
 have e470 := (an (ti trivial) (VRun.loop hph468))
 injection h with h; subst h
 exact fun_ok pm pn Go.Proofs.Try.func28 (r0 := VV.fw 2 (List.drop 0 (List.map unfr (List.flatMap g_SSkyStar r469))) r469.length) (ans := [.reg (.n :: []), .reg (.n :: []), .reg (.n :: []), .sub ⟨[(0, none), (3, none), (4, none)], [], [.t 3 2]⟩ (.exit 0) (nspeculumlaw09_stars_l0_0_e0 a0 r469), .reg (.n :: .n :: [])]) (fr := true) (by kernel_rfl) (an (an (ti trivial) (an (ti trivial) (an (an (ti trivial) e470) (an (ti (ti trivial)) trivial)))) (an (show List.all (List.flatMap g_SSkyStar r469) new0 = true from (by exact new0_g_SSkyStar _)) trivial)) (Wv.of_eq (eqBA_0 r469))
theorem eqBA_1 (z0 : (List Int)) (z1 : SSkyModel) : VV.ag [VV.fr (List.map vi z0) z0.length, vi z1.Den] = VV.ag (g_SSkyModel (⟨z0, z1.Den⟩ : SSkyModel)) := by first | rfl | simp only [unfr_vi, List.map_cons, List.map_nil, un_i, un_fr, List.length_map, List.length_cons, List.length_nil, unfr_g_SSkyModel]
def nspeculumlaw09_model (k : Nat) (a0 : SSkyModel) : Option SSkyModel :=
  (nspeculumbase_CopyInts k a0.Terms).bind fun r477 => (some (⟨r477, a0.Den⟩ : SSkyModel))
theorem nspeculumlaw09_model_ok (k : Nat) (a0 : SSkyModel) (r : SSkyModel) (h : nspeculumlaw09_model k a0 = some r) : VC Go.Proofs.Try.prog 34 [VV.ag (c_SSkyModel a0)] (VV.ag (g_SSkyModel r)) := by
 unfold nspeculumlaw09_model at h
 obtain ⟨r477, h478, h⟩ := bs h
 have e479 := (show VC Go.Proofs.Try.prog 37 [VV.tr (List.map vi a0.Terms) a0.Terms.length] (VV.fr (List.map vi r477) r477.length) from (VC.weak (nspeculumbase_CopyInts_ok k a0.Terms _ h478) (Wv.fw rfl rfl)))
 injection h with h; subst h
 exact fun_ok pm pn Go.Proofs.Try.func34 (r0 := VV.ag [VV.fr (List.map vi r477) r477.length, vi a0.Den]) (ans := [.reg (.n :: .n :: []), .reg (.n :: .n :: .call (VV.fr (List.map vi r477) r477.length) :: nN 4 [])]) (fr := true) (by kernel_rfl) (an (an (ti (ti trivial)) (an (ti (ti (an e479 (ti (ti (ti (ti trivial))))))) trivial)) (an (ti (ti (ti trivial))) trivial)) (Wv.of_eq (eqBA_1 r477 a0))
theorem eqBA_2 (z0 : (List SSkyStar)) : [vi 1, vi 3, VV.tr (List.map vi ([(((z0.getD ((0 : Int)).toNat default).Shapes).length : Int)] : List Int)) (([(((z0.getD ((0 : Int)).toNat default).Shapes).length : Int)] : List Int).length)] = [vi 1, vi 3, VV.tr (List.drop 0 (List.map unfr [vi (((z0.getD ((0 : Int)).toNat default).Shapes).length : Int)])) 1] := by first | rfl | simp only [drop0, unfr_vi, List.map_cons, List.map_nil, un_i, un_tr, List.length_map, List.length_cons, List.length_nil]
theorem eqBA_3 (z0 : (List SSkyStar)) : [vi 1000, VV.tr (List.map vi ([(z0.getD ((0 : Int)).toNat default).Error] : List Int)) (([(z0.getD ((0 : Int)).toNat default).Error] : List Int).length)] = [vi 1000, VV.tr (List.drop 0 (List.map unfr [vi ((z0.getD ((0 : Int)).toNat default).Error)])) 1] := by first | rfl | simp only [drop0, unfr_vi, List.map_cons, List.map_nil, un_i, un_tr, List.length_map, List.length_cons, List.length_nil]
theorem eqBA_4 (z0 : (List SSkyStar)) (z1 : Int) : [vi 1000, VV.tr (List.map vi ([(z0.getD z1.toNat default).Error] : List Int)) (([(z0.getD z1.toNat default).Error] : List Int).length)] = [vi 1000, VV.tr (List.drop 0 (List.map unfr [vi ((z0.getD z1.toNat default).Error)])) 1] := by first | rfl | simp only [drop0, unfr_vi, List.map_cons, List.map_nil, un_i, un_tr, List.length_map, List.length_cons, List.length_nil]
def npoint_CheckStars_l0_0_h (a0 : (List SSkyStar)) (x20 : Int) : VS := ⟨mkA [(4, vi (((a0.getD ((0 : Int)).toNat default).Shapes).length : Int)), (18, VV.tr (List.flatMap c_SSkyStar a0) a0.length), (19, vi (a0.length : Int)), (20, vi x20)], [], .nil⟩
def npoint_CheckStars_l0_0_e0 (a0 : (List SSkyStar)) (r : Int) : VS := ⟨mkA [(2, vi 0), (3, vi r)], [], .nil⟩
def npoint_CheckStars_l0_0_e1 (a0 : (List SSkyStar)) (r : Unit) : VS := ⟨mkA [(4, vi (((a0.getD ((0 : Int)).toNat default).Shapes).length : Int))], [], .nil⟩
def npoint_CheckStars_l0_0 (k : Nat) (a0 : (List SSkyStar)) : Nat → Int → Option (Sum Int Unit)
  | 0, _ => none
  | fuel + 1, x20 => if x20 < (a0.length : Int) then (if 0 ≤ x20 ∧ x20 < (a0.length : Int) then (if (((a0.getD x20.toNat default).Shapes).length : Int) = (((a0.getD ((0 : Int)).toNat default).Shapes).length : Int) then ((npoint_areWithin k 1 3 ([(((a0.getD ((0 : Int)).toNat default).Shapes).length : Int)] : List Int)).bind fun r617 => (if r617 = true then ((npoint_areSmall k 100 ((a0.getD x20.toNat default).Shapes)).bind fun r623 => (if r623 = true then ((npoint_areSmall k 1000 ([(a0.getD x20.toNat default).Error] : List Int)).bind fun r627 => (if r627 = true then (npoint_CheckStars_l0_0 k a0 fuel (w64 (x20 + 1))) else (some (.inl 2)))) else (some (.inl 2)))) else (some (.inl 10)))) else (some (.inl 10))) else none) else (some (.inr ()))
theorem npoint_CheckStars_l0_0_ok (k : Nat) (a0 : (List SSkyStar)) : ∀ (fuel : Nat) (x20 : Int) (r : Sum Int Unit), npoint_CheckStars_l0_0 k a0 fuel x20 = some r → (match r with | .inl r => VLoop none Go.Proofs.Try.prog (szF Go.Proofs.Try.f27) (bodyOf Go.Proofs.Try.f27 0) (npoint_CheckStars_l0_0_h a0 x20) .ret (npoint_CheckStars_l0_0_e0 a0 r) | .inr r => VLoop none Go.Proofs.Try.prog (szF Go.Proofs.Try.f27) (bodyOf Go.Proofs.Try.f27 0) (npoint_CheckStars_l0_0_h a0 x20) (.exit 0) (npoint_CheckStars_l0_0_e1 a0 r)) := by
 intro fuel
 induction fuel with
 | zero => intro x20 r h; rw [npoint_CheckStars_l0_0.eq_1] at h; cases h
 | succ fuel ih =>
  intro x20 r h
  rw [npoint_CheckStars_l0_0.eq_2] at h
  rcases ifs h with ⟨h611, h⟩ | ⟨h611, h⟩
  ·obtain ⟨h612, h⟩ := ifn h
   have e613 := (show loadL Go.Proofs.Try.prog 65 (x20.toNat * 2) (List.flatMap c_SSkyStar a0) = some (VV.ag (c_SSkyStar (a0.getD x20.toNat default))) from ld_whole ag65 c_SSkyStar 2 sz65 len_c_SSkyStar a0 default h612 (by omega))
   rcases ifs h with ⟨h614, h⟩ | ⟨h614, h⟩
   ·have e615 := (an (not_f (decide_eq_true h614)) trivial)
    have e616 := (an (not_f (decide_eq_true h614)) trivial)
    obtain ⟨r617, h618, h⟩ := bs h
    have e619 := (an (not_f (decide_eq_true h614)) (VC.args (npoint_areWithin_ok k 1 3 ([(((a0.getD ((0 : Int)).toNat default).Shapes).length : Int)] : List Int) _ h618) (eqBA_2 a0)))
    have e620 := (an (not_f (decide_eq_true h614)) trivial)
    have e621 := (ti (ti (ti (ti (ti (ti (an e615 (an e616 (an e619 (an e620 (an (not_f (decide_eq_true h614)) (ti trivial))))))))))))
    rcases ifs h with ⟨h622, h⟩ | ⟨h622, h⟩
    ·obtain ⟨r623, h624, h⟩ := bs h
     have e625 := (npoint_areSmall_ok k 100 ((a0.getD x20.toNat default).Shapes) _ h624)
     rcases ifs h with ⟨h626, h⟩ | ⟨h626, h⟩
     ·obtain ⟨r627, h628, h⟩ := bs h
      have e629 := (an (not_f h626) (VC.args (npoint_areSmall_ok k 1000 ([(a0.getD x20.toNat default).Error] : List Int) _ h628) (eqBA_4 a0 x20)))
      have e630 := (ti (ti (an e625 (ti (ti (an (an (not_f h626) trivial) (an (an (not_f h626) trivial) (an (an (not_f h626) trivial) (an e629 (an (an (not_f h626) trivial) (an (not_f h626) (ti trivial))))))))))))
      rcases ifs h with ⟨h631, h⟩ | ⟨h631, h⟩
      ·have h2 := ih _ _ h
       obtain ⟨q, hv, hq⟩ := pkR (rd := none) (P := Go.Proofs.Try.prog) (fn := Go.Proofs.Try.f27) (k := 0) (s := (npoint_CheckStars_l0_0_h a0 x20)) (ans := [.reg (.n :: []), .br true, .reg (.n :: .v (VV.ag (c_SSkyStar (a0.getD x20.toNat default))) :: .n :: .n :: []), .reg (nN 8 (.call (vb r617) :: .n :: .b false :: .n :: [])), .br false, .reg (.n :: .n :: .call (vb r623) :: nN 5 (.call (vb r627) :: .n :: .b false :: .n :: [])), .br false, .reg (.n :: .n :: [])]) (c := ⟨[(4, none), (18, none), (19, none), (20, none)], [], []⟩) (e := .normal) (s1 := (npoint_CheckStars_l0_0_h a0 (w64 (x20 + 1)))) (an (an (ti trivial) (an (an (decide_eq_true h611) trivial) (an (an (an h612 (an e613 (ti (ti trivial)))) (an e621 (an (not_f h622) (an e630 (an (not_f h631) trivial))))) (ti (ti trivial))))) (ti trivial)) (by kernel_rfl)
       cases r with
       | inl r => exact round_next pm pn hv hq h2
       | inr r =>
        exact round_next pm pn hv hq h2
      ·injection h with h; subst h
       exact round_stop (c := ⟨[(2, none), (3, none)], [], []⟩) (s1 := (npoint_CheckStars_l0_0_e0 a0 2)) pm pn (ans := [.reg (.n :: []), .br true, .reg (.n :: .v (VV.ag (c_SSkyStar (a0.getD x20.toNat default))) :: .n :: .n :: []), .reg (nN 8 (.call (vb r617) :: .n :: .b false :: .n :: [])), .br false, .reg (.n :: .n :: .call (vb r623) :: nN 5 (.call (vb r627) :: .n :: .b false :: .n :: [])), .br true, .reg (.n :: .n :: [])]) (by kernel_rfl) (by intro e; cases e) (an (an (ti trivial) (an (an (decide_eq_true h611) trivial) (an (an h612 (an e613 (ti (ti trivial)))) (an e621 (an (not_f h622) (an e630 (an (not_t (bool_f h631)) (an (ti (ti trivial)) trivial)))))))) (ti trivial))
     ·have e632 := (ti (ti (an e625 (ti (ti (an (not_t (bool_f h626)) (an (not_t (bool_f h626)) (an (not_t (bool_f h626)) (an (not_t (bool_f h626)) (an (not_t (bool_f h626)) (an (not_t (bool_f h626)) (ti trivial))))))))))))
      injection h with h; subst h
      exact round_stop (c := ⟨[(2, none), (3, none)], [], []⟩) (s1 := (npoint_CheckStars_l0_0_e0 a0 2)) pm pn (ans := [.reg (.n :: []), .br true, .reg (.n :: .v (VV.ag (c_SSkyStar (a0.getD x20.toNat default))) :: .n :: .n :: []), .reg (nN 8 (.call (vb r617) :: .n :: .b false :: .n :: [])), .br false, .reg (.n :: .n :: .call (vb r623) :: .n :: .n :: nS 5 (.b true :: .n :: [])), .br true, .reg (.n :: .n :: [])]) (by kernel_rfl) (by intro e; cases e) (an (an (ti trivial) (an (an (decide_eq_true h611) trivial) (an (an h612 (an e613 (ti (ti trivial)))) (an e621 (an (not_f h622) (an e632 (an rt (an (ti (ti trivial)) trivial)))))))) (ti trivial))
    ·injection h with h; subst h
     exact round_stop (c := ⟨[(2, none), (3, none)], [], []⟩) (s1 := (npoint_CheckStars_l0_0_e0 a0 10)) pm pn (ans := [.reg (.n :: []), .br true, .reg (.n :: .v (VV.ag (c_SSkyStar (a0.getD x20.toNat default))) :: .n :: .n :: []), .reg (nN 8 (.call (vb r617) :: .n :: .b false :: .n :: [])), .br true, .reg (.n :: .n :: [])]) (by kernel_rfl) (by intro e; cases e) (an (an (ti trivial) (an (an (decide_eq_true h611) trivial) (an (an h612 (an e613 (ti (ti trivial)))) (an e621 (an (not_t (bool_f h622)) (an (ti (ti trivial)) trivial)))))) (ti trivial))
   ·have e633 := (ti (ti (ti (ti (ti (ti (an (not_t (decide_eq_false h614)) (an (not_t (decide_eq_false h614)) (an (not_t (decide_eq_false h614)) (an (not_t (decide_eq_false h614)) (an (not_t (decide_eq_false h614)) (ti trivial))))))))))))
    injection h with h; subst h
    exact round_stop (c := ⟨[(2, none), (3, none)], [], []⟩) (s1 := (npoint_CheckStars_l0_0_e0 a0 10)) pm pn (ans := [.reg (.n :: []), .br true, .reg (.n :: .v (VV.ag (c_SSkyStar (a0.getD x20.toNat default))) :: .n :: .n :: []), .reg (nN 6 (nS 4 (.b true :: .n :: []))), .br true, .reg (.n :: .n :: [])]) (by kernel_rfl) (by intro e; cases e) (an (an (ti trivial) (an (an (decide_eq_true h611) trivial) (an (an h612 (an e613 (ti (ti trivial)))) (an e633 (an rt (an (ti (ti trivial)) trivial)))))) (ti trivial))
  ·injection h with h; subst h
   exact round_stop (c := ⟨[(4, none)], [], []⟩) (s1 := (npoint_CheckStars_l0_0_e1 a0 ())) pm pn (ans := [.reg (.n :: []), .br false]) (by kernel_rfl) (by intro e; cases e) (an (an (ti trivial) (an (decide_eq_false h611) trivial)) (ti trivial))
def arBA_2 (z0 : (List SSkyStar)) : List Ans := (nN 3 (.v (VV.tr (List.map vi ((z0.getD ((0 : Int)).toNat default).Shapes)) (((z0.getD ((0 : Int)).toNat default).Shapes).length)) :: .n :: .n :: []))
def npoint_CheckStars (k : Nat) (a0 : (List SSkyStar)) : Option (Int × Int) :=
  if (a0.length : Int) = 0 then (some (0, 10)) else (if 20 < (a0.length : Int) then (some (0, 8)) else (if (0 : Int) ≤ 0 ∧ 0 < (a0.length : Int) then ((npoint_CheckStars_l0_0 k a0 k 0).bind fun r635 => (match r635 with | .inl r636 => (some (0, r636)) | .inr r637 => (some ((((a0.getD ((0 : Int)).toNat default).Shapes).length : Int), 0)))) else none))
theorem npoint_CheckStars_ok (k : Nat) (a0 : (List SSkyStar)) (r : (Int × Int)) (h : npoint_CheckStars k a0 = some r) : VC Go.Proofs.Try.prog 27 [VV.tr (List.flatMap c_SSkyStar a0) a0.length] (VV.tu [vi r.1, vi r.2]) := by
 unfold npoint_CheckStars at h
 rcases ifs h with ⟨h561, h⟩ | ⟨h561, h⟩
 ·injection h with h; subst h
  exact fun_ok pm pn Go.Proofs.Try.func27 (r0 := VV.tu [vi 0, vi 10]) (ans := [.reg (.n :: .n :: []), .reg (nN 3 []), .br true, .reg (.n :: .n :: [])]) (fr := true) (by kernel_rfl) (an (an (ti (ti trivial)) (an (ti (ti (ti trivial))) (an (decide_eq_true h561) (an (ti (ti trivial)) trivial)))) (ti (ti trivial))) (Wv.refl _)
 ·rcases ifs h with ⟨h562, h⟩ | ⟨h562, h⟩
  ·injection h with h; subst h
   exact fun_ok pm pn Go.Proofs.Try.func27 (r0 := VV.tu [vi 0, vi 8]) (ans := [.reg (.n :: .n :: []), .reg (nN 3 []), .br false, .reg (nN 3 []), .br true, .reg (.n :: .n :: [])]) (fr := true) (by kernel_rfl) (an (an (ti (ti trivial)) (an (an (ti (ti (ti trivial))) (an (decide_eq_false h561) trivial)) (an (ti (ti (ti trivial))) (an (decide_eq_true h562) (an (ti (ti trivial)) trivial))))) (ti (ti trivial))) (Wv.refl _)
  ·obtain ⟨h563, h⟩ := ifn h
   have e564 := (show loadL Go.Proofs.Try.prog 41 (((0 : Int)).toNat * 2 + 0) (List.flatMap c_SSkyStar a0) = some (VV.tr (List.map vi ((a0.getD ((0 : Int)).toNat default).Shapes)) (((a0.getD ((0 : Int)).toNat default).Shapes).length)) from (ld_flat ag41 c_SSkyStar 2 0 len_c_SSkyStar (by omega) a0 default h563 (by omega)).trans rfl)
   obtain ⟨r635, h634, h⟩ := bs h
   have hph634 := npoint_CheckStars_l0_0_ok k a0 _ _ _ h634
   cases r635 with
   | inl r636 =>
    dsimp only at h
    have e638 := (an (ti trivial) (VRun.loop hph634))
    injection h with h; subst h
    exact fun_ok pm pn Go.Proofs.Try.func27 (r0 := VV.tu [vi 0, vi r636]) (ans := [.reg (.n :: .n :: []), .reg (nN 3 []), .br false, .reg (nN 3 []), .br false, .reg (arBA_2 a0), .reg (nN 3 []), .sub ⟨[(4, none), (18, none), (19, none), (20, none)], [], []⟩ .ret (npoint_CheckStars_l0_0_e0 a0 r636)]) (fr := true) (by kernel_rfl) (an (an (ti (ti trivial)) (an (an (ti (ti (ti trivial))) (an (decide_eq_false h561) trivial)) (an (an (ti (ti (ti trivial))) (an (decide_eq_false h562) trivial)) (an (ti (an h563 (ti (an e564 (ti (ti trivial)))))) (an (ti (ti (ti trivial))) e638))))) (ti (ti trivial))) (Wv.refl _)
   | inr r637 =>
    dsimp only at h
    have e639 := (an (ti trivial) (VRun.loop hph634))
    injection h with h; subst h
    exact fun_ok pm pn Go.Proofs.Try.func27 (r0 := VV.tu [vi (((a0.getD ((0 : Int)).toNat default).Shapes).length : Int), vi 0]) (ans := [.reg (.n :: .n :: []), .reg (nN 3 []), .br false, .reg (nN 3 []), .br false, .reg (arBA_2 a0), .reg (nN 3 []), .sub ⟨[(4, none), (18, none), (19, none), (20, none)], [], []⟩ (.exit 0) (npoint_CheckStars_l0_0_e1 a0 r637), .reg (nN 3 [])]) (fr := true) (by kernel_rfl) (an (an (ti (ti trivial)) (an (an (ti (ti (ti trivial))) (an (decide_eq_false h561) trivial)) (an (an (ti (ti (ti trivial))) (an (decide_eq_false h562) trivial)) (an (ti (an h563 (ti (an e564 (ti (ti trivial)))))) (an (an (ti (ti (ti trivial))) e639) (an (ti (ti (ti trivial))) trivial)))))) (ti (ti trivial))) (Wv.refl _)
theorem eqBA_5 (z0 : SSkyModel) : [vi 1, vi 3, VV.tr (List.map vi ([(z0.Terms.length : Int)] : List Int)) (([(z0.Terms.length : Int)] : List Int).length)] = [vi 1, vi 3, VV.tr (List.drop 0 (List.map unfr [vi (z0.Terms.length : Int)])) 1] := by first | rfl | simp only [drop0, unfr_vi, List.map_cons, List.map_nil, un_i, un_tr, List.length_map, List.length_cons, List.length_nil]
theorem eqBA_6 (z0 : SSkyModel) : [vi 1, vi 1000000000000, VV.tr (List.map vi ([z0.Den] : List Int)) (([z0.Den] : List Int).length)] = [vi 1, vi 1000000000000, VV.tr (List.drop 0 (List.map unfr [vi z0.Den])) 1] := by first | rfl | simp only [drop0, unfr_vi, List.map_cons, List.map_nil, un_i, un_tr, List.length_map, List.length_cons, List.length_nil]
def nslices_Clone_int_int_ (k : Nat) (a0 : (List Int)) : Option (List Int) :=
  if 0 < a0.length then (if ([] : List Int).length + a0.length ≤ 1000000000 then (some (([] : List Int) ++ a0)) else none) else none
theorem nslices_Clone_int_int__ok (k : Nat) (a0 : (List Int)) (r : (List Int)) (h : nslices_Clone_int_int_ k a0 = some r) : VC Go.Proofs.Try.prog 94 [VV.tr (List.map vi a0) a0.length] (VV.fw 1 (List.map vi r) r.length) := by
 unfold nslices_Clone_int_int_ at h
 obtain ⟨h660, h⟩ := ifn h
 obtain ⟨h661, h⟩ := ifn h
 have e662 := (show List.length [] = 0 * 1 ∧ List.length (List.map vi a0) = a0.length * 1 ∧ (0 + a0.length) * 8 ≤ 140737488355328 ∧ 0 + a0.length < 1099511627776 ∧ List.all (List.map vi a0) VV.still = true from ⟨(by rw [show [] = List.map vi ([] : List Int) from rfl]; simp), (by simp), by simp at h661 ⊢; omega, by simp at h661 ⊢; omega, (by exact still_vi _)⟩)
 injection h with h; subst h
 exact fun_ok pm pn Go.Proofs.Try.func94 (r0 := VV.fw 1 (List.drop 0 (List.map unfr ([] ++ (List.map vi a0)))) (0 + a0.length)) (ans := [.reg (.n :: []), .reg (.n :: .n :: []), .br false, .reg (nN 4 [])]) (fr := true) (by kernel_rfl) (an (an (ti trivial) (an (an (ti (an h660 trivial)) (an rf trivial)) (an (ti (ti (an e662 (ti trivial)))) trivial))) (an (show List.all ([] ++ (List.map vi a0)) new0 = true from (by rw [show [] ++ (List.map vi a0) = List.map vi (([] : List Int) ++ a0) from (by rw [show [] = List.map vi ([] : List Int) from rfl]; exact List.map_append.symm)]; exact new0_vi _)) trivial)) (Wv.of_eq (by simp only [show [] ++ (List.map vi a0) = List.map vi (([] : List Int) ++ a0) from (by rw [show [] = List.map vi ([] : List Int) from rfl]; exact List.map_append.symm), drop0, unfr_vi, unfr_vb, unfr_vs, List.map_cons, List.map_nil, un_i, un_k, un_b, un_s, un_tr, un_fr, List.length_map, List.length_replicate, List.length_append, List.length_set, List.length_cons, List.length_nil, unfr_c_SSkyRow, unfr_c_SSkyStar, unfr_g_SSkyStar, unfr_c_SSkyModel, unfr_g_SSkyModel]))
def npoint_divisor_l1_0_h (a0 : (List Int)) (x8 : Int) (x3z : Int) (x5 : Int) : VS := ⟨mkA [(3, vi x3z), (5, vi x5), (6, VV.tr (List.map vi a0) a0.length), (7, vi (a0.length : Int)), (8, vi x8)], [], .nil⟩
def npoint_divisor_l1_0_e0 (a0 : (List Int)) (x8 : Int) (r : Int) : VS := ⟨mkA [(3, vi r), (6, VV.tr (List.map vi a0) a0.length), (7, vi (a0.length : Int)), (8, vi x8)], [], .nil⟩
def npoint_divisor_l1_0 (k : Nat) (a0 : (List Int)) (x8 : Int) : Nat → Int → Int → Option (Int)
  | 0, _, _ => none
  | fuel + 1, x3z, x5 => if x5 = 0 then (some x3z) else (if x5 ≠ 0 then (npoint_divisor_l1_0 k a0 x8 fuel x5 (x3z.tmod x5)) else none)
theorem npoint_divisor_l1_0_ok (k : Nat) (a0 : (List Int)) (x8 : Int) : ∀ (fuel : Nat) (x3z : Int) (x5 : Int) (r : Int), npoint_divisor_l1_0 k a0 x8 fuel x3z x5 = some r → (VLoop none Go.Proofs.Try.prog (szF Go.Proofs.Try.f93) (bodyOf Go.Proofs.Try.f93 1) (npoint_divisor_l1_0_h a0 x8 x3z x5) (.exit 2) (npoint_divisor_l1_0_e0 a0 x8 r)) := by
 intro fuel
 induction fuel with
 | zero => intro x3z x5 r h; rw [npoint_divisor_l1_0.eq_1] at h; cases h
 | succ fuel ih =>
  intro x3z x5 r h
  rw [npoint_divisor_l1_0.eq_2] at h
  rcases ifs h with ⟨h738, h⟩ | ⟨h738, h⟩
  ·injection h with h; subst h
   exact round_stop (c := ⟨[(3, none), (6, none), (7, none), (8, none)], [], []⟩) (s1 := (npoint_divisor_l1_0_e0 a0 x8 x3z)) pm pn (ans := [.reg (.n :: .n :: []), .br false]) (by kernel_rfl) (by intro e; cases e) (an (an (ti (ti trivial)) (an (not_f (decide_eq_true h738)) trivial)) (ti trivial))
  ·obtain ⟨h739, h⟩ := ifn h
   have h2 := ih _ _ _ h
   obtain ⟨q, hv, hq⟩ := pkR (rd := none) (P := Go.Proofs.Try.prog) (fn := Go.Proofs.Try.f93) (k := 1) (s := (npoint_divisor_l1_0_h a0 x8 x3z x5)) (ans := [.reg (.n :: .n :: []), .br true, .reg (nN 6 [])]) (c := ⟨[(3, none), (5, none), (6, none), (7, none), (8, none)], [], []⟩) (e := .normal) (s1 := (npoint_divisor_l1_0_h a0 x8 x5 (x3z.tmod x5))) (an (an (an (ti (ti trivial)) (an (not_t (decide_eq_false h738)) trivial)) (ti (ti (ti (an h739 (ti (ti trivial))))))) (ti trivial)) (by kernel_rfl)
   exact round_next pm pn hv hq h2
def npoint_divisor_l0_0_h (a0 : (List Int)) (x3 : Int) (x8 : Int) : VS := ⟨mkA [(3, vi x3), (6, VV.tr (List.map vi a0) a0.length), (7, vi (a0.length : Int)), (8, vi x8)], [], .nil⟩
def npoint_divisor_l0_0_e0 (a0 : (List Int)) (r : Int) : VS := ⟨mkA [(3, vi r)], [], .nil⟩
def npoint_divisor_l0_0 (k : Nat) (a0 : (List Int)) : Nat → Int → Int → Option (Int)
  | 0, _, _ => none
  | fuel + 1, x3, x8 => if x8 < (a0.length : Int) then (if 0 ≤ x8 ∧ x8 < (a0.length : Int) then ((npoint_divisor_l1_0 k a0 x8 k x3 (a0.getD x8.toNat 0)).bind fun r741 => (npoint_divisor_l0_0 k a0 fuel r741 (w64 (x8 + 1)))) else none) else (some x3)
theorem npoint_divisor_l0_0_ok (k : Nat) (a0 : (List Int)) : ∀ (fuel : Nat) (x3 : Int) (x8 : Int) (r : Int), npoint_divisor_l0_0 k a0 fuel x3 x8 = some r → (VLoop none Go.Proofs.Try.prog (szF Go.Proofs.Try.f93) (bodyOf Go.Proofs.Try.f93 0) (npoint_divisor_l0_0_h a0 x3 x8) (.exit 0) (npoint_divisor_l0_0_e0 a0 r)) := by
 intro fuel
 induction fuel with
 | zero => intro x3 x8 r h; rw [npoint_divisor_l0_0.eq_1] at h; cases h
 | succ fuel ih =>
  intro x3 x8 r h
  rw [npoint_divisor_l0_0.eq_2] at h
  rcases ifs h with ⟨h731, h⟩ | ⟨h731, h⟩
  ·obtain ⟨h732, h⟩ := ifn h
   have e733 := (show loadL Go.Proofs.Try.prog 3 (x8.toNat * 1) (List.map vi a0) = some (vi (a0.getD x8.toNat 0)) from ld_map ag3 vi a0 0 h732 (by omega))
   obtain ⟨r741, h740, h⟩ := bs h
   have hph740 := npoint_divisor_l1_0_ok k a0 x8 _ _ _ _ h740
   have e742 := (an (ti trivial) (VRun.loop hph740))
   have h2 := ih _ _ _ h
   obtain ⟨q, hv, hq⟩ := pkR (rd := none) (P := Go.Proofs.Try.prog) (fn := Go.Proofs.Try.f93) (k := 0) (s := (npoint_divisor_l0_0_h a0 x3 x8)) (ans := [.reg (.n :: []), .br true, .reg (.n :: .v (vi (a0.getD x8.toNat 0)) :: .n :: []), .sub ⟨[(3, none), (5, none), (6, none), (7, none), (8, none)], [], []⟩ (.exit 2) (npoint_divisor_l1_0_e0 a0 x8 r741), .reg (.n :: .n :: [])]) (c := ⟨[(3, none), (6, none), (7, none), (8, none)], [], []⟩) (e := .normal) (s1 := (npoint_divisor_l0_0_h a0 r741 (w64 (x8 + 1)))) (an (an (ti trivial) (an (an (decide_eq_true h731) trivial) (an (an (an h732 (an e733 (ti trivial))) e742) (ti (ti trivial))))) (ti trivial)) (by kernel_rfl)
   exact round_next pm pn hv hq h2
  ·injection h with h; subst h
   exact round_stop (c := ⟨[(3, none)], [], []⟩) (s1 := (npoint_divisor_l0_0_e0 a0 x3)) pm pn (ans := [.reg (.n :: []), .br false]) (by kernel_rfl) (by intro e; cases e) (an (an (ti trivial) (an (decide_eq_false h731) trivial)) (ti trivial))
def npoint_divisor (k : Nat) (a0 : (List Int)) : Option Int :=
  (npoint_divisor_l0_0 k a0 k 0 0).bind fun r744 => (some (maxI r744 (w64 (0 - r744))))
theorem npoint_divisor_ok (k : Nat) (a0 : (List Int)) (r : Int) (h : npoint_divisor k a0 = some r) : VC Go.Proofs.Try.prog 93 [VV.tr (List.map vi a0) a0.length] (vi r) := by
 unfold npoint_divisor at h
 obtain ⟨r744, h743, h⟩ := bs h
 have hph743 := npoint_divisor_l0_0_ok k a0 _ _ _ _ h743
 have e745 := (an (ti trivial) (VRun.loop hph743))
 injection h with h; subst h
 exact fun_ok pm pn Go.Proofs.Try.func93 (r0 := vi (maxI r744 (w64 (0 - r744)))) (ans := [.reg (.n :: []), .reg (.n :: []), .reg (nN 3 []), .sub ⟨[(3, none), (6, none), (7, none), (8, none)], [], []⟩ (.exit 0) (npoint_divisor_l0_0_e0 a0 r744), .reg (nN 5 [])]) (fr := true) (by kernel_rfl) (an (an (ti trivial) (an (ti trivial) (an (an (ti (ti (ti trivial))) e745) (an (ti (ti (ti (ti (ti trivial))))) trivial)))) (ti trivial)) (Wv.refl _)
def arBA_3 (z0 : (List Int)) (z1 : Int) : List Ans := (.n :: .n :: .own (List.map vi z0) z0.length none (VV.fw 1 (List.map vi z0) z0.length) :: nN 4 (.call (vi z1) :: .n :: .n :: []))
def npoint_CheckModel (k : Nat) (a0 : SSkyModel) : Option Int :=
  (npoint_areWithin k 1 3 ([(a0.Terms.length : Int)] : List Int)).bind fun r752 => (if r752 = true then ((npoint_areWithin k 1 1000000000000 ([a0.Den] : List Int)).bind fun r756 => (if r756 = true then ((npoint_areSmall k 1000000000000 a0.Terms).bind fun r760 => (if r760 = true then ((nslices_Clone_int_int_ k a0.Terms).bind fun r765 => (if r765.length + ([a0.Den] : List Int).length ≤ 1000000000 then ((npoint_divisor k (r765 ++ ([a0.Den] : List Int))).bind fun r770 => (if 1 < r770 then (some 3) else (some 0))) else none)) else (some 2))) else (some 2))) else (some 10))
theorem npoint_CheckModel_ok (k : Nat) (a0 : SSkyModel) (r : Int) (h : npoint_CheckModel k a0 = some r) : VC Go.Proofs.Try.prog 33 [VV.ag (c_SSkyModel a0)] (vi r) := by
 unfold npoint_CheckModel at h
 obtain ⟨r752, h753, h⟩ := bs h
 have e754 := (VC.args (npoint_areWithin_ok k 1 3 ([(a0.Terms.length : Int)] : List Int) _ h753) (eqBA_5 a0))
 rcases ifs h with ⟨h755, h⟩ | ⟨h755, h⟩
 ·obtain ⟨r756, h757, h⟩ := bs h
  have e758 := (VC.args (npoint_areWithin_ok k 1 1000000000000 ([a0.Den] : List Int) _ h757) (eqBA_6 a0))
  rcases ifs h with ⟨h759, h⟩ | ⟨h759, h⟩
  ·obtain ⟨r760, h761, h⟩ := bs h
   have e762 := (an (not_f h759) (npoint_areSmall_ok k 1000000000000 a0.Terms _ h761))
   have e763 := (ti (ti (ti (an e758 (ti (ti (an (an (not_f h759) trivial) (an (an (not_f h759) trivial) (an e762 (an (an (not_f h759) trivial) (an (not_f h759) (ti trivial))))))))))))
   rcases ifs h with ⟨h764, h⟩ | ⟨h764, h⟩
   ·obtain ⟨r765, h766, h⟩ := bs h
    have e767 := (show VC Go.Proofs.Try.prog 94 [VV.tr (List.map vi a0.Terms) a0.Terms.length] (VV.fw 1 (List.map vi r765) r765.length) ∧ (List.map vi r765 = List.map vi r765 ∧ r765.length = r765.length) ∧ List.all (List.map vi r765) VV.isC = true ∧ (r765.length = 0 → List.map vi r765 = []) from ⟨nslices_Clone_int_int__ok k a0.Terms _ h766, ⟨rfl, rfl⟩, isC_vi _, fun h => by rw [List.length_eq_zero_iff.1 h]; rfl⟩)
    obtain ⟨h768, h⟩ := ifn h
    have e769 := (show List.length (List.map vi r765) = r765.length * 1 ∧ List.length [vi a0.Den] = 1 * 1 ∧ (r765.length + 1) * 8 ≤ 140737488355328 ∧ r765.length + 1 < 1099511627776 ∧ List.all [vi a0.Den] VV.still = true from ⟨(by simp), (by rw [show [vi a0.Den] = List.map vi ([a0.Den] : List Int) from rfl]; simp), by simp at h768 ⊢; omega, by simp at h768 ⊢; omega, (by rw [show [vi a0.Den] = List.map vi ([a0.Den] : List Int) from rfl]; exact still_vi _)⟩)
    obtain ⟨r770, h771, h⟩ := bs h
    have e772 := (show VC Go.Proofs.Try.prog 93 [VV.tr (List.drop 0 (List.map unfr ((List.map vi r765) ++ [vi a0.Den]))) (r765.length + 1)] (vi r770) from (VC.args (npoint_divisor_ok k (r765 ++ ([a0.Den] : List Int)) _ h771) (by first | rfl | simp only [show (List.map vi r765) ++ [vi a0.Den] = List.map vi (r765 ++ ([a0.Den] : List Int)) from (by rw [show [vi a0.Den] = List.map vi ([a0.Den] : List Int) from rfl]; exact List.map_append.symm), drop0, unfr_vi, unfr_vb, unfr_vs, List.map_cons, List.map_nil, un_i, un_k, un_b, un_s, un_tr, un_fr, List.length_map, List.length_replicate, List.length_append, List.length_set, List.length_cons, List.length_nil, unfr_c_SSkyRow, unfr_c_SSkyStar, unfr_g_SSkyStar, unfr_c_SSkyModel, unfr_g_SSkyModel])))
    have e773 := (ti (ti (an e767 (ti (ti (ti (an e769 (an e772 (ti (ti trivial))))))))))
    rcases ifs h with ⟨h774, h⟩ | ⟨h774, h⟩
    ·injection h with h; subst h
     exact fun_ok pm pn Go.Proofs.Try.func33 (r0 := vi 3) (ans := [.reg (.n :: .n :: []), .reg (nN 4 (.call (vb r752) :: .n :: .n :: [])), .br false, .reg (nN 3 (.call (vb r756) :: nN 4 (.call (vb r760) :: .n :: .b false :: .n :: []))), .br false, .reg (arBA_3 r765 r770), .br true, .reg (.n :: [])]) (fr := true) (by kernel_rfl) (an (an (ti (ti trivial)) (an (ti (ti (ti (ti (an e754 (ti (ti trivial))))))) (an (not_f h755) (an e763 (an (not_f h764) (an e773 (an (decide_eq_true h774) (an (ti trivial) trivial)))))))) (ti trivial)) (Wv.refl _)
    ·injection h with h; subst h
     exact fun_ok pm pn Go.Proofs.Try.func33 (r0 := vi 0) (ans := [.reg (.n :: .n :: []), .reg (nN 4 (.call (vb r752) :: .n :: .n :: [])), .br false, .reg (nN 3 (.call (vb r756) :: nN 4 (.call (vb r760) :: .n :: .b false :: .n :: []))), .br false, .reg (arBA_3 r765 r770), .br false, .reg (.n :: [])]) (fr := true) (by kernel_rfl) (an (an (ti (ti trivial)) (an (an (ti (ti (ti (ti (an e754 (ti (ti trivial))))))) (an (not_f h755) (an e763 (an (not_f h764) (an e773 (an (decide_eq_false h774) trivial)))))) (an (ti trivial) trivial))) (ti trivial)) (Wv.refl _)
   ·injection h with h; subst h
    exact fun_ok pm pn Go.Proofs.Try.func33 (r0 := vi 2) (ans := [.reg (.n :: .n :: []), .reg (nN 4 (.call (vb r752) :: .n :: .n :: [])), .br false, .reg (nN 3 (.call (vb r756) :: nN 4 (.call (vb r760) :: .n :: .b false :: .n :: []))), .br true, .reg (.n :: [])]) (fr := true) (by kernel_rfl) (an (an (ti (ti trivial)) (an (ti (ti (ti (ti (an e754 (ti (ti trivial))))))) (an (not_f h755) (an e763 (an (not_t (bool_f h764)) (an (ti trivial) trivial)))))) (ti trivial)) (Wv.refl _)
  ·have e775 := (ti (ti (ti (an e758 (ti (ti (an (not_t (bool_f h759)) (an (not_t (bool_f h759)) (an (not_t (bool_f h759)) (an (not_t (bool_f h759)) (an (not_t (bool_f h759)) (ti trivial))))))))))))
   injection h with h; subst h
   exact fun_ok pm pn Go.Proofs.Try.func33 (r0 := vi 2) (ans := [.reg (.n :: .n :: []), .reg (nN 4 (.call (vb r752) :: .n :: .n :: [])), .br false, .reg (nN 3 (.call (vb r756) :: .n :: .n :: nS 4 (.b true :: .n :: []))), .br true, .reg (.n :: [])]) (fr := true) (by kernel_rfl) (an (an (ti (ti trivial)) (an (ti (ti (ti (ti (an e754 (ti (ti trivial))))))) (an (not_f h755) (an e775 (an rt (an (ti trivial) trivial)))))) (ti trivial)) (Wv.refl _)
 ·injection h with h; subst h
  exact fun_ok pm pn Go.Proofs.Try.func33 (r0 := vi 10) (ans := [.reg (.n :: .n :: []), .reg (nN 4 (.call (vb r752) :: .n :: .n :: [])), .br true, .reg (.n :: [])]) (fr := true) (by kernel_rfl) (an (an (ti (ti trivial)) (an (ti (ti (ti (ti (an e754 (ti (ti trivial))))))) (an (not_t (bool_f h755)) (an (ti trivial) trivial)))) (ti trivial)) (Wv.refl _)
def npoint_product_l0_0_h (a0 : (List Int)) (a1 : (List Int)) (x10 : Int) (x5 : Int) : VS := ⟨mkA [(1, VV.tr (List.map vi a1) a1.length), (5, vi x5), (8, VV.tr (List.map vi a0) a0.length), (9, vi (a0.length : Int)), (10, vi x10)], [], .nil⟩
def npoint_product_l0_0_e0 (a0 : (List Int)) (a1 : (List Int)) (r : Int) : VS := ⟨mkA [(5, vi r)], [], .nil⟩
def npoint_product_l0_0 (k : Nat) (a0 : (List Int)) (a1 : (List Int)) : Nat → Int → Int → Option (Int)
  | 0, _, _ => none
  | fuel + 1, x10, x5 => if x10 < (a0.length : Int) then (if 0 ≤ x10 ∧ x10 < (a0.length : Int) then (if 0 ≤ x10 ∧ x10 < (a1.length : Int) then (npoint_product_l0_0 k a0 a1 fuel (w64 (x10 + 1)) (w64 (x5 + (w64 ((a0.getD x10.toNat 0) * (a1.getD x10.toNat 0)))))) else none) else none) else (some x5)
theorem npoint_product_l0_0_ok (k : Nat) (a0 : (List Int)) (a1 : (List Int)) : ∀ (fuel : Nat) (x10 : Int) (x5 : Int) (r : Int), npoint_product_l0_0 k a0 a1 fuel x10 x5 = some r → (VLoop none Go.Proofs.Try.prog (szF Go.Proofs.Try.f98) (bodyOf Go.Proofs.Try.f98 0) (npoint_product_l0_0_h a0 a1 x10 x5) (.exit 0) (npoint_product_l0_0_e0 a0 a1 r)) := by
 intro fuel
 induction fuel with
 | zero => intro x10 x5 r h; rw [npoint_product_l0_0.eq_1] at h; cases h
 | succ fuel ih =>
  intro x10 x5 r h
  rw [npoint_product_l0_0.eq_2] at h
  rcases ifs h with ⟨h819, h⟩ | ⟨h819, h⟩
  ·obtain ⟨h820, h⟩ := ifn h
   have e821 := (show loadL Go.Proofs.Try.prog 3 (x10.toNat * 1) (List.map vi a0) = some (vi (a0.getD x10.toNat 0)) from ld_map ag3 vi a0 0 h820 (by omega))
   obtain ⟨h822, h⟩ := ifn h
   have e823 := (show loadL Go.Proofs.Try.prog 3 (x10.toNat * 1) (List.map vi a1) = some (vi (a1.getD x10.toNat 0)) from ld_map ag3 vi a1 0 h822 (by omega))
   have e824 := (ti (ti (ti (ti (an h822 (an e823 (ti (ti (ti trivial)))))))))
   have h2 := ih _ _ _ h
   obtain ⟨q, hv, hq⟩ := pkR (rd := none) (P := Go.Proofs.Try.prog) (fn := Go.Proofs.Try.f98) (k := 0) (s := (npoint_product_l0_0_h a0 a1 x10 x5)) (ans := [.reg (.n :: []), .br true, .reg (.n :: .n :: .v (vi (a0.getD x10.toNat 0)) :: .n :: .n :: []), .reg (nN 5 (.v (vi (a1.getD x10.toNat 0)) :: nN 3 [])), .reg (.n :: .n :: [])]) (c := ⟨[(1, none), (5, none), (8, none), (9, none), (10, none)], [], []⟩) (e := .normal) (s1 := (npoint_product_l0_0_h a0 a1 (w64 (x10 + 1)) (w64 (x5 + (w64 ((a0.getD x10.toNat 0) * (a1.getD x10.toNat 0))))))) (an (an (ti trivial) (an (an (decide_eq_true h819) trivial) (an (an (ti (an h820 (an e821 (ti (ti trivial))))) e824) (ti (ti trivial))))) (ti trivial)) (by kernel_rfl)
   exact round_next pm pn hv hq h2
  ·injection h with h; subst h
   exact round_stop (c := ⟨[(5, none)], [], []⟩) (s1 := (npoint_product_l0_0_e0 a0 a1 x5)) pm pn (ans := [.reg (.n :: []), .br false]) (by kernel_rfl) (by intro e; cases e) (an (an (ti trivial) (an (decide_eq_false h819) trivial)) (ti trivial))
def npoint_product (k : Nat) (a0 : (List Int)) (a1 : (List Int)) : Option Int :=
  (npoint_product_l0_0 k a0 a1 k 0 0).bind fun r826 => (some r826)
theorem npoint_product_ok (k : Nat) (a0 : (List Int)) (a1 : (List Int)) (r : Int) (h : npoint_product k a0 a1 = some r) : VC Go.Proofs.Try.prog 98 [VV.tr (List.map vi a0) a0.length, VV.tr (List.map vi a1) a1.length] (vi r) := by
 unfold npoint_product at h
 obtain ⟨r826, h825, h⟩ := bs h
 have hph825 := npoint_product_l0_0_ok k a0 a1 _ _ _ _ h825
 have e827 := (an (ti trivial) (VRun.loop hph825))
 injection h with h; subst h
 exact fun_ok pm pn Go.Proofs.Try.func98 (r0 := vi r826) (ans := [.reg (.n :: []), .reg (.n :: []), .reg (nN 3 []), .sub ⟨[(1, none), (5, none), (8, none), (9, none), (10, none)], [], []⟩ (.exit 0) (npoint_product_l0_0_e0 a0 a1 r826), .reg (.n :: .n :: [])]) (fr := true) (by kernel_rfl) (an (an (ti trivial) (an (ti trivial) (an (an (ti (ti (ti trivial))) e827) (an (ti (ti trivial)) trivial)))) (ti trivial)) (Wv.refl _)
def arBA_4 (z0 : (List SSkyStar)) (z1 : Int) : List Ans := (.n :: .n :: .v (vi (((z0.getD ((0 : Int)).toNat default).Shapes).getD z1.toNat 0)) :: .n :: .n :: [])
def arBA_5 (z0 : (List SSkyStar)) (z1 : Int) (z2 : Int) : List Ans := (.n :: .n :: .v (vi (((z0.getD z1.toNat default).Shapes).getD z2.toNat 0)) :: .n :: .n :: [])
def npoint_CheckFit_1 (k : Nat) (a0 : Int) : Option Bool :=
  some (!(decide (a0 = 0)))
theorem npoint_CheckFit_1_ok (k : Nat) (a0 : Int) (r : Bool) (h : npoint_CheckFit_1 k a0 = some r) : VC Go.Proofs.Try.prog 100 [vi a0] (vb r) := by
 unfold npoint_CheckFit_1 at h
 injection h with h; subst h
 exact fun_ok pm pn Go.Proofs.Try.func100 (r0 := vb (!(decide (a0 = 0)))) (ans := [.reg (.n :: []), .reg (nN 3 [])]) (fr := true) (by kernel_rfl) (an (an (ti trivial) (an (ti (ti (ti trivial))) trivial)) (ti trivial)) (Wv.refl _)
def nslices_IndexFunc_int_int__c1_100_l0_0_h (a0 : (List Int)) (x8 : Int) : VS := ⟨mkA [(0, VV.tr (List.map vi a0) a0.length), (1, VV.fn 100 []), (7, vi (a0.length : Int)), (8, vi x8)], [], .nil⟩
def nslices_IndexFunc_int_int__c1_100_l0_0_e0 (a0 : (List Int)) (r : Int) : VS := ⟨mkA [(4, vi r)], [], .nil⟩
def nslices_IndexFunc_int_int__c1_100_l0_0_e1 (a0 : (List Int)) (r : Unit) : VS := ⟨mkA [], [], .nil⟩
def nslices_IndexFunc_int_int__c1_100_l0_0 (k : Nat) (a0 : (List Int)) : Nat → Int → Option (Sum Int Unit)
  | 0, _ => none
  | fuel + 1, x8 => if x8 < (a0.length : Int) then (if 0 ≤ x8 ∧ x8 < (a0.length : Int) then ((npoint_CheckFit_1 k (a0.getD x8.toNat 0)).bind fun r973 => (if r973 = true then (some (.inl x8)) else (nslices_IndexFunc_int_int__c1_100_l0_0 k a0 fuel (w64 (x8 + 1))))) else none) else (some (.inr ()))
theorem nslices_IndexFunc_int_int__c1_100_l0_0_ok (k : Nat) (a0 : (List Int)) : ∀ (fuel : Nat) (x8 : Int) (r : Sum Int Unit), nslices_IndexFunc_int_int__c1_100_l0_0 k a0 fuel x8 = some r → (match r with | .inl r => VLoop none Go.Proofs.Try.prog (szF Go.Proofs.Try.f129) (bodyOf Go.Proofs.Try.f129 0) (nslices_IndexFunc_int_int__c1_100_l0_0_h a0 x8) .ret (nslices_IndexFunc_int_int__c1_100_l0_0_e0 a0 r) | .inr r => VLoop none Go.Proofs.Try.prog (szF Go.Proofs.Try.f129) (bodyOf Go.Proofs.Try.f129 0) (nslices_IndexFunc_int_int__c1_100_l0_0_h a0 x8) (.exit 0) (nslices_IndexFunc_int_int__c1_100_l0_0_e1 a0 r)) := by
 intro fuel
 induction fuel with
 | zero => intro x8 r h; rw [nslices_IndexFunc_int_int__c1_100_l0_0.eq_1] at h; cases h
 | succ fuel ih =>
  intro x8 r h
  rw [nslices_IndexFunc_int_int__c1_100_l0_0.eq_2] at h
  rcases ifs h with ⟨h970, h⟩ | ⟨h970, h⟩
  ·obtain ⟨h971, h⟩ := ifn h
   have e972 := (show loadL Go.Proofs.Try.prog 3 (x8.toNat * 1) (List.map vi a0) = some (vi (a0.getD x8.toNat 0)) from ld_map ag3 vi a0 0 h971 (by omega))
   obtain ⟨r973, h974, h⟩ := bs h
   have e975 := (npoint_CheckFit_1_ok k (a0.getD x8.toNat 0) _ h974)
   have e976 := (ti (ti (ti (an h971 (an e972 (an e975 trivial))))))
   rcases ifs h with ⟨h977, h⟩ | ⟨h977, h⟩
   ·injection h with h; subst h
    exact round_stop (c := ⟨[(4, none)], [], []⟩) (s1 := (nslices_IndexFunc_int_int__c1_100_l0_0_e0 a0 x8)) pm pn (ans := [.reg (.n :: []), .br true, .reg (.n :: .n :: []), .reg (nN 4 (.v (vi (a0.getD x8.toNat 0)) :: .call (vb r973) :: [])), .br true, .reg (.n :: .n :: [])]) (by kernel_rfl) (by intro e; cases e) (an (an (ti trivial) (an (an (decide_eq_true h970) trivial) (an (ti (ti trivial)) (an e976 (an h977 (an (ti (ti trivial)) trivial)))))) (ti trivial))
   ·have h2 := ih _ _ h
    obtain ⟨q, hv, hq⟩ := pkR (rd := none) (P := Go.Proofs.Try.prog) (fn := Go.Proofs.Try.f129) (k := 0) (s := (nslices_IndexFunc_int_int__c1_100_l0_0_h a0 x8)) (ans := [.reg (.n :: []), .br true, .reg (.n :: .n :: []), .reg (nN 4 (.v (vi (a0.getD x8.toNat 0)) :: .call (vb r973) :: [])), .br false, .reg (.n :: .n :: [])]) (c := ⟨[(0, none), (1, none), (7, none), (8, none)], [], []⟩) (e := .normal) (s1 := (nslices_IndexFunc_int_int__c1_100_l0_0_h a0 (w64 (x8 + 1)))) (an (an (ti trivial) (an (an (decide_eq_true h970) trivial) (an (an (ti (ti trivial)) (an e976 (an (bool_f h977) trivial))) (ti (ti trivial))))) (ti trivial)) (by kernel_rfl)
    cases r with
    | inl r => exact round_next pm pn hv hq h2
    | inr r =>
     exact round_next pm pn hv hq h2
  ·injection h with h; subst h
   exact round_stop (c := ⟨[], [], []⟩) (s1 := (nslices_IndexFunc_int_int__c1_100_l0_0_e1 a0 ())) pm pn (ans := [.reg (.n :: []), .br false]) (by kernel_rfl) (by intro e; cases e) (an (an (ti trivial) (an (decide_eq_false h970) trivial)) (ti trivial))
def nslices_IndexFunc_int_int__c1_100 (k : Nat) (a0 : (List Int)) : Option Int :=
  (nslices_IndexFunc_int_int__c1_100_l0_0 k a0 k 0).bind fun r979 => (match r979 with | .inl r980 => (some r980) | .inr r981 => (some (-1)))
theorem nslices_IndexFunc_int_int__c1_100_ok (k : Nat) (a0 : (List Int)) (r : Int) (h : nslices_IndexFunc_int_int__c1_100 k a0 = some r) : VC Go.Proofs.Try.prog 129 [VV.tr (List.map vi a0) a0.length, VV.fn 100 []] (vi r) := by
 unfold nslices_IndexFunc_int_int__c1_100 at h
 obtain ⟨r979, h978, h⟩ := bs h
 have hph978 := nslices_IndexFunc_int_int__c1_100_l0_0_ok k a0 _ _ _ h978
 cases r979 with
 | inl r980 =>
  dsimp only at h
  have e982 := (an (ti trivial) (VRun.loop hph978))
  injection h with h; subst h
  exact fun_ok pm pn Go.Proofs.Try.func129 (r0 := vi r980) (ans := [.reg (.n :: []), .reg (nN 3 []), .sub ⟨[(0, none), (1, none), (7, none), (8, none)], [], []⟩ .ret (nslices_IndexFunc_int_int__c1_100_l0_0_e0 a0 r980)]) (fr := true) (by kernel_rfl) (an (an (ti trivial) (an (ti (ti (ti trivial))) e982)) (ti trivial)) (Wv.refl _)
 | inr r981 =>
  dsimp only at h
  have e983 := (an (ti trivial) (VRun.loop hph978))
  injection h with h; subst h
  exact fun_ok pm pn Go.Proofs.Try.func129 (r0 := vi (-1)) (ans := [.reg (.n :: []), .reg (nN 3 []), .sub ⟨[(0, none), (1, none), (7, none), (8, none)], [], []⟩ (.exit 0) (nslices_IndexFunc_int_int__c1_100_l0_0_e1 a0 r981), .reg (.n :: [])]) (fr := true) (by kernel_rfl) (an (an (ti trivial) (an (an (ti (ti (ti trivial))) e983) (an (ti trivial) trivial))) (ti trivial)) (Wv.refl _)
def nslices_ContainsFunc_int_int__c1_100 (k : Nat) (a0 : (List Int)) : Option Bool :=
  (nslices_IndexFunc_int_int__c1_100 k a0).bind fun r987 => (some (decide (0 ≤ r987)))
theorem nslices_ContainsFunc_int_int__c1_100_ok (k : Nat) (a0 : (List Int)) (r : Bool) (h : nslices_ContainsFunc_int_int__c1_100 k a0 = some r) : VC Go.Proofs.Try.prog 99 [VV.tr (List.map vi a0) a0.length, VV.fn 100 []] (vb r) := by
 unfold nslices_ContainsFunc_int_int__c1_100 at h
 obtain ⟨r987, h988, h⟩ := bs h
 have e989 := (nslices_IndexFunc_int_int__c1_100_ok k a0 _ h988)
 injection h with h; subst h
 exact fun_ok pm pn Go.Proofs.Try.func99 (r0 := vb (decide (0 ≤ r987))) (ans := [.reg (.n :: []), .reg (.n :: .n :: .call (vi r987) :: .n :: .n :: [])]) (fr := true) (by kernel_rfl) (an (an (ti trivial) (an (ti (ti (an e989 (ti (ti trivial))))) trivial)) (ti trivial)) (Wv.refl _)
theorem eqBA_7 (z0 : (List Int)) : [VV.tr (List.map vi z0) z0.length, VV.fn 100 []] = [VV.tr (List.drop 0 (List.map unfr (List.map vi z0))) z0.length, VV.fn 100 []] := by first | rfl | simp only [drop0, unfr_vi, List.map_cons, List.map_nil, un_i, un_tr, List.length_map, List.length_cons, List.length_nil]
def npoint_CheckFit_l1_0_h (a0 : (List SSkyStar)) (a1 : SSkyModel) (x36 : Int) (r1073 : Int) (y1z : List Int) (x54 : Int) : VS := ⟨mkA [(3, VV.pt 0 0), (8, VV.rf 1 0 y1z.length), (11, vi (w64 ((w64 (((a0.getD x36.toNat default).Error) * a1.Den)) - r1073))), (34, VV.tr (List.flatMap c_SSkyStar a0) a0.length), (35, vi (a0.length : Int)), (36, vi x36), (52, VV.tr (List.map vi ((a0.getD x36.toNat default).Shapes)) (((a0.getD x36.toNat default).Shapes).length)), (53, vi (((a0.getD x36.toNat default).Shapes).length : Int)), (54, vi x54)], [some ⟨true, 1, c_SSkyModel a1⟩, some ⟨false, 1, List.map vi y1z⟩], .nil⟩
def npoint_CheckFit_l1_0_e0 (a0 : (List SSkyStar)) (a1 : SSkyModel) (x36 : Int) (r1073 : Int) (r : (List Int)) : VS := ⟨mkA [(3, VV.pt 0 0), (8, VV.rf 1 0 r.length), (34, VV.tr (List.flatMap c_SSkyStar a0) a0.length), (35, vi (a0.length : Int)), (36, vi x36)], [some ⟨true, 1, c_SSkyModel a1⟩, some ⟨false, 1, List.map vi r⟩], .nil⟩
def npoint_CheckFit_l1_0 (k : Nat) (a0 : (List SSkyStar)) (a1 : SSkyModel) (x36 : Int) (r1073 : Int) : Nat → (List Int) → Int → Option ((List Int))
  | 0, _, _ => none
  | fuel + 1, y1z, x54 => if x54 < (((a0.getD x36.toNat default).Shapes).length : Int) then (if 0 ≤ x54 ∧ x54 < (((a0.getD x36.toNat default).Shapes).length : Int) then (if 0 ≤ x54 ∧ x54 < (y1z.length : Int) then (npoint_CheckFit_l1_0 k a0 a1 x36 r1073 fuel (y1z.set x54.toNat (w64 ((y1z.getD x54.toNat 0) + (w64 ((((a0.getD x36.toNat default).Shapes).getD x54.toNat 0) * (w64 ((w64 (((a0.getD x36.toNat default).Error) * a1.Den)) - r1073))))))) (w64 (x54 + 1))) else none) else none) else (some y1z)
theorem npoint_CheckFit_l1_0_ok (k : Nat) (a0 : (List SSkyStar)) (a1 : SSkyModel) (x36 : Int) (r1073 : Int) : ∀ (fuel : Nat) (y1z : List Int) (x54 : Int) (r : (List Int)), npoint_CheckFit_l1_0 k a0 a1 x36 r1073 fuel y1z x54 = some r → (VLoop none Go.Proofs.Try.prog (szF Go.Proofs.Try.f35) (bodyOf Go.Proofs.Try.f35 1) (npoint_CheckFit_l1_0_h a0 a1 x36 r1073 y1z x54) (.exit 2) (npoint_CheckFit_l1_0_e0 a0 a1 x36 r1073 r)) := by
 intro fuel
 induction fuel with
 | zero => intro y1z x54 r h; rw [npoint_CheckFit_l1_0.eq_1] at h; cases h
 | succ fuel ih =>
  intro y1z x54 r h
  rw [npoint_CheckFit_l1_0.eq_2] at h
  rcases ifs h with ⟨h1091, h⟩ | ⟨h1091, h⟩
  ·obtain ⟨h1092, h⟩ := ifn h
   have e1093 := (show loadL Go.Proofs.Try.prog 3 (x54.toNat * 1) (List.map vi ((a0.getD x36.toNat default).Shapes)) = some (vi (((a0.getD x36.toNat default).Shapes).getD x54.toNat 0)) from ld_map ag3 vi ((a0.getD x36.toNat default).Shapes) 0 h1092 (by omega))
   obtain ⟨h1094, h⟩ := ifn h
   have e1095 := (show loadL Go.Proofs.Try.prog 3 (0 + x54.toNat * 1) (List.map vi y1z) = some (vi (y1z.getD x54.toNat 0)) from ld_map ag3 vi y1z 0 h1094 (by omega))
   have e1096 := (show (0 + x54.toNat * 1) + 1 ≤ List.length (List.map vi y1z) from (by simp only [List.length_map]; omega))
   have e1097 := (ti (ti (an h1094 (an e1095 (ti (ti (ti (ti (an h1094 (an e1096 trivial))))))))))
   have h2 := ih _ _ _ h
   obtain ⟨q, hv, hq⟩ := pkR (rd := none) (P := Go.Proofs.Try.prog) (fn := Go.Proofs.Try.f35) (k := 1) (s := (npoint_CheckFit_l1_0_h a0 a1 x36 r1073 y1z x54)) (ans := [.reg (.n :: []), .br true, .reg (arBA_5 a0 x36 x54), .reg (nN 3 (.v (vi (y1z.getD x54.toNat 0)) :: nN 6 [])), .reg (.n :: .n :: [])]) (c := ⟨[(3, none), (8, some (VV.rf 1 0 ((y1z.set x54.toNat (w64 ((y1z.getD x54.toNat 0) + (w64 ((((a0.getD x36.toNat default).Shapes).getD x54.toNat 0) * (w64 ((w64 (((a0.getD x36.toNat default).Error) * a1.Den)) - r1073))))))).length))), (11, none), (34, none), (35, none), (36, none), (52, none), (53, none), (54, none)], [none, some (List.map vi (y1z.set x54.toNat (w64 ((y1z.getD x54.toNat 0) + (w64 ((((a0.getD x36.toNat default).Shapes).getD x54.toNat 0) * (w64 ((w64 (((a0.getD x36.toNat default).Error) * a1.Den)) - r1073))))))))], []⟩) (e := .normal) (s1 := (npoint_CheckFit_l1_0_h a0 a1 x36 r1073 (y1z.set x54.toNat (w64 ((y1z.getD x54.toNat 0) + (w64 ((((a0.getD x36.toNat default).Shapes).getD x54.toNat 0) * (w64 ((w64 (((a0.getD x36.toNat default).Error) * a1.Den)) - r1073))))))) (w64 (x54 + 1)))) (an (an (ti trivial) (an (an (decide_eq_true h1091) trivial) (an (an (ti (an h1092 (an e1093 (ti (ti trivial))))) e1097) (ti (ti trivial))))) (an (an (show Wv (VV.rf 1 0 y1z.length) (VV.rf 1 0 ((y1z.set x54.toNat (w64 ((y1z.getD x54.toNat 0) + (w64 ((((a0.getD x36.toNat default).Shapes).getD x54.toNat 0) * (w64 ((w64 (((a0.getD x36.toNat default).Error) * a1.Den)) - r1073))))))).length)) from (Wv.of_eq (by simp))) trivial) (an (show putT (0 + x54.toNat * 1) (List.map vi y1z) [vi (w64 ((y1z.getD x54.toNat 0) + (w64 ((((a0.getD x36.toNat default).Shapes).getD x54.toNat 0) * (w64 ((w64 (((a0.getD x36.toNat default).Error) * a1.Den)) - r1073))))))] = List.map vi (y1z.set x54.toNat (w64 ((y1z.getD x54.toNat 0) + (w64 ((((a0.getD x36.toNat default).Shapes).getD x54.toNat 0) * (w64 ((w64 (((a0.getD x36.toNat default).Error) * a1.Den)) - r1073))))))) from (by exact putT_vi y1z h1094 (w64 ((y1z.getD x54.toNat 0) + (w64 ((((a0.getD x36.toNat default).Shapes).getD x54.toNat 0) * (w64 ((w64 (((a0.getD x36.toNat default).Error) * a1.Den)) - r1073)))))) (by omega))) trivial))) (by kernel_rfl)
   exact round_next pm pn hv hq h2
  ·injection h with h; subst h
   exact round_stop (c := ⟨[(3, none), (8, none), (34, none), (35, none), (36, none)], [none, none], []⟩) (s1 := (npoint_CheckFit_l1_0_e0 a0 a1 x36 r1073 y1z)) pm pn (ans := [.reg (.n :: []), .br false]) (by kernel_rfl) (by intro e; cases e) (an (an (ti trivial) (an (decide_eq_false h1091) trivial)) (ti trivial))
def npoint_CheckFit_l0_0_h (a0 : (List SSkyStar)) (a1 : SSkyModel) (y1 : List Int) (x36 : Int) : VS := ⟨mkA [(3, VV.pt 0 0), (8, VV.rf 1 0 y1.length), (34, VV.tr (List.flatMap c_SSkyStar a0) a0.length), (35, vi (a0.length : Int)), (36, vi x36)], [some ⟨true, 1, c_SSkyModel a1⟩, some ⟨false, 1, List.map vi y1⟩], .nil⟩
def npoint_CheckFit_l0_0_e0 (a0 : (List SSkyStar)) (a1 : SSkyModel) (r : (List Int)) : VS := ⟨mkA [(8, VV.rf 1 0 r.length)], [some ⟨true, 1, c_SSkyModel a1⟩, some ⟨false, 1, List.map vi r⟩], .nil⟩
def npoint_CheckFit_l0_0 (k : Nat) (a0 : (List SSkyStar)) (a1 : SSkyModel) : Nat → (List Int) → Int → Option ((List Int))
  | 0, _, _ => none
  | fuel + 1, y1, x36 => if x36 < (a0.length : Int) then (if 0 ≤ x36 ∧ x36 < (a0.length : Int) then ((npoint_product k a1.Terms ((a0.getD x36.toNat default).Shapes)).bind fun r1073 => ((npoint_CheckFit_l1_0 k a0 a1 x36 r1073 k y1 0).bind fun r1099 => (npoint_CheckFit_l0_0 k a0 a1 fuel r1099 (w64 (x36 + 1))))) else none) else (some y1)
theorem npoint_CheckFit_l0_0_ok (k : Nat) (a0 : (List SSkyStar)) (a1 : SSkyModel) : ∀ (fuel : Nat) (y1 : List Int) (x36 : Int) (r : (List Int)), npoint_CheckFit_l0_0 k a0 a1 fuel y1 x36 = some r → (VLoop none Go.Proofs.Try.prog (szF Go.Proofs.Try.f35) (bodyOf Go.Proofs.Try.f35 0) (npoint_CheckFit_l0_0_h a0 a1 y1 x36) (.exit 0) (npoint_CheckFit_l0_0_e0 a0 a1 r)) := by
 intro fuel
 induction fuel with
 | zero => intro y1 x36 r h; rw [npoint_CheckFit_l0_0.eq_1] at h; cases h
 | succ fuel ih =>
  intro y1 x36 r h
  rw [npoint_CheckFit_l0_0.eq_2] at h
  rcases ifs h with ⟨h1070, h⟩ | ⟨h1070, h⟩
  ·obtain ⟨h1071, h⟩ := ifn h
   have e1072 := (show loadL Go.Proofs.Try.prog 65 (x36.toNat * 2) (List.flatMap c_SSkyStar a0) = some (VV.ag (c_SSkyStar (a0.getD x36.toNat default))) from ld_whole ag65 c_SSkyStar 2 sz65 len_c_SSkyStar a0 default h1071 (by omega))
   obtain ⟨r1073, h1074, h⟩ := bs h
   have e1075 := (npoint_product_ok k a1.Terms ((a0.getD x36.toNat default).Shapes) _ h1074)
   have e1076 := (ti (ti (ti (ti (ti (ti (ti (ti (ti (an e1075 (ti (ti trivial))))))))))))
   obtain ⟨r1099, h1098, h⟩ := bs h
   have hph1098 := npoint_CheckFit_l1_0_ok k a0 a1 x36 r1073 _ _ _ _ h1098
   have e1100 := (an (ti trivial) (VRun.loop hph1098))
   have h2 := ih _ _ _ h
   obtain ⟨q, hv, hq⟩ := pkR (rd := none) (P := Go.Proofs.Try.prog) (fn := Go.Proofs.Try.f35) (k := 0) (s := (npoint_CheckFit_l0_0_h a0 a1 y1 x36)) (ans := [.reg (.n :: []), .br true, .reg (.n :: .v (VV.ag (c_SSkyStar (a0.getD x36.toNat default))) :: .n :: .n :: []), .reg (nN 9 (.call (vi r1073) :: .n :: .n :: [])), .reg (nN 4 []), .sub ⟨[(3, none), (8, none), (11, none), (34, none), (35, none), (36, none), (52, none), (53, none), (54, none)], [none, none], []⟩ (.exit 2) (npoint_CheckFit_l1_0_e0 a0 a1 x36 r1073 r1099), .reg (.n :: .n :: [])]) (c := ⟨[(3, none), (8, none), (34, none), (35, none), (36, none)], [none, none], []⟩) (e := .normal) (s1 := (npoint_CheckFit_l0_0_h a0 a1 r1099 (w64 (x36 + 1)))) (an (an (ti trivial) (an (an (decide_eq_true h1070) trivial) (an (an (an h1071 (an e1072 (ti (ti trivial)))) (an e1076 (an (ti (ti (ti (ti trivial)))) e1100))) (ti (ti trivial))))) (ti trivial)) (by kernel_rfl)
   exact round_next pm pn hv hq h2
  ·injection h with h; subst h
   exact round_stop (c := ⟨[(8, none)], [none, none], []⟩) (s1 := (npoint_CheckFit_l0_0_e0 a0 a1 y1)) pm pn (ans := [.reg (.n :: []), .br false]) (by kernel_rfl) (by intro e; cases e) (an (an (ti trivial) (an (decide_eq_false h1070) trivial)) (ti trivial))
def npoint_CheckFit (k : Nat) (a0 : (List SSkyStar)) (a1 : SSkyModel) : Option Int :=
  (npoint_CheckStars k a0).bind fun r994 => (if r994.2 = 0 then ((npoint_CheckModel k a1).bind fun r998 => (if r998 = 0 then (if (a1.Terms.length : Int) = r994.1 then (if 0 ≤ r994.1 ∧ r994.1 ≤ 1000000000 then ((npoint_CheckFit_l0_0 k a0 a1 k (List.replicate r994.1.toNat (0 : Int)) 0).bind fun r1102 => ((nslices_ContainsFunc_int_int__c1_100 k r1102).bind fun r1104 => (if r1104 = true then (some 22) else (some 0)))) else none) else (some 10)) else (some r998))) else (some r994.2))
theorem npoint_CheckFit_ok (k : Nat) (a0 : (List SSkyStar)) (a1 : SSkyModel) (r : Int) (h : npoint_CheckFit k a0 a1 = some r) : VC Go.Proofs.Try.prog 35 [VV.tr (List.flatMap c_SSkyStar a0) a0.length, VV.ag (c_SSkyModel a1)] (vi r) := by
 unfold npoint_CheckFit at h
 obtain ⟨r994, h995, h⟩ := bs h
 have e996 := (ti (an (npoint_CheckStars_ok k a0 _ h995) (ti (ti (ti (ti (ti trivial)))))))
 rcases ifs h with ⟨h997, h⟩ | ⟨h997, h⟩
 ·obtain ⟨r998, h999, h⟩ := bs h
  have e1000 := (ti (an (npoint_CheckModel_ok k a1 _ h999) (ti trivial)))
  rcases ifs h with ⟨h1001, h⟩ | ⟨h1001, h⟩
  ·rcases ifs h with ⟨h1002, h⟩ | ⟨h1002, h⟩
   ·obtain ⟨h1003, h⟩ := ifn h
    have e1004 := (show 0 ≤ r994.1 ∧ r994.1 = r994.1 ∧ (8 * r994.1.toNat) ≤ 281474976710656 ∧ r994.1 < 1099511627776 from ⟨by omega, rfl, by omega, by omega⟩)
    obtain ⟨r1102, h1101, h⟩ := bs h
    have hph1101 := npoint_CheckFit_l0_0_ok k a0 a1 _ _ _ _ h1101
    have e1103 := (an (an (an (show Wv (VV.rf 1 0 r994.1.toNat) (VV.rf 1 0 ((List.replicate r994.1.toNat (0 : Int)).length)) from (Wv.of_eq (by simp))) trivial) (an (show List.replicate r994.1.toNat (VV.c (.int .i64 0)) = List.map vi (List.replicate r994.1.toNat (0 : Int)) from replicate_vi _) trivial)) (VRun.loop hph1101))
    obtain ⟨r1104, h1105, h⟩ := bs h
    have e1106 := (VC.args (nslices_ContainsFunc_int_int__c1_100_ok k r1102 _ h1105) (eqBA_7 r1102))
    rcases ifs h with ⟨h1107, h⟩ | ⟨h1107, h⟩
    ·injection h with h; subst h
     exact fun_ok pm pn Go.Proofs.Try.func35 (r0 := vi 22) (ans := [.reg (.n :: .n :: []), .reg (.n :: .call (VV.tu [vi r994.1, vi r994.2]) :: nN 5 []), .reg (.n :: .n :: []), .br false, .reg (.n :: .call (vi r998) :: .n :: []), .reg (.n :: .n :: []), .br false, .reg (nN 5 []), .br false, .reg (nN 3 []), .reg (nN 3 []), .sub ⟨[(3, none), (8, some (VV.rf 1 0 ((List.replicate r994.1.toNat (0 : Int)).length))), (34, none), (35, none), (36, none)], [none, some (List.map vi (List.replicate r994.1.toNat (0 : Int)))], []⟩ (.exit 0) (npoint_CheckFit_l0_0_e0 a0 a1 r1102), .reg (.n :: .call (vb r1104) :: []), .br true, .reg (.n :: [])]) (fr := true) (by kernel_rfl) (an (an (ti (ti trivial)) (an e996 (an (an (ti (ti trivial)) (an (not_f (decide_eq_true h997)) trivial)) (an (an e1000 (an (ti (ti trivial)) (an (not_f (decide_eq_true h1001)) trivial))) (an (an (ti (ti (ti (ti (ti trivial))))) (an (not_f (decide_eq_true h1002)) trivial)) (an (ti (an e1004 (ti trivial))) (an (an (ti (ti (ti trivial))) e1103) (an (ti (an e1106 trivial)) (an h1107 (an (ti trivial) trivial)))))))))) (ti trivial)) (Wv.refl _)
    ·injection h with h; subst h
     exact fun_ok pm pn Go.Proofs.Try.func35 (r0 := vi 0) (ans := [.reg (.n :: .n :: []), .reg (.n :: .call (VV.tu [vi r994.1, vi r994.2]) :: nN 5 []), .reg (.n :: .n :: []), .br false, .reg (.n :: .call (vi r998) :: .n :: []), .reg (.n :: .n :: []), .br false, .reg (nN 5 []), .br false, .reg (nN 3 []), .reg (nN 3 []), .sub ⟨[(3, none), (8, some (VV.rf 1 0 ((List.replicate r994.1.toNat (0 : Int)).length))), (34, none), (35, none), (36, none)], [none, some (List.map vi (List.replicate r994.1.toNat (0 : Int)))], []⟩ (.exit 0) (npoint_CheckFit_l0_0_e0 a0 a1 r1102), .reg (.n :: .call (vb r1104) :: []), .br false, .reg (.n :: [])]) (fr := true) (by kernel_rfl) (an (an (ti (ti trivial)) (an e996 (an (an (ti (ti trivial)) (an (not_f (decide_eq_true h997)) trivial)) (an (an e1000 (an (ti (ti trivial)) (an (not_f (decide_eq_true h1001)) trivial))) (an (an (ti (ti (ti (ti (ti trivial))))) (an (not_f (decide_eq_true h1002)) trivial)) (an (ti (an e1004 (ti trivial))) (an (an (ti (ti (ti trivial))) e1103) (an (an (ti (an e1106 trivial)) (an (bool_f h1107) trivial)) (an (ti trivial) trivial))))))))) (ti trivial)) (Wv.refl _)
   ·injection h with h; subst h
    exact fun_ok pm pn Go.Proofs.Try.func35 (r0 := vi 10) (ans := [.reg (.n :: .n :: []), .reg (.n :: .call (VV.tu [vi r994.1, vi r994.2]) :: nN 5 []), .reg (.n :: .n :: []), .br false, .reg (.n :: .call (vi r998) :: .n :: []), .reg (.n :: .n :: []), .br false, .reg (nN 5 []), .br true, .reg (.n :: [])]) (fr := true) (by kernel_rfl) (an (an (ti (ti trivial)) (an e996 (an (an (ti (ti trivial)) (an (not_f (decide_eq_true h997)) trivial)) (an (an e1000 (an (ti (ti trivial)) (an (not_f (decide_eq_true h1001)) trivial))) (an (ti (ti (ti (ti (ti trivial))))) (an (not_t (decide_eq_false h1002)) (an (ti trivial) trivial))))))) (ti trivial)) (Wv.refl _)
  ·injection h with h; subst h
   exact fun_ok pm pn Go.Proofs.Try.func35 (r0 := vi r998) (ans := [.reg (.n :: .n :: []), .reg (.n :: .call (VV.tu [vi r994.1, vi r994.2]) :: nN 5 []), .reg (.n :: .n :: []), .br false, .reg (.n :: .call (vi r998) :: .n :: []), .reg (.n :: .n :: []), .br true, .reg (.n :: .n :: [])]) (fr := true) (by kernel_rfl) (an (an (ti (ti trivial)) (an e996 (an (an (ti (ti trivial)) (an (not_f (decide_eq_true h997)) trivial)) (an e1000 (an (ti (ti trivial)) (an (not_t (decide_eq_false h1001)) (an (ti (ti trivial)) trivial))))))) (ti trivial)) (Wv.refl _)
 ·injection h with h; subst h
  exact fun_ok pm pn Go.Proofs.Try.func35 (r0 := vi r994.2) (ans := [.reg (.n :: .n :: []), .reg (.n :: .call (VV.tu [vi r994.1, vi r994.2]) :: nN 5 []), .reg (.n :: .n :: []), .br true, .reg (.n :: .n :: [])]) (fr := true) (by kernel_rfl) (an (an (ti (ti trivial)) (an e996 (an (ti (ti trivial)) (an (not_t (decide_eq_false h997)) (an (ti (ti trivial)) trivial))))) (ti trivial)) (Wv.refl _)
def npoint_up (k : Nat) (a0 : Int) (a1 : Int) : Option Int :=
  (npoint_down k (w64 (0 - a0)) a1).bind fun r1133 => (some (w64 (0 - r1133)))
theorem npoint_up_ok (k : Nat) (a0 : Int) (a1 : Int) (r : Int) (h : npoint_up k a0 a1 = some r) : VC Go.Proofs.Try.prog 102 [vi a0, vi a1] (vi r) := by
 unfold npoint_up at h
 obtain ⟨r1133, h1134, h⟩ := bs h
 have e1135 := (npoint_down_ok k (w64 (0 - a0)) a1 _ h1134)
 injection h with h; subst h
 exact fun_ok pm pn Go.Proofs.Try.func102 (r0 := vi (w64 (0 - r1133))) (ans := [.reg (.n :: []), .reg (nN 3 (.call (vi r1133) :: .n :: .n :: []))]) (fr := true) (by kernel_rfl) (an (an (ti trivial) (an (ti (ti (ti (an e1135 (ti (ti trivial)))))) trivial)) (ti trivial)) (Wv.refl _)
theorem eqBA_8 (z0 : Int) (z1 : Int) : VV.tu [VV.ag [vi z0, vi z1], vi 0] = VV.tu [VV.ag (c_SRange (⟨z0, z1⟩ : SRange)), vi 0] := by first | rfl | simp only [unfr_vi, List.map_cons, List.map_nil, un_i, unfr_c_SRange]
theorem eqBA_9  : VV.tu [VV.ag [vi 0, vi 0], vi 2] = VV.tu [VV.ag (c_SRange (⟨0, 0⟩ : SRange)), vi 2] := by first | rfl | simp only [unfr_vi, List.map_cons, List.map_nil, un_i, unfr_c_SRange]
theorem eqBA_10  : VV.tu [VV.ag [vi 0, vi 0], vi 10] = VV.tu [VV.ag (c_SRange (⟨0, 0⟩ : SRange)), vi 10] := by first | rfl | simp only [unfr_vi, List.map_cons, List.map_nil, un_i, unfr_c_SRange]
theorem eqBA_11 (z0 : Int) : VV.tu [VV.ag [vi 0, vi 0], vi z0] = VV.tu [VV.ag (c_SRange (⟨0, 0⟩ : SRange)), vi z0] := by first | rfl | simp only [unfr_vi, List.map_cons, List.map_nil, un_i, unfr_c_SRange]
def npoint_Predicted (k : Nat) (a0 : SSkyModel) (a1 : (List Int)) : Option (SRange × Int) :=
  (npoint_CheckModel k a0).bind fun r1139 => (if r1139 = 0 then (if (a1.length : Int) = (a0.Terms.length : Int) then ((npoint_areSmall k 1000 a1).bind fun r1144 => (if r1144 = true then ((npoint_product k a0.Terms a1).bind fun r1148 => ((npoint_down k r1148 a0.Den).bind fun r1151 => ((npoint_up k r1148 a0.Den).bind fun r1153 => (some ((⟨r1151, r1153⟩ : SRange), 0))))) else (some ((⟨0, 0⟩ : SRange), 2)))) else (some ((⟨0, 0⟩ : SRange), 10))) else (some ((⟨0, 0⟩ : SRange), r1139)))
theorem npoint_Predicted_ok (k : Nat) (a0 : SSkyModel) (a1 : (List Int)) (r : (SRange × Int)) (h : npoint_Predicted k a0 a1 = some r) : VC Go.Proofs.Try.prog 36 [VV.ag (c_SSkyModel a0), VV.tr (List.map vi a1) a1.length] (VV.tu [VV.ag (c_SRange r.1), vi r.2]) := by
 unfold npoint_Predicted at h
 obtain ⟨r1139, h1140, h⟩ := bs h
 have e1141 := (ti (an (npoint_CheckModel_ok k a0 _ h1140) (ti trivial)))
 rcases ifs h with ⟨h1142, h⟩ | ⟨h1142, h⟩
 ·rcases ifs h with ⟨h1143, h⟩ | ⟨h1143, h⟩
  ·obtain ⟨r1144, h1145, h⟩ := bs h
   have e1146 := (ti (an (npoint_areSmall_ok k 1000 a1 _ h1145) (ti trivial)))
   rcases ifs h with ⟨h1147, h⟩ | ⟨h1147, h⟩
   ·obtain ⟨r1148, h1149, h⟩ := bs h
    have e1150 := (npoint_product_ok k a0.Terms a1 _ h1149)
    obtain ⟨r1151, h1152, h⟩ := bs h
    obtain ⟨r1153, h1154, h⟩ := bs h
    have e1155 := (ti (ti (ti (an (npoint_down_ok k r1148 a0.Den _ h1152) (ti (ti (ti (an (npoint_up_ok k r1148 a0.Den _ h1154) (ti (ti (ti trivial)))))))))))
    injection h with h; subst h
    exact fun_ok pm pn Go.Proofs.Try.func36 (r0 := VV.tu [VV.ag [vi r1151, vi r1153], vi 0]) (ans := [.reg (nN 3 []), .reg (.n :: .call (vi r1139) :: .n :: []), .reg (.n :: .n :: []), .br false, .reg (nN 6 []), .br false, .reg (.n :: .call (vb r1144) :: .n :: []), .br false, .reg (nN 3 (.call (vi r1148) :: .n :: [])), .reg (nN 3 (.call (vi r1151) :: nN 3 (.call (vi r1153) :: nN 3 [])))]) (fr := true) (by kernel_rfl) (an (an (ti (ti (ti trivial))) (an (an e1141 (an (ti (ti trivial)) (an (not_f (decide_eq_true h1142)) trivial))) (an (an (ti (ti (ti (ti (ti (ti trivial)))))) (an (not_f (decide_eq_true h1143)) trivial)) (an (an e1146 (an (not_f h1147) trivial)) (an (ti (ti (ti (an e1150 (ti trivial))))) (an e1155 trivial)))))) (an (ti (ti (ti trivial))) (ti trivial))) (Wv.of_eq (eqBA_8 r1151 r1153))
   ·injection h with h; subst h
    exact fun_ok pm pn Go.Proofs.Try.func36 (r0 := VV.tu [VV.ag [vi 0, vi 0], vi 2]) (ans := [.reg (nN 3 []), .reg (.n :: .call (vi r1139) :: .n :: []), .reg (.n :: .n :: []), .br false, .reg (nN 6 []), .br false, .reg (.n :: .call (vb r1144) :: .n :: []), .br true, .reg (nN 3 [])]) (fr := true) (by kernel_rfl) (an (an (ti (ti (ti trivial))) (an (an e1141 (an (ti (ti trivial)) (an (not_f (decide_eq_true h1142)) trivial))) (an (an (ti (ti (ti (ti (ti (ti trivial)))))) (an (not_f (decide_eq_true h1143)) trivial)) (an e1146 (an (not_t (bool_f h1147)) (an (ti (ti (ti trivial))) trivial)))))) (an (ti (ti (ti trivial))) (ti trivial))) (Wv.of_eq eqBA_9)
  ·injection h with h; subst h
   exact fun_ok pm pn Go.Proofs.Try.func36 (r0 := VV.tu [VV.ag [vi 0, vi 0], vi 10]) (ans := [.reg (nN 3 []), .reg (.n :: .call (vi r1139) :: .n :: []), .reg (.n :: .n :: []), .br false, .reg (nN 6 []), .br true, .reg (nN 3 [])]) (fr := true) (by kernel_rfl) (an (an (ti (ti (ti trivial))) (an (an e1141 (an (ti (ti trivial)) (an (not_f (decide_eq_true h1142)) trivial))) (an (ti (ti (ti (ti (ti (ti trivial)))))) (an (not_t (decide_eq_false h1143)) (an (ti (ti (ti trivial))) trivial))))) (an (ti (ti (ti trivial))) (ti trivial))) (Wv.of_eq eqBA_10)
 ·injection h with h; subst h
  exact fun_ok pm pn Go.Proofs.Try.func36 (r0 := VV.tu [VV.ag [vi 0, vi 0], vi r1139]) (ans := [.reg (nN 3 []), .reg (.n :: .call (vi r1139) :: .n :: []), .reg (.n :: .n :: []), .br true, .reg (nN 4 [])]) (fr := true) (by kernel_rfl) (an (an (ti (ti (ti trivial))) (an e1141 (an (ti (ti trivial)) (an (not_t (decide_eq_false h1142)) (an (ti (ti (ti (ti trivial)))) trivial))))) (an (ti (ti (ti trivial))) (ti trivial))) (Wv.of_eq (eqBA_11 r1139))
def nspeculumbase_Abs (k : Nat) (a0 : Int) : Option Int :=
  if a0 < 0 then (some (w64 (0 - a0))) else (some a0)
theorem nspeculumbase_Abs_ok (k : Nat) (a0 : Int) (r : Int) (h : nspeculumbase_Abs k a0 = some r) : VC Go.Proofs.Try.prog 113 [vi a0] (vi r) := by
 unfold nspeculumbase_Abs at h
 rcases ifs h with ⟨h1187, h⟩ | ⟨h1187, h⟩
 ·injection h with h; subst h
  exact fun_ok pm pn Go.Proofs.Try.func113 (r0 := vi (w64 (0 - a0))) (ans := [.reg (.n :: []), .reg (.n :: .n :: []), .br true, .reg (nN 3 [])]) (fr := true) (by kernel_rfl) (an (an (ti trivial) (an (ti (ti trivial)) (an (decide_eq_true h1187) (an (ti (ti (ti trivial))) trivial)))) (ti trivial)) (Wv.refl _)
 ·injection h with h; subst h
  exact fun_ok pm pn Go.Proofs.Try.func113 (r0 := vi a0) (ans := [.reg (.n :: []), .reg (.n :: .n :: []), .br false, .reg (.n :: .n :: [])]) (fr := true) (by kernel_rfl) (an (an (ti trivial) (an (an (ti (ti trivial)) (an (decide_eq_false h1187) trivial)) (an (ti (ti trivial)) trivial))) (ti trivial)) (Wv.refl _)
def nspeculumbase_Gcd_l0_0_h  (x0 : Int) (x1 : Int) : VS := ⟨mkA [(0, vi x0), (1, vi x1)], [], .nil⟩
def nspeculumbase_Gcd_l0_0_e0  (r : Int) : VS := ⟨mkA [(0, vi r)], [], .nil⟩
def nspeculumbase_Gcd_l0_0 (k : Nat)  : Nat → Int → Int → Option (Int)
  | 0, _, _ => none
  | fuel + 1, x0, x1 => if x1 = 0 then (some x0) else (if x1 ≠ 0 then (nspeculumbase_Gcd_l0_0 k  fuel x1 (x0.tmod x1)) else none)
theorem nspeculumbase_Gcd_l0_0_ok (k : Nat)  : ∀ (fuel : Nat) (x0 : Int) (x1 : Int) (r : Int), nspeculumbase_Gcd_l0_0 k  fuel x0 x1 = some r → (VLoop none Go.Proofs.Try.prog (szF Go.Proofs.Try.f97) (bodyOf Go.Proofs.Try.f97 0) (nspeculumbase_Gcd_l0_0_h  x0 x1) (.exit 0) (nspeculumbase_Gcd_l0_0_e0  r)) := by
 intro fuel
 induction fuel with
 | zero => intro x0 x1 r h; rw [nspeculumbase_Gcd_l0_0.eq_1] at h; cases h
 | succ fuel ih =>
  intro x0 x1 r h
  rw [nspeculumbase_Gcd_l0_0.eq_2] at h
  rcases ifs h with ⟨h1195, h⟩ | ⟨h1195, h⟩
  ·injection h with h; subst h
   exact round_stop (c := ⟨[(0, none)], [], []⟩) (s1 := (nspeculumbase_Gcd_l0_0_e0  x0)) pm pn (ans := [.reg (.n :: .n :: []), .br false]) (by kernel_rfl) (by intro e; cases e) (an (an (ti (ti trivial)) (an (not_f (decide_eq_true h1195)) trivial)) (ti trivial))
  ·obtain ⟨h1196, h⟩ := ifn h
   have h2 := ih _ _ _ h
   obtain ⟨q, hv, hq⟩ := pkR (rd := none) (P := Go.Proofs.Try.prog) (fn := Go.Proofs.Try.f97) (k := 0) (s := (nspeculumbase_Gcd_l0_0_h  x0 x1)) (ans := [.reg (.n :: .n :: []), .br true, .reg (nN 6 [])]) (c := ⟨[(0, none), (1, none)], [], []⟩) (e := .normal) (s1 := (nspeculumbase_Gcd_l0_0_h  x1 (x0.tmod x1))) (an (an (an (ti (ti trivial)) (an (not_t (decide_eq_false h1195)) trivial)) (ti (ti (ti (an h1196 (ti (ti trivial))))))) (ti trivial)) (by kernel_rfl)
   exact round_next pm pn hv hq h2
def nspeculumbase_Gcd (k : Nat) (a0 : Int) (a1 : Int) : Option Int :=
  (nspeculumbase_Gcd_l0_0 k k a0 a1).bind fun r1198 => ((nspeculumbase_Abs k r1198).bind fun r1200 => (some r1200))
theorem nspeculumbase_Gcd_ok (k : Nat) (a0 : Int) (a1 : Int) (r : Int) (h : nspeculumbase_Gcd k a0 a1 = some r) : VC Go.Proofs.Try.prog 97 [vi a0, vi a1] (vi r) := by
 unfold nspeculumbase_Gcd at h
 obtain ⟨r1198, h1197, h⟩ := bs h
 have hph1197 := nspeculumbase_Gcd_l0_0_ok k  _ _ _ _ h1197
 have e1199 := (an (ti trivial) (VRun.loop hph1197))
 obtain ⟨r1200, h1201, h⟩ := bs h
 have e1202 := (ti (an (nspeculumbase_Abs_ok k r1198 _ h1201) (ti trivial)))
 injection h with h; subst h
 exact fun_ok pm pn Go.Proofs.Try.func97 (r0 := vi r1200) (ans := [.reg (.n :: []), .sub ⟨[(0, none), (1, none)], [], []⟩ (.exit 0) (nspeculumbase_Gcd_l0_0_e0  r1198), .reg (.n :: .call (vi r1200) :: .n :: [])]) (fr := true) (by kernel_rfl) (an (an (ti trivial) (an e1199 (an e1202 trivial))) (ti trivial)) (Wv.refl _)
def nspeculumref09_CheckModel_l0_0_h (a0 : SSkyModel) (x3 : Int) (x4 : Int) : VS := ⟨mkA [(1, VV.pt 0 0), (3, vi x3), (4, vi x4)], [some ⟨true, 1, c_SSkyModel a0⟩], .nil⟩
def nspeculumref09_CheckModel_l0_0_e0 (a0 : SSkyModel) (r : Unit) : VS := ⟨mkA [(2, vi 2)], [], .nil⟩
def nspeculumref09_CheckModel_l0_0_e1 (a0 : SSkyModel) (r : Int) : VS := ⟨mkA [(3, vi r)], [], .nil⟩
def nspeculumref09_CheckModel_l0_0 (k : Nat) (a0 : SSkyModel) : Nat → Int → Int → Option (Sum Unit Int)
  | 0, _, _ => none
  | fuel + 1, x3, x4 => if x4 < (a0.Terms.length : Int) then (if 0 ≤ x4 ∧ x4 < (a0.Terms.length : Int) then ((nspeculumbase_Within k (a0.Terms.getD x4.toNat 0) (-1000000000000) 1000000000000).bind fun r1277 => (if r1277 = true then ((nspeculumbase_Gcd k (a0.Terms.getD x4.toNat 0) x3).bind fun r1283 => (nspeculumref09_CheckModel_l0_0 k a0 fuel r1283 (w64 (x4 + 1)))) else (some (.inl ())))) else none) else (some (.inr x3))
theorem nspeculumref09_CheckModel_l0_0_ok (k : Nat) (a0 : SSkyModel) : ∀ (fuel : Nat) (x3 : Int) (x4 : Int) (r : Sum Unit Int), nspeculumref09_CheckModel_l0_0 k a0 fuel x3 x4 = some r → (match r with | .inl r => VLoop none Go.Proofs.Try.prog (szF Go.Proofs.Try.f38) (bodyOf Go.Proofs.Try.f38 0) (nspeculumref09_CheckModel_l0_0_h a0 x3 x4) .ret (nspeculumref09_CheckModel_l0_0_e0 a0 r) | .inr r => VLoop none Go.Proofs.Try.prog (szF Go.Proofs.Try.f38) (bodyOf Go.Proofs.Try.f38 0) (nspeculumref09_CheckModel_l0_0_h a0 x3 x4) (.exit 0) (nspeculumref09_CheckModel_l0_0_e1 a0 r)) := by
 intro fuel
 induction fuel with
 | zero => intro x3 x4 r h; rw [nspeculumref09_CheckModel_l0_0.eq_1] at h; cases h
 | succ fuel ih =>
  intro x3 x4 r h
  rw [nspeculumref09_CheckModel_l0_0.eq_2] at h
  rcases ifs h with ⟨h1274, h⟩ | ⟨h1274, h⟩
  ·obtain ⟨h1275, h⟩ := ifn h
   have e1276 := (show loadL Go.Proofs.Try.prog 3 (x4.toNat * 1) (List.map vi a0.Terms) = some (vi (a0.Terms.getD x4.toNat 0)) from ld_map ag3 vi a0.Terms 0 h1275 (by omega))
   obtain ⟨r1277, h1278, h⟩ := bs h
   have e1279 := (nspeculumbase_Within_ok k (a0.Terms.getD x4.toNat 0) (-1000000000000) 1000000000000 _ h1278)
   have e1280 := (ti (ti (ti (an h1275 (an e1276 (an e1279 (ti trivial)))))))
   rcases ifs h with ⟨h1281, h⟩ | ⟨h1281, h⟩
   ·have e1282 := (show loadL Go.Proofs.Try.prog 3 (x4.toNat * 1) (List.map vi a0.Terms) = some (vi (a0.Terms.getD x4.toNat 0)) from ld_map ag3 vi a0.Terms 0 h1275 (by omega))
    obtain ⟨r1283, h1284, h⟩ := bs h
    have e1285 := (nspeculumbase_Gcd_ok k (a0.Terms.getD x4.toNat 0) x3 _ h1284)
    have e1286 := (ti (ti (ti (an h1275 (an e1282 (ti (an e1285 (ti trivial))))))))
    have h2 := ih _ _ _ h
    obtain ⟨q, hv, hq⟩ := pkR (rd := none) (P := Go.Proofs.Try.prog) (fn := Go.Proofs.Try.f38) (k := 0) (s := (nspeculumref09_CheckModel_l0_0_h a0 x3 x4)) (ans := [.reg (nN 5 []), .br true, .reg (nN 4 (.v (vi (a0.Terms.getD x4.toNat 0)) :: .call (vb r1277) :: .n :: [])), .br false, .reg (nN 4 (.v (vi (a0.Terms.getD x4.toNat 0)) :: .n :: .call (vi r1283) :: .n :: [])), .reg (nN 3 [])]) (c := ⟨[(1, none), (3, none), (4, none)], [none], []⟩) (e := .normal) (s1 := (nspeculumref09_CheckModel_l0_0_h a0 r1283 (w64 (x4 + 1)))) (an (an (an (ti (ti (ti (ti (ti trivial))))) (an (decide_eq_true h1274) trivial)) (an (an (an e1280 (an (not_f h1281) trivial)) e1286) (ti (ti (ti trivial))))) (ti trivial)) (by kernel_rfl)
    cases r with
    | inl r => exact round_next pm pn hv hq h2
    | inr r =>
     exact round_next pm pn hv hq h2
   ·injection h with h; subst h
    exact round_stop (c := ⟨[(2, none)], [], []⟩) (s1 := (nspeculumref09_CheckModel_l0_0_e0 a0 ())) pm pn (ans := [.reg (nN 5 []), .br true, .reg (nN 4 (.v (vi (a0.Terms.getD x4.toNat 0)) :: .call (vb r1277) :: .n :: [])), .br true, .reg (.n :: [])]) (by kernel_rfl) (by intro e; cases e) (an (an (an (ti (ti (ti (ti (ti trivial))))) (an (decide_eq_true h1274) trivial)) (an e1280 (an (not_t (bool_f h1281)) (an (ti trivial) trivial)))) (ti trivial))
  ·injection h with h; subst h
   exact round_stop (c := ⟨[(3, none)], [], []⟩) (s1 := (nspeculumref09_CheckModel_l0_0_e1 a0 x3)) pm pn (ans := [.reg (nN 5 []), .br false]) (by kernel_rfl) (by intro e; cases e) (an (an (ti (ti (ti (ti (ti trivial))))) (an (decide_eq_false h1274) trivial)) (ti trivial))
def nspeculumref09_CheckModel (k : Nat) (a0 : SSkyModel) : Option Int :=
  (nspeculumbase_Within k (a0.Terms.length : Int) 1 3).bind fun r1240 => (if r1240 = true then ((nspeculumbase_Within k a0.Den 1 1000000000000).bind fun r1244 => (if r1244 = true then ((nspeculumref09_CheckModel_l0_0 k a0 k a0.Den 0).bind fun r1288 => (match r1288 with | .inl r1289 => (some 2) | .inr r1290 => (if r1290 = 1 then (some 0) else (some 3)))) else (some 2))) else (some 10))
theorem nspeculumref09_CheckModel_ok (k : Nat) (a0 : SSkyModel) (r : Int) (h : nspeculumref09_CheckModel k a0 = some r) : VC Go.Proofs.Try.prog 38 [VV.ag (c_SSkyModel a0)] (vi r) := by
 unfold nspeculumref09_CheckModel at h
 obtain ⟨r1240, h1241, h⟩ := bs h
 have e1242 := (nspeculumbase_Within_ok k (a0.Terms.length : Int) 1 3 _ h1241)
 rcases ifs h with ⟨h1243, h⟩ | ⟨h1243, h⟩
 ·obtain ⟨r1244, h1245, h⟩ := bs h
  have e1246 := (nspeculumbase_Within_ok k a0.Den 1 1000000000000 _ h1245)
  rcases ifs h with ⟨h1247, h⟩ | ⟨h1247, h⟩
  ·obtain ⟨r1288, h1287, h⟩ := bs h
   have hph1287 := nspeculumref09_CheckModel_l0_0_ok k a0 _ _ _ _ h1287
   cases r1288 with
   | inl r1289 =>
    dsimp only at h
    have e1291 := (an (ti trivial) (VRun.loop hph1287))
    injection h with h; subst h
    exact fun_ok pm pn Go.Proofs.Try.func38 (r0 := vi 2) (ans := [.reg (.n :: .n :: []), .reg (nN 3 (.call (vb r1240) :: .n :: [])), .br false, .reg (.n :: .n :: .call (vb r1244) :: .n :: []), .br false, .reg (nN 3 []), .reg (.n :: []), .sub ⟨[(1, none), (3, none), (4, none)], [none], []⟩ .ret (nspeculumref09_CheckModel_l0_0_e0 a0 r1289)]) (fr := true) (by kernel_rfl) (an (an (ti (ti trivial)) (an (an (ti (ti (ti (an e1242 (ti trivial))))) (an (not_f h1243) trivial)) (an (an (ti (ti (an e1246 (ti trivial)))) (an (not_f h1247) trivial)) (an (ti (ti (ti trivial))) (an (ti trivial) e1291))))) (ti trivial)) (Wv.refl _)
   | inr r1290 =>
    dsimp only at h
    have e1292 := (an (ti trivial) (VRun.loop hph1287))
    rcases ifs h with ⟨h1293, h⟩ | ⟨h1293, h⟩
    ·injection h with h; subst h
     exact fun_ok pm pn Go.Proofs.Try.func38 (r0 := vi 0) (ans := [.reg (.n :: .n :: []), .reg (nN 3 (.call (vb r1240) :: .n :: [])), .br false, .reg (.n :: .n :: .call (vb r1244) :: .n :: []), .br false, .reg (nN 3 []), .reg (.n :: []), .sub ⟨[(1, none), (3, none), (4, none)], [none], []⟩ (.exit 0) (nspeculumref09_CheckModel_l0_0_e1 a0 r1290), .reg (.n :: .n :: []), .br false, .reg (.n :: [])]) (fr := true) (by kernel_rfl) (an (an (ti (ti trivial)) (an (an (ti (ti (ti (an e1242 (ti trivial))))) (an (not_f h1243) trivial)) (an (an (ti (ti (an e1246 (ti trivial)))) (an (not_f h1247) trivial)) (an (ti (ti (ti trivial))) (an (an (ti trivial) e1292) (an (an (ti (ti trivial)) (an (not_f (decide_eq_true h1293)) trivial)) (an (ti trivial) trivial))))))) (ti trivial)) (Wv.refl _)
    ·injection h with h; subst h
     exact fun_ok pm pn Go.Proofs.Try.func38 (r0 := vi 3) (ans := [.reg (.n :: .n :: []), .reg (nN 3 (.call (vb r1240) :: .n :: [])), .br false, .reg (.n :: .n :: .call (vb r1244) :: .n :: []), .br false, .reg (nN 3 []), .reg (.n :: []), .sub ⟨[(1, none), (3, none), (4, none)], [none], []⟩ (.exit 0) (nspeculumref09_CheckModel_l0_0_e1 a0 r1290), .reg (.n :: .n :: []), .br true, .reg (.n :: [])]) (fr := true) (by kernel_rfl) (an (an (ti (ti trivial)) (an (an (ti (ti (ti (an e1242 (ti trivial))))) (an (not_f h1243) trivial)) (an (an (ti (ti (an e1246 (ti trivial)))) (an (not_f h1247) trivial)) (an (ti (ti (ti trivial))) (an (an (ti trivial) e1292) (an (ti (ti trivial)) (an (not_t (decide_eq_false h1293)) (an (ti trivial) trivial)))))))) (ti trivial)) (Wv.refl _)
  ·injection h with h; subst h
   exact fun_ok pm pn Go.Proofs.Try.func38 (r0 := vi 2) (ans := [.reg (.n :: .n :: []), .reg (nN 3 (.call (vb r1240) :: .n :: [])), .br false, .reg (.n :: .n :: .call (vb r1244) :: .n :: []), .br true, .reg (.n :: [])]) (fr := true) (by kernel_rfl) (an (an (ti (ti trivial)) (an (an (ti (ti (ti (an e1242 (ti trivial))))) (an (not_f h1243) trivial)) (an (ti (ti (an e1246 (ti trivial)))) (an (not_t (bool_f h1247)) (an (ti trivial) trivial))))) (ti trivial)) (Wv.refl _)
 ·injection h with h; subst h
  exact fun_ok pm pn Go.Proofs.Try.func38 (r0 := vi 10) (ans := [.reg (.n :: .n :: []), .reg (nN 3 (.call (vb r1240) :: .n :: [])), .br true, .reg (.n :: [])]) (fr := true) (by kernel_rfl) (an (an (ti (ti trivial)) (an (ti (ti (ti (an e1242 (ti trivial))))) (an (not_t (bool_f h1243)) (an (ti trivial) trivial)))) (ti trivial)) (Wv.refl _)
def arBA_6 (z0 : (List SSkyStar)) : List Ans := (nN 5 (.v (VV.tr (List.map vi ((z0.getD ((0 : Int)).toNat default).Shapes)) (((z0.getD ((0 : Int)).toNat default).Shapes).length)) :: .n :: .n :: []))
def arBA_7 (z0 : (List SSkyStar)) (z1 : Int) (z2 : Bool) : List Ans := (nN 4 (.v (VV.tr (List.map vi ((z0.getD ((0 : Int)).toNat default).Shapes)) (((z0.getD ((0 : Int)).toNat default).Shapes).length)) :: .n :: .n :: .v (vi (((z0.getD ((0 : Int)).toNat default).Shapes).getD z1.toNat 0)) :: .call (vb z2) :: .n :: []))
def arBA_8 (z0 : (List SSkyStar)) (z1 : Int) : List Ans := (nN 5 (.v (VV.tr (List.map vi ((z0.getD z1.toNat default).Shapes)) (((z0.getD z1.toNat default).Shapes).length)) :: .n :: .n :: []))
def arBA_9 (z0 : (List SSkyStar)) (z1 : Int) (z2 : Int) (z3 : Bool) : List Ans := (nN 4 (.v (VV.tr (List.map vi ((z0.getD z1.toNat default).Shapes)) (((z0.getD z1.toNat default).Shapes).length)) :: .n :: .n :: .v (vi (((z0.getD z1.toNat default).Shapes).getD z2.toNat 0)) :: .call (vb z3) :: .n :: []))
def arBA_10 (z0 : (List SSkyStar)) (z1 : Int) (z2 : Bool) : List Ans := (nN 4 (.v (VV.tr (List.map vi ((z0.getD z1.toNat default).Shapes)) (((z0.getD z1.toNat default).Shapes).length)) :: nN 4 (.v (VV.tr (List.map vi ((z0.getD ((0 : Int)).toNat default).Shapes)) (((z0.getD ((0 : Int)).toNat default).Shapes).length)) :: nN 7 (.v (VV.tr (List.map vi ((z0.getD z1.toNat default).Shapes)) (((z0.getD z1.toNat default).Shapes).length)) :: .n :: .call (vb z2) :: .n :: .b false :: []))))
def arBA_11 (z0 : (List SSkyStar)) (z1 : Int) : List Ans := (nN 4 (.v (VV.tr (List.map vi ((z0.getD z1.toNat default).Shapes)) (((z0.getD z1.toNat default).Shapes).length)) :: nN 4 (.v (VV.tr (List.map vi ((z0.getD ((0 : Int)).toNat default).Shapes)) (((z0.getD ((0 : Int)).toNat default).Shapes).length)) :: nN 3 (nS 8 (.b true :: [])))))
def nspeculumref09_CheckStars_l1_0_h (a0 : (List SSkyStar)) (x4 : Int) (x5 : Int) : VS := ⟨mkA [(0, VV.tr (List.flatMap c_SSkyStar a0) a0.length), (4, vi x4), (5, vi x5)], [], .nil⟩
def nspeculumref09_CheckStars_l1_0_e0 (a0 : (List SSkyStar)) (x4 : Int) (r : Unit) : VS := ⟨mkA [(2, vi 0), (3, vi 2)], [], .nil⟩
def nspeculumref09_CheckStars_l1_0_e1 (a0 : (List SSkyStar)) (x4 : Int) (r : Unit) : VS := ⟨mkA [(0, VV.tr (List.flatMap c_SSkyStar a0) a0.length), (4, vi x4)], [], .nil⟩
def nspeculumref09_CheckStars_l1_0 (k : Nat) (a0 : (List SSkyStar)) (x4 : Int) : Nat → Int → Option (Sum Unit Unit)
  | 0, _ => none
  | fuel + 1, x5 => if 0 ≤ x4 ∧ x4 < (a0.length : Int) then (if x5 < (((a0.getD x4.toNat default).Shapes).length : Int) then (if 0 ≤ x5 ∧ x5 < (((a0.getD x4.toNat default).Shapes).length : Int) then ((nspeculumbase_Within k (((a0.getD x4.toNat default).Shapes).getD x5.toNat 0) (-100) 100).bind fun r1697 => (if r1697 = true then (nspeculumref09_CheckStars_l1_0 k a0 x4 fuel (w64 (x5 + 1))) else (some (.inl ())))) else none) else (some (.inr ()))) else none
theorem nspeculumref09_CheckStars_l1_0_ok (k : Nat) (a0 : (List SSkyStar)) (x4 : Int) : ∀ (fuel : Nat) (x5 : Int) (r : Sum Unit Unit), nspeculumref09_CheckStars_l1_0 k a0 x4 fuel x5 = some r → (match r with | .inl r => VLoop none Go.Proofs.Try.prog (szF Go.Proofs.Try.f30) (bodyOf Go.Proofs.Try.f30 1) (nspeculumref09_CheckStars_l1_0_h a0 x4 x5) .ret (nspeculumref09_CheckStars_l1_0_e0 a0 x4 r) | .inr r => VLoop none Go.Proofs.Try.prog (szF Go.Proofs.Try.f30) (bodyOf Go.Proofs.Try.f30 1) (nspeculumref09_CheckStars_l1_0_h a0 x4 x5) (.exit 2) (nspeculumref09_CheckStars_l1_0_e1 a0 x4 r)) := by
 intro fuel
 induction fuel with
 | zero => intro x5 r h; rw [nspeculumref09_CheckStars_l1_0.eq_1] at h; cases h
 | succ fuel ih =>
  intro x5 r h
  rw [nspeculumref09_CheckStars_l1_0.eq_2] at h
  obtain ⟨h1690, h⟩ := ifn h
  have e1691 := (show loadL Go.Proofs.Try.prog 41 (x4.toNat * 2 + 0) (List.flatMap c_SSkyStar a0) = some (VV.tr (List.map vi ((a0.getD x4.toNat default).Shapes)) (((a0.getD x4.toNat default).Shapes).length)) from (ld_flat ag41 c_SSkyStar 2 0 len_c_SSkyStar (by omega) a0 default h1690 (by omega)).trans rfl)
  have e1692 := (ti (ti (ti (an h1690 (ti (an e1691 (ti (ti trivial))))))))
  rcases ifs h with ⟨h1693, h⟩ | ⟨h1693, h⟩
  ·have e1694 := (show loadL Go.Proofs.Try.prog 41 (x4.toNat * 2 + 0) (List.flatMap c_SSkyStar a0) = some (VV.tr (List.map vi ((a0.getD x4.toNat default).Shapes)) (((a0.getD x4.toNat default).Shapes).length)) from (ld_flat ag41 c_SSkyStar 2 0 len_c_SSkyStar (by omega) a0 default h1690 (by omega)).trans rfl)
   obtain ⟨h1695, h⟩ := ifn h
   have e1696 := (show loadL Go.Proofs.Try.prog 3 (x5.toNat * 1) (List.map vi ((a0.getD x4.toNat default).Shapes)) = some (vi (((a0.getD x4.toNat default).Shapes).getD x5.toNat 0)) from ld_map ag3 vi ((a0.getD x4.toNat default).Shapes) 0 h1695 (by omega))
   obtain ⟨r1697, h1698, h⟩ := bs h
   have e1699 := (nspeculumbase_Within_ok k (((a0.getD x4.toNat default).Shapes).getD x5.toNat 0) (-100) 100 _ h1698)
   have e1700 := (ti (ti (an h1690 (ti (an e1694 (ti (an h1695 (an e1696 (an e1699 (ti trivial))))))))))
   rcases ifs h with ⟨h1701, h⟩ | ⟨h1701, h⟩
   ·have h2 := ih _ _ h
    obtain ⟨q, hv, hq⟩ := pkR (rd := none) (P := Go.Proofs.Try.prog) (fn := Go.Proofs.Try.f30) (k := 1) (s := (nspeculumref09_CheckStars_l1_0_h a0 x4 x5)) (ans := [.reg (arBA_8 a0 x4), .br true, .reg (arBA_9 a0 x4 x5 r1697), .br false, .reg (nN 3 [])]) (c := ⟨[(0, none), (4, none), (5, none)], [], []⟩) (e := .normal) (s1 := (nspeculumref09_CheckStars_l1_0_h a0 x4 (w64 (x5 + 1)))) (an (an (an e1692 (an (decide_eq_true h1693) trivial)) (an (an e1700 (an (not_f h1701) trivial)) (ti (ti (ti trivial))))) (ti trivial)) (by kernel_rfl)
    cases r with
    | inl r => exact round_next pm pn hv hq h2
    | inr r =>
     exact round_next pm pn hv hq h2
   ·injection h with h; subst h
    exact round_stop (c := ⟨[(2, none), (3, none)], [], []⟩) (s1 := (nspeculumref09_CheckStars_l1_0_e0 a0 x4 ())) pm pn (ans := [.reg (arBA_8 a0 x4), .br true, .reg (arBA_9 a0 x4 x5 r1697), .br true, .reg (.n :: .n :: [])]) (by kernel_rfl) (by intro e; cases e) (an (an (an e1692 (an (decide_eq_true h1693) trivial)) (an e1700 (an (not_t (bool_f h1701)) (an (ti (ti trivial)) trivial)))) (ti trivial))
  ·injection h with h; subst h
   exact round_stop (c := ⟨[(0, none), (4, none)], [], []⟩) (s1 := (nspeculumref09_CheckStars_l1_0_e1 a0 x4 ())) pm pn (ans := [.reg (arBA_8 a0 x4), .br false]) (by kernel_rfl) (by intro e; cases e) (an (an e1692 (an (decide_eq_false h1693) trivial)) (ti trivial))
def nspeculumref09_CheckStars_l0_0_h (a0 : (List SSkyStar)) (x4 : Int) : VS := ⟨mkA [(0, VV.tr (List.flatMap c_SSkyStar a0) a0.length), (4, vi x4)], [], .nil⟩
def nspeculumref09_CheckStars_l0_0_e0 (a0 : (List SSkyStar)) (r : Int) : VS := ⟨mkA [(2, vi 0), (3, vi r)], [], .nil⟩
def nspeculumref09_CheckStars_l0_0_e1 (a0 : (List SSkyStar)) (r : Unit) : VS := ⟨mkA [(0, VV.tr (List.flatMap c_SSkyStar a0) a0.length)], [], .nil⟩
def nspeculumref09_CheckStars_l0_0 (k : Nat) (a0 : (List SSkyStar)) : Nat → Int → Option (Sum Int Unit)
  | 0, _ => none
  | fuel + 1, x4 => if x4 < (a0.length : Int) then (if 0 ≤ x4 ∧ x4 < (a0.length : Int) then (if (0 : Int) ≤ 0 ∧ 0 < (a0.length : Int) then (if (((a0.getD x4.toNat default).Shapes).length : Int) = (((a0.getD ((0 : Int)).toNat default).Shapes).length : Int) then ((nspeculumbase_Within k (((a0.getD x4.toNat default).Shapes).length : Int) 1 3).bind fun r1660 => (if r1660 = true then ((nspeculumref09_CheckStars_l1_0 k a0 x4 k 0).bind fun r1703 => (match r1703 with | .inl r1704 => (some (.inl 2)) | .inr r1705 => ((nspeculumbase_Within k ((a0.getD x4.toNat default).Error) (-1000) 1000).bind fun r1709 => (if r1709 = true then (nspeculumref09_CheckStars_l0_0 k a0 fuel (w64 (x4 + 1))) else (some (.inl 2)))))) else (some (.inl 10)))) else (some (.inl 10))) else none) else none) else (some (.inr ()))
theorem nspeculumref09_CheckStars_l0_0_ok (k : Nat) (a0 : (List SSkyStar)) : ∀ (fuel : Nat) (x4 : Int) (r : Sum Int Unit), nspeculumref09_CheckStars_l0_0 k a0 fuel x4 = some r → (match r with | .inl r => VLoop none Go.Proofs.Try.prog (szF Go.Proofs.Try.f30) (bodyOf Go.Proofs.Try.f30 0) (nspeculumref09_CheckStars_l0_0_h a0 x4) .ret (nspeculumref09_CheckStars_l0_0_e0 a0 r) | .inr r => VLoop none Go.Proofs.Try.prog (szF Go.Proofs.Try.f30) (bodyOf Go.Proofs.Try.f30 0) (nspeculumref09_CheckStars_l0_0_h a0 x4) (.exit 0) (nspeculumref09_CheckStars_l0_0_e1 a0 r)) := by
 intro fuel
 induction fuel with
 | zero => intro x4 r h; rw [nspeculumref09_CheckStars_l0_0.eq_1] at h; cases h
 | succ fuel ih =>
  intro x4 r h
  rw [nspeculumref09_CheckStars_l0_0.eq_2] at h
  rcases ifs h with ⟨h1648, h⟩ | ⟨h1648, h⟩
  ·obtain ⟨h1649, h⟩ := ifn h
   have e1650 := (show loadL Go.Proofs.Try.prog 41 (x4.toNat * 2 + 0) (List.flatMap c_SSkyStar a0) = some (VV.tr (List.map vi ((a0.getD x4.toNat default).Shapes)) (((a0.getD x4.toNat default).Shapes).length)) from (ld_flat ag41 c_SSkyStar 2 0 len_c_SSkyStar (by omega) a0 default h1649 (by omega)).trans rfl)
   obtain ⟨h1651, h⟩ := ifn h
   have e1652 := (show loadL Go.Proofs.Try.prog 41 (((0 : Int)).toNat * 2 + 0) (List.flatMap c_SSkyStar a0) = some (VV.tr (List.map vi ((a0.getD ((0 : Int)).toNat default).Shapes)) (((a0.getD ((0 : Int)).toNat default).Shapes).length)) from (ld_flat ag41 c_SSkyStar 2 0 len_c_SSkyStar (by omega) a0 default h1651 (by omega)).trans rfl)
   rcases ifs h with ⟨h1653, h⟩ | ⟨h1653, h⟩
   ·have e1654 := (an (not_f (decide_eq_true h1653)) trivial)
    have e1655 := (an (not_f (decide_eq_true h1653)) trivial)
    have e1656 := (an (not_f (decide_eq_true h1653)) h1649)
    have e1657 := (an (not_f (decide_eq_true h1653)) trivial)
    have e1658 := (an (not_f (decide_eq_true h1653)) (show loadL Go.Proofs.Try.prog 41 (x4.toNat * 2 + 0) (List.flatMap c_SSkyStar a0) = some (VV.tr (List.map vi ((a0.getD x4.toNat default).Shapes)) (((a0.getD x4.toNat default).Shapes).length)) from (ld_flat ag41 c_SSkyStar 2 0 len_c_SSkyStar (by omega) a0 default h1649 (by omega)).trans rfl))
    have e1659 := (an (not_f (decide_eq_true h1653)) trivial)
    obtain ⟨r1660, h1661, h⟩ := bs h
    have e1662 := (an (not_f (decide_eq_true h1653)) (nspeculumbase_Within_ok k (((a0.getD x4.toNat default).Shapes).length : Int) 1 3 _ h1661))
    have e1663 := (an (not_f (decide_eq_true h1653)) trivial)
    have e1664 := (ti (ti (an h1649 (ti (an e1650 (ti (ti (an h1651 (ti (an e1652 (ti (ti (ti (an e1654 (an e1655 (an e1656 (an e1657 (an e1658 (an e1659 (an e1662 (an e1663 (an (not_f (decide_eq_true h1653)) trivial))))))))))))))))))))))
    rcases ifs h with ⟨h1665, h⟩ | ⟨h1665, h⟩
    ·obtain ⟨r1703, h1702, h⟩ := bs h
     have hph1702 := nspeculumref09_CheckStars_l1_0_ok k a0 x4 _ _ _ h1702
     cases r1703 with
     | inl r1704 =>
      dsimp only at h
      have e1706 := (an (ti trivial) (VRun.loop hph1702))
      injection h with h; subst h
      exact round_stop (c := ⟨[(2, none), (3, none)], [], []⟩) (s1 := (nspeculumref09_CheckStars_l0_0_e0 a0 2)) pm pn (ans := [.reg (nN 4 []), .br true, .reg (arBA_10 a0 x4 r1660), .br false, .reg (.n :: []), .sub ⟨[(0, none), (4, none), (5, none)], [], []⟩ .ret (nspeculumref09_CheckStars_l1_0_e0 a0 x4 r1704)]) (by kernel_rfl) (by intro e; cases e) (an (an (an (ti (ti (ti (ti trivial)))) (an (decide_eq_true h1648) trivial)) (an (an e1664 (an (not_f h1665) trivial)) (an (ti trivial) e1706))) (ti trivial))
     | inr r1705 =>
      dsimp only at h
      have e1707 := (an (ti trivial) (VRun.loop hph1702))
      have e1708 := (show loadL Go.Proofs.Try.prog 3 (x4.toNat * 2 + 1) (List.flatMap c_SSkyStar a0) = some (vi ((a0.getD x4.toNat default).Error)) from (ld_flat ag3 c_SSkyStar 2 1 len_c_SSkyStar (by omega) a0 default h1649 (by omega)).trans rfl)
      obtain ⟨r1709, h1710, h⟩ := bs h
      have e1711 := (nspeculumbase_Within_ok k ((a0.getD x4.toNat default).Error) (-1000) 1000 _ h1710)
      have e1712 := (ti (ti (an h1649 (ti (an e1708 (an e1711 (ti trivial)))))))
      rcases ifs h with ⟨h1713, h⟩ | ⟨h1713, h⟩
      ·have h2 := ih _ _ h
       obtain ⟨q, hv, hq⟩ := pkR (rd := none) (P := Go.Proofs.Try.prog) (fn := Go.Proofs.Try.f30) (k := 0) (s := (nspeculumref09_CheckStars_l0_0_h a0 x4)) (ans := [.reg (nN 4 []), .br true, .reg (arBA_10 a0 x4 r1660), .br false, .reg (.n :: []), .sub ⟨[(0, none), (4, none), (5, none)], [], []⟩ (.exit 2) (nspeculumref09_CheckStars_l1_0_e1 a0 x4 r1705), .reg (nN 4 (.v (vi ((a0.getD x4.toNat default).Error)) :: .call (vb r1709) :: .n :: [])), .br false, .reg (nN 3 [])]) (c := ⟨[(0, none), (4, none)], [], []⟩) (e := .normal) (s1 := (nspeculumref09_CheckStars_l0_0_h a0 (w64 (x4 + 1)))) (an (an (an (ti (ti (ti (ti trivial)))) (an (decide_eq_true h1648) trivial)) (an (an (an e1664 (an (not_f h1665) trivial)) (an (an (ti trivial) e1707) (an e1712 (an (not_f h1713) trivial)))) (ti (ti (ti trivial))))) (ti trivial)) (by kernel_rfl)
       cases r with
       | inl r => exact round_next pm pn hv hq h2
       | inr r =>
        exact round_next pm pn hv hq h2
      ·injection h with h; subst h
       exact round_stop (c := ⟨[(2, none), (3, none)], [], []⟩) (s1 := (nspeculumref09_CheckStars_l0_0_e0 a0 2)) pm pn (ans := [.reg (nN 4 []), .br true, .reg (arBA_10 a0 x4 r1660), .br false, .reg (.n :: []), .sub ⟨[(0, none), (4, none), (5, none)], [], []⟩ (.exit 2) (nspeculumref09_CheckStars_l1_0_e1 a0 x4 r1705), .reg (nN 4 (.v (vi ((a0.getD x4.toNat default).Error)) :: .call (vb r1709) :: .n :: [])), .br true, .reg (.n :: .n :: [])]) (by kernel_rfl) (by intro e; cases e) (an (an (an (ti (ti (ti (ti trivial)))) (an (decide_eq_true h1648) trivial)) (an (an e1664 (an (not_f h1665) trivial)) (an (an (ti trivial) e1707) (an e1712 (an (not_t (bool_f h1713)) (an (ti (ti trivial)) trivial)))))) (ti trivial))
    ·injection h with h; subst h
     exact round_stop (c := ⟨[(2, none), (3, none)], [], []⟩) (s1 := (nspeculumref09_CheckStars_l0_0_e0 a0 10)) pm pn (ans := [.reg (nN 4 []), .br true, .reg (arBA_10 a0 x4 r1660), .br true, .reg (.n :: .n :: [])]) (by kernel_rfl) (by intro e; cases e) (an (an (an (ti (ti (ti (ti trivial)))) (an (decide_eq_true h1648) trivial)) (an e1664 (an (not_t (bool_f h1665)) (an (ti (ti trivial)) trivial)))) (ti trivial))
   ·have e1714 := (ti (ti (an h1649 (ti (an e1650 (ti (ti (an h1651 (ti (an e1652 (ti (ti (ti (an (not_t (decide_eq_false h1653)) (an (not_t (decide_eq_false h1653)) (an (not_t (decide_eq_false h1653)) (an (not_t (decide_eq_false h1653)) (an (not_t (decide_eq_false h1653)) (an (not_t (decide_eq_false h1653)) (an (not_t (decide_eq_false h1653)) (an (not_t (decide_eq_false h1653)) (an (not_t (decide_eq_false h1653)) trivial))))))))))))))))))))))
    injection h with h; subst h
    exact round_stop (c := ⟨[(2, none), (3, none)], [], []⟩) (s1 := (nspeculumref09_CheckStars_l0_0_e0 a0 10)) pm pn (ans := [.reg (nN 4 []), .br true, .reg (arBA_11 a0 x4), .br true, .reg (.n :: .n :: [])]) (by kernel_rfl) (by intro e; cases e) (an (an (an (ti (ti (ti (ti trivial)))) (an (decide_eq_true h1648) trivial)) (an e1714 (an rt (an (ti (ti trivial)) trivial)))) (ti trivial))
  ·injection h with h; subst h
   exact round_stop (c := ⟨[(0, none)], [], []⟩) (s1 := (nspeculumref09_CheckStars_l0_0_e1 a0 ())) pm pn (ans := [.reg (nN 4 []), .br false]) (by kernel_rfl) (by intro e; cases e) (an (an (ti (ti (ti (ti trivial)))) (an (decide_eq_false h1648) trivial)) (ti trivial))
def arBA_12 (z0 : (List SSkyStar)) : List Ans := (nN 3 (.v (VV.tr (List.map vi ((z0.getD ((0 : Int)).toNat default).Shapes)) (((z0.getD ((0 : Int)).toNat default).Shapes).length)) :: nN 3 []))
def nspeculumref09_CheckStars (k : Nat) (a0 : (List SSkyStar)) : Option (Int × Int) :=
  if (a0.length : Int) = 0 then (some (0, 10)) else (if 20 < (a0.length : Int) then (some (0, 8)) else ((nspeculumref09_CheckStars_l0_0 k a0 k 0).bind fun r1716 => (match r1716 with | .inl r1717 => (some (0, r1717)) | .inr r1718 => (if (0 : Int) ≤ 0 ∧ 0 < (a0.length : Int) then (some ((((a0.getD ((0 : Int)).toNat default).Shapes).length : Int), 0)) else none))))
theorem nspeculumref09_CheckStars_ok (k : Nat) (a0 : (List SSkyStar)) (r : (Int × Int)) (h : nspeculumref09_CheckStars k a0 = some r) : VC Go.Proofs.Try.prog 30 [VV.tr (List.flatMap c_SSkyStar a0) a0.length] (VV.tu [vi r.1, vi r.2]) := by
 unfold nspeculumref09_CheckStars at h
 rcases ifs h with ⟨h1513, h⟩ | ⟨h1513, h⟩
 ·injection h with h; subst h
  exact fun_ok pm pn Go.Proofs.Try.func30 (r0 := VV.tu [vi 0, vi 10]) (ans := [.reg (.n :: .n :: []), .reg (nN 3 []), .br true, .reg (.n :: .n :: [])]) (fr := true) (by kernel_rfl) (an (an (ti (ti trivial)) (an (ti (ti (ti trivial))) (an (decide_eq_true h1513) (an (ti (ti trivial)) trivial)))) (ti (ti trivial))) (Wv.refl _)
 ·rcases ifs h with ⟨h1514, h⟩ | ⟨h1514, h⟩
  ·injection h with h; subst h
   exact fun_ok pm pn Go.Proofs.Try.func30 (r0 := VV.tu [vi 0, vi 8]) (ans := [.reg (.n :: .n :: []), .reg (nN 3 []), .br false, .reg (nN 3 []), .br true, .reg (.n :: .n :: [])]) (fr := true) (by kernel_rfl) (an (an (ti (ti trivial)) (an (an (ti (ti (ti trivial))) (an (decide_eq_false h1513) trivial)) (an (ti (ti (ti trivial))) (an (decide_eq_true h1514) (an (ti (ti trivial)) trivial))))) (ti (ti trivial))) (Wv.refl _)
  ·obtain ⟨r1716, h1715, h⟩ := bs h
   have hph1715 := nspeculumref09_CheckStars_l0_0_ok k a0 _ _ _ h1715
   cases r1716 with
   | inl r1717 =>
    dsimp only at h
    have e1719 := (an (ti trivial) (VRun.loop hph1715))
    injection h with h; subst h
    exact fun_ok pm pn Go.Proofs.Try.func30 (r0 := VV.tu [vi 0, vi r1717]) (ans := [.reg (.n :: .n :: []), .reg (nN 3 []), .br false, .reg (nN 3 []), .br false, .reg (.n :: []), .sub ⟨[(0, none), (4, none)], [], []⟩ .ret (nspeculumref09_CheckStars_l0_0_e0 a0 r1717)]) (fr := true) (by kernel_rfl) (an (an (ti (ti trivial)) (an (an (ti (ti (ti trivial))) (an (decide_eq_false h1513) trivial)) (an (an (ti (ti (ti trivial))) (an (decide_eq_false h1514) trivial)) (an (ti trivial) e1719)))) (ti (ti trivial))) (Wv.refl _)
   | inr r1718 =>
    dsimp only at h
    have e1720 := (an (ti trivial) (VRun.loop hph1715))
    obtain ⟨h1721, h⟩ := ifn h
    have e1722 := (show loadL Go.Proofs.Try.prog 41 (((0 : Int)).toNat * 2 + 0) (List.flatMap c_SSkyStar a0) = some (VV.tr (List.map vi ((a0.getD ((0 : Int)).toNat default).Shapes)) (((a0.getD ((0 : Int)).toNat default).Shapes).length)) from (ld_flat ag41 c_SSkyStar 2 0 len_c_SSkyStar (by omega) a0 default h1721 (by omega)).trans rfl)
    have e1723 := (ti (an h1721 (ti (an e1722 (ti (ti (ti trivial)))))))
    injection h with h; subst h
    exact fun_ok pm pn Go.Proofs.Try.func30 (r0 := VV.tu [vi (((a0.getD ((0 : Int)).toNat default).Shapes).length : Int), vi 0]) (ans := [.reg (.n :: .n :: []), .reg (nN 3 []), .br false, .reg (nN 3 []), .br false, .reg (.n :: []), .sub ⟨[(0, none), (4, none)], [], []⟩ (.exit 0) (nspeculumref09_CheckStars_l0_0_e1 a0 r1718), .reg (arBA_12 a0)]) (fr := true) (by kernel_rfl) (an (an (ti (ti trivial)) (an (an (ti (ti (ti trivial))) (an (decide_eq_false h1513) trivial)) (an (an (ti (ti (ti trivial))) (an (decide_eq_false h1514) trivial)) (an (an (ti trivial) e1720) (an e1723 trivial))))) (ti (ti trivial))) (Wv.refl _)
def arBA_13 (z0 : SSkyModel) (z1 : Int) (z2 : (List Int)) : List Ans := (nN 5 (.v (vi (z0.Terms.getD z1.toNat 0)) :: nN 3 (.v (vi (z2.getD z1.toNat 0)) :: nN 3 [])))
def nspeculumref09_predicted_l0_0_h (a0 : SSkyModel) (a1 : (List Int)) (x5 : Int) (x6 : Int) : VS := ⟨mkA [(1, VV.tr (List.map vi a1) a1.length), (2, VV.pt 0 0), (5, vi x5), (6, vi x6)], [some ⟨true, 1, c_SSkyModel a0⟩], .nil⟩
def nspeculumref09_predicted_l0_0_e0 (a0 : SSkyModel) (a1 : (List Int)) (r : Int) : VS := ⟨mkA [(5, vi r)], [], .nil⟩
def nspeculumref09_predicted_l0_0 (k : Nat) (a0 : SSkyModel) (a1 : (List Int)) : Nat → Int → Int → Option (Int)
  | 0, _, _ => none
  | fuel + 1, x5, x6 => if x6 < (a1.length : Int) then (if 0 ≤ x6 ∧ x6 < (a0.Terms.length : Int) then (if 0 ≤ x6 ∧ x6 < (a1.length : Int) then (nspeculumref09_predicted_l0_0 k a0 a1 fuel (w64 (x5 + (w64 ((a0.Terms.getD x6.toNat 0) * (a1.getD x6.toNat 0))))) (w64 (x6 + 1))) else none) else none) else (some x5)
theorem nspeculumref09_predicted_l0_0_ok (k : Nat) (a0 : SSkyModel) (a1 : (List Int)) : ∀ (fuel : Nat) (x5 : Int) (x6 : Int) (r : Int), nspeculumref09_predicted_l0_0 k a0 a1 fuel x5 x6 = some r → (VLoop none Go.Proofs.Try.prog (szF Go.Proofs.Try.f103) (bodyOf Go.Proofs.Try.f103 0) (nspeculumref09_predicted_l0_0_h a0 a1 x5 x6) (.exit 0) (nspeculumref09_predicted_l0_0_e0 a0 a1 r)) := by
 intro fuel
 induction fuel with
 | zero => intro x5 x6 r h; rw [nspeculumref09_predicted_l0_0.eq_1] at h; cases h
 | succ fuel ih =>
  intro x5 x6 r h
  rw [nspeculumref09_predicted_l0_0.eq_2] at h
  rcases ifs h with ⟨h1774, h⟩ | ⟨h1774, h⟩
  ·obtain ⟨h1775, h⟩ := ifn h
   have e1776 := (show loadL Go.Proofs.Try.prog 3 (x6.toNat * 1) (List.map vi a0.Terms) = some (vi (a0.Terms.getD x6.toNat 0)) from ld_map ag3 vi a0.Terms 0 h1775 (by omega))
   obtain ⟨h1777, h⟩ := ifn h
   have e1778 := (show loadL Go.Proofs.Try.prog 3 (x6.toNat * 1) (List.map vi a1) = some (vi (a1.getD x6.toNat 0)) from ld_map ag3 vi a1 0 h1777 (by omega))
   have e1779 := (ti (ti (ti (ti (an h1775 (an e1776 (ti (ti (an h1777 (an e1778 (ti (ti (ti trivial)))))))))))))
   have h2 := ih _ _ _ h
   obtain ⟨q, hv, hq⟩ := pkR (rd := none) (P := Go.Proofs.Try.prog) (fn := Go.Proofs.Try.f103) (k := 0) (s := (nspeculumref09_predicted_l0_0_h a0 a1 x5 x6)) (ans := [.reg (nN 4 []), .br true, .reg (arBA_13 a0 x6 a1), .reg (nN 3 [])]) (c := ⟨[(1, none), (2, none), (5, none), (6, none)], [none], []⟩) (e := .normal) (s1 := (nspeculumref09_predicted_l0_0_h a0 a1 (w64 (x5 + (w64 ((a0.Terms.getD x6.toNat 0) * (a1.getD x6.toNat 0))))) (w64 (x6 + 1)))) (an (an (an (ti (ti (ti (ti trivial)))) (an (decide_eq_true h1774) trivial)) (an e1779 (ti (ti (ti trivial))))) (ti trivial)) (by kernel_rfl)
   exact round_next pm pn hv hq h2
  ·injection h with h; subst h
   exact round_stop (c := ⟨[(5, none)], [], []⟩) (s1 := (nspeculumref09_predicted_l0_0_e0 a0 a1 x5)) pm pn (ans := [.reg (nN 4 []), .br false]) (by kernel_rfl) (by intro e; cases e) (an (an (ti (ti (ti (ti trivial)))) (an (decide_eq_false h1774) trivial)) (ti trivial))
def nspeculumref09_predicted (k : Nat) (a0 : SSkyModel) (a1 : (List Int)) : Option Int :=
  (nspeculumref09_predicted_l0_0 k a0 a1 k 0 0).bind fun r1781 => (some r1781)
theorem nspeculumref09_predicted_ok (k : Nat) (a0 : SSkyModel) (a1 : (List Int)) (r : Int) (h : nspeculumref09_predicted k a0 a1 = some r) : VC Go.Proofs.Try.prog 103 [VV.ag (c_SSkyModel a0), VV.tr (List.map vi a1) a1.length] (vi r) := by
 unfold nspeculumref09_predicted at h
 obtain ⟨r1781, h1780, h⟩ := bs h
 have hph1780 := nspeculumref09_predicted_l0_0_ok k a0 a1 _ _ _ _ h1780
 have e1782 := (an (ti trivial) (VRun.loop hph1780))
 injection h with h; subst h
 exact fun_ok pm pn Go.Proofs.Try.func103 (r0 := vi r1781) (ans := [.reg (.n :: .n :: []), .reg (.n :: []), .reg (.n :: []), .sub ⟨[(1, none), (2, none), (5, none), (6, none)], [none], []⟩ (.exit 0) (nspeculumref09_predicted_l0_0_e0 a0 a1 r1781), .reg (.n :: .n :: [])]) (fr := true) (by kernel_rfl) (an (an (ti (ti trivial)) (an (ti trivial) (an (an (ti trivial) e1782) (an (ti (ti trivial)) trivial)))) (ti trivial)) (Wv.refl _)
def arBA_14 (z0 : (List SSkyStar)) (z1 : Int) (z2 : Int) : List Ans := (nN 5 (.v (VV.tr (List.map vi ((z0.getD z1.toNat default).Shapes)) (((z0.getD z1.toNat default).Shapes).length)) :: .n :: .n :: .v (vi (((z0.getD z1.toNat default).Shapes).getD ((0 : Int)).toNat 0)) :: nN 4 (.v (vi ((z0.getD z1.toNat default).Error)) :: nN 8 (.v (VV.tr (List.map vi ((z0.getD z1.toNat default).Shapes)) (((z0.getD z1.toNat default).Shapes).length)) :: .call (vi z2) :: nN 4 []))))
def arBA_15 (z0 : (List SSkyStar)) (z1 : Int) (z2 : Int) (z3 : Int) : List Ans := (nN 5 (.v (VV.tr (List.map vi ((z0.getD z1.toNat default).Shapes)) (((z0.getD z1.toNat default).Shapes).length)) :: .n :: .n :: .v (vi (((z0.getD z1.toNat default).Shapes).getD z2.toNat 0)) :: nN 4 (.v (vi ((z0.getD z1.toNat default).Error)) :: nN 8 (.v (VV.tr (List.map vi ((z0.getD z1.toNat default).Shapes)) (((z0.getD z1.toNat default).Shapes).length)) :: .call (vi z3) :: nN 4 []))))
def nspeculumref09_CheckFit_l1_0_h (a0 : (List SSkyStar)) (a1 : SSkyModel) (x5 : Int) (x6 : Int) (x7 : Int) : VS := ⟨mkA [(0, VV.tr (List.flatMap c_SSkyStar a0) a0.length), (3, VV.pt 0 0), (5, vi x5), (6, vi x6), (7, vi x7)], [some ⟨true, 1, c_SSkyModel a1⟩], .nil⟩
def nspeculumref09_CheckFit_l1_0_e0 (a0 : (List SSkyStar)) (a1 : SSkyModel) (x5 : Int) (r : Int) : VS := ⟨mkA [(0, VV.tr (List.flatMap c_SSkyStar a0) a0.length), (3, VV.pt 0 0), (5, vi x5), (6, vi r)], [some ⟨true, 1, c_SSkyModel a1⟩], .nil⟩
def nspeculumref09_CheckFit_l1_0 (k : Nat) (a0 : (List SSkyStar)) (a1 : SSkyModel) (x5 : Int) : Nat → Int → Int → Option (Int)
  | 0, _, _ => none
  | fuel + 1, x6, x7 => if x7 < (a0.length : Int) then (if 0 ≤ x7 ∧ x7 < (a0.length : Int) then (if 0 ≤ x5 ∧ x5 < (((a0.getD x7.toNat default).Shapes).length : Int) then ((nspeculumref09_predicted k a1 ((a0.getD x7.toNat default).Shapes)).bind fun r2005 => (nspeculumref09_CheckFit_l1_0 k a0 a1 x5 fuel (w64 (x6 + (w64 ((((a0.getD x7.toNat default).Shapes).getD x5.toNat 0) * (w64 ((w64 (((a0.getD x7.toNat default).Error) * a1.Den)) - r2005)))))) (w64 (x7 + 1)))) else none) else none) else (some x6)
theorem nspeculumref09_CheckFit_l1_0_ok (k : Nat) (a0 : (List SSkyStar)) (a1 : SSkyModel) (x5 : Int) : ∀ (fuel : Nat) (x6 : Int) (x7 : Int) (r : Int), nspeculumref09_CheckFit_l1_0 k a0 a1 x5 fuel x6 x7 = some r → (VLoop none Go.Proofs.Try.prog (szF Go.Proofs.Try.f39) (bodyOf Go.Proofs.Try.f39 1) (nspeculumref09_CheckFit_l1_0_h a0 a1 x5 x6 x7) (.exit 2) (nspeculumref09_CheckFit_l1_0_e0 a0 a1 x5 r)) := by
 intro fuel
 induction fuel with
 | zero => intro x6 x7 r h; rw [nspeculumref09_CheckFit_l1_0.eq_1] at h; cases h
 | succ fuel ih =>
  intro x6 x7 r h
  rw [nspeculumref09_CheckFit_l1_0.eq_2] at h
  rcases ifs h with ⟨h1998, h⟩ | ⟨h1998, h⟩
  ·obtain ⟨h1999, h⟩ := ifn h
   have e2000 := (show loadL Go.Proofs.Try.prog 41 (x7.toNat * 2 + 0) (List.flatMap c_SSkyStar a0) = some (VV.tr (List.map vi ((a0.getD x7.toNat default).Shapes)) (((a0.getD x7.toNat default).Shapes).length)) from (ld_flat ag41 c_SSkyStar 2 0 len_c_SSkyStar (by omega) a0 default h1999 (by omega)).trans rfl)
   obtain ⟨h2001, h⟩ := ifn h
   have e2002 := (show loadL Go.Proofs.Try.prog 3 (x5.toNat * 1) (List.map vi ((a0.getD x7.toNat default).Shapes)) = some (vi (((a0.getD x7.toNat default).Shapes).getD x5.toNat 0)) from ld_map ag3 vi ((a0.getD x7.toNat default).Shapes) 0 h2001 (by omega))
   have e2003 := (show loadL Go.Proofs.Try.prog 3 (x7.toNat * 2 + 1) (List.flatMap c_SSkyStar a0) = some (vi ((a0.getD x7.toNat default).Error)) from (ld_flat ag3 c_SSkyStar 2 1 len_c_SSkyStar (by omega) a0 default h1999 (by omega)).trans rfl)
   have e2004 := (show loadL Go.Proofs.Try.prog 41 (x7.toNat * 2 + 0) (List.flatMap c_SSkyStar a0) = some (VV.tr (List.map vi ((a0.getD x7.toNat default).Shapes)) (((a0.getD x7.toNat default).Shapes).length)) from (ld_flat ag41 c_SSkyStar 2 0 len_c_SSkyStar (by omega) a0 default h1999 (by omega)).trans rfl)
   obtain ⟨r2005, h2006, h⟩ := bs h
   have e2007 := (nspeculumref09_predicted_ok k a1 ((a0.getD x7.toNat default).Shapes) _ h2006)
   have e2008 := (ti (ti (ti (an h1999 (ti (an e2000 (ti (an h2001 (an e2002 (ti (ti (an h1999 (ti (an e2003 (ti (ti (ti (ti (ti (ti (an h1999 (ti (an e2004 (an e2007 (ti (ti (ti (ti trivial))))))))))))))))))))))))))))
   have h2 := ih _ _ _ h
   obtain ⟨q, hv, hq⟩ := pkR (rd := none) (P := Go.Proofs.Try.prog) (fn := Go.Proofs.Try.f39) (k := 1) (s := (nspeculumref09_CheckFit_l1_0_h a0 a1 x5 x6 x7)) (ans := [.reg (nN 4 []), .br true, .reg (arBA_15 a0 x7 x5 r2005), .reg (nN 3 [])]) (c := ⟨[(0, none), (3, none), (5, none), (6, none), (7, none)], [none], []⟩) (e := .normal) (s1 := (nspeculumref09_CheckFit_l1_0_h a0 a1 x5 (w64 (x6 + (w64 ((((a0.getD x7.toNat default).Shapes).getD x5.toNat 0) * (w64 ((w64 (((a0.getD x7.toNat default).Error) * a1.Den)) - r2005)))))) (w64 (x7 + 1)))) (an (an (an (ti (ti (ti (ti trivial)))) (an (decide_eq_true h1998) trivial)) (an e2008 (ti (ti (ti trivial))))) (ti trivial)) (by kernel_rfl)
   exact round_next pm pn hv hq h2
  ·injection h with h; subst h
   exact round_stop (c := ⟨[(0, none), (3, none), (5, none), (6, none)], [none], []⟩) (s1 := (nspeculumref09_CheckFit_l1_0_e0 a0 a1 x5 x6)) pm pn (ans := [.reg (nN 4 []), .br false]) (by kernel_rfl) (by intro e; cases e) (an (an (ti (ti (ti (ti trivial)))) (an (decide_eq_false h1998) trivial)) (ti trivial))
def nspeculumref09_CheckFit_l0_0_h (a0 : (List SSkyStar)) (a1 : SSkyModel) (x5 : Int) : VS := ⟨mkA [(0, VV.tr (List.flatMap c_SSkyStar a0) a0.length), (3, VV.pt 0 0), (5, vi x5)], [some ⟨true, 1, c_SSkyModel a1⟩], .nil⟩
def nspeculumref09_CheckFit_l0_0_e0 (a0 : (List SSkyStar)) (a1 : SSkyModel) (r : Unit) : VS := ⟨mkA [(4, vi 22)], [], .nil⟩
def nspeculumref09_CheckFit_l0_0_e1 (a0 : (List SSkyStar)) (a1 : SSkyModel) (r : Unit) : VS := ⟨mkA [], [], .nil⟩
def nspeculumref09_CheckFit_l0_0 (k : Nat) (a0 : (List SSkyStar)) (a1 : SSkyModel) : Nat → Int → Option (Sum Unit Unit)
  | 0, _ => none
  | fuel + 1, x5 => if x5 < (a1.Terms.length : Int) then ((nspeculumref09_CheckFit_l1_0 k a0 a1 x5 k 0 0).bind fun r2010 => (if r2010 = 0 then (nspeculumref09_CheckFit_l0_0 k a0 a1 fuel (w64 (x5 + 1))) else (some (.inl ())))) else (some (.inr ()))
theorem nspeculumref09_CheckFit_l0_0_ok (k : Nat) (a0 : (List SSkyStar)) (a1 : SSkyModel) : ∀ (fuel : Nat) (x5 : Int) (r : Sum Unit Unit), nspeculumref09_CheckFit_l0_0 k a0 a1 fuel x5 = some r → (match r with | .inl r => VLoop none Go.Proofs.Try.prog (szF Go.Proofs.Try.f39) (bodyOf Go.Proofs.Try.f39 0) (nspeculumref09_CheckFit_l0_0_h a0 a1 x5) .ret (nspeculumref09_CheckFit_l0_0_e0 a0 a1 r) | .inr r => VLoop none Go.Proofs.Try.prog (szF Go.Proofs.Try.f39) (bodyOf Go.Proofs.Try.f39 0) (nspeculumref09_CheckFit_l0_0_h a0 a1 x5) (.exit 0) (nspeculumref09_CheckFit_l0_0_e1 a0 a1 r)) := by
 intro fuel
 induction fuel with
 | zero => intro x5 r h; rw [nspeculumref09_CheckFit_l0_0.eq_1] at h; cases h
 | succ fuel ih =>
  intro x5 r h
  rw [nspeculumref09_CheckFit_l0_0.eq_2] at h
  rcases ifs h with ⟨h1975, h⟩ | ⟨h1975, h⟩
  ·obtain ⟨r2010, h2009, h⟩ := bs h
   have hph2009 := nspeculumref09_CheckFit_l1_0_ok k a0 a1 x5 _ _ _ _ h2009
   have e2011 := (an (ti trivial) (VRun.loop hph2009))
   rcases ifs h with ⟨h2012, h⟩ | ⟨h2012, h⟩
   ·have h2 := ih _ _ h
    obtain ⟨q, hv, hq⟩ := pkR (rd := none) (P := Go.Proofs.Try.prog) (fn := Go.Proofs.Try.f39) (k := 0) (s := (nspeculumref09_CheckFit_l0_0_h a0 a1 x5)) (ans := [.reg (nN 5 []), .br true, .reg (.n :: []), .reg (.n :: []), .sub ⟨[(0, none), (3, none), (5, none), (6, none), (7, none)], [none], []⟩ (.exit 2) (nspeculumref09_CheckFit_l1_0_e0 a0 a1 x5 r2010), .reg (.n :: .n :: []), .br false, .reg (nN 3 [])]) (c := ⟨[(0, none), (3, none), (5, none)], [none], []⟩) (e := .normal) (s1 := (nspeculumref09_CheckFit_l0_0_h a0 a1 (w64 (x5 + 1)))) (an (an (an (ti (ti (ti (ti (ti trivial))))) (an (decide_eq_true h1975) trivial)) (an (an (ti trivial) (an (an (ti trivial) e2011) (an (ti (ti trivial)) (an (not_f (decide_eq_true h2012)) trivial)))) (ti (ti (ti trivial))))) (ti trivial)) (by kernel_rfl)
    cases r with
    | inl r => exact round_next pm pn hv hq h2
    | inr r =>
     exact round_next pm pn hv hq h2
   ·injection h with h; subst h
    exact round_stop (c := ⟨[(4, none)], [], []⟩) (s1 := (nspeculumref09_CheckFit_l0_0_e0 a0 a1 ())) pm pn (ans := [.reg (nN 5 []), .br true, .reg (.n :: []), .reg (.n :: []), .sub ⟨[(0, none), (3, none), (5, none), (6, none), (7, none)], [none], []⟩ (.exit 2) (nspeculumref09_CheckFit_l1_0_e0 a0 a1 x5 r2010), .reg (.n :: .n :: []), .br true, .reg (.n :: [])]) (by kernel_rfl) (by intro e; cases e) (an (an (an (ti (ti (ti (ti (ti trivial))))) (an (decide_eq_true h1975) trivial)) (an (ti trivial) (an (an (ti trivial) e2011) (an (ti (ti trivial)) (an (not_t (decide_eq_false h2012)) (an (ti trivial) trivial)))))) (ti trivial))
  ·injection h with h; subst h
   exact round_stop (c := ⟨[], [], []⟩) (s1 := (nspeculumref09_CheckFit_l0_0_e1 a0 a1 ())) pm pn (ans := [.reg (nN 5 []), .br false]) (by kernel_rfl) (by intro e; cases e) (an (an (ti (ti (ti (ti (ti trivial))))) (an (decide_eq_false h1975) trivial)) (ti trivial))
def arBA_16 (z0 : (List SSkyStar)) : List Ans := (nN 6 (.v (VV.tr (List.map vi ((z0.getD ((0 : Int)).toNat default).Shapes)) (((z0.getD ((0 : Int)).toNat default).Shapes).length)) :: .n :: .n :: []))
def nspeculumref09_CheckFit (k : Nat) (a0 : (List SSkyStar)) (a1 : SSkyModel) : Option Int :=
  if (0 : Int) ≤ 0 ∧ 0 < (a0.length : Int) then (if (a1.Terms.length : Int) = (((a0.getD ((0 : Int)).toNat default).Shapes).length : Int) then ((nspeculumref09_CheckFit_l0_0 k a0 a1 k 0).bind fun r2014 => (match r2014 with | .inl r2015 => (some 22) | .inr r2016 => (some 0))) else (some 10)) else none
theorem nspeculumref09_CheckFit_ok (k : Nat) (a0 : (List SSkyStar)) (a1 : SSkyModel) (r : Int) (h : nspeculumref09_CheckFit k a0 a1 = some r) : VC Go.Proofs.Try.prog 39 [VV.tr (List.flatMap c_SSkyStar a0) a0.length, VV.ag (c_SSkyModel a1)] (vi r) := by
 unfold nspeculumref09_CheckFit at h
 obtain ⟨h1895, h⟩ := ifn h
 have e1896 := (show loadL Go.Proofs.Try.prog 41 (((0 : Int)).toNat * 2 + 0) (List.flatMap c_SSkyStar a0) = some (VV.tr (List.map vi ((a0.getD ((0 : Int)).toNat default).Shapes)) (((a0.getD ((0 : Int)).toNat default).Shapes).length)) from (ld_flat ag41 c_SSkyStar 2 0 len_c_SSkyStar (by omega) a0 default h1895 (by omega)).trans rfl)
 have e1897 := (ti (ti (ti (ti (an h1895 (ti (an e1896 (ti (ti trivial)))))))))
 rcases ifs h with ⟨h1898, h⟩ | ⟨h1898, h⟩
 ·obtain ⟨r2014, h2013, h⟩ := bs h
  have hph2013 := nspeculumref09_CheckFit_l0_0_ok k a0 a1 _ _ _ h2013
  cases r2014 with
  | inl r2015 =>
   dsimp only at h
   have e2017 := (an (ti trivial) (VRun.loop hph2013))
   injection h with h; subst h
   exact fun_ok pm pn Go.Proofs.Try.func39 (r0 := vi 22) (ans := [.reg (.n :: .n :: []), .reg (arBA_16 a0), .br false, .reg (.n :: []), .sub ⟨[(0, none), (3, none), (5, none)], [none], []⟩ .ret (nspeculumref09_CheckFit_l0_0_e0 a0 a1 r2015)]) (fr := true) (by kernel_rfl) (an (an (ti (ti trivial)) (an (an e1897 (an (not_f (decide_eq_true h1898)) trivial)) (an (ti trivial) e2017))) (ti trivial)) (Wv.refl _)
  | inr r2016 =>
   dsimp only at h
   have e2018 := (an (ti trivial) (VRun.loop hph2013))
   injection h with h; subst h
   exact fun_ok pm pn Go.Proofs.Try.func39 (r0 := vi 0) (ans := [.reg (.n :: .n :: []), .reg (arBA_16 a0), .br false, .reg (.n :: []), .sub ⟨[(0, none), (3, none), (5, none)], [none], []⟩ (.exit 0) (nspeculumref09_CheckFit_l0_0_e1 a0 a1 r2016), .reg (.n :: [])]) (fr := true) (by kernel_rfl) (an (an (ti (ti trivial)) (an (an e1897 (an (not_f (decide_eq_true h1898)) trivial)) (an (an (ti trivial) e2018) (an (ti trivial) trivial)))) (ti trivial)) (Wv.refl _)
 ·injection h with h; subst h
  exact fun_ok pm pn Go.Proofs.Try.func39 (r0 := vi 10) (ans := [.reg (.n :: .n :: []), .reg (arBA_16 a0), .br true, .reg (.n :: [])]) (fr := true) (by kernel_rfl) (an (an (ti (ti trivial)) (an e1897 (an (not_t (decide_eq_false h1898)) (an (ti trivial) trivial)))) (ti trivial)) (Wv.refl _)
def nspeculumbase_Ceil (k : Nat) (a0 : Int) (a1 : Int) : Option Int :=
  (nspeculumbase_Floor k (w64 (0 - a0)) a1).bind fun r2063 => (some (w64 (0 - r2063)))
theorem nspeculumbase_Ceil_ok (k : Nat) (a0 : Int) (a1 : Int) (r : Int) (h : nspeculumbase_Ceil k a0 a1 = some r) : VC Go.Proofs.Try.prog 82 [vi a0, vi a1] (vi r) := by
 unfold nspeculumbase_Ceil at h
 obtain ⟨r2063, h2064, h⟩ := bs h
 have e2065 := (nspeculumbase_Floor_ok k (w64 (0 - a0)) a1 _ h2064)
 injection h with h; subst h
 exact fun_ok pm pn Go.Proofs.Try.func82 (r0 := vi (w64 (0 - r2063))) (ans := [.reg (.n :: []), .reg (nN 3 (.call (vi r2063) :: .n :: .n :: []))]) (fr := true) (by kernel_rfl) (an (an (ti trivial) (an (ti (ti (ti (an e2065 (ti (ti trivial)))))) trivial)) (ti trivial)) (Wv.refl _)
def nspeculumref09_Predicted_l0_0_h (a0 : SSkyModel) (a1 : (List Int)) (x6 : Int) : VS := ⟨mkA [(1, VV.tr (List.map vi a1) a1.length), (2, VV.pt 0 0), (4, VV.pt 1 0), (6, vi x6)], [some ⟨true, 1, c_SSkyModel a0⟩, some ⟨true, 1, [vi 0, vi 0]⟩], .nil⟩
def nspeculumref09_Predicted_l0_0_e0 (a0 : SSkyModel) (a1 : (List Int)) (r : Unit) : VS := ⟨mkA [(4, VV.pt 1 0), (5, vi 2)], [some ⟨true, 1, c_SSkyModel a0⟩, some ⟨true, 1, [vi 0, vi 0]⟩], .nil⟩
def nspeculumref09_Predicted_l0_0_e1 (a0 : SSkyModel) (a1 : (List Int)) (r : Unit) : VS := ⟨mkA [(1, VV.tr (List.map vi a1) a1.length), (2, VV.pt 0 0), (4, VV.pt 1 0)], [some ⟨true, 1, c_SSkyModel a0⟩, some ⟨true, 1, [vi 0, vi 0]⟩], .nil⟩
def nspeculumref09_Predicted_l0_0 (k : Nat) (a0 : SSkyModel) (a1 : (List Int)) : Nat → Int → Option (Sum Unit Unit)
  | 0, _ => none
  | fuel + 1, x6 => if x6 < (a1.length : Int) then (if 0 ≤ x6 ∧ x6 < (a1.length : Int) then ((nspeculumbase_Within k (a1.getD x6.toNat 0) (-1000) 1000).bind fun r2090 => (if r2090 = true then (nspeculumref09_Predicted_l0_0 k a0 a1 fuel (w64 (x6 + 1))) else (some (.inl ())))) else none) else (some (.inr ()))
theorem nspeculumref09_Predicted_l0_0_ok (k : Nat) (a0 : SSkyModel) (a1 : (List Int)) : ∀ (fuel : Nat) (x6 : Int) (r : Sum Unit Unit), nspeculumref09_Predicted_l0_0 k a0 a1 fuel x6 = some r → (match r with | .inl r => VLoop none Go.Proofs.Try.prog (szF Go.Proofs.Try.f40) (bodyOf Go.Proofs.Try.f40 0) (nspeculumref09_Predicted_l0_0_h a0 a1 x6) .ret (nspeculumref09_Predicted_l0_0_e0 a0 a1 r) | .inr r => VLoop none Go.Proofs.Try.prog (szF Go.Proofs.Try.f40) (bodyOf Go.Proofs.Try.f40 0) (nspeculumref09_Predicted_l0_0_h a0 a1 x6) (.exit 0) (nspeculumref09_Predicted_l0_0_e1 a0 a1 r)) := by
 intro fuel
 induction fuel with
 | zero => intro x6 r h; rw [nspeculumref09_Predicted_l0_0.eq_1] at h; cases h
 | succ fuel ih =>
  intro x6 r h
  rw [nspeculumref09_Predicted_l0_0.eq_2] at h
  rcases ifs h with ⟨h2087, h⟩ | ⟨h2087, h⟩
  ·obtain ⟨h2088, h⟩ := ifn h
   have e2089 := (show loadL Go.Proofs.Try.prog 3 (x6.toNat * 1) (List.map vi a1) = some (vi (a1.getD x6.toNat 0)) from ld_map ag3 vi a1 0 h2088 (by omega))
   obtain ⟨r2090, h2091, h⟩ := bs h
   have e2092 := (nspeculumbase_Within_ok k (a1.getD x6.toNat 0) (-1000) 1000 _ h2091)
   have e2093 := (ti (ti (an h2088 (an e2089 (an e2092 (ti trivial))))))
   rcases ifs h with ⟨h2094, h⟩ | ⟨h2094, h⟩
   ·have h2 := ih _ _ h
    obtain ⟨q, hv, hq⟩ := pkR (rd := none) (P := Go.Proofs.Try.prog) (fn := Go.Proofs.Try.f40) (k := 0) (s := (nspeculumref09_Predicted_l0_0_h a0 a1 x6)) (ans := [.reg (nN 4 []), .br true, .reg (nN 3 (.v (vi (a1.getD x6.toNat 0)) :: .call (vb r2090) :: .n :: [])), .br false, .reg (nN 3 [])]) (c := ⟨[(1, none), (2, none), (4, none), (6, none)], [none, none], []⟩) (e := .normal) (s1 := (nspeculumref09_Predicted_l0_0_h a0 a1 (w64 (x6 + 1)))) (an (an (an (ti (ti (ti (ti trivial)))) (an (decide_eq_true h2087) trivial)) (an (an e2093 (an (not_f h2094) trivial)) (ti (ti (ti trivial))))) (ti trivial)) (by kernel_rfl)
    cases r with
    | inl r => exact round_next pm pn hv hq h2
    | inr r =>
     exact round_next pm pn hv hq h2
   ·injection h with h; subst h
    exact round_stop (c := ⟨[(4, none), (5, none)], [none, none], []⟩) (s1 := (nspeculumref09_Predicted_l0_0_e0 a0 a1 ())) pm pn (ans := [.reg (nN 4 []), .br true, .reg (nN 3 (.v (vi (a1.getD x6.toNat 0)) :: .call (vb r2090) :: .n :: [])), .br true, .reg (nN 3 [])]) (by kernel_rfl) (by intro e; cases e) (an (an (an (ti (ti (ti (ti trivial)))) (an (decide_eq_true h2087) trivial)) (an e2093 (an (not_t (bool_f h2094)) (an (ti (ti (ti trivial))) trivial)))) (ti trivial))
  ·injection h with h; subst h
   exact round_stop (c := ⟨[(1, none), (2, none), (4, none)], [none, none], []⟩) (s1 := (nspeculumref09_Predicted_l0_0_e1 a0 a1 ())) pm pn (ans := [.reg (nN 4 []), .br false]) (by kernel_rfl) (by intro e; cases e) (an (an (ti (ti (ti (ti trivial)))) (an (decide_eq_false h2087) trivial)) (ti trivial))
def nspeculumref09_Predicted (k : Nat) (a0 : SSkyModel) (a1 : (List Int)) : Option (SRange × Int) :=
  if (a1.length : Int) = (a0.Terms.length : Int) then ((nspeculumref09_Predicted_l0_0 k a0 a1 k 0).bind fun r2096 => (match r2096 with | .inl r2097 => (some ((⟨0, 0⟩ : SRange), 2)) | .inr r2098 => ((nspeculumref09_predicted k a0 a1).bind fun r2101 => ((nspeculumbase_Floor k r2101 a0.Den).bind fun r2104 => ((nspeculumbase_Ceil k r2101 a0.Den).bind fun r2107 => (some ((⟨r2104, r2107⟩ : SRange), 0))))))) else (some ((⟨0, 0⟩ : SRange), 10))
theorem nspeculumref09_Predicted_ok (k : Nat) (a0 : SSkyModel) (a1 : (List Int)) (r : (SRange × Int)) (h : nspeculumref09_Predicted k a0 a1 = some r) : VC Go.Proofs.Try.prog 40 [VV.ag (c_SSkyModel a0), VV.tr (List.map vi a1) a1.length] (VV.tu [VV.ag (c_SRange r.1), vi r.2]) := by
 unfold nspeculumref09_Predicted at h
 rcases ifs h with ⟨h2070, h⟩ | ⟨h2070, h⟩
 ·obtain ⟨r2096, h2095, h⟩ := bs h
  have hph2095 := nspeculumref09_Predicted_l0_0_ok k a0 a1 _ _ _ h2095
  cases r2096 with
  | inl r2097 =>
   dsimp only at h
   have e2099 := (an (ti trivial) (VRun.loop hph2095))
   injection h with h; subst h
   exact fun_ok pm pn Go.Proofs.Try.func40 (r0 := VV.tu [VV.ag [vi 0, vi 0], vi 2]) (ans := [.reg (nN 3 []), .reg (nN 6 []), .br false, .reg (.n :: []), .sub ⟨[(1, none), (2, none), (4, none), (6, none)], [none, none], []⟩ .ret (nspeculumref09_Predicted_l0_0_e0 a0 a1 r2097)]) (fr := true) (by kernel_rfl) (an (an (ti (ti (ti trivial))) (an (an (ti (ti (ti (ti (ti (ti trivial)))))) (an (not_f (decide_eq_true h2070)) trivial)) (an (ti trivial) e2099))) (an (ti (ti (ti trivial))) (ti trivial))) (Wv.of_eq eqBA_9)
  | inr r2098 =>
   dsimp only at h
   have e2100 := (an (ti trivial) (VRun.loop hph2095))
   obtain ⟨r2101, h2102, h⟩ := bs h
   have e2103 := (nspeculumref09_predicted_ok k a0 a1 _ h2102)
   obtain ⟨r2104, h2105, h⟩ := bs h
   have e2106 := (nspeculumbase_Floor_ok k r2101 a0.Den _ h2105)
   obtain ⟨r2107, h2108, h⟩ := bs h
   have e2109 := (nspeculumbase_Ceil_ok k r2101 a0.Den _ h2108)
   have e2110 := (ti (ti (ti (an e2106 (ti (ti (ti (an e2109 (ti (ti (ti trivial)))))))))))
   injection h with h; subst h
   exact fun_ok pm pn Go.Proofs.Try.func40 (r0 := VV.tu [VV.ag [vi r2104, vi r2107], vi 0]) (ans := [.reg (nN 3 []), .reg (nN 6 []), .br false, .reg (.n :: []), .sub ⟨[(1, none), (2, none), (4, none), (6, none)], [none, none], []⟩ (.exit 0) (nspeculumref09_Predicted_l0_0_e1 a0 a1 r2098), .reg (.n :: .n :: .call (vi r2101) :: .n :: []), .reg (nN 3 (.call (vi r2104) :: nN 3 (.call (vi r2107) :: nN 3 [])))]) (fr := true) (by kernel_rfl) (an (an (ti (ti (ti trivial))) (an (an (ti (ti (ti (ti (ti (ti trivial)))))) (an (not_f (decide_eq_true h2070)) trivial)) (an (an (ti trivial) e2100) (an (ti (ti (an e2103 (ti trivial)))) (an e2110 trivial))))) (an (ti (ti (ti trivial))) (ti trivial))) (Wv.of_eq (eqBA_8 r2104 r2107))
 ·injection h with h; subst h
  exact fun_ok pm pn Go.Proofs.Try.func40 (r0 := VV.tu [VV.ag [vi 0, vi 0], vi 10]) (ans := [.reg (nN 3 []), .reg (nN 6 []), .br true, .reg (nN 3 [])]) (fr := true) (by kernel_rfl) (an (an (ti (ti (ti trivial))) (an (ti (ti (ti (ti (ti (ti trivial)))))) (an (not_t (decide_eq_false h2070)) (an (ti (ti (ti trivial))) trivial)))) (an (ti (ti (ti trivial))) (ti trivial))) (Wv.of_eq eqBA_10)
def arBA_17 (z0 : (List SSkyStar)) (z1 : SSkyModel) (z2 : Int) : List Ans := (.n :: .call (VV.fr (List.flatMap c_SSkyStar z0) z0.length) :: .n :: .call (VV.ag (g_SSkyModel z1)) :: .call (vi z2) :: .n :: [])
def arBA_18 (z0 : SSkyModel) (z1 : (List Int)) (z2 : (SRange × Int)) : List Ans := (.n :: .call (VV.ag (g_SSkyModel z0)) :: .n :: .call (VV.fr (List.map vi z1) z1.length) :: .call (VV.tu [VV.ag (c_SRange z2.1), vi z2.2]) :: nN 6 [])
def nspeculumlaw09_PointFits (k : Nat) (a0 : (List SSkyStar)) (a1 : SSkyModel) (a2 : (List Int)) : Option Bool :=
  (nawake k).bind fun r2139 => (if r2139 = true then ((nspeculumlaw09_Few k a0).bind fun r2142 => (if r2142 = true then (if 6 < (a1.Terms.length : Int) then (some true) else (if 6 < (a2.length : Int) then (some true) else ((nspeculumlaw09_stars k a0).bind fun r2149 => ((nspeculumlaw09_model k a1).bind fun r2152 => ((npoint_CheckFit k r2149 r2152).bind fun r2154 => ((nspeculumbase_CopyInts k a2).bind fun r2159 => ((npoint_Predicted k r2152 r2159).bind fun r2162 => ((nspeculumref09_CheckModel k a1).bind fun r2166 => ((npoint_CheckModel k r2152).bind fun r2170 => (if r2170 = r2166 then ((nspeculumref09_CheckStars k a0).bind fun r2174 => (if r2174.2 = 0 then (if r2166 = 0 then ((nspeculumref09_CheckFit k a0 a1).bind fun r2179 => (if r2154 = r2179 then ((nspeculumref09_Predicted k a1 a2).bind fun r2183 => (if r2162.2 = r2183.2 then (some ((r2162.1.Lo : Int) == r2183.1.Lo && ((r2162.1.Hi : Int) == r2183.1.Hi && true))) else (some false))) else (some false))) else (if r2154 = r2166 then (if r2162.2 = r2166 then (some ((r2162.1.Lo : Int) == 0 && ((r2162.1.Hi : Int) == 0 && true))) else (some false)) else (some false))) else (if r2154 = r2174.2 then (if r2166 = 0 then ((nspeculumref09_Predicted k a1 a2).bind fun r2198 => (if r2162.2 = r2198.2 then (some ((r2162.1.Lo : Int) == r2198.1.Lo && ((r2162.1.Hi : Int) == r2198.1.Hi && true))) else (some false))) else (if r2162.2 = r2166 then (some ((r2162.1.Lo : Int) == 0 && ((r2162.1.Hi : Int) == 0 && true))) else (some false))) else (some false)))) else (some false))))))))))) else (some true))) else (some false))
theorem nspeculumlaw09_PointFits_ok (k : Nat) (a0 : (List SSkyStar)) (a1 : SSkyModel) (a2 : (List Int)) (r : Bool) (h : nspeculumlaw09_PointFits k a0 a1 a2 = some r) : VC Go.Proofs.Try.prog 5 [VV.tr (List.flatMap c_SSkyStar a0) a0.length, VV.ag (c_SSkyModel a1), VV.tr (List.map vi a2) a2.length] (vb r) := by
 unfold nspeculumlaw09_PointFits at h
 obtain ⟨r2139, h2140, h⟩ := bs h
 rcases ifs h with ⟨h2141, h⟩ | ⟨h2141, h⟩
 ·obtain ⟨r2142, h2143, h⟩ := bs h
  rcases ifs h with ⟨h2144, h⟩ | ⟨h2144, h⟩
  ·rcases ifs h with ⟨h2145, h⟩ | ⟨h2145, h⟩
   ·have e2146 := (ti (an (nspeculumlaw09_Few_ok k a0 _ h2143) (ti (ti (an (an (not_f h2144) trivial) (an (an (not_f h2144) trivial) (an (an (not_f h2144) trivial) (an (an (not_f h2144) trivial) (an (not_f h2144) (ti (an (decide_eq_true h2145) (an (decide_eq_true h2145) (an (decide_eq_true h2145) (an (decide_eq_true h2145) trivial))))))))))))))
    injection h with h; subst h
    exact fun_ok pm pn Go.Proofs.Try.func5 (r0 := vb true) (ans := [.reg (.n :: .n :: []), .reg (.call (vb r2139) :: .n :: []), .br false, .reg (.n :: .call (vb r2142) :: nN 6 (.b false :: .n :: nS 3 (.b true :: []))), .br true, .reg (.n :: [])]) (fr := true) (by kernel_rfl) (an (an (ti (ti trivial)) (an (an (an (nawake_ok k _ h2140) (ti trivial)) (an (not_f h2141) trivial)) (an e2146 (an rt (an (ti trivial) trivial))))) (ti trivial)) (Wv.refl _)
   ·have e2147 := (ti (an (nspeculumlaw09_Few_ok k a0 _ h2143) (ti (ti (an (an (not_f h2144) trivial) (an (an (not_f h2144) trivial) (an (an (not_f h2144) trivial) (an (an (not_f h2144) trivial) (an (not_f h2144) (ti (an (an (decide_eq_false h2145) trivial) (an (an (decide_eq_false h2145) trivial) (an (an (decide_eq_false h2145) trivial) (an (decide_eq_false h2145) trivial))))))))))))))
    rcases ifs h with ⟨h2148, h⟩ | ⟨h2148, h⟩
    ·injection h with h; subst h
     exact fun_ok pm pn Go.Proofs.Try.func5 (r0 := vb true) (ans := [.reg (.n :: .n :: []), .reg (.call (vb r2139) :: .n :: []), .br false, .reg (.n :: .call (vb r2142) :: nN 6 (.b false :: nN 4 (.b false :: []))), .br true, .reg (.n :: [])]) (fr := true) (by kernel_rfl) (an (an (ti (ti trivial)) (an (an (an (nawake_ok k _ h2140) (ti trivial)) (an (not_f h2141) trivial)) (an e2147 (an (decide_eq_true h2148) (an (ti trivial) trivial))))) (ti trivial)) (Wv.refl _)
    ·obtain ⟨r2149, h2150, h⟩ := bs h
     have e2151 := (show VC Go.Proofs.Try.prog 28 [VV.tr (List.flatMap c_SSkyStar a0) a0.length] (VV.fr (List.flatMap c_SSkyStar r2149) r2149.length) from (VC.weak (nspeculumlaw09_stars_ok k a0 _ h2150) (Wv.fw rfl rfl)))
     obtain ⟨r2152, h2153, h⟩ := bs h
     obtain ⟨r2154, h2155, h⟩ := bs h
     have e2156 := (npoint_CheckFit_ok k r2149 r2152 _ h2155)
     have e2157 := (ti (an e2151 (ti (an (nspeculumlaw09_model_ok k a1 _ h2153) (an e2156 (ti trivial))))))
     obtain ⟨r2159, h2160, h⟩ := bs h
     have e2161 := (show VC Go.Proofs.Try.prog 37 [VV.tr (List.map vi a2) a2.length] (VV.fr (List.map vi r2159) r2159.length) from (VC.weak (nspeculumbase_CopyInts_ok k a2 _ h2160) (Wv.fw rfl rfl)))
     obtain ⟨r2162, h2163, h⟩ := bs h
     have e2164 := (npoint_Predicted_ok k r2152 r2159 _ h2163)
     have e2165 := (ti (an (nspeculumlaw09_model_ok k a1 _ h2153) (ti (an e2161 (an e2164 (ti (ti (ti (ti (ti (ti trivial)))))))))))
     obtain ⟨r2166, h2167, h⟩ := bs h
     have e2168 := (nspeculumref09_CheckModel_ok k a1 _ h2167)
     obtain ⟨r2170, h2171, h⟩ := bs h
     have e2172 := (ti (an (nspeculumlaw09_model_ok k a1 _ h2153) (an (npoint_CheckModel_ok k r2152 _ h2171) (ti (ti trivial)))))
     rcases ifs h with ⟨h2173, h⟩ | ⟨h2173, h⟩
     ·obtain ⟨r2174, h2175, h⟩ := bs h
      have e2176 := (nspeculumref09_CheckStars_ok k a0 _ h2175)
      rcases ifs h with ⟨h2177, h⟩ | ⟨h2177, h⟩
      ·rcases ifs h with ⟨h2178, h⟩ | ⟨h2178, h⟩
       ·obtain ⟨r2179, h2180, h⟩ := bs h
        have e2181 := (nspeculumref09_CheckFit_ok k a0 a1 _ h2180)
        rcases ifs h with ⟨h2182, h⟩ | ⟨h2182, h⟩
        ·obtain ⟨r2183, h2184, h⟩ := bs h
         have e2185 := (nspeculumref09_Predicted_ok k a1 a2 _ h2184)
         have e2186 := (ti (ti (an e2185 (ti (ti (ti (ti (ti (ti trivial)))))))))
         rcases ifs h with ⟨h2187, h⟩ | ⟨h2187, h⟩
         ·have e2188 := (an (decide_eq_true h2187) (show List.map kdV [Value.int .i64 r2162.1.Lo, Value.int .i64 r2162.1.Hi] = List.map kdV [Value.int .i64 r2183.1.Lo, Value.int .i64 r2183.1.Hi] ∧ EqOK Go.Proofs.Try.prog 55 (List.map kdV [Value.int .i64 r2183.1.Lo, Value.int .i64 r2183.1.Hi]) from ⟨rfl, eqok55⟩))
          have e2189 := (ti (ti (ti (ti (an (an (decide_eq_true h2187) trivial) (an (an (decide_eq_true h2187) trivial) (an e2188 (an (decide_eq_true h2187) (ti trivial)))))))))
          injection h with h; subst h
          exact fun_ok pm pn Go.Proofs.Try.func5 (r0 := vb ((r2162.1.Lo : Int) == r2183.1.Lo && ((r2162.1.Hi : Int) == r2183.1.Hi && true))) (ans := [.reg (.n :: .n :: []), .reg (.call (vb r2139) :: .n :: []), .br false, .reg (.n :: .call (vb r2142) :: nN 6 (.b false :: nN 4 (.b false :: []))), .br false, .reg (arBA_17 r2149 r2152 r2154), .reg (arBA_18 r2152 r2159 r2162), .reg (.n :: .call (vi r2166) :: .n :: []), .reg (.n :: .call (VV.ag (g_SSkyModel r2152)) :: .call (vi r2170) :: .n :: .n :: []), .br false, .reg (.n :: .call (VV.tu [vi r2174.1, vi r2174.2]) :: nN 5 []), .reg (.n :: .n :: []), .br true, .reg (.n :: .n :: []), .reg (.n :: .n :: []), .br true, .reg (.n :: .n :: .call (vi r2179) :: .n :: []), .reg (nN 3 []), .br false, .reg (.n :: .n :: []), .br false, .reg (.n :: .n :: .call (VV.tu [VV.ag (c_SRange r2183.1), vi r2183.2]) :: nN 6 []), .reg (nN 7 (.b true :: .n :: []))]) (fr := true) (by kernel_rfl) (an (an (ti (ti trivial)) (an (an (an (nawake_ok k _ h2140) (ti trivial)) (an (not_f h2141) trivial)) (an (an e2147 (an (decide_eq_false h2148) trivial)) (an e2157 (an e2165 (an (ti (an e2168 (ti trivial))) (an (an e2172 (an (not_f (decide_eq_true h2173)) trivial)) (an (ti (an e2176 (ti (ti (ti (ti (ti trivial))))))) (an (an (ti (ti trivial)) (an (decide_eq_true h2177) (ti (ti trivial)))) (an (an (ti (ti trivial)) (an (decide_eq_true h2178) (ti (ti (an e2181 (ti trivial)))))) (an (an (ti (ti (ti trivial))) (an (not_f (decide_eq_true h2182)) trivial)) (an (an (ti (ti trivial)) (an (not_f (decide_eq_true h2178)) trivial)) (an e2186 (an e2189 trivial)))))))))))))) (ti trivial)) (Wv.refl _)
         ·have e2190 := (ti (ti (ti (ti (an (decide_eq_false h2187) (an (decide_eq_false h2187) (an (decide_eq_false h2187) (an (decide_eq_false h2187) (ti trivial)))))))))
          injection h with h; subst h
          exact fun_ok pm pn Go.Proofs.Try.func5 (r0 := vb false) (ans := [.reg (.n :: .n :: []), .reg (.call (vb r2139) :: .n :: []), .br false, .reg (.n :: .call (vb r2142) :: nN 6 (.b false :: nN 4 (.b false :: []))), .br false, .reg (arBA_17 r2149 r2152 r2154), .reg (arBA_18 r2152 r2159 r2162), .reg (.n :: .call (vi r2166) :: .n :: []), .reg (.n :: .call (VV.ag (g_SSkyModel r2152)) :: .call (vi r2170) :: .n :: .n :: []), .br false, .reg (.n :: .call (VV.tu [vi r2174.1, vi r2174.2]) :: nN 5 []), .reg (.n :: .n :: []), .br true, .reg (.n :: .n :: []), .reg (.n :: .n :: []), .br true, .reg (.n :: .n :: .call (vi r2179) :: .n :: []), .reg (nN 3 []), .br false, .reg (.n :: .n :: []), .br false, .reg (.n :: .n :: .call (VV.tu [VV.ag (c_SRange r2183.1), vi r2183.2]) :: nN 6 []), .reg (nN 4 (nS 3 (.b false :: .n :: [])))]) (fr := true) (by kernel_rfl) (an (an (ti (ti trivial)) (an (an (an (nawake_ok k _ h2140) (ti trivial)) (an (not_f h2141) trivial)) (an (an e2147 (an (decide_eq_false h2148) trivial)) (an e2157 (an e2165 (an (ti (an e2168 (ti trivial))) (an (an e2172 (an (not_f (decide_eq_true h2173)) trivial)) (an (ti (an e2176 (ti (ti (ti (ti (ti trivial))))))) (an (an (ti (ti trivial)) (an (decide_eq_true h2177) (ti (ti trivial)))) (an (an (ti (ti trivial)) (an (decide_eq_true h2178) (ti (ti (an e2181 (ti trivial)))))) (an (an (ti (ti (ti trivial))) (an (not_f (decide_eq_true h2182)) trivial)) (an (an (ti (ti trivial)) (an (not_f (decide_eq_true h2178)) trivial)) (an e2186 (an e2190 trivial)))))))))))))) (ti trivial)) (Wv.refl _)
        ·injection h with h; subst h
         exact fun_ok pm pn Go.Proofs.Try.func5 (r0 := vb false) (ans := [.reg (.n :: .n :: []), .reg (.call (vb r2139) :: .n :: []), .br false, .reg (.n :: .call (vb r2142) :: nN 6 (.b false :: nN 4 (.b false :: []))), .br false, .reg (arBA_17 r2149 r2152 r2154), .reg (arBA_18 r2152 r2159 r2162), .reg (.n :: .call (vi r2166) :: .n :: []), .reg (.n :: .call (VV.ag (g_SSkyModel r2152)) :: .call (vi r2170) :: .n :: .n :: []), .br false, .reg (.n :: .call (VV.tu [vi r2174.1, vi r2174.2]) :: nN 5 []), .reg (.n :: .n :: []), .br true, .reg (.n :: .n :: []), .reg (.n :: .n :: []), .br true, .reg (.n :: .n :: .call (vi r2179) :: .n :: []), .reg (nN 3 []), .br true, .reg (.n :: [])]) (fr := true) (by kernel_rfl) (an (an (ti (ti trivial)) (an (an (an (nawake_ok k _ h2140) (ti trivial)) (an (not_f h2141) trivial)) (an (an e2147 (an (decide_eq_false h2148) trivial)) (an e2157 (an e2165 (an (ti (an e2168 (ti trivial))) (an (an e2172 (an (not_f (decide_eq_true h2173)) trivial)) (an (ti (an e2176 (ti (ti (ti (ti (ti trivial))))))) (an (an (ti (ti trivial)) (an (decide_eq_true h2177) (ti (ti trivial)))) (an (an (ti (ti trivial)) (an (decide_eq_true h2178) (ti (ti (an e2181 (ti trivial)))))) (an (ti (ti (ti trivial))) (an (not_t (decide_eq_false h2182)) (an (ti trivial) trivial))))))))))))) (ti trivial)) (Wv.refl _)
       ·rcases ifs h with ⟨h2191, h⟩ | ⟨h2191, h⟩
        ·rcases ifs h with ⟨h2192, h⟩ | ⟨h2192, h⟩
         ·have e2193 := (an (decide_eq_true h2192) (show List.map kdV [Value.int .i64 r2162.1.Lo, Value.int .i64 r2162.1.Hi] = List.map kdV [Value.int .i64 0, Value.int .i64 0] ∧ EqOK Go.Proofs.Try.prog 55 (List.map kdV [Value.int .i64 0, Value.int .i64 0]) from ⟨rfl, eqok55⟩))
          have e2194 := (ti (ti (ti (ti (an (an (decide_eq_true h2192) trivial) (an (an (decide_eq_true h2192) trivial) (an e2193 (an (decide_eq_true h2192) (ti trivial)))))))))
          injection h with h; subst h
          exact fun_ok pm pn Go.Proofs.Try.func5 (r0 := vb ((r2162.1.Lo : Int) == 0 && ((r2162.1.Hi : Int) == 0 && true))) (ans := [.reg (.n :: .n :: []), .reg (.call (vb r2139) :: .n :: []), .br false, .reg (.n :: .call (vb r2142) :: nN 6 (.b false :: nN 4 (.b false :: []))), .br false, .reg (arBA_17 r2149 r2152 r2154), .reg (arBA_18 r2152 r2159 r2162), .reg (.n :: .call (vi r2166) :: .n :: []), .reg (.n :: .call (VV.ag (g_SSkyModel r2152)) :: .call (vi r2170) :: .n :: .n :: []), .br false, .reg (.n :: .call (VV.tu [vi r2174.1, vi r2174.2]) :: nN 5 []), .reg (.n :: .n :: []), .br true, .reg (.n :: .n :: []), .reg (.n :: .n :: []), .br false, .reg (nN 3 []), .br false, .reg (.n :: .n :: []), .br true, .reg (nN 7 (.b true :: .n :: []))]) (fr := true) (by kernel_rfl) (an (an (ti (ti trivial)) (an (an (an (nawake_ok k _ h2140) (ti trivial)) (an (not_f h2141) trivial)) (an (an e2147 (an (decide_eq_false h2148) trivial)) (an e2157 (an e2165 (an (ti (an e2168 (ti trivial))) (an (an e2172 (an (not_f (decide_eq_true h2173)) trivial)) (an (ti (an e2176 (ti (ti (ti (ti (ti trivial))))))) (an (an (ti (ti trivial)) (an (decide_eq_true h2177) (ti (ti trivial)))) (an (an (ti (ti trivial)) (an (decide_eq_false h2178) trivial)) (an (an (ti (ti (ti trivial))) (an (not_f (decide_eq_true h2191)) trivial)) (an (ti (ti trivial)) (an (not_t (decide_eq_false h2178)) (an e2194 trivial)))))))))))))) (ti trivial)) (Wv.refl _)
         ·have e2195 := (ti (ti (ti (ti (an (decide_eq_false h2192) (an (decide_eq_false h2192) (an (decide_eq_false h2192) (an (decide_eq_false h2192) (ti trivial)))))))))
          injection h with h; subst h
          exact fun_ok pm pn Go.Proofs.Try.func5 (r0 := vb false) (ans := [.reg (.n :: .n :: []), .reg (.call (vb r2139) :: .n :: []), .br false, .reg (.n :: .call (vb r2142) :: nN 6 (.b false :: nN 4 (.b false :: []))), .br false, .reg (arBA_17 r2149 r2152 r2154), .reg (arBA_18 r2152 r2159 r2162), .reg (.n :: .call (vi r2166) :: .n :: []), .reg (.n :: .call (VV.ag (g_SSkyModel r2152)) :: .call (vi r2170) :: .n :: .n :: []), .br false, .reg (.n :: .call (VV.tu [vi r2174.1, vi r2174.2]) :: nN 5 []), .reg (.n :: .n :: []), .br true, .reg (.n :: .n :: []), .reg (.n :: .n :: []), .br false, .reg (nN 3 []), .br false, .reg (.n :: .n :: []), .br true, .reg (nN 4 (nS 3 (.b false :: .n :: [])))]) (fr := true) (by kernel_rfl) (an (an (ti (ti trivial)) (an (an (an (nawake_ok k _ h2140) (ti trivial)) (an (not_f h2141) trivial)) (an (an e2147 (an (decide_eq_false h2148) trivial)) (an e2157 (an e2165 (an (ti (an e2168 (ti trivial))) (an (an e2172 (an (not_f (decide_eq_true h2173)) trivial)) (an (ti (an e2176 (ti (ti (ti (ti (ti trivial))))))) (an (an (ti (ti trivial)) (an (decide_eq_true h2177) (ti (ti trivial)))) (an (an (ti (ti trivial)) (an (decide_eq_false h2178) trivial)) (an (an (ti (ti (ti trivial))) (an (not_f (decide_eq_true h2191)) trivial)) (an (ti (ti trivial)) (an (not_t (decide_eq_false h2178)) (an e2195 trivial)))))))))))))) (ti trivial)) (Wv.refl _)
        ·injection h with h; subst h
         exact fun_ok pm pn Go.Proofs.Try.func5 (r0 := vb false) (ans := [.reg (.n :: .n :: []), .reg (.call (vb r2139) :: .n :: []), .br false, .reg (.n :: .call (vb r2142) :: nN 6 (.b false :: nN 4 (.b false :: []))), .br false, .reg (arBA_17 r2149 r2152 r2154), .reg (arBA_18 r2152 r2159 r2162), .reg (.n :: .call (vi r2166) :: .n :: []), .reg (.n :: .call (VV.ag (g_SSkyModel r2152)) :: .call (vi r2170) :: .n :: .n :: []), .br false, .reg (.n :: .call (VV.tu [vi r2174.1, vi r2174.2]) :: nN 5 []), .reg (.n :: .n :: []), .br true, .reg (.n :: .n :: []), .reg (.n :: .n :: []), .br false, .reg (nN 3 []), .br true, .reg (.n :: [])]) (fr := true) (by kernel_rfl) (an (an (ti (ti trivial)) (an (an (an (nawake_ok k _ h2140) (ti trivial)) (an (not_f h2141) trivial)) (an (an e2147 (an (decide_eq_false h2148) trivial)) (an e2157 (an e2165 (an (ti (an e2168 (ti trivial))) (an (an e2172 (an (not_f (decide_eq_true h2173)) trivial)) (an (ti (an e2176 (ti (ti (ti (ti (ti trivial))))))) (an (an (ti (ti trivial)) (an (decide_eq_true h2177) (ti (ti trivial)))) (an (an (ti (ti trivial)) (an (decide_eq_false h2178) trivial)) (an (ti (ti (ti trivial))) (an (not_t (decide_eq_false h2191)) (an (ti trivial) trivial))))))))))))) (ti trivial)) (Wv.refl _)
      ·rcases ifs h with ⟨h2196, h⟩ | ⟨h2196, h⟩
       ·rcases ifs h with ⟨h2197, h⟩ | ⟨h2197, h⟩
        ·obtain ⟨r2198, h2199, h⟩ := bs h
         have e2200 := (nspeculumref09_Predicted_ok k a1 a2 _ h2199)
         have e2201 := (ti (ti (an e2200 (ti (ti (ti (ti (ti (ti trivial)))))))))
         rcases ifs h with ⟨h2202, h⟩ | ⟨h2202, h⟩
         ·have e2203 := (an (decide_eq_true h2202) (show List.map kdV [Value.int .i64 r2162.1.Lo, Value.int .i64 r2162.1.Hi] = List.map kdV [Value.int .i64 r2198.1.Lo, Value.int .i64 r2198.1.Hi] ∧ EqOK Go.Proofs.Try.prog 55 (List.map kdV [Value.int .i64 r2198.1.Lo, Value.int .i64 r2198.1.Hi]) from ⟨rfl, eqok55⟩))
          have e2204 := (ti (ti (ti (ti (an (an (decide_eq_true h2202) trivial) (an (an (decide_eq_true h2202) trivial) (an e2203 (an (decide_eq_true h2202) (ti trivial)))))))))
          injection h with h; subst h
          exact fun_ok pm pn Go.Proofs.Try.func5 (r0 := vb ((r2162.1.Lo : Int) == r2198.1.Lo && ((r2162.1.Hi : Int) == r2198.1.Hi && true))) (ans := [.reg (.n :: .n :: []), .reg (.call (vb r2139) :: .n :: []), .br false, .reg (.n :: .call (vb r2142) :: nN 6 (.b false :: nN 4 (.b false :: []))), .br false, .reg (arBA_17 r2149 r2152 r2154), .reg (arBA_18 r2152 r2159 r2162), .reg (.n :: .call (vi r2166) :: .n :: []), .reg (.n :: .call (VV.ag (g_SSkyModel r2152)) :: .call (vi r2170) :: .n :: .n :: []), .br false, .reg (.n :: .call (VV.tu [vi r2174.1, vi r2174.2]) :: nN 5 []), .reg (.n :: .n :: []), .br false, .reg (.n :: .n :: []), .br false, .reg (nN 3 []), .br false, .reg (.n :: .n :: []), .br false, .reg (.n :: .n :: .call (VV.tu [VV.ag (c_SRange r2198.1), vi r2198.2]) :: nN 6 []), .reg (nN 7 (.b true :: .n :: []))]) (fr := true) (by kernel_rfl) (an (an (ti (ti trivial)) (an (an (an (nawake_ok k _ h2140) (ti trivial)) (an (not_f h2141) trivial)) (an (an e2147 (an (decide_eq_false h2148) trivial)) (an e2157 (an e2165 (an (ti (an e2168 (ti trivial))) (an (an e2172 (an (not_f (decide_eq_true h2173)) trivial)) (an (ti (an e2176 (ti (ti (ti (ti (ti trivial))))))) (an (an (ti (ti trivial)) (an (decide_eq_false h2177) trivial)) (an (an (ti (ti trivial)) (an (decide_eq_false h2177) trivial)) (an (an (ti (ti (ti trivial))) (an (not_f (decide_eq_true h2196)) trivial)) (an (an (ti (ti trivial)) (an (not_f (decide_eq_true h2197)) trivial)) (an e2201 (an e2204 trivial)))))))))))))) (ti trivial)) (Wv.refl _)
         ·have e2205 := (ti (ti (ti (ti (an (decide_eq_false h2202) (an (decide_eq_false h2202) (an (decide_eq_false h2202) (an (decide_eq_false h2202) (ti trivial)))))))))
          injection h with h; subst h
          exact fun_ok pm pn Go.Proofs.Try.func5 (r0 := vb false) (ans := [.reg (.n :: .n :: []), .reg (.call (vb r2139) :: .n :: []), .br false, .reg (.n :: .call (vb r2142) :: nN 6 (.b false :: nN 4 (.b false :: []))), .br false, .reg (arBA_17 r2149 r2152 r2154), .reg (arBA_18 r2152 r2159 r2162), .reg (.n :: .call (vi r2166) :: .n :: []), .reg (.n :: .call (VV.ag (g_SSkyModel r2152)) :: .call (vi r2170) :: .n :: .n :: []), .br false, .reg (.n :: .call (VV.tu [vi r2174.1, vi r2174.2]) :: nN 5 []), .reg (.n :: .n :: []), .br false, .reg (.n :: .n :: []), .br false, .reg (nN 3 []), .br false, .reg (.n :: .n :: []), .br false, .reg (.n :: .n :: .call (VV.tu [VV.ag (c_SRange r2198.1), vi r2198.2]) :: nN 6 []), .reg (nN 4 (nS 3 (.b false :: .n :: [])))]) (fr := true) (by kernel_rfl) (an (an (ti (ti trivial)) (an (an (an (nawake_ok k _ h2140) (ti trivial)) (an (not_f h2141) trivial)) (an (an e2147 (an (decide_eq_false h2148) trivial)) (an e2157 (an e2165 (an (ti (an e2168 (ti trivial))) (an (an e2172 (an (not_f (decide_eq_true h2173)) trivial)) (an (ti (an e2176 (ti (ti (ti (ti (ti trivial))))))) (an (an (ti (ti trivial)) (an (decide_eq_false h2177) trivial)) (an (an (ti (ti trivial)) (an (decide_eq_false h2177) trivial)) (an (an (ti (ti (ti trivial))) (an (not_f (decide_eq_true h2196)) trivial)) (an (an (ti (ti trivial)) (an (not_f (decide_eq_true h2197)) trivial)) (an e2201 (an e2205 trivial)))))))))))))) (ti trivial)) (Wv.refl _)
        ·rcases ifs h with ⟨h2206, h⟩ | ⟨h2206, h⟩
         ·have e2207 := (an (decide_eq_true h2206) (show List.map kdV [Value.int .i64 r2162.1.Lo, Value.int .i64 r2162.1.Hi] = List.map kdV [Value.int .i64 0, Value.int .i64 0] ∧ EqOK Go.Proofs.Try.prog 55 (List.map kdV [Value.int .i64 0, Value.int .i64 0]) from ⟨rfl, eqok55⟩))
          have e2208 := (ti (ti (ti (ti (an (an (decide_eq_true h2206) trivial) (an (an (decide_eq_true h2206) trivial) (an e2207 (an (decide_eq_true h2206) (ti trivial)))))))))
          injection h with h; subst h
          exact fun_ok pm pn Go.Proofs.Try.func5 (r0 := vb ((r2162.1.Lo : Int) == 0 && ((r2162.1.Hi : Int) == 0 && true))) (ans := [.reg (.n :: .n :: []), .reg (.call (vb r2139) :: .n :: []), .br false, .reg (.n :: .call (vb r2142) :: nN 6 (.b false :: nN 4 (.b false :: []))), .br false, .reg (arBA_17 r2149 r2152 r2154), .reg (arBA_18 r2152 r2159 r2162), .reg (.n :: .call (vi r2166) :: .n :: []), .reg (.n :: .call (VV.ag (g_SSkyModel r2152)) :: .call (vi r2170) :: .n :: .n :: []), .br false, .reg (.n :: .call (VV.tu [vi r2174.1, vi r2174.2]) :: nN 5 []), .reg (.n :: .n :: []), .br false, .reg (.n :: .n :: []), .br false, .reg (nN 3 []), .br false, .reg (.n :: .n :: []), .br true, .reg (nN 7 (.b true :: .n :: []))]) (fr := true) (by kernel_rfl) (an (an (ti (ti trivial)) (an (an (an (nawake_ok k _ h2140) (ti trivial)) (an (not_f h2141) trivial)) (an (an e2147 (an (decide_eq_false h2148) trivial)) (an e2157 (an e2165 (an (ti (an e2168 (ti trivial))) (an (an e2172 (an (not_f (decide_eq_true h2173)) trivial)) (an (ti (an e2176 (ti (ti (ti (ti (ti trivial))))))) (an (an (ti (ti trivial)) (an (decide_eq_false h2177) trivial)) (an (an (ti (ti trivial)) (an (decide_eq_false h2177) trivial)) (an (an (ti (ti (ti trivial))) (an (not_f (decide_eq_true h2196)) trivial)) (an (ti (ti trivial)) (an (not_t (decide_eq_false h2197)) (an e2208 trivial)))))))))))))) (ti trivial)) (Wv.refl _)
         ·have e2209 := (ti (ti (ti (ti (an (decide_eq_false h2206) (an (decide_eq_false h2206) (an (decide_eq_false h2206) (an (decide_eq_false h2206) (ti trivial)))))))))
          injection h with h; subst h
          exact fun_ok pm pn Go.Proofs.Try.func5 (r0 := vb false) (ans := [.reg (.n :: .n :: []), .reg (.call (vb r2139) :: .n :: []), .br false, .reg (.n :: .call (vb r2142) :: nN 6 (.b false :: nN 4 (.b false :: []))), .br false, .reg (arBA_17 r2149 r2152 r2154), .reg (arBA_18 r2152 r2159 r2162), .reg (.n :: .call (vi r2166) :: .n :: []), .reg (.n :: .call (VV.ag (g_SSkyModel r2152)) :: .call (vi r2170) :: .n :: .n :: []), .br false, .reg (.n :: .call (VV.tu [vi r2174.1, vi r2174.2]) :: nN 5 []), .reg (.n :: .n :: []), .br false, .reg (.n :: .n :: []), .br false, .reg (nN 3 []), .br false, .reg (.n :: .n :: []), .br true, .reg (nN 4 (nS 3 (.b false :: .n :: [])))]) (fr := true) (by kernel_rfl) (an (an (ti (ti trivial)) (an (an (an (nawake_ok k _ h2140) (ti trivial)) (an (not_f h2141) trivial)) (an (an e2147 (an (decide_eq_false h2148) trivial)) (an e2157 (an e2165 (an (ti (an e2168 (ti trivial))) (an (an e2172 (an (not_f (decide_eq_true h2173)) trivial)) (an (ti (an e2176 (ti (ti (ti (ti (ti trivial))))))) (an (an (ti (ti trivial)) (an (decide_eq_false h2177) trivial)) (an (an (ti (ti trivial)) (an (decide_eq_false h2177) trivial)) (an (an (ti (ti (ti trivial))) (an (not_f (decide_eq_true h2196)) trivial)) (an (ti (ti trivial)) (an (not_t (decide_eq_false h2197)) (an e2209 trivial)))))))))))))) (ti trivial)) (Wv.refl _)
       ·injection h with h; subst h
        exact fun_ok pm pn Go.Proofs.Try.func5 (r0 := vb false) (ans := [.reg (.n :: .n :: []), .reg (.call (vb r2139) :: .n :: []), .br false, .reg (.n :: .call (vb r2142) :: nN 6 (.b false :: nN 4 (.b false :: []))), .br false, .reg (arBA_17 r2149 r2152 r2154), .reg (arBA_18 r2152 r2159 r2162), .reg (.n :: .call (vi r2166) :: .n :: []), .reg (.n :: .call (VV.ag (g_SSkyModel r2152)) :: .call (vi r2170) :: .n :: .n :: []), .br false, .reg (.n :: .call (VV.tu [vi r2174.1, vi r2174.2]) :: nN 5 []), .reg (.n :: .n :: []), .br false, .reg (.n :: .n :: []), .br false, .reg (nN 3 []), .br true, .reg (.n :: [])]) (fr := true) (by kernel_rfl) (an (an (ti (ti trivial)) (an (an (an (nawake_ok k _ h2140) (ti trivial)) (an (not_f h2141) trivial)) (an (an e2147 (an (decide_eq_false h2148) trivial)) (an e2157 (an e2165 (an (ti (an e2168 (ti trivial))) (an (an e2172 (an (not_f (decide_eq_true h2173)) trivial)) (an (ti (an e2176 (ti (ti (ti (ti (ti trivial))))))) (an (an (ti (ti trivial)) (an (decide_eq_false h2177) trivial)) (an (an (ti (ti trivial)) (an (decide_eq_false h2177) trivial)) (an (ti (ti (ti trivial))) (an (not_t (decide_eq_false h2196)) (an (ti trivial) trivial))))))))))))) (ti trivial)) (Wv.refl _)
     ·injection h with h; subst h
      exact fun_ok pm pn Go.Proofs.Try.func5 (r0 := vb false) (ans := [.reg (.n :: .n :: []), .reg (.call (vb r2139) :: .n :: []), .br false, .reg (.n :: .call (vb r2142) :: nN 6 (.b false :: nN 4 (.b false :: []))), .br false, .reg (arBA_17 r2149 r2152 r2154), .reg (arBA_18 r2152 r2159 r2162), .reg (.n :: .call (vi r2166) :: .n :: []), .reg (.n :: .call (VV.ag (g_SSkyModel r2152)) :: .call (vi r2170) :: .n :: .n :: []), .br true, .reg (.n :: [])]) (fr := true) (by kernel_rfl) (an (an (ti (ti trivial)) (an (an (an (nawake_ok k _ h2140) (ti trivial)) (an (not_f h2141) trivial)) (an (an e2147 (an (decide_eq_false h2148) trivial)) (an e2157 (an e2165 (an (ti (an e2168 (ti trivial))) (an e2172 (an (not_t (decide_eq_false h2173)) (an (ti trivial) trivial))))))))) (ti trivial)) (Wv.refl _)
  ·have e2210 := (ti (an (nspeculumlaw09_Few_ok k a0 _ h2143) (ti (ti (an (not_t (bool_f h2144)) (an (not_t (bool_f h2144)) (an (not_t (bool_f h2144)) (an (not_t (bool_f h2144)) (an (not_t (bool_f h2144)) (ti (an rt (an rt (an rt (an rt trivial))))))))))))))
   injection h with h; subst h
   exact fun_ok pm pn Go.Proofs.Try.func5 (r0 := vb true) (ans := [.reg (.n :: .n :: []), .reg (.call (vb r2139) :: .n :: []), .br false, .reg (.n :: .call (vb r2142) :: .n :: .n :: nS 4 (.b true :: .n :: nS 3 (.b true :: []))), .br true, .reg (.n :: [])]) (fr := true) (by kernel_rfl) (an (an (ti (ti trivial)) (an (an (an (nawake_ok k _ h2140) (ti trivial)) (an (not_f h2141) trivial)) (an e2210 (an rt (an (ti trivial) trivial))))) (ti trivial)) (Wv.refl _)
 ·injection h with h; subst h
  exact fun_ok pm pn Go.Proofs.Try.func5 (r0 := vb false) (ans := [.reg (.n :: .n :: []), .reg (.call (vb r2139) :: .n :: []), .br true, .reg (.n :: [])]) (fr := true) (by kernel_rfl) (an (an (ti (ti trivial)) (an (an (nawake_ok k _ h2140) (ti trivial)) (an (not_t (bool_f h2141)) (an (ti trivial) trivial)))) (ti trivial)) (Wv.refl _)
end Go.Proofs.Ytlhnkehohknhbaa.Vg

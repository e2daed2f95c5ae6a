/- Written by a program out of the program: what Go functions do, as plain functions, and their contracts. -/
import Derived.Test.YtnfiipmcggjahaaWa
namespace Go.Proofs.Ytnfiipmcggjahaa.Vg
set_option maxRecDepth 100000
set_option maxHeartbeats 4000000
set_option linter.unusedVariables false
set_option linter.unusedSimpArgs false
open Go Go.Proofs.Ytnfiipmcggjahaa.Ev Go.Proofs.Ytnfiipmcggjahaa.Vv
structure SRange where
  Lo : Int
  Hi : Int
  deriving Inhabited
def c_SRange (x : SRange) : List VV := [vi x.Lo, vi x.Hi]
theorem len_c_SRange (x : SRange) : (c_SRange x).length = 2 := rfl
theorem still_c_SRange (xs : List SRange) : (xs.flatMap c_SRange).all VV.still = true := all_flat (fun _ => rfl) xs
theorem isC_c_SRange (xs : List SRange) : (xs.flatMap c_SRange).all VV.isC = true := all_flat (fun _ => rfl) xs
theorem new0_c_SRange (xs : List SRange) : (xs.flatMap c_SRange).all new0 = true := all_flat (fun _ => rfl) xs
theorem unfr_c_SRange (xs : List SRange) : (xs.flatMap c_SRange).map unfr = xs.flatMap c_SRange := unfr_flat (fun _ => rfl) xs
structure SHeightReading where
  From : Int
  To : Int
  Diff : SRange
  deriving Inhabited
def c_SHeightReading (x : SHeightReading) : List VV := [vi x.From, vi x.To, vi x.Diff.Lo, vi x.Diff.Hi]
theorem len_c_SHeightReading (x : SHeightReading) : (c_SHeightReading x).length = 4 := rfl
theorem still_c_SHeightReading (xs : List SHeightReading) : (xs.flatMap c_SHeightReading).all VV.still = true := all_flat (fun _ => rfl) xs
theorem isC_c_SHeightReading (xs : List SHeightReading) : (xs.flatMap c_SHeightReading).all VV.isC = true := all_flat (fun _ => rfl) xs
theorem new0_c_SHeightReading (xs : List SHeightReading) : (xs.flatMap c_SHeightReading).all new0 = true := all_flat (fun _ => rfl) xs
theorem unfr_c_SHeightReading (xs : List SHeightReading) : (xs.flatMap c_SHeightReading).map unfr = xs.flatMap c_SHeightReading := unfr_flat (fun _ => rfl) xs
structure Sleg where
  signed : Int
  from_ : Int
  to : Int
  length : Int
  deriving Inhabited
def c_Sleg (x : Sleg) : List VV := [vi x.signed, vi x.from_, vi x.to, vi x.length]
theorem len_c_Sleg (x : Sleg) : (c_Sleg x).length = 4 := rfl
theorem still_c_Sleg (xs : List Sleg) : (xs.flatMap c_Sleg).all VV.still = true := all_flat (fun _ => rfl) xs
theorem isC_c_Sleg (xs : List Sleg) : (xs.flatMap c_Sleg).all VV.isC = true := all_flat (fun _ => rfl) xs
theorem new0_c_Sleg (xs : List Sleg) : (xs.flatMap c_Sleg).all new0 = true := all_flat (fun _ => rfl) xs
theorem unfr_c_Sleg (xs : List Sleg) : (xs.flatMap c_Sleg).map unfr = xs.flatMap c_Sleg := unfr_flat (fun _ => rfl) xs
structure Sweb where
  zones : Int
  legs : (List Sleg)
  deriving Inhabited
def c_Sweb (x : Sweb) : List VV := [vi x.zones, VV.tr (List.flatMap c_Sleg x.legs) x.legs.length]
theorem len_c_Sweb (x : Sweb) : (c_Sweb x).length = 2 := rfl
def g_Sweb (x : Sweb) : List VV := [vi x.zones, VV.fr (List.flatMap c_Sleg x.legs) x.legs.length]
theorem len_g_Sweb (x : Sweb) : (g_Sweb x).length = 2 := rfl
theorem still_c_Sweb (xs : List Sweb) : (xs.flatMap c_Sweb).all VV.still = true := all_flat (fun _ => rfl) xs
theorem still_g_Sweb (xs : List Sweb) : (xs.flatMap g_Sweb).all VV.still = true := all_flat (fun _ => rfl) xs
theorem unfr_c_Sweb (xs : List Sweb) : (xs.flatMap c_Sweb).map unfr = xs.flatMap c_Sweb := unfr_flat2 (fun _ => rfl) xs
theorem unfr_g_Sweb (xs : List Sweb) : (xs.flatMap g_Sweb).map unfr = xs.flatMap c_Sweb := unfr_flat2 (fun _ => rfl) xs
theorem new0_g_Sweb (xs : List Sweb) : (xs.flatMap g_Sweb).all new0 = true := all_flat (fun _ => rfl) xs
theorem ag3 : isAggT Go.Proofs.Try.prog 3 = some false := by kernel_rfl
theorem ag65 : isAggT Go.Proofs.Try.prog 65 = some true := by kernel_rfl
theorem sz65 : szOf Go.Proofs.Try.prog 65 = some 4 := by kernel_rfl
theorem ag109 : isAggT Go.Proofs.Try.prog 109 = some true := by kernel_rfl
theorem sz109 : szOf Go.Proofs.Try.prog 109 = some 4 := by kernel_rfl
def nspeculumlaw05_Few (k : Nat) (a0 : (List SHeightReading)) (a1 : Int) : Option Bool :=
  if (a0.length : Int) ≤ a1 then (some true) else (if 100 < (a0.length : Int) then (some (decide ((a0.length : Int) ≤ 103))) else (some false))
theorem nspeculumlaw05_Few_ok (k : Nat) (a0 : (List SHeightReading)) (a1 : Int) (r : Bool) (h : nspeculumlaw05_Few k a0 a1 = some r) : VC Go.Proofs.Try.prog 13 [VV.tr (List.flatMap c_SHeightReading a0) a0.length, vi a1] (vb r) := by
 unfold nspeculumlaw05_Few at h
 rcases ifs h with ⟨h108, h⟩ | ⟨h108, h⟩
 ·have e109 := (ti (ti (ti (ti (ti (an (decide_eq_true h108) (an (decide_eq_true h108) (an (decide_eq_true h108) (an (decide_eq_true h108) (ti (ti (ti (an (decide_eq_true h108) (an (decide_eq_true h108) (ti trivial)))))))))))))))
  injection h with h; subst h
  exact fun_ok pm pn Go.Proofs.Try.func13 (r0 := vb true) (ans := [.reg (.n :: []), .reg (nN 5 (nS 8 (.b true :: .n :: [])))]) (fr := true) (by kernel_rfl) (an (an (ti trivial) (an e109 trivial)) (ti trivial)) (Wv.refl _)
 ·rcases ifs h with ⟨h110, h⟩ | ⟨h110, h⟩
  ·have e111 := (an (decide_eq_false h108) (decide_eq_true h110))
   have e112 := (ti (ti (ti (ti (ti (an (an (decide_eq_false h108) trivial) (an (an (decide_eq_false h108) trivial) (an (an (decide_eq_false h108) trivial) (an (an (decide_eq_false h108) trivial) (an (an (decide_eq_true h110) trivial) (an (an (decide_eq_true h110) trivial) (an (an (decide_eq_true h110) trivial) (an e111 (an (decide_eq_false h108) (ti trivial)))))))))))))))
   injection h with h; subst h
   exact fun_ok pm pn Go.Proofs.Try.func13 (r0 := vb (decide ((a0.length : Int) ≤ 103))) (ans := [.reg (.n :: []), .reg (nN 12 (.b true :: .b false :: .n :: []))]) (fr := true) (by kernel_rfl) (an (an (ti trivial) (an e112 trivial)) (ti trivial)) (Wv.refl _)
  ·have e113 := (an (decide_eq_false h108) (decide_eq_false h110))
   have e114 := (ti (ti (ti (ti (ti (an (an (decide_eq_false h108) trivial) (an (an (decide_eq_false h108) trivial) (an (an (decide_eq_false h108) trivial) (an (an (decide_eq_false h108) trivial) (an (decide_eq_false h110) (an (decide_eq_false h110) (an (decide_eq_false h110) (an e113 (an (decide_eq_false h108) (ti trivial)))))))))))))))
   injection h with h; subst h
   exact fun_ok pm pn Go.Proofs.Try.func13 (r0 := vb false) (ans := [.reg (.n :: []), .reg (nN 9 (nS 3 (.b false :: .b false :: .n :: [])))]) (fr := true) (by kernel_rfl) (an (an (ti trivial) (an e114 trivial)) (ti trivial)) (Wv.refl _)
def nspeculumlaw05_readings (k : Nat) (a0 : (List SHeightReading)) : Option (List SHeightReading) :=
  if ([] : List SHeightReading).length + a0.length ≤ 1000000000 then (some (([] : List SHeightReading) ++ a0)) else none
theorem nspeculumlaw05_readings_ok (k : Nat) (a0 : (List SHeightReading)) (r : (List SHeightReading)) (h : nspeculumlaw05_readings k a0 = some r) : VC Go.Proofs.Try.prog 15 [VV.tr (List.flatMap c_SHeightReading a0) a0.length] (VV.fw 4 (List.flatMap c_SHeightReading r) r.length) := by
 unfold nspeculumlaw05_readings at h
 obtain ⟨h117, h⟩ := ifn h
 have e118 := (show List.length [] = 0 * 4 ∧ List.length (List.flatMap c_SHeightReading a0) = a0.length * 4 ∧ (0 + a0.length) * 32 ≤ 140737488355328 ∧ 0 + a0.length < 1099511627776 ∧ List.all (List.flatMap c_SHeightReading a0) VV.still = true from ⟨(by rw [show [] = List.flatMap c_SHeightReading ([] : List SHeightReading) from rfl]; rw [flatMap_len len_c_SHeightReading] <;> simp), (by rw [flatMap_len len_c_SHeightReading] <;> simp), (by first | omega | (simp at h117 ⊢; omega)), (by first | omega | (simp at h117 ⊢; omega)), (by exact still_c_SHeightReading _)⟩)
 injection h with h; subst h
 exact fun_ok pm pn Go.Proofs.Try.func15 (r0 := VV.fw 4 (List.drop 0 (List.map unfr ([] ++ (List.flatMap c_SHeightReading a0)))) (0 + a0.length)) (ans := [.reg (.n :: []), .reg (nN 4 [])]) (fr := true) (by kernel_rfl) (an (an (ti trivial) (an (ti (ti (an e118 (ti trivial)))) trivial)) (an (show List.all ([] ++ (List.flatMap c_SHeightReading a0)) new0 = true from (by rw [show [] ++ (List.flatMap c_SHeightReading a0) = List.flatMap c_SHeightReading (([] : List SHeightReading) ++ a0) from (by rw [show [] = List.flatMap c_SHeightReading ([] : List SHeightReading) from rfl]; exact List.flatMap_append.symm)]; exact new0_c_SHeightReading _)) trivial)) (Wv.of_eq (by simp only [show [] ++ (List.flatMap c_SHeightReading a0) = List.flatMap c_SHeightReading (([] : List SHeightReading) ++ a0) from (by rw [show [] = List.flatMap c_SHeightReading ([] : List SHeightReading) from rfl]; exact List.flatMap_append.symm), drop0, unfr_vi, unfr_vb, unfr_vs, List.map_cons, List.map_nil, un_i, un_k, un_b, un_s, un_tr, un_fr, List.length_map, List.length_replicate, List.length_append, List.length_set, List.length_cons, List.length_nil, unfr_c_SHeightReading, unfr_c_SRange]))
def nprofile_isWithin (k : Nat) (a0 : Int) (a1 : Int) (a2 : Int) : Option Bool :=
  if a1 ≤ a0 then (some (decide (a0 ≤ a2))) else (some false)
theorem nprofile_isWithin_ok (k : Nat) (a0 : Int) (a1 : Int) (a2 : Int) (r : Bool) (h : nprofile_isWithin k a0 a1 a2 = some r) : VC Go.Proofs.Try.prog 58 [vi a0, vi a1, vi a2] (vb r) := by
 unfold nprofile_isWithin at h
 rcases ifs h with ⟨h122, h⟩ | ⟨h122, h⟩
 ·have e123 := (ti (ti (ti (ti (an (an (decide_eq_true h122) trivial) (an (an (decide_eq_true h122) trivial) (an (an (decide_eq_true h122) trivial) (an (decide_eq_true h122) (ti trivial)))))))))
  injection h with h; subst h
  exact fun_ok pm pn Go.Proofs.Try.func58 (r0 := vb (decide (a0 ≤ a2))) (ans := [.reg (.n :: []), .reg (nN 7 (.b true :: .n :: []))]) (fr := true) (by kernel_rfl) (an (an (ti trivial) (an e123 trivial)) (ti trivial)) (Wv.refl _)
 ·have e124 := (ti (ti (ti (ti (an (decide_eq_false h122) (an (decide_eq_false h122) (an (decide_eq_false h122) (an (decide_eq_false h122) (ti trivial)))))))))
  injection h with h; subst h
  exact fun_ok pm pn Go.Proofs.Try.func58 (r0 := vb false) (ans := [.reg (.n :: []), .reg (nN 4 (nS 3 (.b false :: .n :: [])))]) (fr := true) (by kernel_rfl) (an (an (ti trivial) (an e124 trivial)) (ti trivial)) (Wv.refl _)
def nprofile_areZones (k : Nat) (a0 : Int) (a1 : Int) (a2 : Int) : Option Bool :=
  (nprofile_isWithin k a1 0 (w64 (a0 - 1))).bind fun r142 => (if r142 = true then ((nprofile_isWithin k a2 0 (w64 (a0 - 1))).bind fun r146 => (some r146)) else (some false))
theorem nprofile_areZones_ok (k : Nat) (a0 : Int) (a1 : Int) (a2 : Int) (r : Bool) (h : nprofile_areZones k a0 a1 a2 = some r) : VC Go.Proofs.Try.prog 91 [vi a0, vi a1, vi a2] (vb r) := by
 unfold nprofile_areZones at h
 obtain ⟨r142, h143, h⟩ := bs h
 have e144 := (nprofile_isWithin_ok k a1 0 (w64 (a0 - 1)) _ h143)
 rcases ifs h with ⟨h145, h⟩ | ⟨h145, h⟩
 ·obtain ⟨r146, h147, h⟩ := bs h
  have e148 := (an h145 (nprofile_isWithin_ok k a2 0 (w64 (a0 - 1)) _ h147))
  have e149 := (ti (ti (ti (an e144 (ti (an (an h145 trivial) (an (an h145 trivial) (an (an h145 trivial) (an e148 (an h145 (ti trivial)))))))))))
  injection h with h; subst h
  exact fun_ok pm pn Go.Proofs.Try.func91 (r0 := vb r146) (ans := [.reg (.n :: []), .reg (nN 3 (.call (vb r142) :: nN 4 (.call (vb r146) :: .b true :: .n :: [])))]) (fr := true) (by kernel_rfl) (an (an (ti trivial) (an e149 trivial)) (ti trivial)) (Wv.refl _)
 ·have e150 := (ti (ti (ti (an e144 (ti (an (bool_f h145) (an (bool_f h145) (an (bool_f h145) (an (bool_f h145) (an (bool_f h145) (ti trivial)))))))))))
  injection h with h; subst h
  exact fun_ok pm pn Go.Proofs.Try.func91 (r0 := vb false) (ans := [.reg (.n :: []), .reg (nN 3 (.call (vb r142) :: .n :: nS 4 (.b false :: .n :: [])))]) (fr := true) (by kernel_rfl) (an (an (ti trivial) (an e150 trivial)) (ti trivial)) (Wv.refl _)
def nprofile_areSmall_l0_0_h (a0 : Int) (a1 : (List Int)) (x9 : Int) : VS := ⟨mkA [(0, vi a0), (7, VV.tr (List.map vi a1) a1.length), (8, vi (a1.length : Int)), (9, vi x9)], [], .nil⟩
def nprofile_areSmall_l0_0_e0 (a0 : Int) (a1 : (List Int)) (r : Unit) : VS := ⟨mkA [(4, vb false)], [], .nil⟩
def nprofile_areSmall_l0_0_e1 (a0 : Int) (a1 : (List Int)) (r : Unit) : VS := ⟨mkA [], [], .nil⟩
def nprofile_areSmall_l0_0 (k : Nat) (a0 : Int) (a1 : (List Int)) : Nat → Int → Option (Sum Unit Unit)
  | 0, _ => none
  | fuel + 1, x9 => if x9 < (a1.length : Int) then (if 0 ≤ x9 ∧ x9 < (a1.length : Int) then ((nprofile_isWithin k (a1.getD x9.toNat 0) (w64 (0 - a0)) a0).bind fun r201 => (if r201 = true then (nprofile_areSmall_l0_0 k a0 a1 fuel (w64 (x9 + 1))) else (some (.inl ())))) else none) else (some (.inr ()))
theorem nprofile_areSmall_l0_0_ok (k : Nat) (a0 : Int) (a1 : (List Int)) : ∀ (fuel : Nat) (x9 : Int) (r : Sum Unit Unit), nprofile_areSmall_l0_0 k a0 a1 fuel x9 = some r → (match r with | .inl r => VLoop none Go.Proofs.Try.prog (szF Go.Proofs.Try.f59) (bodyOf Go.Proofs.Try.f59 0) (nprofile_areSmall_l0_0_h a0 a1 x9) .ret (nprofile_areSmall_l0_0_e0 a0 a1 r) | .inr r => VLoop none Go.Proofs.Try.prog (szF Go.Proofs.Try.f59) (bodyOf Go.Proofs.Try.f59 0) (nprofile_areSmall_l0_0_h a0 a1 x9) (.exit 0) (nprofile_areSmall_l0_0_e1 a0 a1 r)) := by
 intro fuel
 induction fuel with
 | zero => intro x9 r h; rw [nprofile_areSmall_l0_0.eq_1] at h; cases h
 | succ fuel ih =>
  intro x9 r h
  rw [nprofile_areSmall_l0_0.eq_2] at h
  rcases ifs h with ⟨h198, h⟩ | ⟨h198, h⟩
  ·obtain ⟨h199, h⟩ := ifn h
   have e200 := (show loadL Go.Proofs.Try.prog 3 (x9.toNat * 1) (List.map vi a1) = some (vi (a1.getD x9.toNat 0)) from ld_map ag3 vi a1 0 h199 (by omega))
   obtain ⟨r201, h202, h⟩ := bs h
   have e203 := (nprofile_isWithin_ok k (a1.getD x9.toNat 0) (w64 (0 - a0)) a0 _ h202)
   rcases ifs h with ⟨h204, h⟩ | ⟨h204, h⟩
   ·have h2 := ih _ _ h
    obtain ⟨q, hv, hq⟩ := pkR (rd := none) (P := Go.Proofs.Try.prog) (fn := Go.Proofs.Try.f59) (k := 0) (s := (nprofile_areSmall_l0_0_h a0 a1 x9)) (ans := [.reg (.n :: []), .br true, .reg (.n :: .v (vi (a1.getD x9.toNat 0)) :: .n :: []), .reg (nN 4 (.call (vb r201) :: .n :: [])), .br false, .reg (.n :: .n :: [])]) (c := ⟨[(0, none), (7, none), (8, none), (9, none)], [], []⟩) (e := .normal) (s1 := (nprofile_areSmall_l0_0_h a0 a1 (w64 (x9 + 1)))) (an (an (ti trivial) (an (an (decide_eq_true h198) trivial) (an (an (an h199 (an e200 (ti trivial))) (an (ti (ti (ti (ti (an e203 (ti trivial)))))) (an (not_f h204) trivial))) (ti (ti trivial))))) (ti trivial)) (by kernel_rfl)
    cases r with
    | inl r => exact round_next pm pn hv hq h2
    | inr r =>
     exact round_next pm pn hv hq h2
   ·injection h with h; subst h
    exact round_stop (c := ⟨[(4, none)], [], []⟩) (s1 := (nprofile_areSmall_l0_0_e0 a0 a1 ())) pm pn (ans := [.reg (.n :: []), .br true, .reg (.n :: .v (vi (a1.getD x9.toNat 0)) :: .n :: []), .reg (nN 4 (.call (vb r201) :: .n :: [])), .br true, .reg (.n :: [])]) (by kernel_rfl) (by intro e; cases e) (an (an (ti trivial) (an (an (decide_eq_true h198) trivial) (an (an h199 (an e200 (ti trivial))) (an (ti (ti (ti (ti (an e203 (ti trivial)))))) (an (not_t (bool_f h204)) (an (ti trivial) trivial)))))) (ti trivial))
  ·injection h with h; subst h
   exact round_stop (c := ⟨[], [], []⟩) (s1 := (nprofile_areSmall_l0_0_e1 a0 a1 ())) pm pn (ans := [.reg (.n :: []), .br false]) (by kernel_rfl) (by intro e; cases e) (an (an (ti trivial) (an (decide_eq_false h198) trivial)) (ti trivial))
def nprofile_areSmall (k : Nat) (a0 : Int) (a1 : (List Int)) : Option Bool :=
  (nprofile_areSmall_l0_0 k a0 a1 k 0).bind fun r206 => (match r206 with | .inl r207 => (some false) | .inr r208 => (some true))
theorem nprofile_areSmall_ok (k : Nat) (a0 : Int) (a1 : (List Int)) (r : Bool) (h : nprofile_areSmall k a0 a1 = some r) : VC Go.Proofs.Try.prog 59 [vi a0, VV.tr (List.map vi a1) a1.length] (vb r) := by
 unfold nprofile_areSmall at h
 obtain ⟨r206, h205, h⟩ := bs h
 have hph205 := nprofile_areSmall_l0_0_ok k a0 a1 _ _ _ h205
 cases r206 with
 | inl r207 =>
  dsimp only at h
  have e209 := (an (ti trivial) (VRun.loop hph205))
  injection h with h; subst h
  exact fun_ok pm pn Go.Proofs.Try.func59 (r0 := vb false) (ans := [.reg (.n :: []), .reg (nN 3 []), .sub ⟨[(0, none), (7, none), (8, none), (9, none)], [], []⟩ .ret (nprofile_areSmall_l0_0_e0 a0 a1 r207)]) (fr := true) (by kernel_rfl) (an (an (ti trivial) (an (ti (ti (ti trivial))) e209)) (ti trivial)) (Wv.refl _)
 | inr r208 =>
  dsimp only at h
  have e210 := (an (ti trivial) (VRun.loop hph205))
  injection h with h; subst h
  exact fun_ok pm pn Go.Proofs.Try.func59 (r0 := vb true) (ans := [.reg (.n :: []), .reg (nN 3 []), .sub ⟨[(0, none), (7, none), (8, none), (9, none)], [], []⟩ (.exit 0) (nprofile_areSmall_l0_0_e1 a0 a1 r208), .reg (.n :: [])]) (fr := true) (by kernel_rfl) (an (an (ti trivial) (an (an (ti (ti (ti trivial))) e210) (an (ti trivial) trivial))) (ti trivial)) (Wv.refl _)
theorem eqW1_0 (z0 : SHeightReading) : [vi 1000000, VV.tr (List.map vi ([z0.Diff.Lo, z0.Diff.Hi] : List Int)) (([z0.Diff.Lo, z0.Diff.Hi] : List Int).length)] = [vi 1000000, VV.tr [vi z0.Diff.Lo, vi z0.Diff.Hi] 2] := by first | rfl | (simp only [unfr_vi, List.map_cons, List.map_nil, un_i, un_tr, List.length_map, List.length_cons, List.length_nil]; done) | (simp only [unfr_vi, List.map_cons, List.map_nil, un_i, un_tr, List.length_map, List.length_cons, List.length_nil]; rfl) | (simp only [unfr_vi, List.map_cons, List.map_nil, un_i, un_tr, List.length_map, List.length_cons, List.length_nil, List.length_cons, List.length_nil, List.length_append]; done)
def nprofile_checkReading (k : Nat) (a0 : Int) (a1 : SHeightReading) : Option Int :=
  (nprofile_areZones k a0 a1.From a1.To).bind fun r217 => (if r217 = true then (if a1.From = a1.To then (some 3) else ((nprofile_areSmall k 1000000 ([a1.Diff.Lo, a1.Diff.Hi] : List Int)).bind fun r223 => (if r223 = true then (if a1.Diff.Hi < a1.Diff.Lo then (some 9) else (some 0)) else (some 2)))) else (some 6))
theorem nprofile_checkReading_ok (k : Nat) (a0 : Int) (a1 : SHeightReading) (r : Int) (h : nprofile_checkReading k a0 a1 = some r) : VC Go.Proofs.Try.prog 90 [vi a0, VV.ag (c_SHeightReading a1)] (vi r) := by
 unfold nprofile_checkReading at h
 obtain ⟨r217, h218, h⟩ := bs h
 have e219 := (nprofile_areZones_ok k a0 a1.From a1.To _ h218)
 have e220 := (ti (ti (ti (ti (ti (an e219 (ti (ti trivial))))))))
 rcases ifs h with ⟨h221, h⟩ | ⟨h221, h⟩
 ·rcases ifs h with ⟨h222, h⟩ | ⟨h222, h⟩
  ·injection h with h; subst h
   exact fun_ok pm pn Go.Proofs.Try.func90 (r0 := vi 3) (ans := [.reg (.n :: .n :: []), .reg (nN 5 (.call (vb r217) :: .n :: .n :: [])), .br false, .reg (nN 6 []), .br true, .reg (.n :: [])]) (fr := true) (by kernel_rfl) (an (an (ti (ti trivial)) (an e220 (an (not_f h221) (an (ti (ti (ti (ti (ti (ti trivial)))))) (an (decide_eq_true h222) (an (ti trivial) trivial)))))) (ti trivial)) (Wv.refl _)
  ·obtain ⟨r223, h224, h⟩ := bs h
   have e225 := (VC.args (nprofile_areSmall_ok k 1000000 ([a1.Diff.Lo, a1.Diff.Hi] : List Int) _ h224) (eqW1_0 a1))
   have e226 := (ti (ti (ti (ti (ti (ti (ti (an e225 (ti (ti trivial))))))))))
   rcases ifs h with ⟨h227, h⟩ | ⟨h227, h⟩
   ·rcases ifs h with ⟨h228, h⟩ | ⟨h228, h⟩
    ·injection h with h; subst h
     exact fun_ok pm pn Go.Proofs.Try.func90 (r0 := vi 9) (ans := [.reg (.n :: .n :: []), .reg (nN 5 (.call (vb r217) :: .n :: .n :: [])), .br false, .reg (nN 6 []), .br false, .reg (nN 6 (.v VV.any :: .call (vb r223) :: .n :: .n :: [])), .br false, .reg (nN 8 []), .br true, .reg (.n :: [])]) (fr := true) (by kernel_rfl) (an (an (ti (ti trivial)) (an e220 (an (not_f h221) (an (ti (ti (ti (ti (ti (ti trivial)))))) (an (decide_eq_false h222) (an e226 (an (not_f h227) (an (ti (ti (ti (ti (ti (ti (ti (ti trivial)))))))) (an (decide_eq_true h228) (an (ti trivial) trivial)))))))))) (ti trivial)) (Wv.refl _)
    ·injection h with h; subst h
     exact fun_ok pm pn Go.Proofs.Try.func90 (r0 := vi 0) (ans := [.reg (.n :: .n :: []), .reg (nN 5 (.call (vb r217) :: .n :: .n :: [])), .br false, .reg (nN 6 []), .br false, .reg (nN 6 (.v VV.any :: .call (vb r223) :: .n :: .n :: [])), .br false, .reg (nN 8 []), .br false, .reg (.n :: [])]) (fr := true) (by kernel_rfl) (an (an (ti (ti trivial)) (an (an e220 (an (not_f h221) (an (ti (ti (ti (ti (ti (ti trivial)))))) (an (decide_eq_false h222) (an e226 (an (not_f h227) (an (ti (ti (ti (ti (ti (ti (ti (ti trivial)))))))) (an (decide_eq_false h228) trivial)))))))) (an (ti trivial) trivial))) (ti trivial)) (Wv.refl _)
   ·injection h with h; subst h
    exact fun_ok pm pn Go.Proofs.Try.func90 (r0 := vi 2) (ans := [.reg (.n :: .n :: []), .reg (nN 5 (.call (vb r217) :: .n :: .n :: [])), .br false, .reg (nN 6 []), .br false, .reg (nN 6 (.v VV.any :: .call (vb r223) :: .n :: .n :: [])), .br true, .reg (.n :: [])]) (fr := true) (by kernel_rfl) (an (an (ti (ti trivial)) (an e220 (an (not_f h221) (an (ti (ti (ti (ti (ti (ti trivial)))))) (an (decide_eq_false h222) (an e226 (an (not_t (bool_f h227)) (an (ti trivial) trivial)))))))) (ti trivial)) (Wv.refl _)
 ·injection h with h; subst h
  exact fun_ok pm pn Go.Proofs.Try.func90 (r0 := vi 6) (ans := [.reg (.n :: .n :: []), .reg (nN 5 (.call (vb r217) :: .n :: .n :: [])), .br true, .reg (.n :: [])]) (fr := true) (by kernel_rfl) (an (an (ti (ti trivial)) (an e220 (an (not_t (bool_f h221)) (an (ti trivial) trivial)))) (ti trivial)) (Wv.refl _)
theorem eqW1_1 (z0 : Int) (z1 : (List SHeightReading)) : [vi z0, VV.ag (c_SHeightReading (⟨(z1.getD ((0 : Int)).toNat default).From, (z1.getD ((0 : Int)).toNat default).To, ((z1.getD ((0 : Int)).toNat default).Diff)⟩ : SHeightReading))] = [vi z0, VV.ag (c_SHeightReading (z1.getD ((0 : Int)).toNat default))] := by first | rfl | (simp only [unfr_vi, List.map_cons, List.map_nil, un_i, unfr_c_SHeightReading]; done) | (simp only [unfr_vi, List.map_cons, List.map_nil, un_i, unfr_c_SHeightReading]; rfl) | (simp only [unfr_vi, List.map_cons, List.map_nil, un_i, unfr_c_SHeightReading, c_SHeightReading, List.length_cons, List.length_nil, List.length_append]; done)
theorem eqW1_2 (z0 : Int) (z1 : (List SHeightReading)) (z2 : Int) : [vi z0, VV.ag (c_SHeightReading (⟨(z1.getD z2.toNat default).From, (z1.getD z2.toNat default).To, ((z1.getD z2.toNat default).Diff)⟩ : SHeightReading))] = [vi z0, VV.ag (c_SHeightReading (z1.getD z2.toNat default))] := by first | rfl | (simp only [unfr_vi, List.map_cons, List.map_nil, un_i, unfr_c_SHeightReading]; done) | (simp only [unfr_vi, List.map_cons, List.map_nil, un_i, unfr_c_SHeightReading]; rfl) | (simp only [unfr_vi, List.map_cons, List.map_nil, un_i, unfr_c_SHeightReading, c_SHeightReading, List.length_cons, List.length_nil, List.length_append]; done)
def nprofile_CheckReadings_l0_0_h (a0 : Int) (a1 : (List SHeightReading)) (x16 : Int) : VS := ⟨mkA [(0, vi a0), (14, VV.tr (List.flatMap c_SHeightReading a1) a1.length), (15, vi (a1.length : Int)), (16, vi x16)], [], .nil⟩
def nprofile_CheckReadings_l0_0_e0 (a0 : Int) (a1 : (List SHeightReading)) (r : Int) : VS := ⟨mkA [(4, vi r)], [], .nil⟩
def nprofile_CheckReadings_l0_0_e1 (a0 : Int) (a1 : (List SHeightReading)) (r : Unit) : VS := ⟨mkA [], [], .nil⟩
def nprofile_CheckReadings_l0_0 (k : Nat) (a0 : Int) (a1 : (List SHeightReading)) : Nat → Int → Option (Sum Int Unit)
  | 0, _ => none
  | fuel + 1, x16 => if x16 < (a1.length : Int) then (if 0 ≤ x16 ∧ x16 < (a1.length : Int) then ((nprofile_checkReading k a0 (⟨(a1.getD x16.toNat default).From, (a1.getD x16.toNat default).To, ((a1.getD x16.toNat default).Diff)⟩ : SHeightReading)).bind fun r275 => (if r275 = 0 then (nprofile_CheckReadings_l0_0 k a0 a1 fuel (w64 (x16 + 1))) else (some (.inl r275)))) else none) else (some (.inr ()))
theorem nprofile_CheckReadings_l0_0_ok (k : Nat) (a0 : Int) (a1 : (List SHeightReading)) : ∀ (fuel : Nat) (x16 : Int) (r : Sum Int Unit), nprofile_CheckReadings_l0_0 k a0 a1 fuel x16 = some r → (match r with | .inl r => VLoop none Go.Proofs.Try.prog (szF Go.Proofs.Try.f57) (bodyOf Go.Proofs.Try.f57 0) (nprofile_CheckReadings_l0_0_h a0 a1 x16) .ret (nprofile_CheckReadings_l0_0_e0 a0 a1 r) | .inr r => VLoop none Go.Proofs.Try.prog (szF Go.Proofs.Try.f57) (bodyOf Go.Proofs.Try.f57 0) (nprofile_CheckReadings_l0_0_h a0 a1 x16) (.exit 0) (nprofile_CheckReadings_l0_0_e1 a0 a1 r)) := by
 intro fuel
 induction fuel with
 | zero => intro x16 r h; rw [nprofile_CheckReadings_l0_0.eq_1] at h; cases h
 | succ fuel ih =>
  intro x16 r h
  rw [nprofile_CheckReadings_l0_0.eq_2] at h
  rcases ifs h with ⟨h272, h⟩ | ⟨h272, h⟩
  ·obtain ⟨h273, h⟩ := ifn h
   have e274 := (show loadL Go.Proofs.Try.prog 65 (x16.toNat * 4) (List.flatMap c_SHeightReading a1) = some (VV.ag (c_SHeightReading (a1.getD x16.toNat default))) from ld_whole ag65 c_SHeightReading 4 sz65 len_c_SHeightReading a1 default h273 (by omega))
   obtain ⟨r275, h276, h⟩ := bs h
   have e277 := (VC.args (nprofile_checkReading_ok k a0 (⟨(a1.getD x16.toNat default).From, (a1.getD x16.toNat default).To, ((a1.getD x16.toNat default).Diff)⟩ : SHeightReading) _ h276) (eqW1_2 a0 a1 x16))
   rcases ifs h with ⟨h278, h⟩ | ⟨h278, h⟩
   ·have h2 := ih _ _ h
    obtain ⟨q, hv, hq⟩ := pkR (rd := none) (P := Go.Proofs.Try.prog) (fn := Go.Proofs.Try.f57) (k := 0) (s := (nprofile_CheckReadings_l0_0_h a0 a1 x16)) (ans := [.reg (.n :: []), .br true, .reg (.n :: .v (VV.ag (c_SHeightReading (a1.getD x16.toNat default))) :: .n :: .n :: []), .reg (.n :: .n :: .call (vi r275) :: .n :: []), .reg (.n :: .n :: []), .br false, .reg (.n :: .n :: [])]) (c := ⟨[(0, none), (14, none), (15, none), (16, none)], [], []⟩) (e := .normal) (s1 := (nprofile_CheckReadings_l0_0_h a0 a1 (w64 (x16 + 1)))) (an (an (ti trivial) (an (an (decide_eq_true h272) trivial) (an (an (an h273 (an e274 (ti (ti trivial)))) (an (ti (ti (an e277 (ti trivial)))) (an (ti (ti trivial)) (an (not_f (decide_eq_true h278)) trivial)))) (ti (ti trivial))))) (ti trivial)) (by kernel_rfl)
    cases r with
    | inl r => exact round_next pm pn hv hq h2
    | inr r =>
     exact round_next pm pn hv hq h2
   ·injection h with h; subst h
    exact round_stop (c := ⟨[(4, none)], [], []⟩) (s1 := (nprofile_CheckReadings_l0_0_e0 a0 a1 r275)) pm pn (ans := [.reg (.n :: []), .br true, .reg (.n :: .v (VV.ag (c_SHeightReading (a1.getD x16.toNat default))) :: .n :: .n :: []), .reg (.n :: .n :: .call (vi r275) :: .n :: []), .reg (.n :: .n :: []), .br true, .reg (.n :: .n :: [])]) (by kernel_rfl) (by intro e; cases e) (an (an (ti trivial) (an (an (decide_eq_true h272) trivial) (an (an h273 (an e274 (ti (ti trivial)))) (an (ti (ti (an e277 (ti trivial)))) (an (ti (ti trivial)) (an (not_t (decide_eq_false h278)) (an (ti (ti trivial)) trivial))))))) (ti trivial))
  ·injection h with h; subst h
   exact round_stop (c := ⟨[], [], []⟩) (s1 := (nprofile_CheckReadings_l0_0_e1 a0 a1 ())) pm pn (ans := [.reg (.n :: []), .br false]) (by kernel_rfl) (by intro e; cases e) (an (an (ti trivial) (an (decide_eq_false h272) trivial)) (ti trivial))
def nprofile_CheckReadings (k : Nat) (a0 : Int) (a1 : (List SHeightReading)) : Option Int :=
  (nprofile_isWithin k a0 1 40).bind fun r253 => (if r253 = true then (if 100 < (a1.length : Int) then (some 8) else ((nprofile_CheckReadings_l0_0 k a0 a1 k 0).bind fun r280 => (match r280 with | .inl r281 => (some r281) | .inr r282 => (some 0)))) else (some 2))
theorem nprofile_CheckReadings_ok (k : Nat) (a0 : Int) (a1 : (List SHeightReading)) (r : Int) (h : nprofile_CheckReadings k a0 a1 = some r) : VC Go.Proofs.Try.prog 57 [vi a0, VV.tr (List.flatMap c_SHeightReading a1) a1.length] (vi r) := by
 unfold nprofile_CheckReadings at h
 obtain ⟨r253, h254, h⟩ := bs h
 have e255 := (ti (an (nprofile_isWithin_ok k a0 1 40 _ h254) (ti trivial)))
 rcases ifs h with ⟨h256, h⟩ | ⟨h256, h⟩
 ·rcases ifs h with ⟨h257, h⟩ | ⟨h257, h⟩
  ·injection h with h; subst h
   exact fun_ok pm pn Go.Proofs.Try.func57 (r0 := vi 8) (ans := [.reg (.n :: []), .reg (.n :: .call (vb r253) :: .n :: []), .br false, .reg (nN 3 []), .br true, .reg (.n :: [])]) (fr := true) (by kernel_rfl) (an (an (ti trivial) (an (an e255 (an (not_f h256) trivial)) (an (ti (ti (ti trivial))) (an (decide_eq_true h257) (an (ti trivial) trivial))))) (ti trivial)) (Wv.refl _)
  ·obtain ⟨r280, h279, h⟩ := bs h
   have hph279 := nprofile_CheckReadings_l0_0_ok k a0 a1 _ _ _ h279
   cases r280 with
   | inl r281 =>
    dsimp only at h
    have e283 := (an (ti trivial) (VRun.loop hph279))
    injection h with h; subst h
    exact fun_ok pm pn Go.Proofs.Try.func57 (r0 := vi r281) (ans := [.reg (.n :: []), .reg (.n :: .call (vb r253) :: .n :: []), .br false, .reg (nN 3 []), .br false, .reg (nN 3 []), .sub ⟨[(0, none), (14, none), (15, none), (16, none)], [], []⟩ .ret (nprofile_CheckReadings_l0_0_e0 a0 a1 r281)]) (fr := true) (by kernel_rfl) (an (an (ti trivial) (an (an e255 (an (not_f h256) trivial)) (an (an (ti (ti (ti trivial))) (an (decide_eq_false h257) trivial)) (an (ti (ti (ti trivial))) e283)))) (ti trivial)) (Wv.refl _)
   | inr r282 =>
    dsimp only at h
    have e284 := (an (ti trivial) (VRun.loop hph279))
    injection h with h; subst h
    exact fun_ok pm pn Go.Proofs.Try.func57 (r0 := vi 0) (ans := [.reg (.n :: []), .reg (.n :: .call (vb r253) :: .n :: []), .br false, .reg (nN 3 []), .br false, .reg (nN 3 []), .sub ⟨[(0, none), (14, none), (15, none), (16, none)], [], []⟩ (.exit 0) (nprofile_CheckReadings_l0_0_e1 a0 a1 r282), .reg (.n :: [])]) (fr := true) (by kernel_rfl) (an (an (ti trivial) (an (an e255 (an (not_f h256) trivial)) (an (an (ti (ti (ti trivial))) (an (decide_eq_false h257) trivial)) (an (an (ti (ti (ti trivial))) e284) (an (ti trivial) trivial))))) (ti trivial)) (Wv.refl _)
 ·injection h with h; subst h
  exact fun_ok pm pn Go.Proofs.Try.func57 (r0 := vi 2) (ans := [.reg (.n :: []), .reg (.n :: .call (vb r253) :: .n :: []), .br true, .reg (.n :: [])]) (fr := true) (by kernel_rfl) (an (an (ti trivial) (an e255 (an (not_t (bool_f h256)) (an (ti trivial) trivial)))) (ti trivial)) (Wv.refl _)
def arW1_0 (z0 : (List SHeightReading)) (z1 : Int) : List Ans := (nN 5 (.v (VV.ag (c_SHeightReading (z0.getD (w64 ((w64 (0 - z1)) - 1)).toNat default))) :: .n :: .n :: []))
theorem eqW1_3 (z0 : Int) (z1 : (List SHeightReading)) : VV.ag [vi z0, vi ((z1.getD (w64 ((w64 (0 - z0)) - 1)).toNat default).To), vi ((z1.getD (w64 ((w64 (0 - z0)) - 1)).toNat default).From), vi (w64 (0 - (((z1.getD (w64 ((w64 (0 - z0)) - 1)).toNat default).Diff).Lo)))] = VV.ag (c_Sleg (⟨z0, (z1.getD (w64 ((w64 (0 - z0)) - 1)).toNat default).To, (z1.getD (w64 ((w64 (0 - z0)) - 1)).toNat default).From, w64 (0 - (((z1.getD (w64 ((w64 (0 - z0)) - 1)).toNat default).Diff).Lo))⟩ : Sleg)) := by first | rfl | (simp only [unfr_vi, List.map_cons, List.map_nil, un_i, unfr_c_Sleg]; done) | (simp only [unfr_vi, List.map_cons, List.map_nil, un_i, unfr_c_Sleg]; rfl) | (simp only [unfr_vi, List.map_cons, List.map_nil, un_i, unfr_c_Sleg, c_Sleg, List.length_cons, List.length_nil, List.length_append]; done)
def arW1_1 (z0 : (List SHeightReading)) (z1 : Int) : List Ans := (nN 4 (.v (VV.ag (c_SHeightReading (z0.getD (w64 (z1 - 1)).toNat default))) :: .n :: .n :: []))
theorem eqW1_4 (z0 : Int) (z1 : (List SHeightReading)) : VV.ag [vi z0, vi ((z1.getD (w64 (z0 - 1)).toNat default).From), vi ((z1.getD (w64 (z0 - 1)).toNat default).To), vi (((z1.getD (w64 (z0 - 1)).toNat default).Diff).Hi)] = VV.ag (c_Sleg (⟨z0, (z1.getD (w64 (z0 - 1)).toNat default).From, (z1.getD (w64 (z0 - 1)).toNat default).To, ((z1.getD (w64 (z0 - 1)).toNat default).Diff).Hi⟩ : Sleg)) := by first | rfl | (simp only [unfr_vi, List.map_cons, List.map_nil, un_i, unfr_c_Sleg]; done) | (simp only [unfr_vi, List.map_cons, List.map_nil, un_i, unfr_c_Sleg]; rfl) | (simp only [unfr_vi, List.map_cons, List.map_nil, un_i, unfr_c_Sleg, c_Sleg, List.length_cons, List.length_nil, List.length_append]; done)
def nprofile_legOf (k : Nat) (a0 : (List SHeightReading)) (a1 : Int) : Option Sleg :=
  if a1 < 0 then (if 0 ≤ w64 ((w64 (0 - a1)) - 1) ∧ w64 ((w64 (0 - a1)) - 1) < (a0.length : Int) then (some (⟨a1, (a0.getD (w64 ((w64 (0 - a1)) - 1)).toNat default).To, (a0.getD (w64 ((w64 (0 - a1)) - 1)).toNat default).From, w64 (0 - (((a0.getD (w64 ((w64 (0 - a1)) - 1)).toNat default).Diff).Lo))⟩ : Sleg)) else none) else (if 0 ≤ w64 (a1 - 1) ∧ w64 (a1 - 1) < (a0.length : Int) then (some (⟨a1, (a0.getD (w64 (a1 - 1)).toNat default).From, (a0.getD (w64 (a1 - 1)).toNat default).To, ((a0.getD (w64 (a1 - 1)).toNat default).Diff).Hi⟩ : Sleg)) else none)
theorem nprofile_legOf_ok (k : Nat) (a0 : (List SHeightReading)) (a1 : Int) (r : Sleg) (h : nprofile_legOf k a0 a1 = some r) : VC Go.Proofs.Try.prog 60 [VV.tr (List.flatMap c_SHeightReading a0) a0.length, vi a1] (VV.ag (c_Sleg r)) := by
 unfold nprofile_legOf at h
 rcases ifs h with ⟨h295, h⟩ | ⟨h295, h⟩
 ·obtain ⟨h296, h⟩ := ifn h
  have e297 := (show loadL Go.Proofs.Try.prog 65 ((w64 ((w64 (0 - a1)) - 1)).toNat * 4) (List.flatMap c_SHeightReading a0) = some (VV.ag (c_SHeightReading (a0.getD (w64 ((w64 (0 - a1)) - 1)).toNat default))) from ld_whole ag65 c_SHeightReading 4 sz65 len_c_SHeightReading a0 default h296 (by omega))
  have e298 := (ti (ti (ti (ti (an h296 (an e297 (ti (ti trivial))))))))
  have e299 := (ti (ti (ti (ti (ti (ti (ti (ti (ti (ti (ti trivial)))))))))))
  injection h with h; subst h
  exact fun_ok pm pn Go.Proofs.Try.func60 (r0 := VV.ag [vi a1, vi ((a0.getD (w64 ((w64 (0 - a1)) - 1)).toNat default).To), vi ((a0.getD (w64 ((w64 (0 - a1)) - 1)).toNat default).From), vi (w64 (0 - (((a0.getD (w64 ((w64 (0 - a1)) - 1)).toNat default).Diff).Lo)))]) (ans := [.reg (.n :: []), .reg (.n :: .n :: []), .br true, .reg (arW1_0 a0 a1), .reg (nN 11 [])]) (fr := true) (by kernel_rfl) (an (an (ti trivial) (an (ti (ti trivial)) (an (decide_eq_true h295) (an e298 (an e299 trivial))))) (an (ti (ti (ti (ti (ti trivial))))) trivial)) (Wv.of_eq (eqW1_3 a1 a0))
 ·obtain ⟨h300, h⟩ := ifn h
  have e301 := (show loadL Go.Proofs.Try.prog 65 ((w64 (a1 - 1)).toNat * 4) (List.flatMap c_SHeightReading a0) = some (VV.ag (c_SHeightReading (a0.getD (w64 (a1 - 1)).toNat default))) from ld_whole ag65 c_SHeightReading 4 sz65 len_c_SHeightReading a0 default h300 (by omega))
  have e302 := (ti (ti (ti (an h300 (an e301 (ti (ti trivial)))))))
  have e303 := (ti (ti (ti (ti (ti (ti (ti (ti (ti (ti trivial))))))))))
  injection h with h; subst h
  exact fun_ok pm pn Go.Proofs.Try.func60 (r0 := VV.ag [vi a1, vi ((a0.getD (w64 (a1 - 1)).toNat default).From), vi ((a0.getD (w64 (a1 - 1)).toNat default).To), vi (((a0.getD (w64 (a1 - 1)).toNat default).Diff).Hi)]) (ans := [.reg (.n :: []), .reg (.n :: .n :: []), .br false, .reg (arW1_1 a0 a1), .reg (nN 10 [])]) (fr := true) (by kernel_rfl) (an (an (ti trivial) (an (an (ti (ti trivial)) (an (decide_eq_false h295) trivial)) (an e302 (an e303 trivial)))) (an (ti (ti (ti (ti (ti trivial))))) trivial)) (Wv.of_eq (eqW1_4 a1 a0))
def arW1_2 (z0 : Sleg) (z1 : Sleg) : List Ans := (nN 5 (.call (VV.ag (c_Sleg z0)) :: nN 4 (.call (VV.ag (c_Sleg z1)) :: .v VV.any :: nN 3 [])))
def nprofile_newWeb_l0_0_h (a0 : Int) (a1 : (List SHeightReading)) (y2 : List Sleg) (x11 : Int) : VS := ⟨mkA [(1, VV.tr (List.flatMap c_SHeightReading a1) a1.length), (4, VV.pt 0 0), (5, VV.pt 1 0), (10, vi (a1.length : Int)), (11, vi x11)], [some ⟨true, 1, [vi 0, VV.c (.slice none 0 0)]⟩, some ⟨true, 1, [vi a0, VV.rf 2 0 y2.length]⟩, some ⟨false, 4, List.flatMap c_Sleg y2⟩], .nil⟩
def nprofile_newWeb_l0_0_e0 (a0 : Int) (a1 : (List SHeightReading)) (r : (List Sleg)) : VS := ⟨mkA [(4, VV.pt 0 0), (5, VV.pt 1 0)], [some ⟨true, 1, [vi 0, VV.c (.slice none 0 0)]⟩, some ⟨true, 1, [vi a0, VV.rf 2 0 r.length]⟩, some ⟨false, 4, List.flatMap c_Sleg r⟩], .nil⟩
def nprofile_newWeb_l0_0 (k : Nat) (a0 : Int) (a1 : (List SHeightReading)) : Nat → (List Sleg) → Int → Option ((List Sleg))
  | 0, _, _ => none
  | fuel + 1, y2, x11 => if x11 < (a1.length : Int) then ((nprofile_legOf k a1 (w64 (x11 + 1))).bind fun r375 => ((nprofile_legOf k a1 (w64 ((w64 (0 - x11)) - 1))).bind fun r378 => (if y2.length + ([r375, r378] : List Sleg).length ≤ 1000000000 then (nprofile_newWeb_l0_0 k a0 a1 fuel (y2 ++ ([r375, r378] : List Sleg)) (w64 (x11 + 1))) else none))) else (some y2)
theorem nprofile_newWeb_l0_0_ok (k : Nat) (a0 : Int) (a1 : (List SHeightReading)) : ∀ (fuel : Nat) (y2 : List Sleg) (x11 : Int) (r : (List Sleg)), nprofile_newWeb_l0_0 k a0 a1 fuel y2 x11 = some r → (VLoop none Go.Proofs.Try.prog (szF Go.Proofs.Try.f53) (bodyOf Go.Proofs.Try.f53 0) (nprofile_newWeb_l0_0_h a0 a1 y2 x11) (.exit 0) (nprofile_newWeb_l0_0_e0 a0 a1 r)) := by
 intro fuel
 induction fuel with
 | zero => intro y2 x11 r h; rw [nprofile_newWeb_l0_0.eq_1] at h; cases h
 | succ fuel ih =>
  intro y2 x11 r h
  rw [nprofile_newWeb_l0_0.eq_2] at h
  rcases ifs h with ⟨h374, h⟩ | ⟨h374, h⟩
  ·obtain ⟨r375, h376, h⟩ := bs h
   have e377 := (nprofile_legOf_ok k a1 (w64 (x11 + 1)) _ h376)
   obtain ⟨r378, h379, h⟩ := bs h
   have e380 := (nprofile_legOf_ok k a1 (w64 ((w64 (0 - x11)) - 1)) _ h379)
   obtain ⟨h381, h⟩ := ifn h
   have e382 := (show List.length (List.flatMap c_Sleg y2) = y2.length * 4 ∧ List.length [vi r375.signed, vi r375.from_, vi r375.to, vi r375.length, vi r378.signed, vi r378.from_, vi r378.to, vi r378.length] = 2 * 4 ∧ (y2.length + 2) * 32 ≤ 140737488355328 ∧ y2.length + 2 < 1099511627776 ∧ List.all [vi r375.signed, vi r375.from_, vi r375.to, vi r375.length, vi r378.signed, vi r378.from_, vi r378.to, vi r378.length] VV.still = true from ⟨(by rw [flatMap_len len_c_Sleg] <;> simp), (by rw [show [vi r375.signed, vi r375.from_, vi r375.to, vi r375.length, vi r378.signed, vi r378.from_, vi r378.to, vi r378.length] = List.flatMap c_Sleg ([r375, r378] : List Sleg) from rfl]; rw [flatMap_len len_c_Sleg] <;> simp), (by first | omega | (simp at h381 ⊢; omega)), (by first | omega | (simp at h381 ⊢; omega)), (by rw [show [vi r375.signed, vi r375.from_, vi r375.to, vi r375.length, vi r378.signed, vi r378.from_, vi r378.to, vi r378.length] = List.flatMap c_Sleg ([r375, r378] : List Sleg) from rfl]; exact still_c_Sleg _)⟩)
   have e383 := (ti (ti (ti (ti (ti (an e377 (ti (ti (ti (ti (an e380 (ti (an e382 (ti (ti trivial)))))))))))))))
   have h2 := ih _ _ _ h
   obtain ⟨q, hv, hq⟩ := pkR (rd := none) (P := Go.Proofs.Try.prog) (fn := Go.Proofs.Try.f53) (k := 0) (s := (nprofile_newWeb_l0_0_h a0 a1 y2 x11)) (ans := [.reg (.n :: []), .br true, .reg (.n :: .n :: []), .reg (arW1_2 r375 r378), .reg (.n :: .n :: [])]) (c := ⟨[(1, none), (4, none), (5, none), (10, none), (11, none)], [none, some [vi a0, VV.rf 2 0 ((y2 ++ ([r375, r378] : List Sleg)).length)], some (List.flatMap c_Sleg (y2 ++ ([r375, r378] : List Sleg)))], []⟩) (e := .normal) (s1 := (nprofile_newWeb_l0_0_h a0 a1 (y2 ++ ([r375, r378] : List Sleg)) (w64 (x11 + 1)))) (an (an (ti trivial) (an (an (decide_eq_true h374) trivial) (an (an (ti (ti trivial)) e383) (ti (ti trivial))))) (ti (an (show [vi a0, VV.rf 2 0 (y2.length + 2)] = [vi a0, VV.rf 2 0 ((y2 ++ ([r375, r378] : List Sleg)).length)] from (by first | rfl | simp)) (an (show (List.flatMap c_Sleg y2) ++ [vi r375.signed, vi r375.from_, vi r375.to, vi r375.length, vi r378.signed, vi r378.from_, vi r378.to, vi r378.length] = List.flatMap c_Sleg (y2 ++ ([r375, r378] : List Sleg)) from (by rw [show [vi r375.signed, vi r375.from_, vi r375.to, vi r375.length, vi r378.signed, vi r378.from_, vi r378.to, vi r378.length] = List.flatMap c_Sleg ([r375, r378] : List Sleg) from rfl]; exact List.flatMap_append.symm)) trivial)))) (by kernel_rfl)
   exact round_next pm pn hv hq h2
  ·injection h with h; subst h
   exact round_stop (c := ⟨[(4, none), (5, none)], [none, none, none], []⟩) (s1 := (nprofile_newWeb_l0_0_e0 a0 a1 y2)) pm pn (ans := [.reg (.n :: []), .br false]) (by kernel_rfl) (by intro e; cases e) (an (an (ti trivial) (an (decide_eq_false h374) trivial)) (ti trivial))
theorem eqW1_5 (z0 : Int) (z1 : (List Sleg)) : VV.ag [vi z0, VV.fw 4 (List.drop 0 (List.map unfr (List.flatMap c_Sleg z1))) z1.length] = VV.ag [vi ((⟨z0, z1⟩ : Sweb).zones), VV.fw 4 (List.flatMap c_Sleg ((⟨z0, z1⟩ : Sweb).legs)) (((⟨z0, z1⟩ : Sweb).legs).length)] := by first | rfl | (simp only [drop0, unfr_vi, List.map_cons, List.map_nil, un_i, List.length_map, List.length_cons, List.length_nil, unfr_c_Sleg]; done) | (simp only [drop0, unfr_vi, List.map_cons, List.map_nil, un_i, List.length_map, List.length_cons, List.length_nil, unfr_c_Sleg]; rfl) | (simp only [drop0, unfr_vi, List.map_cons, List.map_nil, un_i, List.length_map, List.length_cons, List.length_nil, unfr_c_Sleg, c_Sleg, List.length_cons, List.length_nil, List.length_append]; done)
def nprofile_newWeb (k : Nat) (a0 : Int) (a1 : (List SHeightReading)) : Option Sweb :=
  (nprofile_newWeb_l0_0 k a0 a1 k ([] : List Sleg) 0).bind fun r385 => (some (⟨a0, r385⟩ : Sweb))
theorem nprofile_newWeb_ok (k : Nat) (a0 : Int) (a1 : (List SHeightReading)) (r : Sweb) (h : nprofile_newWeb k a0 a1 = some r) : VC Go.Proofs.Try.prog 53 [vi a0, VV.tr (List.flatMap c_SHeightReading a1) a1.length] (VV.ag [vi r.zones, VV.fw 4 (List.flatMap c_Sleg r.legs) r.legs.length]) := by
 unfold nprofile_newWeb at h
 obtain ⟨r385, h384, h⟩ := bs h
 have hph384 := nprofile_newWeb_l0_0_ok k a0 a1 _ _ _ _ h384
 have e386 := (an (ti trivial) (VRun.loop hph384))
 injection h with h; subst h
 exact fun_ok pm pn Go.Proofs.Try.func53 (r0 := VV.ag [vi a0, VV.fw 4 (List.drop 0 (List.map unfr (List.flatMap c_Sleg r385))) r385.length]) (ans := [.reg (.n :: []), .reg (nN 4 []), .reg (nN 3 []), .sub ⟨[(1, none), (4, none), (5, none), (10, none), (11, none)], [none, none], [.b 1 1 4]⟩ (.exit 0) (nprofile_newWeb_l0_0_e0 a0 a1 r385), .reg (.n :: .n :: [])]) (fr := true) (by kernel_rfl) (an (an (ti trivial) (an (ti (ti (ti (ti trivial)))) (an (an (ti (ti (ti trivial))) e386) (an (ti (ti trivial)) trivial)))) (an (ti (ti (an (show List.all (List.flatMap c_Sleg r385) new0 = true from (by exact new0_c_Sleg _)) trivial))) trivial)) (Wv.of_eq (eqW1_5 a0 r385))
def n_profile_web_circle_i89_l0_0_h (a0 : Sweb) (y1 : List Int) (y2 : List Sleg) (x17 : Int) (x4 : Int) (y1z : List Int) (y2z : List Sleg) (x14 : Int) (x6 : Int) (x7 : Bool) : VS := ⟨mkA [(3, VV.pt 5 0), (6, vi x6), (7, vb x7), (12, VV.tr (List.flatMap c_Sleg a0.legs) a0.legs.length), (13, vi (a0.legs.length : Int)), (14, vi x14)], [some ⟨true, 1, c_Sweb a0⟩, some ⟨false, 1, List.map vi y1z⟩, some ⟨false, 4, List.flatMap c_Sleg y2z⟩, some ⟨true, 1, [VV.rf 1 0 y1z.length, VV.rf 2 0 y2z.length]⟩, some ⟨true, 1, c_Sweb a0⟩, some ⟨true, 1, [VV.rf 1 0 y1z.length, VV.rf 2 0 y2z.length]⟩], (.node none (mkA [(1, VV.pt 0 0), (3, VV.pt 3 0), (4, vi x4), (16, vi a0.zones), (17, vi x17), (18, vb (decide (x17 < a0.zones))), (20, VV.ag (c_Sweb a0)), (21, VV.ag [VV.rf 1 0 y1.length, VV.rf 2 0 y2.length])]) .nil)⟩
def n_profile_web_circle_i89_l0_0_e0 (a0 : Sweb) (y1 : List Int) (y2 : List Sleg) (x17 : Int) (x4 : Int) (r : Int × Bool × (List Int) × (List Sleg)) : VS := ⟨mkA [(6, vi r.1), (7, vb r.2.1)], [some ⟨true, 1, c_Sweb a0⟩, some ⟨false, 1, List.map vi r.2.2.1⟩, some ⟨false, 4, List.flatMap c_Sleg r.2.2.2⟩, some ⟨true, 1, [VV.rf 1 0 r.2.2.1.length, VV.rf 2 0 r.2.2.2.length]⟩], (.node none (mkA [(1, VV.pt 0 0), (3, VV.pt 3 0), (4, vi x4), (16, vi a0.zones), (17, vi x17), (18, vb (decide (x17 < a0.zones))), (20, VV.ag (c_Sweb a0)), (21, VV.ag [VV.rf 1 0 y1.length, VV.rf 2 0 y2.length])]) .nil)⟩
def n_profile_web_circle_i89_l0_0 (k : Nat) (a0 : Sweb) (y1 : List Int) (y2 : List Sleg) (x17 : Int) (x4 : Int) : Nat → (List Int) → (List Sleg) → Int → Int → Bool → Option (Int × Bool × (List Int) × (List Sleg))
  | 0, _, _, _, _, _ => none
  | fuel + 1, y1z, y2z, x14, x6, x7 => if x14 < (a0.legs.length : Int) then (if 0 ≤ x14 ∧ x14 < (a0.legs.length : Int) then (if 0 ≤ (a0.legs.getD x14.toNat default).from_ ∧ (a0.legs.getD x14.toNat default).from_ < (y1z.length : Int) then (if (y1z.getD ((a0.legs.getD x14.toNat default).from_).toNat 0) = 9223372036854775807 then (n_profile_web_circle_i89_l0_0 k a0 y1 y2 x17 x4 fuel y1z y2z (w64 (x14 + 1)) x6 x7) else (if 0 ≤ (a0.legs.getD x14.toNat default).to ∧ (a0.legs.getD x14.toNat default).to < (y1z.length : Int) then (if (w64 ((y1z.getD ((a0.legs.getD x14.toNat default).from_).toNat 0) + ((a0.legs.getD x14.toNat default).length))) < (y1z.getD ((a0.legs.getD x14.toNat default).to).toNat 0) then (if 0 ≤ (a0.legs.getD x14.toNat default).to ∧ (a0.legs.getD x14.toNat default).to < (y2z.length : Int) then (n_profile_web_circle_i89_l0_0 k a0 y1 y2 x17 x4 fuel (y1z.set ((a0.legs.getD x14.toNat default).to).toNat (w64 ((y1z.getD ((a0.legs.getD x14.toNat default).from_).toNat 0) + ((a0.legs.getD x14.toNat default).length)))) (y2z.set ((a0.legs.getD x14.toNat default).to).toNat (a0.legs.getD x14.toNat default)) (w64 (x14 + 1)) ((a0.legs.getD x14.toNat default).to) true) else none) else (n_profile_web_circle_i89_l0_0 k a0 y1 y2 x17 x4 fuel y1z y2z (w64 (x14 + 1)) x6 x7)) else none)) else none) else none) else (some (x6, x7, y1z, y2z))
theorem n_profile_web_circle_i89_l0_0_ok (k : Nat) (a0 : Sweb) (y1 : List Int) (y2 : List Sleg) (x17 : Int) (x4 : Int) : ∀ (fuel : Nat) (y1z : List Int) (y2z : List Sleg) (x14 : Int) (x6 : Int) (x7 : Bool) (r : Int × Bool × (List Int) × (List Sleg)), n_profile_web_circle_i89_l0_0 k a0 y1 y2 x17 x4 fuel y1z y2z x14 x6 x7 = some r → (VLoop none Go.Proofs.Try.prog (szF Go.Proofs.Try.f89) (bodyOf Go.Proofs.Try.f89 0) (n_profile_web_circle_i89_l0_0_h a0 y1 y2 x17 x4 y1z y2z x14 x6 x7) (.exit 0) (n_profile_web_circle_i89_l0_0_e0 a0 y1 y2 x17 x4 r)) := by
 intro fuel
 induction fuel with
 | zero => intro y1z y2z x14 x6 x7 r h; rw [n_profile_web_circle_i89_l0_0.eq_1] at h; cases h
 | succ fuel ih =>
  intro y1z y2z x14 x6 x7 r h
  rw [n_profile_web_circle_i89_l0_0.eq_2] at h
  rcases ifs h with ⟨h835, h⟩ | ⟨h835, h⟩
  ·obtain ⟨h836, h⟩ := ifn h
   have e837 := (show loadL Go.Proofs.Try.prog 109 (x14.toNat * 4) (List.flatMap c_Sleg a0.legs) = some (VV.ag (c_Sleg (a0.legs.getD x14.toNat default))) from ld_whole ag109 c_Sleg 4 sz109 len_c_Sleg a0.legs default h836 (by omega))
   obtain ⟨h838, h⟩ := ifn h
   have e839 := (show loadL Go.Proofs.Try.prog 3 (0 + ((a0.legs.getD x14.toNat default).from_).toNat * 1) (List.map vi y1z) = some (vi (y1z.getD ((a0.legs.getD x14.toNat default).from_).toNat 0)) from ld_map ag3 vi y1z 0 h838 (by omega))
   have e840 := (ti (ti (ti (ti (an h838 (an e839 (ti trivial)))))))
   rcases ifs h with ⟨h841, h⟩ | ⟨h841, h⟩
   ·have h2 := ih _ _ _ _ _ _ h
    obtain ⟨q, hv, hq⟩ := pkR (rd := none) (P := Go.Proofs.Try.prog) (fn := Go.Proofs.Try.f89) (k := 0) (s := (n_profile_web_circle_i89_l0_0_h a0 y1 y2 x17 x4 y1z y2z x14 x6 x7)) (ans := [.reg (.n :: []), .br true, .reg (.n :: .v (VV.ag (c_Sleg (a0.legs.getD x14.toNat default))) :: .n :: .n :: []), .reg (nN 5 (.v (vi (y1z.getD ((a0.legs.getD x14.toNat default).from_).toNat 0)) :: .n :: [])), .br true, .reg (.n :: .n :: [])]) (c := ⟨[(3, none), (6, none), (7, none), (12, none), (13, none), (14, none)], [none, none, none, none, none, none], []⟩) (e := .normal) (s1 := (n_profile_web_circle_i89_l0_0_h a0 y1 y2 x17 x4 y1z y2z (w64 (x14 + 1)) x6 x7)) (an (an (ti trivial) (an (an (decide_eq_true h835) trivial) (an (an (an h836 (an e837 (ti (ti trivial)))) (an e840 (an (decide_eq_true h841) trivial))) (ti (ti trivial))))) (ti trivial)) (by kernel_rfl)
    exact round_next pm pn hv hq h2
   ·have e842 := (show loadL Go.Proofs.Try.prog 3 (0 + ((a0.legs.getD x14.toNat default).from_).toNat * 1) (List.map vi y1z) = some (vi (y1z.getD ((a0.legs.getD x14.toNat default).from_).toNat 0)) from ld_map ag3 vi y1z 0 h838 (by omega))
    have e843 := (ti (ti (ti (ti (an h838 (an e842 (ti (ti (ti (ti trivial))))))))))
    obtain ⟨h844, h⟩ := ifn h
    have e845 := (show loadL Go.Proofs.Try.prog 3 (0 + ((a0.legs.getD x14.toNat default).to).toNat * 1) (List.map vi y1z) = some (vi (y1z.getD ((a0.legs.getD x14.toNat default).to).toNat 0)) from ld_map ag3 vi y1z 0 h844 (by omega))
    have e846 := (ti (ti (ti (ti (ti (an h844 (an e845 (ti trivial))))))))
    rcases ifs h with ⟨h847, h⟩ | ⟨h847, h⟩
    ·have e848 := (show (0 + ((a0.legs.getD x14.toNat default).to).toNat * 1) + 1 ≤ List.length (List.map vi y1z) from (by simp only [List.length_map]; omega))
     obtain ⟨h849, h⟩ := ifn h
     have e850 := (show (0 + ((a0.legs.getD x14.toNat default).to).toNat * 4) + 4 ≤ List.length (List.flatMap c_Sleg y2z) from (by rw [flat_len len_c_Sleg]; have := h849; omega))
     have e851 := (ti (ti (ti (ti (ti (ti (ti (ti (ti (ti (an h844 (an e848 (an h849 (an e850 trivial))))))))))))))
     have h2 := ih _ _ _ _ _ _ h
     obtain ⟨q, hv, hq⟩ := pkR (rd := none) (P := Go.Proofs.Try.prog) (fn := Go.Proofs.Try.f89) (k := 0) (s := (n_profile_web_circle_i89_l0_0_h a0 y1 y2 x17 x4 y1z y2z x14 x6 x7)) (ans := [.reg (.n :: []), .br true, .reg (.n :: .v (VV.ag (c_Sleg (a0.legs.getD x14.toNat default))) :: .n :: .n :: []), .reg (nN 5 (.v (vi (y1z.getD ((a0.legs.getD x14.toNat default).from_).toNat 0)) :: .n :: [])), .br false, .reg (nN 5 (.v (vi (y1z.getD ((a0.legs.getD x14.toNat default).from_).toNat 0)) :: nN 4 [])), .reg (nN 6 (.v (vi (y1z.getD ((a0.legs.getD x14.toNat default).to).toNat 0)) :: .n :: [])), .br true, .reg (nN 14 []), .reg (nN 4 []), .reg (.n :: .n :: [])]) (c := ⟨[(3, none), (6, none), (7, none), (12, none), (13, none), (14, none)], [none, some (List.map vi (y1z.set ((a0.legs.getD x14.toNat default).to).toNat (w64 ((y1z.getD ((a0.legs.getD x14.toNat default).from_).toNat 0) + ((a0.legs.getD x14.toNat default).length))))), some (List.flatMap c_Sleg (y2z.set ((a0.legs.getD x14.toNat default).to).toNat (a0.legs.getD x14.toNat default))), some [VV.rf 1 0 ((y1z.set ((a0.legs.getD x14.toNat default).to).toNat (w64 ((y1z.getD ((a0.legs.getD x14.toNat default).from_).toNat 0) + ((a0.legs.getD x14.toNat default).length)))).length), VV.rf 2 0 ((y2z.set ((a0.legs.getD x14.toNat default).to).toNat (a0.legs.getD x14.toNat default)).length)], none, some [VV.rf 1 0 ((y1z.set ((a0.legs.getD x14.toNat default).to).toNat (w64 ((y1z.getD ((a0.legs.getD x14.toNat default).from_).toNat 0) + ((a0.legs.getD x14.toNat default).length)))).length), VV.rf 2 0 ((y2z.set ((a0.legs.getD x14.toNat default).to).toNat (a0.legs.getD x14.toNat default)).length)]], []⟩) (e := .normal) (s1 := (n_profile_web_circle_i89_l0_0_h a0 y1 y2 x17 x4 (y1z.set ((a0.legs.getD x14.toNat default).to).toNat (w64 ((y1z.getD ((a0.legs.getD x14.toNat default).from_).toNat 0) + ((a0.legs.getD x14.toNat default).length)))) (y2z.set ((a0.legs.getD x14.toNat default).to).toNat (a0.legs.getD x14.toNat default)) (w64 (x14 + 1)) ((a0.legs.getD x14.toNat default).to) true)) (an (an (ti trivial) (an (an (decide_eq_true h835) trivial) (an (an (an h836 (an e837 (ti (ti trivial)))) (an (an e840 (an (decide_eq_false h841) trivial)) (an e843 (an e846 (an (decide_eq_true h847) (an e851 (ti (ti (ti (ti trivial)))))))))) (ti (ti trivial))))) (ti (an (show putT (0 + ((a0.legs.getD x14.toNat default).to).toNat * 1) (List.map vi y1z) [vi (w64 ((y1z.getD ((a0.legs.getD x14.toNat default).from_).toNat 0) + ((a0.legs.getD x14.toNat default).length)))] = List.map vi (y1z.set ((a0.legs.getD x14.toNat default).to).toNat (w64 ((y1z.getD ((a0.legs.getD x14.toNat default).from_).toNat 0) + ((a0.legs.getD x14.toNat default).length)))) from (by exact putT_vi y1z h844 (w64 ((y1z.getD ((a0.legs.getD x14.toNat default).from_).toNat 0) + ((a0.legs.getD x14.toNat default).length))) (by omega))) (an (show putT (0 + ((a0.legs.getD x14.toNat default).to).toNat * 4) (List.flatMap c_Sleg y2z) [vi ((a0.legs.getD x14.toNat default).signed), vi ((a0.legs.getD x14.toNat default).from_), vi ((a0.legs.getD x14.toNat default).to), vi ((a0.legs.getD x14.toNat default).length)] = List.flatMap c_Sleg (y2z.set ((a0.legs.getD x14.toNat default).to).toNat (a0.legs.getD x14.toNat default)) from (by exact putT_flat len_c_Sleg y2z h849 (a0.legs.getD x14.toNat default) (by omega))) (an (show [VV.rf 1 0 y1z.length, VV.rf 2 0 y2z.length] = [VV.rf 1 0 ((y1z.set ((a0.legs.getD x14.toNat default).to).toNat (w64 ((y1z.getD ((a0.legs.getD x14.toNat default).from_).toNat 0) + ((a0.legs.getD x14.toNat default).length)))).length), VV.rf 2 0 ((y2z.set ((a0.legs.getD x14.toNat default).to).toNat (a0.legs.getD x14.toNat default)).length)] from (by first | rfl | simp)) (an (show [VV.rf 1 0 y1z.length, VV.rf 2 0 y2z.length] = [VV.rf 1 0 ((y1z.set ((a0.legs.getD x14.toNat default).to).toNat (w64 ((y1z.getD ((a0.legs.getD x14.toNat default).from_).toNat 0) + ((a0.legs.getD x14.toNat default).length)))).length), VV.rf 2 0 ((y2z.set ((a0.legs.getD x14.toNat default).to).toNat (a0.legs.getD x14.toNat default)).length)] from (by first | rfl | simp)) trivial)))))) (by kernel_rfl)
     exact round_next pm pn hv hq h2
    ·have h2 := ih _ _ _ _ _ _ h
     obtain ⟨q, hv, hq⟩ := pkR (rd := none) (P := Go.Proofs.Try.prog) (fn := Go.Proofs.Try.f89) (k := 0) (s := (n_profile_web_circle_i89_l0_0_h a0 y1 y2 x17 x4 y1z y2z x14 x6 x7)) (ans := [.reg (.n :: []), .br true, .reg (.n :: .v (VV.ag (c_Sleg (a0.legs.getD x14.toNat default))) :: .n :: .n :: []), .reg (nN 5 (.v (vi (y1z.getD ((a0.legs.getD x14.toNat default).from_).toNat 0)) :: .n :: [])), .br false, .reg (nN 5 (.v (vi (y1z.getD ((a0.legs.getD x14.toNat default).from_).toNat 0)) :: nN 4 [])), .reg (nN 6 (.v (vi (y1z.getD ((a0.legs.getD x14.toNat default).to).toNat 0)) :: .n :: [])), .br false, .reg (.n :: .n :: [])]) (c := ⟨[(3, none), (6, none), (7, none), (12, none), (13, none), (14, none)], [none, none, none, none, none, none], []⟩) (e := .normal) (s1 := (n_profile_web_circle_i89_l0_0_h a0 y1 y2 x17 x4 y1z y2z (w64 (x14 + 1)) x6 x7)) (an (an (ti trivial) (an (an (decide_eq_true h835) trivial) (an (an (an h836 (an e837 (ti (ti trivial)))) (an (an e840 (an (decide_eq_false h841) trivial)) (an e843 (an e846 (an (decide_eq_false h847) trivial))))) (ti (ti trivial))))) (ti trivial)) (by kernel_rfl)
     exact round_next pm pn hv hq h2
  ·injection h with h; subst h
   exact round_stop (c := ⟨[(6, none), (7, none)], [none, none, none, none], []⟩) (s1 := (n_profile_web_circle_i89_l0_0_e0 a0 y1 y2 x17 x4 (x6, x7, y1z, y2z))) pm pn (ans := [.reg (.n :: []), .br false]) (by kernel_rfl) (by intro e; cases e) (an (an (ti trivial) (an (decide_eq_false h835) trivial)) (ti trivial))
def n_profile_web_circle_l0_0_h (a0 : Sweb) (y1 : List Int) (y2 : List Sleg) (x17 : Int) (x4 : Int) : VS := ⟨mkA [(1, VV.pt 0 0), (3, VV.pt 3 0), (4, vi x4), (16, vi a0.zones), (17, vi x17)], [some ⟨true, 1, c_Sweb a0⟩, some ⟨false, 1, List.map vi y1⟩, some ⟨false, 4, List.flatMap c_Sleg y2⟩, some ⟨true, 1, [VV.rf 1 0 y1.length, VV.rf 2 0 y2.length]⟩], .nil⟩
def n_profile_web_circle_l0_0_e0 (a0 : Sweb) (r : Unit) : VS := ⟨mkA [(2, VV.c (.slice none 0 0))], [], .nil⟩
def n_profile_web_circle_l0_0_e1 (a0 : Sweb) (r : Int × (List Int) × (List Sleg)) : VS := ⟨mkA [(1, VV.pt 0 0), (3, VV.pt 3 0), (4, vi r.1)], [some ⟨true, 1, c_Sweb a0⟩, some ⟨false, 1, List.map vi r.2.1⟩, some ⟨false, 4, List.flatMap c_Sleg r.2.2⟩, some ⟨true, 1, [VV.rf 1 0 r.2.1.length, VV.rf 2 0 r.2.2.length]⟩], .nil⟩
def n_profile_web_circle_l0_0 (k : Nat) (a0 : Sweb) : Nat → (List Int) → (List Sleg) → Int → Int → Option (Sum Unit (Int × (List Int) × (List Sleg)))
  | 0, _, _, _, _ => none
  | fuel + 1, y1, y2, x17, x4 => if x17 < a0.zones then ((n_profile_web_circle_i89_l0_0 k a0 y1 y2 x17 x4 k y1 y2 0 0 false).bind fun r853 => (if r853.2.2.1.length = y1.length then (if r853.2.2.2.length = y2.length then (if r853.2.1 = true then (n_profile_web_circle_l0_0 k a0 fuel r853.2.2.1 r853.2.2.2 (w64 (x17 + 1)) r853.1) else (some (.inl ()))) else none) else none)) else (some (.inr (x4, y1, y2)))
theorem n_profile_web_circle_l0_0_ok (k : Nat) (a0 : Sweb) : ∀ (fuel : Nat) (y1 : List Int) (y2 : List Sleg) (x17 : Int) (x4 : Int) (r : Sum Unit (Int × (List Int) × (List Sleg))), n_profile_web_circle_l0_0 k a0 fuel y1 y2 x17 x4 = some r → (match r with | .inl r => VLoop none Go.Proofs.Try.prog (szF Go.Proofs.Try.f54) (bodyOf Go.Proofs.Try.f54 0) (n_profile_web_circle_l0_0_h a0 y1 y2 x17 x4) .ret (n_profile_web_circle_l0_0_e0 a0 r) | .inr r => VLoop none Go.Proofs.Try.prog (szF Go.Proofs.Try.f54) (bodyOf Go.Proofs.Try.f54 0) (n_profile_web_circle_l0_0_h a0 y1 y2 x17 x4) (.exit 0) (n_profile_web_circle_l0_0_e1 a0 r)) := by
 intro fuel
 induction fuel with
 | zero => intro y1 y2 x17 x4 r h; rw [n_profile_web_circle_l0_0.eq_1] at h; cases h
 | succ fuel ih =>
  intro y1 y2 x17 x4 r h
  rw [n_profile_web_circle_l0_0.eq_2] at h
  rcases ifs h with ⟨h800, h⟩ | ⟨h800, h⟩
  ·obtain ⟨r853, h852, h⟩ := bs h
   have hph852 := n_profile_web_circle_i89_l0_0_ok k a0 y1 y2 x17 x4 _ _ _ _ _ _ _ h852
   have e854 := (an (ti trivial) (VRun.loop hph852))
   obtain ⟨h855, h⟩ := ifn h
   obtain ⟨h856, h⟩ := ifn h
   have e857 := (an (an Go.Proofs.Try.func89 (an (ti (ti (ti (ti trivial)))) (an (ti (ti trivial)) (an (an (ti (ti (ti (ti trivial)))) e854) (an (ti (ti (ti (ti trivial)))) trivial))))) (ti (ti trivial)))
   have e858 := (ti (ti (an e857 (ti (ti (ti (ti (ti trivial))))))))
   rcases ifs h with ⟨h859, h⟩ | ⟨h859, h⟩
   ·have h2 := ih _ _ _ _ _ h
    obtain ⟨q, hv, hq⟩ := pkR (rd := none) (P := Go.Proofs.Try.prog) (fn := Go.Proofs.Try.f54) (k := 0) (s := (n_profile_web_circle_l0_0_h a0 y1 y2 x17 x4)) (ans := [.reg (.n :: []), .br true, .reg (.n :: .n :: .inl (inlF Go.Proofs.Try.f89 [.reg (nN 4 []), .reg (.n :: .n :: []), .reg (nN 4 []), .sub ⟨[(3, none), (6, none), (7, none), (12, none), (13, none), (14, none)], [none, none, none, none, none, none], []⟩ (.exit 0) (n_profile_web_circle_i89_l0_0_e0 a0 y1 y2 x17 x4 r853), .reg (nN 4 [])]) :: nN 5 []), .reg (.n :: .n :: []), .br false, .reg (.n :: .n :: [])]) (c := ⟨[(1, none), (3, none), (4, none), (16, none), (17, none)], [none, none, none, none], []⟩) (e := .normal) (s1 := (n_profile_web_circle_l0_0_h a0 r853.2.2.1 r853.2.2.2 (w64 (x17 + 1)) r853.1)) (an (an (ti trivial) (an (an (decide_eq_true h800) trivial) (an (an e858 (an (ti (ti trivial)) (an (not_f h859) trivial))) (ti (ti trivial))))) (ti trivial)) (by kernel_rfl)
    cases r with
    | inl r => exact round_next pm pn hv hq h2
    | inr r =>
     exact round_next pm pn hv hq h2
   ·injection h with h; subst h
    exact round_stop (c := ⟨[(2, none)], [], []⟩) (s1 := (n_profile_web_circle_l0_0_e0 a0 ())) pm pn (ans := [.reg (.n :: []), .br true, .reg (.n :: .n :: .inl (inlF Go.Proofs.Try.f89 [.reg (nN 4 []), .reg (.n :: .n :: []), .reg (nN 4 []), .sub ⟨[(3, none), (6, none), (7, none), (12, none), (13, none), (14, none)], [none, none, none, none, none, none], []⟩ (.exit 0) (n_profile_web_circle_i89_l0_0_e0 a0 y1 y2 x17 x4 r853), .reg (nN 4 [])]) :: nN 5 []), .reg (.n :: .n :: []), .br true, .reg (.n :: [])]) (by kernel_rfl) (by intro e; cases e) (an (an (ti trivial) (an (an (decide_eq_true h800) trivial) (an e858 (an (ti (ti trivial)) (an (not_t (bool_f h859)) (an (ti trivial) trivial)))))) (ti trivial))
  ·injection h with h; subst h
   exact round_stop (c := ⟨[(1, none), (3, none), (4, none)], [none, none, none, none], []⟩) (s1 := (n_profile_web_circle_l0_0_e1 a0 (x4, y1, y2))) pm pn (ans := [.reg (.n :: []), .br false]) (by kernel_rfl) (by intro e; cases e) (an (an (ti trivial) (an (decide_eq_false h800) trivial)) (ti trivial))
def n_profile_web_circle_l1_0_h (a0 : Sweb) (r863 : Int × (List Int) × (List Sleg)) (x30 : Int) (x4 : Int) : VS := ⟨mkA [(3, VV.pt 3 0), (4, vi x4), (29, vi a0.zones), (30, vi x30)], [some ⟨true, 1, c_Sweb a0⟩, some ⟨false, 1, List.map vi r863.2.1⟩, some ⟨false, 4, List.flatMap c_Sleg r863.2.2⟩, some ⟨true, 1, [VV.rf 1 0 r863.2.1.length, VV.rf 2 0 r863.2.2.length]⟩], .nil⟩
def n_profile_web_circle_l1_0_e0 (a0 : Sweb) (r863 : Int × (List Int) × (List Sleg)) (r : Int) : VS := ⟨mkA [(3, VV.pt 3 0), (4, vi r)], [some ⟨true, 1, c_Sweb a0⟩, some ⟨false, 1, List.map vi r863.2.1⟩, some ⟨false, 4, List.flatMap c_Sleg r863.2.2⟩, some ⟨true, 1, [VV.rf 1 0 r863.2.1.length, VV.rf 2 0 r863.2.2.length]⟩], .nil⟩
def n_profile_web_circle_l1_0 (k : Nat) (a0 : Sweb) (r863 : Int × (List Int) × (List Sleg)) : Nat → Int → Int → Option (Int)
  | 0, _, _ => none
  | fuel + 1, x30, x4 => if x30 < a0.zones then (if 0 ≤ x4 ∧ x4 < (r863.2.2.length : Int) then (n_profile_web_circle_l1_0 k a0 r863 fuel (w64 (x30 + 1)) ((r863.2.2.getD x4.toNat default).from_)) else none) else (some x4)
theorem n_profile_web_circle_l1_0_ok (k : Nat) (a0 : Sweb) (r863 : Int × (List Int) × (List Sleg)) : ∀ (fuel : Nat) (x30 : Int) (x4 : Int) (r : Int), n_profile_web_circle_l1_0 k a0 r863 fuel x30 x4 = some r → (VLoop none Go.Proofs.Try.prog (szF Go.Proofs.Try.f54) (bodyOf Go.Proofs.Try.f54 1) (n_profile_web_circle_l1_0_h a0 r863 x30 x4) (.exit 2) (n_profile_web_circle_l1_0_e0 a0 r863 r)) := by
 intro fuel
 induction fuel with
 | zero => intro x30 x4 r h; rw [n_profile_web_circle_l1_0.eq_1] at h; cases h
 | succ fuel ih =>
  intro x30 x4 r h
  rw [n_profile_web_circle_l1_0.eq_2] at h
  rcases ifs h with ⟨h874, h⟩ | ⟨h874, h⟩
  ·obtain ⟨h875, h⟩ := ifn h
   have e876 := (show loadL Go.Proofs.Try.prog 3 (0 + x4.toNat * 4 + 1) (List.flatMap c_Sleg r863.2.2) = some (vi ((r863.2.2.getD x4.toNat default).from_)) from (ld_flat ag3 c_Sleg 4 1 len_c_Sleg (by omega) r863.2.2 default h875 (by omega)).trans rfl)
   have e877 := (ti (ti (ti (an h875 (ti (an e876 (ti trivial)))))))
   have h2 := ih _ _ _ h
   obtain ⟨q, hv, hq⟩ := pkR (rd := none) (P := Go.Proofs.Try.prog) (fn := Go.Proofs.Try.f54) (k := 1) (s := (n_profile_web_circle_l1_0_h a0 r863 x30 x4)) (ans := [.reg (.n :: []), .br true, .reg (nN 5 (.v (vi ((r863.2.2.getD x4.toNat default).from_)) :: .n :: [])), .reg (.n :: .n :: [])]) (c := ⟨[(3, none), (4, none), (29, none), (30, none)], [none, none, none, none], []⟩) (e := .normal) (s1 := (n_profile_web_circle_l1_0_h a0 r863 (w64 (x30 + 1)) ((r863.2.2.getD x4.toNat default).from_))) (an (an (ti trivial) (an (an (decide_eq_true h874) trivial) (an e877 (ti (ti trivial))))) (ti trivial)) (by kernel_rfl)
   exact round_next pm pn hv hq h2
  ·injection h with h; subst h
   exact round_stop (c := ⟨[(3, none), (4, none)], [none, none, none, none], []⟩) (s1 := (n_profile_web_circle_l1_0_e0 a0 r863 x4)) pm pn (ans := [.reg (.n :: []), .br false]) (by kernel_rfl) (by intro e; cases e) (an (an (ti trivial) (an (decide_eq_false h874) trivial)) (ti trivial))
def n_profile_web_circle_l2_0_h (a0 : Sweb) (r863 : Int × (List Int) × (List Sleg)) (r879 : Int) (y4 : List Int) (x7 : Int) : VS := ⟨mkA [(3, VV.pt 3 0), (4, vi r879), (6, VV.rf 4 0 y4.length), (7, vi x7)], [some ⟨true, 1, c_Sweb a0⟩, some ⟨false, 1, List.map vi r863.2.1⟩, some ⟨false, 4, List.flatMap c_Sleg r863.2.2⟩, some ⟨true, 1, [VV.rf 1 0 r863.2.1.length, VV.rf 2 0 r863.2.2.length]⟩, some ⟨false, 1, List.map vi y4⟩], .nil⟩
def n_profile_web_circle_l2_0_e0 (a0 : Sweb) (r863 : Int × (List Int) × (List Sleg)) (r879 : Int) (r : (List Int)) : VS := ⟨mkA [(6, VV.rf 4 0 r.length)], [some ⟨true, 1, c_Sweb a0⟩, some ⟨false, 1, List.map vi r863.2.1⟩, some ⟨false, 4, List.flatMap c_Sleg r863.2.2⟩, some ⟨true, 1, [VV.rf 1 0 r863.2.1.length, VV.rf 2 0 r863.2.2.length]⟩, some ⟨false, 1, List.map vi r⟩], .nil⟩
def n_profile_web_circle_l2_0 (k : Nat) (a0 : Sweb) (r863 : Int × (List Int) × (List Sleg)) (r879 : Int) : Nat → (List Int) → Int → Option ((List Int))
  | 0, _, _ => none
  | fuel + 1, y4, x7 => if x7 = r879 then (some y4) else (if 0 ≤ x7 ∧ x7 < (r863.2.2.length : Int) then (if y4.length + ([(r863.2.2.getD x7.toNat default).signed] : List Int).length ≤ 1000000000 then (n_profile_web_circle_l2_0 k a0 r863 r879 fuel (y4 ++ ([(r863.2.2.getD x7.toNat default).signed] : List Int)) ((r863.2.2.getD x7.toNat default).from_)) else none) else none)
theorem n_profile_web_circle_l2_0_ok (k : Nat) (a0 : Sweb) (r863 : Int × (List Int) × (List Sleg)) (r879 : Int) : ∀ (fuel : Nat) (y4 : List Int) (x7 : Int) (r : (List Int)), n_profile_web_circle_l2_0 k a0 r863 r879 fuel y4 x7 = some r → (VLoop none Go.Proofs.Try.prog (szF Go.Proofs.Try.f54) (bodyOf Go.Proofs.Try.f54 2) (n_profile_web_circle_l2_0_h a0 r863 r879 y4 x7) (.exit 4) (n_profile_web_circle_l2_0_e0 a0 r863 r879 r)) := by
 intro fuel
 induction fuel with
 | zero => intro y4 x7 r h; rw [n_profile_web_circle_l2_0.eq_1] at h; cases h
 | succ fuel ih =>
  intro y4 x7 r h
  rw [n_profile_web_circle_l2_0.eq_2] at h
  rcases ifs h with ⟨h902, h⟩ | ⟨h902, h⟩
  ·injection h with h; subst h
   exact round_stop (c := ⟨[(6, none)], [none, none, none, none, none], []⟩) (s1 := (n_profile_web_circle_l2_0_e0 a0 r863 r879 y4)) pm pn (ans := [.reg (nN 3 []), .br false]) (by kernel_rfl) (by intro e; cases e) (an (an (ti (ti (ti trivial))) (an (not_f (decide_eq_true h902)) trivial)) (ti trivial))
  ·obtain ⟨h903, h⟩ := ifn h
   have e904 := (show loadL Go.Proofs.Try.prog 3 (0 + x7.toNat * 4 + 0) (List.flatMap c_Sleg r863.2.2) = some (vi ((r863.2.2.getD x7.toNat default).signed)) from (ld_flat ag3 c_Sleg 4 0 len_c_Sleg (by omega) r863.2.2 default h903 (by omega)).trans rfl)
   obtain ⟨h905, h⟩ := ifn h
   have e906 := (show List.length (List.map vi y4) = y4.length * 1 ∧ List.length [vi ((r863.2.2.getD x7.toNat default).signed)] = 1 * 1 ∧ (y4.length + 1) * 8 ≤ 140737488355328 ∧ y4.length + 1 < 1099511627776 ∧ List.all [vi ((r863.2.2.getD x7.toNat default).signed)] VV.still = true from ⟨(by simp), (by rw [show [vi ((r863.2.2.getD x7.toNat default).signed)] = List.map vi ([(r863.2.2.getD x7.toNat default).signed] : List Int) from rfl]; simp), (by first | omega | (simp at h905 ⊢; omega)), (by first | omega | (simp at h905 ⊢; omega)), (by rw [show [vi ((r863.2.2.getD x7.toNat default).signed)] = List.map vi ([(r863.2.2.getD x7.toNat default).signed] : List Int) from rfl]; exact still_vi _)⟩)
   have e907 := (ti (ti (ti (ti (an h903 (ti (an e904 (ti (an e906 (ti trivial))))))))))
   have e908 := (show loadL Go.Proofs.Try.prog 3 (0 + x7.toNat * 4 + 1) (List.flatMap c_Sleg r863.2.2) = some (vi ((r863.2.2.getD x7.toNat default).from_)) from (ld_flat ag3 c_Sleg 4 1 len_c_Sleg (by omega) r863.2.2 default h903 (by omega)).trans rfl)
   have e909 := (ti (ti (ti (an h903 (ti (an e908 (ti trivial)))))))
   have h2 := ih _ _ _ h
   obtain ⟨q, hv, hq⟩ := pkR (rd := none) (P := Go.Proofs.Try.prog) (fn := Go.Proofs.Try.f54) (k := 2) (s := (n_profile_web_circle_l2_0_h a0 r863 r879 y4 x7)) (ans := [.reg (nN 3 []), .br true, .reg (nN 6 (.v (vi ((r863.2.2.getD x7.toNat default).signed)) :: nN 3 [])), .reg (nN 5 (.v (vi ((r863.2.2.getD x7.toNat default).from_)) :: .n :: []))]) (c := ⟨[(3, none), (4, none), (6, some (VV.rf 4 0 ((y4 ++ ([(r863.2.2.getD x7.toNat default).signed] : List Int)).length))), (7, none)], [none, none, none, none, some (List.map vi (y4 ++ ([(r863.2.2.getD x7.toNat default).signed] : List Int)))], []⟩) (e := .normal) (s1 := (n_profile_web_circle_l2_0_h a0 r863 r879 (y4 ++ ([(r863.2.2.getD x7.toNat default).signed] : List Int)) ((r863.2.2.getD x7.toNat default).from_))) (an (an (an (ti (ti (ti trivial))) (an (not_t (decide_eq_false h902)) trivial)) (an e907 e909)) (an (an (show Wv (VV.rf 4 0 (y4.length + 1)) (VV.rf 4 0 ((y4 ++ ([(r863.2.2.getD x7.toNat default).signed] : List Int)).length)) from (Wv.of_eq (by simp))) trivial) (an (show (List.map vi y4) ++ [vi ((r863.2.2.getD x7.toNat default).signed)] = List.map vi (y4 ++ ([(r863.2.2.getD x7.toNat default).signed] : List Int)) from (by rw [show [vi ((r863.2.2.getD x7.toNat default).signed)] = List.map vi ([(r863.2.2.getD x7.toNat default).signed] : List Int) from rfl]; exact List.map_append.symm)) trivial))) (by kernel_rfl)
   exact round_next pm pn hv hq h2
def n_profile_web_circle_i70_l0_0_h (a0 : Sweb) (r863 : Int × (List Int) × (List Sleg)) (r911 : (List Int)) (y4 : List Int) (x2 : Int) (x3 : Int) : VS := ⟨mkA [(0, VV.rf 4 0 y4.length), (2, vi x2), (3, vi x3)], [some ⟨true, 1, c_Sweb a0⟩, some ⟨false, 1, List.map vi r863.2.1⟩, some ⟨false, 4, List.flatMap c_Sleg r863.2.2⟩, some ⟨true, 1, [VV.rf 1 0 r863.2.1.length, VV.rf 2 0 r863.2.2.length]⟩, some ⟨false, 1, List.map vi y4⟩], (.node none (mkA [(6, VV.rf 4 0 r911.length), (70, VV.rf 4 0 r911.length)]) .nil)⟩
def n_profile_web_circle_i70_l0_0_e0 (a0 : Sweb) (r863 : Int × (List Int) × (List Sleg)) (r911 : (List Int)) (r : (List Int)) : VS := ⟨mkA [], [some ⟨true, 1, c_Sweb a0⟩, some ⟨false, 1, List.map vi r863.2.1⟩, some ⟨false, 4, List.flatMap c_Sleg r863.2.2⟩, some ⟨true, 1, [VV.rf 1 0 r863.2.1.length, VV.rf 2 0 r863.2.2.length]⟩, some ⟨false, 1, List.map vi r⟩], (.node none (mkA [(6, VV.rf 4 0 r911.length), (70, VV.rf 4 0 r911.length)]) .nil)⟩
def n_profile_web_circle_i70_l0_0 (k : Nat) (a0 : Sweb) (r863 : Int × (List Int) × (List Sleg)) (r911 : (List Int)) : Nat → (List Int) → Int → Int → Option ((List Int))
  | 0, _, _, _ => none
  | fuel + 1, y4, x2, x3 => if x2 < x3 then (if 0 ≤ x3 ∧ x3 < (y4.length : Int) then (if 0 ≤ x2 ∧ x2 < (y4.length : Int) then (if 0 ≤ x3 ∧ x3 < ((y4.set x2.toNat (y4.getD x3.toNat 0)).length : Int) then (if x3 < ((y4.length : Nat) : Int) then (n_profile_web_circle_i70_l0_0 k a0 r863 r911 fuel ((y4.set x2.toNat (y4.getD x3.toNat 0)).set x3.toNat (y4.getD x2.toNat 0)) (w64 (x2 + 1)) (w64 (x3 - 1))) else none) else none) else none) else none) else (some y4)
theorem n_profile_web_circle_i70_l0_0_ok (k : Nat) (a0 : Sweb) (r863 : Int × (List Int) × (List Sleg)) (r911 : (List Int)) : ∀ (fuel : Nat) (y4 : List Int) (x2 : Int) (x3 : Int) (r : (List Int)), n_profile_web_circle_i70_l0_0 k a0 r863 r911 fuel y4 x2 x3 = some r → (VLoop none Go.Proofs.Try.prog (szF Go.Proofs.Try.f70) (bodyOf Go.Proofs.Try.f70 0) (n_profile_web_circle_i70_l0_0_h a0 r863 r911 y4 x2 x3) (.exit 0) (n_profile_web_circle_i70_l0_0_e0 a0 r863 r911 r)) := by
 intro fuel
 induction fuel with
 | zero => intro y4 x2 x3 r h; rw [n_profile_web_circle_i70_l0_0.eq_1] at h; cases h
 | succ fuel ih =>
  intro y4 x2 x3 r h
  rw [n_profile_web_circle_i70_l0_0.eq_2] at h
  rcases ifs h with ⟨h935, h⟩ | ⟨h935, h⟩
  ·obtain ⟨h936, h⟩ := ifn h
   have e937 := (show loadL Go.Proofs.Try.prog 3 (0 + x3.toNat * 1) (List.map vi y4) = some (vi (y4.getD x3.toNat 0)) from ld_map ag3 vi y4 0 h936 (by omega))
   obtain ⟨h938, h⟩ := ifn h
   have e939 := (show loadL Go.Proofs.Try.prog 3 (0 + x2.toNat * 1) (List.map vi y4) = some (vi (y4.getD x2.toNat 0)) from ld_map ag3 vi y4 0 h938 (by omega))
   have e940 := (show (0 + x2.toNat * 1) + 1 ≤ List.length (List.map vi y4) from (by simp only [List.length_map]; omega))
   obtain ⟨h941, h⟩ := ifn h
   obtain ⟨h942, h⟩ := ifn h
   have e943 := (show 0 ≤ x3 ∧ x3 < ((y4.length : Nat) : Int) from ⟨h941.1, h942⟩)
   have e944 := (show (0 + x3.toNat * 1) + 1 ≤ List.length (putT (0 + x2.toNat * 1) (List.map vi y4) [vi (y4.getD x3.toNat 0)]) from (by rw [show putT (0 + x2.toNat * 1) (List.map vi y4) [vi (y4.getD x3.toNat 0)] = List.map vi (y4.set x2.toNat (y4.getD x3.toNat 0)) from (by exact putT_vi y4 h938 (y4.getD x3.toNat 0) (by omega))]; simp only [List.length_map]; omega))
   have e945 := (ti (ti (ti (ti (ti (ti (an h936 (an e937 (ti (ti (an h938 (an e939 (an h938 (an e940 (an e943 (an e944 trivial))))))))))))))))
   have h2 := ih _ _ _ _ h
   obtain ⟨q, hv, hq⟩ := pkR (rd := none) (P := Go.Proofs.Try.prog) (fn := Go.Proofs.Try.f70) (k := 0) (s := (n_profile_web_circle_i70_l0_0_h a0 r863 r911 y4 x2 x3)) (ans := [.reg (nN 3 []), .br true, .reg (nN 7 (.v (vi (y4.getD x3.toNat 0)) :: nN 3 (.v (vi (y4.getD x2.toNat 0)) :: nN 4 []))), .reg (nN 6 [])]) (c := ⟨[(0, some (VV.rf 4 0 (((y4.set x2.toNat (y4.getD x3.toNat 0)).set x3.toNat (y4.getD x2.toNat 0)).length))), (2, none), (3, none)], [none, none, none, none, some (List.map vi ((y4.set x2.toNat (y4.getD x3.toNat 0)).set x3.toNat (y4.getD x2.toNat 0)))], []⟩) (e := .normal) (s1 := (n_profile_web_circle_i70_l0_0_h a0 r863 r911 ((y4.set x2.toNat (y4.getD x3.toNat 0)).set x3.toNat (y4.getD x2.toNat 0)) (w64 (x2 + 1)) (w64 (x3 - 1)))) (an (an (an (ti (ti (ti trivial))) (an (decide_eq_true h935) trivial)) (an e945 (ti (ti (ti (ti (ti (ti trivial)))))))) (an (an (show Wv (VV.rf 4 0 y4.length) (VV.rf 4 0 (((y4.set x2.toNat (y4.getD x3.toNat 0)).set x3.toNat (y4.getD x2.toNat 0)).length)) from (Wv.of_eq (by simp))) trivial) (an (show putT (0 + x3.toNat * 1) (putT (0 + x2.toNat * 1) (List.map vi y4) [vi (y4.getD x3.toNat 0)]) [vi (y4.getD x2.toNat 0)] = List.map vi ((y4.set x2.toNat (y4.getD x3.toNat 0)).set x3.toNat (y4.getD x2.toNat 0)) from (by rw [show putT (0 + x2.toNat * 1) (List.map vi y4) [vi (y4.getD x3.toNat 0)] = List.map vi (y4.set x2.toNat (y4.getD x3.toNat 0)) from (by exact putT_vi y4 h938 (y4.getD x3.toNat 0) (by omega))]; exact putT_vi (y4.set x2.toNat (y4.getD x3.toNat 0)) h941 (y4.getD x2.toNat 0) (by omega))) trivial))) (by kernel_rfl)
   exact round_next pm pn hv hq h2
  ·injection h with h; subst h
   exact round_stop (c := ⟨[], [none, none, none, none, none], []⟩) (s1 := (n_profile_web_circle_i70_l0_0_e0 a0 r863 r911 y4)) pm pn (ans := [.reg (nN 3 []), .br false]) (by kernel_rfl) (by intro e; cases e) (an (an (ti (ti (ti trivial))) (an (decide_eq_false h935) trivial)) (ti trivial))
def n_profile_web_circle (k : Nat) (a0 : Sweb) : Option (List Int) :=
  if 0 ≤ a0.zones ∧ a0.zones ≤ 1000000000 then ((n_profile_web_circle_l0_0 k a0 k (List.replicate a0.zones.toNat (0 : Int)) (List.replicate a0.zones.toNat (⟨0, 0, 0, 0⟩ : Sleg)) 0 0).bind fun r861 => (match r861 with | .inl r862 => (some []) | .inr r863 => ((n_profile_web_circle_l1_0 k a0 r863 k 0 r863.1).bind fun r879 => (if 0 ≤ r879 ∧ r879 < (r863.2.2.length : Int) then ((n_profile_web_circle_l2_0 k a0 r863 r879 k ([(r863.2.2.getD r879.toNat default).signed] : List Int) ((r863.2.2.getD r879.toNat default).from_)).bind fun r911 => ((n_profile_web_circle_i70_l0_0 k a0 r863 r911 k r911 0 (w64 (((r911.length : Nat) : Int) - 1))).bind fun r947 => (if r947.length = r911.length then (some r947) else none))) else none)))) else none
theorem n_profile_web_circle_ok (k : Nat) (a0 : Sweb) (r : (List Int)) (h : n_profile_web_circle k a0 = some r) : VC Go.Proofs.Try.prog 54 [VV.ag (c_Sweb a0)] (VV.fw 1 (List.map vi r) r.length) := by
 unfold n_profile_web_circle at h
 obtain ⟨h669, h⟩ := ifn h
 have e670 := (show 0 ≤ a0.zones ∧ a0.zones = a0.zones ∧ (8 * a0.zones.toNat) ≤ 281474976710656 ∧ a0.zones < 1099511627776 from ⟨by omega, rfl, by omega, by omega⟩)
 have e671 := (show 0 ≤ a0.zones ∧ a0.zones = a0.zones ∧ (32 * a0.zones.toNat) ≤ 281474976710656 ∧ a0.zones < 1099511627776 from ⟨by omega, rfl, by omega, by omega⟩)
 have e672 := (ti (ti (an e670 (ti (ti (an e671 (ti (ti (ti trivial)))))))))
 obtain ⟨r861, h860, h⟩ := bs h
 have hph860 := n_profile_web_circle_l0_0_ok k a0 _ _ _ _ _ _ h860
 cases r861 with
 | inl r862 =>
  dsimp only at h
  have e864 := (an (ti (an (show List.replicate a0.zones.toNat (VV.c (.int .i64 0)) = List.map vi (List.replicate a0.zones.toNat (0 : Int)) from replicate_vi _) (an (show zeroCells (.agg #[.int .i64 0, .int .i64 0, .int .i64 0, .int .i64 0]) (a0.zones.toNat * 4) = List.flatMap c_Sleg (List.replicate a0.zones.toNat (⟨0, 0, 0, 0⟩ : Sleg)) from zero_flat c_Sleg (.agg #[.int .i64 0, .int .i64 0, .int .i64 0, .int .i64 0]) (⟨0, 0, 0, 0⟩ : Sleg) 4 (by decide) rfl rfl _) (an (show [VV.rf 1 0 a0.zones.toNat, VV.rf 2 0 a0.zones.toNat] = [VV.rf 1 0 ((List.replicate a0.zones.toNat (0 : Int)).length), VV.rf 2 0 ((List.replicate a0.zones.toNat (⟨0, 0, 0, 0⟩ : Sleg)).length)] from (by first | rfl | simp)) trivial)))) (VRun.loop hph860))
  injection h with h; subst h
  exact fun_ok pm pn Go.Proofs.Try.func54 (r0 := VV.c (.slice none 0 0)) (ans := [.reg (.n :: .n :: []), .reg (nN 9 []), .reg (.n :: .n :: []), .reg (nN 3 []), .sub ⟨[(1, none), (3, none), (4, none), (16, none), (17, none)], [none, some (List.map vi (List.replicate a0.zones.toNat (0 : Int))), some (List.flatMap c_Sleg (List.replicate a0.zones.toNat (⟨0, 0, 0, 0⟩ : Sleg))), some [VV.rf 1 0 ((List.replicate a0.zones.toNat (0 : Int)).length), VV.rf 2 0 ((List.replicate a0.zones.toNat (⟨0, 0, 0, 0⟩ : Sleg)).length)]], []⟩ .ret (n_profile_web_circle_l0_0_e0 a0 r862)]) (fr := true) (by kernel_rfl) (an (an (ti (ti trivial)) (an e672 (an (ti (ti trivial)) (an (ti (ti (ti trivial))) e864)))) (ti trivial)) Wv.nilFw
 | inr r863 =>
  dsimp only at h
  have e865 := (an (ti (an (show List.replicate a0.zones.toNat (VV.c (.int .i64 0)) = List.map vi (List.replicate a0.zones.toNat (0 : Int)) from replicate_vi _) (an (show zeroCells (.agg #[.int .i64 0, .int .i64 0, .int .i64 0, .int .i64 0]) (a0.zones.toNat * 4) = List.flatMap c_Sleg (List.replicate a0.zones.toNat (⟨0, 0, 0, 0⟩ : Sleg)) from zero_flat c_Sleg (.agg #[.int .i64 0, .int .i64 0, .int .i64 0, .int .i64 0]) (⟨0, 0, 0, 0⟩ : Sleg) 4 (by decide) rfl rfl _) (an (show [VV.rf 1 0 a0.zones.toNat, VV.rf 2 0 a0.zones.toNat] = [VV.rf 1 0 ((List.replicate a0.zones.toNat (0 : Int)).length), VV.rf 2 0 ((List.replicate a0.zones.toNat (⟨0, 0, 0, 0⟩ : Sleg)).length)] from (by first | rfl | simp)) trivial)))) (VRun.loop hph860))
  obtain ⟨r879, h878, h⟩ := bs h
  have hph878 := n_profile_web_circle_l1_0_ok k a0 r863 _ _ _ _ h878
  have e880 := (an (ti trivial) (VRun.loop hph878))
  obtain ⟨h881, h⟩ := ifn h
  have e882 := (show loadL Go.Proofs.Try.prog 3 (0 + r879.toNat * 4 + 0) (List.flatMap c_Sleg r863.2.2) = some (vi ((r863.2.2.getD r879.toNat default).signed)) from (ld_flat ag3 c_Sleg 4 0 len_c_Sleg (by omega) r863.2.2 default h881 (by omega)).trans rfl)
  have e883 := (ti (ti (ti (an h881 (ti (an e882 (ti (ti trivial))))))))
  have e884 := (show loadL Go.Proofs.Try.prog 3 (0 + r879.toNat * 4 + 1) (List.flatMap c_Sleg r863.2.2) = some (vi ((r863.2.2.getD r879.toNat default).from_)) from (ld_flat ag3 c_Sleg 4 1 len_c_Sleg (by omega) r863.2.2 default h881 (by omega)).trans rfl)
  have e885 := (ti (ti (ti (an h881 (ti (an e884 (ti trivial)))))))
  obtain ⟨r911, h910, h⟩ := bs h
  have hph910 := n_profile_web_circle_l2_0_ok k a0 r863 r879 _ _ _ _ h910
  have e912 := (an (an (an (show Wv (VV.rf 4 0 1) (VV.rf 4 0 (([(r863.2.2.getD r879.toNat default).signed] : List Int).length)) from (Wv.of_eq (by simp))) trivial) (an (show [vi ((r863.2.2.getD r879.toNat default).signed)] = List.map vi ([(r863.2.2.getD r879.toNat default).signed] : List Int) from rfl) trivial)) (VRun.loop hph910))
  obtain ⟨r947, h946, h⟩ := bs h
  have hph946 := n_profile_web_circle_i70_l0_0_ok k a0 r863 r911 _ _ _ _ _ h946
  have e948 := (an (ti trivial) (VRun.loop hph946))
  obtain ⟨h949, h⟩ := ifn h
  have e950 := (an (an Go.Proofs.Try.func70 (an (ti (ti (ti (ti (ti trivial))))) e948)) trivial)
  injection h with h; subst h
  exact fun_ok pm pn Go.Proofs.Try.func54 (r0 := VV.fw 1 (List.drop 0 (List.map unfr (List.map vi r947))) r911.length) (ans := [.reg (.n :: .n :: []), .reg (nN 9 []), .reg (.n :: .n :: []), .reg (nN 3 []), .sub ⟨[(1, none), (3, none), (4, none), (16, none), (17, none)], [none, some (List.map vi (List.replicate a0.zones.toNat (0 : Int))), some (List.flatMap c_Sleg (List.replicate a0.zones.toNat (⟨0, 0, 0, 0⟩ : Sleg))), some [VV.rf 1 0 ((List.replicate a0.zones.toNat (0 : Int)).length), VV.rf 2 0 ((List.replicate a0.zones.toNat (⟨0, 0, 0, 0⟩ : Sleg)).length)]], []⟩ (.exit 0) (n_profile_web_circle_l0_0_e1 a0 r863), .reg (nN 3 []), .sub ⟨[(3, none), (4, none), (29, none), (30, none)], [none, none, none, none], []⟩ (.exit 2) (n_profile_web_circle_l1_0_e0 a0 r863 r879), .reg (nN 5 (.v (vi ((r863.2.2.getD r879.toNat default).signed)) :: .n :: .n :: [])), .reg (nN 5 (.v (vi ((r863.2.2.getD r879.toNat default).from_)) :: .n :: [])), .sub ⟨[(3, none), (4, none), (6, some (VV.rf 4 0 (([(r863.2.2.getD r879.toNat default).signed] : List Int).length))), (7, none)], [none, none, none, none, some (List.map vi ([(r863.2.2.getD r879.toNat default).signed] : List Int))], []⟩ (.exit 4) (n_profile_web_circle_l2_0_e0 a0 r863 r879 r911), .reg (.n :: .inl (inlF Go.Proofs.Try.f70 [.reg (nN 5 []), .sub ⟨[(0, none), (2, none), (3, none)], [none, none, none, none, none], []⟩ (.exit 0) (n_profile_web_circle_i70_l0_0_e0 a0 r863 r911 r947)]) :: []), .reg (.n :: .n :: [])]) (fr := true) (by kernel_rfl) (an (an (ti (ti trivial)) (an e672 (an (ti (ti trivial)) (an (an (ti (ti (ti trivial))) e865) (an (an (ti (ti (ti trivial))) e880) (an e883 (an (an e885 e912) (an (ti (an e950 trivial)) (an (ti (ti trivial)) trivial))))))))) (an (show List.all (List.map vi r947) new0 = true from (by exact new0_vi _)) trivial)) (Wv.of_eq (by simp only [h949, drop0, unfr_vi, unfr_vb, unfr_vs, List.map_cons, List.map_nil, un_i, un_k, un_b, un_s, un_tr, un_fr, List.length_map, List.length_replicate, List.length_append, List.length_set, List.length_cons, List.length_nil, unfr_c_SHeightReading, unfr_c_SRange, unfr_c_Sleg, unfr_c_Sweb, unfr_g_Sweb]))
def nmath_bits_Mul64 (k : Nat) (a0 : Int) (a1 : Int) : Option (Int × Int) :=
  some (IntKind.u64.wrap ((IntKind.u64.wrap ((IntKind.u64.wrap ((a0.fdiv (2 ^ (min (32 : Int).toNat 64))) * (a1.fdiv (2 ^ (min (32 : Int).toNat 64))))) + ((IntKind.u64.wrap ((IntKind.u64.wrap ((a0.fdiv (2 ^ (min (32 : Int).toNat 64))) * (bits2 (fun _ x y => x &&& y) .u64 a1 4294967295))) + ((IntKind.u64.wrap ((bits2 (fun _ x y => x &&& y) .u64 a0 4294967295) * (bits2 (fun _ x y => x &&& y) .u64 a1 4294967295))).fdiv (2 ^ (min (32 : Int).toNat 64))))).fdiv (2 ^ (min (32 : Int).toNat 64))))) + ((IntKind.u64.wrap ((bits2 (fun _ x y => x &&& y) .u64 (IntKind.u64.wrap ((IntKind.u64.wrap ((a0.fdiv (2 ^ (min (32 : Int).toNat 64))) * (bits2 (fun _ x y => x &&& y) .u64 a1 4294967295))) + ((IntKind.u64.wrap ((bits2 (fun _ x y => x &&& y) .u64 a0 4294967295) * (bits2 (fun _ x y => x &&& y) .u64 a1 4294967295))).fdiv (2 ^ (min (32 : Int).toNat 64))))) 4294967295) + (IntKind.u64.wrap ((bits2 (fun _ x y => x &&& y) .u64 a0 4294967295) * (a1.fdiv (2 ^ (min (32 : Int).toNat 64))))))).fdiv (2 ^ (min (32 : Int).toNat 64)))), IntKind.u64.wrap (a0 * a1))
theorem nmath_bits_Mul64_ok (k : Nat) (a0 : Int) (a1 : Int) (r : (Int × Int)) (h : nmath_bits_Mul64 k a0 a1 = some r) : VC Go.Proofs.Try.prog 107 [VV.c (.int .u64 a0), VV.c (.int .u64 a1)] (VV.tu [VV.c (.int .u64 r.1), VV.c (.int .u64 r.2)]) := by
 unfold nmath_bits_Mul64 at h
 have e957 := (ti (an (show (0 : Int) ≤ 32 from (by decide)) (ti trivial)))
 have e958 := (ti (an (show (0 : Int) ≤ 32 from (by decide)) (ti trivial)))
 have e959 := (ti (ti (ti (ti (an (show (0 : Int) ≤ 32 from (by decide)) (ti (ti trivial)))))))
 have e960 := (ti (an (show (0 : Int) ≤ 32 from (by decide)) (ti trivial)))
 have e961 := (ti (ti (ti (ti (ti (ti (an (show (0 : Int) ≤ 32 from (by decide)) (ti (ti trivial)))))))))
 injection h with h; subst h
 exact fun_ok pm pn Go.Proofs.Try.func107 (r0 := VV.tu [VV.c (.int .u64 (IntKind.u64.wrap ((IntKind.u64.wrap ((IntKind.u64.wrap ((a0.fdiv (2 ^ (min (32 : Int).toNat 64))) * (a1.fdiv (2 ^ (min (32 : Int).toNat 64))))) + ((IntKind.u64.wrap ((IntKind.u64.wrap ((a0.fdiv (2 ^ (min (32 : Int).toNat 64))) * (bits2 (fun _ x y => x &&& y) .u64 a1 4294967295))) + ((IntKind.u64.wrap ((bits2 (fun _ x y => x &&& y) .u64 a0 4294967295) * (bits2 (fun _ x y => x &&& y) .u64 a1 4294967295))).fdiv (2 ^ (min (32 : Int).toNat 64))))).fdiv (2 ^ (min (32 : Int).toNat 64))))) + ((IntKind.u64.wrap ((bits2 (fun _ x y => x &&& y) .u64 (IntKind.u64.wrap ((IntKind.u64.wrap ((a0.fdiv (2 ^ (min (32 : Int).toNat 64))) * (bits2 (fun _ x y => x &&& y) .u64 a1 4294967295))) + ((IntKind.u64.wrap ((bits2 (fun _ x y => x &&& y) .u64 a0 4294967295) * (bits2 (fun _ x y => x &&& y) .u64 a1 4294967295))).fdiv (2 ^ (min (32 : Int).toNat 64))))) 4294967295) + (IntKind.u64.wrap ((bits2 (fun _ x y => x &&& y) .u64 a0 4294967295) * (a1.fdiv (2 ^ (min (32 : Int).toNat 64))))))).fdiv (2 ^ (min (32 : Int).toNat 64)))))), VV.c (.int .u64 (IntKind.u64.wrap (a0 * a1)))]) (ans := [.reg (.n :: .n :: []), .reg (nN 3 []), .reg (nN 3 []), .reg (nN 3 []), .reg (nN 3 []), .reg (nN 4 []), .reg (nN 7 []), .reg (nN 3 []), .reg (nN 3 []), .reg (nN 6 []), .reg (nN 9 []), .reg (nN 4 [])]) (fr := true) (by kernel_rfl) (an (an (ti (ti trivial)) (an (ti (ti (ti trivial))) (an e957 (an (ti (ti (ti trivial))) (an e958 (an (ti (ti (ti (ti trivial)))) (an e959 (an (ti (ti (ti trivial))) (an e960 (an (ti (ti (ti (ti (ti (ti trivial)))))) (an e961 (an (ti (ti (ti (ti trivial)))) trivial)))))))))))) (ti (ti trivial))) (Wv.refl _)
def nmath_bits_Mul (k : Nat) (a0 : Int) (a1 : Int) : Option (Int × Int) :=
  (nmath_bits_Mul64 k a0 a1).bind fun r965 => (some (r965.1, r965.2))
theorem nmath_bits_Mul_ok (k : Nat) (a0 : Int) (a1 : Int) (r : (Int × Int)) (h : nmath_bits_Mul k a0 a1 = some r) : VC Go.Proofs.Try.prog 104 [VV.c (.int .u64 a0), VV.c (.int .u64 a1)] (VV.tu [VV.c (.int .u64 r.1), VV.c (.int .u64 r.2)]) := by
 unfold nmath_bits_Mul at h
 obtain ⟨r965, h966, h⟩ := bs h
 have e967 := (ti (ti (an (nmath_bits_Mul64_ok k a0 a1 _ h966) (ti (ti (ti (ti (ti trivial))))))))
 injection h with h; subst h
 exact fun_ok pm pn Go.Proofs.Try.func104 (r0 := VV.tu [VV.c (.int .u64 r965.1), VV.c (.int .u64 r965.2)]) (ans := [.reg (.n :: .n :: []), .br false, .reg (.n :: .n :: .call (VV.tu [VV.c (.int .u64 r965.1), VV.c (.int .u64 r965.2)]) :: nN 5 []), .reg (nN 4 [])]) (fr := true) (by kernel_rfl) (an (an (ti (ti trivial)) (an (an rf trivial) (an e967 (an (ti (ti (ti (ti trivial)))) trivial)))) (ti (ti trivial))) (Wv.refl _)
def nslices_Repeat_int_int__l0_0_h  (y0 : List Int) (x8 : Int) : VS := ⟨mkA [(7, VV.rf 0 0 y0.length), (8, vi x8)], [some ⟨false, 1, List.map vi y0⟩], .nil⟩
def nslices_Repeat_int_int__l0_0_e0  (r : (List Int)) : VS := ⟨mkA [(7, VV.rf 0 0 r.length)], [some ⟨false, 1, List.map vi r⟩], .nil⟩
def nslices_Repeat_int_int__l0_0 (k : Nat)  : Nat → (List Int) → Int → Option ((List Int))
  | 0, _, _ => none
  | fuel + 1, y0, x8 => if x8 < ((y0.length : Nat) : Int) then (if 0 ≤ x8 ∧ (x8).toNat ≤ y0.length then (if 0 ≤ x8 ∧ x8 ≤ (y0.length : Int) then (if 0 < y0.length - (x8).toNat ∧ 0 < (x8).toNat - 0 ∧ ((x8).toNat) + (y0.length - (x8).toNat) ≤ y0.length ∧ 0 + ((x8).toNat - 0) ≤ y0.length then (nslices_Repeat_int_int__l0_0 k  fuel (cpy y0 ((x8).toNat) (y0.drop 0) (Nat.min ((x8).toNat - 0) (y0.length - (x8).toNat))) (w64 (x8 + ((Nat.min ((x8).toNat - 0) (y0.length - (x8).toNat) : Nat) : Int)))) else none) else none) else none) else (some y0)
theorem nslices_Repeat_int_int__l0_0_ok (k : Nat)  : ∀ (fuel : Nat) (y0 : List Int) (x8 : Int) (r : (List Int)), nslices_Repeat_int_int__l0_0 k  fuel y0 x8 = some r → (VLoop none Go.Proofs.Try.prog (szF Go.Proofs.Try.f92) (bodyOf Go.Proofs.Try.f92 0) (nslices_Repeat_int_int__l0_0_h  y0 x8) (.exit 0) (nslices_Repeat_int_int__l0_0_e0  r)) := by
 intro fuel
 induction fuel with
 | zero => intro y0 x8 r h; rw [nslices_Repeat_int_int__l0_0.eq_1] at h; cases h
 | succ fuel ih =>
  intro y0 x8 r h
  rw [nslices_Repeat_int_int__l0_0.eq_2] at h
  rcases ifs h with ⟨h1036, h⟩ | ⟨h1036, h⟩
  ·obtain ⟨h1037, h⟩ := ifn h
   have e1038 := (show 0 ≤ x8 ∧ True ∧ (x8).toNat ≤ y0.length ∧ y0.length ≤ y0.length from ⟨h1037.1, trivial, by have := h1037; omega, Nat.le_refl _⟩)
   obtain ⟨h1039, h⟩ := ifn h
   have e1040 := (show True ∧ 0 ≤ x8 ∧ 0 ≤ (x8).toNat ∧ (x8).toNat ≤ y0.length from ⟨trivial, h1039.1, by omega, by have := h1039; first | omega | (simp only [List.length_map, List.length_replicate, List.length_append, List.length_set, List.length_cons, List.length_nil] at this ⊢; omega)⟩)
   obtain ⟨h1041, h⟩ := ifn h
   have e1042 := (show 0 + ((x8).toNat - 0) * 1 ≤ List.length (List.map vi y0) ∧ 0 < y0.length - (x8).toNat ∧ 0 < (x8).toNat - 0 ∧ (0 + (x8).toNat * 1) + (y0.length - (x8).toNat) * 1 ≤ List.length (List.map vi y0) ∧ List.all (List.take (((x8).toNat - 0) * 1) (List.drop 0 (List.map vi y0))) VV.still = true from ⟨(by simp only [List.length_map]; have := h1041; omega), h1041.1, h1041.2.1, (by simp only [List.length_map]; have := h1041; omega), (all_td (by exact still_vi _) _ _)⟩)
   have e1043 := (ti (ti (ti (an e1038 (ti (ti (an e1040 (an e1042 (ti (ti trivial))))))))))
   have h2 := ih _ _ _ h
   obtain ⟨q, hv, hq⟩ := pkR (rd := none) (P := Go.Proofs.Try.prog) (fn := Go.Proofs.Try.f92) (k := 0) (s := (nslices_Repeat_int_int__l0_0_h  y0 x8)) (ans := [.reg (nN 4 []), .br true, .reg (nN 10 [])]) (c := ⟨[(7, some (VV.rf 0 0 ((cpy y0 ((x8).toNat) (y0.drop 0) (Nat.min ((x8).toNat - 0) (y0.length - (x8).toNat))).length))), (8, none)], [some (List.map vi (cpy y0 ((x8).toNat) (y0.drop 0) (Nat.min ((x8).toNat - 0) (y0.length - (x8).toNat))))], []⟩) (e := .normal) (s1 := (nslices_Repeat_int_int__l0_0_h  (cpy y0 ((x8).toNat) (y0.drop 0) (Nat.min ((x8).toNat - 0) (y0.length - (x8).toNat))) (w64 (x8 + ((Nat.min ((x8).toNat - 0) (y0.length - (x8).toNat) : Nat) : Int))))) (an (an (an (ti (ti (ti (ti trivial)))) (an (decide_eq_true h1036) trivial)) e1043) (an (an (show Wv (VV.rf 0 0 y0.length) (VV.rf 0 0 ((cpy y0 ((x8).toNat) (y0.drop 0) (Nat.min ((x8).toNat - 0) (y0.length - (x8).toNat))).length)) from (Wv.of_eq (by simp [cpy_len]))) trivial) (an (show putT (0 + (x8).toNat * 1) (List.map vi y0) (List.take (Nat.min ((x8).toNat - 0) (y0.length - (x8).toNat) * 1) (List.take (((x8).toNat - 0) * 1) (List.drop 0 (List.map vi y0)))) = List.map vi (cpy y0 ((x8).toNat) (y0.drop 0) (Nat.min ((x8).toNat - 0) (y0.length - (x8).toNat))) from (by exact putT_cpy vi y0 y0 0 ((x8).toNat - 0) (y0.length - (x8).toNat) h1041)) trivial))) (by kernel_rfl)
   exact round_next pm pn hv hq h2
  ·injection h with h; subst h
   exact round_stop (c := ⟨[(7, none)], [none], []⟩) (s1 := (nslices_Repeat_int_int__l0_0_e0  y0)) pm pn (ans := [.reg (nN 4 []), .br false]) (by kernel_rfl) (by intro e; cases e) (an (an (ti (ti (ti (ti trivial)))) (an (decide_eq_false h1036) trivial)) (ti trivial))
theorem eqW1_6 (z0 : (List Int)) : VV.fw 1 (List.drop 0 (List.map unfr (List.map vi z0))) z0.length = VV.fw 1 (List.map vi z0) z0.length := by first | rfl | (simp only [Nat.zero_add, Nat.mul_one, List.map_drop, List.length_drop, drop0, unfr_vi, List.map_cons, List.map_nil, un_i, List.length_map]; done) | (simp only [Nat.zero_add, Nat.mul_one, List.map_drop, List.length_drop, drop0, unfr_vi, List.map_cons, List.map_nil, un_i, List.length_map]; rfl) | (simp only [Nat.zero_add, Nat.mul_one, List.map_drop, List.length_drop, drop0, unfr_vi, List.map_cons, List.map_nil, un_i, List.length_map, List.length_cons, List.length_nil, List.length_append]; done)
def nslices_Repeat_int_int_ (k : Nat) (a0 : (List Int)) (a1 : Int) : Option (List Int) :=
  if a1 < 0 then none else ((nmath_bits_Mul k (IntKind.u64.wrap (a0.length : Int)) (IntKind.u64.wrap a1)).bind fun r1008 => (if 0 < r1008.1 then none else (if 9223372036854775807 < r1008.2 then none else (if 0 ≤ (w64 r1008.2) ∧ (w64 r1008.2) ≤ 1000000000 then (if 0 < (w64 r1008.2).toNat ∧ 0 < a0.length ∧ 0 + ((w64 r1008.2).toNat) ≤ (List.replicate (w64 r1008.2).toNat (0 : Int)).length ∧ 0 + a0.length ≤ a0.length then ((nslices_Repeat_int_int__l0_0 k k (cpy (List.replicate (w64 r1008.2).toNat (0 : Int)) 0 (a0.drop 0) (Nat.min a0.length ((w64 r1008.2).toNat))) ((Nat.min a0.length ((w64 r1008.2).toNat) : Nat) : Int)).bind fun r1045 => (some r1045)) else none) else none))))
theorem nslices_Repeat_int_int__ok (k : Nat) (a0 : (List Int)) (a1 : Int) (r : (List Int)) (h : nslices_Repeat_int_int_ k a0 a1 = some r) : VC Go.Proofs.Try.prog 92 [VV.tr (List.map vi a0) a0.length, vi a1] (VV.fw 1 (List.map vi r) r.length) := by
 unfold nslices_Repeat_int_int_ at h
 rcases ifs h with ⟨h1007, h⟩ | ⟨h1007, h⟩
 ·cases h
 ·obtain ⟨r1008, h1009, h⟩ := bs h
  have e1010 := (nmath_bits_Mul_ok k (IntKind.u64.wrap (a0.length : Int)) (IntKind.u64.wrap a1) _ h1009)
  have e1011 := (ti (ti (ti (ti (ti (an e1010 (ti (ti (ti (ti (ti trivial)))))))))))
  rcases ifs h with ⟨h1012, h⟩ | ⟨h1012, h⟩
  ·have e1013 := (ti (ti (ti (an (decide_eq_true h1012) (an (decide_eq_true h1012) (an (decide_eq_true h1012) trivial))))))
   cases h
  ·have e1014 := (ti (ti (ti (an (an (decide_eq_false h1012) trivial) (an (an (decide_eq_false h1012) trivial) (an (decide_eq_false h1012) trivial))))))
   rcases ifs h with ⟨h1015, h⟩ | ⟨h1015, h⟩
   ·cases h
   ·obtain ⟨h1016, h⟩ := ifn h
    have e1017 := (show 0 ≤ (w64 r1008.2) ∧ (w64 r1008.2) = (w64 r1008.2) ∧ (8 * (w64 r1008.2).toNat) ≤ 281474976710656 ∧ (w64 r1008.2) < 1099511627776 from ⟨by omega, rfl, by omega, by omega⟩)
    obtain ⟨h1018, h⟩ := ifn h
    have e1019 := (show a0.length * 1 ≤ List.length (List.map vi a0) ∧ 0 < (w64 r1008.2).toNat ∧ 0 < a0.length ∧ 0 + ((w64 r1008.2).toNat) * 1 ≤ List.length (List.replicate (w64 r1008.2).toNat (VV.c (.int .i64 0))) ∧ List.all (List.take (a0.length * 1) (List.drop 0 (List.map vi a0))) VV.still = true from ⟨(by simp only [List.length_map]; have := h1018; omega), h1018.1, h1018.2.1, (by rw [show List.replicate (w64 r1008.2).toNat (VV.c (.int .i64 0)) = List.map vi (List.replicate (w64 r1008.2).toNat (0 : Int)) from replicate_vi _]; simp only [List.length_map]; have := h1018; omega), (all_td (by exact still_vi _) _ _)⟩)
    obtain ⟨r1045, h1044, h⟩ := bs h
    have hph1044 := nslices_Repeat_int_int__l0_0_ok k  _ _ _ _ h1044
    have e1046 := (an (an (an (show Wv (VV.rf 0 0 ((w64 r1008.2).toNat)) (VV.rf 0 0 ((cpy (List.replicate (w64 r1008.2).toNat (0 : Int)) 0 (a0.drop 0) (Nat.min a0.length ((w64 r1008.2).toNat))).length)) from (Wv.of_eq (by simp [cpy_len]))) trivial) (an (show putT 0 (List.replicate (w64 r1008.2).toNat (VV.c (.int .i64 0))) (List.take (Nat.min a0.length ((w64 r1008.2).toNat) * 1) (List.take (a0.length * 1) (List.drop 0 (List.map vi a0)))) = List.map vi (cpy (List.replicate (w64 r1008.2).toNat (0 : Int)) 0 (a0.drop 0) (Nat.min a0.length ((w64 r1008.2).toNat))) from (by rw [show List.replicate (w64 r1008.2).toNat (VV.c (.int .i64 0)) = List.map vi (List.replicate (w64 r1008.2).toNat (0 : Int)) from replicate_vi _]; exact putT_cpy vi (List.replicate (w64 r1008.2).toNat (0 : Int)) a0 0 a0.length ((w64 r1008.2).toNat) h1018)) trivial)) (VRun.loop hph1044))
    injection h with h; subst h
    exact fun_ok pm pn Go.Proofs.Try.func92 (r0 := VV.fw 1 (List.drop 0 (List.map unfr (List.map vi r1045))) r1045.length) (ans := [.reg (.n :: []), .reg (.n :: .n :: []), .br false, .reg (nN 5 (.call (VV.tu [VV.c (.int .u64 r1008.1), VV.c (.int .u64 r1008.2)]) :: nN 5 [])), .reg (nN 5 (.b false :: [])), .br false, .reg (nN 4 []), .reg (nN 4 []), .sub ⟨[(7, some (VV.rf 0 0 ((cpy (List.replicate (w64 r1008.2).toNat (0 : Int)) 0 (a0.drop 0) (Nat.min a0.length ((w64 r1008.2).toNat))).length))), (8, none)], [some (List.map vi (cpy (List.replicate (w64 r1008.2).toNat (0 : Int)) 0 (a0.drop 0) (Nat.min a0.length ((w64 r1008.2).toNat))))], []⟩ (.exit 0) (nslices_Repeat_int_int__l0_0_e0  r1045), .reg (.n :: .n :: [])]) (fr := true) (by kernel_rfl) (an (an (ti trivial) (an (an (ti (ti trivial)) (an (decide_eq_false h1007) trivial)) (an e1011 (an (an e1014 (an (decide_eq_false h1015) trivial)) (an (ti (ti (an e1017 (ti trivial)))) (an (ti (ti (an e1019 (ti trivial)))) (an e1046 (an (ti (ti trivial)) trivial)))))))) (an (show List.all (List.map vi r1045) new0 = true from (by exact new0_vi _)) trivial)) (Wv.of_eq (eqW1_6 r1045))
theorem eqW1_7 (z0 : Sweb) : [VV.tr (List.map vi ([9223372036854775807] : List Int)) (([9223372036854775807] : List Int).length), vi z0.zones] = [VV.tr [vi 9223372036854775807] 1, vi z0.zones] := by first | rfl | (simp only [unfr_vi, List.map_cons, List.map_nil, un_i, un_tr, List.length_map, List.length_cons, List.length_nil]; done) | (simp only [unfr_vi, List.map_cons, List.map_nil, un_i, un_tr, List.length_map, List.length_cons, List.length_nil]; rfl) | (simp only [unfr_vi, List.map_cons, List.map_nil, un_i, un_tr, List.length_map, List.length_cons, List.length_nil, List.length_cons, List.length_nil, List.length_append]; done)
def n_profile_web_from_i89_l0_0_h (a0 : Sweb) (y1 : List Int) (y2 : List Sleg) (x22 : Int) (y1z : List Int) (y2z : List Sleg) (x14 : Int) (x6 : Int) (x7 : Bool) : VS := ⟨mkA [(3, VV.pt 5 0), (6, vi x6), (7, vb x7), (12, VV.tr (List.flatMap c_Sleg a0.legs) a0.legs.length), (13, vi (a0.legs.length : Int)), (14, vi x14)], [some ⟨true, 1, c_Sweb a0⟩, some ⟨false, 1, List.map vi y1z⟩, some ⟨false, 4, List.flatMap c_Sleg y2z⟩, some ⟨true, 1, [VV.rf 1 0 y1z.length, VV.rf 2 0 y2z.length]⟩, some ⟨true, 1, c_Sweb a0⟩, some ⟨true, 1, [VV.rf 1 0 y1z.length, VV.rf 2 0 y2z.length]⟩], (.node none (mkA [(2, VV.pt 0 0), (5, VV.pt 3 0), (21, vi a0.zones), (22, vi x22), (23, vb (decide (x22 < a0.zones))), (25, VV.ag (c_Sweb a0)), (26, VV.ag [VV.rf 1 0 y1.length, VV.rf 2 0 y2.length])]) .nil)⟩
def n_profile_web_from_i89_l0_0_e0 (a0 : Sweb) (y1 : List Int) (y2 : List Sleg) (x22 : Int) (r : Int × Bool × (List Int) × (List Sleg)) : VS := ⟨mkA [(6, vi r.1), (7, vb r.2.1)], [some ⟨true, 1, c_Sweb a0⟩, some ⟨false, 1, List.map vi r.2.2.1⟩, some ⟨false, 4, List.flatMap c_Sleg r.2.2.2⟩, some ⟨true, 1, [VV.rf 1 0 r.2.2.1.length, VV.rf 2 0 r.2.2.2.length]⟩], (.node none (mkA [(2, VV.pt 0 0), (5, VV.pt 3 0), (21, vi a0.zones), (22, vi x22), (23, vb (decide (x22 < a0.zones))), (25, VV.ag (c_Sweb a0)), (26, VV.ag [VV.rf 1 0 y1.length, VV.rf 2 0 y2.length])]) .nil)⟩
def n_profile_web_from_i89_l0_0 (k : Nat) (a0 : Sweb) (y1 : List Int) (y2 : List Sleg) (x22 : Int) : Nat → (List Int) → (List Sleg) → Int → Int → Bool → Option (Int × Bool × (List Int) × (List Sleg))
  | 0, _, _, _, _, _ => none
  | fuel + 1, y1z, y2z, x14, x6, x7 => if x14 < (a0.legs.length : Int) then (if 0 ≤ x14 ∧ x14 < (a0.legs.length : Int) then (if 0 ≤ (a0.legs.getD x14.toNat default).from_ ∧ (a0.legs.getD x14.toNat default).from_ < (y1z.length : Int) then (if (y1z.getD ((a0.legs.getD x14.toNat default).from_).toNat 0) = 9223372036854775807 then (n_profile_web_from_i89_l0_0 k a0 y1 y2 x22 fuel y1z y2z (w64 (x14 + 1)) x6 x7) else (if 0 ≤ (a0.legs.getD x14.toNat default).to ∧ (a0.legs.getD x14.toNat default).to < (y1z.length : Int) then (if (w64 ((y1z.getD ((a0.legs.getD x14.toNat default).from_).toNat 0) + ((a0.legs.getD x14.toNat default).length))) < (y1z.getD ((a0.legs.getD x14.toNat default).to).toNat 0) then (if 0 ≤ (a0.legs.getD x14.toNat default).to ∧ (a0.legs.getD x14.toNat default).to < (y2z.length : Int) then (n_profile_web_from_i89_l0_0 k a0 y1 y2 x22 fuel (y1z.set ((a0.legs.getD x14.toNat default).to).toNat (w64 ((y1z.getD ((a0.legs.getD x14.toNat default).from_).toNat 0) + ((a0.legs.getD x14.toNat default).length)))) (y2z.set ((a0.legs.getD x14.toNat default).to).toNat (a0.legs.getD x14.toNat default)) (w64 (x14 + 1)) ((a0.legs.getD x14.toNat default).to) true) else none) else (n_profile_web_from_i89_l0_0 k a0 y1 y2 x22 fuel y1z y2z (w64 (x14 + 1)) x6 x7)) else none)) else none) else none) else (some (x6, x7, y1z, y2z))
theorem n_profile_web_from_i89_l0_0_ok (k : Nat) (a0 : Sweb) (y1 : List Int) (y2 : List Sleg) (x22 : Int) : ∀ (fuel : Nat) (y1z : List Int) (y2z : List Sleg) (x14 : Int) (x6 : Int) (x7 : Bool) (r : Int × Bool × (List Int) × (List Sleg)), n_profile_web_from_i89_l0_0 k a0 y1 y2 x22 fuel y1z y2z x14 x6 x7 = some r → (VLoop none Go.Proofs.Try.prog (szF Go.Proofs.Try.f89) (bodyOf Go.Proofs.Try.f89 0) (n_profile_web_from_i89_l0_0_h a0 y1 y2 x22 y1z y2z x14 x6 x7) (.exit 0) (n_profile_web_from_i89_l0_0_e0 a0 y1 y2 x22 r)) := by
 intro fuel
 induction fuel with
 | zero => intro y1z y2z x14 x6 x7 r h; rw [n_profile_web_from_i89_l0_0.eq_1] at h; cases h
 | succ fuel ih =>
  intro y1z y2z x14 x6 x7 r h
  rw [n_profile_web_from_i89_l0_0.eq_2] at h
  rcases ifs h with ⟨h1417, h⟩ | ⟨h1417, h⟩
  ·obtain ⟨h1418, h⟩ := ifn h
   have e1419 := (show loadL Go.Proofs.Try.prog 109 (x14.toNat * 4) (List.flatMap c_Sleg a0.legs) = some (VV.ag (c_Sleg (a0.legs.getD x14.toNat default))) from ld_whole ag109 c_Sleg 4 sz109 len_c_Sleg a0.legs default h1418 (by omega))
   obtain ⟨h1420, h⟩ := ifn h
   have e1421 := (show loadL Go.Proofs.Try.prog 3 (0 + ((a0.legs.getD x14.toNat default).from_).toNat * 1) (List.map vi y1z) = some (vi (y1z.getD ((a0.legs.getD x14.toNat default).from_).toNat 0)) from ld_map ag3 vi y1z 0 h1420 (by omega))
   have e1422 := (ti (ti (ti (ti (an h1420 (an e1421 (ti trivial)))))))
   rcases ifs h with ⟨h1423, h⟩ | ⟨h1423, h⟩
   ·have h2 := ih _ _ _ _ _ _ h
    obtain ⟨q, hv, hq⟩ := pkR (rd := none) (P := Go.Proofs.Try.prog) (fn := Go.Proofs.Try.f89) (k := 0) (s := (n_profile_web_from_i89_l0_0_h a0 y1 y2 x22 y1z y2z x14 x6 x7)) (ans := [.reg (.n :: []), .br true, .reg (.n :: .v (VV.ag (c_Sleg (a0.legs.getD x14.toNat default))) :: .n :: .n :: []), .reg (nN 5 (.v (vi (y1z.getD ((a0.legs.getD x14.toNat default).from_).toNat 0)) :: .n :: [])), .br true, .reg (.n :: .n :: [])]) (c := ⟨[(3, none), (6, none), (7, none), (12, none), (13, none), (14, none)], [none, none, none, none, none, none], []⟩) (e := .normal) (s1 := (n_profile_web_from_i89_l0_0_h a0 y1 y2 x22 y1z y2z (w64 (x14 + 1)) x6 x7)) (an (an (ti trivial) (an (an (decide_eq_true h1417) trivial) (an (an (an h1418 (an e1419 (ti (ti trivial)))) (an e1422 (an (decide_eq_true h1423) trivial))) (ti (ti trivial))))) (ti trivial)) (by kernel_rfl)
    exact round_next pm pn hv hq h2
   ·have e1424 := (show loadL Go.Proofs.Try.prog 3 (0 + ((a0.legs.getD x14.toNat default).from_).toNat * 1) (List.map vi y1z) = some (vi (y1z.getD ((a0.legs.getD x14.toNat default).from_).toNat 0)) from ld_map ag3 vi y1z 0 h1420 (by omega))
    have e1425 := (ti (ti (ti (ti (an h1420 (an e1424 (ti (ti (ti (ti trivial))))))))))
    obtain ⟨h1426, h⟩ := ifn h
    have e1427 := (show loadL Go.Proofs.Try.prog 3 (0 + ((a0.legs.getD x14.toNat default).to).toNat * 1) (List.map vi y1z) = some (vi (y1z.getD ((a0.legs.getD x14.toNat default).to).toNat 0)) from ld_map ag3 vi y1z 0 h1426 (by omega))
    have e1428 := (ti (ti (ti (ti (ti (an h1426 (an e1427 (ti trivial))))))))
    rcases ifs h with ⟨h1429, h⟩ | ⟨h1429, h⟩
    ·have e1430 := (show (0 + ((a0.legs.getD x14.toNat default).to).toNat * 1) + 1 ≤ List.length (List.map vi y1z) from (by simp only [List.length_map]; omega))
     obtain ⟨h1431, h⟩ := ifn h
     have e1432 := (show (0 + ((a0.legs.getD x14.toNat default).to).toNat * 4) + 4 ≤ List.length (List.flatMap c_Sleg y2z) from (by rw [flat_len len_c_Sleg]; have := h1431; omega))
     have e1433 := (ti (ti (ti (ti (ti (ti (ti (ti (ti (ti (an h1426 (an e1430 (an h1431 (an e1432 trivial))))))))))))))
     have h2 := ih _ _ _ _ _ _ h
     obtain ⟨q, hv, hq⟩ := pkR (rd := none) (P := Go.Proofs.Try.prog) (fn := Go.Proofs.Try.f89) (k := 0) (s := (n_profile_web_from_i89_l0_0_h a0 y1 y2 x22 y1z y2z x14 x6 x7)) (ans := [.reg (.n :: []), .br true, .reg (.n :: .v (VV.ag (c_Sleg (a0.legs.getD x14.toNat default))) :: .n :: .n :: []), .reg (nN 5 (.v (vi (y1z.getD ((a0.legs.getD x14.toNat default).from_).toNat 0)) :: .n :: [])), .br false, .reg (nN 5 (.v (vi (y1z.getD ((a0.legs.getD x14.toNat default).from_).toNat 0)) :: nN 4 [])), .reg (nN 6 (.v (vi (y1z.getD ((a0.legs.getD x14.toNat default).to).toNat 0)) :: .n :: [])), .br true, .reg (nN 14 []), .reg (nN 4 []), .reg (.n :: .n :: [])]) (c := ⟨[(3, none), (6, none), (7, none), (12, none), (13, none), (14, none)], [none, some (List.map vi (y1z.set ((a0.legs.getD x14.toNat default).to).toNat (w64 ((y1z.getD ((a0.legs.getD x14.toNat default).from_).toNat 0) + ((a0.legs.getD x14.toNat default).length))))), some (List.flatMap c_Sleg (y2z.set ((a0.legs.getD x14.toNat default).to).toNat (a0.legs.getD x14.toNat default))), some [VV.rf 1 0 ((y1z.set ((a0.legs.getD x14.toNat default).to).toNat (w64 ((y1z.getD ((a0.legs.getD x14.toNat default).from_).toNat 0) + ((a0.legs.getD x14.toNat default).length)))).length), VV.rf 2 0 ((y2z.set ((a0.legs.getD x14.toNat default).to).toNat (a0.legs.getD x14.toNat default)).length)], none, some [VV.rf 1 0 ((y1z.set ((a0.legs.getD x14.toNat default).to).toNat (w64 ((y1z.getD ((a0.legs.getD x14.toNat default).from_).toNat 0) + ((a0.legs.getD x14.toNat default).length)))).length), VV.rf 2 0 ((y2z.set ((a0.legs.getD x14.toNat default).to).toNat (a0.legs.getD x14.toNat default)).length)]], []⟩) (e := .normal) (s1 := (n_profile_web_from_i89_l0_0_h a0 y1 y2 x22 (y1z.set ((a0.legs.getD x14.toNat default).to).toNat (w64 ((y1z.getD ((a0.legs.getD x14.toNat default).from_).toNat 0) + ((a0.legs.getD x14.toNat default).length)))) (y2z.set ((a0.legs.getD x14.toNat default).to).toNat (a0.legs.getD x14.toNat default)) (w64 (x14 + 1)) ((a0.legs.getD x14.toNat default).to) true)) (an (an (ti trivial) (an (an (decide_eq_true h1417) trivial) (an (an (an h1418 (an e1419 (ti (ti trivial)))) (an (an e1422 (an (decide_eq_false h1423) trivial)) (an e1425 (an e1428 (an (decide_eq_true h1429) (an e1433 (ti (ti (ti (ti trivial)))))))))) (ti (ti trivial))))) (ti (an (show putT (0 + ((a0.legs.getD x14.toNat default).to).toNat * 1) (List.map vi y1z) [vi (w64 ((y1z.getD ((a0.legs.getD x14.toNat default).from_).toNat 0) + ((a0.legs.getD x14.toNat default).length)))] = List.map vi (y1z.set ((a0.legs.getD x14.toNat default).to).toNat (w64 ((y1z.getD ((a0.legs.getD x14.toNat default).from_).toNat 0) + ((a0.legs.getD x14.toNat default).length)))) from (by exact putT_vi y1z h1426 (w64 ((y1z.getD ((a0.legs.getD x14.toNat default).from_).toNat 0) + ((a0.legs.getD x14.toNat default).length))) (by omega))) (an (show putT (0 + ((a0.legs.getD x14.toNat default).to).toNat * 4) (List.flatMap c_Sleg y2z) [vi ((a0.legs.getD x14.toNat default).signed), vi ((a0.legs.getD x14.toNat default).from_), vi ((a0.legs.getD x14.toNat default).to), vi ((a0.legs.getD x14.toNat default).length)] = List.flatMap c_Sleg (y2z.set ((a0.legs.getD x14.toNat default).to).toNat (a0.legs.getD x14.toNat default)) from (by exact putT_flat len_c_Sleg y2z h1431 (a0.legs.getD x14.toNat default) (by omega))) (an (show [VV.rf 1 0 y1z.length, VV.rf 2 0 y2z.length] = [VV.rf 1 0 ((y1z.set ((a0.legs.getD x14.toNat default).to).toNat (w64 ((y1z.getD ((a0.legs.getD x14.toNat default).from_).toNat 0) + ((a0.legs.getD x14.toNat default).length)))).length), VV.rf 2 0 ((y2z.set ((a0.legs.getD x14.toNat default).to).toNat (a0.legs.getD x14.toNat default)).length)] from (by first | rfl | simp)) (an (show [VV.rf 1 0 y1z.length, VV.rf 2 0 y2z.length] = [VV.rf 1 0 ((y1z.set ((a0.legs.getD x14.toNat default).to).toNat (w64 ((y1z.getD ((a0.legs.getD x14.toNat default).from_).toNat 0) + ((a0.legs.getD x14.toNat default).length)))).length), VV.rf 2 0 ((y2z.set ((a0.legs.getD x14.toNat default).to).toNat (a0.legs.getD x14.toNat default)).length)] from (by first | rfl | simp)) trivial)))))) (by kernel_rfl)
     exact round_next pm pn hv hq h2
    ·have h2 := ih _ _ _ _ _ _ h
     obtain ⟨q, hv, hq⟩ := pkR (rd := none) (P := Go.Proofs.Try.prog) (fn := Go.Proofs.Try.f89) (k := 0) (s := (n_profile_web_from_i89_l0_0_h a0 y1 y2 x22 y1z y2z x14 x6 x7)) (ans := [.reg (.n :: []), .br true, .reg (.n :: .v (VV.ag (c_Sleg (a0.legs.getD x14.toNat default))) :: .n :: .n :: []), .reg (nN 5 (.v (vi (y1z.getD ((a0.legs.getD x14.toNat default).from_).toNat 0)) :: .n :: [])), .br false, .reg (nN 5 (.v (vi (y1z.getD ((a0.legs.getD x14.toNat default).from_).toNat 0)) :: nN 4 [])), .reg (nN 6 (.v (vi (y1z.getD ((a0.legs.getD x14.toNat default).to).toNat 0)) :: .n :: [])), .br false, .reg (.n :: .n :: [])]) (c := ⟨[(3, none), (6, none), (7, none), (12, none), (13, none), (14, none)], [none, none, none, none, none, none], []⟩) (e := .normal) (s1 := (n_profile_web_from_i89_l0_0_h a0 y1 y2 x22 y1z y2z (w64 (x14 + 1)) x6 x7)) (an (an (ti trivial) (an (an (decide_eq_true h1417) trivial) (an (an (an h1418 (an e1419 (ti (ti trivial)))) (an (an e1422 (an (decide_eq_false h1423) trivial)) (an e1425 (an e1428 (an (decide_eq_false h1429) trivial))))) (ti (ti trivial))))) (ti trivial)) (by kernel_rfl)
     exact round_next pm pn hv hq h2
  ·injection h with h; subst h
   exact round_stop (c := ⟨[(6, none), (7, none)], [none, none, none, none], []⟩) (s1 := (n_profile_web_from_i89_l0_0_e0 a0 y1 y2 x22 (x6, x7, y1z, y2z))) pm pn (ans := [.reg (.n :: []), .br false]) (by kernel_rfl) (by intro e; cases e) (an (an (ti trivial) (an (decide_eq_false h1417) trivial)) (ti trivial))
def n_profile_web_from_l0_0_h (a0 : Sweb) (y1 : List Int) (y2 : List Sleg) (x22 : Int) : VS := ⟨mkA [(2, VV.pt 0 0), (5, VV.pt 3 0), (21, vi a0.zones), (22, vi x22)], [some ⟨true, 1, c_Sweb a0⟩, some ⟨false, 1, List.map vi y1⟩, some ⟨false, 4, List.flatMap c_Sleg y2⟩, some ⟨true, 1, [VV.rf 1 0 y1.length, VV.rf 2 0 y2.length]⟩], .nil⟩
def n_profile_web_from_l0_0_e0 (a0 : Sweb) (r : (List Int) × (List Sleg)) : VS := ⟨mkA [(5, VV.pt 3 0)], [some ⟨true, 1, c_Sweb a0⟩, some ⟨false, 1, List.map vi r.1⟩, some ⟨false, 4, List.flatMap c_Sleg r.2⟩, some ⟨true, 1, [VV.rf 1 0 r.1.length, VV.rf 2 0 r.2.length]⟩], .nil⟩
def n_profile_web_from_l0_0 (k : Nat) (a0 : Sweb) : Nat → (List Int) → (List Sleg) → Int → Option ((List Int) × (List Sleg))
  | 0, _, _, _ => none
  | fuel + 1, y1, y2, x22 => if x22 < a0.zones then ((n_profile_web_from_i89_l0_0 k a0 y1 y2 x22 k y1 y2 0 0 false).bind fun r1435 => (if r1435.2.2.1.length = y1.length then (if r1435.2.2.2.length = y2.length then (if r1435.2.1 = true then (n_profile_web_from_l0_0 k a0 fuel r1435.2.2.1 r1435.2.2.2 (w64 (x22 + 1))) else (some (r1435.2.2.1, r1435.2.2.2))) else none) else none)) else (some (y1, y2))
theorem n_profile_web_from_l0_0_ok (k : Nat) (a0 : Sweb) : ∀ (fuel : Nat) (y1 : List Int) (y2 : List Sleg) (x22 : Int) (r : (List Int) × (List Sleg)), n_profile_web_from_l0_0 k a0 fuel y1 y2 x22 = some r → (VLoop none Go.Proofs.Try.prog (szF Go.Proofs.Try.f65) (bodyOf Go.Proofs.Try.f65 0) (n_profile_web_from_l0_0_h a0 y1 y2 x22) (.exit 0) (n_profile_web_from_l0_0_e0 a0 r)) := by
 intro fuel
 induction fuel with
 | zero => intro y1 y2 x22 r h; rw [n_profile_web_from_l0_0.eq_1] at h; cases h
 | succ fuel ih =>
  intro y1 y2 x22 r h
  rw [n_profile_web_from_l0_0.eq_2] at h
  rcases ifs h with ⟨h1382, h⟩ | ⟨h1382, h⟩
  ·obtain ⟨r1435, h1434, h⟩ := bs h
   have hph1434 := n_profile_web_from_i89_l0_0_ok k a0 y1 y2 x22 _ _ _ _ _ _ _ h1434
   have e1436 := (an (ti trivial) (VRun.loop hph1434))
   obtain ⟨h1437, h⟩ := ifn h
   obtain ⟨h1438, h⟩ := ifn h
   have e1439 := (an (an Go.Proofs.Try.func89 (an (ti (ti (ti (ti trivial)))) (an (ti (ti trivial)) (an (an (ti (ti (ti (ti trivial)))) e1436) (an (ti (ti (ti (ti trivial)))) trivial))))) (ti (ti trivial)))
   have e1440 := (ti (ti (an e1439 (ti (ti (ti (ti (ti trivial))))))))
   rcases ifs h with ⟨h1441, h⟩ | ⟨h1441, h⟩
   ·have h2 := ih _ _ _ _ h
    obtain ⟨q, hv, hq⟩ := pkR (rd := none) (P := Go.Proofs.Try.prog) (fn := Go.Proofs.Try.f65) (k := 0) (s := (n_profile_web_from_l0_0_h a0 y1 y2 x22)) (ans := [.reg (.n :: []), .br true, .reg (.n :: .n :: .inl (inlF Go.Proofs.Try.f89 [.reg (nN 4 []), .reg (.n :: .n :: []), .reg (nN 4 []), .sub ⟨[(3, none), (6, none), (7, none), (12, none), (13, none), (14, none)], [none, none, none, none, none, none], []⟩ (.exit 0) (n_profile_web_from_i89_l0_0_e0 a0 y1 y2 x22 r1435), .reg (nN 4 [])]) :: nN 5 []), .reg (.n :: .n :: []), .br false, .reg (.n :: .n :: [])]) (c := ⟨[(2, none), (5, none), (21, none), (22, none)], [none, none, none, none], []⟩) (e := .normal) (s1 := (n_profile_web_from_l0_0_h a0 r1435.2.2.1 r1435.2.2.2 (w64 (x22 + 1)))) (an (an (ti trivial) (an (an (decide_eq_true h1382) trivial) (an (an e1440 (an (ti (ti trivial)) (an (not_f h1441) trivial))) (ti (ti trivial))))) (ti trivial)) (by kernel_rfl)
    exact round_next pm pn hv hq h2
   ·injection h with h; subst h
    exact round_stop (c := ⟨[(5, none)], [none, none, none, none], []⟩) (s1 := (n_profile_web_from_l0_0_e0 a0 (r1435.2.2.1, r1435.2.2.2))) pm pn (ans := [.reg (.n :: []), .br true, .reg (.n :: .n :: .inl (inlF Go.Proofs.Try.f89 [.reg (nN 4 []), .reg (.n :: .n :: []), .reg (nN 4 []), .sub ⟨[(3, none), (6, none), (7, none), (12, none), (13, none), (14, none)], [none, none, none, none, none, none], []⟩ (.exit 0) (n_profile_web_from_i89_l0_0_e0 a0 y1 y2 x22 r1435), .reg (nN 4 [])]) :: nN 5 []), .reg (.n :: .n :: []), .br true]) (by kernel_rfl) (by intro e; cases e) (an (an (ti trivial) (an (an (decide_eq_true h1382) trivial) (an e1440 (an (ti (ti trivial)) (an (not_t (bool_f h1441)) trivial))))) (ti trivial))
  ·injection h with h; subst h
   exact round_stop (c := ⟨[(5, none)], [none, none, none, none], []⟩) (s1 := (n_profile_web_from_l0_0_e0 a0 (y1, y2))) pm pn (ans := [.reg (.n :: []), .br false]) (by kernel_rfl) (by intro e; cases e) (an (an (ti trivial) (an (decide_eq_false h1382) trivial)) (ti trivial))
def arW1_3 (z0 : (List Int)) : List Ans := (.v VV.any :: .n :: .n :: .own (List.map vi z0) z0.length none (VV.fw 1 (List.map vi z0) z0.length) :: nN 6 [])
theorem eqW1_8 (z0 : (List Int) × (List Sleg)) : VV.fw 1 (List.drop 0 (List.map unfr (List.map vi z0.1))) z0.1.length = VV.fw 1 (List.map vi z0.1) z0.1.length := by first | rfl | (simp only [Nat.zero_add, Nat.mul_one, List.map_drop, List.length_drop, drop0, unfr_vi, List.map_cons, List.map_nil, un_i, List.length_map]; done) | (simp only [Nat.zero_add, Nat.mul_one, List.map_drop, List.length_drop, drop0, unfr_vi, List.map_cons, List.map_nil, un_i, List.length_map]; rfl) | (simp only [Nat.zero_add, Nat.mul_one, List.map_drop, List.length_drop, drop0, unfr_vi, List.map_cons, List.map_nil, un_i, List.length_map, List.length_cons, List.length_nil, List.length_append]; done)
def n_profile_web_from (k : Nat) (a0 : Sweb) (a1 : Int) : Option (List Int) :=
  (nslices_Repeat_int_int_ k ([9223372036854775807] : List Int) a0.zones).bind fun r1246 => (if 0 ≤ a0.zones ∧ a0.zones ≤ 1000000000 then (if 0 ≤ a1 ∧ a1 < (r1246.length : Int) then ((n_profile_web_from_l0_0 k a0 k (r1246.set a1.toNat 0) (List.replicate a0.zones.toNat (⟨0, 0, 0, 0⟩ : Sleg)) 0).bind fun r1443 => (some r1443.1)) else none) else none)
theorem n_profile_web_from_ok (k : Nat) (a0 : Sweb) (a1 : Int) (r : (List Int)) (h : n_profile_web_from k a0 a1 = some r) : VC Go.Proofs.Try.prog 65 [VV.ag (c_Sweb a0), vi a1] (VV.fw 1 (List.map vi r) r.length) := by
 unfold n_profile_web_from at h
 obtain ⟨r1246, h1247, h⟩ := bs h
 have e1248 := (show VC Go.Proofs.Try.prog 92 [VV.tr [vi 9223372036854775807] 1, vi a0.zones] (VV.fw 1 (List.map vi r1246) r1246.length) ∧ (List.map vi r1246 = List.map vi r1246 ∧ r1246.length = r1246.length) ∧ List.all (List.map vi r1246) VV.isC = true ∧ (r1246.length = 0 → List.map vi r1246 = []) from ⟨(VC.args (nslices_Repeat_int_int__ok k ([9223372036854775807] : List Int) a0.zones _ h1247) (eqW1_7 a0)), ⟨rfl, rfl⟩, isC_vi _, fun h => by rw [List.length_eq_zero_iff.1 h]; rfl⟩)
 obtain ⟨h1249, h⟩ := ifn h
 have e1250 := (show 0 ≤ a0.zones ∧ a0.zones = a0.zones ∧ (32 * a0.zones.toNat) ≤ 281474976710656 ∧ a0.zones < 1099511627776 from ⟨by omega, rfl, by omega, by omega⟩)
 have e1251 := (ti (ti (ti (an e1248 (ti (ti (an e1250 (ti (ti (ti trivial))))))))))
 obtain ⟨h1252, h⟩ := ifn h
 have e1253 := (show (0 + a1.toNat * 1) + 1 ≤ List.length (List.map vi r1246) from (by simp only [List.length_map]; omega))
 obtain ⟨r1443, h1442, h⟩ := bs h
 have hph1442 := n_profile_web_from_l0_0_ok k a0 _ _ _ _ _ h1442
 have e1444 := (an (ti (an (show putT (0 + a1.toNat * 1) (List.map vi r1246) [vi 0] = List.map vi (r1246.set a1.toNat 0) from (by exact putT_vi r1246 h1252 0 (by omega))) (an (show zeroCells (.agg #[.int .i64 0, .int .i64 0, .int .i64 0, .int .i64 0]) (a0.zones.toNat * 4) = List.flatMap c_Sleg (List.replicate a0.zones.toNat (⟨0, 0, 0, 0⟩ : Sleg)) from zero_flat c_Sleg (.agg #[.int .i64 0, .int .i64 0, .int .i64 0, .int .i64 0]) (⟨0, 0, 0, 0⟩ : Sleg) 4 (by decide) rfl rfl _) (an (show [VV.rf 1 0 r1246.length, VV.rf 2 0 a0.zones.toNat] = [VV.rf 1 0 ((r1246.set a1.toNat 0).length), VV.rf 2 0 ((List.replicate a0.zones.toNat (⟨0, 0, 0, 0⟩ : Sleg)).length)] from (by first | rfl | simp)) trivial)))) (VRun.loop hph1442))
 injection h with h; subst h
 exact fun_ok pm pn Go.Proofs.Try.func65 (r0 := VV.fw 1 (List.drop 0 (List.map unfr (List.map vi r1443.1))) r1443.1.length) (ans := [.reg (.n :: .n :: []), .reg (arW1_3 r1246), .reg (nN 5 []), .reg (nN 3 []), .sub ⟨[(2, none), (5, none), (21, none), (22, none)], [none, some (List.map vi (r1246.set a1.toNat 0)), some (List.flatMap c_Sleg (List.replicate a0.zones.toNat (⟨0, 0, 0, 0⟩ : Sleg))), some [VV.rf 1 0 ((r1246.set a1.toNat 0).length), VV.rf 2 0 ((List.replicate a0.zones.toNat (⟨0, 0, 0, 0⟩ : Sleg)).length)]], []⟩ (.exit 0) (n_profile_web_from_l0_0_e0 a0 r1443), .reg (nN 3 [])]) (fr := true) (by kernel_rfl) (an (an (ti (ti trivial)) (an e1251 (an (ti (ti (ti (an h1252 (an e1253 trivial))))) (an (an (ti (ti (ti trivial))) e1444) (an (ti (ti (ti trivial))) trivial))))) (an (show List.all (List.map vi r1443.1) new0 = true from (by exact new0_vi _)) trivial)) (Wv.of_eq (eqW1_8 r1443))
theorem eqW1_9  : vi 0 = vi ((⟨0, []⟩ : Sweb).zones) := by first | rfl | (simp only [unfr_vi, List.map_cons, List.map_nil, un_i]; done) | (simp only [unfr_vi, List.map_cons, List.map_nil, un_i]; rfl) | (simp only [unfr_vi, List.map_cons, List.map_nil, un_i, List.length_cons, List.length_nil, List.length_append]; done)
def nprofile_agreeing (k : Nat) (a0 : Int) (a1 : (List SHeightReading)) : Option (Sweb × Int) :=
  (nprofile_CheckReadings k a0 a1).bind fun r1456 => (if r1456 = 0 then ((nprofile_newWeb k a0 a1).bind fun r1460 => ((n_profile_web_circle k r1460).bind fun r1463 => (if 0 < (r1463.length : Int) then (some ((⟨0, []⟩ : Sweb), 13)) else (some (r1460, 0))))) else (some ((⟨0, []⟩ : Sweb), r1456)))
theorem nprofile_agreeing_ok (k : Nat) (a0 : Int) (a1 : (List SHeightReading)) (r : (Sweb × Int)) (h : nprofile_agreeing k a0 a1 = some r) : VC Go.Proofs.Try.prog 63 [vi a0, VV.tr (List.flatMap c_SHeightReading a1) a1.length] (VV.tu [VV.ag (g_Sweb r.1), vi r.2]) := by
 unfold nprofile_agreeing at h
 obtain ⟨r1456, h1457, h⟩ := bs h
 have e1458 := (nprofile_CheckReadings_ok k a0 a1 _ h1457)
 rcases ifs h with ⟨h1459, h⟩ | ⟨h1459, h⟩
 ·obtain ⟨r1460, h1461, h⟩ := bs h
  have e1462 := (show VC Go.Proofs.Try.prog 53 [vi a0, VV.tr (List.flatMap c_SHeightReading a1) a1.length] (VV.ag (g_Sweb r1460)) from (VC.weak (nprofile_newWeb_ok k a0 a1 _ h1461) (Wv.agL (.cons (Wv.refl _) (.cons (Wv.fw rfl rfl) .nil)))))
  obtain ⟨r1463, h1464, h⟩ := bs h
  have e1465 := (show VC Go.Proofs.Try.prog 54 [VV.ag (c_Sweb r1460)] (VV.fr (List.map vi r1463) r1463.length) from (VC.weak (n_profile_web_circle_ok k r1460 _ h1464) (Wv.fw rfl rfl)))
  rcases ifs h with ⟨h1466, h⟩ | ⟨h1466, h⟩
  ·injection h with h; subst h
   exact fun_ok pm pn Go.Proofs.Try.func63 (r0 := VV.tu [VV.ag [vi 0, VV.c (.slice none 0 0)], vi 13]) (ans := [.reg (.n :: .n :: []), .reg (.n :: .n :: .call (vi r1456) :: .n :: []), .reg (.n :: .n :: []), .br false, .reg (.n :: .n :: .call (VV.ag (g_Sweb r1460)) :: .n :: .n :: []), .reg (.n :: .call (VV.fr (List.map vi r1463) r1463.length) :: .n :: .n :: []), .br true, .reg (nN 3 [])]) (fr := true) (by kernel_rfl) (an (an (ti (ti trivial)) (an (an (ti (ti (an e1458 (ti trivial)))) (an (ti (ti trivial)) (an (not_f (decide_eq_true h1459)) trivial))) (an (ti (ti (an e1462 (ti (ti trivial))))) (an (ti (an e1465 (ti (ti trivial)))) (an (decide_eq_true h1466) (an (ti (ti (ti trivial))) trivial)))))) (an (ti (ti (ti trivial))) (ti trivial))) (Wv.tuL (.cons (Wv.agL (.cons (Wv.of_eq eqW1_9) (.cons Wv.nilFr .nil))) (.cons (Wv.refl _) .nil)))
  ·injection h with h; subst h
   exact fun_ok pm pn Go.Proofs.Try.func63 (r0 := VV.tu [VV.ag (g_Sweb r1460), vi 0]) (ans := [.reg (.n :: .n :: []), .reg (.n :: .n :: .call (vi r1456) :: .n :: []), .reg (.n :: .n :: []), .br false, .reg (.n :: .n :: .call (VV.ag (g_Sweb r1460)) :: .n :: .n :: []), .reg (.n :: .call (VV.fr (List.map vi r1463) r1463.length) :: .n :: .n :: []), .br false, .reg (nN 3 [])]) (fr := true) (by kernel_rfl) (an (an (ti (ti trivial)) (an (an (ti (ti (an e1458 (ti trivial)))) (an (ti (ti trivial)) (an (not_f (decide_eq_true h1459)) trivial))) (an (ti (ti (an e1462 (ti (ti trivial))))) (an (an (ti (an e1465 (ti (ti trivial)))) (an (decide_eq_false h1466) trivial)) (an (ti (ti (ti trivial))) trivial))))) (an (ti (ti (ti trivial))) (ti trivial))) (Wv.refl _)
 ·injection h with h; subst h
  exact fun_ok pm pn Go.Proofs.Try.func63 (r0 := VV.tu [VV.ag [vi 0, VV.c (.slice none 0 0)], vi r1456]) (ans := [.reg (.n :: .n :: []), .reg (.n :: .n :: .call (vi r1456) :: .n :: []), .reg (.n :: .n :: []), .br true, .reg (nN 4 [])]) (fr := true) (by kernel_rfl) (an (an (ti (ti trivial)) (an (ti (ti (an e1458 (ti trivial)))) (an (ti (ti trivial)) (an (not_t (decide_eq_false h1459)) (an (ti (ti (ti (ti trivial)))) trivial))))) (an (ti (ti (ti trivial))) (ti trivial))) (Wv.tuL (.cons (Wv.agL (.cons (Wv.of_eq eqW1_9) (.cons Wv.nilFr .nil))) (.cons (Wv.refl _) .nil)))
def nslices_Index_int_int__l0_0_h (a0 : (List Int)) (a1 : Int) (x8 : Int) : VS := ⟨mkA [(0, VV.tr (List.map vi a0) a0.length), (1, vi a1), (7, vi (a0.length : Int)), (8, vi x8)], [], .nil⟩
def nslices_Index_int_int__l0_0_e0 (a0 : (List Int)) (a1 : Int) (r : Int) : VS := ⟨mkA [(4, vi r)], [], .nil⟩
def nslices_Index_int_int__l0_0_e1 (a0 : (List Int)) (a1 : Int) (r : Unit) : VS := ⟨mkA [], [], .nil⟩
def nslices_Index_int_int__l0_0 (k : Nat) (a0 : (List Int)) (a1 : Int) : Nat → Int → Option (Sum Int Unit)
  | 0, _ => none
  | fuel + 1, x8 => if x8 < (a0.length : Int) then (if 0 ≤ x8 ∧ x8 < (a0.length : Int) then (if a1 = (a0.getD x8.toNat 0) then (some (.inl x8)) else (nslices_Index_int_int__l0_0 k a0 a1 fuel (w64 (x8 + 1)))) else none) else (some (.inr ()))
theorem nslices_Index_int_int__l0_0_ok (k : Nat) (a0 : (List Int)) (a1 : Int) : ∀ (fuel : Nat) (x8 : Int) (r : Sum Int Unit), nslices_Index_int_int__l0_0 k a0 a1 fuel x8 = some r → (match r with | .inl r => VLoop none Go.Proofs.Try.prog (szF Go.Proofs.Try.f103) (bodyOf Go.Proofs.Try.f103 0) (nslices_Index_int_int__l0_0_h a0 a1 x8) .ret (nslices_Index_int_int__l0_0_e0 a0 a1 r) | .inr r => VLoop none Go.Proofs.Try.prog (szF Go.Proofs.Try.f103) (bodyOf Go.Proofs.Try.f103 0) (nslices_Index_int_int__l0_0_h a0 a1 x8) (.exit 0) (nslices_Index_int_int__l0_0_e1 a0 a1 r)) := by
 intro fuel
 induction fuel with
 | zero => intro x8 r h; rw [nslices_Index_int_int__l0_0.eq_1] at h; cases h
 | succ fuel ih =>
  intro x8 r h
  rw [nslices_Index_int_int__l0_0.eq_2] at h
  rcases ifs h with ⟨h1500, h⟩ | ⟨h1500, h⟩
  ·obtain ⟨h1501, h⟩ := ifn h
   have e1502 := (show loadL Go.Proofs.Try.prog 3 (x8.toNat * 1) (List.map vi a0) = some (vi (a0.getD x8.toNat 0)) from ld_map ag3 vi a0 0 h1501 (by omega))
   rcases ifs h with ⟨h1503, h⟩ | ⟨h1503, h⟩
   ·injection h with h; subst h
    exact round_stop (c := ⟨[(4, none)], [], []⟩) (s1 := (nslices_Index_int_int__l0_0_e0 a0 a1 x8)) pm pn (ans := [.reg (.n :: []), .br true, .reg (.n :: .n :: []), .reg (nN 4 (.v (vi (a0.getD x8.toNat 0)) :: .n :: [])), .br true, .reg (.n :: .n :: [])]) (by kernel_rfl) (by intro e; cases e) (an (an (ti trivial) (an (an (decide_eq_true h1500) trivial) (an (ti (ti trivial)) (an (ti (ti (ti (an h1501 (an e1502 (ti trivial)))))) (an (decide_eq_true h1503) (an (ti (ti trivial)) trivial)))))) (ti trivial))
   ·have h2 := ih _ _ h
    obtain ⟨q, hv, hq⟩ := pkR (rd := none) (P := Go.Proofs.Try.prog) (fn := Go.Proofs.Try.f103) (k := 0) (s := (nslices_Index_int_int__l0_0_h a0 a1 x8)) (ans := [.reg (.n :: []), .br true, .reg (.n :: .n :: []), .reg (nN 4 (.v (vi (a0.getD x8.toNat 0)) :: .n :: [])), .br false, .reg (.n :: .n :: [])]) (c := ⟨[(0, none), (1, none), (7, none), (8, none)], [], []⟩) (e := .normal) (s1 := (nslices_Index_int_int__l0_0_h a0 a1 (w64 (x8 + 1)))) (an (an (ti trivial) (an (an (decide_eq_true h1500) trivial) (an (an (ti (ti trivial)) (an (ti (ti (ti (an h1501 (an e1502 (ti trivial)))))) (an (decide_eq_false h1503) trivial))) (ti (ti trivial))))) (ti trivial)) (by kernel_rfl)
    cases r with
    | inl r => exact round_next pm pn hv hq h2
    | inr r =>
     exact round_next pm pn hv hq h2
  ·injection h with h; subst h
   exact round_stop (c := ⟨[], [], []⟩) (s1 := (nslices_Index_int_int__l0_0_e1 a0 a1 ())) pm pn (ans := [.reg (.n :: []), .br false]) (by kernel_rfl) (by intro e; cases e) (an (an (ti trivial) (an (decide_eq_false h1500) trivial)) (ti trivial))
def nslices_Index_int_int_ (k : Nat) (a0 : (List Int)) (a1 : Int) : Option Int :=
  (nslices_Index_int_int__l0_0 k a0 a1 k 0).bind fun r1505 => (match r1505 with | .inl r1506 => (some r1506) | .inr r1507 => (some (-1)))
theorem nslices_Index_int_int__ok (k : Nat) (a0 : (List Int)) (a1 : Int) (r : Int) (h : nslices_Index_int_int_ k a0 a1 = some r) : VC Go.Proofs.Try.prog 103 [VV.tr (List.map vi a0) a0.length, vi a1] (vi r) := by
 unfold nslices_Index_int_int_ at h
 obtain ⟨r1505, h1504, h⟩ := bs h
 have hph1504 := nslices_Index_int_int__l0_0_ok k a0 a1 _ _ _ h1504
 cases r1505 with
 | inl r1506 =>
  dsimp only at h
  have e1508 := (an (ti trivial) (VRun.loop hph1504))
  injection h with h; subst h
  exact fun_ok pm pn Go.Proofs.Try.func103 (r0 := vi r1506) (ans := [.reg (.n :: []), .reg (nN 3 []), .sub ⟨[(0, none), (1, none), (7, none), (8, none)], [], []⟩ .ret (nslices_Index_int_int__l0_0_e0 a0 a1 r1506)]) (fr := true) (by kernel_rfl) (an (an (ti trivial) (an (ti (ti (ti trivial))) e1508)) (ti trivial)) (Wv.refl _)
 | inr r1507 =>
  dsimp only at h
  have e1509 := (an (ti trivial) (VRun.loop hph1504))
  injection h with h; subst h
  exact fun_ok pm pn Go.Proofs.Try.func103 (r0 := vi (-1)) (ans := [.reg (.n :: []), .reg (nN 3 []), .sub ⟨[(0, none), (1, none), (7, none), (8, none)], [], []⟩ (.exit 0) (nslices_Index_int_int__l0_0_e1 a0 a1 r1507), .reg (.n :: [])]) (fr := true) (by kernel_rfl) (an (an (ti trivial) (an (an (ti (ti (ti trivial))) e1509) (an (ti trivial) trivial))) (ti trivial)) (Wv.refl _)
def nslices_Contains_int_int_ (k : Nat) (a0 : (List Int)) (a1 : Int) : Option Bool :=
  (nslices_Index_int_int_ k a0 a1).bind fun r1513 => (some (decide (0 ≤ r1513)))
theorem nslices_Contains_int_int__ok (k : Nat) (a0 : (List Int)) (a1 : Int) (r : Bool) (h : nslices_Contains_int_int_ k a0 a1 = some r) : VC Go.Proofs.Try.prog 88 [VV.tr (List.map vi a0) a0.length, vi a1] (vb r) := by
 unfold nslices_Contains_int_int_ at h
 obtain ⟨r1513, h1514, h⟩ := bs h
 have e1515 := (nslices_Index_int_int__ok k a0 a1 _ h1514)
 injection h with h; subst h
 exact fun_ok pm pn Go.Proofs.Try.func88 (r0 := vb (decide (0 ≤ r1513))) (ans := [.reg (.n :: []), .reg (.n :: .n :: .call (vi r1513) :: .n :: .n :: [])]) (fr := true) (by kernel_rfl) (an (an (ti trivial) (an (ti (ti (an e1515 (ti (ti trivial))))) trivial)) (ti trivial)) (Wv.refl _)
def nprofile_joined (k : Nat) (a0 : Int) (a1 : (List SHeightReading)) : Option (Sweb × Int) :=
  (nprofile_agreeing k a0 a1).bind fun r1520 => (if r1520.2 = 0 then ((n_profile_web_from k r1520.1 0).bind fun r1524 => ((nslices_Contains_int_int_ k r1524 9223372036854775807).bind fun r1527 => (if r1527 = true then (some ((⟨0, []⟩ : Sweb), 25)) else (some (r1520.1, 0))))) else (some ((⟨0, []⟩ : Sweb), r1520.2)))
theorem nprofile_joined_ok (k : Nat) (a0 : Int) (a1 : (List SHeightReading)) (r : (Sweb × Int)) (h : nprofile_joined k a0 a1 = some r) : VC Go.Proofs.Try.prog 52 [vi a0, VV.tr (List.flatMap c_SHeightReading a1) a1.length] (VV.tu [VV.ag (g_Sweb r.1), vi r.2]) := by
 unfold nprofile_joined at h
 obtain ⟨r1520, h1521, h⟩ := bs h
 have e1522 := (ti (ti (an (nprofile_agreeing_ok k a0 a1 _ h1521) (ti (ti (ti (ti (ti (ti trivial)))))))))
 rcases ifs h with ⟨h1523, h⟩ | ⟨h1523, h⟩
 ·obtain ⟨r1524, h1525, h⟩ := bs h
  have e1526 := (show VC Go.Proofs.Try.prog 65 [VV.ag (c_Sweb r1520.1), vi 0] (VV.fr (List.map vi r1524) r1524.length) from (VC.weak (n_profile_web_from_ok k r1520.1 0 _ h1525) (Wv.fw rfl rfl)))
  obtain ⟨r1527, h1528, h⟩ := bs h
  have e1529 := (nslices_Contains_int_int__ok k r1524 9223372036854775807 _ h1528)
  rcases ifs h with ⟨h1530, h⟩ | ⟨h1530, h⟩
  ·injection h with h; subst h
   exact fun_ok pm pn Go.Proofs.Try.func52 (r0 := VV.tu [VV.ag [vi 0, VV.c (.slice none 0 0)], vi 25]) (ans := [.reg (.n :: .n :: []), .reg (.n :: .n :: .call (VV.tu [VV.ag (g_Sweb r1520.1), vi r1520.2]) :: nN 6 []), .reg (.n :: .n :: []), .br false, .reg (.n :: .call (VV.fr (List.map vi r1524) r1524.length) :: .call (vb r1527) :: []), .br true, .reg (nN 3 [])]) (fr := true) (by kernel_rfl) (an (an (ti (ti trivial)) (an e1522 (an (an (ti (ti trivial)) (an (not_f (decide_eq_true h1523)) trivial)) (an (ti (an e1526 (an e1529 trivial))) (an h1530 (an (ti (ti (ti trivial))) trivial)))))) (an (ti (ti (ti trivial))) (ti trivial))) (Wv.tuL (.cons (Wv.agL (.cons (Wv.of_eq eqW1_9) (.cons Wv.nilFr .nil))) (.cons (Wv.refl _) .nil)))
  ·injection h with h; subst h
   exact fun_ok pm pn Go.Proofs.Try.func52 (r0 := VV.tu [VV.ag (g_Sweb r1520.1), vi 0]) (ans := [.reg (.n :: .n :: []), .reg (.n :: .n :: .call (VV.tu [VV.ag (g_Sweb r1520.1), vi r1520.2]) :: nN 6 []), .reg (.n :: .n :: []), .br false, .reg (.n :: .call (VV.fr (List.map vi r1524) r1524.length) :: .call (vb r1527) :: []), .br false, .reg (nN 3 [])]) (fr := true) (by kernel_rfl) (an (an (ti (ti trivial)) (an e1522 (an (an (ti (ti trivial)) (an (not_f (decide_eq_true h1523)) trivial)) (an (an (ti (an e1526 (an e1529 trivial))) (an (bool_f h1530) trivial)) (an (ti (ti (ti trivial))) trivial))))) (an (ti (ti (ti trivial))) (ti trivial))) (Wv.refl _)
 ·injection h with h; subst h
  exact fun_ok pm pn Go.Proofs.Try.func52 (r0 := VV.tu [VV.ag [vi 0, VV.c (.slice none 0 0)], vi r1520.2]) (ans := [.reg (.n :: .n :: []), .reg (.n :: .n :: .call (VV.tu [VV.ag (g_Sweb r1520.1), vi r1520.2]) :: nN 6 []), .reg (.n :: .n :: []), .br true, .reg (nN 4 [])]) (fr := true) (by kernel_rfl) (an (an (ti (ti trivial)) (an e1522 (an (ti (ti trivial)) (an (not_t (decide_eq_false h1523)) (an (ti (ti (ti (ti trivial)))) trivial))))) (an (ti (ti (ti trivial))) (ti trivial))) (Wv.tuL (.cons (Wv.agL (.cons (Wv.of_eq eqW1_9) (.cons Wv.nilFr .nil))) (.cons (Wv.refl _) .nil)))
def arW1_4 (z0 : (List Int)) (z1 : Int) (z2 : (List Int)) (z3 : Int) : List Ans := (.n :: .n :: .call (VV.fr (List.map vi z0) z0.length) :: .n :: .n :: .v (vi (z0.getD z1.toNat 0)) :: .n :: .n :: .call (VV.fr (List.map vi z2) z2.length) :: .n :: .n :: .v (vi (z2.getD z3.toNat 0)) :: .n :: .n :: [])
theorem eqW1_10  : VV.tu [VV.ag [vi 0, vi 0], vb false] = VV.tu [VV.ag (c_SRange (⟨0, 0⟩ : SRange)), vb false] := by first | rfl | (simp only [unfr_vi, unfr_vb, List.map_cons, List.map_nil, un_i, un_b, unfr_c_SRange]; done) | (simp only [unfr_vi, unfr_vb, List.map_cons, List.map_nil, un_i, un_b, unfr_c_SRange]; rfl) | (simp only [unfr_vi, unfr_vb, List.map_cons, List.map_nil, un_i, un_b, unfr_c_SRange, c_SRange, List.length_cons, List.length_nil, List.length_append]; done)
theorem eqW1_11 (z0 : (List Int)) (z1 : Int) (z2 : (List Int)) (z3 : Int) : VV.tu [VV.ag [vi (w64 (0 - (z0.getD z1.toNat 0))), vi (z2.getD z3.toNat 0)], vb true] = VV.tu [VV.ag (c_SRange (⟨w64 (0 - (z0.getD z1.toNat 0)), (z2.getD z3.toNat 0)⟩ : SRange)), vb true] := by first | rfl | (simp only [unfr_vi, unfr_vb, List.map_cons, List.map_nil, un_i, un_b, unfr_c_SRange]; done) | (simp only [unfr_vi, unfr_vb, List.map_cons, List.map_nil, un_i, un_b, unfr_c_SRange]; rfl) | (simp only [unfr_vi, unfr_vb, List.map_cons, List.map_nil, un_i, un_b, unfr_c_SRange, c_SRange, List.length_cons, List.length_nil, List.length_append]; done)
def n_profile_web_between (k : Nat) (a0 : Sweb) (a1 : Int) (a2 : Int) : Option (SRange × Bool) :=
  (n_profile_web_from k a0 a1).bind fun r1543 => (if 0 ≤ a2 ∧ a2 < (r1543.length : Int) then ((n_profile_web_from k a0 a2).bind fun r1548 => (if 0 ≤ a1 ∧ a1 < (r1548.length : Int) then (if (r1543.getD a2.toNat 0) = 9223372036854775807 then (some ((⟨0, 0⟩ : SRange), false)) else (some ((⟨w64 (0 - (r1548.getD a1.toNat 0)), (r1543.getD a2.toNat 0)⟩ : SRange), true))) else none)) else none)
theorem n_profile_web_between_ok (k : Nat) (a0 : Sweb) (a1 : Int) (a2 : Int) (r : (SRange × Bool)) (h : n_profile_web_between k a0 a1 a2 = some r) : VC Go.Proofs.Try.prog 55 [VV.ag (c_Sweb a0), vi a1, vi a2] (VV.tu [VV.ag (c_SRange r.1), vb r.2]) := by
 unfold n_profile_web_between at h
 obtain ⟨r1543, h1544, h⟩ := bs h
 have e1545 := (show VC Go.Proofs.Try.prog 65 [VV.ag (c_Sweb a0), vi a1] (VV.fr (List.map vi r1543) r1543.length) from (VC.weak (n_profile_web_from_ok k a0 a1 _ h1544) (Wv.fw rfl rfl)))
 obtain ⟨h1546, h⟩ := ifn h
 have e1547 := (show loadL Go.Proofs.Try.prog 3 (a2.toNat * 1) (List.map vi r1543) = some (vi (r1543.getD a2.toNat 0)) from ld_map ag3 vi r1543 0 h1546 (by omega))
 obtain ⟨r1548, h1549, h⟩ := bs h
 have e1550 := (show VC Go.Proofs.Try.prog 65 [VV.ag (c_Sweb a0), vi a2] (VV.fr (List.map vi r1548) r1548.length) from (VC.weak (n_profile_web_from_ok k a0 a2 _ h1549) (Wv.fw rfl rfl)))
 obtain ⟨h1551, h⟩ := ifn h
 have e1552 := (show loadL Go.Proofs.Try.prog 3 (a1.toNat * 1) (List.map vi r1548) = some (vi (r1548.getD a1.toNat 0)) from ld_map ag3 vi r1548 0 h1551 (by omega))
 have e1553 := (ti (ti (an e1545 (ti (an h1546 (an e1547 (ti (ti (an e1550 (ti (an h1551 (an e1552 (ti (ti trivial))))))))))))))
 rcases ifs h with ⟨h1554, h⟩ | ⟨h1554, h⟩
 ·injection h with h; subst h
  exact fun_ok pm pn Go.Proofs.Try.func55 (r0 := VV.tu [VV.ag [vi 0, vi 0], vb false]) (ans := [.reg (nN 3 []), .reg (arW1_4 r1543 a2 r1548 a1), .reg (.n :: .n :: []), .br true, .reg (nN 3 [])]) (fr := true) (by kernel_rfl) (an (an (ti (ti (ti trivial))) (an e1553 (an (ti (ti trivial)) (an (decide_eq_true h1554) (an (ti (ti (ti trivial))) trivial))))) (an (ti (ti (ti trivial))) (ti trivial))) (Wv.of_eq eqW1_10)
 ·injection h with h; subst h
  exact fun_ok pm pn Go.Proofs.Try.func55 (r0 := VV.tu [VV.ag [vi (w64 (0 - (r1548.getD a1.toNat 0))), vi (r1543.getD a2.toNat 0)], vb true]) (ans := [.reg (nN 3 []), .reg (arW1_4 r1543 a2 r1548 a1), .reg (.n :: .n :: []), .br false, .reg (nN 6 [])]) (fr := true) (by kernel_rfl) (an (an (ti (ti (ti trivial))) (an e1553 (an (an (ti (ti trivial)) (an (decide_eq_false h1554) trivial)) (an (ti (ti (ti (ti (ti (ti trivial)))))) trivial)))) (an (ti (ti (ti trivial))) (ti trivial))) (Wv.of_eq (eqW1_11 r1548 a1 r1543 a2))
def arW1_5 (z0 : Sweb) (z1 : (List Int)) : List Ans := (.n :: .n :: .call (VV.ag (g_Sweb z0)) :: .call (VV.fr (List.map vi z1) z1.length) :: nN 4 [])
def nprofile_Enclosure_l0_0_h (a0 : Int) (r1595 : (Sweb × Int)) (y1 : List SRange) (x30 : Int) : VS := ⟨mkA [(7, VV.pt 0 0), (9, VV.rf 1 0 y1.length), (29, vi a0), (30, vi x30)], [some ⟨true, 1, g_Sweb r1595.1⟩, some ⟨false, 2, List.flatMap c_SRange y1⟩], .nil⟩
def nprofile_Enclosure_l0_0_e0 (a0 : Int) (r1595 : (Sweb × Int)) (r : (List SRange)) : VS := ⟨mkA [(9, VV.rf 1 0 r.length)], [some ⟨true, 1, g_Sweb r1595.1⟩, some ⟨false, 2, List.flatMap c_SRange r⟩], .nil⟩
def nprofile_Enclosure_l0_0 (k : Nat) (a0 : Int) (r1595 : (Sweb × Int)) : Nat → (List SRange) → Int → Option ((List SRange))
  | 0, _, _ => none
  | fuel + 1, y1, x30 => if x30 < a0 then ((n_profile_web_between k r1595.1 0 x30).bind fun r1626 => (if 0 ≤ x30 ∧ x30 < (y1.length : Int) then (nprofile_Enclosure_l0_0 k a0 r1595 fuel (y1.set x30.toNat r1626.1) (w64 (x30 + 1))) else none)) else (some y1)
theorem nprofile_Enclosure_l0_0_ok (k : Nat) (a0 : Int) (r1595 : (Sweb × Int)) : ∀ (fuel : Nat) (y1 : List SRange) (x30 : Int) (r : (List SRange)), nprofile_Enclosure_l0_0 k a0 r1595 fuel y1 x30 = some r → (VLoop none Go.Proofs.Try.prog (szF Go.Proofs.Try.f14) (bodyOf Go.Proofs.Try.f14 0) (nprofile_Enclosure_l0_0_h a0 r1595 y1 x30) (.exit 0) (nprofile_Enclosure_l0_0_e0 a0 r1595 r)) := by
 intro fuel
 induction fuel with
 | zero => intro y1 x30 r h; rw [nprofile_Enclosure_l0_0.eq_1] at h; cases h
 | succ fuel ih =>
  intro y1 x30 r h
  rw [nprofile_Enclosure_l0_0.eq_2] at h
  rcases ifs h with ⟨h1625, h⟩ | ⟨h1625, h⟩
  ·obtain ⟨r1626, h1627, h⟩ := bs h
   have e1628 := (n_profile_web_between_ok k r1595.1 0 x30 _ h1627)
   obtain ⟨h1629, h⟩ := ifn h
   have e1630 := (show (0 + x30.toNat * 2) + 2 ≤ List.length (List.flatMap c_SRange y1) from (by rw [flat_len len_c_SRange]; have := h1629; omega))
   have e1631 := (ti (ti (ti (ti (an e1628 (ti (ti (ti (an h1629 (an e1630 trivial))))))))))
   have h2 := ih _ _ _ h
   obtain ⟨q, hv, hq⟩ := pkR (rd := none) (P := Go.Proofs.Try.prog) (fn := Go.Proofs.Try.f14) (k := 0) (s := (nprofile_Enclosure_l0_0_h a0 r1595 y1 x30)) (ans := [.reg (.n :: []), .br true, .reg (.n :: .n :: []), .reg (nN 4 (.call (VV.tu [VV.ag (c_SRange r1626.1), vb r1626.2]) :: nN 5 [])), .reg (.n :: .n :: [])]) (c := ⟨[(7, none), (9, some (VV.rf 1 0 ((y1.set x30.toNat r1626.1).length))), (29, none), (30, none)], [none, some (List.flatMap c_SRange (y1.set x30.toNat r1626.1))], []⟩) (e := .normal) (s1 := (nprofile_Enclosure_l0_0_h a0 r1595 (y1.set x30.toNat r1626.1) (w64 (x30 + 1)))) (an (an (ti trivial) (an (an (decide_eq_true h1625) trivial) (an (an (ti (ti trivial)) e1631) (ti (ti trivial))))) (an (an (show Wv (VV.rf 1 0 y1.length) (VV.rf 1 0 ((y1.set x30.toNat r1626.1).length)) from (Wv.of_eq (by simp [cpy_len]))) trivial) (an (show putT (0 + x30.toNat * 2) (List.flatMap c_SRange y1) [vi r1626.1.Lo, vi r1626.1.Hi] = List.flatMap c_SRange (y1.set x30.toNat r1626.1) from (by exact putT_flat len_c_SRange y1 h1629 r1626.1 (by omega))) trivial))) (by kernel_rfl)
   exact round_next pm pn hv hq h2
  ·injection h with h; subst h
   exact round_stop (c := ⟨[(9, none)], [none, none], []⟩) (s1 := (nprofile_Enclosure_l0_0_e0 a0 r1595 y1)) pm pn (ans := [.reg (.n :: []), .br false]) (by kernel_rfl) (by intro e; cases e) (an (an (ti trivial) (an (decide_eq_false h1625) trivial)) (ti trivial))
theorem eqW1_12 (z0 : (List SRange)) : List.drop 0 (List.map unfr (List.flatMap c_SRange z0)) = List.flatMap c_SRange z0 := by first | rfl | (simp only [Nat.zero_add, Nat.mul_one, List.map_drop, List.length_drop, drop0, List.map_cons, List.map_nil, unfr_c_SRange]; done) | (simp only [Nat.zero_add, Nat.mul_one, List.map_drop, List.length_drop, drop0, List.map_cons, List.map_nil, unfr_c_SRange]; rfl) | (simp only [Nat.zero_add, Nat.mul_one, List.map_drop, List.length_drop, drop0, List.map_cons, List.map_nil, unfr_c_SRange, c_SRange, List.length_cons, List.length_nil, List.length_append]; done)
def nprofile_Enclosure (k : Nat) (a0 : Int) (a1 : (List SHeightReading)) : Option ((List SRange) × (List Int) × Int) :=
  (nprofile_joined k a0 a1).bind fun r1595 => (if r1595.2 = 13 then ((nprofile_newWeb k a0 a1).bind fun r1599 => ((n_profile_web_circle k r1599).bind fun r1602 => (some ([], r1602, r1595.2)))) else (if r1595.2 = 0 then (if 0 ≤ a0 ∧ a0 ≤ 1000000000 then ((nprofile_Enclosure_l0_0 k a0 r1595 k (List.replicate a0.toNat (⟨0, 0⟩ : SRange)) 0).bind fun r1633 => (some (r1633, [], 0))) else none) else (some ([], [], r1595.2))))
theorem nprofile_Enclosure_ok (k : Nat) (a0 : Int) (a1 : (List SHeightReading)) (r : ((List SRange) × (List Int) × Int)) (h : nprofile_Enclosure k a0 a1 = some r) : VC Go.Proofs.Try.prog 14 [vi a0, VV.tr (List.flatMap c_SHeightReading a1) a1.length] (VV.tu [VV.fr (List.flatMap c_SRange r.1) r.1.length, VV.fr (List.map vi r.2.1) r.2.1.length, vi r.2.2]) := by
 unfold nprofile_Enclosure at h
 obtain ⟨r1595, h1596, h⟩ := bs h
 have e1597 := (ti (ti (an (nprofile_joined_ok k a0 a1 _ h1596) (ti (ti (ti (ti (ti (ti trivial)))))))))
 rcases ifs h with ⟨h1598, h⟩ | ⟨h1598, h⟩
 ·obtain ⟨r1599, h1600, h⟩ := bs h
  have e1601 := (show VC Go.Proofs.Try.prog 53 [vi a0, VV.tr (List.flatMap c_SHeightReading a1) a1.length] (VV.ag (g_Sweb r1599)) from (VC.weak (nprofile_newWeb_ok k a0 a1 _ h1600) (Wv.agL (.cons (Wv.refl _) (.cons (Wv.fw rfl rfl) .nil)))))
  obtain ⟨r1602, h1603, h⟩ := bs h
  have e1604 := (show VC Go.Proofs.Try.prog 54 [VV.ag (c_Sweb r1599)] (VV.fr (List.map vi r1602) r1602.length) from (VC.weak (n_profile_web_circle_ok k r1599 _ h1603) (Wv.fw rfl rfl)))
  have e1605 := (ti (ti (an e1601 (an e1604 (ti (ti (ti (ti trivial))))))))
  injection h with h; subst h
  exact fun_ok pm pn Go.Proofs.Try.func14 (r0 := VV.tu [VV.c (.slice none 0 0), VV.fr (List.map vi r1602) r1602.length, vi r1595.2]) (ans := [.reg (nN 3 []), .reg (.n :: .n :: .call (VV.tu [VV.ag (g_Sweb r1595.1), vi r1595.2]) :: nN 6 []), .reg (.n :: .n :: []), .br true, .reg (arW1_5 r1599 r1602)]) (fr := true) (by kernel_rfl) (an (an (ti (ti (ti trivial))) (an e1597 (an (ti (ti trivial)) (an (decide_eq_true h1598) (an e1605 trivial))))) (ti (ti (ti trivial)))) (Wv.tuL (.cons Wv.nilFr (.cons (Wv.refl _) (.cons (Wv.refl _) .nil))))
 ·rcases ifs h with ⟨h1606, h⟩ | ⟨h1606, h⟩
  ·obtain ⟨h1607, h⟩ := ifn h
   have e1608 := (show 0 ≤ a0 ∧ a0 = a0 ∧ (16 * a0.toNat) ≤ 281474976710656 ∧ a0 < 1099511627776 from ⟨by omega, rfl, by omega, by omega⟩)
   obtain ⟨r1633, h1632, h⟩ := bs h
   have hph1632 := nprofile_Enclosure_l0_0_ok k a0 r1595 _ _ _ _ h1632
   have e1634 := (an (an (an (show Wv (VV.rf 1 0 a0.toNat) (VV.rf 1 0 ((List.replicate a0.toNat (⟨0, 0⟩ : SRange)).length)) from (Wv.of_eq (by simp [cpy_len]))) trivial) (an (show zeroCells (.agg #[.int .i64 0, .int .i64 0]) (a0.toNat * 2) = List.flatMap c_SRange (List.replicate a0.toNat (⟨0, 0⟩ : SRange)) from zero_flat c_SRange (.agg #[.int .i64 0, .int .i64 0]) (⟨0, 0⟩ : SRange) 2 (by decide) rfl rfl _) trivial)) (VRun.loop hph1632))
   injection h with h; subst h
   exact fun_ok pm pn Go.Proofs.Try.func14 (r0 := VV.tu [VV.fw 2 (List.drop 0 (List.map unfr (List.flatMap c_SRange r1633))) r1633.length, VV.c (.slice none 0 0), vi 0]) (ans := [.reg (nN 3 []), .reg (.n :: .n :: .call (VV.tu [VV.ag (g_Sweb r1595.1), vi r1595.2]) :: nN 6 []), .reg (.n :: .n :: []), .br false, .reg (.n :: .n :: []), .br false, .reg (nN 3 []), .reg (.n :: .n :: []), .sub ⟨[(7, none), (9, some (VV.rf 1 0 ((List.replicate a0.toNat (⟨0, 0⟩ : SRange)).length))), (29, none), (30, none)], [none, some (List.flatMap c_SRange (List.replicate a0.toNat (⟨0, 0⟩ : SRange)))], []⟩ (.exit 0) (nprofile_Enclosure_l0_0_e0 a0 r1595 r1633), .reg (nN 4 [])]) (fr := true) (by kernel_rfl) (an (an (ti (ti (ti trivial))) (an e1597 (an (an (ti (ti trivial)) (an (decide_eq_false h1598) trivial)) (an (an (ti (ti trivial)) (an (not_f (decide_eq_true h1606)) trivial)) (an (ti (an e1608 (ti trivial))) (an (an (ti (ti trivial)) e1634) (an (ti (ti (ti (ti trivial)))) trivial))))))) (an (show List.all (List.flatMap c_SRange r1633) new0 = true from (by exact new0_c_SRange _)) (ti (ti trivial)))) (Wv.tuL (.cons (Wv.fw (eqW1_12 r1633) rfl) (.cons Wv.nilFr (.cons (Wv.refl _) .nil))))
  ·injection h with h; subst h
   exact fun_ok pm pn Go.Proofs.Try.func14 (r0 := VV.tu [VV.c (.slice none 0 0), VV.c (.slice none 0 0), vi r1595.2]) (ans := [.reg (nN 3 []), .reg (.n :: .n :: .call (VV.tu [VV.ag (g_Sweb r1595.1), vi r1595.2]) :: nN 6 []), .reg (.n :: .n :: []), .br false, .reg (.n :: .n :: []), .br true, .reg (nN 4 [])]) (fr := true) (by kernel_rfl) (an (an (ti (ti (ti trivial))) (an e1597 (an (an (ti (ti trivial)) (an (decide_eq_false h1598) trivial)) (an (ti (ti trivial)) (an (not_t (decide_eq_false h1606)) (an (ti (ti (ti (ti trivial)))) trivial)))))) (ti (ti (ti trivial)))) (Wv.tuL (.cons Wv.nilFr (.cons Wv.nilFr (.cons (Wv.refl _) .nil))))
def nspeculumbase_Within (k : Nat) (a0 : Int) (a1 : Int) (a2 : Int) : Option Bool :=
  if a1 ≤ a0 then (some (decide (a0 ≤ a2))) else (some false)
theorem nspeculumbase_Within_ok (k : Nat) (a0 : Int) (a1 : Int) (a2 : Int) (r : Bool) (h : nspeculumbase_Within k a0 a1 a2 = some r) : VC Go.Proofs.Try.prog 32 [vi a0, vi a1, vi a2] (vb r) := by
 unfold nspeculumbase_Within at h
 rcases ifs h with ⟨h1638, h⟩ | ⟨h1638, h⟩
 ·have e1639 := (ti (ti (ti (ti (an (an (decide_eq_true h1638) trivial) (an (an (decide_eq_true h1638) trivial) (an (an (decide_eq_true h1638) trivial) (an (decide_eq_true h1638) (ti trivial)))))))))
  injection h with h; subst h
  exact fun_ok pm pn Go.Proofs.Try.func32 (r0 := vb (decide (a0 ≤ a2))) (ans := [.reg (.n :: []), .reg (nN 7 (.b true :: .n :: []))]) (fr := true) (by kernel_rfl) (an (an (ti trivial) (an e1639 trivial)) (ti trivial)) (Wv.refl _)
 ·have e1640 := (ti (ti (ti (ti (an (decide_eq_false h1638) (an (decide_eq_false h1638) (an (decide_eq_false h1638) (an (decide_eq_false h1638) (ti trivial)))))))))
  injection h with h; subst h
  exact fun_ok pm pn Go.Proofs.Try.func32 (r0 := vb false) (ans := [.reg (.n :: []), .reg (nN 4 (nS 3 (.b false :: .n :: [])))]) (fr := true) (by kernel_rfl) (an (an (ti trivial) (an e1640 trivial)) (ti trivial)) (Wv.refl _)
def nspeculumref05_isHeight (k : Nat) (a0 : Int) : Option Bool :=
  (nspeculumbase_Within k a0 (-1000000) 1000000).bind fun r1662 => (some r1662)
theorem nspeculumref05_isHeight_ok (k : Nat) (a0 : Int) (r : Bool) (h : nspeculumref05_isHeight k a0 = some r) : VC Go.Proofs.Try.prog 61 [vi a0] (vb r) := by
 unfold nspeculumref05_isHeight at h
 obtain ⟨r1662, h1663, h⟩ := bs h
 have e1664 := (nspeculumbase_Within_ok k a0 (-1000000) 1000000 _ h1663)
 injection h with h; subst h
 exact fun_ok pm pn Go.Proofs.Try.func61 (r0 := vb r1662) (ans := [.reg (.n :: []), .reg (.n :: .call (vb r1662) :: .n :: [])]) (fr := true) (by kernel_rfl) (an (an (ti trivial) (an (ti (an e1664 (ti trivial))) trivial)) (ti trivial)) (Wv.refl _)
def nspeculumref05_CheckReadings_l0_0_h (a0 : Int) (a1 : (List SHeightReading)) (x5 : Int) : VS := ⟨mkA [(0, vi a0), (1, VV.tr (List.flatMap c_SHeightReading a1) a1.length), (5, vi x5)], [], .nil⟩
def nspeculumref05_CheckReadings_l0_0_e0 (a0 : Int) (a1 : (List SHeightReading)) (r : Int) : VS := ⟨mkA [(4, vi r)], [], .nil⟩
def nspeculumref05_CheckReadings_l0_0_e1 (a0 : Int) (a1 : (List SHeightReading)) (r : Unit) : VS := ⟨mkA [], [], .nil⟩
def nspeculumref05_CheckReadings_l0_0 (k : Nat) (a0 : Int) (a1 : (List SHeightReading)) : Nat → Int → Option (Sum Int Unit)
  | 0, _ => none
  | fuel + 1, x5 => if x5 < (a1.length : Int) then (if 0 ≤ x5 ∧ x5 < (a1.length : Int) then ((nspeculumbase_Within k ((a1.getD x5.toNat default).From) 0 (w64 (a0 - 1))).bind fun r1791 => (if r1791 = true then ((nspeculumbase_Within k ((a1.getD x5.toNat default).To) 0 (w64 (a0 - 1))).bind fun r1795 => (if r1795 = true then (if ((a1.getD x5.toNat default).From) = ((a1.getD x5.toNat default).To) then (some (.inl 3)) else ((nspeculumref05_isHeight k (((a1.getD x5.toNat default).Diff).Lo)).bind fun r1801 => (if r1801 = true then ((nspeculumref05_isHeight k (((a1.getD x5.toNat default).Diff).Hi)).bind fun r1805 => (if r1805 = true then (if (((a1.getD x5.toNat default).Diff).Hi) < (((a1.getD x5.toNat default).Diff).Lo) then (some (.inl 9)) else (nspeculumref05_CheckReadings_l0_0 k a0 a1 fuel (w64 (x5 + 1)))) else (some (.inl 2)))) else (some (.inl 2))))) else (some (.inl 6)))) else (some (.inl 6)))) else none) else (some (.inr ()))
theorem nspeculumref05_CheckReadings_l0_0_ok (k : Nat) (a0 : Int) (a1 : (List SHeightReading)) : ∀ (fuel : Nat) (x5 : Int) (r : Sum Int Unit), nspeculumref05_CheckReadings_l0_0 k a0 a1 fuel x5 = some r → (match r with | .inl r => VLoop none Go.Proofs.Try.prog (szF Go.Proofs.Try.f22) (bodyOf Go.Proofs.Try.f22 0) (nspeculumref05_CheckReadings_l0_0_h a0 a1 x5) .ret (nspeculumref05_CheckReadings_l0_0_e0 a0 a1 r) | .inr r => VLoop none Go.Proofs.Try.prog (szF Go.Proofs.Try.f22) (bodyOf Go.Proofs.Try.f22 0) (nspeculumref05_CheckReadings_l0_0_h a0 a1 x5) (.exit 0) (nspeculumref05_CheckReadings_l0_0_e1 a0 a1 r)) := by
 intro fuel
 induction fuel with
 | zero => intro x5 r h; rw [nspeculumref05_CheckReadings_l0_0.eq_1] at h; cases h
 | succ fuel ih =>
  intro x5 r h
  rw [nspeculumref05_CheckReadings_l0_0.eq_2] at h
  rcases ifs h with ⟨h1788, h⟩ | ⟨h1788, h⟩
  ·obtain ⟨h1789, h⟩ := ifn h
   have e1790 := (show loadL Go.Proofs.Try.prog 65 (x5.toNat * 4) (List.flatMap c_SHeightReading a1) = some (VV.ag (c_SHeightReading (a1.getD x5.toNat default))) from ld_whole ag65 c_SHeightReading 4 sz65 len_c_SHeightReading a1 default h1789 (by omega))
   obtain ⟨r1791, h1792, h⟩ := bs h
   have e1793 := (nspeculumbase_Within_ok k ((a1.getD x5.toNat default).From) 0 (w64 (a0 - 1)) _ h1792)
   rcases ifs h with ⟨h1794, h⟩ | ⟨h1794, h⟩
   ·obtain ⟨r1795, h1796, h⟩ := bs h
    have e1797 := (an (not_f h1794) (nspeculumbase_Within_ok k ((a1.getD x5.toNat default).To) 0 (w64 (a0 - 1)) _ h1796))
    have e1798 := (ti (ti (ti (ti (an e1793 (ti (ti (an (an (not_f h1794) trivial) (an (an (not_f h1794) trivial) (an (an (not_f h1794) trivial) (an (an (not_f h1794) trivial) (an e1797 (an (an (not_f h1794) trivial) (an (not_f h1794) trivial))))))))))))))
    rcases ifs h with ⟨h1799, h⟩ | ⟨h1799, h⟩
    ·rcases ifs h with ⟨h1800, h⟩ | ⟨h1800, h⟩
     ·injection h with h; subst h
      exact round_stop (c := ⟨[(4, none)], [], []⟩) (s1 := (nspeculumref05_CheckReadings_l0_0_e0 a0 a1 3)) pm pn (ans := [.reg (nN 4 []), .br true, .reg (nN 3 (.v (VV.ag (c_SHeightReading (a1.getD x5.toNat default))) :: .n :: .n :: [])), .reg (nN 4 (.call (vb r1791) :: nN 6 (.call (vb r1795) :: .n :: .b false :: []))), .br false, .reg (nN 5 []), .br true, .reg (.n :: [])]) (by kernel_rfl) (by intro e; cases e) (an (an (an (ti (ti (ti (ti trivial)))) (an (decide_eq_true h1788) trivial)) (an (ti (ti (an h1789 (an e1790 (ti (ti trivial)))))) (an (an e1798 (an (not_f h1799) trivial)) (an (ti (ti (ti (ti (ti trivial))))) (an (decide_eq_true h1800) (an (ti trivial) trivial)))))) (ti trivial))
     ·obtain ⟨r1801, h1802, h⟩ := bs h
      have e1803 := (nspeculumref05_isHeight_ok k (((a1.getD x5.toNat default).Diff).Lo) _ h1802)
      rcases ifs h with ⟨h1804, h⟩ | ⟨h1804, h⟩
      ·obtain ⟨r1805, h1806, h⟩ := bs h
       have e1807 := (an (not_f h1804) (nspeculumref05_isHeight_ok k (((a1.getD x5.toNat default).Diff).Hi) _ h1806))
       have e1808 := (ti (ti (ti (an e1803 (ti (ti (an (an (not_f h1804) trivial) (an (an (not_f h1804) trivial) (an (an (not_f h1804) trivial) (an e1807 (an (an (not_f h1804) trivial) (an (not_f h1804) trivial))))))))))))
       rcases ifs h with ⟨h1809, h⟩ | ⟨h1809, h⟩
       ·rcases ifs h with ⟨h1810, h⟩ | ⟨h1810, h⟩
        ·injection h with h; subst h
         exact round_stop (c := ⟨[(4, none)], [], []⟩) (s1 := (nspeculumref05_CheckReadings_l0_0_e0 a0 a1 9)) pm pn (ans := [.reg (nN 4 []), .br true, .reg (nN 3 (.v (VV.ag (c_SHeightReading (a1.getD x5.toNat default))) :: .n :: .n :: [])), .reg (nN 4 (.call (vb r1791) :: nN 6 (.call (vb r1795) :: .n :: .b false :: []))), .br false, .reg (nN 5 []), .br false, .reg (nN 3 (.call (vb r1801) :: nN 5 (.call (vb r1805) :: .n :: .b false :: []))), .br false, .reg (nN 7 []), .br true, .reg (.n :: [])]) (by kernel_rfl) (by intro e; cases e) (an (an (an (ti (ti (ti (ti trivial)))) (an (decide_eq_true h1788) trivial)) (an (ti (ti (an h1789 (an e1790 (ti (ti trivial)))))) (an (an e1798 (an (not_f h1799) trivial)) (an (an (ti (ti (ti (ti (ti trivial))))) (an (decide_eq_false h1800) trivial)) (an (an e1808 (an (not_f h1809) trivial)) (an (ti (ti (ti (ti (ti (ti (ti trivial))))))) (an (decide_eq_true h1810) (an (ti trivial) trivial)))))))) (ti trivial))
        ·have h2 := ih _ _ h
         obtain ⟨q, hv, hq⟩ := pkR (rd := none) (P := Go.Proofs.Try.prog) (fn := Go.Proofs.Try.f22) (k := 0) (s := (nspeculumref05_CheckReadings_l0_0_h a0 a1 x5)) (ans := [.reg (nN 4 []), .br true, .reg (nN 3 (.v (VV.ag (c_SHeightReading (a1.getD x5.toNat default))) :: .n :: .n :: [])), .reg (nN 4 (.call (vb r1791) :: nN 6 (.call (vb r1795) :: .n :: .b false :: []))), .br false, .reg (nN 5 []), .br false, .reg (nN 3 (.call (vb r1801) :: nN 5 (.call (vb r1805) :: .n :: .b false :: []))), .br false, .reg (nN 7 []), .br false, .reg (nN 3 [])]) (c := ⟨[(0, none), (1, none), (5, none)], [], []⟩) (e := .normal) (s1 := (nspeculumref05_CheckReadings_l0_0_h a0 a1 (w64 (x5 + 1)))) (an (an (an (ti (ti (ti (ti trivial)))) (an (decide_eq_true h1788) trivial)) (an (an (ti (ti (an h1789 (an e1790 (ti (ti trivial)))))) (an (an e1798 (an (not_f h1799) trivial)) (an (an (ti (ti (ti (ti (ti trivial))))) (an (decide_eq_false h1800) trivial)) (an (an e1808 (an (not_f h1809) trivial)) (an (ti (ti (ti (ti (ti (ti (ti trivial))))))) (an (decide_eq_false h1810) trivial)))))) (ti (ti (ti trivial))))) (ti trivial)) (by kernel_rfl)
         cases r with
         | inl r => exact round_next pm pn hv hq h2
         | inr r =>
          exact round_next pm pn hv hq h2
       ·injection h with h; subst h
        exact round_stop (c := ⟨[(4, none)], [], []⟩) (s1 := (nspeculumref05_CheckReadings_l0_0_e0 a0 a1 2)) pm pn (ans := [.reg (nN 4 []), .br true, .reg (nN 3 (.v (VV.ag (c_SHeightReading (a1.getD x5.toNat default))) :: .n :: .n :: [])), .reg (nN 4 (.call (vb r1791) :: nN 6 (.call (vb r1795) :: .n :: .b false :: []))), .br false, .reg (nN 5 []), .br false, .reg (nN 3 (.call (vb r1801) :: nN 5 (.call (vb r1805) :: .n :: .b false :: []))), .br true, .reg (.n :: [])]) (by kernel_rfl) (by intro e; cases e) (an (an (an (ti (ti (ti (ti trivial)))) (an (decide_eq_true h1788) trivial)) (an (ti (ti (an h1789 (an e1790 (ti (ti trivial)))))) (an (an e1798 (an (not_f h1799) trivial)) (an (an (ti (ti (ti (ti (ti trivial))))) (an (decide_eq_false h1800) trivial)) (an e1808 (an (not_t (bool_f h1809)) (an (ti trivial) trivial))))))) (ti trivial))
      ·have e1811 := (ti (ti (ti (an e1803 (ti (ti (an (not_t (bool_f h1804)) (an (not_t (bool_f h1804)) (an (not_t (bool_f h1804)) (an (not_t (bool_f h1804)) (an (not_t (bool_f h1804)) (an (not_t (bool_f h1804)) trivial))))))))))))
       injection h with h; subst h
       exact round_stop (c := ⟨[(4, none)], [], []⟩) (s1 := (nspeculumref05_CheckReadings_l0_0_e0 a0 a1 2)) pm pn (ans := [.reg (nN 4 []), .br true, .reg (nN 3 (.v (VV.ag (c_SHeightReading (a1.getD x5.toNat default))) :: .n :: .n :: [])), .reg (nN 4 (.call (vb r1791) :: nN 6 (.call (vb r1795) :: .n :: .b false :: []))), .br false, .reg (nN 5 []), .br false, .reg (nN 3 (.call (vb r1801) :: .n :: .n :: nS 5 (.b true :: []))), .br true, .reg (.n :: [])]) (by kernel_rfl) (by intro e; cases e) (an (an (an (ti (ti (ti (ti trivial)))) (an (decide_eq_true h1788) trivial)) (an (ti (ti (an h1789 (an e1790 (ti (ti trivial)))))) (an (an e1798 (an (not_f h1799) trivial)) (an (an (ti (ti (ti (ti (ti trivial))))) (an (decide_eq_false h1800) trivial)) (an e1811 (an rt (an (ti trivial) trivial))))))) (ti trivial))
    ·injection h with h; subst h
     exact round_stop (c := ⟨[(4, none)], [], []⟩) (s1 := (nspeculumref05_CheckReadings_l0_0_e0 a0 a1 6)) pm pn (ans := [.reg (nN 4 []), .br true, .reg (nN 3 (.v (VV.ag (c_SHeightReading (a1.getD x5.toNat default))) :: .n :: .n :: [])), .reg (nN 4 (.call (vb r1791) :: nN 6 (.call (vb r1795) :: .n :: .b false :: []))), .br true, .reg (.n :: [])]) (by kernel_rfl) (by intro e; cases e) (an (an (an (ti (ti (ti (ti trivial)))) (an (decide_eq_true h1788) trivial)) (an (ti (ti (an h1789 (an e1790 (ti (ti trivial)))))) (an e1798 (an (not_t (bool_f h1799)) (an (ti trivial) trivial))))) (ti trivial))
   ·have e1812 := (ti (ti (ti (ti (an e1793 (ti (ti (an (not_t (bool_f h1794)) (an (not_t (bool_f h1794)) (an (not_t (bool_f h1794)) (an (not_t (bool_f h1794)) (an (not_t (bool_f h1794)) (an (not_t (bool_f h1794)) (an (not_t (bool_f h1794)) trivial))))))))))))))
    injection h with h; subst h
    exact round_stop (c := ⟨[(4, none)], [], []⟩) (s1 := (nspeculumref05_CheckReadings_l0_0_e0 a0 a1 6)) pm pn (ans := [.reg (nN 4 []), .br true, .reg (nN 3 (.v (VV.ag (c_SHeightReading (a1.getD x5.toNat default))) :: .n :: .n :: [])), .reg (nN 4 (.call (vb r1791) :: .n :: .n :: nS 6 (.b true :: []))), .br true, .reg (.n :: [])]) (by kernel_rfl) (by intro e; cases e) (an (an (an (ti (ti (ti (ti trivial)))) (an (decide_eq_true h1788) trivial)) (an (ti (ti (an h1789 (an e1790 (ti (ti trivial)))))) (an e1812 (an rt (an (ti trivial) trivial))))) (ti trivial))
  ·injection h with h; subst h
   exact round_stop (c := ⟨[], [], []⟩) (s1 := (nspeculumref05_CheckReadings_l0_0_e1 a0 a1 ())) pm pn (ans := [.reg (nN 4 []), .br false]) (by kernel_rfl) (by intro e; cases e) (an (an (ti (ti (ti (ti trivial)))) (an (decide_eq_false h1788) trivial)) (ti trivial))
def nspeculumref05_CheckReadings (k : Nat) (a0 : Int) (a1 : (List SHeightReading)) : Option Int :=
  (nspeculumbase_Within k a0 1 40).bind fun r1733 => (if r1733 = true then (if 100 < (a1.length : Int) then (some 8) else ((nspeculumref05_CheckReadings_l0_0 k a0 a1 k 0).bind fun r1814 => (match r1814 with | .inl r1815 => (some r1815) | .inr r1816 => (some 0)))) else (some 2))
theorem nspeculumref05_CheckReadings_ok (k : Nat) (a0 : Int) (a1 : (List SHeightReading)) (r : Int) (h : nspeculumref05_CheckReadings k a0 a1 = some r) : VC Go.Proofs.Try.prog 22 [vi a0, VV.tr (List.flatMap c_SHeightReading a1) a1.length] (vi r) := by
 unfold nspeculumref05_CheckReadings at h
 obtain ⟨r1733, h1734, h⟩ := bs h
 have e1735 := (nspeculumbase_Within_ok k a0 1 40 _ h1734)
 rcases ifs h with ⟨h1736, h⟩ | ⟨h1736, h⟩
 ·rcases ifs h with ⟨h1737, h⟩ | ⟨h1737, h⟩
  ·injection h with h; subst h
   exact fun_ok pm pn Go.Proofs.Try.func22 (r0 := vi 8) (ans := [.reg (.n :: []), .reg (.n :: .call (vb r1733) :: .n :: []), .br false, .reg (nN 3 []), .br true, .reg (.n :: [])]) (fr := true) (by kernel_rfl) (an (an (ti trivial) (an (an (ti (an e1735 (ti trivial))) (an (not_f h1736) trivial)) (an (ti (ti (ti trivial))) (an (decide_eq_true h1737) (an (ti trivial) trivial))))) (ti trivial)) (Wv.refl _)
  ·obtain ⟨r1814, h1813, h⟩ := bs h
   have hph1813 := nspeculumref05_CheckReadings_l0_0_ok k a0 a1 _ _ _ h1813
   cases r1814 with
   | inl r1815 =>
    dsimp only at h
    have e1817 := (an (ti trivial) (VRun.loop hph1813))
    injection h with h; subst h
    exact fun_ok pm pn Go.Proofs.Try.func22 (r0 := vi r1815) (ans := [.reg (.n :: []), .reg (.n :: .call (vb r1733) :: .n :: []), .br false, .reg (nN 3 []), .br false, .reg (.n :: []), .sub ⟨[(0, none), (1, none), (5, none)], [], []⟩ .ret (nspeculumref05_CheckReadings_l0_0_e0 a0 a1 r1815)]) (fr := true) (by kernel_rfl) (an (an (ti trivial) (an (an (ti (an e1735 (ti trivial))) (an (not_f h1736) trivial)) (an (an (ti (ti (ti trivial))) (an (decide_eq_false h1737) trivial)) (an (ti trivial) e1817)))) (ti trivial)) (Wv.refl _)
   | inr r1816 =>
    dsimp only at h
    have e1818 := (an (ti trivial) (VRun.loop hph1813))
    injection h with h; subst h
    exact fun_ok pm pn Go.Proofs.Try.func22 (r0 := vi 0) (ans := [.reg (.n :: []), .reg (.n :: .call (vb r1733) :: .n :: []), .br false, .reg (nN 3 []), .br false, .reg (.n :: []), .sub ⟨[(0, none), (1, none), (5, none)], [], []⟩ (.exit 0) (nspeculumref05_CheckReadings_l0_0_e1 a0 a1 r1816), .reg (.n :: [])]) (fr := true) (by kernel_rfl) (an (an (ti trivial) (an (an (ti (an e1735 (ti trivial))) (an (not_f h1736) trivial)) (an (an (ti (ti (ti trivial))) (an (decide_eq_false h1737) trivial)) (an (an (ti trivial) e1818) (an (ti trivial) trivial))))) (ti trivial)) (Wv.refl _)
 ·injection h with h; subst h
  exact fun_ok pm pn Go.Proofs.Try.func22 (r0 := vi 2) (ans := [.reg (.n :: []), .reg (.n :: .call (vb r1733) :: .n :: []), .br true, .reg (.n :: [])]) (fr := true) (by kernel_rfl) (an (an (ti trivial) (an (ti (an e1735 (ti trivial))) (an (not_t (bool_f h1736)) (an (ti trivial) trivial)))) (ti trivial)) (Wv.refl _)
def arW1_6 (z0 : (List Int)) (z1 : Int) (z2 : Bool) : List Ans := (nN 3 (.v (vi (z0.getD z1.toNat 0)) :: nN 5 (.v (vi (z0.getD z1.toNat 0)) :: nN 5 (.call (vb z2) :: .n :: .b false :: []))))
def nspeculumref05_lead (k : Nat) (a0 : (List SHeightReading)) (a1 : Int) : Option (Int × Int × Int) :=
  if a1 < 0 then (if 0 ≤ w64 ((w64 (0 - a1)) - 1) ∧ w64 ((w64 (0 - a1)) - 1) < (a0.length : Int) then (some ((a0.getD (w64 ((w64 (0 - a1)) - 1)).toNat default).To, (a0.getD (w64 ((w64 (0 - a1)) - 1)).toNat default).From, w64 (0 - (((a0.getD (w64 ((w64 (0 - a1)) - 1)).toNat default).Diff).Lo)))) else none) else (if 0 ≤ w64 (a1 - 1) ∧ w64 (a1 - 1) < (a0.length : Int) then (some ((a0.getD (w64 (a1 - 1)).toNat default).From, (a0.getD (w64 (a1 - 1)).toNat default).To, ((a0.getD (w64 (a1 - 1)).toNat default).Diff).Hi)) else none)
theorem nspeculumref05_lead_ok (k : Nat) (a0 : (List SHeightReading)) (a1 : Int) (r : (Int × Int × Int)) (h : nspeculumref05_lead k a0 a1 = some r) : VC Go.Proofs.Try.prog 56 [VV.tr (List.flatMap c_SHeightReading a0) a0.length, vi a1] (VV.tu [vi r.1, vi r.2.1, vi r.2.2]) := by
 unfold nspeculumref05_lead at h
 rcases ifs h with ⟨h1874, h⟩ | ⟨h1874, h⟩
 ·obtain ⟨h1875, h⟩ := ifn h
  have e1876 := (show loadL Go.Proofs.Try.prog 65 ((w64 ((w64 (0 - a1)) - 1)).toNat * 4) (List.flatMap c_SHeightReading a0) = some (VV.ag (c_SHeightReading (a0.getD (w64 ((w64 (0 - a1)) - 1)).toNat default))) from ld_whole ag65 c_SHeightReading 4 sz65 len_c_SHeightReading a0 default h1875 (by omega))
  have e1877 := (ti (ti (ti (ti (an h1875 (an e1876 (ti (ti trivial))))))))
  have e1878 := (ti (ti (ti (ti (ti (ti (ti (ti (ti (ti (ti trivial)))))))))))
  injection h with h; subst h
  exact fun_ok pm pn Go.Proofs.Try.func56 (r0 := VV.tu [vi ((a0.getD (w64 ((w64 (0 - a1)) - 1)).toNat default).To), vi ((a0.getD (w64 ((w64 (0 - a1)) - 1)).toNat default).From), vi (w64 (0 - (((a0.getD (w64 ((w64 (0 - a1)) - 1)).toNat default).Diff).Lo)))]) (ans := [.reg (nN 3 []), .reg (.n :: .n :: []), .br true, .reg (arW1_0 a0 a1), .reg (nN 11 [])]) (fr := true) (by kernel_rfl) (an (an (ti (ti (ti trivial))) (an (ti (ti trivial)) (an (decide_eq_true h1874) (an e1877 (an e1878 trivial))))) (ti (ti (ti trivial)))) (Wv.refl _)
 ·obtain ⟨h1879, h⟩ := ifn h
  have e1880 := (show loadL Go.Proofs.Try.prog 65 ((w64 (a1 - 1)).toNat * 4) (List.flatMap c_SHeightReading a0) = some (VV.ag (c_SHeightReading (a0.getD (w64 (a1 - 1)).toNat default))) from ld_whole ag65 c_SHeightReading 4 sz65 len_c_SHeightReading a0 default h1879 (by omega))
  have e1881 := (ti (ti (ti (an h1879 (an e1880 (ti (ti trivial)))))))
  have e1882 := (ti (ti (ti (ti (ti (ti (ti (ti (ti (ti trivial))))))))))
  injection h with h; subst h
  exact fun_ok pm pn Go.Proofs.Try.func56 (r0 := VV.tu [vi ((a0.getD (w64 (a1 - 1)).toNat default).From), vi ((a0.getD (w64 (a1 - 1)).toNat default).To), vi (((a0.getD (w64 (a1 - 1)).toNat default).Diff).Hi)]) (ans := [.reg (nN 3 []), .reg (.n :: .n :: []), .br false, .reg (arW1_1 a0 a1), .reg (nN 10 [])]) (fr := true) (by kernel_rfl) (an (an (ti (ti (ti trivial))) (an (an (ti (ti trivial)) (an (decide_eq_false h1874) trivial)) (an e1881 (an e1882 trivial)))) (ti (ti (ti trivial)))) (Wv.refl _)
def arW1_7 (z0 : (List Int)) (z1 : Int) (z2 : (Int × Int × Int)) : List Ans := (nN 4 (.v (vi (z0.getD z1.toNat 0)) :: .call (VV.tu [vi z2.1, vi z2.2.1, vi z2.2.2]) :: nN 7 []))
def nspeculumref05_CheckClash_l0_0_h (a0 : (List SHeightReading)) (a1 : (List Int)) (x6 : Int) : VS := ⟨mkA [(0, VV.tr (List.flatMap c_SHeightReading a0) a0.length), (1, VV.tr (List.map vi a1) a1.length), (6, vi x6)], [], .nil⟩
def nspeculumref05_CheckClash_l0_0_e0 (a0 : (List SHeightReading)) (a1 : (List Int)) (r : Unit) : VS := ⟨mkA [(4, vi 0), (5, vi 6)], [], .nil⟩
def nspeculumref05_CheckClash_l0_0_e1 (a0 : (List SHeightReading)) (a1 : (List Int)) (r : Unit) : VS := ⟨mkA [(0, VV.tr (List.flatMap c_SHeightReading a0) a0.length), (1, VV.tr (List.map vi a1) a1.length)], [], .nil⟩
def nspeculumref05_CheckClash_l0_0 (k : Nat) (a0 : (List SHeightReading)) (a1 : (List Int)) : Nat → Int → Option (Sum Unit Unit)
  | 0, _ => none
  | fuel + 1, x6 => if x6 < (a1.length : Int) then (if 0 ≤ x6 ∧ x6 < (a1.length : Int) then (if (a1.getD x6.toNat 0) = 0 then (some (.inl ())) else ((nspeculumbase_Within k (a1.getD x6.toNat 0) (w64 (0 - (a0.length : Int))) (a0.length : Int)).bind fun r1945 => (if r1945 = true then (nspeculumref05_CheckClash_l0_0 k a0 a1 fuel (w64 (x6 + 1))) else (some (.inl ()))))) else none) else (some (.inr ()))
theorem nspeculumref05_CheckClash_l0_0_ok (k : Nat) (a0 : (List SHeightReading)) (a1 : (List Int)) : ∀ (fuel : Nat) (x6 : Int) (r : Sum Unit Unit), nspeculumref05_CheckClash_l0_0 k a0 a1 fuel x6 = some r → (match r with | .inl r => VLoop none Go.Proofs.Try.prog (szF Go.Proofs.Try.f19) (bodyOf Go.Proofs.Try.f19 0) (nspeculumref05_CheckClash_l0_0_h a0 a1 x6) .ret (nspeculumref05_CheckClash_l0_0_e0 a0 a1 r) | .inr r => VLoop none Go.Proofs.Try.prog (szF Go.Proofs.Try.f19) (bodyOf Go.Proofs.Try.f19 0) (nspeculumref05_CheckClash_l0_0_h a0 a1 x6) (.exit 0) (nspeculumref05_CheckClash_l0_0_e1 a0 a1 r)) := by
 intro fuel
 induction fuel with
 | zero => intro x6 r h; rw [nspeculumref05_CheckClash_l0_0.eq_1] at h; cases h
 | succ fuel ih =>
  intro x6 r h
  rw [nspeculumref05_CheckClash_l0_0.eq_2] at h
  rcases ifs h with ⟨h1939, h⟩ | ⟨h1939, h⟩
  ·obtain ⟨h1940, h⟩ := ifn h
   have e1941 := (show loadL Go.Proofs.Try.prog 3 (x6.toNat * 1) (List.map vi a1) = some (vi (a1.getD x6.toNat 0)) from ld_map ag3 vi a1 0 h1940 (by omega))
   rcases ifs h with ⟨h1942, h⟩ | ⟨h1942, h⟩
   ·have e1943 := (ti (ti (an h1940 (an e1941 (ti (ti (an (decide_eq_true h1942) (an (decide_eq_true h1942) (an (decide_eq_true h1942) (an (decide_eq_true h1942) (an (decide_eq_true h1942) (an (decide_eq_true h1942) (an (decide_eq_true h1942) (an (decide_eq_true h1942) (an (decide_eq_true h1942) (an (decide_eq_true h1942) (an (decide_eq_true h1942) (an (decide_eq_true h1942) trivial))))))))))))))))))
    injection h with h; subst h
    exact round_stop (c := ⟨[(4, none), (5, none)], [], []⟩) (s1 := (nspeculumref05_CheckClash_l0_0_e0 a0 a1 ())) pm pn (ans := [.reg (nN 4 []), .br true, .reg (nN 3 (.v (vi (a1.getD x6.toNat 0)) :: .n :: .n :: nS 11 (.b true :: []))), .br true, .reg (.n :: .n :: [])]) (by kernel_rfl) (by intro e; cases e) (an (an (an (ti (ti (ti (ti trivial)))) (an (decide_eq_true h1939) trivial)) (an e1943 (an rt (an (ti (ti trivial)) trivial)))) (ti trivial))
   ·have e1944 := (an (decide_eq_false h1942) (show loadL Go.Proofs.Try.prog 3 (x6.toNat * 1) (List.map vi a1) = some (vi (a1.getD x6.toNat 0)) from ld_map ag3 vi a1 0 h1940 (by omega)))
    obtain ⟨r1945, h1946, h⟩ := bs h
    have e1947 := (an (decide_eq_false h1942) (nspeculumbase_Within_ok k (a1.getD x6.toNat 0) (w64 (0 - (a0.length : Int))) (a0.length : Int) _ h1946))
    have e1948 := (ti (ti (an h1940 (an e1941 (ti (ti (an (an (decide_eq_false h1942) trivial) (an (an (decide_eq_false h1942) trivial) (an (an (decide_eq_false h1942) h1940) (an e1944 (an (an (decide_eq_false h1942) trivial) (an (an (decide_eq_false h1942) trivial) (an (an (decide_eq_false h1942) trivial) (an (an (decide_eq_false h1942) trivial) (an (an (decide_eq_false h1942) trivial) (an e1947 (an (an (decide_eq_false h1942) trivial) (an (decide_eq_false h1942) trivial))))))))))))))))))
    rcases ifs h with ⟨h1949, h⟩ | ⟨h1949, h⟩
    ·have h2 := ih _ _ h
     obtain ⟨q, hv, hq⟩ := pkR (rd := none) (P := Go.Proofs.Try.prog) (fn := Go.Proofs.Try.f19) (k := 0) (s := (nspeculumref05_CheckClash_l0_0_h a0 a1 x6)) (ans := [.reg (nN 4 []), .br true, .reg (arW1_6 a1 x6 r1945), .br false, .reg (nN 3 [])]) (c := ⟨[(0, none), (1, none), (6, none)], [], []⟩) (e := .normal) (s1 := (nspeculumref05_CheckClash_l0_0_h a0 a1 (w64 (x6 + 1)))) (an (an (an (ti (ti (ti (ti trivial)))) (an (decide_eq_true h1939) trivial)) (an (an e1948 (an (not_f h1949) trivial)) (ti (ti (ti trivial))))) (ti trivial)) (by kernel_rfl)
     cases r with
     | inl r => exact round_next pm pn hv hq h2
     | inr r =>
      exact round_next pm pn hv hq h2
    ·injection h with h; subst h
     exact round_stop (c := ⟨[(4, none), (5, none)], [], []⟩) (s1 := (nspeculumref05_CheckClash_l0_0_e0 a0 a1 ())) pm pn (ans := [.reg (nN 4 []), .br true, .reg (arW1_6 a1 x6 r1945), .br true, .reg (.n :: .n :: [])]) (by kernel_rfl) (by intro e; cases e) (an (an (an (ti (ti (ti (ti trivial)))) (an (decide_eq_true h1939) trivial)) (an e1948 (an (not_t (bool_f h1949)) (an (ti (ti trivial)) trivial)))) (ti trivial))
  ·injection h with h; subst h
   exact round_stop (c := ⟨[(0, none), (1, none)], [], []⟩) (s1 := (nspeculumref05_CheckClash_l0_0_e1 a0 a1 ())) pm pn (ans := [.reg (nN 4 []), .br false]) (by kernel_rfl) (by intro e; cases e) (an (an (ti (ti (ti (ti trivial)))) (an (decide_eq_false h1939) trivial)) (ti trivial))
def nspeculumref05_CheckClash_l1_0_h (a0 : (List SHeightReading)) (a1 : (List Int)) (x10 : Int) (x7 : Int) (x8 : Int) (x9 : Int) : VS := ⟨mkA [(0, VV.tr (List.flatMap c_SHeightReading a0) a0.length), (1, VV.tr (List.map vi a1) a1.length), (7, vi x7), (8, vi x8), (9, vi x9), (10, vi x10)], [], .nil⟩
def nspeculumref05_CheckClash_l1_0_e0 (a0 : (List SHeightReading)) (a1 : (List Int)) (r : Unit) : VS := ⟨mkA [(4, vi 0), (5, vi 25)], [], .nil⟩
def nspeculumref05_CheckClash_l1_0_e1 (a0 : (List SHeightReading)) (a1 : (List Int)) (r : Int × Int × Int) : VS := ⟨mkA [(7, vi r.1), (8, vi r.2.1), (9, vi r.2.2)], [], .nil⟩
def nspeculumref05_CheckClash_l1_0 (k : Nat) (a0 : (List SHeightReading)) (a1 : (List Int)) : Nat → Int → Int → Int → Int → Option (Sum Unit (Int × Int × Int))
  | 0, _, _, _, _ => none
  | fuel + 1, x10, x7, x8, x9 => if x10 < (a1.length : Int) then (if 0 ≤ x10 ∧ x10 < (a1.length : Int) then ((nspeculumref05_lead k a0 (a1.getD x10.toNat 0)).bind fun r1975 => (if x10 = 0 then (nspeculumref05_CheckClash_l1_0 k a0 a1 fuel (w64 (x10 + 1)) (w64 (x7 + r1975.2.2)) r1975.1 r1975.2.1) else (if r1975.1 = x9 then (nspeculumref05_CheckClash_l1_0 k a0 a1 fuel (w64 (x10 + 1)) (w64 (x7 + r1975.2.2)) x8 r1975.2.1) else (some (.inl ()))))) else none) else (some (.inr (x7, x8, x9)))
theorem nspeculumref05_CheckClash_l1_0_ok (k : Nat) (a0 : (List SHeightReading)) (a1 : (List Int)) : ∀ (fuel : Nat) (x10 : Int) (x7 : Int) (x8 : Int) (x9 : Int) (r : Sum Unit (Int × Int × Int)), nspeculumref05_CheckClash_l1_0 k a0 a1 fuel x10 x7 x8 x9 = some r → (match r with | .inl r => VLoop none Go.Proofs.Try.prog (szF Go.Proofs.Try.f19) (bodyOf Go.Proofs.Try.f19 1) (nspeculumref05_CheckClash_l1_0_h a0 a1 x10 x7 x8 x9) .ret (nspeculumref05_CheckClash_l1_0_e0 a0 a1 r) | .inr r => VLoop none Go.Proofs.Try.prog (szF Go.Proofs.Try.f19) (bodyOf Go.Proofs.Try.f19 1) (nspeculumref05_CheckClash_l1_0_h a0 a1 x10 x7 x8 x9) (.exit 2) (nspeculumref05_CheckClash_l1_0_e1 a0 a1 r)) := by
 intro fuel
 induction fuel with
 | zero => intro x10 x7 x8 x9 r h; rw [nspeculumref05_CheckClash_l1_0.eq_1] at h; cases h
 | succ fuel ih =>
  intro x10 x7 x8 x9 r h
  rw [nspeculumref05_CheckClash_l1_0.eq_2] at h
  rcases ifs h with ⟨h1972, h⟩ | ⟨h1972, h⟩
  ·obtain ⟨h1973, h⟩ := ifn h
   have e1974 := (show loadL Go.Proofs.Try.prog 3 (x10.toNat * 1) (List.map vi a1) = some (vi (a1.getD x10.toNat 0)) from ld_map ag3 vi a1 0 h1973 (by omega))
   obtain ⟨r1975, h1976, h⟩ := bs h
   have e1977 := (nspeculumref05_lead_ok k a0 (a1.getD x10.toNat 0) _ h1976)
   have e1978 := (ti (ti (ti (an h1973 (an e1974 (an e1977 (ti (ti (ti (ti (ti (ti (ti trivial)))))))))))))
   rcases ifs h with ⟨h1979, h⟩ | ⟨h1979, h⟩
   ·have h2 := ih _ _ _ _ _ h
    obtain ⟨q, hv, hq⟩ := pkR (rd := none) (P := Go.Proofs.Try.prog) (fn := Go.Proofs.Try.f19) (k := 1) (s := (nspeculumref05_CheckClash_l1_0_h a0 a1 x10 x7 x8 x9)) (ans := [.reg (nN 4 []), .br true, .reg (arW1_7 a1 x10 r1975), .reg (.n :: .n :: []), .br true, .reg (.n :: .n :: []), .reg (nN 6 []), .reg (nN 3 [])]) (c := ⟨[(0, none), (1, none), (7, none), (8, none), (9, none), (10, none)], [], []⟩) (e := .normal) (s1 := (nspeculumref05_CheckClash_l1_0_h a0 a1 (w64 (x10 + 1)) (w64 (x7 + r1975.2.2)) r1975.1 r1975.2.1)) (an (an (an (ti (ti (ti (ti trivial)))) (an (decide_eq_true h1972) trivial)) (an (an e1978 (an (an (ti (ti trivial)) (an (decide_eq_true h1979) (ti (ti trivial)))) (ti (ti (ti (ti (ti (ti trivial)))))))) (ti (ti (ti trivial))))) (ti trivial)) (by kernel_rfl)
    cases r with
    | inl r => exact round_next pm pn hv hq h2
    | inr r =>
     exact round_next pm pn hv hq h2
   ·rcases ifs h with ⟨h1980, h⟩ | ⟨h1980, h⟩
    ·have h2 := ih _ _ _ _ _ h
     obtain ⟨q, hv, hq⟩ := pkR (rd := none) (P := Go.Proofs.Try.prog) (fn := Go.Proofs.Try.f19) (k := 1) (s := (nspeculumref05_CheckClash_l1_0_h a0 a1 x10 x7 x8 x9)) (ans := [.reg (nN 4 []), .br true, .reg (arW1_7 a1 x10 r1975), .reg (.n :: .n :: []), .br false, .reg (nN 3 []), .br false, .reg (nN 6 []), .reg (nN 3 [])]) (c := ⟨[(0, none), (1, none), (7, none), (8, none), (9, none), (10, none)], [], []⟩) (e := .normal) (s1 := (nspeculumref05_CheckClash_l1_0_h a0 a1 (w64 (x10 + 1)) (w64 (x7 + r1975.2.2)) x8 r1975.2.1)) (an (an (an (ti (ti (ti (ti trivial)))) (an (decide_eq_true h1972) trivial)) (an (an e1978 (an (an (ti (ti trivial)) (an (decide_eq_false h1979) (an (ti (ti (ti trivial))) (an (not_f (decide_eq_true h1980)) trivial)))) (ti (ti (ti (ti (ti (ti trivial)))))))) (ti (ti (ti trivial))))) (ti trivial)) (by kernel_rfl)
     cases r with
     | inl r => exact round_next pm pn hv hq h2
     | inr r =>
      exact round_next pm pn hv hq h2
    ·injection h with h; subst h
     exact round_stop (c := ⟨[(4, none), (5, none)], [], []⟩) (s1 := (nspeculumref05_CheckClash_l1_0_e0 a0 a1 ())) pm pn (ans := [.reg (nN 4 []), .br true, .reg (arW1_7 a1 x10 r1975), .reg (.n :: .n :: []), .br false, .reg (nN 3 []), .br true, .reg (.n :: .n :: [])]) (by kernel_rfl) (by intro e; cases e) (an (an (an (ti (ti (ti (ti trivial)))) (an (decide_eq_true h1972) trivial)) (an e1978 (an (ti (ti trivial)) (an (decide_eq_false h1979) (an (ti (ti (ti trivial))) (an (not_t (decide_eq_false h1980)) (an (ti (ti trivial)) trivial))))))) (ti trivial))
  ·injection h with h; subst h
   exact round_stop (c := ⟨[(7, none), (8, none), (9, none)], [], []⟩) (s1 := (nspeculumref05_CheckClash_l1_0_e1 a0 a1 (x7, x8, x9))) pm pn (ans := [.reg (nN 4 []), .br false]) (by kernel_rfl) (by intro e; cases e) (an (an (ti (ti (ti (ti trivial)))) (an (decide_eq_false h1972) trivial)) (ti trivial))
def nspeculumref05_CheckClash (k : Nat) (a0 : (List SHeightReading)) (a1 : (List Int)) : Option (Int × Int) :=
  (nspeculumbase_Within k (a1.length : Int) 1 40).bind fun r1913 => (if r1913 = true then ((nspeculumref05_CheckClash_l0_0 k a0 a1 k 0).bind fun r1951 => (match r1951 with | .inl r1952 => (some (0, 6)) | .inr r1953 => ((nspeculumref05_CheckClash_l1_0 k a0 a1 k 0 0 0 0).bind fun r1982 => (match r1982 with | .inl r1983 => (some (0, 25)) | .inr r1984 => (if r1984.2.2 = r1984.2.1 then (if 0 ≤ r1984.1 then (some (0, 22)) else (some (r1984.1, 0))) else (some (0, 25))))))) else (some (0, 10)))
theorem nspeculumref05_CheckClash_ok (k : Nat) (a0 : (List SHeightReading)) (a1 : (List Int)) (r : (Int × Int)) (h : nspeculumref05_CheckClash k a0 a1 = some r) : VC Go.Proofs.Try.prog 19 [VV.tr (List.flatMap c_SHeightReading a0) a0.length, VV.tr (List.map vi a1) a1.length] (VV.tu [vi r.1, vi r.2]) := by
 unfold nspeculumref05_CheckClash at h
 obtain ⟨r1913, h1914, h⟩ := bs h
 have e1915 := (nspeculumbase_Within_ok k (a1.length : Int) 1 40 _ h1914)
 rcases ifs h with ⟨h1916, h⟩ | ⟨h1916, h⟩
 ·obtain ⟨r1951, h1950, h⟩ := bs h
  have hph1950 := nspeculumref05_CheckClash_l0_0_ok k a0 a1 _ _ _ h1950
  cases r1951 with
  | inl r1952 =>
   dsimp only at h
   have e1954 := (an (ti trivial) (VRun.loop hph1950))
   injection h with h; subst h
   exact fun_ok pm pn Go.Proofs.Try.func19 (r0 := VV.tu [vi 0, vi 6]) (ans := [.reg (.n :: .n :: []), .reg (.n :: .n :: .call (vb r1913) :: .n :: []), .br false, .reg (.n :: []), .sub ⟨[(0, none), (1, none), (6, none)], [], []⟩ .ret (nspeculumref05_CheckClash_l0_0_e0 a0 a1 r1952)]) (fr := true) (by kernel_rfl) (an (an (ti (ti trivial)) (an (an (ti (ti (an e1915 (ti trivial)))) (an (not_f h1916) trivial)) (an (ti trivial) e1954))) (ti (ti trivial))) (Wv.refl _)
  | inr r1953 =>
   dsimp only at h
   have e1955 := (an (ti trivial) (VRun.loop hph1950))
   obtain ⟨r1982, h1981, h⟩ := bs h
   have hph1981 := nspeculumref05_CheckClash_l1_0_ok k a0 a1 _ _ _ _ _ _ h1981
   cases r1982 with
   | inl r1983 =>
    dsimp only at h
    have e1985 := (an (ti trivial) (VRun.loop hph1981))
    injection h with h; subst h
    exact fun_ok pm pn Go.Proofs.Try.func19 (r0 := VV.tu [vi 0, vi 25]) (ans := [.reg (.n :: .n :: []), .reg (.n :: .n :: .call (vb r1913) :: .n :: []), .br false, .reg (.n :: []), .sub ⟨[(0, none), (1, none), (6, none)], [], []⟩ (.exit 0) (nspeculumref05_CheckClash_l0_0_e1 a0 a1 r1953), .reg (nN 3 []), .reg (.n :: []), .sub ⟨[(0, none), (1, none), (7, none), (8, none), (9, none), (10, none)], [], []⟩ .ret (nspeculumref05_CheckClash_l1_0_e0 a0 a1 r1983)]) (fr := true) (by kernel_rfl) (an (an (ti (ti trivial)) (an (an (ti (ti (an e1915 (ti trivial)))) (an (not_f h1916) trivial)) (an (an (ti trivial) e1955) (an (ti (ti (ti trivial))) (an (ti trivial) e1985))))) (ti (ti trivial))) (Wv.refl _)
   | inr r1984 =>
    dsimp only at h
    have e1986 := (an (ti trivial) (VRun.loop hph1981))
    rcases ifs h with ⟨h1987, h⟩ | ⟨h1987, h⟩
    ·rcases ifs h with ⟨h1988, h⟩ | ⟨h1988, h⟩
     ·injection h with h; subst h
      exact fun_ok pm pn Go.Proofs.Try.func19 (r0 := VV.tu [vi 0, vi 22]) (ans := [.reg (.n :: .n :: []), .reg (.n :: .n :: .call (vb r1913) :: .n :: []), .br false, .reg (.n :: []), .sub ⟨[(0, none), (1, none), (6, none)], [], []⟩ (.exit 0) (nspeculumref05_CheckClash_l0_0_e1 a0 a1 r1953), .reg (nN 3 []), .reg (.n :: []), .sub ⟨[(0, none), (1, none), (7, none), (8, none), (9, none), (10, none)], [], []⟩ (.exit 2) (nspeculumref05_CheckClash_l1_0_e1 a0 a1 r1984), .reg (nN 3 []), .br false, .reg (.n :: .n :: []), .br true, .reg (.n :: .n :: [])]) (fr := true) (by kernel_rfl) (an (an (ti (ti trivial)) (an (an (ti (ti (an e1915 (ti trivial)))) (an (not_f h1916) trivial)) (an (an (ti trivial) e1955) (an (ti (ti (ti trivial))) (an (an (ti trivial) e1986) (an (an (ti (ti (ti trivial))) (an (not_f (decide_eq_true h1987)) trivial)) (an (ti (ti trivial)) (an (decide_eq_true h1988) (an (ti (ti trivial)) trivial))))))))) (ti (ti trivial))) (Wv.refl _)
     ·injection h with h; subst h
      exact fun_ok pm pn Go.Proofs.Try.func19 (r0 := VV.tu [vi r1984.1, vi 0]) (ans := [.reg (.n :: .n :: []), .reg (.n :: .n :: .call (vb r1913) :: .n :: []), .br false, .reg (.n :: []), .sub ⟨[(0, none), (1, none), (6, none)], [], []⟩ (.exit 0) (nspeculumref05_CheckClash_l0_0_e1 a0 a1 r1953), .reg (nN 3 []), .reg (.n :: []), .sub ⟨[(0, none), (1, none), (7, none), (8, none), (9, none), (10, none)], [], []⟩ (.exit 2) (nspeculumref05_CheckClash_l1_0_e1 a0 a1 r1984), .reg (nN 3 []), .br false, .reg (.n :: .n :: []), .br false, .reg (nN 3 [])]) (fr := true) (by kernel_rfl) (an (an (ti (ti trivial)) (an (an (ti (ti (an e1915 (ti trivial)))) (an (not_f h1916) trivial)) (an (an (ti trivial) e1955) (an (ti (ti (ti trivial))) (an (an (ti trivial) e1986) (an (an (ti (ti (ti trivial))) (an (not_f (decide_eq_true h1987)) trivial)) (an (an (ti (ti trivial)) (an (decide_eq_false h1988) trivial)) (an (ti (ti (ti trivial))) trivial)))))))) (ti (ti trivial))) (Wv.refl _)
    ·injection h with h; subst h
     exact fun_ok pm pn Go.Proofs.Try.func19 (r0 := VV.tu [vi 0, vi 25]) (ans := [.reg (.n :: .n :: []), .reg (.n :: .n :: .call (vb r1913) :: .n :: []), .br false, .reg (.n :: []), .sub ⟨[(0, none), (1, none), (6, none)], [], []⟩ (.exit 0) (nspeculumref05_CheckClash_l0_0_e1 a0 a1 r1953), .reg (nN 3 []), .reg (.n :: []), .sub ⟨[(0, none), (1, none), (7, none), (8, none), (9, none), (10, none)], [], []⟩ (.exit 2) (nspeculumref05_CheckClash_l1_0_e1 a0 a1 r1984), .reg (nN 3 []), .br true, .reg (.n :: .n :: [])]) (fr := true) (by kernel_rfl) (an (an (ti (ti trivial)) (an (an (ti (ti (an e1915 (ti trivial)))) (an (not_f h1916) trivial)) (an (an (ti trivial) e1955) (an (ti (ti (ti trivial))) (an (an (ti trivial) e1986) (an (ti (ti (ti trivial))) (an (not_t (decide_eq_false h1987)) (an (ti (ti trivial)) trivial)))))))) (ti (ti trivial))) (Wv.refl _)
 ·injection h with h; subst h
  exact fun_ok pm pn Go.Proofs.Try.func19 (r0 := VV.tu [vi 0, vi 10]) (ans := [.reg (.n :: .n :: []), .reg (.n :: .n :: .call (vb r1913) :: .n :: []), .br true, .reg (.n :: .n :: [])]) (fr := true) (by kernel_rfl) (an (an (ti (ti trivial)) (an (ti (ti (an e1915 (ti trivial)))) (an (not_t (bool_f h1916)) (an (ti (ti trivial)) trivial)))) (ti (ti trivial))) (Wv.refl _)
end Go.Proofs.Ytnfiipmcggjahaa.Vg

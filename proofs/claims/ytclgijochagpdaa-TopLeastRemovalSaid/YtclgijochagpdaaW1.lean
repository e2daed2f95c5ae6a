import Derived.Test.YtclgijochagpdaaVp
namespace Go.Proofs.Ytclgijochagpdaa.Vg
set_option maxRecDepth 100000
set_option maxHeartbeats 4000000
set_option linter.unusedVariables false
set_option linter.unusedSimpArgs false
open Go Go.Proofs.Ytclgijochagpdaa.Ev Go.Proofs.Ytclgijochagpdaa.Vv
open List (flatMap length_cons length_nil length_map length_append map_cons map_nil length_replicate)
structure SRange where
 Lo : Int
 Hi : Int
 deriving Inhabited
def c_SRange (x : SRange) : List VV := [vi x.Lo, vi x.Hi]
theorem len_c_SRange (x : SRange) : (c_SRange x).length = 2 := rfl
theorem new0_c_SRange (xs : List SRange) : (xs.flatMap c_SRange).all new0 = true := all_flat (fun _ => rfl) xs
theorem unfr_c_SRange (xs : List SRange) : (xs.flatMap c_SRange).map unfr = xs.flatMap c_SRange := unfr_flat (fun _ => rfl) xs
structure SHeightReading where
 From : Int
 To : Int
 Diff : SRange
 deriving Inhabited
def c_SHeightReading (x : SHeightReading) : List VV := [vi x.From, vi x.To, vi x.Diff.Lo, vi x.Diff.Hi]
theorem len_c_SHeightReading (x : SHeightReading) : (c_SHeightReading x).length = 4 := rfl
theorem still_c_SHeightReading (xs : List SHeightReading) : (xs.flatMap c_SHeightReading).all VV.still = true := all_flat (fun _ => rfl) xs
theorem new0_c_SHeightReading (xs : List SHeightReading) : (xs.flatMap c_SHeightReading).all new0 = true := all_flat (fun _ => rfl) xs
theorem unfr_c_SHeightReading (xs : List SHeightReading) : (xs.flatMap c_SHeightReading).map unfr = xs.flatMap c_SHeightReading := unfr_flat (fun _ => rfl) xs
structure Sleg where
 signed : Int
 from_ : Int
 to : Int
 length : Int
 deriving Inhabited
def c_Sleg (x : Sleg) : List VV := [vi x.signed, vi x.from_, vi x.to, vi x.length]
theorem len_c_Sleg (x : Sleg) : (c_Sleg x).length = 4 := rfl
theorem still_c_Sleg (xs : List Sleg) : (xs.flatMap c_Sleg).all VV.still = true := all_flat (fun _ => rfl) xs
theorem new0_c_Sleg (xs : List Sleg) : (xs.flatMap c_Sleg).all new0 = true := all_flat (fun _ => rfl) xs
theorem unfr_c_Sleg (xs : List Sleg) : (xs.flatMap c_Sleg).map unfr = xs.flatMap c_Sleg := unfr_flat (fun _ => rfl) xs
structure Sweb where
 zones : Int
 legs : (List Sleg)
 deriving Inhabited
def c_Sweb (x : Sweb) : List VV := [vi x.zones, VV.tr (flatMap c_Sleg x.legs) x.legs.length]
def g_Sweb (x : Sweb) : List VV := [vi x.zones, VV.fr (flatMap c_Sleg x.legs) x.legs.length]
theorem unfr_c_Sweb (xs : List Sweb) : (xs.flatMap c_Sweb).map unfr = xs.flatMap c_Sweb := unfr_flat2 (fun _ => rfl) xs
theorem unfr_g_Sweb (xs : List Sweb) : (xs.flatMap g_Sweb).map unfr = xs.flatMap c_Sweb := unfr_flat2 (fun _ => rfl) xs
structure A43 where
 e0 : Int
 e1 : Int
 deriving Inhabited
def c_A43 (x : A43) : List VV := [vi x.e0, vi x.e1]
theorem len_c_A43 (x : A43) : (c_A43 x).length = 2 := rfl
theorem unfr_c_A43 (xs : List A43) : (xs.flatMap c_A43).map unfr = xs.flatMap c_A43 := unfr_flat (fun _ => rfl) xs
structure SMeasured where
 Heights : (List Int)
 Pairs : (List A43)
 Errors : (List A43)
 deriving Inhabited
def c_SMeasured (x : SMeasured) : List VV := [VV.tr (List.map vi x.Heights) x.Heights.length, VV.tr (flatMap c_A43 x.Pairs) x.Pairs.length, VV.tr (flatMap c_A43 x.Errors) x.Errors.length]
theorem ag3 : isAggT Try.prog 3 = some false := by kernel_rfl
theorem ag43 : isAggT Try.prog 43 = some true := by kernel_rfl
theorem sz43 : szOf Try.prog 43 = some 2 := by kernel_rfl
theorem ag54 : isAggT Try.prog 54 = some true := by kernel_rfl
theorem sz54 : szOf Try.prog 54 = some 4 := by kernel_rfl
theorem ag84 : isAggT Try.prog 84 = some true := by kernel_rfl
theorem sz84 : szOf Try.prog 84 = some 4 := by kernel_rfl
def nprofile_isWithin (k : Nat) (a0 : Int) (a1 : Int) (a2 : Int) : Option Bool :=
 if a1 <= a0 then (some (decide (a0 <= a2))) else (some false)
theorem nprofile_isWithin_ok (k : Nat) (a0 : Int) (a1 : Int) (a2 : Int) (r : Bool) (h : nprofile_isWithin k a0 a1 a2 = some r) : VC Try.prog 56 [vi a0, vi a1, vi a2] (vb r) := by
 unfold nprofile_isWithin at h
 rcases ifs h with ⟨h104, h⟩ | ⟨h104, h⟩
 ·have e105 := (ti (ti (ti (ti (an (an (decide_eq_true h104) trivial) (an (an (decide_eq_true h104) trivial) (an (an (decide_eq_true h104) trivial) (an (decide_eq_true h104) (ti trivial)))))))))
  injection h with h; subst h
  exact fun_ok pm pn Try.func56 (r0 := vb (decide (a0 <= a2))) (ans := [.reg (.n :: []), .reg (nN 7 (.b true :: .n :: []))]) (fr := true) (by kernel_rfl) (an (an (ti trivial) (an e105 trivial)) (ti trivial)) (Wv.refl _)
 ·have e106 := (ti (ti (ti (ti (an (decide_eq_false h104) (an (decide_eq_false h104) (an (decide_eq_false h104) (an (decide_eq_false h104) (ti trivial)))))))))
  injection h with h; subst h
  exact fun_ok pm pn Try.func56 (r0 := vb false) (ans := [.reg (.n :: []), .reg (nN 4 (nS 3 (.b false :: .n :: [])))]) (fr := true) (by kernel_rfl) (an (an (ti trivial) (an e106 trivial)) (ti trivial)) (Wv.refl _)
def nprofile_areZones (k : Nat) (a0 : Int) (a1 : Int) (a2 : Int) : Option Bool :=
 (nprofile_isWithin k a1 0 (w64 (a0 - 1))).bind fun r124 => (if r124 = true then ((nprofile_isWithin k a2 0 (w64 (a0 - 1))).bind fun r128 => (some r128)) else (some false))
theorem nprofile_areZones_ok (k : Nat) (a0 : Int) (a1 : Int) (a2 : Int) (r : Bool) (h : nprofile_areZones k a0 a1 a2 = some r) : VC Try.prog 59 [vi a0, vi a1, vi a2] (vb r) := by
 unfold nprofile_areZones at h
 obtain ⟨r124, h125, h⟩ := bs h
 have e126 := (nprofile_isWithin_ok k a1 0 (w64 (a0 - 1)) _ h125)
 rcases ifs h with ⟨h127, h⟩ | ⟨h127, h⟩
 ·obtain ⟨r128, h129, h⟩ := bs h
  have e130 := (an h127 (nprofile_isWithin_ok k a2 0 (w64 (a0 - 1)) _ h129))
  have e131 := (ti (ti (ti (an e126 (ti (an (an h127 trivial) (an (an h127 trivial) (an (an h127 trivial) (an e130 (an h127 (ti trivial)))))))))))
  injection h with h; subst h
  exact fun_ok pm pn Try.func59 (r0 := vb r128) (ans := [.reg (.n :: []), .reg (nN 3 (.call (vb r124) :: nN 4 (.call (vb r128) :: .b true :: .n :: [])))]) (fr := true) (by kernel_rfl) (an (an (ti trivial) (an e131 trivial)) (ti trivial)) (Wv.refl _)
 ·have e132 := (ti (ti (ti (an e126 (ti (an (bool_f h127) (an (bool_f h127) (an (bool_f h127) (an (bool_f h127) (an (bool_f h127) (ti trivial)))))))))))
  injection h with h; subst h
  exact fun_ok pm pn Try.func59 (r0 := vb false) (ans := [.reg (.n :: []), .reg (nN 3 (.call (vb r124) :: .n :: nS 4 (.b false :: .n :: [])))]) (fr := true) (by kernel_rfl) (an (an (ti trivial) (an e132 trivial)) (ti trivial)) (Wv.refl _)
def nprofile_areSmall_l0_0_h (a0 : Int) (a1 : (List Int)) (x9 : Int) : VS := ⟨mkA [(0, vi a0), (7, VV.tr (List.map vi a1) a1.length), (8, vi (a1.length : Int)), (9, vi x9)], [], .nil⟩
def nprofile_areSmall_l0_0_e0 (a0 : Int) (a1 : (List Int)) (r : Unit) : VS := ⟨mkA [(4, vb false)], [], .nil⟩
def nprofile_areSmall_l0_0_e1 (a0 : Int) (a1 : (List Int)) (r : Unit) : VS := ⟨mkA [], [], .nil⟩
def nprofile_areSmall_l0_0 (k : Nat) (a0 : Int) (a1 : (List Int)) : Nat -> Int -> Option (Sum Unit Unit)
 | 0, _ => none
 | fuel + 1, x9 => if x9 < (a1.length : Int) then (if 0 <= x9 /\ x9 < (a1.length : Int) then ((nprofile_isWithin k (a1.getD x9.toNat 0) (w64 (0 - a0)) a0).bind fun r183 => (if r183 = true then (nprofile_areSmall_l0_0 k a0 a1 fuel (w64 (x9 + 1))) else (some (.inl ())))) else none) else (some (.inr ()))
theorem nprofile_areSmall_l0_0_ok (k : Nat) (a0 : Int) (a1 : (List Int)) : ∀ (fuel : Nat) (x9 : Int) (r : Sum Unit Unit), nprofile_areSmall_l0_0 k a0 a1 fuel x9 = some r -> (match r with | .inl r => VLoop none Try.prog (szF Try.f60) (bodyOf Try.f60 0) (nprofile_areSmall_l0_0_h a0 a1 x9) .ret (nprofile_areSmall_l0_0_e0 a0 a1 r) | .inr r => VLoop none Try.prog (szF Try.f60) (bodyOf Try.f60 0) (nprofile_areSmall_l0_0_h a0 a1 x9) (.exit 0) (nprofile_areSmall_l0_0_e1 a0 a1 r)) := by
 intro fuel
 induction fuel with
 | zero => intro x9 r h; rw [nprofile_areSmall_l0_0.eq_1] at h; cases h
 | succ fuel ih =>
  intro x9 r h
  rw [nprofile_areSmall_l0_0.eq_2] at h
  rcases ifs h with ⟨h180, h⟩ | ⟨h180, h⟩
  ·obtain ⟨h181, h⟩ := ifn h
   have e182 := (show loadL Try.prog 3 (x9.toNat * 1) (List.map vi a1) = some (vi (a1.getD x9.toNat 0)) from ld_map ag3 vi a1 0 h181 (by omega))
   obtain ⟨r183, h184, h⟩ := bs h
   have e185 := (nprofile_isWithin_ok k (a1.getD x9.toNat 0) (w64 (0 - a0)) a0 _ h184)
   rcases ifs h with ⟨h186, h⟩ | ⟨h186, h⟩
   ·have h2 := ih _ _ h
    obtain ⟨q, hv, hq⟩ := pkR (rd := none) (P := Try.prog) (fn := Try.f60) (k := 0) (s := (nprofile_areSmall_l0_0_h a0 a1 x9)) (ans := [.reg (.n :: []), .br true, .reg (.n :: .v (vi (a1.getD x9.toNat 0)) :: .n :: []), .reg (nN 4 (.call (vb r183) :: .n :: [])), .br false, .reg (.n :: .n :: [])]) (c := ⟨[(0, none), (7, none), (8, none), (9, none)], [], []⟩) (e := .normal) (s1 := (nprofile_areSmall_l0_0_h a0 a1 (w64 (x9 + 1)))) (an (an (ti trivial) (an (an (decide_eq_true h180) trivial) (an (an (an h181 (an e182 (ti trivial))) (an (ti (ti (ti (ti (an e185 (ti trivial)))))) (an (not_f h186) trivial))) (ti (ti trivial))))) (ti trivial)) (by kernel_rfl)
    cases r with
    | inl r => exact round_next pm pn hv hq h2
    | inr r =>
     exact round_next pm pn hv hq h2
   ·injection h with h; subst h
    exact round_stop (c := ⟨[(4, none)], [], []⟩) (s1 := (nprofile_areSmall_l0_0_e0 a0 a1 ())) pm pn (ans := [.reg (.n :: []), .br true, .reg (.n :: .v (vi (a1.getD x9.toNat 0)) :: .n :: []), .reg (nN 4 (.call (vb r183) :: .n :: [])), .br true, .reg (.n :: [])]) (by kernel_rfl) (by intro e; cases e) (an (an (ti trivial) (an (an (decide_eq_true h180) trivial) (an (an h181 (an e182 (ti trivial))) (an (ti (ti (ti (ti (an e185 (ti trivial)))))) (an (not_t (bool_f h186)) (an (ti trivial) trivial)))))) (ti trivial))
  ·injection h with h; subst h
   exact round_stop (c := ⟨[], [], []⟩) (s1 := (nprofile_areSmall_l0_0_e1 a0 a1 ())) pm pn (ans := [.reg (.n :: []), .br false]) (by kernel_rfl) (by intro e; cases e) (an (an (ti trivial) (an (decide_eq_false h180) trivial)) (ti trivial))
def nprofile_areSmall (k : Nat) (a0 : Int) (a1 : (List Int)) : Option Bool :=
 (nprofile_areSmall_l0_0 k a0 a1 k 0).bind fun r188 => (match r188 with | .inl r189 => (some false) | .inr r190 => (some true))
theorem nprofile_areSmall_ok (k : Nat) (a0 : Int) (a1 : (List Int)) (r : Bool) (h : nprofile_areSmall k a0 a1 = some r) : VC Try.prog 60 [vi a0, VV.tr (List.map vi a1) a1.length] (vb r) := by
 unfold nprofile_areSmall at h
 obtain ⟨r188, h187, h⟩ := bs h
 have hph187 := nprofile_areSmall_l0_0_ok k a0 a1 _ _ _ h187
 cases r188 with
 | inl r189 =>
  dsimp only at h
  have e191 := (an (ti trivial) (VRun.loop hph187))
  injection h with h; subst h
  exact fun_ok pm pn Try.func60 (r0 := vb false) (ans := [.reg (.n :: []), .reg (nN 3 []), .sub ⟨[(0, none), (7, none), (8, none), (9, none)], [], []⟩ .ret (nprofile_areSmall_l0_0_e0 a0 a1 r189)]) (fr := true) (by kernel_rfl) (an (an (ti trivial) (an (ti (ti (ti trivial))) e191)) (ti trivial)) (Wv.refl _)
 | inr r190 =>
  dsimp only at h
  have e192 := (an (ti trivial) (VRun.loop hph187))
  injection h with h; subst h
  exact fun_ok pm pn Try.func60 (r0 := vb true) (ans := [.reg (.n :: []), .reg (nN 3 []), .sub ⟨[(0, none), (7, none), (8, none), (9, none)], [], []⟩ (.exit 0) (nprofile_areSmall_l0_0_e1 a0 a1 r190), .reg (.n :: [])]) (fr := true) (by kernel_rfl) (an (an (ti trivial) (an (an (ti (ti (ti trivial))) e192) (an (ti trivial) trivial))) (ti trivial)) (Wv.refl _)
theorem eqW1_0 (z0 : SHeightReading) : [vi 1000000, VV.tr (List.map vi ([z0.Diff.Lo, z0.Diff.Hi] : List Int)) (([z0.Diff.Lo, z0.Diff.Hi] : List Int).length)] = [vi 1000000, VV.tr [vi z0.Diff.Lo, vi z0.Diff.Hi] 2] := by first | rfl | (simp only [unfr_vi, map_cons, map_nil, un_i, un_tr, length_map, length_cons, length_nil]; done) | (simp only [unfr_vi, map_cons, map_nil, un_i, un_tr, length_map, length_cons, length_nil]; rfl) | (simp only [unfr_vi, map_cons, map_nil, un_i, un_tr, length_map, length_cons, length_nil, length_cons, length_nil, length_append]; done)
def nprofile_checkReading (k : Nat) (a0 : Int) (a1 : SHeightReading) : Option Int :=
 (nprofile_areZones k a0 a1.From a1.To).bind fun r199 => (if r199 = true then (if a1.From = a1.To then (some 3) else ((nprofile_areSmall k 1000000 ([a1.Diff.Lo, a1.Diff.Hi] : List Int)).bind fun r205 => (if r205 = true then (if a1.Diff.Hi < a1.Diff.Lo then (some 9) else (some 0)) else (some 2)))) else (some 6))
theorem nprofile_checkReading_ok (k : Nat) (a0 : Int) (a1 : SHeightReading) (r : Int) (h : nprofile_checkReading k a0 a1 = some r) : VC Try.prog 57 [vi a0, VV.ag (c_SHeightReading a1)] (vi r) := by
 unfold nprofile_checkReading at h
 obtain ⟨r199, h200, h⟩ := bs h
 have e201 := (nprofile_areZones_ok k a0 a1.From a1.To _ h200)
 have e202 := (ti (ti (ti (ti (ti (an e201 (ti (ti trivial))))))))
 rcases ifs h with ⟨h203, h⟩ | ⟨h203, h⟩
 ·rcases ifs h with ⟨h204, h⟩ | ⟨h204, h⟩
  ·injection h with h; subst h
   exact fun_ok pm pn Try.func57 (r0 := vi 3) (ans := [.reg (.n :: .n :: []), .reg (nN 5 (.call (vb r199) :: .n :: .n :: [])), .br false, .reg (nN 6 []), .br true, .reg (.n :: [])]) (fr := true) (by kernel_rfl) (an (an (ti (ti trivial)) (an e202 (an (not_f h203) (an (ti (ti (ti (ti (ti (ti trivial)))))) (an (decide_eq_true h204) (an (ti trivial) trivial)))))) (ti trivial)) (Wv.refl _)
  ·obtain ⟨r205, h206, h⟩ := bs h
   have e207 := (VC.args (nprofile_areSmall_ok k 1000000 ([a1.Diff.Lo, a1.Diff.Hi] : List Int) _ h206) (eqW1_0 a1))
   have e208 := (ti (ti (ti (ti (ti (ti (ti (an e207 (ti (ti trivial))))))))))
   rcases ifs h with ⟨h209, h⟩ | ⟨h209, h⟩
   ·rcases ifs h with ⟨h210, h⟩ | ⟨h210, h⟩
    ·injection h with h; subst h
     exact fun_ok pm pn Try.func57 (r0 := vi 9) (ans := [.reg (.n :: .n :: []), .reg (nN 5 (.call (vb r199) :: .n :: .n :: [])), .br false, .reg (nN 6 []), .br false, .reg (nN 6 (.v VV.any :: .call (vb r205) :: .n :: .n :: [])), .br false, .reg (nN 8 []), .br true, .reg (.n :: [])]) (fr := true) (by kernel_rfl) (an (an (ti (ti trivial)) (an e202 (an (not_f h203) (an (ti (ti (ti (ti (ti (ti trivial)))))) (an (decide_eq_false h204) (an e208 (an (not_f h209) (an (ti (ti (ti (ti (ti (ti (ti (ti trivial)))))))) (an (decide_eq_true h210) (an (ti trivial) trivial)))))))))) (ti trivial)) (Wv.refl _)
    ·injection h with h; subst h
     exact fun_ok pm pn Try.func57 (r0 := vi 0) (ans := [.reg (.n :: .n :: []), .reg (nN 5 (.call (vb r199) :: .n :: .n :: [])), .br false, .reg (nN 6 []), .br false, .reg (nN 6 (.v VV.any :: .call (vb r205) :: .n :: .n :: [])), .br false, .reg (nN 8 []), .br false, .reg (.n :: [])]) (fr := true) (by kernel_rfl) (an (an (ti (ti trivial)) (an (an e202 (an (not_f h203) (an (ti (ti (ti (ti (ti (ti trivial)))))) (an (decide_eq_false h204) (an e208 (an (not_f h209) (an (ti (ti (ti (ti (ti (ti (ti (ti trivial)))))))) (an (decide_eq_false h210) trivial)))))))) (an (ti trivial) trivial))) (ti trivial)) (Wv.refl _)
   ·injection h with h; subst h
    exact fun_ok pm pn Try.func57 (r0 := vi 2) (ans := [.reg (.n :: .n :: []), .reg (nN 5 (.call (vb r199) :: .n :: .n :: [])), .br false, .reg (nN 6 []), .br false, .reg (nN 6 (.v VV.any :: .call (vb r205) :: .n :: .n :: [])), .br true, .reg (.n :: [])]) (fr := true) (by kernel_rfl) (an (an (ti (ti trivial)) (an e202 (an (not_f h203) (an (ti (ti (ti (ti (ti (ti trivial)))))) (an (decide_eq_false h204) (an e208 (an (not_t (bool_f h209)) (an (ti trivial) trivial)))))))) (ti trivial)) (Wv.refl _)
 ·injection h with h; subst h
  exact fun_ok pm pn Try.func57 (r0 := vi 6) (ans := [.reg (.n :: .n :: []), .reg (nN 5 (.call (vb r199) :: .n :: .n :: [])), .br true, .reg (.n :: [])]) (fr := true) (by kernel_rfl) (an (an (ti (ti trivial)) (an e202 (an (not_t (bool_f h203)) (an (ti trivial) trivial)))) (ti trivial)) (Wv.refl _)
theorem eqW1_2 (z0 : Int) (z1 : (List SHeightReading)) (z2 : Int) : [vi z0, VV.ag (c_SHeightReading (⟨(z1.getD z2.toNat default).From, (z1.getD z2.toNat default).To, ((z1.getD z2.toNat default).Diff)⟩ : SHeightReading))] = [vi z0, VV.ag (c_SHeightReading (z1.getD z2.toNat default))] := by first | rfl | (simp only [unfr_vi, map_cons, map_nil, un_i, unfr_c_SHeightReading]; done) | (simp only [unfr_vi, map_cons, map_nil, un_i, unfr_c_SHeightReading]; rfl) | (simp only [unfr_vi, map_cons, map_nil, un_i, unfr_c_SHeightReading, c_SHeightReading, length_cons, length_nil, length_append]; done)
def nprofile_CheckReadings_l0_0_h (a0 : Int) (a1 : (List SHeightReading)) (x16 : Int) : VS := ⟨mkA [(0, vi a0), (14, VV.tr (flatMap c_SHeightReading a1) a1.length), (15, vi (a1.length : Int)), (16, vi x16)], [], .nil⟩
def nprofile_CheckReadings_l0_0_e0 (a0 : Int) (a1 : (List SHeightReading)) (r : Int) : VS := ⟨mkA [(4, vi r)], [], .nil⟩
def nprofile_CheckReadings_l0_0_e1 (a0 : Int) (a1 : (List SHeightReading)) (r : Unit) : VS := ⟨mkA [], [], .nil⟩
def nprofile_CheckReadings_l0_0 (k : Nat) (a0 : Int) (a1 : (List SHeightReading)) : Nat -> Int -> Option (Sum Int Unit)
 | 0, _ => none
 | fuel + 1, x16 => if x16 < (a1.length : Int) then (if 0 <= x16 /\ x16 < (a1.length : Int) then ((nprofile_checkReading k a0 (⟨(a1.getD x16.toNat default).From, (a1.getD x16.toNat default).To, ((a1.getD x16.toNat default).Diff)⟩ : SHeightReading)).bind fun r257 => (if r257 = 0 then (nprofile_CheckReadings_l0_0 k a0 a1 fuel (w64 (x16 + 1))) else (some (.inl r257)))) else none) else (some (.inr ()))
theorem nprofile_CheckReadings_l0_0_ok (k : Nat) (a0 : Int) (a1 : (List SHeightReading)) : ∀ (fuel : Nat) (x16 : Int) (r : Sum Int Unit), nprofile_CheckReadings_l0_0 k a0 a1 fuel x16 = some r -> (match r with | .inl r => VLoop none Try.prog (szF Try.f51) (bodyOf Try.f51 0) (nprofile_CheckReadings_l0_0_h a0 a1 x16) .ret (nprofile_CheckReadings_l0_0_e0 a0 a1 r) | .inr r => VLoop none Try.prog (szF Try.f51) (bodyOf Try.f51 0) (nprofile_CheckReadings_l0_0_h a0 a1 x16) (.exit 0) (nprofile_CheckReadings_l0_0_e1 a0 a1 r)) := by
 intro fuel
 induction fuel with
 | zero => intro x16 r h; rw [nprofile_CheckReadings_l0_0.eq_1] at h; cases h
 | succ fuel ih =>
  intro x16 r h
  rw [nprofile_CheckReadings_l0_0.eq_2] at h
  rcases ifs h with ⟨h254, h⟩ | ⟨h254, h⟩
  ·obtain ⟨h255, h⟩ := ifn h
   have e256 := (show loadL Try.prog 54 (x16.toNat * 4) (flatMap c_SHeightReading a1) = some (VV.ag (c_SHeightReading (a1.getD x16.toNat default))) from ld_whole ag54 c_SHeightReading 4 sz54 len_c_SHeightReading a1 default h255 (by omega))
   obtain ⟨r257, h258, h⟩ := bs h
   have e259 := (VC.args (nprofile_checkReading_ok k a0 (⟨(a1.getD x16.toNat default).From, (a1.getD x16.toNat default).To, ((a1.getD x16.toNat default).Diff)⟩ : SHeightReading) _ h258) (eqW1_2 a0 a1 x16))
   rcases ifs h with ⟨h260, h⟩ | ⟨h260, h⟩
   ·have h2 := ih _ _ h
    obtain ⟨q, hv, hq⟩ := pkR (rd := none) (P := Try.prog) (fn := Try.f51) (k := 0) (s := (nprofile_CheckReadings_l0_0_h a0 a1 x16)) (ans := [.reg (.n :: []), .br true, .reg (.n :: .v (VV.ag (c_SHeightReading (a1.getD x16.toNat default))) :: .n :: .n :: []), .reg (.n :: .n :: .call (vi r257) :: .n :: []), .reg (.n :: .n :: []), .br false, .reg (.n :: .n :: [])]) (c := ⟨[(0, none), (14, none), (15, none), (16, none)], [], []⟩) (e := .normal) (s1 := (nprofile_CheckReadings_l0_0_h a0 a1 (w64 (x16 + 1)))) (an (an (ti trivial) (an (an (decide_eq_true h254) trivial) (an (an (an h255 (an e256 (ti (ti trivial)))) (an (ti (ti (an e259 (ti trivial)))) (an (ti (ti trivial)) (an (not_f (decide_eq_true h260)) trivial)))) (ti (ti trivial))))) (ti trivial)) (by kernel_rfl)
    cases r with
    | inl r => exact round_next pm pn hv hq h2
    | inr r =>
     exact round_next pm pn hv hq h2
   ·injection h with h; subst h
    exact round_stop (c := ⟨[(4, none)], [], []⟩) (s1 := (nprofile_CheckReadings_l0_0_e0 a0 a1 r257)) pm pn (ans := [.reg (.n :: []), .br true, .reg (.n :: .v (VV.ag (c_SHeightReading (a1.getD x16.toNat default))) :: .n :: .n :: []), .reg (.n :: .n :: .call (vi r257) :: .n :: []), .reg (.n :: .n :: []), .br true, .reg (.n :: .n :: [])]) (by kernel_rfl) (by intro e; cases e) (an (an (ti trivial) (an (an (decide_eq_true h254) trivial) (an (an h255 (an e256 (ti (ti trivial)))) (an (ti (ti (an e259 (ti trivial)))) (an (ti (ti trivial)) (an (not_t (decide_eq_false h260)) (an (ti (ti trivial)) trivial))))))) (ti trivial))
  ·injection h with h; subst h
   exact round_stop (c := ⟨[], [], []⟩) (s1 := (nprofile_CheckReadings_l0_0_e1 a0 a1 ())) pm pn (ans := [.reg (.n :: []), .br false]) (by kernel_rfl) (by intro e; cases e) (an (an (ti trivial) (an (decide_eq_false h254) trivial)) (ti trivial))
def nprofile_CheckReadings (k : Nat) (a0 : Int) (a1 : (List SHeightReading)) : Option Int :=
 (nprofile_isWithin k a0 1 40).bind fun r235 => (if r235 = true then (if 100 < (a1.length : Int) then (some 8) else ((nprofile_CheckReadings_l0_0 k a0 a1 k 0).bind fun r262 => (match r262 with | .inl r263 => (some r263) | .inr r264 => (some 0)))) else (some 2))
theorem nprofile_CheckReadings_ok (k : Nat) (a0 : Int) (a1 : (List SHeightReading)) (r : Int) (h : nprofile_CheckReadings k a0 a1 = some r) : VC Try.prog 51 [vi a0, VV.tr (flatMap c_SHeightReading a1) a1.length] (vi r) := by
 unfold nprofile_CheckReadings at h
 obtain ⟨r235, h236, h⟩ := bs h
 have e237 := (ti (an (nprofile_isWithin_ok k a0 1 40 _ h236) (ti trivial)))
 rcases ifs h with ⟨h238, h⟩ | ⟨h238, h⟩
 ·rcases ifs h with ⟨h239, h⟩ | ⟨h239, h⟩
  ·injection h with h; subst h
   exact fun_ok pm pn Try.func51 (r0 := vi 8) (ans := [.reg (.n :: []), .reg (.n :: .call (vb r235) :: .n :: []), .br false, .reg (nN 3 []), .br true, .reg (.n :: [])]) (fr := true) (by kernel_rfl) (an (an (ti trivial) (an (an e237 (an (not_f h238) trivial)) (an (ti (ti (ti trivial))) (an (decide_eq_true h239) (an (ti trivial) trivial))))) (ti trivial)) (Wv.refl _)
  ·obtain ⟨r262, h261, h⟩ := bs h
   have hph261 := nprofile_CheckReadings_l0_0_ok k a0 a1 _ _ _ h261
   cases r262 with
   | inl r263 =>
    dsimp only at h
    have e265 := (an (ti trivial) (VRun.loop hph261))
    injection h with h; subst h
    exact fun_ok pm pn Try.func51 (r0 := vi r263) (ans := [.reg (.n :: []), .reg (.n :: .call (vb r235) :: .n :: []), .br false, .reg (nN 3 []), .br false, .reg (nN 3 []), .sub ⟨[(0, none), (14, none), (15, none), (16, none)], [], []⟩ .ret (nprofile_CheckReadings_l0_0_e0 a0 a1 r263)]) (fr := true) (by kernel_rfl) (an (an (ti trivial) (an (an e237 (an (not_f h238) trivial)) (an (an (ti (ti (ti trivial))) (an (decide_eq_false h239) trivial)) (an (ti (ti (ti trivial))) e265)))) (ti trivial)) (Wv.refl _)
   | inr r264 =>
    dsimp only at h
    have e266 := (an (ti trivial) (VRun.loop hph261))
    injection h with h; subst h
    exact fun_ok pm pn Try.func51 (r0 := vi 0) (ans := [.reg (.n :: []), .reg (.n :: .call (vb r235) :: .n :: []), .br false, .reg (nN 3 []), .br false, .reg (nN 3 []), .sub ⟨[(0, none), (14, none), (15, none), (16, none)], [], []⟩ (.exit 0) (nprofile_CheckReadings_l0_0_e1 a0 a1 r264), .reg (.n :: [])]) (fr := true) (by kernel_rfl) (an (an (ti trivial) (an (an e237 (an (not_f h238) trivial)) (an (an (ti (ti (ti trivial))) (an (decide_eq_false h239) trivial)) (an (an (ti (ti (ti trivial))) e266) (an (ti trivial) trivial))))) (ti trivial)) (Wv.refl _)
 ·injection h with h; subst h
  exact fun_ok pm pn Try.func51 (r0 := vi 2) (ans := [.reg (.n :: []), .reg (.n :: .call (vb r235) :: .n :: []), .br true, .reg (.n :: [])]) (fr := true) (by kernel_rfl) (an (an (ti trivial) (an e237 (an (not_t (bool_f h238)) (an (ti trivial) trivial)))) (ti trivial)) (Wv.refl _)
def arW1_0 (z0 : (List SHeightReading)) (z1 : Int) : List Ans := (nN 5 (.v (VV.ag (c_SHeightReading (z0.getD (w64 ((w64 (0 - z1)) - 1)).toNat default))) :: .n :: .n :: []))
theorem eqW1_3 (z0 : Int) (z1 : (List SHeightReading)) : VV.ag [vi z0, vi ((z1.getD (w64 ((w64 (0 - z0)) - 1)).toNat default).To), vi ((z1.getD (w64 ((w64 (0 - z0)) - 1)).toNat default).From), vi (w64 (0 - (((z1.getD (w64 ((w64 (0 - z0)) - 1)).toNat default).Diff).Lo)))] = VV.ag (c_Sleg (⟨z0, (z1.getD (w64 ((w64 (0 - z0)) - 1)).toNat default).To, (z1.getD (w64 ((w64 (0 - z0)) - 1)).toNat default).From, w64 (0 - (((z1.getD (w64 ((w64 (0 - z0)) - 1)).toNat default).Diff).Lo))⟩ : Sleg)) := by first | rfl | (simp only [unfr_vi, map_cons, map_nil, un_i, unfr_c_Sleg]; done) | (simp only [unfr_vi, map_cons, map_nil, un_i, unfr_c_Sleg]; rfl) | (simp only [unfr_vi, map_cons, map_nil, un_i, unfr_c_Sleg, c_Sleg, length_cons, length_nil, length_append]; done)
def arW1_1 (z0 : (List SHeightReading)) (z1 : Int) : List Ans := (nN 4 (.v (VV.ag (c_SHeightReading (z0.getD (w64 (z1 - 1)).toNat default))) :: .n :: .n :: []))
theorem eqW1_4 (z0 : Int) (z1 : (List SHeightReading)) : VV.ag [vi z0, vi ((z1.getD (w64 (z0 - 1)).toNat default).From), vi ((z1.getD (w64 (z0 - 1)).toNat default).To), vi (((z1.getD (w64 (z0 - 1)).toNat default).Diff).Hi)] = VV.ag (c_Sleg (⟨z0, (z1.getD (w64 (z0 - 1)).toNat default).From, (z1.getD (w64 (z0 - 1)).toNat default).To, ((z1.getD (w64 (z0 - 1)).toNat default).Diff).Hi⟩ : Sleg)) := by first | rfl | (simp only [unfr_vi, map_cons, map_nil, un_i, unfr_c_Sleg]; done) | (simp only [unfr_vi, map_cons, map_nil, un_i, unfr_c_Sleg]; rfl) | (simp only [unfr_vi, map_cons, map_nil, un_i, unfr_c_Sleg, c_Sleg, length_cons, length_nil, length_append]; done)
def nprofile_legOf (k : Nat) (a0 : (List SHeightReading)) (a1 : Int) : Option Sleg :=
 if a1 < 0 then (if 0 <= w64 ((w64 (0 - a1)) - 1) /\ w64 ((w64 (0 - a1)) - 1) < (a0.length : Int) then (some (⟨a1, (a0.getD (w64 ((w64 (0 - a1)) - 1)).toNat default).To, (a0.getD (w64 ((w64 (0 - a1)) - 1)).toNat default).From, w64 (0 - (((a0.getD (w64 ((w64 (0 - a1)) - 1)).toNat default).Diff).Lo))⟩ : Sleg)) else none) else (if 0 <= w64 (a1 - 1) /\ w64 (a1 - 1) < (a0.length : Int) then (some (⟨a1, (a0.getD (w64 (a1 - 1)).toNat default).From, (a0.getD (w64 (a1 - 1)).toNat default).To, ((a0.getD (w64 (a1 - 1)).toNat default).Diff).Hi⟩ : Sleg)) else none)
theorem nprofile_legOf_ok (k : Nat) (a0 : (List SHeightReading)) (a1 : Int) (r : Sleg) (h : nprofile_legOf k a0 a1 = some r) : VC Try.prog 33 [VV.tr (flatMap c_SHeightReading a0) a0.length, vi a1] (VV.ag (c_Sleg r)) := by
 unfold nprofile_legOf at h
 rcases ifs h with ⟨h277, h⟩ | ⟨h277, h⟩
 ·obtain ⟨h278, h⟩ := ifn h
  have e279 := (show loadL Try.prog 54 ((w64 ((w64 (0 - a1)) - 1)).toNat * 4) (flatMap c_SHeightReading a0) = some (VV.ag (c_SHeightReading (a0.getD (w64 ((w64 (0 - a1)) - 1)).toNat default))) from ld_whole ag54 c_SHeightReading 4 sz54 len_c_SHeightReading a0 default h278 (by omega))
  have e280 := (ti (ti (ti (ti (an h278 (an e279 (ti (ti trivial))))))))
  have e281 := (ti (ti (ti (ti (ti (ti (ti (ti (ti (ti (ti trivial)))))))))))
  injection h with h; subst h
  exact fun_ok pm pn Try.func33 (r0 := VV.ag [vi a1, vi ((a0.getD (w64 ((w64 (0 - a1)) - 1)).toNat default).To), vi ((a0.getD (w64 ((w64 (0 - a1)) - 1)).toNat default).From), vi (w64 (0 - (((a0.getD (w64 ((w64 (0 - a1)) - 1)).toNat default).Diff).Lo)))]) (ans := [.reg (.n :: []), .reg (.n :: .n :: []), .br true, .reg (arW1_0 a0 a1), .reg (nN 11 [])]) (fr := true) (by kernel_rfl) (an (an (ti trivial) (an (ti (ti trivial)) (an (decide_eq_true h277) (an e280 (an e281 trivial))))) (an (ti (ti (ti (ti (ti trivial))))) trivial)) (Wv.of_eq (eqW1_3 a1 a0))
 ·obtain ⟨h282, h⟩ := ifn h
  have e283 := (show loadL Try.prog 54 ((w64 (a1 - 1)).toNat * 4) (flatMap c_SHeightReading a0) = some (VV.ag (c_SHeightReading (a0.getD (w64 (a1 - 1)).toNat default))) from ld_whole ag54 c_SHeightReading 4 sz54 len_c_SHeightReading a0 default h282 (by omega))
  have e284 := (ti (ti (ti (an h282 (an e283 (ti (ti trivial)))))))
  have e285 := (ti (ti (ti (ti (ti (ti (ti (ti (ti (ti trivial))))))))))
  injection h with h; subst h
  exact fun_ok pm pn Try.func33 (r0 := VV.ag [vi a1, vi ((a0.getD (w64 (a1 - 1)).toNat default).From), vi ((a0.getD (w64 (a1 - 1)).toNat default).To), vi (((a0.getD (w64 (a1 - 1)).toNat default).Diff).Hi)]) (ans := [.reg (.n :: []), .reg (.n :: .n :: []), .br false, .reg (arW1_1 a0 a1), .reg (nN 10 [])]) (fr := true) (by kernel_rfl) (an (an (ti trivial) (an (an (ti (ti trivial)) (an (decide_eq_false h277) trivial)) (an e284 (an e285 trivial)))) (an (ti (ti (ti (ti (ti trivial))))) trivial)) (Wv.of_eq (eqW1_4 a1 a0))
def arW1_2 (z0 : Sleg) (z1 : Sleg) : List Ans := (nN 5 (.call (VV.ag (c_Sleg z0)) :: nN 4 (.call (VV.ag (c_Sleg z1)) :: .v VV.any :: nN 3 [])))
def nprofile_newWeb_l0_0_h (a0 : Int) (a1 : (List SHeightReading)) (y2 : List Sleg) (x11 : Int) : VS := ⟨mkA [(1, VV.tr (flatMap c_SHeightReading a1) a1.length), (4, VV.pt 0 0), (5, VV.pt 1 0), (10, vi (a1.length : Int)), (11, vi x11)], [some ⟨true, 1, [vi 0, VV.c (.slice none 0 0)]⟩, some ⟨true, 1, [vi a0, VV.rf 2 0 y2.length]⟩, some ⟨false, 4, flatMap c_Sleg y2⟩], .nil⟩
def nprofile_newWeb_l0_0_e0 (a0 : Int) (a1 : (List SHeightReading)) (r : (List Sleg)) : VS := ⟨mkA [(4, VV.pt 0 0), (5, VV.pt 1 0)], [some ⟨true, 1, [vi 0, VV.c (.slice none 0 0)]⟩, some ⟨true, 1, [vi a0, VV.rf 2 0 r.length]⟩, some ⟨false, 4, flatMap c_Sleg r⟩], .nil⟩
def nprofile_newWeb_l0_0 (k : Nat) (a0 : Int) (a1 : (List SHeightReading)) : Nat -> (List Sleg) -> Int -> Option ((List Sleg))
 | 0, _, _ => none
 | fuel + 1, y2, x11 => if x11 < (a1.length : Int) then ((nprofile_legOf k a1 (w64 (x11 + 1))).bind fun r357 => ((nprofile_legOf k a1 (w64 ((w64 (0 - x11)) - 1))).bind fun r360 => (if y2.length + ([r357, r360] : List Sleg).length <= 1000000000 then (nprofile_newWeb_l0_0 k a0 a1 fuel (y2 ++ ([r357, r360] : List Sleg)) (w64 (x11 + 1))) else none))) else (some y2)
theorem nprofile_newWeb_l0_0_ok (k : Nat) (a0 : Int) (a1 : (List SHeightReading)) : ∀ (fuel : Nat) (y2 : List Sleg) (x11 : Int) (r : (List Sleg)), nprofile_newWeb_l0_0 k a0 a1 fuel y2 x11 = some r -> (VLoop none Try.prog (szF Try.f15) (bodyOf Try.f15 0) (nprofile_newWeb_l0_0_h a0 a1 y2 x11) (.exit 0) (nprofile_newWeb_l0_0_e0 a0 a1 r)) := by
 intro fuel
 induction fuel with
 | zero => intro y2 x11 r h; rw [nprofile_newWeb_l0_0.eq_1] at h; cases h
 | succ fuel ih =>
  intro y2 x11 r h
  rw [nprofile_newWeb_l0_0.eq_2] at h
  rcases ifs h with ⟨h356, h⟩ | ⟨h356, h⟩
  ·obtain ⟨r357, h358, h⟩ := bs h
   have e359 := (nprofile_legOf_ok k a1 (w64 (x11 + 1)) _ h358)
   obtain ⟨r360, h361, h⟩ := bs h
   have e362 := (nprofile_legOf_ok k a1 (w64 ((w64 (0 - x11)) - 1)) _ h361)
   obtain ⟨h363, h⟩ := ifn h
   have e364 := (show List.length (flatMap c_Sleg y2) = y2.length * 4 /\ List.length [vi r357.signed, vi r357.from_, vi r357.to, vi r357.length, vi r360.signed, vi r360.from_, vi r360.to, vi r360.length] = 2 * 4 /\ (y2.length + 2) * 32 <= 140737488355328 /\ y2.length + 2 < 1099511627776 /\ List.all [vi r357.signed, vi r357.from_, vi r357.to, vi r357.length, vi r360.signed, vi r360.from_, vi r360.to, vi r360.length] VV.still = true from ⟨(by rw [flatMap_len len_c_Sleg] <;> simp), (by rw [show [vi r357.signed, vi r357.from_, vi r357.to, vi r357.length, vi r360.signed, vi r360.from_, vi r360.to, vi r360.length] = flatMap c_Sleg ([r357, r360] : List Sleg) from rfl]; rw [flatMap_len len_c_Sleg] <;> simp), (by first | omega | (simp at h363 ⊢; omega)), (by first | omega | (simp at h363 ⊢; omega)), (by rw [show [vi r357.signed, vi r357.from_, vi r357.to, vi r357.length, vi r360.signed, vi r360.from_, vi r360.to, vi r360.length] = flatMap c_Sleg ([r357, r360] : List Sleg) from rfl]; exact still_c_Sleg _)⟩)
   have e365 := (ti (ti (ti (ti (ti (an e359 (ti (ti (ti (ti (an e362 (ti (an e364 (ti (ti trivial)))))))))))))))
   have h2 := ih _ _ _ h
   obtain ⟨q, hv, hq⟩ := pkR (rd := none) (P := Try.prog) (fn := Try.f15) (k := 0) (s := (nprofile_newWeb_l0_0_h a0 a1 y2 x11)) (ans := [.reg (.n :: []), .br true, .reg (.n :: .n :: []), .reg (arW1_2 r357 r360), .reg (.n :: .n :: [])]) (c := ⟨[(1, none), (4, none), (5, none), (10, none), (11, none)], [none, some [vi a0, VV.rf 2 0 ((y2 ++ ([r357, r360] : List Sleg)).length)], some (flatMap c_Sleg (y2 ++ ([r357, r360] : List Sleg)))], []⟩) (e := .normal) (s1 := (nprofile_newWeb_l0_0_h a0 a1 (y2 ++ ([r357, r360] : List Sleg)) (w64 (x11 + 1)))) (an (an (ti trivial) (an (an (decide_eq_true h356) trivial) (an (an (ti (ti trivial)) e365) (ti (ti trivial))))) (ti (an (show [vi a0, VV.rf 2 0 (y2.length + 2)] = [vi a0, VV.rf 2 0 ((y2 ++ ([r357, r360] : List Sleg)).length)] from (by first | rfl | simp)) (an (show (flatMap c_Sleg y2) ++ [vi r357.signed, vi r357.from_, vi r357.to, vi r357.length, vi r360.signed, vi r360.from_, vi r360.to, vi r360.length] = flatMap c_Sleg (y2 ++ ([r357, r360] : List Sleg)) from (by rw [show [vi r357.signed, vi r357.from_, vi r357.to, vi r357.length, vi r360.signed, vi r360.from_, vi r360.to, vi r360.length] = flatMap c_Sleg ([r357, r360] : List Sleg) from rfl]; exact List.flatMap_append.symm)) trivial)))) (by kernel_rfl)
   exact round_next pm pn hv hq h2
  ·injection h with h; subst h
   exact round_stop (c := ⟨[(4, none), (5, none)], [none, none, none], []⟩) (s1 := (nprofile_newWeb_l0_0_e0 a0 a1 y2)) pm pn (ans := [.reg (.n :: []), .br false]) (by kernel_rfl) (by intro e; cases e) (an (an (ti trivial) (an (decide_eq_false h356) trivial)) (ti trivial))
theorem eqW1_5 (z0 : Int) (z1 : (List Sleg)) : VV.ag [vi z0, VV.fw 4 (List.drop 0 (List.map unfr (flatMap c_Sleg z1))) z1.length] = VV.ag [vi ((⟨z0, z1⟩ : Sweb).zones), VV.fw 4 (flatMap c_Sleg ((⟨z0, z1⟩ : Sweb).legs)) (((⟨z0, z1⟩ : Sweb).legs).length)] := by first | rfl | (simp only [drop0, unfr_vi, map_cons, map_nil, un_i, length_map, length_cons, length_nil, unfr_c_Sleg]; done) | (simp only [drop0, unfr_vi, map_cons, map_nil, un_i, length_map, length_cons, length_nil, unfr_c_Sleg]; rfl) | (simp only [drop0, unfr_vi, map_cons, map_nil, un_i, length_map, length_cons, length_nil, unfr_c_Sleg, c_Sleg, length_cons, length_nil, length_append]; done)
def nprofile_newWeb (k : Nat) (a0 : Int) (a1 : (List SHeightReading)) : Option Sweb :=
 (nprofile_newWeb_l0_0 k a0 a1 k ([] : List Sleg) 0).bind fun r367 => (some (⟨a0, r367⟩ : Sweb))
theorem nprofile_newWeb_ok (k : Nat) (a0 : Int) (a1 : (List SHeightReading)) (r : Sweb) (h : nprofile_newWeb k a0 a1 = some r) : VC Try.prog 15 [vi a0, VV.tr (flatMap c_SHeightReading a1) a1.length] (VV.ag [vi r.zones, VV.fw 4 (flatMap c_Sleg r.legs) r.legs.length]) := by
 unfold nprofile_newWeb at h
 obtain ⟨r367, h366, h⟩ := bs h
 have hph366 := nprofile_newWeb_l0_0_ok k a0 a1 _ _ _ _ h366
 have e368 := (an (ti trivial) (VRun.loop hph366))
 injection h with h; subst h
 exact fun_ok pm pn Try.func15 (r0 := VV.ag [vi a0, VV.fw 4 (List.drop 0 (List.map unfr (flatMap c_Sleg r367))) r367.length]) (ans := [.reg (.n :: []), .reg (nN 4 []), .reg (nN 3 []), .sub ⟨[(1, none), (4, none), (5, none), (10, none), (11, none)], [none, none], [.b 1 1 4]⟩ (.exit 0) (nprofile_newWeb_l0_0_e0 a0 a1 r367), .reg (.n :: .n :: [])]) (fr := true) (by kernel_rfl) (an (an (ti trivial) (an (ti (ti (ti (ti trivial)))) (an (an (ti (ti (ti trivial))) e368) (an (ti (ti trivial)) trivial)))) (an (ti (ti (an (show List.all (flatMap c_Sleg r367) new0 = true from (by exact new0_c_Sleg _)) trivial))) trivial)) (Wv.of_eq (eqW1_5 a0 r367))
def n_profile_web_circle_i34_l0_0_h (a0 : Sweb) (y1 : List Int) (y2 : List Sleg) (x17 : Int) (x4 : Int) (y1z : List Int) (y2z : List Sleg) (x14 : Int) (x6 : Int) (x7 : Bool) : VS := ⟨mkA [(3, VV.pt 5 0), (6, vi x6), (7, vb x7), (12, VV.tr (flatMap c_Sleg a0.legs) a0.legs.length), (13, vi (a0.legs.length : Int)), (14, vi x14)], [some ⟨true, 1, c_Sweb a0⟩, some ⟨false, 1, List.map vi y1z⟩, some ⟨false, 4, flatMap c_Sleg y2z⟩, some ⟨true, 1, [VV.rf 1 0 y1z.length, VV.rf 2 0 y2z.length]⟩, some ⟨true, 1, c_Sweb a0⟩, some ⟨true, 1, [VV.rf 1 0 y1z.length, VV.rf 2 0 y2z.length]⟩], (.node none (mkA [(1, VV.pt 0 0), (3, VV.pt 3 0), (4, vi x4), (16, vi a0.zones), (17, vi x17), (18, vb (decide (x17 < a0.zones))), (20, VV.ag (c_Sweb a0)), (21, VV.ag [VV.rf 1 0 y1.length, VV.rf 2 0 y2.length])]) .nil)⟩
def n_profile_web_circle_i34_l0_0_e0 (a0 : Sweb) (y1 : List Int) (y2 : List Sleg) (x17 : Int) (x4 : Int) (r : Int × Bool × (List Int) × (List Sleg)) : VS := ⟨mkA [(6, vi r.1), (7, vb r.2.1)], [some ⟨true, 1, c_Sweb a0⟩, some ⟨false, 1, List.map vi r.2.2.1⟩, some ⟨false, 4, flatMap c_Sleg r.2.2.2⟩, some ⟨true, 1, [VV.rf 1 0 r.2.2.1.length, VV.rf 2 0 r.2.2.2.length]⟩], (.node none (mkA [(1, VV.pt 0 0), (3, VV.pt 3 0), (4, vi x4), (16, vi a0.zones), (17, vi x17), (18, vb (decide (x17 < a0.zones))), (20, VV.ag (c_Sweb a0)), (21, VV.ag [VV.rf 1 0 y1.length, VV.rf 2 0 y2.length])]) .nil)⟩
def n_profile_web_circle_i34_l0_0 (k : Nat) (a0 : Sweb) (y1 : List Int) (y2 : List Sleg) (x17 : Int) (x4 : Int) : Nat -> (List Int) -> (List Sleg) -> Int -> Int -> Bool -> Option (Int × Bool × (List Int) × (List Sleg))
 | 0, _, _, _, _, _ => none
 | fuel + 1, y1z, y2z, x14, x6, x7 => if x14 < (a0.legs.length : Int) then (if 0 <= x14 /\ x14 < (a0.legs.length : Int) then (if 0 <= (a0.legs.getD x14.toNat default).from_ /\ (a0.legs.getD x14.toNat default).from_ < (y1z.length : Int) then (if (y1z.getD ((a0.legs.getD x14.toNat default).from_).toNat 0) = 9223372036854775807 then (n_profile_web_circle_i34_l0_0 k a0 y1 y2 x17 x4 fuel y1z y2z (w64 (x14 + 1)) x6 x7) else (if 0 <= (a0.legs.getD x14.toNat default).to /\ (a0.legs.getD x14.toNat default).to < (y1z.length : Int) then (if (w64 ((y1z.getD ((a0.legs.getD x14.toNat default).from_).toNat 0) + ((a0.legs.getD x14.toNat default).length))) < (y1z.getD ((a0.legs.getD x14.toNat default).to).toNat 0) then (if 0 <= (a0.legs.getD x14.toNat default).to /\ (a0.legs.getD x14.toNat default).to < (y2z.length : Int) then (n_profile_web_circle_i34_l0_0 k a0 y1 y2 x17 x4 fuel (y1z.set ((a0.legs.getD x14.toNat default).to).toNat (w64 ((y1z.getD ((a0.legs.getD x14.toNat default).from_).toNat 0) + ((a0.legs.getD x14.toNat default).length)))) (y2z.set ((a0.legs.getD x14.toNat default).to).toNat (a0.legs.getD x14.toNat default)) (w64 (x14 + 1)) ((a0.legs.getD x14.toNat default).to) true) else none) else (n_profile_web_circle_i34_l0_0 k a0 y1 y2 x17 x4 fuel y1z y2z (w64 (x14 + 1)) x6 x7)) else none)) else none) else none) else (some (x6, x7, y1z, y2z))
theorem n_profile_web_circle_i34_l0_0_ok (k : Nat) (a0 : Sweb) (y1 : List Int) (y2 : List Sleg) (x17 : Int) (x4 : Int) : ∀ (fuel : Nat) (y1z : List Int) (y2z : List Sleg) (x14 : Int) (x6 : Int) (x7 : Bool) (r : Int × Bool × (List Int) × (List Sleg)), n_profile_web_circle_i34_l0_0 k a0 y1 y2 x17 x4 fuel y1z y2z x14 x6 x7 = some r -> (VLoop none Try.prog (szF Try.f34) (bodyOf Try.f34 0) (n_profile_web_circle_i34_l0_0_h a0 y1 y2 x17 x4 y1z y2z x14 x6 x7) (.exit 0) (n_profile_web_circle_i34_l0_0_e0 a0 y1 y2 x17 x4 r)) := by
 intro fuel
 induction fuel with
 | zero => intro y1z y2z x14 x6 x7 r h; rw [n_profile_web_circle_i34_l0_0.eq_1] at h; cases h
 | succ fuel ih =>
  intro y1z y2z x14 x6 x7 r h
  rw [n_profile_web_circle_i34_l0_0.eq_2] at h
  rcases ifs h with ⟨h817, h⟩ | ⟨h817, h⟩
  ·obtain ⟨h818, h⟩ := ifn h
   have e819 := (show loadL Try.prog 84 (x14.toNat * 4) (flatMap c_Sleg a0.legs) = some (VV.ag (c_Sleg (a0.legs.getD x14.toNat default))) from ld_whole ag84 c_Sleg 4 sz84 len_c_Sleg a0.legs default h818 (by omega))
   obtain ⟨h820, h⟩ := ifn h
   have e821 := (show loadL Try.prog 3 (0 + ((a0.legs.getD x14.toNat default).from_).toNat * 1) (List.map vi y1z) = some (vi (y1z.getD ((a0.legs.getD x14.toNat default).from_).toNat 0)) from ld_map ag3 vi y1z 0 h820 (by omega))
   have e822 := (ti (ti (ti (ti (an h820 (an e821 (ti trivial)))))))
   rcases ifs h with ⟨h823, h⟩ | ⟨h823, h⟩
   ·have h2 := ih _ _ _ _ _ _ h
    obtain ⟨q, hv, hq⟩ := pkR (rd := none) (P := Try.prog) (fn := Try.f34) (k := 0) (s := (n_profile_web_circle_i34_l0_0_h a0 y1 y2 x17 x4 y1z y2z x14 x6 x7)) (ans := [.reg (.n :: []), .br true, .reg (.n :: .v (VV.ag (c_Sleg (a0.legs.getD x14.toNat default))) :: .n :: .n :: []), .reg (nN 5 (.v (vi (y1z.getD ((a0.legs.getD x14.toNat default).from_).toNat 0)) :: .n :: [])), .br true, .reg (.n :: .n :: [])]) (c := ⟨[(3, none), (6, none), (7, none), (12, none), (13, none), (14, none)], [none, none, none, none, none, none], []⟩) (e := .normal) (s1 := (n_profile_web_circle_i34_l0_0_h a0 y1 y2 x17 x4 y1z y2z (w64 (x14 + 1)) x6 x7)) (an (an (ti trivial) (an (an (decide_eq_true h817) trivial) (an (an (an h818 (an e819 (ti (ti trivial)))) (an e822 (an (decide_eq_true h823) trivial))) (ti (ti trivial))))) (ti trivial)) (by kernel_rfl)
    exact round_next pm pn hv hq h2
   ·have e824 := (show loadL Try.prog 3 (0 + ((a0.legs.getD x14.toNat default).from_).toNat * 1) (List.map vi y1z) = some (vi (y1z.getD ((a0.legs.getD x14.toNat default).from_).toNat 0)) from ld_map ag3 vi y1z 0 h820 (by omega))
    have e825 := (ti (ti (ti (ti (an h820 (an e824 (ti (ti (ti (ti trivial))))))))))
    obtain ⟨h826, h⟩ := ifn h
    have e827 := (show loadL Try.prog 3 (0 + ((a0.legs.getD x14.toNat default).to).toNat * 1) (List.map vi y1z) = some (vi (y1z.getD ((a0.legs.getD x14.toNat default).to).toNat 0)) from ld_map ag3 vi y1z 0 h826 (by omega))
    have e828 := (ti (ti (ti (ti (ti (an h826 (an e827 (ti trivial))))))))
    rcases ifs h with ⟨h829, h⟩ | ⟨h829, h⟩
    ·have e830 := (show (0 + ((a0.legs.getD x14.toNat default).to).toNat * 1) + 1 <= List.length (List.map vi y1z) from (by simp only [length_map]; omega))
     obtain ⟨h831, h⟩ := ifn h
     have e832 := (show (0 + ((a0.legs.getD x14.toNat default).to).toNat * 4) + 4 <= List.length (flatMap c_Sleg y2z) from (by rw [flat_len len_c_Sleg]; have := h831; omega))
     have e833 := (ti (ti (ti (ti (ti (ti (ti (ti (ti (ti (an h826 (an e830 (an h831 (an e832 trivial))))))))))))))
     have h2 := ih _ _ _ _ _ _ h
     obtain ⟨q, hv, hq⟩ := pkR (rd := none) (P := Try.prog) (fn := Try.f34) (k := 0) (s := (n_profile_web_circle_i34_l0_0_h a0 y1 y2 x17 x4 y1z y2z x14 x6 x7)) (ans := [.reg (.n :: []), .br true, .reg (.n :: .v (VV.ag (c_Sleg (a0.legs.getD x14.toNat default))) :: .n :: .n :: []), .reg (nN 5 (.v (vi (y1z.getD ((a0.legs.getD x14.toNat default).from_).toNat 0)) :: .n :: [])), .br false, .reg (nN 5 (.v (vi (y1z.getD ((a0.legs.getD x14.toNat default).from_).toNat 0)) :: nN 4 [])), .reg (nN 6 (.v (vi (y1z.getD ((a0.legs.getD x14.toNat default).to).toNat 0)) :: .n :: [])), .br true, .reg (nN 14 []), .reg (nN 4 []), .reg (.n :: .n :: [])]) (c := ⟨[(3, none), (6, none), (7, none), (12, none), (13, none), (14, none)], [none, some (List.map vi (y1z.set ((a0.legs.getD x14.toNat default).to).toNat (w64 ((y1z.getD ((a0.legs.getD x14.toNat default).from_).toNat 0) + ((a0.legs.getD x14.toNat default).length))))), some (flatMap c_Sleg (y2z.set ((a0.legs.getD x14.toNat default).to).toNat (a0.legs.getD x14.toNat default))), some [VV.rf 1 0 ((y1z.set ((a0.legs.getD x14.toNat default).to).toNat (w64 ((y1z.getD ((a0.legs.getD x14.toNat default).from_).toNat 0) + ((a0.legs.getD x14.toNat default).length)))).length), VV.rf 2 0 ((y2z.set ((a0.legs.getD x14.toNat default).to).toNat (a0.legs.getD x14.toNat default)).length)], none, some [VV.rf 1 0 ((y1z.set ((a0.legs.getD x14.toNat default).to).toNat (w64 ((y1z.getD ((a0.legs.getD x14.toNat default).from_).toNat 0) + ((a0.legs.getD x14.toNat default).length)))).length), VV.rf 2 0 ((y2z.set ((a0.legs.getD x14.toNat default).to).toNat (a0.legs.getD x14.toNat default)).length)]], []⟩) (e := .normal) (s1 := (n_profile_web_circle_i34_l0_0_h a0 y1 y2 x17 x4 (y1z.set ((a0.legs.getD x14.toNat default).to).toNat (w64 ((y1z.getD ((a0.legs.getD x14.toNat default).from_).toNat 0) + ((a0.legs.getD x14.toNat default).length)))) (y2z.set ((a0.legs.getD x14.toNat default).to).toNat (a0.legs.getD x14.toNat default)) (w64 (x14 + 1)) ((a0.legs.getD x14.toNat default).to) true)) (an (an (ti trivial) (an (an (decide_eq_true h817) trivial) (an (an (an h818 (an e819 (ti (ti trivial)))) (an (an e822 (an (decide_eq_false h823) trivial)) (an e825 (an e828 (an (decide_eq_true h829) (an e833 (ti (ti (ti (ti trivial)))))))))) (ti (ti trivial))))) (ti (an (show putT (0 + ((a0.legs.getD x14.toNat default).to).toNat * 1) (List.map vi y1z) [vi (w64 ((y1z.getD ((a0.legs.getD x14.toNat default).from_).toNat 0) + ((a0.legs.getD x14.toNat default).length)))] = List.map vi (y1z.set ((a0.legs.getD x14.toNat default).to).toNat (w64 ((y1z.getD ((a0.legs.getD x14.toNat default).from_).toNat 0) + ((a0.legs.getD x14.toNat default).length)))) from (by exact putT_vi y1z h826 (w64 ((y1z.getD ((a0.legs.getD x14.toNat default).from_).toNat 0) + ((a0.legs.getD x14.toNat default).length))) (by omega))) (an (show putT (0 + ((a0.legs.getD x14.toNat default).to).toNat * 4) (flatMap c_Sleg y2z) [vi ((a0.legs.getD x14.toNat default).signed), vi ((a0.legs.getD x14.toNat default).from_), vi ((a0.legs.getD x14.toNat default).to), vi ((a0.legs.getD x14.toNat default).length)] = flatMap c_Sleg (y2z.set ((a0.legs.getD x14.toNat default).to).toNat (a0.legs.getD x14.toNat default)) from (by exact putT_flat len_c_Sleg y2z h831 (a0.legs.getD x14.toNat default) (by omega))) (an (show [VV.rf 1 0 y1z.length, VV.rf 2 0 y2z.length] = [VV.rf 1 0 ((y1z.set ((a0.legs.getD x14.toNat default).to).toNat (w64 ((y1z.getD ((a0.legs.getD x14.toNat default).from_).toNat 0) + ((a0.legs.getD x14.toNat default).length)))).length), VV.rf 2 0 ((y2z.set ((a0.legs.getD x14.toNat default).to).toNat (a0.legs.getD x14.toNat default)).length)] from (by first | rfl | simp)) (an (show [VV.rf 1 0 y1z.length, VV.rf 2 0 y2z.length] = [VV.rf 1 0 ((y1z.set ((a0.legs.getD x14.toNat default).to).toNat (w64 ((y1z.getD ((a0.legs.getD x14.toNat default).from_).toNat 0) + ((a0.legs.getD x14.toNat default).length)))).length), VV.rf 2 0 ((y2z.set ((a0.legs.getD x14.toNat default).to).toNat (a0.legs.getD x14.toNat default)).length)] from (by first | rfl | simp)) trivial)))))) (by kernel_rfl)
     exact round_next pm pn hv hq h2
    ·have h2 := ih _ _ _ _ _ _ h
     obtain ⟨q, hv, hq⟩ := pkR (rd := none) (P := Try.prog) (fn := Try.f34) (k := 0) (s := (n_profile_web_circle_i34_l0_0_h a0 y1 y2 x17 x4 y1z y2z x14 x6 x7)) (ans := [.reg (.n :: []), .br true, .reg (.n :: .v (VV.ag (c_Sleg (a0.legs.getD x14.toNat default))) :: .n :: .n :: []), .reg (nN 5 (.v (vi (y1z.getD ((a0.legs.getD x14.toNat default).from_).toNat 0)) :: .n :: [])), .br false, .reg (nN 5 (.v (vi (y1z.getD ((a0.legs.getD x14.toNat default).from_).toNat 0)) :: nN 4 [])), .reg (nN 6 (.v (vi (y1z.getD ((a0.legs.getD x14.toNat default).to).toNat 0)) :: .n :: [])), .br false, .reg (.n :: .n :: [])]) (c := ⟨[(3, none), (6, none), (7, none), (12, none), (13, none), (14, none)], [none, none, none, none, none, none], []⟩) (e := .normal) (s1 := (n_profile_web_circle_i34_l0_0_h a0 y1 y2 x17 x4 y1z y2z (w64 (x14 + 1)) x6 x7)) (an (an (ti trivial) (an (an (decide_eq_true h817) trivial) (an (an (an h818 (an e819 (ti (ti trivial)))) (an (an e822 (an (decide_eq_false h823) trivial)) (an e825 (an e828 (an (decide_eq_false h829) trivial))))) (ti (ti trivial))))) (ti trivial)) (by kernel_rfl)
     exact round_next pm pn hv hq h2
  ·injection h with h; subst h
   exact round_stop (c := ⟨[(6, none), (7, none)], [none, none, none, none], []⟩) (s1 := (n_profile_web_circle_i34_l0_0_e0 a0 y1 y2 x17 x4 (x6, x7, y1z, y2z))) pm pn (ans := [.reg (.n :: []), .br false]) (by kernel_rfl) (by intro e; cases e) (an (an (ti trivial) (an (decide_eq_false h817) trivial)) (ti trivial))
def n_profile_web_circle_l0_0_h (a0 : Sweb) (y1 : List Int) (y2 : List Sleg) (x17 : Int) (x4 : Int) : VS := ⟨mkA [(1, VV.pt 0 0), (3, VV.pt 3 0), (4, vi x4), (16, vi a0.zones), (17, vi x17)], [some ⟨true, 1, c_Sweb a0⟩, some ⟨false, 1, List.map vi y1⟩, some ⟨false, 4, flatMap c_Sleg y2⟩, some ⟨true, 1, [VV.rf 1 0 y1.length, VV.rf 2 0 y2.length]⟩], .nil⟩
def n_profile_web_circle_l0_0_e0 (a0 : Sweb) (r : Unit) : VS := ⟨mkA [(2, VV.c (.slice none 0 0))], [], .nil⟩
def n_profile_web_circle_l0_0_e1 (a0 : Sweb) (r : Int × (List Int) × (List Sleg)) : VS := ⟨mkA [(1, VV.pt 0 0), (3, VV.pt 3 0), (4, vi r.1)], [some ⟨true, 1, c_Sweb a0⟩, some ⟨false, 1, List.map vi r.2.1⟩, some ⟨false, 4, flatMap c_Sleg r.2.2⟩, some ⟨true, 1, [VV.rf 1 0 r.2.1.length, VV.rf 2 0 r.2.2.length]⟩], .nil⟩
def n_profile_web_circle_l0_0 (k : Nat) (a0 : Sweb) : Nat -> (List Int) -> (List Sleg) -> Int -> Int -> Option (Sum Unit (Int × (List Int) × (List Sleg)))
 | 0, _, _, _, _ => none
 | fuel + 1, y1, y2, x17, x4 => if x17 < a0.zones then ((n_profile_web_circle_i34_l0_0 k a0 y1 y2 x17 x4 k y1 y2 0 0 false).bind fun r835 => (if r835.2.2.1.length = y1.length then (if r835.2.2.2.length = y2.length then (if r835.2.1 = true then (n_profile_web_circle_l0_0 k a0 fuel r835.2.2.1 r835.2.2.2 (w64 (x17 + 1)) r835.1) else (some (.inl ()))) else none) else none)) else (some (.inr (x4, y1, y2)))
theorem n_profile_web_circle_l0_0_ok (k : Nat) (a0 : Sweb) : ∀ (fuel : Nat) (y1 : List Int) (y2 : List Sleg) (x17 : Int) (x4 : Int) (r : Sum Unit (Int × (List Int) × (List Sleg))), n_profile_web_circle_l0_0 k a0 fuel y1 y2 x17 x4 = some r -> (match r with | .inl r => VLoop none Try.prog (szF Try.f16) (bodyOf Try.f16 0) (n_profile_web_circle_l0_0_h a0 y1 y2 x17 x4) .ret (n_profile_web_circle_l0_0_e0 a0 r) | .inr r => VLoop none Try.prog (szF Try.f16) (bodyOf Try.f16 0) (n_profile_web_circle_l0_0_h a0 y1 y2 x17 x4) (.exit 0) (n_profile_web_circle_l0_0_e1 a0 r)) := by
 intro fuel
 induction fuel with
 | zero => intro y1 y2 x17 x4 r h; rw [n_profile_web_circle_l0_0.eq_1] at h; cases h
 | succ fuel ih =>
  intro y1 y2 x17 x4 r h
  rw [n_profile_web_circle_l0_0.eq_2] at h
  rcases ifs h with ⟨h782, h⟩ | ⟨h782, h⟩
  ·obtain ⟨r835, h834, h⟩ := bs h
   have hph834 := n_profile_web_circle_i34_l0_0_ok k a0 y1 y2 x17 x4 _ _ _ _ _ _ _ h834
   have e836 := (an (ti trivial) (VRun.loop hph834))
   obtain ⟨h837, h⟩ := ifn h
   obtain ⟨h838, h⟩ := ifn h
   have e839 := (an (an Try.func34 (an (ti (ti (ti (ti trivial)))) (an (ti (ti trivial)) (an (an (ti (ti (ti (ti trivial)))) e836) (an (ti (ti (ti (ti trivial)))) trivial))))) (ti (ti trivial)))
   have e840 := (ti (ti (an e839 (ti (ti (ti (ti (ti trivial))))))))
   rcases ifs h with ⟨h841, h⟩ | ⟨h841, h⟩
   ·have h2 := ih _ _ _ _ _ h
    obtain ⟨q, hv, hq⟩ := pkR (rd := none) (P := Try.prog) (fn := Try.f16) (k := 0) (s := (n_profile_web_circle_l0_0_h a0 y1 y2 x17 x4)) (ans := [.reg (.n :: []), .br true, .reg (.n :: .n :: .inl (inlF Try.f34 [.reg (nN 4 []), .reg (.n :: .n :: []), .reg (nN 4 []), .sub ⟨[(3, none), (6, none), (7, none), (12, none), (13, none), (14, none)], [none, none, none, none, none, none], []⟩ (.exit 0) (n_profile_web_circle_i34_l0_0_e0 a0 y1 y2 x17 x4 r835), .reg (nN 4 [])]) :: nN 5 []), .reg (.n :: .n :: []), .br false, .reg (.n :: .n :: [])]) (c := ⟨[(1, none), (3, none), (4, none), (16, none), (17, none)], [none, none, none, none], []⟩) (e := .normal) (s1 := (n_profile_web_circle_l0_0_h a0 r835.2.2.1 r835.2.2.2 (w64 (x17 + 1)) r835.1)) (an (an (ti trivial) (an (an (decide_eq_true h782) trivial) (an (an e840 (an (ti (ti trivial)) (an (not_f h841) trivial))) (ti (ti trivial))))) (ti trivial)) (by kernel_rfl)
    cases r with
    | inl r => exact round_next pm pn hv hq h2
    | inr r =>
     exact round_next pm pn hv hq h2
   ·injection h with h; subst h
    exact round_stop (c := ⟨[(2, none)], [], []⟩) (s1 := (n_profile_web_circle_l0_0_e0 a0 ())) pm pn (ans := [.reg (.n :: []), .br true, .reg (.n :: .n :: .inl (inlF Try.f34 [.reg (nN 4 []), .reg (.n :: .n :: []), .reg (nN 4 []), .sub ⟨[(3, none), (6, none), (7, none), (12, none), (13, none), (14, none)], [none, none, none, none, none, none], []⟩ (.exit 0) (n_profile_web_circle_i34_l0_0_e0 a0 y1 y2 x17 x4 r835), .reg (nN 4 [])]) :: nN 5 []), .reg (.n :: .n :: []), .br true, .reg (.n :: [])]) (by kernel_rfl) (by intro e; cases e) (an (an (ti trivial) (an (an (decide_eq_true h782) trivial) (an e840 (an (ti (ti trivial)) (an (not_t (bool_f h841)) (an (ti trivial) trivial)))))) (ti trivial))
  ·injection h with h; subst h
   exact round_stop (c := ⟨[(1, none), (3, none), (4, none)], [none, none, none, none], []⟩) (s1 := (n_profile_web_circle_l0_0_e1 a0 (x4, y1, y2))) pm pn (ans := [.reg (.n :: []), .br false]) (by kernel_rfl) (by intro e; cases e) (an (an (ti trivial) (an (decide_eq_false h782) trivial)) (ti trivial))
def n_profile_web_circle_l1_0_h (a0 : Sweb) (r845 : Int × (List Int) × (List Sleg)) (x30 : Int) (x4 : Int) : VS := ⟨mkA [(3, VV.pt 3 0), (4, vi x4), (29, vi a0.zones), (30, vi x30)], [some ⟨true, 1, c_Sweb a0⟩, some ⟨false, 1, List.map vi r845.2.1⟩, some ⟨false, 4, flatMap c_Sleg r845.2.2⟩, some ⟨true, 1, [VV.rf 1 0 r845.2.1.length, VV.rf 2 0 r845.2.2.length]⟩], .nil⟩
def n_profile_web_circle_l1_0_e0 (a0 : Sweb) (r845 : Int × (List Int) × (List Sleg)) (r : Int) : VS := ⟨mkA [(3, VV.pt 3 0), (4, vi r)], [some ⟨true, 1, c_Sweb a0⟩, some ⟨false, 1, List.map vi r845.2.1⟩, some ⟨false, 4, flatMap c_Sleg r845.2.2⟩, some ⟨true, 1, [VV.rf 1 0 r845.2.1.length, VV.rf 2 0 r845.2.2.length]⟩], .nil⟩
def n_profile_web_circle_l1_0 (k : Nat) (a0 : Sweb) (r845 : Int × (List Int) × (List Sleg)) : Nat -> Int -> Int -> Option (Int)
 | 0, _, _ => none
 | fuel + 1, x30, x4 => if x30 < a0.zones then (if 0 <= x4 /\ x4 < (r845.2.2.length : Int) then (n_profile_web_circle_l1_0 k a0 r845 fuel (w64 (x30 + 1)) ((r845.2.2.getD x4.toNat default).from_)) else none) else (some x4)
theorem n_profile_web_circle_l1_0_ok (k : Nat) (a0 : Sweb) (r845 : Int × (List Int) × (List Sleg)) : ∀ (fuel : Nat) (x30 : Int) (x4 : Int) (r : Int), n_profile_web_circle_l1_0 k a0 r845 fuel x30 x4 = some r -> (VLoop none Try.prog (szF Try.f16) (bodyOf Try.f16 1) (n_profile_web_circle_l1_0_h a0 r845 x30 x4) (.exit 2) (n_profile_web_circle_l1_0_e0 a0 r845 r)) := by
 intro fuel
 induction fuel with
 | zero => intro x30 x4 r h; rw [n_profile_web_circle_l1_0.eq_1] at h; cases h
 | succ fuel ih =>
  intro x30 x4 r h
  rw [n_profile_web_circle_l1_0.eq_2] at h
  rcases ifs h with ⟨h856, h⟩ | ⟨h856, h⟩
  ·obtain ⟨h857, h⟩ := ifn h
   have e858 := (show loadL Try.prog 3 (0 + x4.toNat * 4 + 1) (flatMap c_Sleg r845.2.2) = some (vi ((r845.2.2.getD x4.toNat default).from_)) from (ld_flat ag3 c_Sleg 4 1 len_c_Sleg (by omega) r845.2.2 default h857 (by omega)).trans rfl)
   have e859 := (ti (ti (ti (an h857 (ti (an e858 (ti trivial)))))))
   have h2 := ih _ _ _ h
   obtain ⟨q, hv, hq⟩ := pkR (rd := none) (P := Try.prog) (fn := Try.f16) (k := 1) (s := (n_profile_web_circle_l1_0_h a0 r845 x30 x4)) (ans := [.reg (.n :: []), .br true, .reg (nN 5 (.v (vi ((r845.2.2.getD x4.toNat default).from_)) :: .n :: [])), .reg (.n :: .n :: [])]) (c := ⟨[(3, none), (4, none), (29, none), (30, none)], [none, none, none, none], []⟩) (e := .normal) (s1 := (n_profile_web_circle_l1_0_h a0 r845 (w64 (x30 + 1)) ((r845.2.2.getD x4.toNat default).from_))) (an (an (ti trivial) (an (an (decide_eq_true h856) trivial) (an e859 (ti (ti trivial))))) (ti trivial)) (by kernel_rfl)
   exact round_next pm pn hv hq h2
  ·injection h with h; subst h
   exact round_stop (c := ⟨[(3, none), (4, none)], [none, none, none, none], []⟩) (s1 := (n_profile_web_circle_l1_0_e0 a0 r845 x4)) pm pn (ans := [.reg (.n :: []), .br false]) (by kernel_rfl) (by intro e; cases e) (an (an (ti trivial) (an (decide_eq_false h856) trivial)) (ti trivial))
def n_profile_web_circle_l2_0_h (a0 : Sweb) (r845 : Int × (List Int) × (List Sleg)) (r861 : Int) (y4 : List Int) (x7 : Int) : VS := ⟨mkA [(3, VV.pt 3 0), (4, vi r861), (6, VV.rf 4 0 y4.length), (7, vi x7)], [some ⟨true, 1, c_Sweb a0⟩, some ⟨false, 1, List.map vi r845.2.1⟩, some ⟨false, 4, flatMap c_Sleg r845.2.2⟩, some ⟨true, 1, [VV.rf 1 0 r845.2.1.length, VV.rf 2 0 r845.2.2.length]⟩, some ⟨false, 1, List.map vi y4⟩], .nil⟩
def n_profile_web_circle_l2_0_e0 (a0 : Sweb) (r845 : Int × (List Int) × (List Sleg)) (r861 : Int) (r : (List Int)) : VS := ⟨mkA [(6, VV.rf 4 0 r.length)], [some ⟨true, 1, c_Sweb a0⟩, some ⟨false, 1, List.map vi r845.2.1⟩, some ⟨false, 4, flatMap c_Sleg r845.2.2⟩, some ⟨true, 1, [VV.rf 1 0 r845.2.1.length, VV.rf 2 0 r845.2.2.length]⟩, some ⟨false, 1, List.map vi r⟩], .nil⟩
def n_profile_web_circle_l2_0 (k : Nat) (a0 : Sweb) (r845 : Int × (List Int) × (List Sleg)) (r861 : Int) : Nat -> (List Int) -> Int -> Option ((List Int))
 | 0, _, _ => none
 | fuel + 1, y4, x7 => if x7 = r861 then (some y4) else (if 0 <= x7 /\ x7 < (r845.2.2.length : Int) then (if y4.length + ([(r845.2.2.getD x7.toNat default).signed] : List Int).length <= 1000000000 then (n_profile_web_circle_l2_0 k a0 r845 r861 fuel (y4 ++ ([(r845.2.2.getD x7.toNat default).signed] : List Int)) ((r845.2.2.getD x7.toNat default).from_)) else none) else none)
theorem n_profile_web_circle_l2_0_ok (k : Nat) (a0 : Sweb) (r845 : Int × (List Int) × (List Sleg)) (r861 : Int) : ∀ (fuel : Nat) (y4 : List Int) (x7 : Int) (r : (List Int)), n_profile_web_circle_l2_0 k a0 r845 r861 fuel y4 x7 = some r -> (VLoop none Try.prog (szF Try.f16) (bodyOf Try.f16 2) (n_profile_web_circle_l2_0_h a0 r845 r861 y4 x7) (.exit 4) (n_profile_web_circle_l2_0_e0 a0 r845 r861 r)) := by
 intro fuel
 induction fuel with
 | zero => intro y4 x7 r h; rw [n_profile_web_circle_l2_0.eq_1] at h; cases h
 | succ fuel ih =>
  intro y4 x7 r h
  rw [n_profile_web_circle_l2_0.eq_2] at h
  rcases ifs h with ⟨h884, h⟩ | ⟨h884, h⟩
  ·injection h with h; subst h
   exact round_stop (c := ⟨[(6, none)], [none, none, none, none, none], []⟩) (s1 := (n_profile_web_circle_l2_0_e0 a0 r845 r861 y4)) pm pn (ans := [.reg (nN 3 []), .br false]) (by kernel_rfl) (by intro e; cases e) (an (an (ti (ti (ti trivial))) (an (not_f (decide_eq_true h884)) trivial)) (ti trivial))
  ·obtain ⟨h885, h⟩ := ifn h
   have e886 := (show loadL Try.prog 3 (0 + x7.toNat * 4 + 0) (flatMap c_Sleg r845.2.2) = some (vi ((r845.2.2.getD x7.toNat default).signed)) from (ld_flat ag3 c_Sleg 4 0 len_c_Sleg (by omega) r845.2.2 default h885 (by omega)).trans rfl)
   obtain ⟨h887, h⟩ := ifn h
   have e888 := (show List.length (List.map vi y4) = y4.length * 1 /\ List.length [vi ((r845.2.2.getD x7.toNat default).signed)] = 1 * 1 /\ (y4.length + 1) * 8 <= 140737488355328 /\ y4.length + 1 < 1099511627776 /\ List.all [vi ((r845.2.2.getD x7.toNat default).signed)] VV.still = true from ⟨(by simp), (by rw [show [vi ((r845.2.2.getD x7.toNat default).signed)] = List.map vi ([(r845.2.2.getD x7.toNat default).signed] : List Int) from rfl]; simp), (by first | omega | (simp at h887 ⊢; omega)), (by first | omega | (simp at h887 ⊢; omega)), (by rw [show [vi ((r845.2.2.getD x7.toNat default).signed)] = List.map vi ([(r845.2.2.getD x7.toNat default).signed] : List Int) from rfl]; exact still_vi _)⟩)
   have e889 := (ti (ti (ti (ti (an h885 (ti (an e886 (ti (an e888 (ti trivial))))))))))
   have e890 := (show loadL Try.prog 3 (0 + x7.toNat * 4 + 1) (flatMap c_Sleg r845.2.2) = some (vi ((r845.2.2.getD x7.toNat default).from_)) from (ld_flat ag3 c_Sleg 4 1 len_c_Sleg (by omega) r845.2.2 default h885 (by omega)).trans rfl)
   have e891 := (ti (ti (ti (an h885 (ti (an e890 (ti trivial)))))))
   have h2 := ih _ _ _ h
   obtain ⟨q, hv, hq⟩ := pkR (rd := none) (P := Try.prog) (fn := Try.f16) (k := 2) (s := (n_profile_web_circle_l2_0_h a0 r845 r861 y4 x7)) (ans := [.reg (nN 3 []), .br true, .reg (nN 6 (.v (vi ((r845.2.2.getD x7.toNat default).signed)) :: nN 3 [])), .reg (nN 5 (.v (vi ((r845.2.2.getD x7.toNat default).from_)) :: .n :: []))]) (c := ⟨[(3, none), (4, none), (6, some (VV.rf 4 0 ((y4 ++ ([(r845.2.2.getD x7.toNat default).signed] : List Int)).length))), (7, none)], [none, none, none, none, some (List.map vi (y4 ++ ([(r845.2.2.getD x7.toNat default).signed] : List Int)))], []⟩) (e := .normal) (s1 := (n_profile_web_circle_l2_0_h a0 r845 r861 (y4 ++ ([(r845.2.2.getD x7.toNat default).signed] : List Int)) ((r845.2.2.getD x7.toNat default).from_))) (an (an (an (ti (ti (ti trivial))) (an (not_t (decide_eq_false h884)) trivial)) (an e889 e891)) (an (an (show Wv (VV.rf 4 0 (y4.length + 1)) (VV.rf 4 0 ((y4 ++ ([(r845.2.2.getD x7.toNat default).signed] : List Int)).length)) from (Wv.of_eq (by simp))) trivial) (an (show (List.map vi y4) ++ [vi ((r845.2.2.getD x7.toNat default).signed)] = List.map vi (y4 ++ ([(r845.2.2.getD x7.toNat default).signed] : List Int)) from (by rw [show [vi ((r845.2.2.getD x7.toNat default).signed)] = List.map vi ([(r845.2.2.getD x7.toNat default).signed] : List Int) from rfl]; exact List.map_append.symm)) trivial))) (by kernel_rfl)
   exact round_next pm pn hv hq h2
def n_profile_web_circle_i35_l0_0_h (a0 : Sweb) (r845 : Int × (List Int) × (List Sleg)) (r893 : (List Int)) (y4 : List Int) (x2 : Int) (x3 : Int) : VS := ⟨mkA [(0, VV.rf 4 0 y4.length), (2, vi x2), (3, vi x3)], [some ⟨true, 1, c_Sweb a0⟩, some ⟨false, 1, List.map vi r845.2.1⟩, some ⟨false, 4, flatMap c_Sleg r845.2.2⟩, some ⟨true, 1, [VV.rf 1 0 r845.2.1.length, VV.rf 2 0 r845.2.2.length]⟩, some ⟨false, 1, List.map vi y4⟩], (.node none (mkA [(6, VV.rf 4 0 r893.length), (70, VV.rf 4 0 r893.length)]) .nil)⟩
def n_profile_web_circle_i35_l0_0_e0 (a0 : Sweb) (r845 : Int × (List Int) × (List Sleg)) (r893 : (List Int)) (r : (List Int)) : VS := ⟨mkA [], [some ⟨true, 1, c_Sweb a0⟩, some ⟨false, 1, List.map vi r845.2.1⟩, some ⟨false, 4, flatMap c_Sleg r845.2.2⟩, some ⟨true, 1, [VV.rf 1 0 r845.2.1.length, VV.rf 2 0 r845.2.2.length]⟩, some ⟨false, 1, List.map vi r⟩], (.node none (mkA [(6, VV.rf 4 0 r893.length), (70, VV.rf 4 0 r893.length)]) .nil)⟩
def n_profile_web_circle_i35_l0_0 (k : Nat) (a0 : Sweb) (r845 : Int × (List Int) × (List Sleg)) (r893 : (List Int)) : Nat -> (List Int) -> Int -> Int -> Option ((List Int))
 | 0, _, _, _ => none
 | fuel + 1, y4, x2, x3 => if x2 < x3 then (if 0 <= x3 /\ x3 < (y4.length : Int) then (if 0 <= x2 /\ x2 < (y4.length : Int) then (if 0 <= x3 /\ x3 < ((y4.set x2.toNat (y4.getD x3.toNat 0)).length : Int) then (if x3 < ((y4.length : Nat) : Int) then (n_profile_web_circle_i35_l0_0 k a0 r845 r893 fuel ((y4.set x2.toNat (y4.getD x3.toNat 0)).set x3.toNat (y4.getD x2.toNat 0)) (w64 (x2 + 1)) (w64 (x3 - 1))) else none) else none) else none) else none) else (some y4)
theorem n_profile_web_circle_i35_l0_0_ok (k : Nat) (a0 : Sweb) (r845 : Int × (List Int) × (List Sleg)) (r893 : (List Int)) : ∀ (fuel : Nat) (y4 : List Int) (x2 : Int) (x3 : Int) (r : (List Int)), n_profile_web_circle_i35_l0_0 k a0 r845 r893 fuel y4 x2 x3 = some r -> (VLoop none Try.prog (szF Try.f35) (bodyOf Try.f35 0) (n_profile_web_circle_i35_l0_0_h a0 r845 r893 y4 x2 x3) (.exit 0) (n_profile_web_circle_i35_l0_0_e0 a0 r845 r893 r)) := by
 intro fuel
 induction fuel with
 | zero => intro y4 x2 x3 r h; rw [n_profile_web_circle_i35_l0_0.eq_1] at h; cases h
 | succ fuel ih =>
  intro y4 x2 x3 r h
  rw [n_profile_web_circle_i35_l0_0.eq_2] at h
  rcases ifs h with ⟨h917, h⟩ | ⟨h917, h⟩
  ·obtain ⟨h918, h⟩ := ifn h
   have e919 := (show loadL Try.prog 3 (0 + x3.toNat * 1) (List.map vi y4) = some (vi (y4.getD x3.toNat 0)) from ld_map ag3 vi y4 0 h918 (by omega))
   obtain ⟨h920, h⟩ := ifn h
   have e921 := (show loadL Try.prog 3 (0 + x2.toNat * 1) (List.map vi y4) = some (vi (y4.getD x2.toNat 0)) from ld_map ag3 vi y4 0 h920 (by omega))
   have e922 := (show (0 + x2.toNat * 1) + 1 <= List.length (List.map vi y4) from (by simp only [length_map]; omega))
   obtain ⟨h923, h⟩ := ifn h
   obtain ⟨h924, h⟩ := ifn h
   have e925 := (show 0 <= x3 /\ x3 < ((y4.length : Nat) : Int) from ⟨h923.1, h924⟩)
   have e926 := (show (0 + x3.toNat * 1) + 1 <= List.length (putT (0 + x2.toNat * 1) (List.map vi y4) [vi (y4.getD x3.toNat 0)]) from (by rw [show putT (0 + x2.toNat * 1) (List.map vi y4) [vi (y4.getD x3.toNat 0)] = List.map vi (y4.set x2.toNat (y4.getD x3.toNat 0)) from (by exact putT_vi y4 h920 (y4.getD x3.toNat 0) (by omega))]; simp only [length_map]; omega))
   have e927 := (ti (ti (ti (ti (ti (ti (an h918 (an e919 (ti (ti (an h920 (an e921 (an h920 (an e922 (an e925 (an e926 trivial))))))))))))))))
   have h2 := ih _ _ _ _ h
   obtain ⟨q, hv, hq⟩ := pkR (rd := none) (P := Try.prog) (fn := Try.f35) (k := 0) (s := (n_profile_web_circle_i35_l0_0_h a0 r845 r893 y4 x2 x3)) (ans := [.reg (nN 3 []), .br true, .reg (nN 7 (.v (vi (y4.getD x3.toNat 0)) :: nN 3 (.v (vi (y4.getD x2.toNat 0)) :: nN 4 []))), .reg (nN 6 [])]) (c := ⟨[(0, some (VV.rf 4 0 (((y4.set x2.toNat (y4.getD x3.toNat 0)).set x3.toNat (y4.getD x2.toNat 0)).length))), (2, none), (3, none)], [none, none, none, none, some (List.map vi ((y4.set x2.toNat (y4.getD x3.toNat 0)).set x3.toNat (y4.getD x2.toNat 0)))], []⟩) (e := .normal) (s1 := (n_profile_web_circle_i35_l0_0_h a0 r845 r893 ((y4.set x2.toNat (y4.getD x3.toNat 0)).set x3.toNat (y4.getD x2.toNat 0)) (w64 (x2 + 1)) (w64 (x3 - 1)))) (an (an (an (ti (ti (ti trivial))) (an (decide_eq_true h917) trivial)) (an e927 (ti (ti (ti (ti (ti (ti trivial)))))))) (an (an (show Wv (VV.rf 4 0 y4.length) (VV.rf 4 0 (((y4.set x2.toNat (y4.getD x3.toNat 0)).set x3.toNat (y4.getD x2.toNat 0)).length)) from (Wv.of_eq (by simp))) trivial) (an (show putT (0 + x3.toNat * 1) (putT (0 + x2.toNat * 1) (List.map vi y4) [vi (y4.getD x3.toNat 0)]) [vi (y4.getD x2.toNat 0)] = List.map vi ((y4.set x2.toNat (y4.getD x3.toNat 0)).set x3.toNat (y4.getD x2.toNat 0)) from (by rw [show putT (0 + x2.toNat * 1) (List.map vi y4) [vi (y4.getD x3.toNat 0)] = List.map vi (y4.set x2.toNat (y4.getD x3.toNat 0)) from (by exact putT_vi y4 h920 (y4.getD x3.toNat 0) (by omega))]; exact putT_vi (y4.set x2.toNat (y4.getD x3.toNat 0)) h923 (y4.getD x2.toNat 0) (by omega))) trivial))) (by kernel_rfl)
   exact round_next pm pn hv hq h2
  ·injection h with h; subst h
   exact round_stop (c := ⟨[], [none, none, none, none, none], []⟩) (s1 := (n_profile_web_circle_i35_l0_0_e0 a0 r845 r893 y4)) pm pn (ans := [.reg (nN 3 []), .br false]) (by kernel_rfl) (by intro e; cases e) (an (an (ti (ti (ti trivial))) (an (decide_eq_false h917) trivial)) (ti trivial))
def n_profile_web_circle (k : Nat) (a0 : Sweb) : Option (List Int) :=
 if 0 <= a0.zones /\ a0.zones <= 1000000000 then ((n_profile_web_circle_l0_0 k a0 k (List.replicate a0.zones.toNat (0 : Int)) (List.replicate a0.zones.toNat (⟨0, 0, 0, 0⟩ : Sleg)) 0 0).bind fun r843 => (match r843 with | .inl r844 => (some []) | .inr r845 => ((n_profile_web_circle_l1_0 k a0 r845 k 0 r845.1).bind fun r861 => (if 0 <= r861 /\ r861 < (r845.2.2.length : Int) then ((n_profile_web_circle_l2_0 k a0 r845 r861 k ([(r845.2.2.getD r861.toNat default).signed] : List Int) ((r845.2.2.getD r861.toNat default).from_)).bind fun r893 => ((n_profile_web_circle_i35_l0_0 k a0 r845 r893 k r893 0 (w64 (((r893.length : Nat) : Int) - 1))).bind fun r929 => (if r929.length = r893.length then (some r929) else none))) else none)))) else none
theorem n_profile_web_circle_ok (k : Nat) (a0 : Sweb) (r : (List Int)) (h : n_profile_web_circle k a0 = some r) : VC Try.prog 16 [VV.ag (c_Sweb a0)] (VV.fw 1 (List.map vi r) r.length) := by
 unfold n_profile_web_circle at h
 obtain ⟨h651, h⟩ := ifn h
 have e652 := (show 0 <= a0.zones /\ a0.zones = a0.zones /\ (8 * a0.zones.toNat) <= 281474976710656 /\ a0.zones < 1099511627776 from ⟨by omega, rfl, by omega, by omega⟩)
 have e653 := (show 0 <= a0.zones /\ a0.zones = a0.zones /\ (32 * a0.zones.toNat) <= 281474976710656 /\ a0.zones < 1099511627776 from ⟨by omega, rfl, by omega, by omega⟩)
 have e654 := (ti (ti (an e652 (ti (ti (an e653 (ti (ti (ti trivial)))))))))
 obtain ⟨r843, h842, h⟩ := bs h
 have hph842 := n_profile_web_circle_l0_0_ok k a0 _ _ _ _ _ _ h842
 cases r843 with
 | inl r844 =>
  dsimp only at h
  have e846 := (an (ti (an (show List.replicate a0.zones.toNat (VV.c (.int .i64 0)) = List.map vi (List.replicate a0.zones.toNat (0 : Int)) from replicate_vi _) (an (show zeroCells (.agg #[.int .i64 0, .int .i64 0, .int .i64 0, .int .i64 0]) (a0.zones.toNat * 4) = flatMap c_Sleg (List.replicate a0.zones.toNat (⟨0, 0, 0, 0⟩ : Sleg)) from zero_flat c_Sleg (.agg #[.int .i64 0, .int .i64 0, .int .i64 0, .int .i64 0]) (⟨0, 0, 0, 0⟩ : Sleg) 4 (by decide) rfl rfl _) (an (show [VV.rf 1 0 a0.zones.toNat, VV.rf 2 0 a0.zones.toNat] = [VV.rf 1 0 ((List.replicate a0.zones.toNat (0 : Int)).length), VV.rf 2 0 ((List.replicate a0.zones.toNat (⟨0, 0, 0, 0⟩ : Sleg)).length)] from (by first | rfl | simp)) trivial)))) (VRun.loop hph842))
  injection h with h; subst h
  exact fun_ok pm pn Try.func16 (r0 := VV.c (.slice none 0 0)) (ans := [.reg (.n :: .n :: []), .reg (nN 9 []), .reg (.n :: .n :: []), .reg (nN 3 []), .sub ⟨[(1, none), (3, none), (4, none), (16, none), (17, none)], [none, some (List.map vi (List.replicate a0.zones.toNat (0 : Int))), some (flatMap c_Sleg (List.replicate a0.zones.toNat (⟨0, 0, 0, 0⟩ : Sleg))), some [VV.rf 1 0 ((List.replicate a0.zones.toNat (0 : Int)).length), VV.rf 2 0 ((List.replicate a0.zones.toNat (⟨0, 0, 0, 0⟩ : Sleg)).length)]], []⟩ .ret (n_profile_web_circle_l0_0_e0 a0 r844)]) (fr := true) (by kernel_rfl) (an (an (ti (ti trivial)) (an e654 (an (ti (ti trivial)) (an (ti (ti (ti trivial))) e846)))) (ti trivial)) Wv.nilFw
 | inr r845 =>
  dsimp only at h
  have e847 := (an (ti (an (show List.replicate a0.zones.toNat (VV.c (.int .i64 0)) = List.map vi (List.replicate a0.zones.toNat (0 : Int)) from replicate_vi _) (an (show zeroCells (.agg #[.int .i64 0, .int .i64 0, .int .i64 0, .int .i64 0]) (a0.zones.toNat * 4) = flatMap c_Sleg (List.replicate a0.zones.toNat (⟨0, 0, 0, 0⟩ : Sleg)) from zero_flat c_Sleg (.agg #[.int .i64 0, .int .i64 0, .int .i64 0, .int .i64 0]) (⟨0, 0, 0, 0⟩ : Sleg) 4 (by decide) rfl rfl _) (an (show [VV.rf 1 0 a0.zones.toNat, VV.rf 2 0 a0.zones.toNat] = [VV.rf 1 0 ((List.replicate a0.zones.toNat (0 : Int)).length), VV.rf 2 0 ((List.replicate a0.zones.toNat (⟨0, 0, 0, 0⟩ : Sleg)).length)] from (by first | rfl | simp)) trivial)))) (VRun.loop hph842))
  obtain ⟨r861, h860, h⟩ := bs h
  have hph860 := n_profile_web_circle_l1_0_ok k a0 r845 _ _ _ _ h860
  have e862 := (an (ti trivial) (VRun.loop hph860))
  obtain ⟨h863, h⟩ := ifn h
  have e864 := (show loadL Try.prog 3 (0 + r861.toNat * 4 + 0) (flatMap c_Sleg r845.2.2) = some (vi ((r845.2.2.getD r861.toNat default).signed)) from (ld_flat ag3 c_Sleg 4 0 len_c_Sleg (by omega) r845.2.2 default h863 (by omega)).trans rfl)
  have e865 := (ti (ti (ti (an h863 (ti (an e864 (ti (ti trivial))))))))
  have e866 := (show loadL Try.prog 3 (0 + r861.toNat * 4 + 1) (flatMap c_Sleg r845.2.2) = some (vi ((r845.2.2.getD r861.toNat default).from_)) from (ld_flat ag3 c_Sleg 4 1 len_c_Sleg (by omega) r845.2.2 default h863 (by omega)).trans rfl)
  have e867 := (ti (ti (ti (an h863 (ti (an e866 (ti trivial)))))))
  obtain ⟨r893, h892, h⟩ := bs h
  have hph892 := n_profile_web_circle_l2_0_ok k a0 r845 r861 _ _ _ _ h892
  have e894 := (an (an (an (show Wv (VV.rf 4 0 1) (VV.rf 4 0 (([(r845.2.2.getD r861.toNat default).signed] : List Int).length)) from (Wv.of_eq (by simp))) trivial) (an (show [vi ((r845.2.2.getD r861.toNat default).signed)] = List.map vi ([(r845.2.2.getD r861.toNat default).signed] : List Int) from rfl) trivial)) (VRun.loop hph892))
  obtain ⟨r929, h928, h⟩ := bs h
  have hph928 := n_profile_web_circle_i35_l0_0_ok k a0 r845 r893 _ _ _ _ _ h928
  have e930 := (an (ti trivial) (VRun.loop hph928))
  obtain ⟨h931, h⟩ := ifn h
  have e932 := (an (an Try.func35 (an (ti (ti (ti (ti (ti trivial))))) e930)) trivial)
  injection h with h; subst h
  exact fun_ok pm pn Try.func16 (r0 := VV.fw 1 (List.drop 0 (List.map unfr (List.map vi r929))) r893.length) (ans := [.reg (.n :: .n :: []), .reg (nN 9 []), .reg (.n :: .n :: []), .reg (nN 3 []), .sub ⟨[(1, none), (3, none), (4, none), (16, none), (17, none)], [none, some (List.map vi (List.replicate a0.zones.toNat (0 : Int))), some (flatMap c_Sleg (List.replicate a0.zones.toNat (⟨0, 0, 0, 0⟩ : Sleg))), some [VV.rf 1 0 ((List.replicate a0.zones.toNat (0 : Int)).length), VV.rf 2 0 ((List.replicate a0.zones.toNat (⟨0, 0, 0, 0⟩ : Sleg)).length)]], []⟩ (.exit 0) (n_profile_web_circle_l0_0_e1 a0 r845), .reg (nN 3 []), .sub ⟨[(3, none), (4, none), (29, none), (30, none)], [none, none, none, none], []⟩ (.exit 2) (n_profile_web_circle_l1_0_e0 a0 r845 r861), .reg (nN 5 (.v (vi ((r845.2.2.getD r861.toNat default).signed)) :: .n :: .n :: [])), .reg (nN 5 (.v (vi ((r845.2.2.getD r861.toNat default).from_)) :: .n :: [])), .sub ⟨[(3, none), (4, none), (6, some (VV.rf 4 0 (([(r845.2.2.getD r861.toNat default).signed] : List Int).length))), (7, none)], [none, none, none, none, some (List.map vi ([(r845.2.2.getD r861.toNat default).signed] : List Int))], []⟩ (.exit 4) (n_profile_web_circle_l2_0_e0 a0 r845 r861 r893), .reg (.n :: .inl (inlF Try.f35 [.reg (nN 5 []), .sub ⟨[(0, none), (2, none), (3, none)], [none, none, none, none, none], []⟩ (.exit 0) (n_profile_web_circle_i35_l0_0_e0 a0 r845 r893 r929)]) :: []), .reg (.n :: .n :: [])]) (fr := true) (by kernel_rfl) (an (an (ti (ti trivial)) (an e654 (an (ti (ti trivial)) (an (an (ti (ti (ti trivial))) e847) (an (an (ti (ti (ti trivial))) e862) (an e865 (an (an e867 e894) (an (ti (an e932 trivial)) (an (ti (ti trivial)) trivial))))))))) (an (show List.all (List.map vi r929) new0 = true from (by exact new0_vi _)) trivial)) (Wv.of_eq (by simp only [h931, drop0, unfr_vi, unfr_vb, unfr_vs, map_cons, map_nil, un_i, un_k, un_b, un_s, un_tr, un_fr, length_map, length_replicate, length_append, List.length_set, length_cons, length_nil, Nat.zero_add, unfr_c_SHeightReading, unfr_c_SRange, unfr_c_Sleg, unfr_c_Sweb, unfr_g_Sweb]))
def nmath_bits_Mul64 (k : Nat) (a0 : Int) (a1 : Int) : Option (Int × Int) :=
 some (IntKind.u64.wrap ((IntKind.u64.wrap ((IntKind.u64.wrap ((a0.fdiv (2 ^ (min (32 : Int).toNat 64))) * (a1.fdiv (2 ^ (min (32 : Int).toNat 64))))) + ((IntKind.u64.wrap ((IntKind.u64.wrap ((a0.fdiv (2 ^ (min (32 : Int).toNat 64))) * (bits2 (fun _ x y => x &&& y) .u64 a1 4294967295))) + ((IntKind.u64.wrap ((bits2 (fun _ x y => x &&& y) .u64 a0 4294967295) * (bits2 (fun _ x y => x &&& y) .u64 a1 4294967295))).fdiv (2 ^ (min (32 : Int).toNat 64))))).fdiv (2 ^ (min (32 : Int).toNat 64))))) + ((IntKind.u64.wrap ((bits2 (fun _ x y => x &&& y) .u64 (IntKind.u64.wrap ((IntKind.u64.wrap ((a0.fdiv (2 ^ (min (32 : Int).toNat 64))) * (bits2 (fun _ x y => x &&& y) .u64 a1 4294967295))) + ((IntKind.u64.wrap ((bits2 (fun _ x y => x &&& y) .u64 a0 4294967295) * (bits2 (fun _ x y => x &&& y) .u64 a1 4294967295))).fdiv (2 ^ (min (32 : Int).toNat 64))))) 4294967295) + (IntKind.u64.wrap ((bits2 (fun _ x y => x &&& y) .u64 a0 4294967295) * (a1.fdiv (2 ^ (min (32 : Int).toNat 64))))))).fdiv (2 ^ (min (32 : Int).toNat 64)))), IntKind.u64.wrap (a0 * a1))
theorem nmath_bits_Mul64_ok (k : Nat) (a0 : Int) (a1 : Int) (r : (Int × Int)) (h : nmath_bits_Mul64 k a0 a1 = some r) : VC Try.prog 62 [VV.c (.int .u64 a0), VV.c (.int .u64 a1)] (VV.tu [VV.c (.int .u64 r.1), VV.c (.int .u64 r.2)]) := by
 unfold nmath_bits_Mul64 at h
 have e939 := (ti (an (show (0 : Int) <= 32 from (by decide)) (ti trivial)))
 have e940 := (ti (an (show (0 : Int) <= 32 from (by decide)) (ti trivial)))
 have e941 := (ti (ti (ti (ti (an (show (0 : Int) <= 32 from (by decide)) (ti (ti trivial)))))))
 have e942 := (ti (an (show (0 : Int) <= 32 from (by decide)) (ti trivial)))
 have e943 := (ti (ti (ti (ti (ti (ti (an (show (0 : Int) <= 32 from (by decide)) (ti (ti trivial)))))))))
 injection h with h; subst h
 exact fun_ok pm pn Try.func62 (r0 := VV.tu [VV.c (.int .u64 (IntKind.u64.wrap ((IntKind.u64.wrap ((IntKind.u64.wrap ((a0.fdiv (2 ^ (min (32 : Int).toNat 64))) * (a1.fdiv (2 ^ (min (32 : Int).toNat 64))))) + ((IntKind.u64.wrap ((IntKind.u64.wrap ((a0.fdiv (2 ^ (min (32 : Int).toNat 64))) * (bits2 (fun _ x y => x &&& y) .u64 a1 4294967295))) + ((IntKind.u64.wrap ((bits2 (fun _ x y => x &&& y) .u64 a0 4294967295) * (bits2 (fun _ x y => x &&& y) .u64 a1 4294967295))).fdiv (2 ^ (min (32 : Int).toNat 64))))).fdiv (2 ^ (min (32 : Int).toNat 64))))) + ((IntKind.u64.wrap ((bits2 (fun _ x y => x &&& y) .u64 (IntKind.u64.wrap ((IntKind.u64.wrap ((a0.fdiv (2 ^ (min (32 : Int).toNat 64))) * (bits2 (fun _ x y => x &&& y) .u64 a1 4294967295))) + ((IntKind.u64.wrap ((bits2 (fun _ x y => x &&& y) .u64 a0 4294967295) * (bits2 (fun _ x y => x &&& y) .u64 a1 4294967295))).fdiv (2 ^ (min (32 : Int).toNat 64))))) 4294967295) + (IntKind.u64.wrap ((bits2 (fun _ x y => x &&& y) .u64 a0 4294967295) * (a1.fdiv (2 ^ (min (32 : Int).toNat 64))))))).fdiv (2 ^ (min (32 : Int).toNat 64)))))), VV.c (.int .u64 (IntKind.u64.wrap (a0 * a1)))]) (ans := [.reg (.n :: .n :: []), .reg (nN 3 []), .reg (nN 3 []), .reg (nN 3 []), .reg (nN 3 []), .reg (nN 4 []), .reg (nN 7 []), .reg (nN 3 []), .reg (nN 3 []), .reg (nN 6 []), .reg (nN 9 []), .reg (nN 4 [])]) (fr := true) (by kernel_rfl) (an (an (ti (ti trivial)) (an (ti (ti (ti trivial))) (an e939 (an (ti (ti (ti trivial))) (an e940 (an (ti (ti (ti (ti trivial)))) (an e941 (an (ti (ti (ti trivial))) (an e942 (an (ti (ti (ti (ti (ti (ti trivial)))))) (an e943 (an (ti (ti (ti (ti trivial)))) trivial)))))))))))) (ti (ti trivial))) (Wv.refl _)
def nmath_bits_Mul (k : Nat) (a0 : Int) (a1 : Int) : Option (Int × Int) :=
 (nmath_bits_Mul64 k a0 a1).bind fun r947 => (some (r947.1, r947.2))
theorem nmath_bits_Mul_ok (k : Nat) (a0 : Int) (a1 : Int) (r : (Int × Int)) (h : nmath_bits_Mul k a0 a1 = some r) : VC Try.prog 58 [VV.c (.int .u64 a0), VV.c (.int .u64 a1)] (VV.tu [VV.c (.int .u64 r.1), VV.c (.int .u64 r.2)]) := by
 unfold nmath_bits_Mul at h
 obtain ⟨r947, h948, h⟩ := bs h
 have e949 := (ti (ti (an (nmath_bits_Mul64_ok k a0 a1 _ h948) (ti (ti (ti (ti (ti trivial))))))))
 injection h with h; subst h
 exact fun_ok pm pn Try.func58 (r0 := VV.tu [VV.c (.int .u64 r947.1), VV.c (.int .u64 r947.2)]) (ans := [.reg (.n :: .n :: []), .br false, .reg (.n :: .n :: .call (VV.tu [VV.c (.int .u64 r947.1), VV.c (.int .u64 r947.2)]) :: nN 5 []), .reg (nN 4 [])]) (fr := true) (by kernel_rfl) (an (an (ti (ti trivial)) (an (an rf trivial) (an e949 (an (ti (ti (ti (ti trivial)))) trivial)))) (ti (ti trivial))) (Wv.refl _)
def nslices_Repeat_int_int__l0_0_h  (y0 : List Int) (x8 : Int) : VS := ⟨mkA [(7, VV.rf 0 0 y0.length), (8, vi x8)], [some ⟨false, 1, List.map vi y0⟩], .nil⟩
def nslices_Repeat_int_int__l0_0_e0  (r : (List Int)) : VS := ⟨mkA [(7, VV.rf 0 0 r.length)], [some ⟨false, 1, List.map vi r⟩], .nil⟩
def nslices_Repeat_int_int__l0_0 (k : Nat)  : Nat -> (List Int) -> Int -> Option ((List Int))
 | 0, _, _ => none
 | fuel + 1, y0, x8 => if x8 < ((y0.length : Nat) : Int) then (if 0 <= x8 /\ (x8).toNat <= y0.length then (if 0 <= x8 /\ x8 <= (y0.length : Int) then (if 0 < y0.length - (x8).toNat /\ 0 < (x8).toNat - 0 /\ ((x8).toNat) + (y0.length - (x8).toNat) <= y0.length /\ 0 + ((x8).toNat - 0) <= y0.length then (nslices_Repeat_int_int__l0_0 k  fuel (cpy y0 ((x8).toNat) (y0.drop 0) (Nat.min ((x8).toNat - 0) (y0.length - (x8).toNat))) (w64 (x8 + ((Nat.min ((x8).toNat - 0) (y0.length - (x8).toNat) : Nat) : Int)))) else none) else none) else none) else (some y0)
theorem nslices_Repeat_int_int__l0_0_ok (k : Nat)  : ∀ (fuel : Nat) (y0 : List Int) (x8 : Int) (r : (List Int)), nslices_Repeat_int_int__l0_0 k  fuel y0 x8 = some r -> (VLoop none Try.prog (szF Try.f52) (bodyOf Try.f52 0) (nslices_Repeat_int_int__l0_0_h  y0 x8) (.exit 0) (nslices_Repeat_int_int__l0_0_e0  r)) := by
 intro fuel
 induction fuel with
 | zero => intro y0 x8 r h; rw [nslices_Repeat_int_int__l0_0.eq_1] at h; cases h
 | succ fuel ih =>
  intro y0 x8 r h
  rw [nslices_Repeat_int_int__l0_0.eq_2] at h
  rcases ifs h with ⟨h1018, h⟩ | ⟨h1018, h⟩
  ·obtain ⟨h1019, h⟩ := ifn h
   have e1020 := (show 0 <= x8 /\ True /\ (x8).toNat <= y0.length /\ y0.length <= y0.length from ⟨h1019.1, trivial, by have := h1019; omega, Nat.le_refl _⟩)
   obtain ⟨h1021, h⟩ := ifn h
   have e1022 := (show True /\ 0 <= x8 /\ 0 <= (x8).toNat /\ (x8).toNat <= y0.length from ⟨trivial, h1021.1, by omega, by have := h1021; first | omega | (simp only [length_map, length_replicate, length_append, List.length_set, length_cons, length_nil] at this ⊢; omega)⟩)
   obtain ⟨h1023, h⟩ := ifn h
   have e1024 := (show 0 + ((x8).toNat - 0) * 1 <= List.length (List.map vi y0) /\ 0 < y0.length - (x8).toNat /\ 0 < (x8).toNat - 0 /\ (0 + (x8).toNat * 1) + (y0.length - (x8).toNat) * 1 <= List.length (List.map vi y0) /\ List.all (List.take (((x8).toNat - 0) * 1) (List.drop 0 (List.map vi y0))) VV.still = true from ⟨(by simp only [length_map]; have := h1023; omega), h1023.1, h1023.2.1, (by simp only [length_map]; have := h1023; omega), (all_td (by exact still_vi _) _ _)⟩)
   have e1025 := (ti (ti (ti (an e1020 (ti (ti (an e1022 (an e1024 (ti (ti trivial))))))))))
   have h2 := ih _ _ _ h
   obtain ⟨q, hv, hq⟩ := pkR (rd := none) (P := Try.prog) (fn := Try.f52) (k := 0) (s := (nslices_Repeat_int_int__l0_0_h  y0 x8)) (ans := [.reg (nN 4 []), .br true, .reg (nN 10 [])]) (c := ⟨[(7, some (VV.rf 0 0 ((cpy y0 ((x8).toNat) (y0.drop 0) (Nat.min ((x8).toNat - 0) (y0.length - (x8).toNat))).length))), (8, none)], [some (List.map vi (cpy y0 ((x8).toNat) (y0.drop 0) (Nat.min ((x8).toNat - 0) (y0.length - (x8).toNat))))], []⟩) (e := .normal) (s1 := (nslices_Repeat_int_int__l0_0_h  (cpy y0 ((x8).toNat) (y0.drop 0) (Nat.min ((x8).toNat - 0) (y0.length - (x8).toNat))) (w64 (x8 + ((Nat.min ((x8).toNat - 0) (y0.length - (x8).toNat) : Nat) : Int))))) (an (an (an (ti (ti (ti (ti trivial)))) (an (decide_eq_true h1018) trivial)) e1025) (an (an (show Wv (VV.rf 0 0 y0.length) (VV.rf 0 0 ((cpy y0 ((x8).toNat) (y0.drop 0) (Nat.min ((x8).toNat - 0) (y0.length - (x8).toNat))).length)) from (Wv.of_eq (by simp [cpy_len]))) trivial) (an (show putT (0 + (x8).toNat * 1) (List.map vi y0) (List.take (Nat.min ((x8).toNat - 0) (y0.length - (x8).toNat) * 1) (List.take (((x8).toNat - 0) * 1) (List.drop 0 (List.map vi y0)))) = List.map vi (cpy y0 ((x8).toNat) (y0.drop 0) (Nat.min ((x8).toNat - 0) (y0.length - (x8).toNat))) from (by exact putT_cpy vi y0 y0 0 ((x8).toNat - 0) (y0.length - (x8).toNat) h1023)) trivial))) (by kernel_rfl)
   exact round_next pm pn hv hq h2
  ·injection h with h; subst h
   exact round_stop (c := ⟨[(7, none)], [none], []⟩) (s1 := (nslices_Repeat_int_int__l0_0_e0  y0)) pm pn (ans := [.reg (nN 4 []), .br false]) (by kernel_rfl) (by intro e; cases e) (an (an (ti (ti (ti (ti trivial)))) (an (decide_eq_false h1018) trivial)) (ti trivial))
theorem eqW1_6 (z0 : (List Int)) : VV.fw 1 (List.drop 0 (List.map unfr (List.map vi z0))) z0.length = VV.fw 1 (List.map vi z0) z0.length := by first | rfl | (simp only [Nat.zero_add, Nat.mul_one, List.map_drop, List.length_drop, drop0, unfr_vi, map_cons, map_nil, un_i, length_map, Nat.zero_add]; done) | (simp only [Nat.zero_add, Nat.mul_one, List.map_drop, List.length_drop, drop0, unfr_vi, map_cons, map_nil, un_i, length_map, Nat.zero_add]; rfl) | (simp only [Nat.zero_add, Nat.mul_one, List.map_drop, List.length_drop, drop0, unfr_vi, map_cons, map_nil, un_i, length_map, Nat.zero_add, length_cons, length_nil, length_append]; done)
def nslices_Repeat_int_int_ (k : Nat) (a0 : (List Int)) (a1 : Int) : Option (List Int) :=
 if a1 < 0 then none else ((nmath_bits_Mul k (IntKind.u64.wrap (a0.length : Int)) (IntKind.u64.wrap a1)).bind fun r990 => (if 0 < r990.1 then none else (if 9223372036854775807 < r990.2 then none else (if 0 <= (w64 r990.2) /\ (w64 r990.2) <= 1000000000 then (if 0 < (w64 r990.2).toNat /\ 0 < a0.length /\ 0 + ((w64 r990.2).toNat) <= (List.replicate (w64 r990.2).toNat (0 : Int)).length /\ 0 + a0.length <= a0.length then ((nslices_Repeat_int_int__l0_0 k k (cpy (List.replicate (w64 r990.2).toNat (0 : Int)) 0 (a0.drop 0) (Nat.min a0.length ((w64 r990.2).toNat))) ((Nat.min a0.length ((w64 r990.2).toNat) : Nat) : Int)).bind fun r1027 => (some r1027)) else none) else none))))
theorem nslices_Repeat_int_int__ok (k : Nat) (a0 : (List Int)) (a1 : Int) (r : (List Int)) (h : nslices_Repeat_int_int_ k a0 a1 = some r) : VC Try.prog 52 [VV.tr (List.map vi a0) a0.length, vi a1] (VV.fw 1 (List.map vi r) r.length) := by
 unfold nslices_Repeat_int_int_ at h
 rcases ifs h with ⟨h989, h⟩ | ⟨h989, h⟩
 ·cases h
 ·obtain ⟨r990, h991, h⟩ := bs h
  have e992 := (nmath_bits_Mul_ok k (IntKind.u64.wrap (a0.length : Int)) (IntKind.u64.wrap a1) _ h991)
  have e993 := (ti (ti (ti (ti (ti (an e992 (ti (ti (ti (ti (ti trivial)))))))))))
  rcases ifs h with ⟨h994, h⟩ | ⟨h994, h⟩
  ·have e995 := (ti (ti (ti (an (decide_eq_true h994) (an (decide_eq_true h994) (an (decide_eq_true h994) trivial))))))
   cases h
  ·have e996 := (ti (ti (ti (an (an (decide_eq_false h994) trivial) (an (an (decide_eq_false h994) trivial) (an (decide_eq_false h994) trivial))))))
   rcases ifs h with ⟨h997, h⟩ | ⟨h997, h⟩
   ·cases h
   ·obtain ⟨h998, h⟩ := ifn h
    have e999 := (show 0 <= (w64 r990.2) /\ (w64 r990.2) = (w64 r990.2) /\ (8 * (w64 r990.2).toNat) <= 281474976710656 /\ (w64 r990.2) < 1099511627776 from ⟨by omega, rfl, by omega, by omega⟩)
    obtain ⟨h1000, h⟩ := ifn h
    have e1001 := (show a0.length * 1 <= List.length (List.map vi a0) /\ 0 < (w64 r990.2).toNat /\ 0 < a0.length /\ 0 + ((w64 r990.2).toNat) * 1 <= List.length (List.replicate (w64 r990.2).toNat (VV.c (.int .i64 0))) /\ List.all (List.take (a0.length * 1) (List.drop 0 (List.map vi a0))) VV.still = true from ⟨(by simp only [length_map]; have := h1000; omega), h1000.1, h1000.2.1, (by rw [show List.replicate (w64 r990.2).toNat (VV.c (.int .i64 0)) = List.map vi (List.replicate (w64 r990.2).toNat (0 : Int)) from replicate_vi _]; simp only [length_map]; have := h1000; omega), (all_td (by exact still_vi _) _ _)⟩)
    obtain ⟨r1027, h1026, h⟩ := bs h
    have hph1026 := nslices_Repeat_int_int__l0_0_ok k  _ _ _ _ h1026
    have e1028 := (an (an (an (show Wv (VV.rf 0 0 ((w64 r990.2).toNat)) (VV.rf 0 0 ((cpy (List.replicate (w64 r990.2).toNat (0 : Int)) 0 (a0.drop 0) (Nat.min a0.length ((w64 r990.2).toNat))).length)) from (Wv.of_eq (by simp [cpy_len]))) trivial) (an (show putT 0 (List.replicate (w64 r990.2).toNat (VV.c (.int .i64 0))) (List.take (Nat.min a0.length ((w64 r990.2).toNat) * 1) (List.take (a0.length * 1) (List.drop 0 (List.map vi a0)))) = List.map vi (cpy (List.replicate (w64 r990.2).toNat (0 : Int)) 0 (a0.drop 0) (Nat.min a0.length ((w64 r990.2).toNat))) from (by rw [show List.replicate (w64 r990.2).toNat (VV.c (.int .i64 0)) = List.map vi (List.replicate (w64 r990.2).toNat (0 : Int)) from replicate_vi _]; exact putT_cpy vi (List.replicate (w64 r990.2).toNat (0 : Int)) a0 0 a0.length ((w64 r990.2).toNat) h1000)) trivial)) (VRun.loop hph1026))
    injection h with h; subst h
    exact fun_ok pm pn Try.func52 (r0 := VV.fw 1 (List.drop 0 (List.map unfr (List.map vi r1027))) r1027.length) (ans := [.reg (.n :: []), .reg (.n :: .n :: []), .br false, .reg (nN 5 (.call (VV.tu [VV.c (.int .u64 r990.1), VV.c (.int .u64 r990.2)]) :: nN 5 [])), .reg (nN 5 (.b false :: [])), .br false, .reg (nN 4 []), .reg (nN 4 []), .sub ⟨[(7, some (VV.rf 0 0 ((cpy (List.replicate (w64 r990.2).toNat (0 : Int)) 0 (a0.drop 0) (Nat.min a0.length ((w64 r990.2).toNat))).length))), (8, none)], [some (List.map vi (cpy (List.replicate (w64 r990.2).toNat (0 : Int)) 0 (a0.drop 0) (Nat.min a0.length ((w64 r990.2).toNat))))], []⟩ (.exit 0) (nslices_Repeat_int_int__l0_0_e0  r1027), .reg (.n :: .n :: [])]) (fr := true) (by kernel_rfl) (an (an (ti trivial) (an (an (ti (ti trivial)) (an (decide_eq_false h989) trivial)) (an e993 (an (an e996 (an (decide_eq_false h997) trivial)) (an (ti (ti (an e999 (ti trivial)))) (an (ti (ti (an e1001 (ti trivial)))) (an e1028 (an (ti (ti trivial)) trivial)))))))) (an (show List.all (List.map vi r1027) new0 = true from (by exact new0_vi _)) trivial)) (Wv.of_eq (eqW1_6 r1027))
theorem eqW1_7 (z0 : Sweb) : [VV.tr (List.map vi ([9223372036854775807] : List Int)) (([9223372036854775807] : List Int).length), vi z0.zones] = [VV.tr [vi 9223372036854775807] 1, vi z0.zones] := by first | rfl | (simp only [unfr_vi, map_cons, map_nil, un_i, un_tr, length_map, length_cons, length_nil]; done) | (simp only [unfr_vi, map_cons, map_nil, un_i, un_tr, length_map, length_cons, length_nil]; rfl) | (simp only [unfr_vi, map_cons, map_nil, un_i, un_tr, length_map, length_cons, length_nil, length_cons, length_nil, length_append]; done)
def n_profile_web_from_i34_l0_0_h (a0 : Sweb) (y1 : List Int) (y2 : List Sleg) (x22 : Int) (y1z : List Int) (y2z : List Sleg) (x14 : Int) (x6 : Int) (x7 : Bool) : VS := ⟨mkA [(3, VV.pt 5 0), (6, vi x6), (7, vb x7), (12, VV.tr (flatMap c_Sleg a0.legs) a0.legs.length), (13, vi (a0.legs.length : Int)), (14, vi x14)], [some ⟨true, 1, c_Sweb a0⟩, some ⟨false, 1, List.map vi y1z⟩, some ⟨false, 4, flatMap c_Sleg y2z⟩, some ⟨true, 1, [VV.rf 1 0 y1z.length, VV.rf 2 0 y2z.length]⟩, some ⟨true, 1, c_Sweb a0⟩, some ⟨true, 1, [VV.rf 1 0 y1z.length, VV.rf 2 0 y2z.length]⟩], (.node none (mkA [(2, VV.pt 0 0), (5, VV.pt 3 0), (21, vi a0.zones), (22, vi x22), (23, vb (decide (x22 < a0.zones))), (25, VV.ag (c_Sweb a0)), (26, VV.ag [VV.rf 1 0 y1.length, VV.rf 2 0 y2.length])]) .nil)⟩
def n_profile_web_from_i34_l0_0_e0 (a0 : Sweb) (y1 : List Int) (y2 : List Sleg) (x22 : Int) (r : Int × Bool × (List Int) × (List Sleg)) : VS := ⟨mkA [(6, vi r.1), (7, vb r.2.1)], [some ⟨true, 1, c_Sweb a0⟩, some ⟨false, 1, List.map vi r.2.2.1⟩, some ⟨false, 4, flatMap c_Sleg r.2.2.2⟩, some ⟨true, 1, [VV.rf 1 0 r.2.2.1.length, VV.rf 2 0 r.2.2.2.length]⟩], (.node none (mkA [(2, VV.pt 0 0), (5, VV.pt 3 0), (21, vi a0.zones), (22, vi x22), (23, vb (decide (x22 < a0.zones))), (25, VV.ag (c_Sweb a0)), (26, VV.ag [VV.rf 1 0 y1.length, VV.rf 2 0 y2.length])]) .nil)⟩
def n_profile_web_from_i34_l0_0 (k : Nat) (a0 : Sweb) (y1 : List Int) (y2 : List Sleg) (x22 : Int) : Nat -> (List Int) -> (List Sleg) -> Int -> Int -> Bool -> Option (Int × Bool × (List Int) × (List Sleg))
 | 0, _, _, _, _, _ => none
 | fuel + 1, y1z, y2z, x14, x6, x7 => if x14 < (a0.legs.length : Int) then (if 0 <= x14 /\ x14 < (a0.legs.length : Int) then (if 0 <= (a0.legs.getD x14.toNat default).from_ /\ (a0.legs.getD x14.toNat default).from_ < (y1z.length : Int) then (if (y1z.getD ((a0.legs.getD x14.toNat default).from_).toNat 0) = 9223372036854775807 then (n_profile_web_from_i34_l0_0 k a0 y1 y2 x22 fuel y1z y2z (w64 (x14 + 1)) x6 x7) else (if 0 <= (a0.legs.getD x14.toNat default).to /\ (a0.legs.getD x14.toNat default).to < (y1z.length : Int) then (if (w64 ((y1z.getD ((a0.legs.getD x14.toNat default).from_).toNat 0) + ((a0.legs.getD x14.toNat default).length))) < (y1z.getD ((a0.legs.getD x14.toNat default).to).toNat 0) then (if 0 <= (a0.legs.getD x14.toNat default).to /\ (a0.legs.getD x14.toNat default).to < (y2z.length : Int) then (n_profile_web_from_i34_l0_0 k a0 y1 y2 x22 fuel (y1z.set ((a0.legs.getD x14.toNat default).to).toNat (w64 ((y1z.getD ((a0.legs.getD x14.toNat default).from_).toNat 0) + ((a0.legs.getD x14.toNat default).length)))) (y2z.set ((a0.legs.getD x14.toNat default).to).toNat (a0.legs.getD x14.toNat default)) (w64 (x14 + 1)) ((a0.legs.getD x14.toNat default).to) true) else none) else (n_profile_web_from_i34_l0_0 k a0 y1 y2 x22 fuel y1z y2z (w64 (x14 + 1)) x6 x7)) else none)) else none) else none) else (some (x6, x7, y1z, y2z))
theorem n_profile_web_from_i34_l0_0_ok (k : Nat) (a0 : Sweb) (y1 : List Int) (y2 : List Sleg) (x22 : Int) : ∀ (fuel : Nat) (y1z : List Int) (y2z : List Sleg) (x14 : Int) (x6 : Int) (x7 : Bool) (r : Int × Bool × (List Int) × (List Sleg)), n_profile_web_from_i34_l0_0 k a0 y1 y2 x22 fuel y1z y2z x14 x6 x7 = some r -> (VLoop none Try.prog (szF Try.f34) (bodyOf Try.f34 0) (n_profile_web_from_i34_l0_0_h a0 y1 y2 x22 y1z y2z x14 x6 x7) (.exit 0) (n_profile_web_from_i34_l0_0_e0 a0 y1 y2 x22 r)) := by
 intro fuel
 induction fuel with
 | zero => intro y1z y2z x14 x6 x7 r h; rw [n_profile_web_from_i34_l0_0.eq_1] at h; cases h
 | succ fuel ih =>
  intro y1z y2z x14 x6 x7 r h
  rw [n_profile_web_from_i34_l0_0.eq_2] at h
  rcases ifs h with ⟨h1399, h⟩ | ⟨h1399, h⟩
  ·obtain ⟨h1400, h⟩ := ifn h
   have e1401 := (show loadL Try.prog 84 (x14.toNat * 4) (flatMap c_Sleg a0.legs) = some (VV.ag (c_Sleg (a0.legs.getD x14.toNat default))) from ld_whole ag84 c_Sleg 4 sz84 len_c_Sleg a0.legs default h1400 (by omega))
   obtain ⟨h1402, h⟩ := ifn h
   have e1403 := (show loadL Try.prog 3 (0 + ((a0.legs.getD x14.toNat default).from_).toNat * 1) (List.map vi y1z) = some (vi (y1z.getD ((a0.legs.getD x14.toNat default).from_).toNat 0)) from ld_map ag3 vi y1z 0 h1402 (by omega))
   have e1404 := (ti (ti (ti (ti (an h1402 (an e1403 (ti trivial)))))))
   rcases ifs h with ⟨h1405, h⟩ | ⟨h1405, h⟩
   ·have h2 := ih _ _ _ _ _ _ h
    obtain ⟨q, hv, hq⟩ := pkR (rd := none) (P := Try.prog) (fn := Try.f34) (k := 0) (s := (n_profile_web_from_i34_l0_0_h a0 y1 y2 x22 y1z y2z x14 x6 x7)) (ans := [.reg (.n :: []), .br true, .reg (.n :: .v (VV.ag (c_Sleg (a0.legs.getD x14.toNat default))) :: .n :: .n :: []), .reg (nN 5 (.v (vi (y1z.getD ((a0.legs.getD x14.toNat default).from_).toNat 0)) :: .n :: [])), .br true, .reg (.n :: .n :: [])]) (c := ⟨[(3, none), (6, none), (7, none), (12, none), (13, none), (14, none)], [none, none, none, none, none, none], []⟩) (e := .normal) (s1 := (n_profile_web_from_i34_l0_0_h a0 y1 y2 x22 y1z y2z (w64 (x14 + 1)) x6 x7)) (an (an (ti trivial) (an (an (decide_eq_true h1399) trivial) (an (an (an h1400 (an e1401 (ti (ti trivial)))) (an e1404 (an (decide_eq_true h1405) trivial))) (ti (ti trivial))))) (ti trivial)) (by kernel_rfl)
    exact round_next pm pn hv hq h2
   ·have e1406 := (show loadL Try.prog 3 (0 + ((a0.legs.getD x14.toNat default).from_).toNat * 1) (List.map vi y1z) = some (vi (y1z.getD ((a0.legs.getD x14.toNat default).from_).toNat 0)) from ld_map ag3 vi y1z 0 h1402 (by omega))
    have e1407 := (ti (ti (ti (ti (an h1402 (an e1406 (ti (ti (ti (ti trivial))))))))))
    obtain ⟨h1408, h⟩ := ifn h
    have e1409 := (show loadL Try.prog 3 (0 + ((a0.legs.getD x14.toNat default).to).toNat * 1) (List.map vi y1z) = some (vi (y1z.getD ((a0.legs.getD x14.toNat default).to).toNat 0)) from ld_map ag3 vi y1z 0 h1408 (by omega))
    have e1410 := (ti (ti (ti (ti (ti (an h1408 (an e1409 (ti trivial))))))))
    rcases ifs h with ⟨h1411, h⟩ | ⟨h1411, h⟩
    ·have e1412 := (show (0 + ((a0.legs.getD x14.toNat default).to).toNat * 1) + 1 <= List.length (List.map vi y1z) from (by simp only [length_map]; omega))
     obtain ⟨h1413, h⟩ := ifn h
     have e1414 := (show (0 + ((a0.legs.getD x14.toNat default).to).toNat * 4) + 4 <= List.length (flatMap c_Sleg y2z) from (by rw [flat_len len_c_Sleg]; have := h1413; omega))
     have e1415 := (ti (ti (ti (ti (ti (ti (ti (ti (ti (ti (an h1408 (an e1412 (an h1413 (an e1414 trivial))))))))))))))
     have h2 := ih _ _ _ _ _ _ h
     obtain ⟨q, hv, hq⟩ := pkR (rd := none) (P := Try.prog) (fn := Try.f34) (k := 0) (s := (n_profile_web_from_i34_l0_0_h a0 y1 y2 x22 y1z y2z x14 x6 x7)) (ans := [.reg (.n :: []), .br true, .reg (.n :: .v (VV.ag (c_Sleg (a0.legs.getD x14.toNat default))) :: .n :: .n :: []), .reg (nN 5 (.v (vi (y1z.getD ((a0.legs.getD x14.toNat default).from_).toNat 0)) :: .n :: [])), .br false, .reg (nN 5 (.v (vi (y1z.getD ((a0.legs.getD x14.toNat default).from_).toNat 0)) :: nN 4 [])), .reg (nN 6 (.v (vi (y1z.getD ((a0.legs.getD x14.toNat default).to).toNat 0)) :: .n :: [])), .br true, .reg (nN 14 []), .reg (nN 4 []), .reg (.n :: .n :: [])]) (c := ⟨[(3, none), (6, none), (7, none), (12, none), (13, none), (14, none)], [none, some (List.map vi (y1z.set ((a0.legs.getD x14.toNat default).to).toNat (w64 ((y1z.getD ((a0.legs.getD x14.toNat default).from_).toNat 0) + ((a0.legs.getD x14.toNat default).length))))), some (flatMap c_Sleg (y2z.set ((a0.legs.getD x14.toNat default).to).toNat (a0.legs.getD x14.toNat default))), some [VV.rf 1 0 ((y1z.set ((a0.legs.getD x14.toNat default).to).toNat (w64 ((y1z.getD ((a0.legs.getD x14.toNat default).from_).toNat 0) + ((a0.legs.getD x14.toNat default).length)))).length), VV.rf 2 0 ((y2z.set ((a0.legs.getD x14.toNat default).to).toNat (a0.legs.getD x14.toNat default)).length)], none, some [VV.rf 1 0 ((y1z.set ((a0.legs.getD x14.toNat default).to).toNat (w64 ((y1z.getD ((a0.legs.getD x14.toNat default).from_).toNat 0) + ((a0.legs.getD x14.toNat default).length)))).length), VV.rf 2 0 ((y2z.set ((a0.legs.getD x14.toNat default).to).toNat (a0.legs.getD x14.toNat default)).length)]], []⟩) (e := .normal) (s1 := (n_profile_web_from_i34_l0_0_h a0 y1 y2 x22 (y1z.set ((a0.legs.getD x14.toNat default).to).toNat (w64 ((y1z.getD ((a0.legs.getD x14.toNat default).from_).toNat 0) + ((a0.legs.getD x14.toNat default).length)))) (y2z.set ((a0.legs.getD x14.toNat default).to).toNat (a0.legs.getD x14.toNat default)) (w64 (x14 + 1)) ((a0.legs.getD x14.toNat default).to) true)) (an (an (ti trivial) (an (an (decide_eq_true h1399) trivial) (an (an (an h1400 (an e1401 (ti (ti trivial)))) (an (an e1404 (an (decide_eq_false h1405) trivial)) (an e1407 (an e1410 (an (decide_eq_true h1411) (an e1415 (ti (ti (ti (ti trivial)))))))))) (ti (ti trivial))))) (ti (an (show putT (0 + ((a0.legs.getD x14.toNat default).to).toNat * 1) (List.map vi y1z) [vi (w64 ((y1z.getD ((a0.legs.getD x14.toNat default).from_).toNat 0) + ((a0.legs.getD x14.toNat default).length)))] = List.map vi (y1z.set ((a0.legs.getD x14.toNat default).to).toNat (w64 ((y1z.getD ((a0.legs.getD x14.toNat default).from_).toNat 0) + ((a0.legs.getD x14.toNat default).length)))) from (by exact putT_vi y1z h1408 (w64 ((y1z.getD ((a0.legs.getD x14.toNat default).from_).toNat 0) + ((a0.legs.getD x14.toNat default).length))) (by omega))) (an (show putT (0 + ((a0.legs.getD x14.toNat default).to).toNat * 4) (flatMap c_Sleg y2z) [vi ((a0.legs.getD x14.toNat default).signed), vi ((a0.legs.getD x14.toNat default).from_), vi ((a0.legs.getD x14.toNat default).to), vi ((a0.legs.getD x14.toNat default).length)] = flatMap c_Sleg (y2z.set ((a0.legs.getD x14.toNat default).to).toNat (a0.legs.getD x14.toNat default)) from (by exact putT_flat len_c_Sleg y2z h1413 (a0.legs.getD x14.toNat default) (by omega))) (an (show [VV.rf 1 0 y1z.length, VV.rf 2 0 y2z.length] = [VV.rf 1 0 ((y1z.set ((a0.legs.getD x14.toNat default).to).toNat (w64 ((y1z.getD ((a0.legs.getD x14.toNat default).from_).toNat 0) + ((a0.legs.getD x14.toNat default).length)))).length), VV.rf 2 0 ((y2z.set ((a0.legs.getD x14.toNat default).to).toNat (a0.legs.getD x14.toNat default)).length)] from (by first | rfl | simp)) (an (show [VV.rf 1 0 y1z.length, VV.rf 2 0 y2z.length] = [VV.rf 1 0 ((y1z.set ((a0.legs.getD x14.toNat default).to).toNat (w64 ((y1z.getD ((a0.legs.getD x14.toNat default).from_).toNat 0) + ((a0.legs.getD x14.toNat default).length)))).length), VV.rf 2 0 ((y2z.set ((a0.legs.getD x14.toNat default).to).toNat (a0.legs.getD x14.toNat default)).length)] from (by first | rfl | simp)) trivial)))))) (by kernel_rfl)
     exact round_next pm pn hv hq h2
    ·have h2 := ih _ _ _ _ _ _ h
     obtain ⟨q, hv, hq⟩ := pkR (rd := none) (P := Try.prog) (fn := Try.f34) (k := 0) (s := (n_profile_web_from_i34_l0_0_h a0 y1 y2 x22 y1z y2z x14 x6 x7)) (ans := [.reg (.n :: []), .br true, .reg (.n :: .v (VV.ag (c_Sleg (a0.legs.getD x14.toNat default))) :: .n :: .n :: []), .reg (nN 5 (.v (vi (y1z.getD ((a0.legs.getD x14.toNat default).from_).toNat 0)) :: .n :: [])), .br false, .reg (nN 5 (.v (vi (y1z.getD ((a0.legs.getD x14.toNat default).from_).toNat 0)) :: nN 4 [])), .reg (nN 6 (.v (vi (y1z.getD ((a0.legs.getD x14.toNat default).to).toNat 0)) :: .n :: [])), .br false, .reg (.n :: .n :: [])]) (c := ⟨[(3, none), (6, none), (7, none), (12, none), (13, none), (14, none)], [none, none, none, none, none, none], []⟩) (e := .normal) (s1 := (n_profile_web_from_i34_l0_0_h a0 y1 y2 x22 y1z y2z (w64 (x14 + 1)) x6 x7)) (an (an (ti trivial) (an (an (decide_eq_true h1399) trivial) (an (an (an h1400 (an e1401 (ti (ti trivial)))) (an (an e1404 (an (decide_eq_false h1405) trivial)) (an e1407 (an e1410 (an (decide_eq_false h1411) trivial))))) (ti (ti trivial))))) (ti trivial)) (by kernel_rfl)
     exact round_next pm pn hv hq h2
  ·injection h with h; subst h
   exact round_stop (c := ⟨[(6, none), (7, none)], [none, none, none, none], []⟩) (s1 := (n_profile_web_from_i34_l0_0_e0 a0 y1 y2 x22 (x6, x7, y1z, y2z))) pm pn (ans := [.reg (.n :: []), .br false]) (by kernel_rfl) (by intro e; cases e) (an (an (ti trivial) (an (decide_eq_false h1399) trivial)) (ti trivial))
def n_profile_web_from_l0_0_h (a0 : Sweb) (y1 : List Int) (y2 : List Sleg) (x22 : Int) : VS := ⟨mkA [(2, VV.pt 0 0), (5, VV.pt 3 0), (21, vi a0.zones), (22, vi x22)], [some ⟨true, 1, c_Sweb a0⟩, some ⟨false, 1, List.map vi y1⟩, some ⟨false, 4, flatMap c_Sleg y2⟩, some ⟨true, 1, [VV.rf 1 0 y1.length, VV.rf 2 0 y2.length]⟩], .nil⟩
def n_profile_web_from_l0_0_e0 (a0 : Sweb) (r : (List Int) × (List Sleg)) : VS := ⟨mkA [(5, VV.pt 3 0)], [some ⟨true, 1, c_Sweb a0⟩, some ⟨false, 1, List.map vi r.1⟩, some ⟨false, 4, flatMap c_Sleg r.2⟩, some ⟨true, 1, [VV.rf 1 0 r.1.length, VV.rf 2 0 r.2.length]⟩], .nil⟩
def n_profile_web_from_l0_0 (k : Nat) (a0 : Sweb) : Nat -> (List Int) -> (List Sleg) -> Int -> Option ((List Int) × (List Sleg))
 | 0, _, _, _ => none
 | fuel + 1, y1, y2, x22 => if x22 < a0.zones then ((n_profile_web_from_i34_l0_0 k a0 y1 y2 x22 k y1 y2 0 0 false).bind fun r1417 => (if r1417.2.2.1.length = y1.length then (if r1417.2.2.2.length = y2.length then (if r1417.2.1 = true then (n_profile_web_from_l0_0 k a0 fuel r1417.2.2.1 r1417.2.2.2 (w64 (x22 + 1))) else (some (r1417.2.2.1, r1417.2.2.2))) else none) else none)) else (some (y1, y2))
theorem n_profile_web_from_l0_0_ok (k : Nat) (a0 : Sweb) : ∀ (fuel : Nat) (y1 : List Int) (y2 : List Sleg) (x22 : Int) (r : (List Int) × (List Sleg)), n_profile_web_from_l0_0 k a0 fuel y1 y2 x22 = some r -> (VLoop none Try.prog (szF Try.f32) (bodyOf Try.f32 0) (n_profile_web_from_l0_0_h a0 y1 y2 x22) (.exit 0) (n_profile_web_from_l0_0_e0 a0 r)) := by
 intro fuel
 induction fuel with
 | zero => intro y1 y2 x22 r h; rw [n_profile_web_from_l0_0.eq_1] at h; cases h
 | succ fuel ih =>
  intro y1 y2 x22 r h
  rw [n_profile_web_from_l0_0.eq_2] at h
  rcases ifs h with ⟨h1364, h⟩ | ⟨h1364, h⟩
  ·obtain ⟨r1417, h1416, h⟩ := bs h
   have hph1416 := n_profile_web_from_i34_l0_0_ok k a0 y1 y2 x22 _ _ _ _ _ _ _ h1416
   have e1418 := (an (ti trivial) (VRun.loop hph1416))
   obtain ⟨h1419, h⟩ := ifn h
   obtain ⟨h1420, h⟩ := ifn h
   have e1421 := (an (an Try.func34 (an (ti (ti (ti (ti trivial)))) (an (ti (ti trivial)) (an (an (ti (ti (ti (ti trivial)))) e1418) (an (ti (ti (ti (ti trivial)))) trivial))))) (ti (ti trivial)))
   have e1422 := (ti (ti (an e1421 (ti (ti (ti (ti (ti trivial))))))))
   rcases ifs h with ⟨h1423, h⟩ | ⟨h1423, h⟩
   ·have h2 := ih _ _ _ _ h
    obtain ⟨q, hv, hq⟩ := pkR (rd := none) (P := Try.prog) (fn := Try.f32) (k := 0) (s := (n_profile_web_from_l0_0_h a0 y1 y2 x22)) (ans := [.reg (.n :: []), .br true, .reg (.n :: .n :: .inl (inlF Try.f34 [.reg (nN 4 []), .reg (.n :: .n :: []), .reg (nN 4 []), .sub ⟨[(3, none), (6, none), (7, none), (12, none), (13, none), (14, none)], [none, none, none, none, none, none], []⟩ (.exit 0) (n_profile_web_from_i34_l0_0_e0 a0 y1 y2 x22 r1417), .reg (nN 4 [])]) :: nN 5 []), .reg (.n :: .n :: []), .br false, .reg (.n :: .n :: [])]) (c := ⟨[(2, none), (5, none), (21, none), (22, none)], [none, none, none, none], []⟩) (e := .normal) (s1 := (n_profile_web_from_l0_0_h a0 r1417.2.2.1 r1417.2.2.2 (w64 (x22 + 1)))) (an (an (ti trivial) (an (an (decide_eq_true h1364) trivial) (an (an e1422 (an (ti (ti trivial)) (an (not_f h1423) trivial))) (ti (ti trivial))))) (ti trivial)) (by kernel_rfl)
    exact round_next pm pn hv hq h2
   ·injection h with h; subst h
    exact round_stop (c := ⟨[(5, none)], [none, none, none, none], []⟩) (s1 := (n_profile_web_from_l0_0_e0 a0 (r1417.2.2.1, r1417.2.2.2))) pm pn (ans := [.reg (.n :: []), .br true, .reg (.n :: .n :: .inl (inlF Try.f34 [.reg (nN 4 []), .reg (.n :: .n :: []), .reg (nN 4 []), .sub ⟨[(3, none), (6, none), (7, none), (12, none), (13, none), (14, none)], [none, none, none, none, none, none], []⟩ (.exit 0) (n_profile_web_from_i34_l0_0_e0 a0 y1 y2 x22 r1417), .reg (nN 4 [])]) :: nN 5 []), .reg (.n :: .n :: []), .br true]) (by kernel_rfl) (by intro e; cases e) (an (an (ti trivial) (an (an (decide_eq_true h1364) trivial) (an e1422 (an (ti (ti trivial)) (an (not_t (bool_f h1423)) trivial))))) (ti trivial))
  ·injection h with h; subst h
   exact round_stop (c := ⟨[(5, none)], [none, none, none, none], []⟩) (s1 := (n_profile_web_from_l0_0_e0 a0 (y1, y2))) pm pn (ans := [.reg (.n :: []), .br false]) (by kernel_rfl) (by intro e; cases e) (an (an (ti trivial) (an (decide_eq_false h1364) trivial)) (ti trivial))
def arW1_3 (z0 : (List Int)) : List Ans := (.v VV.any :: .n :: .n :: .own (List.map vi z0) z0.length none (VV.fw 1 (List.map vi z0) z0.length) :: nN 6 [])
theorem eqW1_8 (z0 : (List Int) × (List Sleg)) : VV.fw 1 (List.drop 0 (List.map unfr (List.map vi z0.1))) z0.1.length = VV.fw 1 (List.map vi z0.1) z0.1.length := by first | rfl | (simp only [Nat.zero_add, Nat.mul_one, List.map_drop, List.length_drop, drop0, unfr_vi, map_cons, map_nil, un_i, length_map, Nat.zero_add]; done) | (simp only [Nat.zero_add, Nat.mul_one, List.map_drop, List.length_drop, drop0, unfr_vi, map_cons, map_nil, un_i, length_map, Nat.zero_add]; rfl) | (simp only [Nat.zero_add, Nat.mul_one, List.map_drop, List.length_drop, drop0, unfr_vi, map_cons, map_nil, un_i, length_map, Nat.zero_add, length_cons, length_nil, length_append]; done)
def n_profile_web_from (k : Nat) (a0 : Sweb) (a1 : Int) : Option (List Int) :=
 (nslices_Repeat_int_int_ k ([9223372036854775807] : List Int) a0.zones).bind fun r1228 => (if 0 <= a0.zones /\ a0.zones <= 1000000000 then (if 0 <= a1 /\ a1 < (r1228.length : Int) then ((n_profile_web_from_l0_0 k a0 k (r1228.set a1.toNat 0) (List.replicate a0.zones.toNat (⟨0, 0, 0, 0⟩ : Sleg)) 0).bind fun r1425 => (some r1425.1)) else none) else none)
theorem n_profile_web_from_ok (k : Nat) (a0 : Sweb) (a1 : Int) (r : (List Int)) (h : n_profile_web_from k a0 a1 = some r) : VC Try.prog 32 [VV.ag (c_Sweb a0), vi a1] (VV.fw 1 (List.map vi r) r.length) := by
 unfold n_profile_web_from at h
 obtain ⟨r1228, h1229, h⟩ := bs h
 have e1230 := (show VC Try.prog 52 [VV.tr [vi 9223372036854775807] 1, vi a0.zones] (VV.fw 1 (List.map vi r1228) r1228.length) /\ (List.map vi r1228 = List.map vi r1228 /\ r1228.length = r1228.length) /\ List.all (List.map vi r1228) VV.isC = true /\ (r1228.length = 0 -> List.map vi r1228 = []) from ⟨(VC.args (nslices_Repeat_int_int__ok k ([9223372036854775807] : List Int) a0.zones _ h1229) (eqW1_7 a0)), ⟨rfl, rfl⟩, isC_vi _, fun h => by rw [List.length_eq_zero_iff.1 h]; rfl⟩)
 obtain ⟨h1231, h⟩ := ifn h
 have e1232 := (show 0 <= a0.zones /\ a0.zones = a0.zones /\ (32 * a0.zones.toNat) <= 281474976710656 /\ a0.zones < 1099511627776 from ⟨by omega, rfl, by omega, by omega⟩)
 have e1233 := (ti (ti (ti (an e1230 (ti (ti (an e1232 (ti (ti (ti trivial))))))))))
 obtain ⟨h1234, h⟩ := ifn h
 have e1235 := (show (0 + a1.toNat * 1) + 1 <= List.length (List.map vi r1228) from (by simp only [length_map]; omega))
 obtain ⟨r1425, h1424, h⟩ := bs h
 have hph1424 := n_profile_web_from_l0_0_ok k a0 _ _ _ _ _ h1424
 have e1426 := (an (ti (an (show putT (0 + a1.toNat * 1) (List.map vi r1228) [vi 0] = List.map vi (r1228.set a1.toNat 0) from (by exact putT_vi r1228 h1234 0 (by omega))) (an (show zeroCells (.agg #[.int .i64 0, .int .i64 0, .int .i64 0, .int .i64 0]) (a0.zones.toNat * 4) = flatMap c_Sleg (List.replicate a0.zones.toNat (⟨0, 0, 0, 0⟩ : Sleg)) from zero_flat c_Sleg (.agg #[.int .i64 0, .int .i64 0, .int .i64 0, .int .i64 0]) (⟨0, 0, 0, 0⟩ : Sleg) 4 (by decide) rfl rfl _) (an (show [VV.rf 1 0 r1228.length, VV.rf 2 0 a0.zones.toNat] = [VV.rf 1 0 ((r1228.set a1.toNat 0).length), VV.rf 2 0 ((List.replicate a0.zones.toNat (⟨0, 0, 0, 0⟩ : Sleg)).length)] from (by first | rfl | simp)) trivial)))) (VRun.loop hph1424))
 injection h with h; subst h
 exact fun_ok pm pn Try.func32 (r0 := VV.fw 1 (List.drop 0 (List.map unfr (List.map vi r1425.1))) r1425.1.length) (ans := [.reg (.n :: .n :: []), .reg (arW1_3 r1228), .reg (nN 5 []), .reg (nN 3 []), .sub ⟨[(2, none), (5, none), (21, none), (22, none)], [none, some (List.map vi (r1228.set a1.toNat 0)), some (flatMap c_Sleg (List.replicate a0.zones.toNat (⟨0, 0, 0, 0⟩ : Sleg))), some [VV.rf 1 0 ((r1228.set a1.toNat 0).length), VV.rf 2 0 ((List.replicate a0.zones.toNat (⟨0, 0, 0, 0⟩ : Sleg)).length)]], []⟩ (.exit 0) (n_profile_web_from_l0_0_e0 a0 r1425), .reg (nN 3 [])]) (fr := true) (by kernel_rfl) (an (an (ti (ti trivial)) (an e1233 (an (ti (ti (ti (an h1234 (an e1235 trivial))))) (an (an (ti (ti (ti trivial))) e1426) (an (ti (ti (ti trivial))) trivial))))) (an (show List.all (List.map vi r1425.1) new0 = true from (by exact new0_vi _)) trivial)) (Wv.of_eq (eqW1_8 r1425))
theorem eqW1_9  : vi 0 = vi ((⟨0, []⟩ : Sweb).zones) := by first | rfl | (simp only [unfr_vi, map_cons, map_nil, un_i]; done) | (simp only [unfr_vi, map_cons, map_nil, un_i]; rfl) | (simp only [unfr_vi, map_cons, map_nil, un_i, length_cons, length_nil, length_append]; done)
def nprofile_agreeing (k : Nat) (a0 : Int) (a1 : (List SHeightReading)) : Option (Sweb × Int) :=
 (nprofile_CheckReadings k a0 a1).bind fun r1438 => (if r1438 = 0 then ((nprofile_newWeb k a0 a1).bind fun r1442 => ((n_profile_web_circle k r1442).bind fun r1445 => (if 0 < (r1445.length : Int) then (some ((⟨0, []⟩ : Sweb), 13)) else (some (r1442, 0))))) else (some ((⟨0, []⟩ : Sweb), r1438)))
theorem nprofile_agreeing_ok (k : Nat) (a0 : Int) (a1 : (List SHeightReading)) (r : (Sweb × Int)) (h : nprofile_agreeing k a0 a1 = some r) : VC Try.prog 30 [vi a0, VV.tr (flatMap c_SHeightReading a1) a1.length] (VV.tu [VV.ag (g_Sweb r.1), vi r.2]) := by
 unfold nprofile_agreeing at h
 obtain ⟨r1438, h1439, h⟩ := bs h
 have e1440 := (nprofile_CheckReadings_ok k a0 a1 _ h1439)
 rcases ifs h with ⟨h1441, h⟩ | ⟨h1441, h⟩
 ·obtain ⟨r1442, h1443, h⟩ := bs h
  have e1444 := (show VC Try.prog 15 [vi a0, VV.tr (flatMap c_SHeightReading a1) a1.length] (VV.ag (g_Sweb r1442)) from (VC.weak (nprofile_newWeb_ok k a0 a1 _ h1443) (Wv.agL (.cons (Wv.refl _) (.cons (Wv.fw rfl rfl) .nil)))))
  obtain ⟨r1445, h1446, h⟩ := bs h
  have e1447 := (show VC Try.prog 16 [VV.ag (c_Sweb r1442)] (VV.fr (List.map vi r1445) r1445.length) from (VC.weak (n_profile_web_circle_ok k r1442 _ h1446) (Wv.fw rfl rfl)))
  rcases ifs h with ⟨h1448, h⟩ | ⟨h1448, h⟩
  ·injection h with h; subst h
   exact fun_ok pm pn Try.func30 (r0 := VV.tu [VV.ag [vi 0, VV.c (.slice none 0 0)], vi 13]) (ans := [.reg (.n :: .n :: []), .reg (.n :: .n :: .call (vi r1438) :: .n :: []), .reg (.n :: .n :: []), .br false, .reg (.n :: .n :: .call (VV.ag (g_Sweb r1442)) :: .n :: .n :: []), .reg (.n :: .call (VV.fr (List.map vi r1445) r1445.length) :: .n :: .n :: []), .br true, .reg (nN 3 [])]) (fr := true) (by kernel_rfl) (an (an (ti (ti trivial)) (an (an (ti (ti (an e1440 (ti trivial)))) (an (ti (ti trivial)) (an (not_f (decide_eq_true h1441)) trivial))) (an (ti (ti (an e1444 (ti (ti trivial))))) (an (ti (an e1447 (ti (ti trivial)))) (an (decide_eq_true h1448) (an (ti (ti (ti trivial))) trivial)))))) (an (ti (ti (ti trivial))) (ti trivial))) (Wv.tuL (.cons (Wv.agL (.cons (Wv.of_eq eqW1_9) (.cons Wv.nilFr .nil))) (.cons (Wv.refl _) .nil)))
  ·injection h with h; subst h
   exact fun_ok pm pn Try.func30 (r0 := VV.tu [VV.ag (g_Sweb r1442), vi 0]) (ans := [.reg (.n :: .n :: []), .reg (.n :: .n :: .call (vi r1438) :: .n :: []), .reg (.n :: .n :: []), .br false, .reg (.n :: .n :: .call (VV.ag (g_Sweb r1442)) :: .n :: .n :: []), .reg (.n :: .call (VV.fr (List.map vi r1445) r1445.length) :: .n :: .n :: []), .br false, .reg (nN 3 [])]) (fr := true) (by kernel_rfl) (an (an (ti (ti trivial)) (an (an (ti (ti (an e1440 (ti trivial)))) (an (ti (ti trivial)) (an (not_f (decide_eq_true h1441)) trivial))) (an (ti (ti (an e1444 (ti (ti trivial))))) (an (an (ti (an e1447 (ti (ti trivial)))) (an (decide_eq_false h1448) trivial)) (an (ti (ti (ti trivial))) trivial))))) (an (ti (ti (ti trivial))) (ti trivial))) (Wv.refl _)
 ·injection h with h; subst h
  exact fun_ok pm pn Try.func30 (r0 := VV.tu [VV.ag [vi 0, VV.c (.slice none 0 0)], vi r1438]) (ans := [.reg (.n :: .n :: []), .reg (.n :: .n :: .call (vi r1438) :: .n :: []), .reg (.n :: .n :: []), .br true, .reg (nN 4 [])]) (fr := true) (by kernel_rfl) (an (an (ti (ti trivial)) (an (ti (ti (an e1440 (ti trivial)))) (an (ti (ti trivial)) (an (not_t (decide_eq_false h1441)) (an (ti (ti (ti (ti trivial)))) trivial))))) (an (ti (ti (ti trivial))) (ti trivial))) (Wv.tuL (.cons (Wv.agL (.cons (Wv.of_eq eqW1_9) (.cons Wv.nilFr .nil))) (.cons (Wv.refl _) .nil)))
def nslices_Index_int_int__l0_0_h (a0 : (List Int)) (a1 : Int) (x8 : Int) : VS := ⟨mkA [(0, VV.tr (List.map vi a0) a0.length), (1, vi a1), (7, vi (a0.length : Int)), (8, vi x8)], [], .nil⟩
def nslices_Index_int_int__l0_0_e0 (a0 : (List Int)) (a1 : Int) (r : Int) : VS := ⟨mkA [(4, vi r)], [], .nil⟩
def nslices_Index_int_int__l0_0_e1 (a0 : (List Int)) (a1 : Int) (r : Unit) : VS := ⟨mkA [], [], .nil⟩
def nslices_Index_int_int__l0_0 (k : Nat) (a0 : (List Int)) (a1 : Int) : Nat -> Int -> Option (Sum Int Unit)
 | 0, _ => none
 | fuel + 1, x8 => if x8 < (a0.length : Int) then (if 0 <= x8 /\ x8 < (a0.length : Int) then (if a1 = (a0.getD x8.toNat 0) then (some (.inl x8)) else (nslices_Index_int_int__l0_0 k a0 a1 fuel (w64 (x8 + 1)))) else none) else (some (.inr ()))
theorem nslices_Index_int_int__l0_0_ok (k : Nat) (a0 : (List Int)) (a1 : Int) : ∀ (fuel : Nat) (x8 : Int) (r : Sum Int Unit), nslices_Index_int_int__l0_0 k a0 a1 fuel x8 = some r -> (match r with | .inl r => VLoop none Try.prog (szF Try.f40) (bodyOf Try.f40 0) (nslices_Index_int_int__l0_0_h a0 a1 x8) .ret (nslices_Index_int_int__l0_0_e0 a0 a1 r) | .inr r => VLoop none Try.prog (szF Try.f40) (bodyOf Try.f40 0) (nslices_Index_int_int__l0_0_h a0 a1 x8) (.exit 0) (nslices_Index_int_int__l0_0_e1 a0 a1 r)) := by
 intro fuel
 induction fuel with
 | zero => intro x8 r h; rw [nslices_Index_int_int__l0_0.eq_1] at h; cases h
 | succ fuel ih =>
  intro x8 r h
  rw [nslices_Index_int_int__l0_0.eq_2] at h
  rcases ifs h with ⟨h1482, h⟩ | ⟨h1482, h⟩
  ·obtain ⟨h1483, h⟩ := ifn h
   have e1484 := (show loadL Try.prog 3 (x8.toNat * 1) (List.map vi a0) = some (vi (a0.getD x8.toNat 0)) from ld_map ag3 vi a0 0 h1483 (by omega))
   rcases ifs h with ⟨h1485, h⟩ | ⟨h1485, h⟩
   ·injection h with h; subst h
    exact round_stop (c := ⟨[(4, none)], [], []⟩) (s1 := (nslices_Index_int_int__l0_0_e0 a0 a1 x8)) pm pn (ans := [.reg (.n :: []), .br true, .reg (.n :: .n :: []), .reg (nN 4 (.v (vi (a0.getD x8.toNat 0)) :: .n :: [])), .br true, .reg (.n :: .n :: [])]) (by kernel_rfl) (by intro e; cases e) (an (an (ti trivial) (an (an (decide_eq_true h1482) trivial) (an (ti (ti trivial)) (an (ti (ti (ti (an h1483 (an e1484 (ti trivial)))))) (an (decide_eq_true h1485) (an (ti (ti trivial)) trivial)))))) (ti trivial))
   ·have h2 := ih _ _ h
    obtain ⟨q, hv, hq⟩ := pkR (rd := none) (P := Try.prog) (fn := Try.f40) (k := 0) (s := (nslices_Index_int_int__l0_0_h a0 a1 x8)) (ans := [.reg (.n :: []), .br true, .reg (.n :: .n :: []), .reg (nN 4 (.v (vi (a0.getD x8.toNat 0)) :: .n :: [])), .br false, .reg (.n :: .n :: [])]) (c := ⟨[(0, none), (1, none), (7, none), (8, none)], [], []⟩) (e := .normal) (s1 := (nslices_Index_int_int__l0_0_h a0 a1 (w64 (x8 + 1)))) (an (an (ti trivial) (an (an (decide_eq_true h1482) trivial) (an (an (ti (ti trivial)) (an (ti (ti (ti (an h1483 (an e1484 (ti trivial)))))) (an (decide_eq_false h1485) trivial))) (ti (ti trivial))))) (ti trivial)) (by kernel_rfl)
    cases r with
    | inl r => exact round_next pm pn hv hq h2
    | inr r =>
     exact round_next pm pn hv hq h2
  ·injection h with h; subst h
   exact round_stop (c := ⟨[], [], []⟩) (s1 := (nslices_Index_int_int__l0_0_e1 a0 a1 ())) pm pn (ans := [.reg (.n :: []), .br false]) (by kernel_rfl) (by intro e; cases e) (an (an (ti trivial) (an (decide_eq_false h1482) trivial)) (ti trivial))
def nslices_Index_int_int_ (k : Nat) (a0 : (List Int)) (a1 : Int) : Option Int :=
 (nslices_Index_int_int__l0_0 k a0 a1 k 0).bind fun r1487 => (match r1487 with | .inl r1488 => (some r1488) | .inr r1489 => (some (-1)))
theorem nslices_Index_int_int__ok (k : Nat) (a0 : (List Int)) (a1 : Int) (r : Int) (h : nslices_Index_int_int_ k a0 a1 = some r) : VC Try.prog 40 [VV.tr (List.map vi a0) a0.length, vi a1] (vi r) := by
 unfold nslices_Index_int_int_ at h
 obtain ⟨r1487, h1486, h⟩ := bs h
 have hph1486 := nslices_Index_int_int__l0_0_ok k a0 a1 _ _ _ h1486
 cases r1487 with
 | inl r1488 =>
  dsimp only at h
  have e1490 := (an (ti trivial) (VRun.loop hph1486))
  injection h with h; subst h
  exact fun_ok pm pn Try.func40 (r0 := vi r1488) (ans := [.reg (.n :: []), .reg (nN 3 []), .sub ⟨[(0, none), (1, none), (7, none), (8, none)], [], []⟩ .ret (nslices_Index_int_int__l0_0_e0 a0 a1 r1488)]) (fr := true) (by kernel_rfl) (an (an (ti trivial) (an (ti (ti (ti trivial))) e1490)) (ti trivial)) (Wv.refl _)
 | inr r1489 =>
  dsimp only at h
  have e1491 := (an (ti trivial) (VRun.loop hph1486))
  injection h with h; subst h
  exact fun_ok pm pn Try.func40 (r0 := vi (-1)) (ans := [.reg (.n :: []), .reg (nN 3 []), .sub ⟨[(0, none), (1, none), (7, none), (8, none)], [], []⟩ (.exit 0) (nslices_Index_int_int__l0_0_e1 a0 a1 r1489), .reg (.n :: [])]) (fr := true) (by kernel_rfl) (an (an (ti trivial) (an (an (ti (ti (ti trivial))) e1491) (an (ti trivial) trivial))) (ti trivial)) (Wv.refl _)
def nslices_Contains_int_int_ (k : Nat) (a0 : (List Int)) (a1 : Int) : Option Bool :=
 (nslices_Index_int_int_ k a0 a1).bind fun r1495 => (some (decide (0 <= r1495)))
theorem nslices_Contains_int_int__ok (k : Nat) (a0 : (List Int)) (a1 : Int) (r : Bool) (h : nslices_Contains_int_int_ k a0 a1 = some r) : VC Try.prog 31 [VV.tr (List.map vi a0) a0.length, vi a1] (vb r) := by
 unfold nslices_Contains_int_int_ at h
 obtain ⟨r1495, h1496, h⟩ := bs h
 have e1497 := (nslices_Index_int_int__ok k a0 a1 _ h1496)
 injection h with h; subst h
 exact fun_ok pm pn Try.func31 (r0 := vb (decide (0 <= r1495))) (ans := [.reg (.n :: []), .reg (.n :: .n :: .call (vi r1495) :: .n :: .n :: [])]) (fr := true) (by kernel_rfl) (an (an (ti trivial) (an (ti (ti (an e1497 (ti (ti trivial))))) trivial)) (ti trivial)) (Wv.refl _)
def nprofile_joined (k : Nat) (a0 : Int) (a1 : (List SHeightReading)) : Option (Sweb × Int) :=
 (nprofile_agreeing k a0 a1).bind fun r1502 => (if r1502.2 = 0 then ((n_profile_web_from k r1502.1 0).bind fun r1506 => ((nslices_Contains_int_int_ k r1506 9223372036854775807).bind fun r1509 => (if r1509 = true then (some ((⟨0, []⟩ : Sweb), 25)) else (some (r1502.1, 0))))) else (some ((⟨0, []⟩ : Sweb), r1502.2)))
theorem nprofile_joined_ok (k : Nat) (a0 : Int) (a1 : (List SHeightReading)) (r : (Sweb × Int)) (h : nprofile_joined k a0 a1 = some r) : VC Try.prog 14 [vi a0, VV.tr (flatMap c_SHeightReading a1) a1.length] (VV.tu [VV.ag (g_Sweb r.1), vi r.2]) := by
 unfold nprofile_joined at h
 obtain ⟨r1502, h1503, h⟩ := bs h
 have e1504 := (ti (ti (an (nprofile_agreeing_ok k a0 a1 _ h1503) (ti (ti (ti (ti (ti (ti trivial)))))))))
 rcases ifs h with ⟨h1505, h⟩ | ⟨h1505, h⟩
 ·obtain ⟨r1506, h1507, h⟩ := bs h
  have e1508 := (show VC Try.prog 32 [VV.ag (c_Sweb r1502.1), vi 0] (VV.fr (List.map vi r1506) r1506.length) from (VC.weak (n_profile_web_from_ok k r1502.1 0 _ h1507) (Wv.fw rfl rfl)))
  obtain ⟨r1509, h1510, h⟩ := bs h
  have e1511 := (nslices_Contains_int_int__ok k r1506 9223372036854775807 _ h1510)
  rcases ifs h with ⟨h1512, h⟩ | ⟨h1512, h⟩
  ·injection h with h; subst h
   exact fun_ok pm pn Try.func14 (r0 := VV.tu [VV.ag [vi 0, VV.c (.slice none 0 0)], vi 25]) (ans := [.reg (.n :: .n :: []), .reg (.n :: .n :: .call (VV.tu [VV.ag (g_Sweb r1502.1), vi r1502.2]) :: nN 6 []), .reg (.n :: .n :: []), .br false, .reg (.n :: .call (VV.fr (List.map vi r1506) r1506.length) :: .call (vb r1509) :: []), .br true, .reg (nN 3 [])]) (fr := true) (by kernel_rfl) (an (an (ti (ti trivial)) (an e1504 (an (an (ti (ti trivial)) (an (not_f (decide_eq_true h1505)) trivial)) (an (ti (an e1508 (an e1511 trivial))) (an h1512 (an (ti (ti (ti trivial))) trivial)))))) (an (ti (ti (ti trivial))) (ti trivial))) (Wv.tuL (.cons (Wv.agL (.cons (Wv.of_eq eqW1_9) (.cons Wv.nilFr .nil))) (.cons (Wv.refl _) .nil)))
  ·injection h with h; subst h
   exact fun_ok pm pn Try.func14 (r0 := VV.tu [VV.ag (g_Sweb r1502.1), vi 0]) (ans := [.reg (.n :: .n :: []), .reg (.n :: .n :: .call (VV.tu [VV.ag (g_Sweb r1502.1), vi r1502.2]) :: nN 6 []), .reg (.n :: .n :: []), .br false, .reg (.n :: .call (VV.fr (List.map vi r1506) r1506.length) :: .call (vb r1509) :: []), .br false, .reg (nN 3 [])]) (fr := true) (by kernel_rfl) (an (an (ti (ti trivial)) (an e1504 (an (an (ti (ti trivial)) (an (not_f (decide_eq_true h1505)) trivial)) (an (an (ti (an e1508 (an e1511 trivial))) (an (bool_f h1512) trivial)) (an (ti (ti (ti trivial))) trivial))))) (an (ti (ti (ti trivial))) (ti trivial))) (Wv.refl _)
 ·injection h with h; subst h
  exact fun_ok pm pn Try.func14 (r0 := VV.tu [VV.ag [vi 0, VV.c (.slice none 0 0)], vi r1502.2]) (ans := [.reg (.n :: .n :: []), .reg (.n :: .n :: .call (VV.tu [VV.ag (g_Sweb r1502.1), vi r1502.2]) :: nN 6 []), .reg (.n :: .n :: []), .br true, .reg (nN 4 [])]) (fr := true) (by kernel_rfl) (an (an (ti (ti trivial)) (an e1504 (an (ti (ti trivial)) (an (not_t (decide_eq_false h1505)) (an (ti (ti (ti (ti trivial)))) trivial))))) (an (ti (ti (ti trivial))) (ti trivial))) (Wv.tuL (.cons (Wv.agL (.cons (Wv.of_eq eqW1_9) (.cons Wv.nilFr .nil))) (.cons (Wv.refl _) .nil)))
def arW1_4 (z0 : (List Int)) (z1 : Int) (z2 : (List Int)) (z3 : Int) : List Ans := (.n :: .n :: .call (VV.fr (List.map vi z0) z0.length) :: .n :: .n :: .v (vi (z0.getD z1.toNat 0)) :: .n :: .n :: .call (VV.fr (List.map vi z2) z2.length) :: .n :: .n :: .v (vi (z2.getD z3.toNat 0)) :: .n :: .n :: [])
theorem eqW1_10  : VV.tu [VV.ag [vi 0, vi 0], vb false] = VV.tu [VV.ag (c_SRange (⟨0, 0⟩ : SRange)), vb false] := by first | rfl | (simp only [unfr_vi, unfr_vb, map_cons, map_nil, un_i, un_b, unfr_c_SRange]; done) | (simp only [unfr_vi, unfr_vb, map_cons, map_nil, un_i, un_b, unfr_c_SRange]; rfl) | (simp only [unfr_vi, unfr_vb, map_cons, map_nil, un_i, un_b, unfr_c_SRange, c_SRange, length_cons, length_nil, length_append]; done)
theorem eqW1_11 (z0 : (List Int)) (z1 : Int) (z2 : (List Int)) (z3 : Int) : VV.tu [VV.ag [vi (w64 (0 - (z0.getD z1.toNat 0))), vi (z2.getD z3.toNat 0)], vb true] = VV.tu [VV.ag (c_SRange (⟨w64 (0 - (z0.getD z1.toNat 0)), (z2.getD z3.toNat 0)⟩ : SRange)), vb true] := by first | rfl | (simp only [unfr_vi, unfr_vb, map_cons, map_nil, un_i, un_b, unfr_c_SRange]; done) | (simp only [unfr_vi, unfr_vb, map_cons, map_nil, un_i, un_b, unfr_c_SRange]; rfl) | (simp only [unfr_vi, unfr_vb, map_cons, map_nil, un_i, un_b, unfr_c_SRange, c_SRange, length_cons, length_nil, length_append]; done)
def n_profile_web_between (k : Nat) (a0 : Sweb) (a1 : Int) (a2 : Int) : Option (SRange × Bool) :=
 (n_profile_web_from k a0 a1).bind fun r1525 => (if 0 <= a2 /\ a2 < (r1525.length : Int) then ((n_profile_web_from k a0 a2).bind fun r1530 => (if 0 <= a1 /\ a1 < (r1530.length : Int) then (if (r1525.getD a2.toNat 0) = 9223372036854775807 then (some ((⟨0, 0⟩ : SRange), false)) else (some ((⟨w64 (0 - (r1530.getD a1.toNat 0)), (r1525.getD a2.toNat 0)⟩ : SRange), true))) else none)) else none)
theorem n_profile_web_between_ok (k : Nat) (a0 : Sweb) (a1 : Int) (a2 : Int) (r : (SRange × Bool)) (h : n_profile_web_between k a0 a1 a2 = some r) : VC Try.prog 17 [VV.ag (c_Sweb a0), vi a1, vi a2] (VV.tu [VV.ag (c_SRange r.1), vb r.2]) := by
 unfold n_profile_web_between at h
 obtain ⟨r1525, h1526, h⟩ := bs h
 have e1527 := (show VC Try.prog 32 [VV.ag (c_Sweb a0), vi a1] (VV.fr (List.map vi r1525) r1525.length) from (VC.weak (n_profile_web_from_ok k a0 a1 _ h1526) (Wv.fw rfl rfl)))
 obtain ⟨h1528, h⟩ := ifn h
 have e1529 := (show loadL Try.prog 3 (a2.toNat * 1) (List.map vi r1525) = some (vi (r1525.getD a2.toNat 0)) from ld_map ag3 vi r1525 0 h1528 (by omega))
 obtain ⟨r1530, h1531, h⟩ := bs h
 have e1532 := (show VC Try.prog 32 [VV.ag (c_Sweb a0), vi a2] (VV.fr (List.map vi r1530) r1530.length) from (VC.weak (n_profile_web_from_ok k a0 a2 _ h1531) (Wv.fw rfl rfl)))
 obtain ⟨h1533, h⟩ := ifn h
 have e1534 := (show loadL Try.prog 3 (a1.toNat * 1) (List.map vi r1530) = some (vi (r1530.getD a1.toNat 0)) from ld_map ag3 vi r1530 0 h1533 (by omega))
 have e1535 := (ti (ti (an e1527 (ti (an h1528 (an e1529 (ti (ti (an e1532 (ti (an h1533 (an e1534 (ti (ti trivial))))))))))))))
 rcases ifs h with ⟨h1536, h⟩ | ⟨h1536, h⟩
 ·injection h with h; subst h
  exact fun_ok pm pn Try.func17 (r0 := VV.tu [VV.ag [vi 0, vi 0], vb false]) (ans := [.reg (nN 3 []), .reg (arW1_4 r1525 a2 r1530 a1), .reg (.n :: .n :: []), .br true, .reg (nN 3 [])]) (fr := true) (by kernel_rfl) (an (an (ti (ti (ti trivial))) (an e1535 (an (ti (ti trivial)) (an (decide_eq_true h1536) (an (ti (ti (ti trivial))) trivial))))) (an (ti (ti (ti trivial))) (ti trivial))) (Wv.of_eq eqW1_10)
 ·injection h with h; subst h
  exact fun_ok pm pn Try.func17 (r0 := VV.tu [VV.ag [vi (w64 (0 - (r1530.getD a1.toNat 0))), vi (r1525.getD a2.toNat 0)], vb true]) (ans := [.reg (nN 3 []), .reg (arW1_4 r1525 a2 r1530 a1), .reg (.n :: .n :: []), .br false, .reg (nN 6 [])]) (fr := true) (by kernel_rfl) (an (an (ti (ti (ti trivial))) (an e1535 (an (an (ti (ti trivial)) (an (decide_eq_false h1536) trivial)) (an (ti (ti (ti (ti (ti (ti trivial)))))) trivial)))) (an (ti (ti (ti trivial))) (ti trivial))) (Wv.of_eq (eqW1_11 r1530 a1 r1525 a2))
def arW1_5 (z0 : Sweb) (z1 : (List Int)) : List Ans := (.n :: .n :: .call (VV.ag (g_Sweb z0)) :: .call (VV.fr (List.map vi z1) z1.length) :: nN 4 [])
def nprofile_Enclosure_l0_0_h (a0 : Int) (r1577 : (Sweb × Int)) (y1 : List SRange) (x30 : Int) : VS := ⟨mkA [(7, VV.pt 0 0), (9, VV.rf 1 0 y1.length), (29, vi a0), (30, vi x30)], [some ⟨true, 1, g_Sweb r1577.1⟩, some ⟨false, 2, flatMap c_SRange y1⟩], .nil⟩
def nprofile_Enclosure_l0_0_e0 (a0 : Int) (r1577 : (Sweb × Int)) (r : (List SRange)) : VS := ⟨mkA [(9, VV.rf 1 0 r.length)], [some ⟨true, 1, g_Sweb r1577.1⟩, some ⟨false, 2, flatMap c_SRange r⟩], .nil⟩
def nprofile_Enclosure_l0_0 (k : Nat) (a0 : Int) (r1577 : (Sweb × Int)) : Nat -> (List SRange) -> Int -> Option ((List SRange))
 | 0, _, _ => none
 | fuel + 1, y1, x30 => if x30 < a0 then ((n_profile_web_between k r1577.1 0 x30).bind fun r1608 => (if 0 <= x30 /\ x30 < (y1.length : Int) then (nprofile_Enclosure_l0_0 k a0 r1577 fuel (y1.set x30.toNat r1608.1) (w64 (x30 + 1))) else none)) else (some y1)
theorem nprofile_Enclosure_l0_0_ok (k : Nat) (a0 : Int) (r1577 : (Sweb × Int)) : ∀ (fuel : Nat) (y1 : List SRange) (x30 : Int) (r : (List SRange)), nprofile_Enclosure_l0_0 k a0 r1577 fuel y1 x30 = some r -> (VLoop none Try.prog (szF Try.f6) (bodyOf Try.f6 0) (nprofile_Enclosure_l0_0_h a0 r1577 y1 x30) (.exit 0) (nprofile_Enclosure_l0_0_e0 a0 r1577 r)) := by
 intro fuel
 induction fuel with
 | zero => intro y1 x30 r h; rw [nprofile_Enclosure_l0_0.eq_1] at h; cases h
 | succ fuel ih =>
  intro y1 x30 r h
  rw [nprofile_Enclosure_l0_0.eq_2] at h
  rcases ifs h with ⟨h1607, h⟩ | ⟨h1607, h⟩
  ·obtain ⟨r1608, h1609, h⟩ := bs h
   have e1610 := (n_profile_web_between_ok k r1577.1 0 x30 _ h1609)
   obtain ⟨h1611, h⟩ := ifn h
   have e1612 := (show (0 + x30.toNat * 2) + 2 <= List.length (flatMap c_SRange y1) from (by rw [flat_len len_c_SRange]; have := h1611; omega))
   have e1613 := (ti (ti (ti (ti (an e1610 (ti (ti (ti (an h1611 (an e1612 trivial))))))))))
   have h2 := ih _ _ _ h
   obtain ⟨q, hv, hq⟩ := pkR (rd := none) (P := Try.prog) (fn := Try.f6) (k := 0) (s := (nprofile_Enclosure_l0_0_h a0 r1577 y1 x30)) (ans := [.reg (.n :: []), .br true, .reg (.n :: .n :: []), .reg (nN 4 (.call (VV.tu [VV.ag (c_SRange r1608.1), vb r1608.2]) :: nN 5 [])), .reg (.n :: .n :: [])]) (c := ⟨[(7, none), (9, some (VV.rf 1 0 ((y1.set x30.toNat r1608.1).length))), (29, none), (30, none)], [none, some (flatMap c_SRange (y1.set x30.toNat r1608.1))], []⟩) (e := .normal) (s1 := (nprofile_Enclosure_l0_0_h a0 r1577 (y1.set x30.toNat r1608.1) (w64 (x30 + 1)))) (an (an (ti trivial) (an (an (decide_eq_true h1607) trivial) (an (an (ti (ti trivial)) e1613) (ti (ti trivial))))) (an (an (show Wv (VV.rf 1 0 y1.length) (VV.rf 1 0 ((y1.set x30.toNat r1608.1).length)) from (Wv.of_eq (by simp [cpy_len]))) trivial) (an (show putT (0 + x30.toNat * 2) (flatMap c_SRange y1) [vi r1608.1.Lo, vi r1608.1.Hi] = flatMap c_SRange (y1.set x30.toNat r1608.1) from (by exact putT_flat len_c_SRange y1 h1611 r1608.1 (by omega))) trivial))) (by kernel_rfl)
   exact round_next pm pn hv hq h2
  ·injection h with h; subst h
   exact round_stop (c := ⟨[(9, none)], [none, none], []⟩) (s1 := (nprofile_Enclosure_l0_0_e0 a0 r1577 y1)) pm pn (ans := [.reg (.n :: []), .br false]) (by kernel_rfl) (by intro e; cases e) (an (an (ti trivial) (an (decide_eq_false h1607) trivial)) (ti trivial))
theorem eqW1_12 (z0 : (List SRange)) : List.drop 0 (List.map unfr (flatMap c_SRange z0)) = flatMap c_SRange z0 := by first | rfl | (simp only [Nat.zero_add, Nat.mul_one, List.map_drop, List.length_drop, drop0, map_cons, map_nil, Nat.zero_add, unfr_c_SRange]; done) | (simp only [Nat.zero_add, Nat.mul_one, List.map_drop, List.length_drop, drop0, map_cons, map_nil, Nat.zero_add, unfr_c_SRange]; rfl) | (simp only [Nat.zero_add, Nat.mul_one, List.map_drop, List.length_drop, drop0, map_cons, map_nil, Nat.zero_add, unfr_c_SRange, c_SRange, length_cons, length_nil, length_append]; done)
def nprofile_Enclosure (k : Nat) (a0 : Int) (a1 : (List SHeightReading)) : Option ((List SRange) × (List Int) × Int) :=
 (nprofile_joined k a0 a1).bind fun r1577 => (if r1577.2 = 13 then ((nprofile_newWeb k a0 a1).bind fun r1581 => ((n_profile_web_circle k r1581).bind fun r1584 => (some ([], r1584, r1577.2)))) else (if r1577.2 = 0 then (if 0 <= a0 /\ a0 <= 1000000000 then ((nprofile_Enclosure_l0_0 k a0 r1577 k (List.replicate a0.toNat (⟨0, 0⟩ : SRange)) 0).bind fun r1615 => (some (r1615, [], 0))) else none) else (some ([], [], r1577.2))))
theorem nprofile_Enclosure_ok (k : Nat) (a0 : Int) (a1 : (List SHeightReading)) (r : ((List SRange) × (List Int) × Int)) (h : nprofile_Enclosure k a0 a1 = some r) : VC Try.prog 6 [vi a0, VV.tr (flatMap c_SHeightReading a1) a1.length] (VV.tu [VV.fr (flatMap c_SRange r.1) r.1.length, VV.fr (List.map vi r.2.1) r.2.1.length, vi r.2.2]) := by
 unfold nprofile_Enclosure at h
 obtain ⟨r1577, h1578, h⟩ := bs h
 have e1579 := (ti (ti (an (nprofile_joined_ok k a0 a1 _ h1578) (ti (ti (ti (ti (ti (ti trivial)))))))))
 rcases ifs h with ⟨h1580, h⟩ | ⟨h1580, h⟩
 ·obtain ⟨r1581, h1582, h⟩ := bs h
  have e1583 := (show VC Try.prog 15 [vi a0, VV.tr (flatMap c_SHeightReading a1) a1.length] (VV.ag (g_Sweb r1581)) from (VC.weak (nprofile_newWeb_ok k a0 a1 _ h1582) (Wv.agL (.cons (Wv.refl _) (.cons (Wv.fw rfl rfl) .nil)))))
  obtain ⟨r1584, h1585, h⟩ := bs h
  have e1586 := (show VC Try.prog 16 [VV.ag (c_Sweb r1581)] (VV.fr (List.map vi r1584) r1584.length) from (VC.weak (n_profile_web_circle_ok k r1581 _ h1585) (Wv.fw rfl rfl)))
  have e1587 := (ti (ti (an e1583 (an e1586 (ti (ti (ti (ti trivial))))))))
  injection h with h; subst h
  exact fun_ok pm pn Try.func6 (r0 := VV.tu [VV.c (.slice none 0 0), VV.fr (List.map vi r1584) r1584.length, vi r1577.2]) (ans := [.reg (nN 3 []), .reg (.n :: .n :: .call (VV.tu [VV.ag (g_Sweb r1577.1), vi r1577.2]) :: nN 6 []), .reg (.n :: .n :: []), .br true, .reg (arW1_5 r1581 r1584)]) (fr := true) (by kernel_rfl) (an (an (ti (ti (ti trivial))) (an e1579 (an (ti (ti trivial)) (an (decide_eq_true h1580) (an e1587 trivial))))) (ti (ti (ti trivial)))) (Wv.tuL (.cons Wv.nilFr (.cons (Wv.refl _) (.cons (Wv.refl _) .nil))))
 ·rcases ifs h with ⟨h1588, h⟩ | ⟨h1588, h⟩
  ·obtain ⟨h1589, h⟩ := ifn h
   have e1590 := (show 0 <= a0 /\ a0 = a0 /\ (16 * a0.toNat) <= 281474976710656 /\ a0 < 1099511627776 from ⟨by omega, rfl, by omega, by omega⟩)
   obtain ⟨r1615, h1614, h⟩ := bs h
   have hph1614 := nprofile_Enclosure_l0_0_ok k a0 r1577 _ _ _ _ h1614
   have e1616 := (an (an (an (show Wv (VV.rf 1 0 a0.toNat) (VV.rf 1 0 ((List.replicate a0.toNat (⟨0, 0⟩ : SRange)).length)) from (Wv.of_eq (by simp [cpy_len]))) trivial) (an (show zeroCells (.agg #[.int .i64 0, .int .i64 0]) (a0.toNat * 2) = flatMap c_SRange (List.replicate a0.toNat (⟨0, 0⟩ : SRange)) from zero_flat c_SRange (.agg #[.int .i64 0, .int .i64 0]) (⟨0, 0⟩ : SRange) 2 (by decide) rfl rfl _) trivial)) (VRun.loop hph1614))
   injection h with h; subst h
   exact fun_ok pm pn Try.func6 (r0 := VV.tu [VV.fw 2 (List.drop 0 (List.map unfr (flatMap c_SRange r1615))) r1615.length, VV.c (.slice none 0 0), vi 0]) (ans := [.reg (nN 3 []), .reg (.n :: .n :: .call (VV.tu [VV.ag (g_Sweb r1577.1), vi r1577.2]) :: nN 6 []), .reg (.n :: .n :: []), .br false, .reg (.n :: .n :: []), .br false, .reg (nN 3 []), .reg (.n :: .n :: []), .sub ⟨[(7, none), (9, some (VV.rf 1 0 ((List.replicate a0.toNat (⟨0, 0⟩ : SRange)).length))), (29, none), (30, none)], [none, some (flatMap c_SRange (List.replicate a0.toNat (⟨0, 0⟩ : SRange)))], []⟩ (.exit 0) (nprofile_Enclosure_l0_0_e0 a0 r1577 r1615), .reg (nN 4 [])]) (fr := true) (by kernel_rfl) (an (an (ti (ti (ti trivial))) (an e1579 (an (an (ti (ti trivial)) (an (decide_eq_false h1580) trivial)) (an (an (ti (ti trivial)) (an (not_f (decide_eq_true h1588)) trivial)) (an (ti (an e1590 (ti trivial))) (an (an (ti (ti trivial)) e1616) (an (ti (ti (ti (ti trivial)))) trivial))))))) (an (show List.all (flatMap c_SRange r1615) new0 = true from (by exact new0_c_SRange _)) (ti (ti trivial)))) (Wv.tuL (.cons (Wv.fw (eqW1_12 r1615) rfl) (.cons Wv.nilFr (.cons (Wv.refl _) .nil))))
  ·injection h with h; subst h
   exact fun_ok pm pn Try.func6 (r0 := VV.tu [VV.c (.slice none 0 0), VV.c (.slice none 0 0), vi r1577.2]) (ans := [.reg (nN 3 []), .reg (.n :: .n :: .call (VV.tu [VV.ag (g_Sweb r1577.1), vi r1577.2]) :: nN 6 []), .reg (.n :: .n :: []), .br false, .reg (.n :: .n :: []), .br true, .reg (nN 4 [])]) (fr := true) (by kernel_rfl) (an (an (ti (ti (ti trivial))) (an e1579 (an (an (ti (ti trivial)) (an (decide_eq_false h1580) trivial)) (an (ti (ti trivial)) (an (not_t (decide_eq_false h1588)) (an (ti (ti (ti (ti trivial)))) trivial)))))) (ti (ti (ti trivial)))) (Wv.tuL (.cons Wv.nilFr (.cons Wv.nilFr (.cons (Wv.refl _) .nil))))
def nspeculumbase_CopyInts (k : Nat) (a0 : (List Int)) : Option (List Int) :=
 if ([] : List Int).length + a0.length <= 1000000000 then (some (([] : List Int) ++ a0)) else none
theorem nspeculumbase_CopyInts_ok (k : Nat) (a0 : (List Int)) (r : (List Int)) (h : nspeculumbase_CopyInts k a0 = some r) : VC Try.prog 7 [VV.tr (List.map vi a0) a0.length] (VV.fw 1 (List.map vi r) r.length) := by
 unfold nspeculumbase_CopyInts at h
 obtain ⟨h1619, h⟩ := ifn h
 have e1620 := (show List.length [] = 0 * 1 /\ List.length (List.map vi a0) = a0.length * 1 /\ (0 + a0.length) * 8 <= 140737488355328 /\ 0 + a0.length < 1099511627776 /\ List.all (List.map vi a0) VV.still = true from ⟨(by rw [show [] = List.map vi ([] : List Int) from rfl]; simp), (by simp), (by first | omega | (simp at h1619 ⊢; omega)), (by first | omega | (simp at h1619 ⊢; omega)), (by exact still_vi _)⟩)
 injection h with h; subst h
 exact fun_ok pm pn Try.func7 (r0 := VV.fw 1 (List.drop 0 (List.map unfr ([] ++ (List.map vi a0)))) (0 + a0.length)) (ans := [.reg (.n :: []), .reg (nN 4 [])]) (fr := true) (by kernel_rfl) (an (an (ti trivial) (an (ti (ti (an e1620 (ti trivial)))) trivial)) (an (show List.all ([] ++ (List.map vi a0)) new0 = true from (by rw [show [] ++ (List.map vi a0) = List.map vi (([] : List Int) ++ a0) from (by rw [show [] = List.map vi ([] : List Int) from rfl]; exact List.map_append.symm)]; exact new0_vi _)) trivial)) (Wv.of_eq (by simp only [show [] ++ (List.map vi a0) = List.map vi (([] : List Int) ++ a0) from (by rw [show [] = List.map vi ([] : List Int) from rfl]; exact List.map_append.symm), Nat.zero_add, Nat.mul_one, List.map_drop, List.length_drop, drop0, unfr_vi, unfr_vb, unfr_vs, map_cons, map_nil, un_i, un_k, un_b, un_s, un_tr, un_fr, length_map, length_replicate, length_append, List.length_set, length_cons, length_nil, Nat.zero_add, unfr_c_SHeightReading, unfr_c_SRange, unfr_c_Sleg, unfr_c_Sweb, unfr_g_Sweb]))
def nspeculumbase_Within (k : Nat) (a0 : Int) (a1 : Int) (a2 : Int) : Option Bool :=
 if a1 <= a0 then (some (decide (a0 <= a2))) else (some false)
theorem nspeculumbase_Within_ok (k : Nat) (a0 : Int) (a1 : Int) (a2 : Int) (r : Bool) (h : nspeculumbase_Within k a0 a1 a2 = some r) : VC Try.prog 8 [vi a0, vi a1, vi a2] (vb r) := by
 unfold nspeculumbase_Within at h
 rcases ifs h with ⟨h1624, h⟩ | ⟨h1624, h⟩
 ·have e1625 := (ti (ti (ti (ti (an (an (decide_eq_true h1624) trivial) (an (an (decide_eq_true h1624) trivial) (an (an (decide_eq_true h1624) trivial) (an (decide_eq_true h1624) (ti trivial)))))))))
  injection h with h; subst h
  exact fun_ok pm pn Try.func8 (r0 := vb (decide (a0 <= a2))) (ans := [.reg (.n :: []), .reg (nN 7 (.b true :: .n :: []))]) (fr := true) (by kernel_rfl) (an (an (ti trivial) (an e1625 trivial)) (ti trivial)) (Wv.refl _)
 ·have e1626 := (ti (ti (ti (ti (an (decide_eq_false h1624) (an (decide_eq_false h1624) (an (decide_eq_false h1624) (an (decide_eq_false h1624) (ti trivial)))))))))
  injection h with h; subst h
  exact fun_ok pm pn Try.func8 (r0 := vb false) (ans := [.reg (.n :: []), .reg (nN 4 (nS 3 (.b false :: .n :: [])))]) (fr := true) (by kernel_rfl) (an (an (ti trivial) (an e1626 trivial)) (ti trivial)) (Wv.refl _)
def arW1_6 (z0 : SMeasured) (z1 : Int) : List Ans := (nN 4 (.v (VV.ag (c_A43 (z0.Pairs.getD z1.toNat default))) :: nN 4 (.v (VV.ag (c_A43 (z0.Errors.getD z1.toNat default))) :: nN 4 [])))
def arW1_7 (z0 : Bool) (z1 : Bool) : List Ans := (nN 4 (.call (vb z0) :: nN 6 (.call (vb z1) :: .n :: .b false :: nN 6 (.b false :: .n :: nS 4 (.b true :: .n :: nS 4 (.b true :: []))))))
def arW1_8 (z0 : Bool) (z1 : Bool) (z2 : Bool) (z3 : Bool) : List Ans := (nN 4 (.call (vb z0) :: nN 6 (.call (vb z1) :: .n :: .b false :: nN 6 (.b false :: nN 3 (.call (vb z2) :: .n :: .b false :: nN 3 (.call (vb z3) :: .n :: .b false :: []))))))
def arW1_9 (z0 : SMeasured) (z1 : Int) : List Ans := (nN 5 (.v (vi (z0.Heights.getD ((z0.Pairs.getD z1.toNat default).e1).toNat 0)) :: nN 5 (.v (vi (z0.Heights.getD ((z0.Pairs.getD z1.toNat default).e0).toNat 0)) :: .n :: .n :: [])))
def arW1_10 (z0 : Bool) (z1 : Bool) (z2 : Bool) : List Ans := (nN 4 (.call (vb z0) :: nN 6 (.call (vb z1) :: .n :: .b false :: nN 6 (.b false :: nN 3 (.call (vb z2) :: .n :: .b false :: .n :: nS 4 (.b true :: []))))))
def arW1_11 (z0 : Bool) (z1 : Bool) : List Ans := (nN 4 (.call (vb z0) :: nN 6 (.call (vb z1) :: .n :: .b false :: .n :: nS 5 (.b true :: .n :: nS 4 (.b true :: .n :: nS 4 (.b true :: []))))))
def arW1_12 (z0 : Bool) : List Ans := (nN 4 (.call (vb z0) :: .n :: .n :: nS 6 (.b true :: .n :: nS 5 (.b true :: .n :: nS 4 (.b true :: .n :: nS 4 (.b true :: []))))))
def n_speculumtop_Measured_readings_l0_0_h (a0 : SMeasured) (a1 : Int) (x7 : Int) : VS := ⟨mkA [(1, vi a1), (2, VV.pt 0 0), (6, vi (a0.Heights.length : Int)), (7, vi x7)], [some ⟨true, 1, c_SMeasured a0⟩], .nil⟩
def n_speculumtop_Measured_readings_l0_0_e0 (a0 : SMeasured) (a1 : Int) (r : Unit) : VS := ⟨mkA [(4, VV.c (.slice none 0 0)), (5, vb false)], [], .nil⟩
def n_speculumtop_Measured_readings_l0_0_e1 (a0 : SMeasured) (a1 : Int) (r : Unit) : VS := ⟨mkA [(1, vi a1), (2, VV.pt 0 0), (6, vi (a0.Heights.length : Int))], [some ⟨true, 1, c_SMeasured a0⟩], .nil⟩
def n_speculumtop_Measured_readings_l0_0 (k : Nat) (a0 : SMeasured) (a1 : Int) : Nat -> Int -> Option (Sum Unit Unit)
 | 0, _ => none
 | fuel + 1, x7 => if x7 < (a0.Heights.length : Int) then (if 0 <= x7 /\ x7 < (a0.Heights.length : Int) then ((nspeculumbase_Within k (a0.Heights.getD x7.toNat 0) (-100000) 100000).bind fun r1895 => (if r1895 = true then (n_speculumtop_Measured_readings_l0_0 k a0 a1 fuel (w64 (x7 + 1))) else (some (.inl ())))) else none) else (some (.inr ()))
theorem n_speculumtop_Measured_readings_l0_0_ok (k : Nat) (a0 : SMeasured) (a1 : Int) : ∀ (fuel : Nat) (x7 : Int) (r : Sum Unit Unit), n_speculumtop_Measured_readings_l0_0 k a0 a1 fuel x7 = some r -> (match r with | .inl r => VLoop none Try.prog (szF Try.f5) (bodyOf Try.f5 0) (n_speculumtop_Measured_readings_l0_0_h a0 a1 x7) .ret (n_speculumtop_Measured_readings_l0_0_e0 a0 a1 r) | .inr r => VLoop none Try.prog (szF Try.f5) (bodyOf Try.f5 0) (n_speculumtop_Measured_readings_l0_0_h a0 a1 x7) (.exit 0) (n_speculumtop_Measured_readings_l0_0_e1 a0 a1 r)) := by
 intro fuel
 induction fuel with
 | zero => intro x7 r h; rw [n_speculumtop_Measured_readings_l0_0.eq_1] at h; cases h
 | succ fuel ih =>
  intro x7 r h
  rw [n_speculumtop_Measured_readings_l0_0.eq_2] at h
  rcases ifs h with ⟨h1892, h⟩ | ⟨h1892, h⟩
  ·obtain ⟨h1893, h⟩ := ifn h
   have e1894 := (show loadL Try.prog 3 (x7.toNat * 1) (List.map vi a0.Heights) = some (vi (a0.Heights.getD x7.toNat 0)) from ld_map ag3 vi a0.Heights 0 h1893 (by omega))
   obtain ⟨r1895, h1896, h⟩ := bs h
   have e1897 := (nspeculumbase_Within_ok k (a0.Heights.getD x7.toNat 0) (-100000) 100000 _ h1896)
   have e1898 := (ti (ti (ti (an h1893 (an e1894 (an e1897 (ti trivial)))))))
   rcases ifs h with ⟨h1899, h⟩ | ⟨h1899, h⟩
   ·have h2 := ih _ _ h
    obtain ⟨q, hv, hq⟩ := pkR (rd := none) (P := Try.prog) (fn := Try.f5) (k := 0) (s := (n_speculumtop_Measured_readings_l0_0_h a0 a1 x7)) (ans := [.reg (nN 3 []), .br true, .reg (nN 4 (.v (vi (a0.Heights.getD x7.toNat 0)) :: .call (vb r1895) :: .n :: [])), .br false, .reg (nN 3 [])]) (c := ⟨[(1, none), (2, none), (6, none), (7, none)], [none], []⟩) (e := .normal) (s1 := (n_speculumtop_Measured_readings_l0_0_h a0 a1 (w64 (x7 + 1)))) (an (an (an (ti (ti (ti trivial))) (an (decide_eq_true h1892) trivial)) (an (an e1898 (an (not_f h1899) trivial)) (ti (ti (ti trivial))))) (ti trivial)) (by kernel_rfl)
    cases r with
    | inl r => exact round_next pm pn hv hq h2
    | inr r =>
     exact round_next pm pn hv hq h2
   ·injection h with h; subst h
    exact round_stop (c := ⟨[(4, none), (5, none)], [], []⟩) (s1 := (n_speculumtop_Measured_readings_l0_0_e0 a0 a1 ())) pm pn (ans := [.reg (nN 3 []), .br true, .reg (nN 4 (.v (vi (a0.Heights.getD x7.toNat 0)) :: .call (vb r1895) :: .n :: [])), .br true, .reg (.n :: .n :: [])]) (by kernel_rfl) (by intro e; cases e) (an (an (an (ti (ti (ti trivial))) (an (decide_eq_true h1892) trivial)) (an e1898 (an (not_t (bool_f h1899)) (an (ti (ti trivial)) trivial)))) (ti trivial))
  ·injection h with h; subst h
   exact round_stop (c := ⟨[(1, none), (2, none), (6, none)], [none], []⟩) (s1 := (n_speculumtop_Measured_readings_l0_0_e1 a0 a1 ())) pm pn (ans := [.reg (nN 3 []), .br false]) (by kernel_rfl) (by intro e; cases e) (an (an (ti (ti (ti trivial))) (an (decide_eq_false h1892) trivial)) (ti trivial))
def n_speculumtop_Measured_readings_l1_0_h (a0 : SMeasured) (a1 : Int) (y1 : List SHeightReading) (x9 : Int) : VS := ⟨mkA [(1, vi a1), (2, VV.pt 0 0), (6, vi (a0.Heights.length : Int)), (8, VV.rf 1 0 y1.length), (9, vi x9)], [some ⟨true, 1, c_SMeasured a0⟩, some ⟨false, 4, flatMap c_SHeightReading y1⟩], .nil⟩
def n_speculumtop_Measured_readings_l1_0_e0 (a0 : SMeasured) (a1 : Int) (r : Unit) : VS := ⟨mkA [(4, VV.c (.slice none 0 0)), (5, vb false)], [], .nil⟩
def n_speculumtop_Measured_readings_l1_0_e1 (a0 : SMeasured) (a1 : Int) (r : (List SHeightReading)) : VS := ⟨mkA [(8, VV.rf 1 0 r.length)], [some ⟨true, 1, c_SMeasured a0⟩, some ⟨false, 4, flatMap c_SHeightReading r⟩], .nil⟩
def n_speculumtop_Measured_readings_l1_0 (k : Nat) (a0 : SMeasured) (a1 : Int) : Nat -> (List SHeightReading) -> Int -> Option (Sum Unit (List SHeightReading))
 | 0, _, _ => none
 | fuel + 1, y1, x9 => if x9 < (a0.Pairs.length : Int) then (if 0 <= x9 /\ x9 < (a0.Pairs.length : Int) then (if 0 <= x9 /\ x9 < (a0.Errors.length : Int) then ((nspeculumbase_Within k ((a0.Pairs.getD x9.toNat default).e0) 0 (w64 ((a0.Heights.length : Int) - 1))).bind fun r2060 => (if r2060 = true then ((nspeculumbase_Within k ((a0.Pairs.getD x9.toNat default).e1) 0 (w64 ((a0.Heights.length : Int) - 1))).bind fun r2065 => (if r2065 = true then (if ((a0.Pairs.getD x9.toNat default).e0) = ((a0.Pairs.getD x9.toNat default).e1) then (some (.inl ())) else ((nspeculumbase_Within k ((a0.Errors.getD x9.toNat default).e0) 0 100000).bind fun r2074 => (if r2074 = true then ((nspeculumbase_Within k ((a0.Errors.getD x9.toNat default).e1) 0 100000).bind fun r2079 => (if r2079 = true then (if 0 <= (a0.Pairs.getD x9.toNat default).e1 /\ (a0.Pairs.getD x9.toNat default).e1 < (a0.Heights.length : Int) then (if 0 <= (a0.Pairs.getD x9.toNat default).e0 /\ (a0.Pairs.getD x9.toNat default).e0 < (a0.Heights.length : Int) then (if a1 ≠ 0 then (if y1.length + ([(⟨(a0.Pairs.getD x9.toNat default).e0, (a0.Pairs.getD x9.toNat default).e1, (⟨w64 ((w64 ((a0.Heights.getD ((a0.Pairs.getD x9.toNat default).e1).toNat 0) - (a0.Heights.getD ((a0.Pairs.getD x9.toNat default).e0).toNat 0))) - (w64 (((a0.Errors.getD x9.toNat default).e0).tdiv a1))), w64 ((w64 ((a0.Heights.getD ((a0.Pairs.getD x9.toNat default).e1).toNat 0) - (a0.Heights.getD ((a0.Pairs.getD x9.toNat default).e0).toNat 0))) + (w64 (((a0.Errors.getD x9.toNat default).e1).tdiv a1)))⟩ : SRange)⟩ : SHeightReading)] : List SHeightReading).length <= 1000000000 then (n_speculumtop_Measured_readings_l1_0 k a0 a1 fuel (y1 ++ ([(⟨(a0.Pairs.getD x9.toNat default).e0, (a0.Pairs.getD x9.toNat default).e1, (⟨w64 ((w64 ((a0.Heights.getD ((a0.Pairs.getD x9.toNat default).e1).toNat 0) - (a0.Heights.getD ((a0.Pairs.getD x9.toNat default).e0).toNat 0))) - (w64 (((a0.Errors.getD x9.toNat default).e0).tdiv a1))), w64 ((w64 ((a0.Heights.getD ((a0.Pairs.getD x9.toNat default).e1).toNat 0) - (a0.Heights.getD ((a0.Pairs.getD x9.toNat default).e0).toNat 0))) + (w64 (((a0.Errors.getD x9.toNat default).e1).tdiv a1)))⟩ : SRange)⟩ : SHeightReading)] : List SHeightReading)) (w64 (x9 + 1))) else none) else none) else none) else none) else (some (.inl ())))) else (some (.inl ()))))) else (some (.inl ())))) else (some (.inl ())))) else none) else none) else (some (.inr y1))
theorem n_speculumtop_Measured_readings_l1_0_ok (k : Nat) (a0 : SMeasured) (a1 : Int) : ∀ (fuel : Nat) (y1 : List SHeightReading) (x9 : Int) (r : Sum Unit (List SHeightReading)), n_speculumtop_Measured_readings_l1_0 k a0 a1 fuel y1 x9 = some r -> (match r with | .inl r => VLoop none Try.prog (szF Try.f5) (bodyOf Try.f5 1) (n_speculumtop_Measured_readings_l1_0_h a0 a1 y1 x9) .ret (n_speculumtop_Measured_readings_l1_0_e0 a0 a1 r) | .inr r => VLoop none Try.prog (szF Try.f5) (bodyOf Try.f5 1) (n_speculumtop_Measured_readings_l1_0_h a0 a1 y1 x9) (.exit 2) (n_speculumtop_Measured_readings_l1_0_e1 a0 a1 r)) := by
 intro fuel
 induction fuel with
 | zero => intro y1 x9 r h; rw [n_speculumtop_Measured_readings_l1_0.eq_1] at h; cases h
 | succ fuel ih =>
  intro y1 x9 r h
  rw [n_speculumtop_Measured_readings_l1_0.eq_2] at h
  rcases ifs h with ⟨h2053, h⟩ | ⟨h2053, h⟩
  ·obtain ⟨h2054, h⟩ := ifn h
   have e2055 := (show loadL Try.prog 43 (x9.toNat * 2) (flatMap c_A43 a0.Pairs) = some (VV.ag (c_A43 (a0.Pairs.getD x9.toNat default))) from ld_whole ag43 c_A43 2 sz43 len_c_A43 a0.Pairs default h2054 (by omega))
   obtain ⟨h2056, h⟩ := ifn h
   have e2057 := (show loadL Try.prog 43 (x9.toNat * 2) (flatMap c_A43 a0.Errors) = some (VV.ag (c_A43 (a0.Errors.getD x9.toNat default))) from ld_whole ag43 c_A43 2 sz43 len_c_A43 a0.Errors default h2056 (by omega))
   have e2058 := (ti (ti (ti (an h2054 (an e2055 (ti (ti (ti (an h2056 (an e2057 (ti (ti (ti (ti trivial))))))))))))))
   have e2059 := (show (0:Int) <= 0 /\ (0:Int) < ((2 : Nat) : Int) from ⟨by decide, by decide⟩)
   obtain ⟨r2060, h2061, h⟩ := bs h
   have e2062 := (nspeculumbase_Within_ok k ((a0.Pairs.getD x9.toNat default).e0) 0 (w64 ((a0.Heights.length : Int) - 1)) _ h2061)
   rcases ifs h with ⟨h2063, h⟩ | ⟨h2063, h⟩
   ·have e2064 := (an (not_f h2063) (show (0:Int) <= 1 /\ (1:Int) < ((2 : Nat) : Int) from ⟨by decide, by decide⟩))
    obtain ⟨r2065, h2066, h⟩ := bs h
    have e2067 := (an (not_f h2063) (nspeculumbase_Within_ok k ((a0.Pairs.getD x9.toNat default).e1) 0 (w64 ((a0.Heights.length : Int) - 1)) _ h2066))
    rcases ifs h with ⟨h2068, h⟩ | ⟨h2068, h⟩
    ·have e2069 := (an (not_f h2068) (show (0:Int) <= 0 /\ (0:Int) < ((2 : Nat) : Int) from ⟨by decide, by decide⟩))
     have e2070 := (an (not_f h2068) (show (0:Int) <= 1 /\ (1:Int) < ((2 : Nat) : Int) from ⟨by decide, by decide⟩))
     rcases ifs h with ⟨h2071, h⟩ | ⟨h2071, h⟩
     ·have e2072 := (an e2059 (ti (ti (ti (an e2062 (ti (ti (an e2064 (an (an (not_f h2063) trivial) (an (an (not_f h2063) trivial) (an (an (not_f h2063) trivial) (an e2067 (an (an (not_f h2063) trivial) (an (not_f h2063) (ti (an e2069 (an (an (not_f h2068) trivial) (an e2070 (an (an (not_f h2068) trivial) (an (an (not_f h2068) trivial) (an (not_f h2068) (ti (an (decide_eq_true h2071) (an (decide_eq_true h2071) (an (decide_eq_true h2071) (an (decide_eq_true h2071) (an (decide_eq_true h2071) (ti (an rt (an rt (an rt (an rt (an rt trivial)))))))))))))))))))))))))))))))))
      injection h with h; subst h
      exact round_stop (c := ⟨[(4, none), (5, none)], [], []⟩) (s1 := (n_speculumtop_Measured_readings_l1_0_e0 a0 a1 ())) pm pn (ans := [.reg (nN 5 []), .br true, .reg (arW1_6 a0 x9), .reg (arW1_7 r2060 r2065), .br true, .reg (.n :: .n :: [])]) (by kernel_rfl) (by intro e; cases e) (an (an (an (ti (ti (ti (ti (ti trivial))))) (an (decide_eq_true h2053) trivial)) (an e2058 (an e2072 (an rt (an (ti (ti trivial)) trivial))))) (ti trivial))
     ·have e2073 := (an (decide_eq_false h2071) (show (0:Int) <= 0 /\ (0:Int) < ((2 : Nat) : Int) from ⟨by decide, by decide⟩))
      obtain ⟨r2074, h2075, h⟩ := bs h
      have e2076 := (an (decide_eq_false h2071) (nspeculumbase_Within_ok k ((a0.Errors.getD x9.toNat default).e0) 0 100000 _ h2075))
      rcases ifs h with ⟨h2077, h⟩ | ⟨h2077, h⟩
      ·have e2078 := (an (not_f h2077) (show (0:Int) <= 1 /\ (1:Int) < ((2 : Nat) : Int) from ⟨by decide, by decide⟩))
       obtain ⟨r2079, h2080, h⟩ := bs h
       have e2081 := (an (not_f h2077) (nspeculumbase_Within_ok k ((a0.Errors.getD x9.toNat default).e1) 0 100000 _ h2080))
       have e2082 := (an e2059 (ti (ti (ti (an e2062 (ti (ti (an e2064 (an (an (not_f h2063) trivial) (an (an (not_f h2063) trivial) (an (an (not_f h2063) trivial) (an e2067 (an (an (not_f h2063) trivial) (an (not_f h2063) (ti (an e2069 (an (an (not_f h2068) trivial) (an e2070 (an (an (not_f h2068) trivial) (an (an (not_f h2068) trivial) (an (not_f h2068) (ti (an e2073 (an (an (decide_eq_false h2071) trivial) (an e2076 (an (an (decide_eq_false h2071) trivial) (an (decide_eq_false h2071) (ti (an e2078 (an (an (not_f h2077) trivial) (an e2081 (an (an (not_f h2077) trivial) (an (not_f h2077) trivial)))))))))))))))))))))))))))))))))
       rcases ifs h with ⟨h2083, h⟩ | ⟨h2083, h⟩
       ·have e2084 := (show (0:Int) <= 1 /\ (1:Int) < ((2 : Nat) : Int) from ⟨by decide, by decide⟩)
        obtain ⟨h2085, h⟩ := ifn h
        have e2086 := (show loadL Try.prog 3 (((a0.Pairs.getD x9.toNat default).e1).toNat * 1) (List.map vi a0.Heights) = some (vi (a0.Heights.getD ((a0.Pairs.getD x9.toNat default).e1).toNat 0)) from ld_map ag3 vi a0.Heights 0 h2085 (by omega))
        have e2087 := (show (0:Int) <= 0 /\ (0:Int) < ((2 : Nat) : Int) from ⟨by decide, by decide⟩)
        obtain ⟨h2088, h⟩ := ifn h
        have e2089 := (show loadL Try.prog 3 (((a0.Pairs.getD x9.toNat default).e0).toNat * 1) (List.map vi a0.Heights) = some (vi (a0.Heights.getD ((a0.Pairs.getD x9.toNat default).e0).toNat 0)) from ld_map ag3 vi a0.Heights 0 h2088 (by omega))
        have e2090 := (ti (ti (an e2084 (ti (an h2085 (an e2086 (ti (ti (an e2087 (ti (an h2088 (an e2089 (ti (ti trivial))))))))))))))
        have e2091 := (show (0:Int) <= 0 /\ (0:Int) < ((2 : Nat) : Int) from ⟨by decide, by decide⟩)
        have e2092 := (show (0:Int) <= 1 /\ (1:Int) < ((2 : Nat) : Int) from ⟨by decide, by decide⟩)
        have e2093 := (show (0:Int) <= 0 /\ (0:Int) < ((2 : Nat) : Int) from ⟨by decide, by decide⟩)
        obtain ⟨h2094, h⟩ := ifn h
        have e2095 := (show (0:Int) <= 1 /\ (1:Int) < ((2 : Nat) : Int) from ⟨by decide, by decide⟩)
        obtain ⟨h2096, h⟩ := ifn h
        have e2097 := (show List.length (flatMap c_SHeightReading y1) = y1.length * 4 /\ List.length [vi ((a0.Pairs.getD x9.toNat default).e0), vi ((a0.Pairs.getD x9.toNat default).e1), vi (w64 ((w64 ((a0.Heights.getD ((a0.Pairs.getD x9.toNat default).e1).toNat 0) - (a0.Heights.getD ((a0.Pairs.getD x9.toNat default).e0).toNat 0))) - (w64 (((a0.Errors.getD x9.toNat default).e0).tdiv a1)))), vi (w64 ((w64 ((a0.Heights.getD ((a0.Pairs.getD x9.toNat default).e1).toNat 0) - (a0.Heights.getD ((a0.Pairs.getD x9.toNat default).e0).toNat 0))) + (w64 (((a0.Errors.getD x9.toNat default).e1).tdiv a1))))] = 1 * 4 /\ (y1.length + 1) * 32 <= 140737488355328 /\ y1.length + 1 < 1099511627776 /\ List.all [vi ((a0.Pairs.getD x9.toNat default).e0), vi ((a0.Pairs.getD x9.toNat default).e1), vi (w64 ((w64 ((a0.Heights.getD ((a0.Pairs.getD x9.toNat default).e1).toNat 0) - (a0.Heights.getD ((a0.Pairs.getD x9.toNat default).e0).toNat 0))) - (w64 (((a0.Errors.getD x9.toNat default).e0).tdiv a1)))), vi (w64 ((w64 ((a0.Heights.getD ((a0.Pairs.getD x9.toNat default).e1).toNat 0) - (a0.Heights.getD ((a0.Pairs.getD x9.toNat default).e0).toNat 0))) + (w64 (((a0.Errors.getD x9.toNat default).e1).tdiv a1))))] VV.still = true from ⟨(by rw [flatMap_len len_c_SHeightReading] <;> simp), (by rw [show [vi ((a0.Pairs.getD x9.toNat default).e0), vi ((a0.Pairs.getD x9.toNat default).e1), vi (w64 ((w64 ((a0.Heights.getD ((a0.Pairs.getD x9.toNat default).e1).toNat 0) - (a0.Heights.getD ((a0.Pairs.getD x9.toNat default).e0).toNat 0))) - (w64 (((a0.Errors.getD x9.toNat default).e0).tdiv a1)))), vi (w64 ((w64 ((a0.Heights.getD ((a0.Pairs.getD x9.toNat default).e1).toNat 0) - (a0.Heights.getD ((a0.Pairs.getD x9.toNat default).e0).toNat 0))) + (w64 (((a0.Errors.getD x9.toNat default).e1).tdiv a1))))] = flatMap c_SHeightReading ([(⟨(a0.Pairs.getD x9.toNat default).e0, (a0.Pairs.getD x9.toNat default).e1, (⟨w64 ((w64 ((a0.Heights.getD ((a0.Pairs.getD x9.toNat default).e1).toNat 0) - (a0.Heights.getD ((a0.Pairs.getD x9.toNat default).e0).toNat 0))) - (w64 (((a0.Errors.getD x9.toNat default).e0).tdiv a1))), w64 ((w64 ((a0.Heights.getD ((a0.Pairs.getD x9.toNat default).e1).toNat 0) - (a0.Heights.getD ((a0.Pairs.getD x9.toNat default).e0).toNat 0))) + (w64 (((a0.Errors.getD x9.toNat default).e1).tdiv a1)))⟩ : SRange)⟩ : SHeightReading)] : List SHeightReading) from rfl]; rw [flatMap_len len_c_SHeightReading] <;> simp), (by first | omega | (simp at h2096 ⊢; omega)), (by first | omega | (simp at h2096 ⊢; omega)), (by rw [show [vi ((a0.Pairs.getD x9.toNat default).e0), vi ((a0.Pairs.getD x9.toNat default).e1), vi (w64 ((w64 ((a0.Heights.getD ((a0.Pairs.getD x9.toNat default).e1).toNat 0) - (a0.Heights.getD ((a0.Pairs.getD x9.toNat default).e0).toNat 0))) - (w64 (((a0.Errors.getD x9.toNat default).e0).tdiv a1)))), vi (w64 ((w64 ((a0.Heights.getD ((a0.Pairs.getD x9.toNat default).e1).toNat 0) - (a0.Heights.getD ((a0.Pairs.getD x9.toNat default).e0).toNat 0))) + (w64 (((a0.Errors.getD x9.toNat default).e1).tdiv a1))))] = flatMap c_SHeightReading ([(⟨(a0.Pairs.getD x9.toNat default).e0, (a0.Pairs.getD x9.toNat default).e1, (⟨w64 ((w64 ((a0.Heights.getD ((a0.Pairs.getD x9.toNat default).e1).toNat 0) - (a0.Heights.getD ((a0.Pairs.getD x9.toNat default).e0).toNat 0))) - (w64 (((a0.Errors.getD x9.toNat default).e0).tdiv a1))), w64 ((w64 ((a0.Heights.getD ((a0.Pairs.getD x9.toNat default).e1).toNat 0) - (a0.Heights.getD ((a0.Pairs.getD x9.toNat default).e0).toNat 0))) + (w64 (((a0.Errors.getD x9.toNat default).e1).tdiv a1)))⟩ : SRange)⟩ : SHeightReading)] : List SHeightReading) from rfl]; exact still_c_SHeightReading _)⟩)
        have e2098 := (ti (an e2091 (ti (an e2092 (ti (ti (an e2093 (ti (ti (an h2094 (ti (ti (an e2095 (ti (ti (an h2094 (ti (ti (ti (ti (an e2097 (ti trivial))))))))))))))))))))))
        have h2 := ih _ _ _ h
        obtain ⟨q, hv, hq⟩ := pkR (rd := none) (P := Try.prog) (fn := Try.f5) (k := 1) (s := (n_speculumtop_Measured_readings_l1_0_h a0 a1 y1 x9)) (ans := [.reg (nN 5 []), .br true, .reg (arW1_6 a0 x9), .reg (arW1_8 r2060 r2065 r2074 r2079), .br false, .reg (arW1_9 a0 x9), .reg (nN 19 (.v VV.any :: .n :: .n :: [])), .reg (nN 3 [])]) (c := ⟨[(1, none), (2, none), (6, none), (8, some (VV.rf 1 0 ((y1 ++ ([(⟨(a0.Pairs.getD x9.toNat default).e0, (a0.Pairs.getD x9.toNat default).e1, (⟨w64 ((w64 ((a0.Heights.getD ((a0.Pairs.getD x9.toNat default).e1).toNat 0) - (a0.Heights.getD ((a0.Pairs.getD x9.toNat default).e0).toNat 0))) - (w64 (((a0.Errors.getD x9.toNat default).e0).tdiv a1))), w64 ((w64 ((a0.Heights.getD ((a0.Pairs.getD x9.toNat default).e1).toNat 0) - (a0.Heights.getD ((a0.Pairs.getD x9.toNat default).e0).toNat 0))) + (w64 (((a0.Errors.getD x9.toNat default).e1).tdiv a1)))⟩ : SRange)⟩ : SHeightReading)] : List SHeightReading)).length))), (9, none)], [none, some (flatMap c_SHeightReading (y1 ++ ([(⟨(a0.Pairs.getD x9.toNat default).e0, (a0.Pairs.getD x9.toNat default).e1, (⟨w64 ((w64 ((a0.Heights.getD ((a0.Pairs.getD x9.toNat default).e1).toNat 0) - (a0.Heights.getD ((a0.Pairs.getD x9.toNat default).e0).toNat 0))) - (w64 (((a0.Errors.getD x9.toNat default).e0).tdiv a1))), w64 ((w64 ((a0.Heights.getD ((a0.Pairs.getD x9.toNat default).e1).toNat 0) - (a0.Heights.getD ((a0.Pairs.getD x9.toNat default).e0).toNat 0))) + (w64 (((a0.Errors.getD x9.toNat default).e1).tdiv a1)))⟩ : SRange)⟩ : SHeightReading)] : List SHeightReading)))], []⟩) (e := .normal) (s1 := (n_speculumtop_Measured_readings_l1_0_h a0 a1 (y1 ++ ([(⟨(a0.Pairs.getD x9.toNat default).e0, (a0.Pairs.getD x9.toNat default).e1, (⟨w64 ((w64 ((a0.Heights.getD ((a0.Pairs.getD x9.toNat default).e1).toNat 0) - (a0.Heights.getD ((a0.Pairs.getD x9.toNat default).e0).toNat 0))) - (w64 (((a0.Errors.getD x9.toNat default).e0).tdiv a1))), w64 ((w64 ((a0.Heights.getD ((a0.Pairs.getD x9.toNat default).e1).toNat 0) - (a0.Heights.getD ((a0.Pairs.getD x9.toNat default).e0).toNat 0))) + (w64 (((a0.Errors.getD x9.toNat default).e1).tdiv a1)))⟩ : SRange)⟩ : SHeightReading)] : List SHeightReading)) (w64 (x9 + 1)))) (an (an (an (ti (ti (ti (ti (ti trivial))))) (an (decide_eq_true h2053) trivial)) (an (an e2058 (an (an e2082 (an (not_f h2083) trivial)) (an e2090 e2098))) (ti (ti (ti trivial))))) (an (an (show Wv (VV.rf 1 0 (y1.length + 1)) (VV.rf 1 0 ((y1 ++ ([(⟨(a0.Pairs.getD x9.toNat default).e0, (a0.Pairs.getD x9.toNat default).e1, (⟨w64 ((w64 ((a0.Heights.getD ((a0.Pairs.getD x9.toNat default).e1).toNat 0) - (a0.Heights.getD ((a0.Pairs.getD x9.toNat default).e0).toNat 0))) - (w64 (((a0.Errors.getD x9.toNat default).e0).tdiv a1))), w64 ((w64 ((a0.Heights.getD ((a0.Pairs.getD x9.toNat default).e1).toNat 0) - (a0.Heights.getD ((a0.Pairs.getD x9.toNat default).e0).toNat 0))) + (w64 (((a0.Errors.getD x9.toNat default).e1).tdiv a1)))⟩ : SRange)⟩ : SHeightReading)] : List SHeightReading)).length)) from (Wv.of_eq (by simp [cpy_len]))) trivial) (an (show (flatMap c_SHeightReading y1) ++ [vi ((a0.Pairs.getD x9.toNat default).e0), vi ((a0.Pairs.getD x9.toNat default).e1), vi (w64 ((w64 ((a0.Heights.getD ((a0.Pairs.getD x9.toNat default).e1).toNat 0) - (a0.Heights.getD ((a0.Pairs.getD x9.toNat default).e0).toNat 0))) - (w64 (((a0.Errors.getD x9.toNat default).e0).tdiv a1)))), vi (w64 ((w64 ((a0.Heights.getD ((a0.Pairs.getD x9.toNat default).e1).toNat 0) - (a0.Heights.getD ((a0.Pairs.getD x9.toNat default).e0).toNat 0))) + (w64 (((a0.Errors.getD x9.toNat default).e1).tdiv a1))))] = flatMap c_SHeightReading (y1 ++ ([(⟨(a0.Pairs.getD x9.toNat default).e0, (a0.Pairs.getD x9.toNat default).e1, (⟨w64 ((w64 ((a0.Heights.getD ((a0.Pairs.getD x9.toNat default).e1).toNat 0) - (a0.Heights.getD ((a0.Pairs.getD x9.toNat default).e0).toNat 0))) - (w64 (((a0.Errors.getD x9.toNat default).e0).tdiv a1))), w64 ((w64 ((a0.Heights.getD ((a0.Pairs.getD x9.toNat default).e1).toNat 0) - (a0.Heights.getD ((a0.Pairs.getD x9.toNat default).e0).toNat 0))) + (w64 (((a0.Errors.getD x9.toNat default).e1).tdiv a1)))⟩ : SRange)⟩ : SHeightReading)] : List SHeightReading)) from (by rw [show [vi ((a0.Pairs.getD x9.toNat default).e0), vi ((a0.Pairs.getD x9.toNat default).e1), vi (w64 ((w64 ((a0.Heights.getD ((a0.Pairs.getD x9.toNat default).e1).toNat 0) - (a0.Heights.getD ((a0.Pairs.getD x9.toNat default).e0).toNat 0))) - (w64 (((a0.Errors.getD x9.toNat default).e0).tdiv a1)))), vi (w64 ((w64 ((a0.Heights.getD ((a0.Pairs.getD x9.toNat default).e1).toNat 0) - (a0.Heights.getD ((a0.Pairs.getD x9.toNat default).e0).toNat 0))) + (w64 (((a0.Errors.getD x9.toNat default).e1).tdiv a1))))] = flatMap c_SHeightReading ([(⟨(a0.Pairs.getD x9.toNat default).e0, (a0.Pairs.getD x9.toNat default).e1, (⟨w64 ((w64 ((a0.Heights.getD ((a0.Pairs.getD x9.toNat default).e1).toNat 0) - (a0.Heights.getD ((a0.Pairs.getD x9.toNat default).e0).toNat 0))) - (w64 (((a0.Errors.getD x9.toNat default).e0).tdiv a1))), w64 ((w64 ((a0.Heights.getD ((a0.Pairs.getD x9.toNat default).e1).toNat 0) - (a0.Heights.getD ((a0.Pairs.getD x9.toNat default).e0).toNat 0))) + (w64 (((a0.Errors.getD x9.toNat default).e1).tdiv a1)))⟩ : SRange)⟩ : SHeightReading)] : List SHeightReading) from rfl]; exact List.flatMap_append.symm)) trivial))) (by kernel_rfl)
        cases r with
        | inl r => exact round_next pm pn hv hq h2
        | inr r =>
         exact round_next pm pn hv hq h2
       ·injection h with h; subst h
        exact round_stop (c := ⟨[(4, none), (5, none)], [], []⟩) (s1 := (n_speculumtop_Measured_readings_l1_0_e0 a0 a1 ())) pm pn (ans := [.reg (nN 5 []), .br true, .reg (arW1_6 a0 x9), .reg (arW1_8 r2060 r2065 r2074 r2079), .br true, .reg (.n :: .n :: [])]) (by kernel_rfl) (by intro e; cases e) (an (an (an (ti (ti (ti (ti (ti trivial))))) (an (decide_eq_true h2053) trivial)) (an e2058 (an e2082 (an (not_t (bool_f h2083)) (an (ti (ti trivial)) trivial))))) (ti trivial))
      ·have e2099 := (an e2059 (ti (ti (ti (an e2062 (ti (ti (an e2064 (an (an (not_f h2063) trivial) (an (an (not_f h2063) trivial) (an (an (not_f h2063) trivial) (an e2067 (an (an (not_f h2063) trivial) (an (not_f h2063) (ti (an e2069 (an (an (not_f h2068) trivial) (an e2070 (an (an (not_f h2068) trivial) (an (an (not_f h2068) trivial) (an (not_f h2068) (ti (an e2073 (an (an (decide_eq_false h2071) trivial) (an e2076 (an (an (decide_eq_false h2071) trivial) (an (decide_eq_false h2071) (ti (an (not_t (bool_f h2077)) (an (not_t (bool_f h2077)) (an (not_t (bool_f h2077)) (an (not_t (bool_f h2077)) (an (not_t (bool_f h2077)) trivial)))))))))))))))))))))))))))))))))
       injection h with h; subst h
       exact round_stop (c := ⟨[(4, none), (5, none)], [], []⟩) (s1 := (n_speculumtop_Measured_readings_l1_0_e0 a0 a1 ())) pm pn (ans := [.reg (nN 5 []), .br true, .reg (arW1_6 a0 x9), .reg (arW1_10 r2060 r2065 r2074), .br true, .reg (.n :: .n :: [])]) (by kernel_rfl) (by intro e; cases e) (an (an (an (ti (ti (ti (ti (ti trivial))))) (an (decide_eq_true h2053) trivial)) (an e2058 (an e2099 (an rt (an (ti (ti trivial)) trivial))))) (ti trivial))
    ·have e2100 := (an e2059 (ti (ti (ti (an e2062 (ti (ti (an e2064 (an (an (not_f h2063) trivial) (an (an (not_f h2063) trivial) (an (an (not_f h2063) trivial) (an e2067 (an (an (not_f h2063) trivial) (an (not_f h2063) (ti (an (not_t (bool_f h2068)) (an (not_t (bool_f h2068)) (an (not_t (bool_f h2068)) (an (not_t (bool_f h2068)) (an (not_t (bool_f h2068)) (an (not_t (bool_f h2068)) (ti (an rt (an rt (an rt (an rt (an rt (ti (an rt (an rt (an rt (an rt (an rt trivial)))))))))))))))))))))))))))))))))
     injection h with h; subst h
     exact round_stop (c := ⟨[(4, none), (5, none)], [], []⟩) (s1 := (n_speculumtop_Measured_readings_l1_0_e0 a0 a1 ())) pm pn (ans := [.reg (nN 5 []), .br true, .reg (arW1_6 a0 x9), .reg (arW1_11 r2060 r2065), .br true, .reg (.n :: .n :: [])]) (by kernel_rfl) (by intro e; cases e) (an (an (an (ti (ti (ti (ti (ti trivial))))) (an (decide_eq_true h2053) trivial)) (an e2058 (an e2100 (an rt (an (ti (ti trivial)) trivial))))) (ti trivial))
   ·have e2101 := (an e2059 (ti (ti (ti (an e2062 (ti (ti (an (not_t (bool_f h2063)) (an (not_t (bool_f h2063)) (an (not_t (bool_f h2063)) (an (not_t (bool_f h2063)) (an (not_t (bool_f h2063)) (an (not_t (bool_f h2063)) (an (not_t (bool_f h2063)) (ti (an rt (an rt (an rt (an rt (an rt (an rt (ti (an rt (an rt (an rt (an rt (an rt (ti (an rt (an rt (an rt (an rt (an rt trivial)))))))))))))))))))))))))))))))))
    injection h with h; subst h
    exact round_stop (c := ⟨[(4, none), (5, none)], [], []⟩) (s1 := (n_speculumtop_Measured_readings_l1_0_e0 a0 a1 ())) pm pn (ans := [.reg (nN 5 []), .br true, .reg (arW1_6 a0 x9), .reg (arW1_12 r2060), .br true, .reg (.n :: .n :: [])]) (by kernel_rfl) (by intro e; cases e) (an (an (an (ti (ti (ti (ti (ti trivial))))) (an (decide_eq_true h2053) trivial)) (an e2058 (an e2101 (an rt (an (ti (ti trivial)) trivial))))) (ti trivial))
  ·injection h with h; subst h
   exact round_stop (c := ⟨[(8, none)], [none, none], []⟩) (s1 := (n_speculumtop_Measured_readings_l1_0_e1 a0 a1 y1)) pm pn (ans := [.reg (nN 5 []), .br false]) (by kernel_rfl) (by intro e; cases e) (an (an (ti (ti (ti (ti (ti trivial))))) (an (decide_eq_false h2053) trivial)) (ti trivial))
theorem eqW1_13 (z0 : (List SHeightReading)) : VV.tu [VV.fw 4 (List.drop 0 (List.map unfr (flatMap c_SHeightReading z0))) z0.length, vb true] = VV.tu [VV.fw 4 (flatMap c_SHeightReading z0) z0.length, vb true] := by first | rfl | (simp only [Nat.zero_add, Nat.mul_one, List.map_drop, List.length_drop, drop0, unfr_vb, map_cons, map_nil, un_b, length_map, length_cons, length_nil, Nat.zero_add, unfr_c_SHeightReading]; done) | (simp only [Nat.zero_add, Nat.mul_one, List.map_drop, List.length_drop, drop0, unfr_vb, map_cons, map_nil, un_b, length_map, length_cons, length_nil, Nat.zero_add, unfr_c_SHeightReading]; rfl) | (simp only [Nat.zero_add, Nat.mul_one, List.map_drop, List.length_drop, drop0, unfr_vb, map_cons, map_nil, un_b, length_map, length_cons, length_nil, Nat.zero_add, unfr_c_SHeightReading, c_SHeightReading, length_cons, length_nil, length_append]; done)
def n_speculumtop_Measured_readings (k : Nat) (a0 : SMeasured) (a1 : Int) : Option ((List SHeightReading) × Bool) :=
 (nspeculumbase_Within k (a0.Heights.length : Int) 1 8).bind fun r1868 => (if r1868 = true then (if 12 < (a0.Pairs.length : Int) then (some ([], false)) else (if (a0.Errors.length : Int) = (a0.Pairs.length : Int) then ((n_speculumtop_Measured_readings_l0_0 k a0 a1 k 0).bind fun r1901 => (match r1901 with | .inl r1902 => (some ([], false)) | .inr r1903 => ((n_speculumtop_Measured_readings_l1_0 k a0 a1 k ([] : List SHeightReading) 0).bind fun r2103 => (match r2103 with | .inl r2104 => (some ([], false)) | .inr r2105 => (some (r2105, true)))))) else (some ([], false)))) else (some ([], false)))
theorem n_speculumtop_Measured_readings_ok (k : Nat) (a0 : SMeasured) (a1 : Int) (r : ((List SHeightReading) × Bool)) (h : n_speculumtop_Measured_readings k a0 a1 = some r) : VC Try.prog 5 [VV.ag (c_SMeasured a0), vi a1] (VV.tu [VV.fw 4 (flatMap c_SHeightReading r.1) r.1.length, vb r.2]) := by
 unfold n_speculumtop_Measured_readings at h
 obtain ⟨r1868, h1869, h⟩ := bs h
 have e1870 := (nspeculumbase_Within_ok k (a0.Heights.length : Int) 1 8 _ h1869)
 rcases ifs h with ⟨h1871, h⟩ | ⟨h1871, h⟩
 ·rcases ifs h with ⟨h1872, h⟩ | ⟨h1872, h⟩
  ·have e1873 := (ti (an e1870 (ti (ti (an (an (not_f h1871) trivial) (an (an (not_f h1871) trivial) (an (an (not_f h1871) trivial) (an (an (not_f h1871) trivial) (an (not_f h1871) (ti (an (decide_eq_true h1872) (an (decide_eq_true h1872) (an (decide_eq_true h1872) (an (decide_eq_true h1872) (an (decide_eq_true h1872) (an (decide_eq_true h1872) (an (decide_eq_true h1872) (an (decide_eq_true h1872) trivial))))))))))))))))))
   injection h with h; subst h
   exact fun_ok pm pn Try.func5 (r0 := VV.tu [VV.c (.slice none 0 0), vb false]) (ans := [.reg (nN 3 []), .reg (nN 4 []), .reg (.n :: .call (vb r1868) :: nN 6 (.b false :: .n :: nS 7 (.b true :: []))), .br true, .reg (.n :: .n :: [])]) (fr := true) (by kernel_rfl) (an (an (ti (ti (ti trivial))) (an (ti (ti (ti (ti trivial)))) (an e1873 (an rt (an (ti (ti trivial)) trivial))))) (ti (ti trivial))) (Wv.tuL (.cons Wv.nilFw (.cons (Wv.refl _) .nil)))
  ·have e1874 := (ti (an e1870 (ti (ti (an (an (not_f h1871) trivial) (an (an (not_f h1871) trivial) (an (an (not_f h1871) trivial) (an (an (not_f h1871) trivial) (an (not_f h1871) (ti (an (an (decide_eq_false h1872) trivial) (an (an (decide_eq_false h1872) trivial) (an (an (decide_eq_false h1872) trivial) (an (an (decide_eq_false h1872) trivial) (an (an (decide_eq_false h1872) trivial) (an (an (decide_eq_false h1872) trivial) (an (an (decide_eq_false h1872) trivial) (an (decide_eq_false h1872) trivial))))))))))))))))))
   rcases ifs h with ⟨h1875, h⟩ | ⟨h1875, h⟩
   ·obtain ⟨r1901, h1900, h⟩ := bs h
    have hph1900 := n_speculumtop_Measured_readings_l0_0_ok k a0 a1 _ _ _ h1900
    cases r1901 with
    | inl r1902 =>
     dsimp only at h
     have e1904 := (an (ti trivial) (VRun.loop hph1900))
     injection h with h; subst h
     exact fun_ok pm pn Try.func5 (r0 := VV.tu [VV.c (.slice none 0 0), vb false]) (ans := [.reg (nN 3 []), .reg (nN 4 []), .reg (.n :: .call (vb r1868) :: nN 6 (.b false :: nN 8 (.b false :: []))), .br false, .reg (.n :: []), .sub ⟨[(1, none), (2, none), (6, none), (7, none)], [none], []⟩ .ret (n_speculumtop_Measured_readings_l0_0_e0 a0 a1 r1902)]) (fr := true) (by kernel_rfl) (an (an (ti (ti (ti trivial))) (an (ti (ti (ti (ti trivial)))) (an (an e1874 (an (not_f (decide_eq_true h1875)) trivial)) (an (ti trivial) e1904)))) (ti (ti trivial))) (Wv.tuL (.cons Wv.nilFw (.cons (Wv.refl _) .nil)))
    | inr r1903 =>
     dsimp only at h
     have e1905 := (an (ti trivial) (VRun.loop hph1900))
     obtain ⟨r2103, h2102, h⟩ := bs h
     have hph2102 := n_speculumtop_Measured_readings_l1_0_ok k a0 a1 _ _ _ _ h2102
     cases r2103 with
     | inl r2104 =>
      dsimp only at h
      have e2106 := (an (ti trivial) (VRun.loop hph2102))
      injection h with h; subst h
      exact fun_ok pm pn Try.func5 (r0 := VV.tu [VV.c (.slice none 0 0), vb false]) (ans := [.reg (nN 3 []), .reg (nN 4 []), .reg (.n :: .call (vb r1868) :: nN 6 (.b false :: nN 8 (.b false :: []))), .br false, .reg (.n :: []), .sub ⟨[(1, none), (2, none), (6, none), (7, none)], [none], []⟩ (.exit 0) (n_speculumtop_Measured_readings_l0_0_e1 a0 a1 r1903), .reg (.n :: []), .reg (.n :: []), .sub ⟨[(1, none), (2, none), (6, none), (8, none), (9, none)], [none], [.t 8 4]⟩ .ret (n_speculumtop_Measured_readings_l1_0_e0 a0 a1 r2104)]) (fr := true) (by kernel_rfl) (an (an (ti (ti (ti trivial))) (an (ti (ti (ti (ti trivial)))) (an (an e1874 (an (not_f (decide_eq_true h1875)) trivial)) (an (an (ti trivial) e1905) (an (ti trivial) (an (ti trivial) e2106)))))) (ti (ti trivial))) (Wv.tuL (.cons Wv.nilFw (.cons (Wv.refl _) .nil)))
     | inr r2105 =>
      dsimp only at h
      have e2107 := (an (ti trivial) (VRun.loop hph2102))
      injection h with h; subst h
      exact fun_ok pm pn Try.func5 (r0 := VV.tu [VV.fw 4 (List.drop 0 (List.map unfr (flatMap c_SHeightReading r2105))) r2105.length, vb true]) (ans := [.reg (nN 3 []), .reg (nN 4 []), .reg (.n :: .call (vb r1868) :: nN 6 (.b false :: nN 8 (.b false :: []))), .br false, .reg (.n :: []), .sub ⟨[(1, none), (2, none), (6, none), (7, none)], [none], []⟩ (.exit 0) (n_speculumtop_Measured_readings_l0_0_e1 a0 a1 r1903), .reg (.n :: []), .reg (.n :: []), .sub ⟨[(1, none), (2, none), (6, none), (8, none), (9, none)], [none], [.t 8 4]⟩ (.exit 2) (n_speculumtop_Measured_readings_l1_0_e1 a0 a1 r2105), .reg (nN 3 [])]) (fr := true) (by kernel_rfl) (an (an (ti (ti (ti trivial))) (an (ti (ti (ti (ti trivial)))) (an (an e1874 (an (not_f (decide_eq_true h1875)) trivial)) (an (an (ti trivial) e1905) (an (ti trivial) (an (an (ti trivial) e2107) (an (ti (ti (ti trivial))) trivial))))))) (an (show List.all (flatMap c_SHeightReading r2105) new0 = true from (by exact new0_c_SHeightReading _)) (ti trivial))) (Wv.of_eq (eqW1_13 r2105))
   ·injection h with h; subst h
    exact fun_ok pm pn Try.func5 (r0 := VV.tu [VV.c (.slice none 0 0), vb false]) (ans := [.reg (nN 3 []), .reg (nN 4 []), .reg (.n :: .call (vb r1868) :: nN 6 (.b false :: nN 8 (.b false :: []))), .br true, .reg (.n :: .n :: [])]) (fr := true) (by kernel_rfl) (an (an (ti (ti (ti trivial))) (an (ti (ti (ti (ti trivial)))) (an e1874 (an (not_t (decide_eq_false h1875)) (an (ti (ti trivial)) trivial))))) (ti (ti trivial))) (Wv.tuL (.cons Wv.nilFw (.cons (Wv.refl _) .nil)))
 ·have e2108 := (ti (an e1870 (ti (ti (an (not_t (bool_f h1871)) (an (not_t (bool_f h1871)) (an (not_t (bool_f h1871)) (an (not_t (bool_f h1871)) (an (not_t (bool_f h1871)) (ti (an rt (an rt (an rt (an rt (an rt (an rt (an rt (an rt trivial))))))))))))))))))
  injection h with h; subst h
  exact fun_ok pm pn Try.func5 (r0 := VV.tu [VV.c (.slice none 0 0), vb false]) (ans := [.reg (nN 3 []), .reg (nN 4 []), .reg (.n :: .call (vb r1868) :: .n :: .n :: nS 4 (.b true :: .n :: nS 7 (.b true :: []))), .br true, .reg (.n :: .n :: [])]) (fr := true) (by kernel_rfl) (an (an (ti (ti (ti trivial))) (an (ti (ti (ti (ti trivial)))) (an e2108 (an rt (an (ti (ti trivial)) trivial))))) (ti (ti trivial))) (Wv.tuL (.cons Wv.nilFw (.cons (Wv.refl _) .nil)))
end Go.Proofs.Ytclgijochagpdaa.Vg

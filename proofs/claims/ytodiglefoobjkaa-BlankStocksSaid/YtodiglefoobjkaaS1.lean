import Derived.Test.YtodiglefoobjkaaWa
namespace Go.Proofs.Ytodiglefoobjkaa.Vg
set_option maxRecDepth 100000
set_option maxHeartbeats 4000000
set_option linter.unusedVariables false
set_option linter.unusedSimpArgs false
open Go Go.Proofs.Ytodiglefoobjkaa.Ev Go.Proofs.Ytodiglefoobjkaa.Vv
open List (flatMap length_cons length_nil length_map length_append map_cons map_nil length_replicate)
structure SGlassBatch where
 Name : ByteArray
 Diameter : Int
 Thick : Int
 Count : Int
 deriving Inhabited
def c_SGlassBatch (x : SGlassBatch) : List VV := [vs x.Name, vi x.Diameter, vi x.Thick, vi x.Count]
theorem len_c_SGlassBatch (x : SGlassBatch) : (c_SGlassBatch x).length = 4 := rfl
theorem still_c_SGlassBatch (xs : List SGlassBatch) : (xs.flatMap c_SGlassBatch).all VV.still = true := all_flat (fun _ => rfl) xs
theorem new0_c_SGlassBatch (xs : List SGlassBatch) : (xs.flatMap c_SGlassBatch).all new0 = true := all_flat (fun _ => rfl) xs
theorem unfr_c_SGlassBatch (xs : List SGlassBatch) : (xs.flatMap c_SGlassBatch).map unfr = xs.flatMap c_SGlassBatch := unfr_flat (fun _ => rfl) xs
structure SGlassPromise where
 Mirror : ByteArray
 Batch : ByteArray
 deriving Inhabited
def c_SGlassPromise (x : SGlassPromise) : List VV := [vs x.Mirror, vs x.Batch]
theorem len_c_SGlassPromise (x : SGlassPromise) : (c_SGlassPromise x).length = 2 := rfl
theorem still_c_SGlassPromise (xs : List SGlassPromise) : (xs.flatMap c_SGlassPromise).all VV.still = true := all_flat (fun _ => rfl) xs
theorem new0_c_SGlassPromise (xs : List SGlassPromise) : (xs.flatMap c_SGlassPromise).all new0 = true := all_flat (fun _ => rfl) xs
theorem unfr_c_SGlassPromise (xs : List SGlassPromise) : (xs.flatMap c_SGlassPromise).map unfr = xs.flatMap c_SGlassPromise := unfr_flat (fun _ => rfl) xs
theorem ag3 : isAggT Try.prog 3 = some false := by kernel_rfl
theorem ag4 : isAggT Try.prog 4 = some false := by kernel_rfl
theorem ag9 : isAggT Try.prog 9 = some false := by kernel_rfl
theorem ag22 : isAggT Try.prog 22 = some false := by kernel_rfl
theorem ag28 : isAggT Try.prog 28 = some false := by kernel_rfl
theorem ag44 : isAggT Try.prog 44 = some true := by kernel_rfl
theorem sz44 : szOf Try.prog 44 = some 4 := by kernel_rfl
theorem ag78 : isAggT Try.prog 78 = some false := by kernel_rfl
def nblank_isWithin (k : Nat) (a0 : Int) (a1 : Int) (a2 : Int) : Option Bool :=
 if a1 <= a0 then (some (decide (a0 <= a2))) else (some false)
theorem nblank_isWithin_ok (k : Nat) (a0 : Int) (a1 : Int) (a2 : Int) (r : Bool) (h : nblank_isWithin k a0 a1 a2 = some r) : VC Try.prog 23 [vi a0, vi a1, vi a2] (vb r) := by
 unfold nblank_isWithin at h
 rcases ifs h with ⟨h104, h⟩ | ⟨h104, h⟩
 ·have e105 := (ti (ti (ti (ti (an (an (decide_eq_true h104) trivial) (an (an (decide_eq_true h104) trivial) (an (an (decide_eq_true h104) trivial) (an (decide_eq_true h104) (ti trivial)))))))))
  injection h with h; subst h
  exact fun_ok pm pn Try.func23 (r0 := vb (decide (a0 <= a2))) (ans := [.reg (.n :: []), .reg (nN 7 (.b true :: .n :: []))]) (fr := true) (by kernel_rfl) (an (an (ti trivial) (an e105 trivial)) (ti trivial)) (Wv.refl _)
 ·have e106 := (ti (ti (ti (ti (an (decide_eq_false h104) (an (decide_eq_false h104) (an (decide_eq_false h104) (an (decide_eq_false h104) (ti trivial)))))))))
  injection h with h; subst h
  exact fun_ok pm pn Try.func23 (r0 := vb false) (ans := [.reg (.n :: []), .reg (nN 4 (nS 3 (.b false :: .n :: [])))]) (fr := true) (by kernel_rfl) (an (an (ti trivial) (an e106 trivial)) (ti trivial)) (Wv.refl _)
def arS1_0  : List Ans := (nN 3 (.skip :: .skip :: .b false :: nN 4 (.skip :: .skip :: .b false :: .b false :: .n :: [])))
def nblank_isLetter (k : Nat) (a0 : Int) : Option Bool :=
 if 97 <= a0 then (if a0 <= 122 then (some true) else (if 65 <= a0 then (some (decide (a0 <= 90))) else (some false))) else (if 65 <= a0 then (some (decide (a0 <= 90))) else (some false))
theorem nblank_isLetter_ok (k : Nat) (a0 : Int) (r : Bool) (h : nblank_isLetter k a0 = some r) : VC Try.prog 47 [VV.c (.int .i32 a0)] (vb r) := by
 unfold nblank_isLetter at h
 rcases ifs h with ⟨h123, h⟩ | ⟨h123, h⟩
 ·rcases ifs h with ⟨h124, h⟩ | ⟨h124, h⟩
  ·have e125 := (ti (ti (ti (an (an (decide_eq_true h123) trivial) (an (an (decide_eq_true h123) trivial) (an (decide_eq_true h123) (ti (an (decide_eq_true h124) (an (decide_eq_true h124) (an (decide_eq_true h124) (ti (ti (an (decide_eq_true h124) (an (decide_eq_true h124) (ti trivial)))))))))))))))
   injection h with h; subst h
   exact fun_ok pm pn Try.func47 (r0 := vb true) (ans := [.reg (.n :: []), .reg (nN 5 (.b true :: .n :: nS 6 (.b true :: .n :: [])))]) (fr := true) (by kernel_rfl) (an (an (ti trivial) (an e125 trivial)) (ti trivial)) (Wv.refl _)
  ·rcases ifs h with ⟨h126, h⟩ | ⟨h126, h⟩
   ·have e127 := (an (decide_eq_false h124) (decide_eq_true h126))
    have e128 := (ti (ti (ti (an (an (decide_eq_true h123) trivial) (an (an (decide_eq_true h123) trivial) (an (decide_eq_true h123) (ti (an (an (decide_eq_false h124) trivial) (an (an (decide_eq_false h124) trivial) (an (an (decide_eq_false h124) trivial) (an (an (decide_eq_true h126) trivial) (an (an (decide_eq_true h126) trivial) (an e127 (an (decide_eq_false h124) (ti trivial)))))))))))))))
    injection h with h; subst h
    exact fun_ok pm pn Try.func47 (r0 := vb (decide (a0 <= 90))) (ans := [.reg (.n :: []), .reg (nN 5 (.b true :: nN 6 (.b true :: .b false :: .n :: [])))]) (fr := true) (by kernel_rfl) (an (an (ti trivial) (an e128 trivial)) (ti trivial)) (Wv.refl _)
   ·have e129 := (an (decide_eq_false h124) (decide_eq_false h126))
    have e130 := (ti (ti (ti (an (an (decide_eq_true h123) trivial) (an (an (decide_eq_true h123) trivial) (an (decide_eq_true h123) (ti (an (an (decide_eq_false h124) trivial) (an (an (decide_eq_false h124) trivial) (an (an (decide_eq_false h124) trivial) (an (decide_eq_false h126) (an (decide_eq_false h126) (an e129 (an (decide_eq_false h124) (ti trivial)))))))))))))))
    injection h with h; subst h
    exact fun_ok pm pn Try.func47 (r0 := vb false) (ans := [.reg (.n :: []), .reg (nN 5 (.b true :: nN 4 (.skip :: .skip :: .b false :: .b false :: .n :: [])))]) (fr := true) (by kernel_rfl) (an (an (ti trivial) (an e130 trivial)) (ti trivial)) (Wv.refl _)
 ·rcases ifs h with ⟨h131, h⟩ | ⟨h131, h⟩
  ·have e132 := (ti (ti (ti (an (decide_eq_false h123) (an (decide_eq_false h123) (an (decide_eq_false h123) (ti (an (an rf trivial) (an (an rf trivial) (an (an rf trivial) (an (an (decide_eq_true h131) trivial) (an (an (decide_eq_true h131) trivial) (an (an rf (decide_eq_true h131)) (an rf (ti trivial)))))))))))))))
   injection h with h; subst h
   exact fun_ok pm pn Try.func47 (r0 := vb (decide (a0 <= 90))) (ans := [.reg (.n :: []), .reg (nN 3 (.skip :: .skip :: .b false :: nN 6 (.b true :: .b false :: .n :: [])))]) (fr := true) (by kernel_rfl) (an (an (ti trivial) (an e132 trivial)) (ti trivial)) (Wv.refl _)
  ·have e133 := (ti (ti (ti (an (decide_eq_false h123) (an (decide_eq_false h123) (an (decide_eq_false h123) (ti (an (an rf trivial) (an (an rf trivial) (an (an rf trivial) (an (decide_eq_false h131) (an (decide_eq_false h131) (an (an rf (decide_eq_false h131)) (an rf (ti trivial)))))))))))))))
   injection h with h; subst h
   exact fun_ok pm pn Try.func47 (r0 := vb false) (ans := [.reg (.n :: []), .reg arS1_0]) (fr := true) (by kernel_rfl) (an (an (ti trivial) (an e133 trivial)) (ti trivial)) (Wv.refl _)
def arS1_1 (z0 : Bool) : List Ans := (.n :: .call (vb z0) :: .n :: .n :: nS 7 (.b false :: .n :: .skip :: .skip :: .b false :: .n :: []))
def arS1_2 (z0 : Bool) : List Ans := (.n :: .call (vb z0) :: nN 7 (.b true :: .n :: .b true :: .n :: .skip :: .skip :: .b false :: .n :: []))
def arS1_3 (z0 : Bool) : List Ans := (.n :: .call (vb z0) :: nN 5 (.skip :: .skip :: .b false :: .n :: .b true :: nN 3 (.b true :: .n :: [])))
def nblank_isForeign (k : Nat) (a0 : Int) : Option Bool :=
 (nblank_isLetter k a0).bind fun r156 => (if r156 = true then (some false) else (if 48 <= a0 then (if a0 <= 57 then (some false) else (some (!(decide (a0 = 45))))) else (some (!(decide (a0 = 45))))))
theorem nblank_isForeign_ok (k : Nat) (a0 : Int) (r : Bool) (h : nblank_isForeign k a0 = some r) : VC Try.prog 49 [VV.c (.int .i32 a0)] (vb r) := by
 unfold nblank_isForeign at h
 obtain ⟨r156, h157, h⟩ := bs h
 rcases ifs h with ⟨h158, h⟩ | ⟨h158, h⟩
 ·have e159 := (ti (an (nblank_isLetter_ok k a0 _ h157) (ti (ti (an (not_f h158) (an (not_f h158) (an (not_f h158) (ti (ti (an (not_f h158) (an (not_f h158) (an (not_f h158) (ti (an rf (an rf (an rf (ti trivial)))))))))))))))))
  injection h with h; subst h
  exact fun_ok pm pn Try.func49 (r0 := vb false) (ans := [.reg (.n :: []), .reg (arS1_1 r156)]) (fr := true) (by kernel_rfl) (an (an (ti trivial) (an e159 trivial)) (ti trivial)) (Wv.refl _)
 ·rcases ifs h with ⟨h160, h⟩ | ⟨h160, h⟩
  ·have e161 := (an (not_t (bool_f h158)) (decide_eq_true h160))
   rcases ifs h with ⟨h162, h⟩ | ⟨h162, h⟩
   ·have e163 := (ti (an (nblank_isLetter_ok k a0 _ h157) (ti (ti (an (an (not_t (bool_f h158)) trivial) (an (an (not_t (bool_f h158)) trivial) (an (an (not_t (bool_f h158)) trivial) (an (an (decide_eq_true h160) trivial) (an (an (decide_eq_true h160) trivial) (an e161 (an (an (not_t (bool_f h158)) trivial) (an (not_t (bool_f h158)) (ti (an (not_f (decide_eq_true h162)) (an (not_f (decide_eq_true h162)) (an (not_f (decide_eq_true h162)) (ti trivial)))))))))))))))))
    injection h with h; subst h
    exact fun_ok pm pn Try.func49 (r0 := vb false) (ans := [.reg (.n :: []), .reg (arS1_2 r156)]) (fr := true) (by kernel_rfl) (an (an (ti trivial) (an e163 trivial)) (ti trivial)) (Wv.refl _)
   ·have e164 := (an (not_t (decide_eq_false h162)) trivial)
    have e165 := (an (not_t (decide_eq_false h162)) trivial)
    have e166 := (ti (an (nblank_isLetter_ok k a0 _ h157) (ti (ti (an (an (not_t (bool_f h158)) trivial) (an (an (not_t (bool_f h158)) trivial) (an (an (not_t (bool_f h158)) trivial) (an (an (decide_eq_true h160) trivial) (an (an (decide_eq_true h160) trivial) (an e161 (an (an (not_t (bool_f h158)) trivial) (an (not_t (bool_f h158)) (ti (an e164 (an e165 (an (not_t (decide_eq_false h162)) (ti trivial)))))))))))))))))
    injection h with h; subst h
    exact fun_ok pm pn Try.func49 (r0 := vb (!(decide (a0 = 45)))) (ans := [.reg (.n :: []), .reg (.n :: .call (vb r156) :: nN 7 (.b true :: .n :: .b true :: nN 3 (.b true :: .n :: [])))]) (fr := true) (by kernel_rfl) (an (an (ti trivial) (an e166 trivial)) (ti trivial)) (Wv.refl _)
  ·have e167 := (an (not_t (bool_f h158)) (decide_eq_false h160))
   have e168 := (an (show (!false) = true from (not_t rfl)) trivial)
   have e169 := (an (show (!false) = true from (not_t rfl)) trivial)
   have e170 := (ti (an (nblank_isLetter_ok k a0 _ h157) (ti (ti (an (an (not_t (bool_f h158)) trivial) (an (an (not_t (bool_f h158)) trivial) (an (an (not_t (bool_f h158)) trivial) (an (decide_eq_false h160) (an (decide_eq_false h160) (an e167 (an (an (not_t (bool_f h158)) trivial) (an (not_t (bool_f h158)) (ti (an e168 (an e169 (an (show (!false) = true from (not_t rfl)) (ti trivial)))))))))))))))))
   injection h with h; subst h
   exact fun_ok pm pn Try.func49 (r0 := vb (!(decide (a0 = 45)))) (ans := [.reg (.n :: []), .reg (arS1_3 r156)]) (fr := true) (by kernel_rfl) (an (an (ti trivial) (an e170 trivial)) (ti trivial)) (Wv.refl _)
def nstrings_indexFunc_c1_blank_isForeign_l0_0_h (a0 : ByteArray) (a2 : Bool) (b0_1 : Int) : VS := ⟨mkA [(1, VV.fn 49 []), (2, vb a2), (10, VV.it 0)], [some ⟨true, bigX, [vs a0, vi b0_1]⟩], .nil⟩
def nstrings_indexFunc_c1_blank_isForeign_l0_0_e0 (a0 : ByteArray) (a2 : Bool) (r : Int) : VS := ⟨mkA [(6, vi r)], [], .nil⟩
def nstrings_indexFunc_c1_blank_isForeign_l0_0_e1 (a0 : ByteArray) (a2 : Bool) (r : Unit) : VS := ⟨mkA [], [], .nil⟩
def nstrings_indexFunc_c1_blank_isForeign_l0_0 (k : Nat) (a0 : ByteArray) (a2 : Bool) : Nat -> Int -> Option (Sum Int Unit)
 | 0, _ => none
 | fuel + 1, b0_1 => if b0_1 < (a0.size : Int) then (if 0 <= b0_1 then ((nblank_isForeign k (((Go.Utf8.decode a0 (b0_1).toNat).1 : Nat) : Int)).bind fun r217 => (if (r217 == a2) = true then (some (.inl b0_1)) else (nstrings_indexFunc_c1_blank_isForeign_l0_0 k a0 a2 fuel (b0_1 + (((Go.Utf8.decode a0 (b0_1).toNat).2 : Nat) : Int))))) else none) else (some (.inr ()))
theorem nstrings_indexFunc_c1_blank_isForeign_l0_0_ok (k : Nat) (a0 : ByteArray) (a2 : Bool) : ∀ (fuel : Nat) (b0_1 : Int) (r : Sum Int Unit), nstrings_indexFunc_c1_blank_isForeign_l0_0 k a0 a2 fuel b0_1 = some r -> (match r with | .inl r => VLoop none Try.prog (szF Try.f73) (bodyOf Try.f73 0) (nstrings_indexFunc_c1_blank_isForeign_l0_0_h a0 a2 b0_1) .ret (nstrings_indexFunc_c1_blank_isForeign_l0_0_e0 a0 a2 r) | .inr r => VLoop none Try.prog (szF Try.f73) (bodyOf Try.f73 0) (nstrings_indexFunc_c1_blank_isForeign_l0_0_h a0 a2 b0_1) (.exit 0) (nstrings_indexFunc_c1_blank_isForeign_l0_0_e1 a0 a2 r)) := by
 intro fuel
 induction fuel with
 | zero => intro b0_1 r h; rw [nstrings_indexFunc_c1_blank_isForeign_l0_0.eq_1] at h; cases h
 | succ fuel ih =>
  intro b0_1 r h
  rw [nstrings_indexFunc_c1_blank_isForeign_l0_0.eq_2] at h
  rcases ifs h with ⟨h214, h⟩ | ⟨h214, h⟩
  ·obtain ⟨h215, h⟩ := ifn h
   have e216 := (show 0 <= b0_1 /\ b0_1 < (a0.size : Int) from ⟨h215, of_decide_eq_true (decide_eq_true h214)⟩)
   obtain ⟨r217, h218, h⟩ := bs h
   have e219 := (nblank_isForeign_ok k (((Go.Utf8.decode a0 (b0_1).toNat).1 : Nat) : Int) _ h218)
   rcases ifs h with ⟨h220, h⟩ | ⟨h220, h⟩
   ·injection h with h; subst h
    exact round_stop (c := ⟨[(6, none)], [], []⟩) (s1 := (nstrings_indexFunc_c1_blank_isForeign_l0_0_e0 a0 a2 b0_1)) pm pn (ans := [.reg (.b true :: .n :: []), .br true, .reg (nN 4 []), .reg (.n :: .n :: .call (vb r217) :: .n :: .n :: []), .br true, .reg (.n :: .n :: [])]) (by kernel_rfl) (by intro e; cases e) (an (an (an e216 (ti trivial)) (an (an rt trivial) (an (ti (ti (ti (ti trivial)))) (an (ti (ti (an e219 (ti (ti trivial))))) (an h220 (an (ti (ti trivial)) trivial)))))) (ti trivial))
   ·have h2 := ih _ _ h
    obtain ⟨q, hv, hq⟩ := pkR (rd := none) (P := Try.prog) (fn := Try.f73) (k := 0) (s := (nstrings_indexFunc_c1_blank_isForeign_l0_0_h a0 a2 b0_1)) (ans := [.reg (.b true :: .n :: []), .br true, .reg (nN 4 []), .reg (.n :: .n :: .call (vb r217) :: .n :: .n :: []), .br false]) (c := ⟨[(1, none), (2, none), (10, none)], [none], []⟩) (e := .normal) (s1 := (nstrings_indexFunc_c1_blank_isForeign_l0_0_h a0 a2 (b0_1 + (((Go.Utf8.decode a0 (b0_1).toNat).2 : Nat) : Int)))) (an (an (an e216 (ti trivial)) (an (an rt trivial) (an (ti (ti (ti (ti trivial)))) (an (ti (ti (an e219 (ti (ti trivial))))) (an (bool_f h220) trivial))))) (ti trivial)) (by kernel_rfl)
    cases r with
    | inl r => exact round_next pm pn hv hq h2
    | inr r =>
     exact round_next pm pn hv hq h2
  ·have e221 := (show (a0.size : Int) <= b0_1 from (by have := of_decide_eq_false (decide_eq_false h214); omega))
   injection h with h; subst h
   exact round_stop (c := ⟨[], [], []⟩) (s1 := (nstrings_indexFunc_c1_blank_isForeign_l0_0_e1 a0 a2 ())) pm pn (ans := [.reg (.b false :: .n :: []), .br false]) (by kernel_rfl) (by intro e; cases e) (an (an (an e221 (ti trivial)) (an rf trivial)) (ti trivial))
def nstrings_indexFunc_c1_blank_isForeign (k : Nat) (a0 : ByteArray) (a1 : Unit) (a2 : Bool) : Option Int :=
 (nstrings_indexFunc_c1_blank_isForeign_l0_0 k a0 a2 k 0).bind fun r223 => (match r223 with | .inl r224 => (some r224) | .inr r225 => (some (-1)))
theorem nstrings_indexFunc_c1_blank_isForeign_ok (k : Nat) (a0 : ByteArray) (a1 : Unit) (a2 : Bool) (r : Int) (h : nstrings_indexFunc_c1_blank_isForeign k a0 a1 a2 = some r) : VC Try.prog 73 [vs a0, VV.fn 49 [], vb a2] (vi r) := by
 unfold nstrings_indexFunc_c1_blank_isForeign at h
 obtain ⟨r223, h222, h⟩ := bs h
 have hph222 := nstrings_indexFunc_c1_blank_isForeign_l0_0_ok k a0 a2 _ _ _ h222
 cases r223 with
 | inl r224 =>
  dsimp only at h
  have e226 := (an (ti trivial) (VRun.loop hph222))
  injection h with h; subst h
  exact fun_ok pm pn Try.func73 (r0 := vi r224) (ans := [.reg (.n :: []), .reg (.n :: .n :: []), .sub ⟨[(1, none), (2, none), (10, none)], [none], []⟩ .ret (nstrings_indexFunc_c1_blank_isForeign_l0_0_e0 a0 a2 r224)]) (fr := true) (by kernel_rfl) (an (an (ti trivial) (an (ti (ti trivial)) e226)) (ti trivial)) (Wv.refl _)
 | inr r225 =>
  dsimp only at h
  have e227 := (an (ti trivial) (VRun.loop hph222))
  injection h with h; subst h
  exact fun_ok pm pn Try.func73 (r0 := vi (-1)) (ans := [.reg (.n :: []), .reg (.n :: .n :: []), .sub ⟨[(1, none), (2, none), (10, none)], [none], []⟩ (.exit 0) (nstrings_indexFunc_c1_blank_isForeign_l0_0_e1 a0 a2 r225), .reg (.n :: [])]) (fr := true) (by kernel_rfl) (an (an (ti trivial) (an (an (ti (ti trivial)) e227) (an (ti trivial) trivial))) (ti trivial)) (Wv.refl _)
def nstrings_IndexFunc_c1_blank_isForeign (k : Nat) (a0 : ByteArray) (a1 : Unit) : Option Int :=
 (nstrings_indexFunc_c1_blank_isForeign k a0 a1 true).bind fun r231 => (some r231)
theorem nstrings_IndexFunc_c1_blank_isForeign_ok (k : Nat) (a0 : ByteArray) (a1 : Unit) (r : Int) (h : nstrings_IndexFunc_c1_blank_isForeign k a0 a1 = some r) : VC Try.prog 63 [vs a0, VV.fn 49 []] (vi r) := by
 unfold nstrings_IndexFunc_c1_blank_isForeign at h
 obtain ⟨r231, h232, h⟩ := bs h
 have e233 := (nstrings_indexFunc_c1_blank_isForeign_ok k a0 a1 true _ h232)
 injection h with h; subst h
 exact fun_ok pm pn Try.func63 (r0 := vi r231) (ans := [.reg (.n :: []), .reg (.n :: .n :: .call (vi r231) :: .n :: [])]) (fr := true) (by kernel_rfl) (an (an (ti trivial) (an (ti (ti (an e233 (ti trivial)))) trivial)) (ti trivial)) (Wv.refl _)
def nstrings_ContainsFunc_c1_blank_isForeign (k : Nat) (a0 : ByteArray) (a1 : Unit) : Option Bool :=
 (nstrings_IndexFunc_c1_blank_isForeign k a0 a1).bind fun r237 => (some (decide (0 <= r237)))
theorem nstrings_ContainsFunc_c1_blank_isForeign_ok (k : Nat) (a0 : ByteArray) (a1 : Unit) (r : Bool) (h : nstrings_ContainsFunc_c1_blank_isForeign k a0 a1 = some r) : VC Try.prog 48 [vs a0, VV.fn 49 []] (vb r) := by
 unfold nstrings_ContainsFunc_c1_blank_isForeign at h
 obtain ⟨r237, h238, h⟩ := bs h
 have e239 := (nstrings_IndexFunc_c1_blank_isForeign_ok k a0 a1 _ h238)
 injection h with h; subst h
 exact fun_ok pm pn Try.func48 (r0 := vb (decide (0 <= r237))) (ans := [.reg (.n :: []), .reg (.n :: .n :: .call (vi r237) :: .n :: .n :: [])]) (fr := true) (by kernel_rfl) (an (an (ti trivial) (an (ti (ti (an e239 (ti (ti trivial))))) trivial)) (ti trivial)) (Wv.refl _)
def arS1_4 (z0 : Bool) (z1 : Bool) (z2 : Bool) : List Ans := (.n :: .n :: .call (vb z0) :: nN 4 (.call (vb z1) :: .b true :: .n :: .n :: .call (vb z2) :: .n :: .b true :: .n :: []))
def arS1_5 (z0 : Bool) (z1 : Bool) : List Ans := (.n :: .n :: .call (vb z0) :: nN 4 (.call (vb z1) :: .b true :: .n :: nS 3 (.b false :: .n :: [])))
def arS1_6 (z0 : Bool) : List Ans := (.n :: .n :: .call (vb z0) :: .n :: nS 4 (.b false :: .n :: nS 3 (.b false :: .n :: [])))
def nblank_isName (k : Nat) (a0 : ByteArray) : Option Bool :=
 (nblank_isWithin k (a0.size : Int) 1 12).bind fun r246 => (if r246 = true then (if (0 : Int) <= 0 /\ 0 < (a0.size : Int) then ((nblank_isLetter k (IntKind.i32.wrap (bat a0 0))).bind fun r251 => (if r251 = true then ((nstrings_ContainsFunc_c1_blank_isForeign k a0 ()).bind fun r255 => (some (!r255))) else (some false))) else none) else (some false))
theorem nblank_isName_ok (k : Nat) (a0 : ByteArray) (r : Bool) (h : nblank_isName k a0 = some r) : VC Try.prog 31 [vs a0] (vb r) := by
 unfold nblank_isName at h
 obtain ⟨r246, h247, h⟩ := bs h
 have e248 := (nblank_isWithin_ok k (a0.size : Int) 1 12 _ h247)
 rcases ifs h with ⟨h249, h⟩ | ⟨h249, h⟩
 ·obtain ⟨h250, h⟩ := ifn h
  obtain ⟨r251, h252, h⟩ := bs h
  have e253 := (an h249 (nblank_isLetter_ok k (IntKind.i32.wrap (bat a0 0)) _ h252))
  rcases ifs h with ⟨h254, h⟩ | ⟨h254, h⟩
  ·obtain ⟨r255, h256, h⟩ := bs h
   have e257 := (an h254 (nstrings_ContainsFunc_c1_blank_isForeign_ok k a0 () _ h256))
   have e258 := (ti (ti (an e248 (ti (an (an h249 trivial) (an (an h249 h250) (an (an h249 trivial) (an e253 (an h249 (ti (an (an h254 trivial) (an e257 (an (an h254 trivial) (an h254 (ti trivial)))))))))))))))
   injection h with h; subst h
   exact fun_ok pm pn Try.func31 (r0 := vb (!r255)) (ans := [.reg (.n :: []), .reg (arS1_4 r246 r251 r255)]) (fr := true) (by kernel_rfl) (an (an (ti trivial) (an e258 trivial)) (ti trivial)) (Wv.refl _)
  ·have e259 := (ti (ti (an e248 (ti (an (an h249 trivial) (an (an h249 h250) (an (an h249 trivial) (an e253 (an h249 (ti (an (bool_f h254) (an (bool_f h254) (an (bool_f h254) (an (bool_f h254) (ti trivial)))))))))))))))
   injection h with h; subst h
   exact fun_ok pm pn Try.func31 (r0 := vb false) (ans := [.reg (.n :: []), .reg (arS1_5 r246 r251)]) (fr := true) (by kernel_rfl) (an (an (ti trivial) (an e259 trivial)) (ti trivial)) (Wv.refl _)
 ·have e260 := (ti (ti (an e248 (ti (an (bool_f h249) (an (bool_f h249) (an (bool_f h249) (an (bool_f h249) (an (bool_f h249) (ti (an rf (an rf (an rf (an rf (ti trivial)))))))))))))))
  injection h with h; subst h
  exact fun_ok pm pn Try.func31 (r0 := vb false) (ans := [.reg (.n :: []), .reg (arS1_6 r246)]) (fr := true) (by kernel_rfl) (an (an (ti trivial) (an e260 trivial)) (ti trivial)) (Wv.refl _)
def nspeculumbase_isLetter (k : Nat) (a0 : Int) : Option Bool :=
 if 97 <= a0 then (if a0 <= 122 then (some true) else (if 65 <= a0 then (some (decide (a0 <= 90))) else (some false))) else (if 65 <= a0 then (some (decide (a0 <= 90))) else (some false))
theorem nspeculumbase_isLetter_ok (k : Nat) (a0 : Int) (r : Bool) (h : nspeculumbase_isLetter k a0 = some r) : VC Try.prog 43 [VV.c (.int .u8 a0)] (vb r) := by
 unfold nspeculumbase_isLetter at h
 rcases ifs h with ⟨h277, h⟩ | ⟨h277, h⟩
 ·rcases ifs h with ⟨h278, h⟩ | ⟨h278, h⟩
  ·have e279 := (ti (ti (ti (an (an (decide_eq_true h277) trivial) (an (an (decide_eq_true h277) trivial) (an (decide_eq_true h277) (ti (an (decide_eq_true h278) (an (decide_eq_true h278) (an (decide_eq_true h278) (ti (ti (an (decide_eq_true h278) (an (decide_eq_true h278) (ti trivial)))))))))))))))
   injection h with h; subst h
   exact fun_ok pm pn Try.func43 (r0 := vb true) (ans := [.reg (.n :: []), .reg (nN 5 (.b true :: .n :: nS 6 (.b true :: .n :: [])))]) (fr := true) (by kernel_rfl) (an (an (ti trivial) (an e279 trivial)) (ti trivial)) (Wv.refl _)
  ·rcases ifs h with ⟨h280, h⟩ | ⟨h280, h⟩
   ·have e281 := (an (decide_eq_false h278) (decide_eq_true h280))
    have e282 := (ti (ti (ti (an (an (decide_eq_true h277) trivial) (an (an (decide_eq_true h277) trivial) (an (decide_eq_true h277) (ti (an (an (decide_eq_false h278) trivial) (an (an (decide_eq_false h278) trivial) (an (an (decide_eq_false h278) trivial) (an (an (decide_eq_true h280) trivial) (an (an (decide_eq_true h280) trivial) (an e281 (an (decide_eq_false h278) (ti trivial)))))))))))))))
    injection h with h; subst h
    exact fun_ok pm pn Try.func43 (r0 := vb (decide (a0 <= 90))) (ans := [.reg (.n :: []), .reg (nN 5 (.b true :: nN 6 (.b true :: .b false :: .n :: [])))]) (fr := true) (by kernel_rfl) (an (an (ti trivial) (an e282 trivial)) (ti trivial)) (Wv.refl _)
   ·have e283 := (an (decide_eq_false h278) (decide_eq_false h280))
    have e284 := (ti (ti (ti (an (an (decide_eq_true h277) trivial) (an (an (decide_eq_true h277) trivial) (an (decide_eq_true h277) (ti (an (an (decide_eq_false h278) trivial) (an (an (decide_eq_false h278) trivial) (an (an (decide_eq_false h278) trivial) (an (decide_eq_false h280) (an (decide_eq_false h280) (an e283 (an (decide_eq_false h278) (ti trivial)))))))))))))))
    injection h with h; subst h
    exact fun_ok pm pn Try.func43 (r0 := vb false) (ans := [.reg (.n :: []), .reg (nN 5 (.b true :: nN 4 (.skip :: .skip :: .b false :: .b false :: .n :: [])))]) (fr := true) (by kernel_rfl) (an (an (ti trivial) (an e284 trivial)) (ti trivial)) (Wv.refl _)
 ·rcases ifs h with ⟨h285, h⟩ | ⟨h285, h⟩
  ·have e286 := (ti (ti (ti (an (decide_eq_false h277) (an (decide_eq_false h277) (an (decide_eq_false h277) (ti (an (an rf trivial) (an (an rf trivial) (an (an rf trivial) (an (an (decide_eq_true h285) trivial) (an (an (decide_eq_true h285) trivial) (an (an rf (decide_eq_true h285)) (an rf (ti trivial)))))))))))))))
   injection h with h; subst h
   exact fun_ok pm pn Try.func43 (r0 := vb (decide (a0 <= 90))) (ans := [.reg (.n :: []), .reg (nN 3 (.skip :: .skip :: .b false :: nN 6 (.b true :: .b false :: .n :: [])))]) (fr := true) (by kernel_rfl) (an (an (ti trivial) (an e286 trivial)) (ti trivial)) (Wv.refl _)
  ·have e287 := (ti (ti (ti (an (decide_eq_false h277) (an (decide_eq_false h277) (an (decide_eq_false h277) (ti (an (an rf trivial) (an (an rf trivial) (an (an rf trivial) (an (decide_eq_false h285) (an (decide_eq_false h285) (an (an rf (decide_eq_false h285)) (an rf (ti trivial)))))))))))))))
   injection h with h; subst h
   exact fun_ok pm pn Try.func43 (r0 := vb false) (ans := [.reg (.n :: []), .reg arS1_0]) (fr := true) (by kernel_rfl) (an (an (ti trivial) (an e287 trivial)) (ti trivial)) (Wv.refl _)
def nspeculumbase_isDigit (k : Nat) (a0 : Int) : Option Bool :=
 if 48 <= a0 then (some (decide (a0 <= 57))) else (some false)
theorem nspeculumbase_isDigit_ok (k : Nat) (a0 : Int) (r : Bool) (h : nspeculumbase_isDigit k a0 = some r) : VC Try.prog 44 [VV.c (.int .u8 a0)] (vb r) := by
 unfold nspeculumbase_isDigit at h
 rcases ifs h with ⟨h303, h⟩ | ⟨h303, h⟩
 ·have e304 := (ti (ti (ti (an (an (decide_eq_true h303) trivial) (an (an (decide_eq_true h303) trivial) (an (decide_eq_true h303) (ti trivial)))))))
  injection h with h; subst h
  exact fun_ok pm pn Try.func44 (r0 := vb (decide (a0 <= 57))) (ans := [.reg (.n :: []), .reg (nN 5 (.b true :: .n :: []))]) (fr := true) (by kernel_rfl) (an (an (ti trivial) (an e304 trivial)) (ti trivial)) (Wv.refl _)
 ·have e305 := (ti (ti (ti (an (decide_eq_false h303) (an (decide_eq_false h303) (an (decide_eq_false h303) (ti trivial)))))))
  injection h with h; subst h
  exact fun_ok pm pn Try.func44 (r0 := vb false) (ans := [.reg (.n :: []), .reg (nN 3 (.skip :: .skip :: .b false :: .n :: []))]) (fr := true) (by kernel_rfl) (an (an (ti trivial) (an e305 trivial)) (ti trivial)) (Wv.refl _)
def arS1_7 (z0 : Bool) (z1 : Bool) : List Ans := (nN 3 (.call (vb z0) :: nN 5 (.call (vb z1) :: .n :: .b true :: .n :: nS 4 (.b false :: []))))
def arS1_8 (z0 : Bool) (z1 : Bool) : List Ans := (nN 3 (.call (vb z0) :: nN 5 (.call (vb z1) :: .n :: .b true :: nN 5 (.b true :: []))))
def nspeculumbase_IsName_l0_0_h (a0 : ByteArray) (x3 : Int) : VS := ⟨mkA [(0, vs a0), (3, vi x3)], [], .nil⟩
def nspeculumbase_IsName_l0_0_e0 (a0 : ByteArray) (r : Unit) : VS := ⟨mkA [(2, vb false)], [], .nil⟩
def nspeculumbase_IsName_l0_0_e1 (a0 : ByteArray) (r : Unit) : VS := ⟨mkA [], [], .nil⟩
def nspeculumbase_IsName_l0_0 (k : Nat) (a0 : ByteArray) : Nat -> Int -> Option (Sum Unit Unit)
 | 0, _ => none
 | fuel + 1, x3 => if x3 < (a0.size : Int) then (if 0 <= x3 /\ x3 < (a0.size : Int) then ((nspeculumbase_isLetter k (bat a0 x3)).bind fun r387 => (if r387 = true then (nspeculumbase_IsName_l0_0 k a0 fuel (w64 (x3 + 1))) else ((nspeculumbase_isDigit k (bat a0 x3)).bind fun r392 => (if r392 = true then (nspeculumbase_IsName_l0_0 k a0 fuel (w64 (x3 + 1))) else (if (bat a0 x3) = 45 then (nspeculumbase_IsName_l0_0 k a0 fuel (w64 (x3 + 1))) else (some (.inl ()))))))) else none) else (some (.inr ()))
theorem nspeculumbase_IsName_l0_0_ok (k : Nat) (a0 : ByteArray) : ∀ (fuel : Nat) (x3 : Int) (r : Sum Unit Unit), nspeculumbase_IsName_l0_0 k a0 fuel x3 = some r -> (match r with | .inl r => VLoop none Try.prog (szF Try.f24) (bodyOf Try.f24 0) (nspeculumbase_IsName_l0_0_h a0 x3) .ret (nspeculumbase_IsName_l0_0_e0 a0 r) | .inr r => VLoop none Try.prog (szF Try.f24) (bodyOf Try.f24 0) (nspeculumbase_IsName_l0_0_h a0 x3) (.exit 0) (nspeculumbase_IsName_l0_0_e1 a0 r)) := by
 intro fuel
 induction fuel with
 | zero => intro x3 r h; rw [nspeculumbase_IsName_l0_0.eq_1] at h; cases h
 | succ fuel ih =>
  intro x3 r h
  rw [nspeculumbase_IsName_l0_0.eq_2] at h
  rcases ifs h with ⟨h385, h⟩ | ⟨h385, h⟩
  ·obtain ⟨h386, h⟩ := ifn h
   obtain ⟨r387, h388, h⟩ := bs h
   have e389 := (nspeculumbase_isLetter_ok k (bat a0 x3) _ h388)
   rcases ifs h with ⟨h390, h⟩ | ⟨h390, h⟩
   ·have e391 := (ti (ti (an h386 (an e389 (ti (ti (an (not_f h390) (an (not_f h390) (an (not_f h390) (an (not_f h390) (an (not_f h390) (an (not_f h390) (ti (an rf (an rf (an rf (an rf (an rf trivial))))))))))))))))))
    have h2 := ih _ _ h
    obtain ⟨q, hv, hq⟩ := pkR (rd := none) (P := Try.prog) (fn := Try.f24) (k := 0) (s := (nspeculumbase_IsName_l0_0_h a0 x3)) (ans := [.reg (nN 4 []), .br true, .reg (nN 3 (.call (vb r387) :: .n :: .n :: nS 5 (.b false :: .n :: nS 4 (.b false :: [])))), .br false, .reg (nN 3 [])]) (c := ⟨[(0, none), (3, none)], [], []⟩) (e := .normal) (s1 := (nspeculumbase_IsName_l0_0_h a0 (w64 (x3 + 1)))) (an (an (an (ti (ti (ti (ti trivial)))) (an (decide_eq_true h385) trivial)) (an (an e391 (an rf trivial)) (ti (ti (ti trivial))))) (ti trivial)) (by kernel_rfl)
    cases r with
    | inl r => exact round_next pm pn hv hq h2
    | inr r =>
     exact round_next pm pn hv hq h2
   ·obtain ⟨r392, h393, h⟩ := bs h
    have e394 := (an (not_t (bool_f h390)) (nspeculumbase_isDigit_ok k (bat a0 x3) _ h393))
    rcases ifs h with ⟨h395, h⟩ | ⟨h395, h⟩
    ·have e396 := (ti (ti (an h386 (an e389 (ti (ti (an (an (not_t (bool_f h390)) trivial) (an (an (not_t (bool_f h390)) trivial) (an (an (not_t (bool_f h390)) h386) (an e394 (an (an (not_t (bool_f h390)) trivial) (an (not_t (bool_f h390)) (ti (an (not_f h395) (an (not_f h395) (an (not_f h395) (an (not_f h395) (an (not_f h395) trivial))))))))))))))))))
     have h2 := ih _ _ h
     obtain ⟨q, hv, hq⟩ := pkR (rd := none) (P := Try.prog) (fn := Try.f24) (k := 0) (s := (nspeculumbase_IsName_l0_0_h a0 x3)) (ans := [.reg (nN 4 []), .br true, .reg (arS1_7 r387 r392), .br false, .reg (nN 3 [])]) (c := ⟨[(0, none), (3, none)], [], []⟩) (e := .normal) (s1 := (nspeculumbase_IsName_l0_0_h a0 (w64 (x3 + 1)))) (an (an (an (ti (ti (ti (ti trivial)))) (an (decide_eq_true h385) trivial)) (an (an e396 (an rf trivial)) (ti (ti (ti trivial))))) (ti trivial)) (by kernel_rfl)
     cases r with
     | inl r => exact round_next pm pn hv hq h2
     | inr r =>
      exact round_next pm pn hv hq h2
    ·have e397 := (ti (ti (an h386 (an e389 (ti (ti (an (an (not_t (bool_f h390)) trivial) (an (an (not_t (bool_f h390)) trivial) (an (an (not_t (bool_f h390)) h386) (an e394 (an (an (not_t (bool_f h390)) trivial) (an (not_t (bool_f h390)) (ti (an (an (not_t (bool_f h395)) trivial) (an (an (not_t (bool_f h395)) trivial) (an (an (not_t (bool_f h395)) h386) (an (an (not_t (bool_f h395)) trivial) (an (not_t (bool_f h395)) trivial))))))))))))))))))
     rcases ifs h with ⟨h398, h⟩ | ⟨h398, h⟩
     ·have h2 := ih _ _ h
      obtain ⟨q, hv, hq⟩ := pkR (rd := none) (P := Try.prog) (fn := Try.f24) (k := 0) (s := (nspeculumbase_IsName_l0_0_h a0 x3)) (ans := [.reg (nN 4 []), .br true, .reg (arS1_8 r387 r392), .br false, .reg (nN 3 [])]) (c := ⟨[(0, none), (3, none)], [], []⟩) (e := .normal) (s1 := (nspeculumbase_IsName_l0_0_h a0 (w64 (x3 + 1)))) (an (an (an (ti (ti (ti (ti trivial)))) (an (decide_eq_true h385) trivial)) (an (an e397 (an (not_f (decide_eq_true h398)) trivial)) (ti (ti (ti trivial))))) (ti trivial)) (by kernel_rfl)
      cases r with
      | inl r => exact round_next pm pn hv hq h2
      | inr r =>
       exact round_next pm pn hv hq h2
     ·injection h with h; subst h
      exact round_stop (c := ⟨[(2, none)], [], []⟩) (s1 := (nspeculumbase_IsName_l0_0_e0 a0 ())) pm pn (ans := [.reg (nN 4 []), .br true, .reg (arS1_8 r387 r392), .br true, .reg (.n :: [])]) (by kernel_rfl) (by intro e; cases e) (an (an (an (ti (ti (ti (ti trivial)))) (an (decide_eq_true h385) trivial)) (an e397 (an (not_t (decide_eq_false h398)) (an (ti trivial) trivial)))) (ti trivial))
  ·injection h with h; subst h
   exact round_stop (c := ⟨[], [], []⟩) (s1 := (nspeculumbase_IsName_l0_0_e1 a0 ())) pm pn (ans := [.reg (nN 4 []), .br false]) (by kernel_rfl) (by intro e; cases e) (an (an (ti (ti (ti (ti trivial)))) (an (decide_eq_false h385) trivial)) (ti trivial))
def nspeculumbase_IsName (k : Nat) (a0 : ByteArray) : Option Bool :=
 if (a0.size : Int) = 0 then (some false) else (if 12 < (a0.size : Int) then (some false) else (if (0 : Int) <= 0 /\ 0 < (a0.size : Int) then ((nspeculumbase_isLetter k (bat a0 0)).bind fun r352 => (if r352 = true then ((nspeculumbase_IsName_l0_0 k a0 k 0).bind fun r400 => (match r400 with | .inl r401 => (some false) | .inr r402 => (some true))) else (some false))) else none))
theorem nspeculumbase_IsName_ok (k : Nat) (a0 : ByteArray) (r : Bool) (h : nspeculumbase_IsName k a0 = some r) : VC Try.prog 24 [vs a0] (vb r) := by
 unfold nspeculumbase_IsName at h
 rcases ifs h with ⟨h347, h⟩ | ⟨h347, h⟩
 ·have e348 := (ti (ti (ti (ti (an (decide_eq_true h347) (an (decide_eq_true h347) (an (decide_eq_true h347) (an (decide_eq_true h347) (ti (an rt (an rt (an rt (an rt (an rt trivial))))))))))))))
  injection h with h; subst h
  exact fun_ok pm pn Try.func24 (r0 := vb false) (ans := [.reg (.n :: []), .reg (nN 4 (nS 3 (.b true :: .n :: nS 4 (.b true :: [])))), .br true, .reg (.n :: [])]) (fr := true) (by kernel_rfl) (an (an (ti trivial) (an e348 (an rt (an (ti trivial) trivial)))) (ti trivial)) (Wv.refl _)
 ·rcases ifs h with ⟨h349, h⟩ | ⟨h349, h⟩
  ·have e350 := (ti (ti (ti (ti (an (an (decide_eq_false h347) trivial) (an (an (decide_eq_false h347) trivial) (an (an (decide_eq_false h347) trivial) (an (decide_eq_false h347) (ti (an (decide_eq_true h349) (an (decide_eq_true h349) (an (decide_eq_true h349) (an (decide_eq_true h349) (an (decide_eq_true h349) trivial))))))))))))))
   injection h with h; subst h
   exact fun_ok pm pn Try.func24 (r0 := vb false) (ans := [.reg (.n :: []), .reg (nN 7 (.b false :: .n :: nS 4 (.b true :: []))), .br true, .reg (.n :: [])]) (fr := true) (by kernel_rfl) (an (an (ti trivial) (an e350 (an rt (an (ti trivial) trivial)))) (ti trivial)) (Wv.refl _)
  ·obtain ⟨h351, h⟩ := ifn h
   obtain ⟨r352, h353, h⟩ := bs h
   have e354 := (an (decide_eq_false h349) (nspeculumbase_isLetter_ok k (bat a0 0) _ h353))
   have e355 := (ti (ti (ti (ti (an (an (decide_eq_false h347) trivial) (an (an (decide_eq_false h347) trivial) (an (an (decide_eq_false h347) trivial) (an (decide_eq_false h347) (ti (an (an (decide_eq_false h349) trivial) (an (an (decide_eq_false h349) h351) (an e354 (an (an (decide_eq_false h349) trivial) (an (decide_eq_false h349) trivial))))))))))))))
   rcases ifs h with ⟨h356, h⟩ | ⟨h356, h⟩
   ·obtain ⟨r400, h399, h⟩ := bs h
    have hph399 := nspeculumbase_IsName_l0_0_ok k a0 _ _ _ h399
    cases r400 with
    | inl r401 =>
     dsimp only at h
     have e403 := (an (ti trivial) (VRun.loop hph399))
     injection h with h; subst h
     exact fun_ok pm pn Try.func24 (r0 := vb false) (ans := [.reg (.n :: []), .reg (nN 7 (.b false :: nN 3 (.call (vb r352) :: .n :: .b false :: []))), .br false, .reg (.n :: []), .sub ⟨[(0, none), (3, none)], [], []⟩ .ret (nspeculumbase_IsName_l0_0_e0 a0 r401)]) (fr := true) (by kernel_rfl) (an (an (ti trivial) (an (an e355 (an (not_f h356) trivial)) (an (ti trivial) e403))) (ti trivial)) (Wv.refl _)
    | inr r402 =>
     dsimp only at h
     have e404 := (an (ti trivial) (VRun.loop hph399))
     injection h with h; subst h
     exact fun_ok pm pn Try.func24 (r0 := vb true) (ans := [.reg (.n :: []), .reg (nN 7 (.b false :: nN 3 (.call (vb r352) :: .n :: .b false :: []))), .br false, .reg (.n :: []), .sub ⟨[(0, none), (3, none)], [], []⟩ (.exit 0) (nspeculumbase_IsName_l0_0_e1 a0 r402), .reg (.n :: [])]) (fr := true) (by kernel_rfl) (an (an (ti trivial) (an (an e355 (an (not_f h356) trivial)) (an (an (ti trivial) e404) (an (ti trivial) trivial)))) (ti trivial)) (Wv.refl _)
   ·injection h with h; subst h
    exact fun_ok pm pn Try.func24 (r0 := vb false) (ans := [.reg (.n :: []), .reg (nN 7 (.b false :: nN 3 (.call (vb r352) :: .n :: .b false :: []))), .br true, .reg (.n :: [])]) (fr := true) (by kernel_rfl) (an (an (ti trivial) (an e355 (an (not_t (bool_f h356)) (an (ti trivial) trivial)))) (ti trivial)) (Wv.refl _)
def nspeculumbase_Within (k : Nat) (a0 : Int) (a1 : Int) (a2 : Int) : Option Bool :=
 if a1 <= a0 then (some (decide (a0 <= a2))) else (some false)
theorem nspeculumbase_Within_ok (k : Nat) (a0 : Int) (a1 : Int) (a2 : Int) (r : Bool) (h : nspeculumbase_Within k a0 a1 a2 = some r) : VC Try.prog 33 [vi a0, vi a1, vi a2] (vb r) := by
 unfold nspeculumbase_Within at h
 rcases ifs h with ⟨h408, h⟩ | ⟨h408, h⟩
 ·have e409 := (ti (ti (ti (ti (an (an (decide_eq_true h408) trivial) (an (an (decide_eq_true h408) trivial) (an (an (decide_eq_true h408) trivial) (an (decide_eq_true h408) (ti trivial)))))))))
  injection h with h; subst h
  exact fun_ok pm pn Try.func33 (r0 := vb (decide (a0 <= a2))) (ans := [.reg (.n :: []), .reg (nN 7 (.b true :: .n :: []))]) (fr := true) (by kernel_rfl) (an (an (ti trivial) (an e409 trivial)) (ti trivial)) (Wv.refl _)
 ·have e410 := (ti (ti (ti (ti (an (decide_eq_false h408) (an (decide_eq_false h408) (an (decide_eq_false h408) (an (decide_eq_false h408) (ti trivial)))))))))
  injection h with h; subst h
  exact fun_ok pm pn Try.func33 (r0 := vb false) (ans := [.reg (.n :: []), .reg (nN 4 (nS 3 (.b false :: .n :: [])))]) (fr := true) (by kernel_rfl) (an (an (ti trivial) (an e410 trivial)) (ti trivial)) (Wv.refl _)
def arS1_9 (z0 : (List SGlassPromise)) (z1 : Int) : List Ans := (nN 4 (.v (vs ((z0.getD z1.toNat default).Mirror)) :: nN 7 (.v (vs ((z0.getD z1.toNat default).Batch)) :: .n :: .n :: .b false :: [])))
def arS1_10  : List Ans := (nN 7 (.b true :: .n :: nS 3 (.b true :: .n :: nS 8 (.b true :: .n :: nS 3 (.b true :: [])))))
def arS1_11  : List Ans := (nN 7 (.b true :: nN 4 (.b false :: nN 8 (.b true :: .b false :: .n :: nS 3 (.b true :: [])))))
def arS1_12  : List Ans := (nN 7 (.b true :: nN 4 (.b false :: nN 8 (.b true :: .b false :: nN 4 (.b false :: [])))))
def nspeculumlaw03_short_l0_0_h (a0 : (List SGlassBatch)) (a1 : (List SGlassPromise)) (x5 : Int) : VS := ⟨mkA [(0, VV.tr (flatMap c_SGlassBatch a0) a0.length), (1, VV.tr (flatMap c_SGlassPromise a1) a1.length), (5, vi x5)], [], .nil⟩
def nspeculumlaw03_short_l0_0_e0 (a0 : (List SGlassBatch)) (a1 : (List SGlassPromise)) (r : Unit) : VS := ⟨mkA [(4, vb false)], [], .nil⟩
def nspeculumlaw03_short_l0_0_e1 (a0 : (List SGlassBatch)) (a1 : (List SGlassPromise)) (r : Unit) : VS := ⟨mkA [(1, VV.tr (flatMap c_SGlassPromise a1) a1.length)], [], .nil⟩
def nspeculumlaw03_short_l0_0 (k : Nat) (a0 : (List SGlassBatch)) (a1 : (List SGlassPromise)) : Nat -> Int -> Option (Sum Unit Unit)
 | 0, _ => none
 | fuel + 1, x5 => if x5 < (a0.length : Int) then (if 0 <= x5 /\ x5 < (a0.length : Int) then (if 30 < (((a0.getD x5.toNat default).Name).size : Int) then (some (.inl ())) else (nspeculumlaw03_short_l0_0 k a0 a1 fuel (w64 (x5 + 1)))) else none) else (some (.inr ()))
theorem nspeculumlaw03_short_l0_0_ok (k : Nat) (a0 : (List SGlassBatch)) (a1 : (List SGlassPromise)) : ∀ (fuel : Nat) (x5 : Int) (r : Sum Unit Unit), nspeculumlaw03_short_l0_0 k a0 a1 fuel x5 = some r -> (match r with | .inl r => VLoop none Try.prog (szF Try.f5) (bodyOf Try.f5 0) (nspeculumlaw03_short_l0_0_h a0 a1 x5) .ret (nspeculumlaw03_short_l0_0_e0 a0 a1 r) | .inr r => VLoop none Try.prog (szF Try.f5) (bodyOf Try.f5 0) (nspeculumlaw03_short_l0_0_h a0 a1 x5) (.exit 0) (nspeculumlaw03_short_l0_0_e1 a0 a1 r)) := by
 intro fuel
 induction fuel with
 | zero => intro x5 r h; rw [nspeculumlaw03_short_l0_0.eq_1] at h; cases h
 | succ fuel ih =>
  intro x5 r h
  rw [nspeculumlaw03_short_l0_0.eq_2] at h
  rcases ifs h with ⟨h661, h⟩ | ⟨h661, h⟩
  ·obtain ⟨h662, h⟩ := ifn h
   have e663 := (show loadL Try.prog 9 (x5.toNat * 4 + 0) (flatMap c_SGlassBatch a0) = some (vs ((a0.getD x5.toNat default).Name)) from (ld_flat ag9 c_SGlassBatch 4 0 len_c_SGlassBatch (by omega) a0 default h662 (by omega)).trans rfl)
   have e664 := (ti (ti (an h662 (ti (an e663 (ti (ti trivial)))))))
   rcases ifs h with ⟨h665, h⟩ | ⟨h665, h⟩
   ·injection h with h; subst h
    exact round_stop (c := ⟨[(4, none)], [], []⟩) (s1 := (nspeculumlaw03_short_l0_0_e0 a0 a1 ())) pm pn (ans := [.reg (nN 4 []), .br true, .reg (nN 4 (.v (vs ((a0.getD x5.toNat default).Name)) :: .n :: .n :: [])), .br true, .reg (.n :: [])]) (by kernel_rfl) (by intro e; cases e) (an (an (an (ti (ti (ti (ti trivial)))) (an (decide_eq_true h661) trivial)) (an e664 (an (decide_eq_true h665) (an (ti trivial) trivial)))) (ti trivial))
   ·have h2 := ih _ _ h
    obtain ⟨q, hv, hq⟩ := pkR (rd := none) (P := Try.prog) (fn := Try.f5) (k := 0) (s := (nspeculumlaw03_short_l0_0_h a0 a1 x5)) (ans := [.reg (nN 4 []), .br true, .reg (nN 4 (.v (vs ((a0.getD x5.toNat default).Name)) :: .n :: .n :: [])), .br false, .reg (nN 3 [])]) (c := ⟨[(0, none), (1, none), (5, none)], [], []⟩) (e := .normal) (s1 := (nspeculumlaw03_short_l0_0_h a0 a1 (w64 (x5 + 1)))) (an (an (an (ti (ti (ti (ti trivial)))) (an (decide_eq_true h661) trivial)) (an (an e664 (an (decide_eq_false h665) trivial)) (ti (ti (ti trivial))))) (ti trivial)) (by kernel_rfl)
    cases r with
    | inl r => exact round_next pm pn hv hq h2
    | inr r =>
     exact round_next pm pn hv hq h2
  ·injection h with h; subst h
   exact round_stop (c := ⟨[(1, none)], [], []⟩) (s1 := (nspeculumlaw03_short_l0_0_e1 a0 a1 ())) pm pn (ans := [.reg (nN 4 []), .br false]) (by kernel_rfl) (by intro e; cases e) (an (an (ti (ti (ti (ti trivial)))) (an (decide_eq_false h661) trivial)) (ti trivial))
def nspeculumlaw03_short_l1_0_h (a1 : (List SGlassPromise)) (x6 : Int) : VS := ⟨mkA [(1, VV.tr (flatMap c_SGlassPromise a1) a1.length), (6, vi x6)], [], .nil⟩
def nspeculumlaw03_short_l1_0_e0 (a1 : (List SGlassPromise)) (r : Unit) : VS := ⟨mkA [(4, vb false)], [], .nil⟩
def nspeculumlaw03_short_l1_0_e1 (a1 : (List SGlassPromise)) (r : Unit) : VS := ⟨mkA [], [], .nil⟩
def nspeculumlaw03_short_l1_0 (k : Nat) (a1 : (List SGlassPromise)) : Nat -> Int -> Option (Sum Unit Unit)
 | 0, _ => none
 | fuel + 1, x6 => if x6 < (a1.length : Int) then (if 0 <= x6 /\ x6 < (a1.length : Int) then (if 30 < (((a1.getD x6.toNat default).Mirror).size : Int) then (some (.inl ())) else (if 30 < (((a1.getD x6.toNat default).Batch).size : Int) then (some (.inl ())) else (nspeculumlaw03_short_l1_0 k a1 fuel (w64 (x6 + 1))))) else none) else (some (.inr ()))
theorem nspeculumlaw03_short_l1_0_ok (k : Nat) (a1 : (List SGlassPromise)) : ∀ (fuel : Nat) (x6 : Int) (r : Sum Unit Unit), nspeculumlaw03_short_l1_0 k a1 fuel x6 = some r -> (match r with | .inl r => VLoop none Try.prog (szF Try.f5) (bodyOf Try.f5 1) (nspeculumlaw03_short_l1_0_h a1 x6) .ret (nspeculumlaw03_short_l1_0_e0 a1 r) | .inr r => VLoop none Try.prog (szF Try.f5) (bodyOf Try.f5 1) (nspeculumlaw03_short_l1_0_h a1 x6) (.exit 2) (nspeculumlaw03_short_l1_0_e1 a1 r)) := by
 intro fuel
 induction fuel with
 | zero => intro x6 r h; rw [nspeculumlaw03_short_l1_0.eq_1] at h; cases h
 | succ fuel ih =>
  intro x6 r h
  rw [nspeculumlaw03_short_l1_0.eq_2] at h
  rcases ifs h with ⟨h688, h⟩ | ⟨h688, h⟩
  ·obtain ⟨h689, h⟩ := ifn h
   have e690 := (show loadL Try.prog 9 (x6.toNat * 2 + 0) (flatMap c_SGlassPromise a1) = some (vs ((a1.getD x6.toNat default).Mirror)) from (ld_flat ag9 c_SGlassPromise 2 0 len_c_SGlassPromise (by omega) a1 default h689 (by omega)).trans rfl)
   rcases ifs h with ⟨h691, h⟩ | ⟨h691, h⟩
   ·have e692 := (ti (ti (an h689 (ti (an e690 (ti (ti (ti (an (decide_eq_true h691) (an (decide_eq_true h691) (an (decide_eq_true h691) (an (decide_eq_true h691) (an (decide_eq_true h691) (an (decide_eq_true h691) (an (decide_eq_true h691) (an (decide_eq_true h691) trivial))))))))))))))))
    injection h with h; subst h
    exact round_stop (c := ⟨[(4, none)], [], []⟩) (s1 := (nspeculumlaw03_short_l1_0_e0 a1 ())) pm pn (ans := [.reg (nN 4 []), .br true, .reg (nN 4 (.v (vs ((a1.getD x6.toNat default).Mirror)) :: nN 3 (nS 7 (.b true :: [])))), .br true, .reg (.n :: [])]) (by kernel_rfl) (by intro e; cases e) (an (an (an (ti (ti (ti (ti trivial)))) (an (decide_eq_true h688) trivial)) (an e692 (an rt (an (ti trivial) trivial)))) (ti trivial))
   ·have e693 := (an (decide_eq_false h691) (show loadL Try.prog 9 (x6.toNat * 2 + 1) (flatMap c_SGlassPromise a1) = some (vs ((a1.getD x6.toNat default).Batch)) from (ld_flat ag9 c_SGlassPromise 2 1 len_c_SGlassPromise (by omega) a1 default h689 (by omega)).trans rfl))
    have e694 := (ti (ti (an h689 (ti (an e690 (ti (ti (ti (an (an (decide_eq_false h691) trivial) (an (an (decide_eq_false h691) trivial) (an (an (decide_eq_false h691) h689) (an (an (decide_eq_false h691) trivial) (an e693 (an (an (decide_eq_false h691) trivial) (an (an (decide_eq_false h691) trivial) (an (decide_eq_false h691) trivial))))))))))))))))
    rcases ifs h with ⟨h695, h⟩ | ⟨h695, h⟩
    ·injection h with h; subst h
     exact round_stop (c := ⟨[(4, none)], [], []⟩) (s1 := (nspeculumlaw03_short_l1_0_e0 a1 ())) pm pn (ans := [.reg (nN 4 []), .br true, .reg (arS1_9 a1 x6), .br true, .reg (.n :: [])]) (by kernel_rfl) (by intro e; cases e) (an (an (an (ti (ti (ti (ti trivial)))) (an (decide_eq_true h688) trivial)) (an e694 (an (decide_eq_true h695) (an (ti trivial) trivial)))) (ti trivial))
    ·have h2 := ih _ _ h
     obtain ⟨q, hv, hq⟩ := pkR (rd := none) (P := Try.prog) (fn := Try.f5) (k := 1) (s := (nspeculumlaw03_short_l1_0_h a1 x6)) (ans := [.reg (nN 4 []), .br true, .reg (arS1_9 a1 x6), .br false, .reg (nN 3 [])]) (c := ⟨[(1, none), (6, none)], [], []⟩) (e := .normal) (s1 := (nspeculumlaw03_short_l1_0_h a1 (w64 (x6 + 1)))) (an (an (an (ti (ti (ti (ti trivial)))) (an (decide_eq_true h688) trivial)) (an (an e694 (an (decide_eq_false h695) trivial)) (ti (ti (ti trivial))))) (ti trivial)) (by kernel_rfl)
     cases r with
     | inl r => exact round_next pm pn hv hq h2
     | inr r =>
      exact round_next pm pn hv hq h2
  ·injection h with h; subst h
   exact round_stop (c := ⟨[], [], []⟩) (s1 := (nspeculumlaw03_short_l1_0_e1 a1 ())) pm pn (ans := [.reg (nN 4 []), .br false]) (by kernel_rfl) (by intro e; cases e) (an (an (ti (ti (ti (ti trivial)))) (an (decide_eq_false h688) trivial)) (ti trivial))
def arS1_13  : List Ans := (nN 7 (.b true :: nN 4 (.b false :: nN 5 (nS 3 (.b false :: .b false :: nN 4 (.b false :: []))))))
def nspeculumlaw03_short_l0_1_h (a0 : (List SGlassBatch)) (a1 : (List SGlassPromise)) (x5 : Int) : VS := ⟨mkA [(0, VV.tr (flatMap c_SGlassBatch a0) a0.length), (1, VV.tr (flatMap c_SGlassPromise a1) a1.length), (5, vi x5)], [], .nil⟩
def nspeculumlaw03_short_l0_1_e0 (a0 : (List SGlassBatch)) (a1 : (List SGlassPromise)) (r : Unit) : VS := ⟨mkA [(4, vb false)], [], .nil⟩
def nspeculumlaw03_short_l0_1_e1 (a0 : (List SGlassBatch)) (a1 : (List SGlassPromise)) (r : Unit) : VS := ⟨mkA [(1, VV.tr (flatMap c_SGlassPromise a1) a1.length)], [], .nil⟩
def nspeculumlaw03_short_l0_1 (k : Nat) (a0 : (List SGlassBatch)) (a1 : (List SGlassPromise)) : Nat -> Int -> Option (Sum Unit Unit)
 | 0, _ => none
 | fuel + 1, x5 => if x5 < (a0.length : Int) then (if 0 <= x5 /\ x5 < (a0.length : Int) then (if 30 < (((a0.getD x5.toNat default).Name).size : Int) then (some (.inl ())) else (nspeculumlaw03_short_l0_1 k a0 a1 fuel (w64 (x5 + 1)))) else none) else (some (.inr ()))
theorem nspeculumlaw03_short_l0_1_ok (k : Nat) (a0 : (List SGlassBatch)) (a1 : (List SGlassPromise)) : ∀ (fuel : Nat) (x5 : Int) (r : Sum Unit Unit), nspeculumlaw03_short_l0_1 k a0 a1 fuel x5 = some r -> (match r with | .inl r => VLoop none Try.prog (szF Try.f5) (bodyOf Try.f5 0) (nspeculumlaw03_short_l0_1_h a0 a1 x5) .ret (nspeculumlaw03_short_l0_1_e0 a0 a1 r) | .inr r => VLoop none Try.prog (szF Try.f5) (bodyOf Try.f5 0) (nspeculumlaw03_short_l0_1_h a0 a1 x5) (.exit 0) (nspeculumlaw03_short_l0_1_e1 a0 a1 r)) := by
 intro fuel
 induction fuel with
 | zero => intro x5 r h; rw [nspeculumlaw03_short_l0_1.eq_1] at h; cases h
 | succ fuel ih =>
  intro x5 r h
  rw [nspeculumlaw03_short_l0_1.eq_2] at h
  rcases ifs h with ⟨h715, h⟩ | ⟨h715, h⟩
  ·obtain ⟨h716, h⟩ := ifn h
   have e717 := (show loadL Try.prog 9 (x5.toNat * 4 + 0) (flatMap c_SGlassBatch a0) = some (vs ((a0.getD x5.toNat default).Name)) from (ld_flat ag9 c_SGlassBatch 4 0 len_c_SGlassBatch (by omega) a0 default h716 (by omega)).trans rfl)
   have e718 := (ti (ti (an h716 (ti (an e717 (ti (ti trivial)))))))
   rcases ifs h with ⟨h719, h⟩ | ⟨h719, h⟩
   ·injection h with h; subst h
    exact round_stop (c := ⟨[(4, none)], [], []⟩) (s1 := (nspeculumlaw03_short_l0_1_e0 a0 a1 ())) pm pn (ans := [.reg (nN 4 []), .br true, .reg (nN 4 (.v (vs ((a0.getD x5.toNat default).Name)) :: .n :: .n :: [])), .br true, .reg (.n :: [])]) (by kernel_rfl) (by intro e; cases e) (an (an (an (ti (ti (ti (ti trivial)))) (an (decide_eq_true h715) trivial)) (an e718 (an (decide_eq_true h719) (an (ti trivial) trivial)))) (ti trivial))
   ·have h2 := ih _ _ h
    obtain ⟨q, hv, hq⟩ := pkR (rd := none) (P := Try.prog) (fn := Try.f5) (k := 0) (s := (nspeculumlaw03_short_l0_1_h a0 a1 x5)) (ans := [.reg (nN 4 []), .br true, .reg (nN 4 (.v (vs ((a0.getD x5.toNat default).Name)) :: .n :: .n :: [])), .br false, .reg (nN 3 [])]) (c := ⟨[(0, none), (1, none), (5, none)], [], []⟩) (e := .normal) (s1 := (nspeculumlaw03_short_l0_1_h a0 a1 (w64 (x5 + 1)))) (an (an (an (ti (ti (ti (ti trivial)))) (an (decide_eq_true h715) trivial)) (an (an e718 (an (decide_eq_false h719) trivial)) (ti (ti (ti trivial))))) (ti trivial)) (by kernel_rfl)
    cases r with
    | inl r => exact round_next pm pn hv hq h2
    | inr r =>
     exact round_next pm pn hv hq h2
  ·injection h with h; subst h
   exact round_stop (c := ⟨[(1, none)], [], []⟩) (s1 := (nspeculumlaw03_short_l0_1_e1 a0 a1 ())) pm pn (ans := [.reg (nN 4 []), .br false]) (by kernel_rfl) (by intro e; cases e) (an (an (ti (ti (ti (ti trivial)))) (an (decide_eq_false h715) trivial)) (ti trivial))
def nspeculumlaw03_short_l1_1_h (a1 : (List SGlassPromise)) (x6 : Int) : VS := ⟨mkA [(1, VV.tr (flatMap c_SGlassPromise a1) a1.length), (6, vi x6)], [], .nil⟩
def nspeculumlaw03_short_l1_1_e0 (a1 : (List SGlassPromise)) (r : Unit) : VS := ⟨mkA [(4, vb false)], [], .nil⟩
def nspeculumlaw03_short_l1_1_e1 (a1 : (List SGlassPromise)) (r : Unit) : VS := ⟨mkA [], [], .nil⟩
def nspeculumlaw03_short_l1_1 (k : Nat) (a1 : (List SGlassPromise)) : Nat -> Int -> Option (Sum Unit Unit)
 | 0, _ => none
 | fuel + 1, x6 => if x6 < (a1.length : Int) then (if 0 <= x6 /\ x6 < (a1.length : Int) then (if 30 < (((a1.getD x6.toNat default).Mirror).size : Int) then (some (.inl ())) else (if 30 < (((a1.getD x6.toNat default).Batch).size : Int) then (some (.inl ())) else (nspeculumlaw03_short_l1_1 k a1 fuel (w64 (x6 + 1))))) else none) else (some (.inr ()))
theorem nspeculumlaw03_short_l1_1_ok (k : Nat) (a1 : (List SGlassPromise)) : ∀ (fuel : Nat) (x6 : Int) (r : Sum Unit Unit), nspeculumlaw03_short_l1_1 k a1 fuel x6 = some r -> (match r with | .inl r => VLoop none Try.prog (szF Try.f5) (bodyOf Try.f5 1) (nspeculumlaw03_short_l1_1_h a1 x6) .ret (nspeculumlaw03_short_l1_1_e0 a1 r) | .inr r => VLoop none Try.prog (szF Try.f5) (bodyOf Try.f5 1) (nspeculumlaw03_short_l1_1_h a1 x6) (.exit 2) (nspeculumlaw03_short_l1_1_e1 a1 r)) := by
 intro fuel
 induction fuel with
 | zero => intro x6 r h; rw [nspeculumlaw03_short_l1_1.eq_1] at h; cases h
 | succ fuel ih =>
  intro x6 r h
  rw [nspeculumlaw03_short_l1_1.eq_2] at h
  rcases ifs h with ⟨h742, h⟩ | ⟨h742, h⟩
  ·obtain ⟨h743, h⟩ := ifn h
   have e744 := (show loadL Try.prog 9 (x6.toNat * 2 + 0) (flatMap c_SGlassPromise a1) = some (vs ((a1.getD x6.toNat default).Mirror)) from (ld_flat ag9 c_SGlassPromise 2 0 len_c_SGlassPromise (by omega) a1 default h743 (by omega)).trans rfl)
   rcases ifs h with ⟨h745, h⟩ | ⟨h745, h⟩
   ·have e746 := (ti (ti (an h743 (ti (an e744 (ti (ti (ti (an (decide_eq_true h745) (an (decide_eq_true h745) (an (decide_eq_true h745) (an (decide_eq_true h745) (an (decide_eq_true h745) (an (decide_eq_true h745) (an (decide_eq_true h745) (an (decide_eq_true h745) trivial))))))))))))))))
    injection h with h; subst h
    exact round_stop (c := ⟨[(4, none)], [], []⟩) (s1 := (nspeculumlaw03_short_l1_1_e0 a1 ())) pm pn (ans := [.reg (nN 4 []), .br true, .reg (nN 4 (.v (vs ((a1.getD x6.toNat default).Mirror)) :: nN 3 (nS 7 (.b true :: [])))), .br true, .reg (.n :: [])]) (by kernel_rfl) (by intro e; cases e) (an (an (an (ti (ti (ti (ti trivial)))) (an (decide_eq_true h742) trivial)) (an e746 (an rt (an (ti trivial) trivial)))) (ti trivial))
   ·have e747 := (an (decide_eq_false h745) (show loadL Try.prog 9 (x6.toNat * 2 + 1) (flatMap c_SGlassPromise a1) = some (vs ((a1.getD x6.toNat default).Batch)) from (ld_flat ag9 c_SGlassPromise 2 1 len_c_SGlassPromise (by omega) a1 default h743 (by omega)).trans rfl))
    have e748 := (ti (ti (an h743 (ti (an e744 (ti (ti (ti (an (an (decide_eq_false h745) trivial) (an (an (decide_eq_false h745) trivial) (an (an (decide_eq_false h745) h743) (an (an (decide_eq_false h745) trivial) (an e747 (an (an (decide_eq_false h745) trivial) (an (an (decide_eq_false h745) trivial) (an (decide_eq_false h745) trivial))))))))))))))))
    rcases ifs h with ⟨h749, h⟩ | ⟨h749, h⟩
    ·injection h with h; subst h
     exact round_stop (c := ⟨[(4, none)], [], []⟩) (s1 := (nspeculumlaw03_short_l1_1_e0 a1 ())) pm pn (ans := [.reg (nN 4 []), .br true, .reg (arS1_9 a1 x6), .br true, .reg (.n :: [])]) (by kernel_rfl) (by intro e; cases e) (an (an (an (ti (ti (ti (ti trivial)))) (an (decide_eq_true h742) trivial)) (an e748 (an (decide_eq_true h749) (an (ti trivial) trivial)))) (ti trivial))
    ·have h2 := ih _ _ h
     obtain ⟨q, hv, hq⟩ := pkR (rd := none) (P := Try.prog) (fn := Try.f5) (k := 1) (s := (nspeculumlaw03_short_l1_1_h a1 x6)) (ans := [.reg (nN 4 []), .br true, .reg (arS1_9 a1 x6), .br false, .reg (nN 3 [])]) (c := ⟨[(1, none), (6, none)], [], []⟩) (e := .normal) (s1 := (nspeculumlaw03_short_l1_1_h a1 (w64 (x6 + 1)))) (an (an (an (ti (ti (ti (ti trivial)))) (an (decide_eq_true h742) trivial)) (an (an e748 (an (decide_eq_false h749) trivial)) (ti (ti (ti trivial))))) (ti trivial)) (by kernel_rfl)
     cases r with
     | inl r => exact round_next pm pn hv hq h2
     | inr r =>
      exact round_next pm pn hv hq h2
  ·injection h with h; subst h
   exact round_stop (c := ⟨[], [], []⟩) (s1 := (nspeculumlaw03_short_l1_1_e1 a1 ())) pm pn (ans := [.reg (nN 4 []), .br false]) (by kernel_rfl) (by intro e; cases e) (an (an (ti (ti (ti (ti trivial)))) (an (decide_eq_false h742) trivial)) (ti trivial))
def arS1_14  : List Ans := (nN 4 (nS 3 (.b false :: nN 4 (.b false :: .n :: nS 8 (.b true :: .n :: nS 3 (.b true :: []))))))
def arS1_15  : List Ans := (nN 4 (nS 3 (.b false :: nN 4 (.b false :: nN 8 (.b true :: .b false :: .n :: nS 3 (.b true :: []))))))
def arS1_16  : List Ans := (nN 4 (nS 3 (.b false :: nN 4 (.b false :: nN 8 (.b true :: .b false :: nN 4 (.b false :: []))))))
def nspeculumlaw03_short_l0_2_h (a0 : (List SGlassBatch)) (a1 : (List SGlassPromise)) (x5 : Int) : VS := ⟨mkA [(0, VV.tr (flatMap c_SGlassBatch a0) a0.length), (1, VV.tr (flatMap c_SGlassPromise a1) a1.length), (5, vi x5)], [], .nil⟩
def nspeculumlaw03_short_l0_2_e0 (a0 : (List SGlassBatch)) (a1 : (List SGlassPromise)) (r : Unit) : VS := ⟨mkA [(4, vb false)], [], .nil⟩
def nspeculumlaw03_short_l0_2_e1 (a0 : (List SGlassBatch)) (a1 : (List SGlassPromise)) (r : Unit) : VS := ⟨mkA [(1, VV.tr (flatMap c_SGlassPromise a1) a1.length)], [], .nil⟩
def nspeculumlaw03_short_l0_2 (k : Nat) (a0 : (List SGlassBatch)) (a1 : (List SGlassPromise)) : Nat -> Int -> Option (Sum Unit Unit)
 | 0, _ => none
 | fuel + 1, x5 => if x5 < (a0.length : Int) then (if 0 <= x5 /\ x5 < (a0.length : Int) then (if 30 < (((a0.getD x5.toNat default).Name).size : Int) then (some (.inl ())) else (nspeculumlaw03_short_l0_2 k a0 a1 fuel (w64 (x5 + 1)))) else none) else (some (.inr ()))
theorem nspeculumlaw03_short_l0_2_ok (k : Nat) (a0 : (List SGlassBatch)) (a1 : (List SGlassPromise)) : ∀ (fuel : Nat) (x5 : Int) (r : Sum Unit Unit), nspeculumlaw03_short_l0_2 k a0 a1 fuel x5 = some r -> (match r with | .inl r => VLoop none Try.prog (szF Try.f5) (bodyOf Try.f5 0) (nspeculumlaw03_short_l0_2_h a0 a1 x5) .ret (nspeculumlaw03_short_l0_2_e0 a0 a1 r) | .inr r => VLoop none Try.prog (szF Try.f5) (bodyOf Try.f5 0) (nspeculumlaw03_short_l0_2_h a0 a1 x5) (.exit 0) (nspeculumlaw03_short_l0_2_e1 a0 a1 r)) := by
 intro fuel
 induction fuel with
 | zero => intro x5 r h; rw [nspeculumlaw03_short_l0_2.eq_1] at h; cases h
 | succ fuel ih =>
  intro x5 r h
  rw [nspeculumlaw03_short_l0_2.eq_2] at h
  rcases ifs h with ⟨h774, h⟩ | ⟨h774, h⟩
  ·obtain ⟨h775, h⟩ := ifn h
   have e776 := (show loadL Try.prog 9 (x5.toNat * 4 + 0) (flatMap c_SGlassBatch a0) = some (vs ((a0.getD x5.toNat default).Name)) from (ld_flat ag9 c_SGlassBatch 4 0 len_c_SGlassBatch (by omega) a0 default h775 (by omega)).trans rfl)
   have e777 := (ti (ti (an h775 (ti (an e776 (ti (ti trivial)))))))
   rcases ifs h with ⟨h778, h⟩ | ⟨h778, h⟩
   ·injection h with h; subst h
    exact round_stop (c := ⟨[(4, none)], [], []⟩) (s1 := (nspeculumlaw03_short_l0_2_e0 a0 a1 ())) pm pn (ans := [.reg (nN 4 []), .br true, .reg (nN 4 (.v (vs ((a0.getD x5.toNat default).Name)) :: .n :: .n :: [])), .br true, .reg (.n :: [])]) (by kernel_rfl) (by intro e; cases e) (an (an (an (ti (ti (ti (ti trivial)))) (an (decide_eq_true h774) trivial)) (an e777 (an (decide_eq_true h778) (an (ti trivial) trivial)))) (ti trivial))
   ·have h2 := ih _ _ h
    obtain ⟨q, hv, hq⟩ := pkR (rd := none) (P := Try.prog) (fn := Try.f5) (k := 0) (s := (nspeculumlaw03_short_l0_2_h a0 a1 x5)) (ans := [.reg (nN 4 []), .br true, .reg (nN 4 (.v (vs ((a0.getD x5.toNat default).Name)) :: .n :: .n :: [])), .br false, .reg (nN 3 [])]) (c := ⟨[(0, none), (1, none), (5, none)], [], []⟩) (e := .normal) (s1 := (nspeculumlaw03_short_l0_2_h a0 a1 (w64 (x5 + 1)))) (an (an (an (ti (ti (ti (ti trivial)))) (an (decide_eq_true h774) trivial)) (an (an e777 (an (decide_eq_false h778) trivial)) (ti (ti (ti trivial))))) (ti trivial)) (by kernel_rfl)
    cases r with
    | inl r => exact round_next pm pn hv hq h2
    | inr r =>
     exact round_next pm pn hv hq h2
  ·injection h with h; subst h
   exact round_stop (c := ⟨[(1, none)], [], []⟩) (s1 := (nspeculumlaw03_short_l0_2_e1 a0 a1 ())) pm pn (ans := [.reg (nN 4 []), .br false]) (by kernel_rfl) (by intro e; cases e) (an (an (ti (ti (ti (ti trivial)))) (an (decide_eq_false h774) trivial)) (ti trivial))
def nspeculumlaw03_short_l1_2_h (a1 : (List SGlassPromise)) (x6 : Int) : VS := ⟨mkA [(1, VV.tr (flatMap c_SGlassPromise a1) a1.length), (6, vi x6)], [], .nil⟩
def nspeculumlaw03_short_l1_2_e0 (a1 : (List SGlassPromise)) (r : Unit) : VS := ⟨mkA [(4, vb false)], [], .nil⟩
def nspeculumlaw03_short_l1_2_e1 (a1 : (List SGlassPromise)) (r : Unit) : VS := ⟨mkA [], [], .nil⟩
def nspeculumlaw03_short_l1_2 (k : Nat) (a1 : (List SGlassPromise)) : Nat -> Int -> Option (Sum Unit Unit)
 | 0, _ => none
 | fuel + 1, x6 => if x6 < (a1.length : Int) then (if 0 <= x6 /\ x6 < (a1.length : Int) then (if 30 < (((a1.getD x6.toNat default).Mirror).size : Int) then (some (.inl ())) else (if 30 < (((a1.getD x6.toNat default).Batch).size : Int) then (some (.inl ())) else (nspeculumlaw03_short_l1_2 k a1 fuel (w64 (x6 + 1))))) else none) else (some (.inr ()))
theorem nspeculumlaw03_short_l1_2_ok (k : Nat) (a1 : (List SGlassPromise)) : ∀ (fuel : Nat) (x6 : Int) (r : Sum Unit Unit), nspeculumlaw03_short_l1_2 k a1 fuel x6 = some r -> (match r with | .inl r => VLoop none Try.prog (szF Try.f5) (bodyOf Try.f5 1) (nspeculumlaw03_short_l1_2_h a1 x6) .ret (nspeculumlaw03_short_l1_2_e0 a1 r) | .inr r => VLoop none Try.prog (szF Try.f5) (bodyOf Try.f5 1) (nspeculumlaw03_short_l1_2_h a1 x6) (.exit 2) (nspeculumlaw03_short_l1_2_e1 a1 r)) := by
 intro fuel
 induction fuel with
 | zero => intro x6 r h; rw [nspeculumlaw03_short_l1_2.eq_1] at h; cases h
 | succ fuel ih =>
  intro x6 r h
  rw [nspeculumlaw03_short_l1_2.eq_2] at h
  rcases ifs h with ⟨h801, h⟩ | ⟨h801, h⟩
  ·obtain ⟨h802, h⟩ := ifn h
   have e803 := (show loadL Try.prog 9 (x6.toNat * 2 + 0) (flatMap c_SGlassPromise a1) = some (vs ((a1.getD x6.toNat default).Mirror)) from (ld_flat ag9 c_SGlassPromise 2 0 len_c_SGlassPromise (by omega) a1 default h802 (by omega)).trans rfl)
   rcases ifs h with ⟨h804, h⟩ | ⟨h804, h⟩
   ·have e805 := (ti (ti (an h802 (ti (an e803 (ti (ti (ti (an (decide_eq_true h804) (an (decide_eq_true h804) (an (decide_eq_true h804) (an (decide_eq_true h804) (an (decide_eq_true h804) (an (decide_eq_true h804) (an (decide_eq_true h804) (an (decide_eq_true h804) trivial))))))))))))))))
    injection h with h; subst h
    exact round_stop (c := ⟨[(4, none)], [], []⟩) (s1 := (nspeculumlaw03_short_l1_2_e0 a1 ())) pm pn (ans := [.reg (nN 4 []), .br true, .reg (nN 4 (.v (vs ((a1.getD x6.toNat default).Mirror)) :: nN 3 (nS 7 (.b true :: [])))), .br true, .reg (.n :: [])]) (by kernel_rfl) (by intro e; cases e) (an (an (an (ti (ti (ti (ti trivial)))) (an (decide_eq_true h801) trivial)) (an e805 (an rt (an (ti trivial) trivial)))) (ti trivial))
   ·have e806 := (an (decide_eq_false h804) (show loadL Try.prog 9 (x6.toNat * 2 + 1) (flatMap c_SGlassPromise a1) = some (vs ((a1.getD x6.toNat default).Batch)) from (ld_flat ag9 c_SGlassPromise 2 1 len_c_SGlassPromise (by omega) a1 default h802 (by omega)).trans rfl))
    have e807 := (ti (ti (an h802 (ti (an e803 (ti (ti (ti (an (an (decide_eq_false h804) trivial) (an (an (decide_eq_false h804) trivial) (an (an (decide_eq_false h804) h802) (an (an (decide_eq_false h804) trivial) (an e806 (an (an (decide_eq_false h804) trivial) (an (an (decide_eq_false h804) trivial) (an (decide_eq_false h804) trivial))))))))))))))))
    rcases ifs h with ⟨h808, h⟩ | ⟨h808, h⟩
    ·injection h with h; subst h
     exact round_stop (c := ⟨[(4, none)], [], []⟩) (s1 := (nspeculumlaw03_short_l1_2_e0 a1 ())) pm pn (ans := [.reg (nN 4 []), .br true, .reg (arS1_9 a1 x6), .br true, .reg (.n :: [])]) (by kernel_rfl) (by intro e; cases e) (an (an (an (ti (ti (ti (ti trivial)))) (an (decide_eq_true h801) trivial)) (an e807 (an (decide_eq_true h808) (an (ti trivial) trivial)))) (ti trivial))
    ·have h2 := ih _ _ h
     obtain ⟨q, hv, hq⟩ := pkR (rd := none) (P := Try.prog) (fn := Try.f5) (k := 1) (s := (nspeculumlaw03_short_l1_2_h a1 x6)) (ans := [.reg (nN 4 []), .br true, .reg (arS1_9 a1 x6), .br false, .reg (nN 3 [])]) (c := ⟨[(1, none), (6, none)], [], []⟩) (e := .normal) (s1 := (nspeculumlaw03_short_l1_2_h a1 (w64 (x6 + 1)))) (an (an (an (ti (ti (ti (ti trivial)))) (an (decide_eq_true h801) trivial)) (an (an e807 (an (decide_eq_false h808) trivial)) (ti (ti (ti trivial))))) (ti trivial)) (by kernel_rfl)
     cases r with
     | inl r => exact round_next pm pn hv hq h2
     | inr r =>
      exact round_next pm pn hv hq h2
  ·injection h with h; subst h
   exact round_stop (c := ⟨[], [], []⟩) (s1 := (nspeculumlaw03_short_l1_2_e1 a1 ())) pm pn (ans := [.reg (nN 4 []), .br false]) (by kernel_rfl) (by intro e; cases e) (an (an (ti (ti (ti (ti trivial)))) (an (decide_eq_false h801) trivial)) (ti trivial))
def arS1_17  : List Ans := (nN 4 (nS 3 (.b false :: nN 4 (.b false :: nN 5 (nS 3 (.b false :: .b false :: nN 4 (.b false :: [])))))))
def nspeculumlaw03_short_l0_3_h (a0 : (List SGlassBatch)) (a1 : (List SGlassPromise)) (x5 : Int) : VS := ⟨mkA [(0, VV.tr (flatMap c_SGlassBatch a0) a0.length), (1, VV.tr (flatMap c_SGlassPromise a1) a1.length), (5, vi x5)], [], .nil⟩
def nspeculumlaw03_short_l0_3_e0 (a0 : (List SGlassBatch)) (a1 : (List SGlassPromise)) (r : Unit) : VS := ⟨mkA [(4, vb false)], [], .nil⟩
def nspeculumlaw03_short_l0_3_e1 (a0 : (List SGlassBatch)) (a1 : (List SGlassPromise)) (r : Unit) : VS := ⟨mkA [(1, VV.tr (flatMap c_SGlassPromise a1) a1.length)], [], .nil⟩
def nspeculumlaw03_short_l0_3 (k : Nat) (a0 : (List SGlassBatch)) (a1 : (List SGlassPromise)) : Nat -> Int -> Option (Sum Unit Unit)
 | 0, _ => none
 | fuel + 1, x5 => if x5 < (a0.length : Int) then (if 0 <= x5 /\ x5 < (a0.length : Int) then (if 30 < (((a0.getD x5.toNat default).Name).size : Int) then (some (.inl ())) else (nspeculumlaw03_short_l0_3 k a0 a1 fuel (w64 (x5 + 1)))) else none) else (some (.inr ()))
theorem nspeculumlaw03_short_l0_3_ok (k : Nat) (a0 : (List SGlassBatch)) (a1 : (List SGlassPromise)) : ∀ (fuel : Nat) (x5 : Int) (r : Sum Unit Unit), nspeculumlaw03_short_l0_3 k a0 a1 fuel x5 = some r -> (match r with | .inl r => VLoop none Try.prog (szF Try.f5) (bodyOf Try.f5 0) (nspeculumlaw03_short_l0_3_h a0 a1 x5) .ret (nspeculumlaw03_short_l0_3_e0 a0 a1 r) | .inr r => VLoop none Try.prog (szF Try.f5) (bodyOf Try.f5 0) (nspeculumlaw03_short_l0_3_h a0 a1 x5) (.exit 0) (nspeculumlaw03_short_l0_3_e1 a0 a1 r)) := by
 intro fuel
 induction fuel with
 | zero => intro x5 r h; rw [nspeculumlaw03_short_l0_3.eq_1] at h; cases h
 | succ fuel ih =>
  intro x5 r h
  rw [nspeculumlaw03_short_l0_3.eq_2] at h
  rcases ifs h with ⟨h828, h⟩ | ⟨h828, h⟩
  ·obtain ⟨h829, h⟩ := ifn h
   have e830 := (show loadL Try.prog 9 (x5.toNat * 4 + 0) (flatMap c_SGlassBatch a0) = some (vs ((a0.getD x5.toNat default).Name)) from (ld_flat ag9 c_SGlassBatch 4 0 len_c_SGlassBatch (by omega) a0 default h829 (by omega)).trans rfl)
   have e831 := (ti (ti (an h829 (ti (an e830 (ti (ti trivial)))))))
   rcases ifs h with ⟨h832, h⟩ | ⟨h832, h⟩
   ·injection h with h; subst h
    exact round_stop (c := ⟨[(4, none)], [], []⟩) (s1 := (nspeculumlaw03_short_l0_3_e0 a0 a1 ())) pm pn (ans := [.reg (nN 4 []), .br true, .reg (nN 4 (.v (vs ((a0.getD x5.toNat default).Name)) :: .n :: .n :: [])), .br true, .reg (.n :: [])]) (by kernel_rfl) (by intro e; cases e) (an (an (an (ti (ti (ti (ti trivial)))) (an (decide_eq_true h828) trivial)) (an e831 (an (decide_eq_true h832) (an (ti trivial) trivial)))) (ti trivial))
   ·have h2 := ih _ _ h
    obtain ⟨q, hv, hq⟩ := pkR (rd := none) (P := Try.prog) (fn := Try.f5) (k := 0) (s := (nspeculumlaw03_short_l0_3_h a0 a1 x5)) (ans := [.reg (nN 4 []), .br true, .reg (nN 4 (.v (vs ((a0.getD x5.toNat default).Name)) :: .n :: .n :: [])), .br false, .reg (nN 3 [])]) (c := ⟨[(0, none), (1, none), (5, none)], [], []⟩) (e := .normal) (s1 := (nspeculumlaw03_short_l0_3_h a0 a1 (w64 (x5 + 1)))) (an (an (an (ti (ti (ti (ti trivial)))) (an (decide_eq_true h828) trivial)) (an (an e831 (an (decide_eq_false h832) trivial)) (ti (ti (ti trivial))))) (ti trivial)) (by kernel_rfl)
    cases r with
    | inl r => exact round_next pm pn hv hq h2
    | inr r =>
     exact round_next pm pn hv hq h2
  ·injection h with h; subst h
   exact round_stop (c := ⟨[(1, none)], [], []⟩) (s1 := (nspeculumlaw03_short_l0_3_e1 a0 a1 ())) pm pn (ans := [.reg (nN 4 []), .br false]) (by kernel_rfl) (by intro e; cases e) (an (an (ti (ti (ti (ti trivial)))) (an (decide_eq_false h828) trivial)) (ti trivial))
def nspeculumlaw03_short_l1_3_h (a1 : (List SGlassPromise)) (x6 : Int) : VS := ⟨mkA [(1, VV.tr (flatMap c_SGlassPromise a1) a1.length), (6, vi x6)], [], .nil⟩
def nspeculumlaw03_short_l1_3_e0 (a1 : (List SGlassPromise)) (r : Unit) : VS := ⟨mkA [(4, vb false)], [], .nil⟩
def nspeculumlaw03_short_l1_3_e1 (a1 : (List SGlassPromise)) (r : Unit) : VS := ⟨mkA [], [], .nil⟩
def nspeculumlaw03_short_l1_3 (k : Nat) (a1 : (List SGlassPromise)) : Nat -> Int -> Option (Sum Unit Unit)
 | 0, _ => none
 | fuel + 1, x6 => if x6 < (a1.length : Int) then (if 0 <= x6 /\ x6 < (a1.length : Int) then (if 30 < (((a1.getD x6.toNat default).Mirror).size : Int) then (some (.inl ())) else (if 30 < (((a1.getD x6.toNat default).Batch).size : Int) then (some (.inl ())) else (nspeculumlaw03_short_l1_3 k a1 fuel (w64 (x6 + 1))))) else none) else (some (.inr ()))
theorem nspeculumlaw03_short_l1_3_ok (k : Nat) (a1 : (List SGlassPromise)) : ∀ (fuel : Nat) (x6 : Int) (r : Sum Unit Unit), nspeculumlaw03_short_l1_3 k a1 fuel x6 = some r -> (match r with | .inl r => VLoop none Try.prog (szF Try.f5) (bodyOf Try.f5 1) (nspeculumlaw03_short_l1_3_h a1 x6) .ret (nspeculumlaw03_short_l1_3_e0 a1 r) | .inr r => VLoop none Try.prog (szF Try.f5) (bodyOf Try.f5 1) (nspeculumlaw03_short_l1_3_h a1 x6) (.exit 2) (nspeculumlaw03_short_l1_3_e1 a1 r)) := by
 intro fuel
 induction fuel with
 | zero => intro x6 r h; rw [nspeculumlaw03_short_l1_3.eq_1] at h; cases h
 | succ fuel ih =>
  intro x6 r h
  rw [nspeculumlaw03_short_l1_3.eq_2] at h
  rcases ifs h with ⟨h855, h⟩ | ⟨h855, h⟩
  ·obtain ⟨h856, h⟩ := ifn h
   have e857 := (show loadL Try.prog 9 (x6.toNat * 2 + 0) (flatMap c_SGlassPromise a1) = some (vs ((a1.getD x6.toNat default).Mirror)) from (ld_flat ag9 c_SGlassPromise 2 0 len_c_SGlassPromise (by omega) a1 default h856 (by omega)).trans rfl)
   rcases ifs h with ⟨h858, h⟩ | ⟨h858, h⟩
   ·have e859 := (ti (ti (an h856 (ti (an e857 (ti (ti (ti (an (decide_eq_true h858) (an (decide_eq_true h858) (an (decide_eq_true h858) (an (decide_eq_true h858) (an (decide_eq_true h858) (an (decide_eq_true h858) (an (decide_eq_true h858) (an (decide_eq_true h858) trivial))))))))))))))))
    injection h with h; subst h
    exact round_stop (c := ⟨[(4, none)], [], []⟩) (s1 := (nspeculumlaw03_short_l1_3_e0 a1 ())) pm pn (ans := [.reg (nN 4 []), .br true, .reg (nN 4 (.v (vs ((a1.getD x6.toNat default).Mirror)) :: nN 3 (nS 7 (.b true :: [])))), .br true, .reg (.n :: [])]) (by kernel_rfl) (by intro e; cases e) (an (an (an (ti (ti (ti (ti trivial)))) (an (decide_eq_true h855) trivial)) (an e859 (an rt (an (ti trivial) trivial)))) (ti trivial))
   ·have e860 := (an (decide_eq_false h858) (show loadL Try.prog 9 (x6.toNat * 2 + 1) (flatMap c_SGlassPromise a1) = some (vs ((a1.getD x6.toNat default).Batch)) from (ld_flat ag9 c_SGlassPromise 2 1 len_c_SGlassPromise (by omega) a1 default h856 (by omega)).trans rfl))
    have e861 := (ti (ti (an h856 (ti (an e857 (ti (ti (ti (an (an (decide_eq_false h858) trivial) (an (an (decide_eq_false h858) trivial) (an (an (decide_eq_false h858) h856) (an (an (decide_eq_false h858) trivial) (an e860 (an (an (decide_eq_false h858) trivial) (an (an (decide_eq_false h858) trivial) (an (decide_eq_false h858) trivial))))))))))))))))
    rcases ifs h with ⟨h862, h⟩ | ⟨h862, h⟩
    ·injection h with h; subst h
     exact round_stop (c := ⟨[(4, none)], [], []⟩) (s1 := (nspeculumlaw03_short_l1_3_e0 a1 ())) pm pn (ans := [.reg (nN 4 []), .br true, .reg (arS1_9 a1 x6), .br true, .reg (.n :: [])]) (by kernel_rfl) (by intro e; cases e) (an (an (an (ti (ti (ti (ti trivial)))) (an (decide_eq_true h855) trivial)) (an e861 (an (decide_eq_true h862) (an (ti trivial) trivial)))) (ti trivial))
    ·have h2 := ih _ _ h
     obtain ⟨q, hv, hq⟩ := pkR (rd := none) (P := Try.prog) (fn := Try.f5) (k := 1) (s := (nspeculumlaw03_short_l1_3_h a1 x6)) (ans := [.reg (nN 4 []), .br true, .reg (arS1_9 a1 x6), .br false, .reg (nN 3 [])]) (c := ⟨[(1, none), (6, none)], [], []⟩) (e := .normal) (s1 := (nspeculumlaw03_short_l1_3_h a1 (w64 (x6 + 1)))) (an (an (an (ti (ti (ti (ti trivial)))) (an (decide_eq_true h855) trivial)) (an (an e861 (an (decide_eq_false h862) trivial)) (ti (ti (ti trivial))))) (ti trivial)) (by kernel_rfl)
     cases r with
     | inl r => exact round_next pm pn hv hq h2
     | inr r =>
      exact round_next pm pn hv hq h2
  ·injection h with h; subst h
   exact round_stop (c := ⟨[], [], []⟩) (s1 := (nspeculumlaw03_short_l1_3_e1 a1 ())) pm pn (ans := [.reg (nN 4 []), .br false]) (by kernel_rfl) (by intro e; cases e) (an (an (ti (ti (ti (ti trivial)))) (an (decide_eq_false h855) trivial)) (ti trivial))
def nspeculumlaw03_short (k : Nat) (a0 : (List SGlassBatch)) (a1 : (List SGlassPromise)) : Option Bool :=
 if 6 < (a0.length : Int) then (if (a0.length : Int) <= 40 then (some false) else (if 43 < (a0.length : Int) then (some false) else (if 10 < (a1.length : Int) then (if (a1.length : Int) <= 200 then (some false) else (if 203 < (a1.length : Int) then (some false) else ((nspeculumlaw03_short_l0_0 k a0 a1 k 0).bind fun r667 => (match r667 with | .inl r668 => (some false) | .inr r669 => ((nspeculumlaw03_short_l1_0 k a1 k 0).bind fun r697 => (match r697 with | .inl r698 => (some false) | .inr r699 => (some true))))))) else (if 203 < (a1.length : Int) then (some false) else ((nspeculumlaw03_short_l0_1 k a0 a1 k 0).bind fun r721 => (match r721 with | .inl r722 => (some false) | .inr r723 => ((nspeculumlaw03_short_l1_1 k a1 k 0).bind fun r751 => (match r751 with | .inl r752 => (some false) | .inr r753 => (some true))))))))) else (if 43 < (a0.length : Int) then (some false) else (if 10 < (a1.length : Int) then (if (a1.length : Int) <= 200 then (some false) else (if 203 < (a1.length : Int) then (some false) else ((nspeculumlaw03_short_l0_2 k a0 a1 k 0).bind fun r780 => (match r780 with | .inl r781 => (some false) | .inr r782 => ((nspeculumlaw03_short_l1_2 k a1 k 0).bind fun r810 => (match r810 with | .inl r811 => (some false) | .inr r812 => (some true))))))) else (if 203 < (a1.length : Int) then (some false) else ((nspeculumlaw03_short_l0_3 k a0 a1 k 0).bind fun r834 => (match r834 with | .inl r835 => (some false) | .inr r836 => ((nspeculumlaw03_short_l1_3 k a1 k 0).bind fun r864 => (match r864 with | .inl r865 => (some false) | .inr r866 => (some true))))))))
theorem nspeculumlaw03_short_ok (k : Nat) (a0 : (List SGlassBatch)) (a1 : (List SGlassPromise)) (r : Bool) (h : nspeculumlaw03_short k a0 a1 = some r) : VC Try.prog 5 [VV.tr (flatMap c_SGlassBatch a0) a0.length, VV.tr (flatMap c_SGlassPromise a1) a1.length] (vb r) := by
 unfold nspeculumlaw03_short at h
 rcases ifs h with ⟨h640, h⟩ | ⟨h640, h⟩
 ·rcases ifs h with ⟨h641, h⟩ | ⟨h641, h⟩
  ·have e642 := (ti (ti (ti (ti (an (an (decide_eq_true h640) trivial) (an (an (decide_eq_true h640) trivial) (an (an (decide_eq_true h640) trivial) (an (decide_eq_true h640) (ti (an (decide_eq_true h641) (an (decide_eq_true h641) (an (decide_eq_true h641) (an (decide_eq_true h641) (ti (an rt (an rt (an rt (an rt (ti (ti (ti (an rt (an rt (ti (an rt (an rt (an rt (an rt trivial))))))))))))))))))))))))))))
   injection h with h; subst h
   exact fun_ok pm pn Try.func5 (r0 := vb false) (ans := [.reg (.n :: []), .reg arS1_10, .br true, .reg (.n :: [])]) (fr := true) (by kernel_rfl) (an (an (ti trivial) (an e642 (an rt (an (ti trivial) trivial)))) (ti trivial)) (Wv.refl _)
  ·rcases ifs h with ⟨h643, h⟩ | ⟨h643, h⟩
   ·have e644 := (ti (ti (ti (ti (an (an (decide_eq_true h640) trivial) (an (an (decide_eq_true h640) trivial) (an (an (decide_eq_true h640) trivial) (an (decide_eq_true h640) (ti (an (an (decide_eq_false h641) trivial) (an (an (decide_eq_false h641) trivial) (an (an (decide_eq_false h641) trivial) (an (decide_eq_false h641) (ti (an (decide_eq_true h643) (an (decide_eq_true h643) (an (decide_eq_true h643) (an (decide_eq_true h643) (ti (ti (ti (an (decide_eq_true h643) (an (decide_eq_true h643) (ti (an rt (an rt (an rt (an rt trivial))))))))))))))))))))))))))))
    injection h with h; subst h
    exact fun_ok pm pn Try.func5 (r0 := vb false) (ans := [.reg (.n :: []), .reg (nN 7 (.b true :: nN 4 (.b false :: .n :: nS 8 (.b true :: .n :: nS 3 (.b true :: []))))), .br true, .reg (.n :: [])]) (fr := true) (by kernel_rfl) (an (an (ti trivial) (an e644 (an rt (an (ti trivial) trivial)))) (ti trivial)) (Wv.refl _)
   ·rcases ifs h with ⟨h645, h⟩ | ⟨h645, h⟩
    ·have e646 := (an (decide_eq_false h643) (decide_eq_true h645))
     rcases ifs h with ⟨h647, h⟩ | ⟨h647, h⟩
     ·have e648 := (ti (ti (ti (ti (an (an (decide_eq_true h640) trivial) (an (an (decide_eq_true h640) trivial) (an (an (decide_eq_true h640) trivial) (an (decide_eq_true h640) (ti (an (an (decide_eq_false h641) trivial) (an (an (decide_eq_false h641) trivial) (an (an (decide_eq_false h641) trivial) (an (decide_eq_false h641) (ti (an (an (decide_eq_false h643) trivial) (an (an (decide_eq_false h643) trivial) (an (an (decide_eq_false h643) trivial) (an (an (decide_eq_false h643) trivial) (an (an (decide_eq_true h645) trivial) (an (an (decide_eq_true h645) trivial) (an (an (decide_eq_true h645) trivial) (an e646 (an (decide_eq_false h643) (ti (an (decide_eq_true h647) (an (decide_eq_true h647) (an (decide_eq_true h647) (an (decide_eq_true h647) trivial))))))))))))))))))))))))))))
      injection h with h; subst h
      exact fun_ok pm pn Try.func5 (r0 := vb false) (ans := [.reg (.n :: []), .reg arS1_11, .br true, .reg (.n :: [])]) (fr := true) (by kernel_rfl) (an (an (ti trivial) (an e648 (an rt (an (ti trivial) trivial)))) (ti trivial)) (Wv.refl _)
     ·have e649 := (ti (ti (ti (ti (an (an (decide_eq_true h640) trivial) (an (an (decide_eq_true h640) trivial) (an (an (decide_eq_true h640) trivial) (an (decide_eq_true h640) (ti (an (an (decide_eq_false h641) trivial) (an (an (decide_eq_false h641) trivial) (an (an (decide_eq_false h641) trivial) (an (decide_eq_false h641) (ti (an (an (decide_eq_false h643) trivial) (an (an (decide_eq_false h643) trivial) (an (an (decide_eq_false h643) trivial) (an (an (decide_eq_false h643) trivial) (an (an (decide_eq_true h645) trivial) (an (an (decide_eq_true h645) trivial) (an (an (decide_eq_true h645) trivial) (an e646 (an (decide_eq_false h643) (ti (an (an (decide_eq_false h647) trivial) (an (an (decide_eq_false h647) trivial) (an (an (decide_eq_false h647) trivial) (an (decide_eq_false h647) trivial))))))))))))))))))))))))))))
      rcases ifs h with ⟨h650, h⟩ | ⟨h650, h⟩
      ·injection h with h; subst h
       exact fun_ok pm pn Try.func5 (r0 := vb false) (ans := [.reg (.n :: []), .reg arS1_12, .br true, .reg (.n :: [])]) (fr := true) (by kernel_rfl) (an (an (ti trivial) (an e649 (an (decide_eq_true h650) (an (ti trivial) trivial)))) (ti trivial)) (Wv.refl _)
      ·obtain ⟨r667, h666, h⟩ := bs h
       have hph666 := nspeculumlaw03_short_l0_0_ok k a0 a1 _ _ _ h666
       cases r667 with
       | inl r668 =>
        dsimp only at h
        have e670 := (an (ti trivial) (VRun.loop hph666))
        injection h with h; subst h
        exact fun_ok pm pn Try.func5 (r0 := vb false) (ans := [.reg (.n :: []), .reg arS1_12, .br false, .reg (.n :: []), .sub ⟨[(0, none), (1, none), (5, none)], [], []⟩ .ret (nspeculumlaw03_short_l0_0_e0 a0 a1 r668)]) (fr := true) (by kernel_rfl) (an (an (ti trivial) (an (an e649 (an (decide_eq_false h650) trivial)) (an (ti trivial) e670))) (ti trivial)) (Wv.refl _)
       | inr r669 =>
        dsimp only at h
        have e671 := (an (ti trivial) (VRun.loop hph666))
        obtain ⟨r697, h696, h⟩ := bs h
        have hph696 := nspeculumlaw03_short_l1_0_ok k a1 _ _ _ h696
        cases r697 with
        | inl r698 =>
         dsimp only at h
         have e700 := (an (ti trivial) (VRun.loop hph696))
         injection h with h; subst h
         exact fun_ok pm pn Try.func5 (r0 := vb false) (ans := [.reg (.n :: []), .reg arS1_12, .br false, .reg (.n :: []), .sub ⟨[(0, none), (1, none), (5, none)], [], []⟩ (.exit 0) (nspeculumlaw03_short_l0_0_e1 a0 a1 r669), .reg (.n :: []), .sub ⟨[(1, none), (6, none)], [], []⟩ .ret (nspeculumlaw03_short_l1_0_e0 a1 r698)]) (fr := true) (by kernel_rfl) (an (an (ti trivial) (an (an e649 (an (decide_eq_false h650) trivial)) (an (an (ti trivial) e671) (an (ti trivial) e700)))) (ti trivial)) (Wv.refl _)
        | inr r699 =>
         dsimp only at h
         have e701 := (an (ti trivial) (VRun.loop hph696))
         injection h with h; subst h
         exact fun_ok pm pn Try.func5 (r0 := vb true) (ans := [.reg (.n :: []), .reg arS1_12, .br false, .reg (.n :: []), .sub ⟨[(0, none), (1, none), (5, none)], [], []⟩ (.exit 0) (nspeculumlaw03_short_l0_0_e1 a0 a1 r669), .reg (.n :: []), .sub ⟨[(1, none), (6, none)], [], []⟩ (.exit 2) (nspeculumlaw03_short_l1_0_e1 a1 r699), .reg (.n :: [])]) (fr := true) (by kernel_rfl) (an (an (ti trivial) (an (an e649 (an (decide_eq_false h650) trivial)) (an (an (ti trivial) e671) (an (an (ti trivial) e701) (an (ti trivial) trivial))))) (ti trivial)) (Wv.refl _)
    ·have e702 := (an (decide_eq_false h643) (decide_eq_false h645))
     have e703 := (ti (ti (ti (ti (an (an (decide_eq_true h640) trivial) (an (an (decide_eq_true h640) trivial) (an (an (decide_eq_true h640) trivial) (an (decide_eq_true h640) (ti (an (an (decide_eq_false h641) trivial) (an (an (decide_eq_false h641) trivial) (an (an (decide_eq_false h641) trivial) (an (decide_eq_false h641) (ti (an (an (decide_eq_false h643) trivial) (an (an (decide_eq_false h643) trivial) (an (an (decide_eq_false h643) trivial) (an (an (decide_eq_false h643) trivial) (an (decide_eq_false h645) (an (decide_eq_false h645) (an (decide_eq_false h645) (an e702 (an (decide_eq_false h643) (ti (an (an rf trivial) (an (an rf trivial) (an (an rf trivial) (an rf trivial))))))))))))))))))))))))))))
     rcases ifs h with ⟨h704, h⟩ | ⟨h704, h⟩
     ·injection h with h; subst h
      exact fun_ok pm pn Try.func5 (r0 := vb false) (ans := [.reg (.n :: []), .reg arS1_13, .br true, .reg (.n :: [])]) (fr := true) (by kernel_rfl) (an (an (ti trivial) (an e703 (an (decide_eq_true h704) (an (ti trivial) trivial)))) (ti trivial)) (Wv.refl _)
     ·obtain ⟨r721, h720, h⟩ := bs h
      have hph720 := nspeculumlaw03_short_l0_1_ok k a0 a1 _ _ _ h720
      cases r721 with
      | inl r722 =>
       dsimp only at h
       have e724 := (an (ti trivial) (VRun.loop hph720))
       injection h with h; subst h
       exact fun_ok pm pn Try.func5 (r0 := vb false) (ans := [.reg (.n :: []), .reg arS1_13, .br false, .reg (.n :: []), .sub ⟨[(0, none), (1, none), (5, none)], [], []⟩ .ret (nspeculumlaw03_short_l0_1_e0 a0 a1 r722)]) (fr := true) (by kernel_rfl) (an (an (ti trivial) (an (an e703 (an (decide_eq_false h704) trivial)) (an (ti trivial) e724))) (ti trivial)) (Wv.refl _)
      | inr r723 =>
       dsimp only at h
       have e725 := (an (ti trivial) (VRun.loop hph720))
       obtain ⟨r751, h750, h⟩ := bs h
       have hph750 := nspeculumlaw03_short_l1_1_ok k a1 _ _ _ h750
       cases r751 with
       | inl r752 =>
        dsimp only at h
        have e754 := (an (ti trivial) (VRun.loop hph750))
        injection h with h; subst h
        exact fun_ok pm pn Try.func5 (r0 := vb false) (ans := [.reg (.n :: []), .reg arS1_13, .br false, .reg (.n :: []), .sub ⟨[(0, none), (1, none), (5, none)], [], []⟩ (.exit 0) (nspeculumlaw03_short_l0_1_e1 a0 a1 r723), .reg (.n :: []), .sub ⟨[(1, none), (6, none)], [], []⟩ .ret (nspeculumlaw03_short_l1_1_e0 a1 r752)]) (fr := true) (by kernel_rfl) (an (an (ti trivial) (an (an e703 (an (decide_eq_false h704) trivial)) (an (an (ti trivial) e725) (an (ti trivial) e754)))) (ti trivial)) (Wv.refl _)
       | inr r753 =>
        dsimp only at h
        have e755 := (an (ti trivial) (VRun.loop hph750))
        injection h with h; subst h
        exact fun_ok pm pn Try.func5 (r0 := vb true) (ans := [.reg (.n :: []), .reg arS1_13, .br false, .reg (.n :: []), .sub ⟨[(0, none), (1, none), (5, none)], [], []⟩ (.exit 0) (nspeculumlaw03_short_l0_1_e1 a0 a1 r723), .reg (.n :: []), .sub ⟨[(1, none), (6, none)], [], []⟩ (.exit 2) (nspeculumlaw03_short_l1_1_e1 a1 r753), .reg (.n :: [])]) (fr := true) (by kernel_rfl) (an (an (ti trivial) (an (an e703 (an (decide_eq_false h704) trivial)) (an (an (ti trivial) e725) (an (an (ti trivial) e755) (an (ti trivial) trivial))))) (ti trivial)) (Wv.refl _)
 ·rcases ifs h with ⟨h756, h⟩ | ⟨h756, h⟩
  ·have e757 := (ti (ti (ti (ti (an (decide_eq_false h640) (an (decide_eq_false h640) (an (decide_eq_false h640) (an (decide_eq_false h640) (ti (an (an rf trivial) (an (an rf trivial) (an (an rf trivial) (an rf (ti (an (decide_eq_true h756) (an (decide_eq_true h756) (an (decide_eq_true h756) (an (decide_eq_true h756) (ti (ti (ti (an (decide_eq_true h756) (an (decide_eq_true h756) (ti (an rt (an rt (an rt (an rt trivial))))))))))))))))))))))))))))
   injection h with h; subst h
   exact fun_ok pm pn Try.func5 (r0 := vb false) (ans := [.reg (.n :: []), .reg arS1_14, .br true, .reg (.n :: [])]) (fr := true) (by kernel_rfl) (an (an (ti trivial) (an e757 (an rt (an (ti trivial) trivial)))) (ti trivial)) (Wv.refl _)
  ·rcases ifs h with ⟨h758, h⟩ | ⟨h758, h⟩
   ·have e759 := (an (decide_eq_false h756) (decide_eq_true h758))
    rcases ifs h with ⟨h760, h⟩ | ⟨h760, h⟩
    ·have e761 := (ti (ti (ti (ti (an (decide_eq_false h640) (an (decide_eq_false h640) (an (decide_eq_false h640) (an (decide_eq_false h640) (ti (an (an rf trivial) (an (an rf trivial) (an (an rf trivial) (an rf (ti (an (an (decide_eq_false h756) trivial) (an (an (decide_eq_false h756) trivial) (an (an (decide_eq_false h756) trivial) (an (an (decide_eq_false h756) trivial) (an (an (decide_eq_true h758) trivial) (an (an (decide_eq_true h758) trivial) (an (an (decide_eq_true h758) trivial) (an e759 (an (decide_eq_false h756) (ti (an (decide_eq_true h760) (an (decide_eq_true h760) (an (decide_eq_true h760) (an (decide_eq_true h760) trivial))))))))))))))))))))))))))))
     injection h with h; subst h
     exact fun_ok pm pn Try.func5 (r0 := vb false) (ans := [.reg (.n :: []), .reg arS1_15, .br true, .reg (.n :: [])]) (fr := true) (by kernel_rfl) (an (an (ti trivial) (an e761 (an rt (an (ti trivial) trivial)))) (ti trivial)) (Wv.refl _)
    ·have e762 := (ti (ti (ti (ti (an (decide_eq_false h640) (an (decide_eq_false h640) (an (decide_eq_false h640) (an (decide_eq_false h640) (ti (an (an rf trivial) (an (an rf trivial) (an (an rf trivial) (an rf (ti (an (an (decide_eq_false h756) trivial) (an (an (decide_eq_false h756) trivial) (an (an (decide_eq_false h756) trivial) (an (an (decide_eq_false h756) trivial) (an (an (decide_eq_true h758) trivial) (an (an (decide_eq_true h758) trivial) (an (an (decide_eq_true h758) trivial) (an e759 (an (decide_eq_false h756) (ti (an (an (decide_eq_false h760) trivial) (an (an (decide_eq_false h760) trivial) (an (an (decide_eq_false h760) trivial) (an (decide_eq_false h760) trivial))))))))))))))))))))))))))))
     rcases ifs h with ⟨h763, h⟩ | ⟨h763, h⟩
     ·injection h with h; subst h
      exact fun_ok pm pn Try.func5 (r0 := vb false) (ans := [.reg (.n :: []), .reg arS1_16, .br true, .reg (.n :: [])]) (fr := true) (by kernel_rfl) (an (an (ti trivial) (an e762 (an (decide_eq_true h763) (an (ti trivial) trivial)))) (ti trivial)) (Wv.refl _)
     ·obtain ⟨r780, h779, h⟩ := bs h
      have hph779 := nspeculumlaw03_short_l0_2_ok k a0 a1 _ _ _ h779
      cases r780 with
      | inl r781 =>
       dsimp only at h
       have e783 := (an (ti trivial) (VRun.loop hph779))
       injection h with h; subst h
       exact fun_ok pm pn Try.func5 (r0 := vb false) (ans := [.reg (.n :: []), .reg arS1_16, .br false, .reg (.n :: []), .sub ⟨[(0, none), (1, none), (5, none)], [], []⟩ .ret (nspeculumlaw03_short_l0_2_e0 a0 a1 r781)]) (fr := true) (by kernel_rfl) (an (an (ti trivial) (an (an e762 (an (decide_eq_false h763) trivial)) (an (ti trivial) e783))) (ti trivial)) (Wv.refl _)
      | inr r782 =>
       dsimp only at h
       have e784 := (an (ti trivial) (VRun.loop hph779))
       obtain ⟨r810, h809, h⟩ := bs h
       have hph809 := nspeculumlaw03_short_l1_2_ok k a1 _ _ _ h809
       cases r810 with
       | inl r811 =>
        dsimp only at h
        have e813 := (an (ti trivial) (VRun.loop hph809))
        injection h with h; subst h
        exact fun_ok pm pn Try.func5 (r0 := vb false) (ans := [.reg (.n :: []), .reg arS1_16, .br false, .reg (.n :: []), .sub ⟨[(0, none), (1, none), (5, none)], [], []⟩ (.exit 0) (nspeculumlaw03_short_l0_2_e1 a0 a1 r782), .reg (.n :: []), .sub ⟨[(1, none), (6, none)], [], []⟩ .ret (nspeculumlaw03_short_l1_2_e0 a1 r811)]) (fr := true) (by kernel_rfl) (an (an (ti trivial) (an (an e762 (an (decide_eq_false h763) trivial)) (an (an (ti trivial) e784) (an (ti trivial) e813)))) (ti trivial)) (Wv.refl _)
       | inr r812 =>
        dsimp only at h
        have e814 := (an (ti trivial) (VRun.loop hph809))
        injection h with h; subst h
        exact fun_ok pm pn Try.func5 (r0 := vb true) (ans := [.reg (.n :: []), .reg arS1_16, .br false, .reg (.n :: []), .sub ⟨[(0, none), (1, none), (5, none)], [], []⟩ (.exit 0) (nspeculumlaw03_short_l0_2_e1 a0 a1 r782), .reg (.n :: []), .sub ⟨[(1, none), (6, none)], [], []⟩ (.exit 2) (nspeculumlaw03_short_l1_2_e1 a1 r812), .reg (.n :: [])]) (fr := true) (by kernel_rfl) (an (an (ti trivial) (an (an e762 (an (decide_eq_false h763) trivial)) (an (an (ti trivial) e784) (an (an (ti trivial) e814) (an (ti trivial) trivial))))) (ti trivial)) (Wv.refl _)
   ·have e815 := (an (decide_eq_false h756) (decide_eq_false h758))
    have e816 := (ti (ti (ti (ti (an (decide_eq_false h640) (an (decide_eq_false h640) (an (decide_eq_false h640) (an (decide_eq_false h640) (ti (an (an rf trivial) (an (an rf trivial) (an (an rf trivial) (an rf (ti (an (an (decide_eq_false h756) trivial) (an (an (decide_eq_false h756) trivial) (an (an (decide_eq_false h756) trivial) (an (an (decide_eq_false h756) trivial) (an (decide_eq_false h758) (an (decide_eq_false h758) (an (decide_eq_false h758) (an e815 (an (decide_eq_false h756) (ti (an (an rf trivial) (an (an rf trivial) (an (an rf trivial) (an rf trivial))))))))))))))))))))))))))))
    rcases ifs h with ⟨h817, h⟩ | ⟨h817, h⟩
    ·injection h with h; subst h
     exact fun_ok pm pn Try.func5 (r0 := vb false) (ans := [.reg (.n :: []), .reg arS1_17, .br true, .reg (.n :: [])]) (fr := true) (by kernel_rfl) (an (an (ti trivial) (an e816 (an (decide_eq_true h817) (an (ti trivial) trivial)))) (ti trivial)) (Wv.refl _)
    ·obtain ⟨r834, h833, h⟩ := bs h
     have hph833 := nspeculumlaw03_short_l0_3_ok k a0 a1 _ _ _ h833
     cases r834 with
     | inl r835 =>
      dsimp only at h
      have e837 := (an (ti trivial) (VRun.loop hph833))
      injection h with h; subst h
      exact fun_ok pm pn Try.func5 (r0 := vb false) (ans := [.reg (.n :: []), .reg arS1_17, .br false, .reg (.n :: []), .sub ⟨[(0, none), (1, none), (5, none)], [], []⟩ .ret (nspeculumlaw03_short_l0_3_e0 a0 a1 r835)]) (fr := true) (by kernel_rfl) (an (an (ti trivial) (an (an e816 (an (decide_eq_false h817) trivial)) (an (ti trivial) e837))) (ti trivial)) (Wv.refl _)
     | inr r836 =>
      dsimp only at h
      have e838 := (an (ti trivial) (VRun.loop hph833))
      obtain ⟨r864, h863, h⟩ := bs h
      have hph863 := nspeculumlaw03_short_l1_3_ok k a1 _ _ _ h863
      cases r864 with
      | inl r865 =>
       dsimp only at h
       have e867 := (an (ti trivial) (VRun.loop hph863))
       injection h with h; subst h
       exact fun_ok pm pn Try.func5 (r0 := vb false) (ans := [.reg (.n :: []), .reg arS1_17, .br false, .reg (.n :: []), .sub ⟨[(0, none), (1, none), (5, none)], [], []⟩ (.exit 0) (nspeculumlaw03_short_l0_3_e1 a0 a1 r836), .reg (.n :: []), .sub ⟨[(1, none), (6, none)], [], []⟩ .ret (nspeculumlaw03_short_l1_3_e0 a1 r865)]) (fr := true) (by kernel_rfl) (an (an (ti trivial) (an (an e816 (an (decide_eq_false h817) trivial)) (an (an (ti trivial) e838) (an (ti trivial) e867)))) (ti trivial)) (Wv.refl _)
      | inr r866 =>
       dsimp only at h
       have e868 := (an (ti trivial) (VRun.loop hph863))
       injection h with h; subst h
       exact fun_ok pm pn Try.func5 (r0 := vb true) (ans := [.reg (.n :: []), .reg arS1_17, .br false, .reg (.n :: []), .sub ⟨[(0, none), (1, none), (5, none)], [], []⟩ (.exit 0) (nspeculumlaw03_short_l0_3_e1 a0 a1 r836), .reg (.n :: []), .sub ⟨[(1, none), (6, none)], [], []⟩ (.exit 2) (nspeculumlaw03_short_l1_3_e1 a1 r866), .reg (.n :: [])]) (fr := true) (by kernel_rfl) (an (an (ti trivial) (an (an e816 (an (decide_eq_false h817) trivial)) (an (an (ti trivial) e838) (an (an (ti trivial) e868) (an (ti trivial) trivial))))) (ti trivial)) (Wv.refl _)
def nspeculumlaw03_stock (k : Nat) (a0 : (List SGlassBatch)) : Option (List SGlassBatch) :=
 if ([] : List SGlassBatch).length + a0.length <= 1000000000 then (some (([] : List SGlassBatch) ++ a0)) else none
theorem nspeculumlaw03_stock_ok (k : Nat) (a0 : (List SGlassBatch)) (r : (List SGlassBatch)) (h : nspeculumlaw03_stock k a0 = some r) : VC Try.prog 7 [VV.tr (flatMap c_SGlassBatch a0) a0.length] (VV.fw 4 (flatMap c_SGlassBatch r) r.length) := by
 unfold nspeculumlaw03_stock at h
 obtain ⟨h871, h⟩ := ifn h
 have e872 := (show List.length [] = 0 * 4 /\ List.length (flatMap c_SGlassBatch a0) = a0.length * 4 /\ (0 + a0.length) * 40 <= 140737488355328 /\ 0 + a0.length < 1099511627776 /\ List.all (flatMap c_SGlassBatch a0) VV.still = true from ⟨(by rw [show [] = flatMap c_SGlassBatch ([] : List SGlassBatch) from rfl]; rw [flatMap_len len_c_SGlassBatch] <;> simp), (by rw [flatMap_len len_c_SGlassBatch] <;> simp), (by first | omega | (simp at h871 ⊢; omega)), (by first | omega | (simp at h871 ⊢; omega)), (by exact still_c_SGlassBatch _)⟩)
 injection h with h; subst h
 exact fun_ok pm pn Try.func7 (r0 := VV.fw 4 (List.drop 0 (List.map unfr ([] ++ (flatMap c_SGlassBatch a0)))) (0 + a0.length)) (ans := [.reg (.n :: []), .reg (nN 4 [])]) (fr := true) (by kernel_rfl) (an (an (ti trivial) (an (ti (ti (an e872 (ti trivial)))) trivial)) (an (show List.all ([] ++ (flatMap c_SGlassBatch a0)) new0 = true from (by rw [show [] ++ (flatMap c_SGlassBatch a0) = flatMap c_SGlassBatch (([] : List SGlassBatch) ++ a0) from (by rw [show [] = flatMap c_SGlassBatch ([] : List SGlassBatch) from rfl]; exact List.flatMap_append.symm)]; exact new0_c_SGlassBatch _)) trivial)) (Wv.of_eq (by simp only [show [] ++ (flatMap c_SGlassBatch a0) = flatMap c_SGlassBatch (([] : List SGlassBatch) ++ a0) from (by rw [show [] = flatMap c_SGlassBatch ([] : List SGlassBatch) from rfl]; exact List.flatMap_append.symm), drop0, unfr_vi, unfr_vb, unfr_vs, map_cons, map_nil, un_i, un_k, un_b, un_s, un_tr, un_fr, length_map, length_replicate, length_append, List.length_set, length_cons, length_nil, unfr_c_SGlassBatch, unfr_c_SGlassPromise]))
def nspeculumlaw03_promises (k : Nat) (a0 : (List SGlassPromise)) : Option (List SGlassPromise) :=
 if ([] : List SGlassPromise).length + a0.length <= 1000000000 then (some (([] : List SGlassPromise) ++ a0)) else none
theorem nspeculumlaw03_promises_ok (k : Nat) (a0 : (List SGlassPromise)) (r : (List SGlassPromise)) (h : nspeculumlaw03_promises k a0 = some r) : VC Try.prog 8 [VV.tr (flatMap c_SGlassPromise a0) a0.length] (VV.fw 2 (flatMap c_SGlassPromise r) r.length) := by
 unfold nspeculumlaw03_promises at h
 obtain ⟨h875, h⟩ := ifn h
 have e876 := (show List.length [] = 0 * 2 /\ List.length (flatMap c_SGlassPromise a0) = a0.length * 2 /\ (0 + a0.length) * 32 <= 140737488355328 /\ 0 + a0.length < 1099511627776 /\ List.all (flatMap c_SGlassPromise a0) VV.still = true from ⟨(by rw [show [] = flatMap c_SGlassPromise ([] : List SGlassPromise) from rfl]; rw [flatMap_len len_c_SGlassPromise] <;> simp), (by rw [flatMap_len len_c_SGlassPromise] <;> simp), (by first | omega | (simp at h875 ⊢; omega)), (by first | omega | (simp at h875 ⊢; omega)), (by exact still_c_SGlassPromise _)⟩)
 injection h with h; subst h
 exact fun_ok pm pn Try.func8 (r0 := VV.fw 2 (List.drop 0 (List.map unfr ([] ++ (flatMap c_SGlassPromise a0)))) (0 + a0.length)) (ans := [.reg (.n :: []), .reg (nN 4 [])]) (fr := true) (by kernel_rfl) (an (an (ti trivial) (an (ti (ti (an e876 (ti trivial)))) trivial)) (an (show List.all ([] ++ (flatMap c_SGlassPromise a0)) new0 = true from (by rw [show [] ++ (flatMap c_SGlassPromise a0) = flatMap c_SGlassPromise (([] : List SGlassPromise) ++ a0) from (by rw [show [] = flatMap c_SGlassPromise ([] : List SGlassPromise) from rfl]; exact List.flatMap_append.symm)]; exact new0_c_SGlassPromise _)) trivial)) (Wv.of_eq (by simp only [show [] ++ (flatMap c_SGlassPromise a0) = flatMap c_SGlassPromise (([] : List SGlassPromise) ++ a0) from (by rw [show [] = flatMap c_SGlassPromise ([] : List SGlassPromise) from rfl]; exact List.flatMap_append.symm), drop0, unfr_vi, unfr_vb, unfr_vs, map_cons, map_nil, un_i, un_k, un_b, un_s, un_tr, un_fr, length_map, length_replicate, length_append, List.length_set, length_cons, length_nil, unfr_c_SGlassBatch, unfr_c_SGlassPromise]))
def nblank_need (k : Nat) (a0 : Bool) (a1 : Int) : Option (Bool × Int) :=
 some (a0, a1)
theorem nblank_need_ok (k : Nat) (a0 : Bool) (a1 : Int) (r : (Bool × Int)) (h : nblank_need k a0 a1 = some r) : VC Try.prog 28 [vb a0, vi a1] (VV.fn 45 [VV.tp [vb r.1] 0, VV.tp [vi r.2] 0]) := by
 unfold nblank_need at h
 injection h with h; subst h
 exact fun_ok pm pn Try.func28 (r0 := VV.fn 45 [VV.tp [vb a0] 0, VV.tp [vi a1] 0]) (ans := [.reg (nN 3 []), .frz 0, .frz 1, .reg (.n :: .n :: [])]) (fr := false) (by kernel_rfl) (an (an (ti (ti (ti trivial))) (an (ti (ti trivial)) trivial)) (ti trivial)) (Wv.of_eq rfl)
def nblank_need_1 (k : Nat) (q0_0 : Bool) (q1_0 : Int) : Option Int :=
 if q0_0 = true then (some 0) else (some q1_0)
theorem nblank_need_1_ok (k : Nat) (q0_0 : Bool) (q1_0 : Int) (r : Int) (h : nblank_need_1 k q0_0 q1_0 = some r) : VC Try.prog 45 [VV.tp [vb q0_0] 0, VV.tp [vi q1_0] 0] (vi r) := by
 unfold nblank_need_1 at h
 have e885 := (show loadL Try.prog 4 0 [vb q0_0] = some (vb q0_0) from (ld_one ag4 rfl))
 rcases ifs h with ⟨h886, h⟩ | ⟨h886, h⟩
 ·injection h with h; subst h
  exact fun_ok pm pn Try.func45 (r0 := vi 0) (ans := [.reg (.n :: []), .reg (.v (vb q0_0) :: []), .br true, .reg (.n :: [])]) (fr := true) (by kernel_rfl) (an (an (ti trivial) (an (an e885 trivial) (an h886 (an (ti trivial) trivial)))) (ti trivial)) (Wv.refl _)
 ·have e887 := (show loadL Try.prog 28 0 [vi q1_0] = some (vi q1_0) from (ld_one ag28 rfl))
  injection h with h; subst h
  exact fun_ok pm pn Try.func45 (r0 := vi q1_0) (ans := [.reg (.n :: []), .reg (.v (vb q0_0) :: []), .br false, .reg (.v (vi q1_0) :: .n :: [])]) (fr := true) (by kernel_rfl) (an (an (ti trivial) (an (an (an e885 trivial) (an (bool_f h886) trivial)) (an (an e887 (ti trivial)) trivial))) (ti trivial)) (Wv.refl _)
def arS1_18 (z0 : Bool) (z1 : (Bool × Int)) : List Ans := (nN 3 (.call (vb z0) :: .call (VV.fn 45 [VV.tp [vb z1.1] 0, VV.tp [vi z1.2] 0]) :: .n :: []))
def nblank_within (k : Nat) (a0 : Int) (a1 : Int) (a2 : Int) : Option (Bool × Int) :=
 (nblank_isWithin k a0 a1 a2).bind fun r913 => ((nblank_need k r913 2).bind fun r915 => (some r915))
theorem nblank_within_ok (k : Nat) (a0 : Int) (a1 : Int) (a2 : Int) (r : (Bool × Int)) (h : nblank_within k a0 a1 a2 = some r) : VC Try.prog 32 [vi a0, vi a1, vi a2] (VV.fn 45 [VV.tp [vb r.1] 0, VV.tp [vi r.2] 0]) := by
 unfold nblank_within at h
 obtain ⟨r913, h914, h⟩ := bs h
 obtain ⟨r915, h916, h⟩ := bs h
 have e917 := (ti (ti (ti (an (nblank_isWithin_ok k a0 a1 a2 _ h914) (an (nblank_need_ok k r913 2 _ h916) (ti trivial))))))
 injection h with h; subst h
 exact fun_ok pm pn Try.func32 (r0 := VV.fn 45 [VV.tp [vb r915.1] 0, VV.tp [vi r915.2] 0]) (ans := [.reg (.n :: []), .reg (arS1_18 r913 r915)]) (fr := false) (by kernel_rfl) (an (an (ti trivial) (an e917 trivial)) (ti trivial)) (Wv.refl _)
def nblank_firstOf_c0_Lblank_need_1_blank_need_1_blank_need_1_blank_need_1_blank_need_1 (k : Nat) (a0 : ((Bool × Int) × (Bool × Int) × (Bool × Int) × (Bool × Int) × (Bool × Int))) : Option Int :=
 (nblank_need_1 k a0.1.1 a0.1.2).bind fun r959 => (if r959 = 0 then ((nblank_need_1 k a0.2.1.1 a0.2.1.2).bind fun r965 => (if r965 = 0 then ((nblank_need_1 k a0.2.2.1.1 a0.2.2.1.2).bind fun r971 => (if r971 = 0 then ((nblank_need_1 k a0.2.2.2.1.1 a0.2.2.2.1.2).bind fun r977 => (if r977 = 0 then ((nblank_need_1 k a0.2.2.2.2.1 a0.2.2.2.2.2).bind fun r983 => (if r983 = 0 then (some 0) else (some r983))) else (some r977))) else (some r971))) else (some r965))) else (some r959))
theorem nblank_firstOf_c0_Lblank_need_1_blank_need_1_blank_need_1_blank_need_1_blank_need_1_ok (k : Nat) (a0 : ((Bool × Int) × (Bool × Int) × (Bool × Int) × (Bool × Int) × (Bool × Int))) (r : Int) (h : nblank_firstOf_c0_Lblank_need_1_blank_need_1_blank_need_1_blank_need_1_blank_need_1 k a0 = some r) : VC Try.prog 27 [VV.tr ([VV.fn 45 [VV.tp [vb a0.1.1] 0, VV.tp [vi a0.1.2] 0], VV.fn 45 [VV.tp [vb a0.2.1.1] 0, VV.tp [vi a0.2.1.2] 0], VV.fn 45 [VV.tp [vb a0.2.2.1.1] 0, VV.tp [vi a0.2.2.1.2] 0], VV.fn 45 [VV.tp [vb a0.2.2.2.1.1] 0, VV.tp [vi a0.2.2.2.1.2] 0], VV.fn 45 [VV.tp [vb a0.2.2.2.2.1] 0, VV.tp [vi a0.2.2.2.2.2] 0]]) 5] (vi r) := by
 unfold nblank_firstOf_c0_Lblank_need_1_blank_need_1_blank_need_1_blank_need_1_blank_need_1 at h
 have e957 := (show (0 : Int) <= 0 /\ (0 : Int) < ((5 : Nat) : Int) from ⟨by decide, by decide⟩)
 have e958 := (show loadL Try.prog 78 ((0 : Int).toNat * 1) ([VV.fn 45 [VV.tp [vb a0.1.1] 0, VV.tp [vi a0.1.2] 0], VV.fn 45 [VV.tp [vb a0.2.1.1] 0, VV.tp [vi a0.2.1.2] 0], VV.fn 45 [VV.tp [vb a0.2.2.1.1] 0, VV.tp [vi a0.2.2.1.2] 0], VV.fn 45 [VV.tp [vb a0.2.2.2.1.1] 0, VV.tp [vi a0.2.2.2.1.2] 0], VV.fn 45 [VV.tp [vb a0.2.2.2.2.1] 0, VV.tp [vi a0.2.2.2.2.2] 0]]) = some (VV.fn 45 [VV.tp [vb a0.1.1] 0, VV.tp [vi a0.1.2] 0]) from (ld_one ag78 rfl))
 obtain ⟨r959, h960, h⟩ := bs h
 have e961 := (nblank_need_1_ok k a0.1.1 a0.1.2 _ h960)
 rcases ifs h with ⟨h962, h⟩ | ⟨h962, h⟩
 ·have e963 := (show (0 : Int) <= 1 /\ (1 : Int) < ((5 : Nat) : Int) from ⟨by decide, by decide⟩)
  have e964 := (show loadL Try.prog 78 ((1 : Int).toNat * 1) ([VV.fn 45 [VV.tp [vb a0.1.1] 0, VV.tp [vi a0.1.2] 0], VV.fn 45 [VV.tp [vb a0.2.1.1] 0, VV.tp [vi a0.2.1.2] 0], VV.fn 45 [VV.tp [vb a0.2.2.1.1] 0, VV.tp [vi a0.2.2.1.2] 0], VV.fn 45 [VV.tp [vb a0.2.2.2.1.1] 0, VV.tp [vi a0.2.2.2.1.2] 0], VV.fn 45 [VV.tp [vb a0.2.2.2.2.1] 0, VV.tp [vi a0.2.2.2.2.2] 0]]) = some (VV.fn 45 [VV.tp [vb a0.2.1.1] 0, VV.tp [vi a0.2.1.2] 0]) from (ld_one ag78 rfl))
  obtain ⟨r965, h966, h⟩ := bs h
  have e967 := (nblank_need_1_ok k a0.2.1.1 a0.2.1.2 _ h966)
  rcases ifs h with ⟨h968, h⟩ | ⟨h968, h⟩
  ·have e969 := (show (0 : Int) <= 2 /\ (2 : Int) < ((5 : Nat) : Int) from ⟨by decide, by decide⟩)
   have e970 := (show loadL Try.prog 78 ((2 : Int).toNat * 1) ([VV.fn 45 [VV.tp [vb a0.1.1] 0, VV.tp [vi a0.1.2] 0], VV.fn 45 [VV.tp [vb a0.2.1.1] 0, VV.tp [vi a0.2.1.2] 0], VV.fn 45 [VV.tp [vb a0.2.2.1.1] 0, VV.tp [vi a0.2.2.1.2] 0], VV.fn 45 [VV.tp [vb a0.2.2.2.1.1] 0, VV.tp [vi a0.2.2.2.1.2] 0], VV.fn 45 [VV.tp [vb a0.2.2.2.2.1] 0, VV.tp [vi a0.2.2.2.2.2] 0]]) = some (VV.fn 45 [VV.tp [vb a0.2.2.1.1] 0, VV.tp [vi a0.2.2.1.2] 0]) from (ld_one ag78 rfl))
   obtain ⟨r971, h972, h⟩ := bs h
   have e973 := (nblank_need_1_ok k a0.2.2.1.1 a0.2.2.1.2 _ h972)
   rcases ifs h with ⟨h974, h⟩ | ⟨h974, h⟩
   ·have e975 := (show (0 : Int) <= 3 /\ (3 : Int) < ((5 : Nat) : Int) from ⟨by decide, by decide⟩)
    have e976 := (show loadL Try.prog 78 ((3 : Int).toNat * 1) ([VV.fn 45 [VV.tp [vb a0.1.1] 0, VV.tp [vi a0.1.2] 0], VV.fn 45 [VV.tp [vb a0.2.1.1] 0, VV.tp [vi a0.2.1.2] 0], VV.fn 45 [VV.tp [vb a0.2.2.1.1] 0, VV.tp [vi a0.2.2.1.2] 0], VV.fn 45 [VV.tp [vb a0.2.2.2.1.1] 0, VV.tp [vi a0.2.2.2.1.2] 0], VV.fn 45 [VV.tp [vb a0.2.2.2.2.1] 0, VV.tp [vi a0.2.2.2.2.2] 0]]) = some (VV.fn 45 [VV.tp [vb a0.2.2.2.1.1] 0, VV.tp [vi a0.2.2.2.1.2] 0]) from (ld_one ag78 rfl))
    obtain ⟨r977, h978, h⟩ := bs h
    have e979 := (nblank_need_1_ok k a0.2.2.2.1.1 a0.2.2.2.1.2 _ h978)
    rcases ifs h with ⟨h980, h⟩ | ⟨h980, h⟩
    ·have e981 := (show (0 : Int) <= 4 /\ (4 : Int) < ((5 : Nat) : Int) from ⟨by decide, by decide⟩)
     have e982 := (show loadL Try.prog 78 ((4 : Int).toNat * 1) ([VV.fn 45 [VV.tp [vb a0.1.1] 0, VV.tp [vi a0.1.2] 0], VV.fn 45 [VV.tp [vb a0.2.1.1] 0, VV.tp [vi a0.2.1.2] 0], VV.fn 45 [VV.tp [vb a0.2.2.1.1] 0, VV.tp [vi a0.2.2.1.2] 0], VV.fn 45 [VV.tp [vb a0.2.2.2.1.1] 0, VV.tp [vi a0.2.2.2.1.2] 0], VV.fn 45 [VV.tp [vb a0.2.2.2.2.1] 0, VV.tp [vi a0.2.2.2.2.2] 0]]) = some (VV.fn 45 [VV.tp [vb a0.2.2.2.2.1] 0, VV.tp [vi a0.2.2.2.2.2] 0]) from (ld_one ag78 rfl))
     obtain ⟨r983, h984, h⟩ := bs h
     have e985 := (nblank_need_1_ok k a0.2.2.2.2.1 a0.2.2.2.2.2 _ h984)
     rcases ifs h with ⟨h986, h⟩ | ⟨h986, h⟩
     ·injection h with h; subst h
      exact fun_ok pm pn Try.func27 (r0 := vi 0) (ans := [.reg (.n :: []), .reg (nN 3 []), .unr 7, .reg (.n :: []), .br true, .reg (.n :: .v (VV.fn 45 [VV.tp [vb a0.1.1] 0, VV.tp [vi a0.1.2] 0]) :: .n :: []), .reg (.n :: .call (vi r959) :: .n :: []), .reg (.n :: .n :: []), .br false, .reg (.n :: .n :: []), .reg (.n :: []), .br true, .reg (.n :: .v (VV.fn 45 [VV.tp [vb a0.2.1.1] 0, VV.tp [vi a0.2.1.2] 0]) :: .n :: []), .reg (.n :: .call (vi r965) :: .n :: []), .reg (.n :: .n :: []), .br false, .reg (.n :: .n :: []), .reg (.n :: []), .br true, .reg (.n :: .v (VV.fn 45 [VV.tp [vb a0.2.2.1.1] 0, VV.tp [vi a0.2.2.1.2] 0]) :: .n :: []), .reg (.n :: .call (vi r971) :: .n :: []), .reg (.n :: .n :: []), .br false, .reg (.n :: .n :: []), .reg (.n :: []), .br true, .reg (.n :: .v (VV.fn 45 [VV.tp [vb a0.2.2.2.1.1] 0, VV.tp [vi a0.2.2.2.1.2] 0]) :: .n :: []), .reg (.n :: .call (vi r977) :: .n :: []), .reg (.n :: .n :: []), .br false, .reg (.n :: .n :: []), .reg (.n :: []), .br true, .reg (.n :: .v (VV.fn 45 [VV.tp [vb a0.2.2.2.2.1] 0, VV.tp [vi a0.2.2.2.2.2] 0]) :: .n :: []), .reg (.n :: .call (vi r983) :: .n :: []), .reg (.n :: .n :: []), .br false, .reg (.n :: .n :: []), .reg (.n :: []), .br false, .reg (.n :: [])]) (fr := true) (by kernel_rfl) (an (an (ti trivial) (an (an (ti (ti (ti trivial))) (an (an (ti trivial) (an (an (show (decide ((0 : Int) < 5)) = true from (decide_eq_true (by decide))) trivial) (an (an (an e957 (an e958 (ti trivial))) (an (ti (an e961 (ti trivial))) (an (ti (ti trivial)) (an (not_f (decide_eq_true h962)) trivial)))) (ti (ti trivial))))) (an (an (ti trivial) (an (an (show (decide ((1 : Int) < 5)) = true from (decide_eq_true (by decide))) trivial) (an (an (an e963 (an e964 (ti trivial))) (an (ti (an e967 (ti trivial))) (an (ti (ti trivial)) (an (not_f (decide_eq_true h968)) trivial)))) (ti (ti trivial))))) (an (an (ti trivial) (an (an (show (decide ((2 : Int) < 5)) = true from (decide_eq_true (by decide))) trivial) (an (an (an e969 (an e970 (ti trivial))) (an (ti (an e973 (ti trivial))) (an (ti (ti trivial)) (an (not_f (decide_eq_true h974)) trivial)))) (ti (ti trivial))))) (an (an (ti trivial) (an (an (show (decide ((3 : Int) < 5)) = true from (decide_eq_true (by decide))) trivial) (an (an (an e975 (an e976 (ti trivial))) (an (ti (an e979 (ti trivial))) (an (ti (ti trivial)) (an (not_f (decide_eq_true h980)) trivial)))) (ti (ti trivial))))) (an (an (ti trivial) (an (an (show (decide ((4 : Int) < 5)) = true from (decide_eq_true (by decide))) trivial) (an (an (an e981 (an e982 (ti trivial))) (an (ti (an e985 (ti trivial))) (an (ti (ti trivial)) (an (not_f (decide_eq_true h986)) trivial)))) (ti (ti trivial))))) (an (ti trivial) (an (show (decide ((5 : Int) < 5)) = false from (decide_eq_false (by decide))) trivial)))))))) (an (ti trivial) trivial))) (ti trivial)) (Wv.refl _)
     ·injection h with h; subst h
      exact fun_ok pm pn Try.func27 (r0 := vi r983) (ans := [.reg (.n :: []), .reg (nN 3 []), .unr 6, .reg (.n :: []), .br true, .reg (.n :: .v (VV.fn 45 [VV.tp [vb a0.1.1] 0, VV.tp [vi a0.1.2] 0]) :: .n :: []), .reg (.n :: .call (vi r959) :: .n :: []), .reg (.n :: .n :: []), .br false, .reg (.n :: .n :: []), .reg (.n :: []), .br true, .reg (.n :: .v (VV.fn 45 [VV.tp [vb a0.2.1.1] 0, VV.tp [vi a0.2.1.2] 0]) :: .n :: []), .reg (.n :: .call (vi r965) :: .n :: []), .reg (.n :: .n :: []), .br false, .reg (.n :: .n :: []), .reg (.n :: []), .br true, .reg (.n :: .v (VV.fn 45 [VV.tp [vb a0.2.2.1.1] 0, VV.tp [vi a0.2.2.1.2] 0]) :: .n :: []), .reg (.n :: .call (vi r971) :: .n :: []), .reg (.n :: .n :: []), .br false, .reg (.n :: .n :: []), .reg (.n :: []), .br true, .reg (.n :: .v (VV.fn 45 [VV.tp [vb a0.2.2.2.1.1] 0, VV.tp [vi a0.2.2.2.1.2] 0]) :: .n :: []), .reg (.n :: .call (vi r977) :: .n :: []), .reg (.n :: .n :: []), .br false, .reg (.n :: .n :: []), .reg (.n :: []), .br true, .reg (.n :: .v (VV.fn 45 [VV.tp [vb a0.2.2.2.2.1] 0, VV.tp [vi a0.2.2.2.2.2] 0]) :: .n :: []), .reg (.n :: .call (vi r983) :: .n :: []), .reg (.n :: .n :: []), .br true, .reg (.n :: .n :: [])]) (fr := true) (by kernel_rfl) (an (an (ti trivial) (an (ti (ti (ti trivial))) (an (an (ti trivial) (an (an (show (decide ((0 : Int) < 5)) = true from (decide_eq_true (by decide))) trivial) (an (an (an e957 (an e958 (ti trivial))) (an (ti (an e961 (ti trivial))) (an (ti (ti trivial)) (an (not_f (decide_eq_true h962)) trivial)))) (ti (ti trivial))))) (an (an (ti trivial) (an (an (show (decide ((1 : Int) < 5)) = true from (decide_eq_true (by decide))) trivial) (an (an (an e963 (an e964 (ti trivial))) (an (ti (an e967 (ti trivial))) (an (ti (ti trivial)) (an (not_f (decide_eq_true h968)) trivial)))) (ti (ti trivial))))) (an (an (ti trivial) (an (an (show (decide ((2 : Int) < 5)) = true from (decide_eq_true (by decide))) trivial) (an (an (an e969 (an e970 (ti trivial))) (an (ti (an e973 (ti trivial))) (an (ti (ti trivial)) (an (not_f (decide_eq_true h974)) trivial)))) (ti (ti trivial))))) (an (an (ti trivial) (an (an (show (decide ((3 : Int) < 5)) = true from (decide_eq_true (by decide))) trivial) (an (an (an e975 (an e976 (ti trivial))) (an (ti (an e979 (ti trivial))) (an (ti (ti trivial)) (an (not_f (decide_eq_true h980)) trivial)))) (ti (ti trivial))))) (an (ti trivial) (an (an (show (decide ((4 : Int) < 5)) = true from (decide_eq_true (by decide))) trivial) (an (an e981 (an e982 (ti trivial))) (an (ti (an e985 (ti trivial))) (an (ti (ti trivial)) (an (not_t (decide_eq_false h986)) (an (ti (ti trivial)) trivial))))))))))))) (ti trivial)) (Wv.refl _)
    ·injection h with h; subst h
     exact fun_ok pm pn Try.func27 (r0 := vi r977) (ans := [.reg (.n :: []), .reg (nN 3 []), .unr 5, .reg (.n :: []), .br true, .reg (.n :: .v (VV.fn 45 [VV.tp [vb a0.1.1] 0, VV.tp [vi a0.1.2] 0]) :: .n :: []), .reg (.n :: .call (vi r959) :: .n :: []), .reg (.n :: .n :: []), .br false, .reg (.n :: .n :: []), .reg (.n :: []), .br true, .reg (.n :: .v (VV.fn 45 [VV.tp [vb a0.2.1.1] 0, VV.tp [vi a0.2.1.2] 0]) :: .n :: []), .reg (.n :: .call (vi r965) :: .n :: []), .reg (.n :: .n :: []), .br false, .reg (.n :: .n :: []), .reg (.n :: []), .br true, .reg (.n :: .v (VV.fn 45 [VV.tp [vb a0.2.2.1.1] 0, VV.tp [vi a0.2.2.1.2] 0]) :: .n :: []), .reg (.n :: .call (vi r971) :: .n :: []), .reg (.n :: .n :: []), .br false, .reg (.n :: .n :: []), .reg (.n :: []), .br true, .reg (.n :: .v (VV.fn 45 [VV.tp [vb a0.2.2.2.1.1] 0, VV.tp [vi a0.2.2.2.1.2] 0]) :: .n :: []), .reg (.n :: .call (vi r977) :: .n :: []), .reg (.n :: .n :: []), .br true, .reg (.n :: .n :: [])]) (fr := true) (by kernel_rfl) (an (an (ti trivial) (an (ti (ti (ti trivial))) (an (an (ti trivial) (an (an (show (decide ((0 : Int) < 5)) = true from (decide_eq_true (by decide))) trivial) (an (an (an e957 (an e958 (ti trivial))) (an (ti (an e961 (ti trivial))) (an (ti (ti trivial)) (an (not_f (decide_eq_true h962)) trivial)))) (ti (ti trivial))))) (an (an (ti trivial) (an (an (show (decide ((1 : Int) < 5)) = true from (decide_eq_true (by decide))) trivial) (an (an (an e963 (an e964 (ti trivial))) (an (ti (an e967 (ti trivial))) (an (ti (ti trivial)) (an (not_f (decide_eq_true h968)) trivial)))) (ti (ti trivial))))) (an (an (ti trivial) (an (an (show (decide ((2 : Int) < 5)) = true from (decide_eq_true (by decide))) trivial) (an (an (an e969 (an e970 (ti trivial))) (an (ti (an e973 (ti trivial))) (an (ti (ti trivial)) (an (not_f (decide_eq_true h974)) trivial)))) (ti (ti trivial))))) (an (ti trivial) (an (an (show (decide ((3 : Int) < 5)) = true from (decide_eq_true (by decide))) trivial) (an (an e975 (an e976 (ti trivial))) (an (ti (an e979 (ti trivial))) (an (ti (ti trivial)) (an (not_t (decide_eq_false h980)) (an (ti (ti trivial)) trivial)))))))))))) (ti trivial)) (Wv.refl _)
   ·injection h with h; subst h
    exact fun_ok pm pn Try.func27 (r0 := vi r971) (ans := [.reg (.n :: []), .reg (nN 3 []), .unr 4, .reg (.n :: []), .br true, .reg (.n :: .v (VV.fn 45 [VV.tp [vb a0.1.1] 0, VV.tp [vi a0.1.2] 0]) :: .n :: []), .reg (.n :: .call (vi r959) :: .n :: []), .reg (.n :: .n :: []), .br false, .reg (.n :: .n :: []), .reg (.n :: []), .br true, .reg (.n :: .v (VV.fn 45 [VV.tp [vb a0.2.1.1] 0, VV.tp [vi a0.2.1.2] 0]) :: .n :: []), .reg (.n :: .call (vi r965) :: .n :: []), .reg (.n :: .n :: []), .br false, .reg (.n :: .n :: []), .reg (.n :: []), .br true, .reg (.n :: .v (VV.fn 45 [VV.tp [vb a0.2.2.1.1] 0, VV.tp [vi a0.2.2.1.2] 0]) :: .n :: []), .reg (.n :: .call (vi r971) :: .n :: []), .reg (.n :: .n :: []), .br true, .reg (.n :: .n :: [])]) (fr := true) (by kernel_rfl) (an (an (ti trivial) (an (ti (ti (ti trivial))) (an (an (ti trivial) (an (an (show (decide ((0 : Int) < 5)) = true from (decide_eq_true (by decide))) trivial) (an (an (an e957 (an e958 (ti trivial))) (an (ti (an e961 (ti trivial))) (an (ti (ti trivial)) (an (not_f (decide_eq_true h962)) trivial)))) (ti (ti trivial))))) (an (an (ti trivial) (an (an (show (decide ((1 : Int) < 5)) = true from (decide_eq_true (by decide))) trivial) (an (an (an e963 (an e964 (ti trivial))) (an (ti (an e967 (ti trivial))) (an (ti (ti trivial)) (an (not_f (decide_eq_true h968)) trivial)))) (ti (ti trivial))))) (an (ti trivial) (an (an (show (decide ((2 : Int) < 5)) = true from (decide_eq_true (by decide))) trivial) (an (an e969 (an e970 (ti trivial))) (an (ti (an e973 (ti trivial))) (an (ti (ti trivial)) (an (not_t (decide_eq_false h974)) (an (ti (ti trivial)) trivial))))))))))) (ti trivial)) (Wv.refl _)
  ·injection h with h; subst h
   exact fun_ok pm pn Try.func27 (r0 := vi r965) (ans := [.reg (.n :: []), .reg (nN 3 []), .unr 3, .reg (.n :: []), .br true, .reg (.n :: .v (VV.fn 45 [VV.tp [vb a0.1.1] 0, VV.tp [vi a0.1.2] 0]) :: .n :: []), .reg (.n :: .call (vi r959) :: .n :: []), .reg (.n :: .n :: []), .br false, .reg (.n :: .n :: []), .reg (.n :: []), .br true, .reg (.n :: .v (VV.fn 45 [VV.tp [vb a0.2.1.1] 0, VV.tp [vi a0.2.1.2] 0]) :: .n :: []), .reg (.n :: .call (vi r965) :: .n :: []), .reg (.n :: .n :: []), .br true, .reg (.n :: .n :: [])]) (fr := true) (by kernel_rfl) (an (an (ti trivial) (an (ti (ti (ti trivial))) (an (an (ti trivial) (an (an (show (decide ((0 : Int) < 5)) = true from (decide_eq_true (by decide))) trivial) (an (an (an e957 (an e958 (ti trivial))) (an (ti (an e961 (ti trivial))) (an (ti (ti trivial)) (an (not_f (decide_eq_true h962)) trivial)))) (ti (ti trivial))))) (an (ti trivial) (an (an (show (decide ((1 : Int) < 5)) = true from (decide_eq_true (by decide))) trivial) (an (an e963 (an e964 (ti trivial))) (an (ti (an e967 (ti trivial))) (an (ti (ti trivial)) (an (not_t (decide_eq_false h968)) (an (ti (ti trivial)) trivial)))))))))) (ti trivial)) (Wv.refl _)
 ·injection h with h; subst h
  exact fun_ok pm pn Try.func27 (r0 := vi r959) (ans := [.reg (.n :: []), .reg (nN 3 []), .unr 2, .reg (.n :: []), .br true, .reg (.n :: .v (VV.fn 45 [VV.tp [vb a0.1.1] 0, VV.tp [vi a0.1.2] 0]) :: .n :: []), .reg (.n :: .call (vi r959) :: .n :: []), .reg (.n :: .n :: []), .br true, .reg (.n :: .n :: [])]) (fr := true) (by kernel_rfl) (an (an (ti trivial) (an (ti (ti (ti trivial))) (an (ti trivial) (an (an (show (decide ((0 : Int) < 5)) = true from (decide_eq_true (by decide))) trivial) (an (an e957 (an e958 (ti trivial))) (an (ti (an e961 (ti trivial))) (an (ti (ti trivial)) (an (not_t (decide_eq_false h962)) (an (ti (ti trivial)) trivial))))))))) (ti trivial)) (Wv.refl _)
theorem eqS1_0 (z0 : (Bool × Int)) (z1 : (Bool × Int)) (z2 : (Bool × Int)) (z3 : (Bool × Int)) (z4 : (Bool × Int)) : [VV.tr ([VV.fn 45 [VV.tp [vb (((z0, z1, z2, z3, z4).1).1)] 0, VV.tp [vi (((z0, z1, z2, z3, z4).1).2)] 0], VV.fn 45 [VV.tp [vb (((z0, z1, z2, z3, z4).2.1).1)] 0, VV.tp [vi (((z0, z1, z2, z3, z4).2.1).2)] 0], VV.fn 45 [VV.tp [vb (((z0, z1, z2, z3, z4).2.2.1).1)] 0, VV.tp [vi (((z0, z1, z2, z3, z4).2.2.1).2)] 0], VV.fn 45 [VV.tp [vb (((z0, z1, z2, z3, z4).2.2.2.1).1)] 0, VV.tp [vi (((z0, z1, z2, z3, z4).2.2.2.1).2)] 0], VV.fn 45 [VV.tp [vb (((z0, z1, z2, z3, z4).2.2.2.2).1)] 0, VV.tp [vi (((z0, z1, z2, z3, z4).2.2.2.2).2)] 0]]) 5] = [VV.tr (List.drop 0 (List.map unfr [VV.fn 45 [VV.tp [vb z0.1] 0, VV.tp [vi z0.2] 0], VV.fn 45 [VV.tp [vb z1.1] 0, VV.tp [vi z1.2] 0], VV.fn 45 [VV.tp [vb z2.1] 0, VV.tp [vi z2.2] 0], VV.fn 45 [VV.tp [vb z3.1] 0, VV.tp [vi z3.2] 0], VV.fn 45 [VV.tp [vb z4.1] 0, VV.tp [vi z4.2] 0]])) 5] := by first | rfl | (simp only [drop0, unfr_vi, unfr_vb, map_cons, map_nil, un_i, un_b, un_tr]; done) | (simp only [drop0, unfr_vi, unfr_vb, map_cons, map_nil, un_i, un_b, un_tr]; rfl) | (simp only [drop0, unfr_vi, unfr_vb, map_cons, map_nil, un_i, un_b, un_tr, length_cons, length_nil, length_append]; done)
def arS1_20 (z0 : Bool) (z1 : (Bool × Int)) (z2 : (Bool × Int)) (z3 : (Bool × Int)) (z4 : (Bool × Int)) (z5 : (Bool × Int)) (z6 : Int) : List Ans := (.n :: .n :: .call (vb z0) :: .call (VV.fn 45 [VV.tp [vb z1.1] 0, VV.tp [vi z1.2] 0]) :: .n :: .n :: .call (VV.fn 45 [VV.tp [vb z2.1] 0, VV.tp [vi z2.2] 0]) :: .n :: .n :: .call (VV.fn 45 [VV.tp [vb z3.1] 0, VV.tp [vi z3.2] 0]) :: .n :: .n :: .call (VV.fn 45 [VV.tp [vb z4.1] 0, VV.tp [vi z4.2] 0]) :: .n :: .n :: .call (VV.fn 45 [VV.tp [vb z5.1] 0, VV.tp [vi z5.2] 0]) :: .n :: .call (vi z6) :: .n :: [])
noncomputable def arS1_21 (z0 : List (ByteArray × Bool)) (z1 : (List SGlassBatch)) (z2 : Int) (z3 : Bool) (z4 : (Bool × Int)) (z5 : (Bool × Int)) (z6 : (Bool × Int)) (z7 : (Bool × Int)) (z8 : (Bool × Int)) (z9 : Int) : List Ans := (.n :: .n :: .inl (inlF Try.f30 [.reg (.n :: .n :: []), .reg (nN 3 (.v (vb (mget z0 ((z1.getD z2.toNat default).Name))) :: .n :: [])), .reg (nN 4 []), .reg (arS1_20 z3 z4 z5 z6 z7 z8 z9)]) :: .n :: [])
noncomputable def arS1_22 (z0 : Bool) (z1 : (Bool × Int)) (z2 : (Bool × Int)) (z3 : (Bool × Int)) (z4 : (Bool × Int)) (z5 : (Bool × Int)) (z6 : Int) : List Ans := (.n :: .n :: .inl (inlF Try.f30 [.reg (.n :: .n :: []), .reg (nN 3 (.b false :: .n :: [])), .reg (nN 4 []), .reg (arS1_20 z0 z1 z2 z3 z4 z5 z6)]) :: .n :: [])
def nblank_CheckBatches_i27_i46_l0_0_h (a0 : (List SGlassBatch)) (r1140 : (Bool × Int)) (r1145 : Int) (y0 : List (ByteArray × Bool)) (x8 : Int) : VS := ⟨mkA [(1, VV.pt 3 0), (6, VV.tr (flatMap c_SGlassBatch a0) a0.length), (7, vi (a0.length : Int)), (8, vi x8)], [some ⟨true, bigX + 1, flatMap (mpE vb) y0⟩, some ⟨true, 1, [VV.mp 0]⟩, none, some ⟨true, 1, [VV.fn 30 [VV.pt 1 0]]⟩, some ⟨true, 1, [VV.fn 45 [VV.tp [vb r1140.1] 0, VV.tp [vi r1140.2] 0], VV.fn 46 [VV.tp [VV.tr (flatMap c_SGlassBatch a0) a0.length] 0, VV.pt 3 0]]⟩], (.node none (mkA [(0, VV.rf 4 0 2), (2, vi 0), (4, VV.fn 46 [VV.tp [VV.tr (flatMap c_SGlassBatch a0) a0.length] 0, VV.pt 3 0]), (5, vi r1145), (6, VV.rf 4 0 2), (7, vi 2), (8, vi 1), (9, vb (decide ((1 : Int) < 2))), (10, VV.pt 4 1), (11, VV.fn 46 [VV.tp [VV.tr (flatMap c_SGlassBatch a0) a0.length] 0, VV.pt 3 0]), (12, VV.fn 46 [VV.tp [VV.tr (flatMap c_SGlassBatch a0) a0.length] 0, VV.pt 3 0]), (13, vi r1145), (14, vi r1145), (15, vb (!(decide (r1145 = 0)))), (17, vi 1)]) (.node none (mkA [(0, VV.tr (flatMap c_SGlassBatch a0) a0.length), (2, vi 0), (3, VV.pt 1 0), (4, VV.mp 0), (5, VV.tr (flatMap c_SGlassBatch a0) a0.length), (6, vi (a0.length : Int)), (7, vb (decide ((a0.length : Int) <= 40))), (8, VV.fn 45 [VV.tp [vb r1140.1] 0, VV.tp [vi r1140.2] 0]), (9, VV.tr (flatMap c_SGlassBatch a0) a0.length), (10, VV.fn 30 [VV.pt 1 0]), (11, VV.fn 46 [VV.tp [VV.tr (flatMap c_SGlassBatch a0) a0.length] 0, VV.pt 3 0]), (12, VV.rf 4 0 2)]) .nil))⟩
def nblank_CheckBatches_i27_i46_l0_0_e0 (a0 : (List SGlassBatch)) (r1140 : (Bool × Int)) (r1145 : Int) (r : Int × (List (ByteArray × Bool))) : VS := ⟨mkA [(2, vi r.1)], [some ⟨true, bigX + 1, flatMap (mpE vb) r.2⟩, some ⟨true, 1, [VV.mp 0]⟩, none, some ⟨true, 1, [VV.fn 30 [VV.pt 1 0]]⟩, some ⟨true, 1, [VV.fn 45 [VV.tp [vb r1140.1] 0, VV.tp [vi r1140.2] 0], VV.fn 46 [VV.tp [VV.tr (flatMap c_SGlassBatch a0) a0.length] 0, VV.pt 3 0]]⟩], (.node none (mkA [(0, VV.rf 4 0 2), (2, vi 0), (4, VV.fn 46 [VV.tp [VV.tr (flatMap c_SGlassBatch a0) a0.length] 0, VV.pt 3 0]), (5, vi r1145), (6, VV.rf 4 0 2), (7, vi 2), (8, vi 1), (9, vb (decide ((1 : Int) < 2))), (10, VV.pt 4 1), (11, VV.fn 46 [VV.tp [VV.tr (flatMap c_SGlassBatch a0) a0.length] 0, VV.pt 3 0]), (12, VV.fn 46 [VV.tp [VV.tr (flatMap c_SGlassBatch a0) a0.length] 0, VV.pt 3 0]), (13, vi r1145), (14, vi r1145), (15, vb (!(decide (r1145 = 0)))), (17, vi 1)]) (.node none (mkA [(0, VV.tr (flatMap c_SGlassBatch a0) a0.length), (2, vi 0), (3, VV.pt 1 0), (4, VV.mp 0), (5, VV.tr (flatMap c_SGlassBatch a0) a0.length), (6, vi (a0.length : Int)), (7, vb (decide ((a0.length : Int) <= 40))), (8, VV.fn 45 [VV.tp [vb r1140.1] 0, VV.tp [vi r1140.2] 0]), (9, VV.tr (flatMap c_SGlassBatch a0) a0.length), (10, VV.fn 30 [VV.pt 1 0]), (11, VV.fn 46 [VV.tp [VV.tr (flatMap c_SGlassBatch a0) a0.length] 0, VV.pt 3 0]), (12, VV.rf 4 0 2)]) .nil))⟩
def nblank_CheckBatches_i27_i46_l0_0_e1 (a0 : (List SGlassBatch)) (r1140 : (Bool × Int)) (r1145 : Int) (r : (List (ByteArray × Bool))) : VS := ⟨mkA [], [some ⟨true, bigX + 1, flatMap (mpE vb) r⟩, some ⟨true, 1, [VV.mp 0]⟩, none, some ⟨true, 1, [VV.fn 30 [VV.pt 1 0]]⟩, some ⟨true, 1, [VV.fn 45 [VV.tp [vb r1140.1] 0, VV.tp [vi r1140.2] 0], VV.fn 46 [VV.tp [VV.tr (flatMap c_SGlassBatch a0) a0.length] 0, VV.pt 3 0]]⟩], (.node none (mkA [(0, VV.rf 4 0 2), (2, vi 0), (4, VV.fn 46 [VV.tp [VV.tr (flatMap c_SGlassBatch a0) a0.length] 0, VV.pt 3 0]), (5, vi r1145), (6, VV.rf 4 0 2), (7, vi 2), (8, vi 1), (9, vb (decide ((1 : Int) < 2))), (10, VV.pt 4 1), (11, VV.fn 46 [VV.tp [VV.tr (flatMap c_SGlassBatch a0) a0.length] 0, VV.pt 3 0]), (12, VV.fn 46 [VV.tp [VV.tr (flatMap c_SGlassBatch a0) a0.length] 0, VV.pt 3 0]), (13, vi r1145), (14, vi r1145), (15, vb (!(decide (r1145 = 0)))), (17, vi 1)]) (.node none (mkA [(0, VV.tr (flatMap c_SGlassBatch a0) a0.length), (2, vi 0), (3, VV.pt 1 0), (4, VV.mp 0), (5, VV.tr (flatMap c_SGlassBatch a0) a0.length), (6, vi (a0.length : Int)), (7, vb (decide ((a0.length : Int) <= 40))), (8, VV.fn 45 [VV.tp [vb r1140.1] 0, VV.tp [vi r1140.2] 0]), (9, VV.tr (flatMap c_SGlassBatch a0) a0.length), (10, VV.fn 30 [VV.pt 1 0]), (11, VV.fn 46 [VV.tp [VV.tr (flatMap c_SGlassBatch a0) a0.length] 0, VV.pt 3 0]), (12, VV.rf 4 0 2)]) .nil))⟩
def nblank_CheckBatches_i27_i46_l0_0 (k : Nat) (a0 : (List SGlassBatch)) (r1140 : (Bool × Int)) (r1145 : Int) : Nat -> (List (ByteArray × Bool)) -> Int -> Option (Sum (Int × (List (ByteArray × Bool))) (List (ByteArray × Bool)))
 | 0, _, _ => none
 | fuel + 1, y0, x8 => if x8 < (a0.length : Int) then (if 0 <= x8 /\ x8 < (a0.length : Int) then (if mhas y0 ((a0.getD x8.toNat default).Name) = true then ((nblank_isName k ((a0.getD x8.toNat default).Name)).bind fun r1263 => ((nblank_need k r1263 4).bind fun r1266 => ((nblank_need k (!(mget y0 ((a0.getD x8.toNat default).Name))) 5).bind fun r1268 => ((nblank_within k ((a0.getD x8.toNat default).Diameter) 1 1000).bind fun r1271 => ((nblank_within k ((a0.getD x8.toNat default).Thick) 1 500).bind fun r1274 => ((nblank_within k ((a0.getD x8.toNat default).Count) 0 1000).bind fun r1277 => ((nblank_firstOf_c0_Lblank_need_1_blank_need_1_blank_need_1_blank_need_1_blank_need_1 k (r1266, r1268, r1271, r1274, r1277)).bind fun r1280 => (if r1280 = 0 then (nblank_CheckBatches_i27_i46_l0_0 k a0 r1140 r1145 fuel (mset y0 ((a0.getD x8.toNat default).Name) true) (w64 (x8 + 1))) else (some (.inl (r1280, mset y0 ((a0.getD x8.toNat default).Name) true))))))))))) else ((nblank_isName k ((a0.getD x8.toNat default).Name)).bind fun r1288 => ((nblank_need k r1288 4).bind fun r1291 => ((nblank_need k (!false) 5).bind fun r1293 => ((nblank_within k ((a0.getD x8.toNat default).Diameter) 1 1000).bind fun r1295 => ((nblank_within k ((a0.getD x8.toNat default).Thick) 1 500).bind fun r1298 => ((nblank_within k ((a0.getD x8.toNat default).Count) 0 1000).bind fun r1301 => ((nblank_firstOf_c0_Lblank_need_1_blank_need_1_blank_need_1_blank_need_1_blank_need_1 k (r1291, r1293, r1295, r1298, r1301)).bind fun r1304 => (if r1304 = 0 then (nblank_CheckBatches_i27_i46_l0_0 k a0 r1140 r1145 fuel (mset y0 ((a0.getD x8.toNat default).Name) true) (w64 (x8 + 1))) else (some (.inl (r1304, mset y0 ((a0.getD x8.toNat default).Name) true)))))))))))) else none) else (some (.inr y0))
theorem nblank_CheckBatches_i27_i46_l0_0_ok (k : Nat) (a0 : (List SGlassBatch)) (r1140 : (Bool × Int)) (r1145 : Int) : ∀ (fuel : Nat) (y0 : List (ByteArray × Bool)) (x8 : Int) (r : Sum (Int × (List (ByteArray × Bool))) (List (ByteArray × Bool))), nblank_CheckBatches_i27_i46_l0_0 k a0 r1140 r1145 fuel y0 x8 = some r -> (match r with | .inl r => VLoop none Try.prog (szF Try.f46) (bodyOf Try.f46 0) (nblank_CheckBatches_i27_i46_l0_0_h a0 r1140 r1145 y0 x8) .ret (nblank_CheckBatches_i27_i46_l0_0_e0 a0 r1140 r1145 r) | .inr r => VLoop none Try.prog (szF Try.f46) (bodyOf Try.f46 0) (nblank_CheckBatches_i27_i46_l0_0_h a0 r1140 r1145 y0 x8) (.exit 0) (nblank_CheckBatches_i27_i46_l0_0_e1 a0 r1140 r1145 r)) := by
 intro fuel
 induction fuel with
 | zero => intro y0 x8 r h; rw [nblank_CheckBatches_i27_i46_l0_0.eq_1] at h; cases h
 | succ fuel ih =>
  intro y0 x8 r h
  rw [nblank_CheckBatches_i27_i46_l0_0.eq_2] at h
  rcases ifs h with ⟨h1257, h⟩ | ⟨h1257, h⟩
  ·obtain ⟨h1258, h⟩ := ifn h
   have e1259 := (show loadL Try.prog 44 (x8.toNat * 4) (flatMap c_SGlassBatch a0) = some (VV.ag (c_SGlassBatch (a0.getD x8.toNat default))) from ld_whole ag44 c_SGlassBatch 4 sz44 len_c_SGlassBatch a0 default h1258 (by omega))
   rcases ifs h with ⟨h1260, h⟩ | ⟨h1260, h⟩
   ·have e1261 := (show keysM (kdV (.string ((a0.getD x8.toNat default).Name))) (flatMap (mpE vb) y0) = true /\ lkM (.string ((a0.getD x8.toNat default).Name)) (flatMap (mpE vb) y0) = some (vb (mget y0 ((a0.getD x8.toNat default).Name))) from ⟨(keysM_mp vb ((a0.getD x8.toNat default).Name) y0), (lkM_has vb ((a0.getD x8.toNat default).Name) y0 h1260)⟩)
    have e1262 := (show keysM (kdV (.string ((a0.getD x8.toNat default).Name))) (flatMap (mpE vb) y0) = true from (keysM_mp vb ((a0.getD x8.toNat default).Name) y0))
    obtain ⟨r1263, h1264, h⟩ := bs h
    have e1265 := (nblank_isName_ok k ((a0.getD x8.toNat default).Name) _ h1264)
    obtain ⟨r1266, h1267, h⟩ := bs h
    obtain ⟨r1268, h1269, h⟩ := bs h
    have e1270 := (nblank_need_ok k (!(mget y0 ((a0.getD x8.toNat default).Name))) 5 _ h1269)
    obtain ⟨r1271, h1272, h⟩ := bs h
    have e1273 := (nblank_within_ok k ((a0.getD x8.toNat default).Diameter) 1 1000 _ h1272)
    obtain ⟨r1274, h1275, h⟩ := bs h
    have e1276 := (nblank_within_ok k ((a0.getD x8.toNat default).Thick) 1 500 _ h1275)
    obtain ⟨r1277, h1278, h⟩ := bs h
    have e1279 := (nblank_within_ok k ((a0.getD x8.toNat default).Count) 0 1000 _ h1278)
    obtain ⟨r1280, h1281, h⟩ := bs h
    have e1282 := (VC.args (nblank_firstOf_c0_Lblank_need_1_blank_need_1_blank_need_1_blank_need_1_blank_need_1_ok k (r1266, r1268, r1271, r1274, r1277) _ h1281) (eqS1_0 r1266 r1268 r1271 r1274 r1277))
    have e1283 := (ti (ti (an e1265 (an (nblank_need_ok k r1263 4 _ h1267) (ti (ti (an e1270 (ti (ti (an e1273 (ti (ti (an e1276 (ti (ti (an e1279 (ti (an e1282 (ti trivial)))))))))))))))))))
    have e1284 := (an (an Try.func30 (an (ti (ti trivial)) (an (ti (ti (ti (an e1261 (ti trivial))))) (an (ti (ti (ti (an e1262 trivial)))) (an e1283 trivial))))) (ti trivial))
    rcases ifs h with ⟨h1285, h⟩ | ⟨h1285, h⟩
    ·have h2 := ih _ _ _ h
     obtain ⟨q, hv, hq⟩ := pkR (rd := none) (P := Try.prog) (fn := Try.f46) (k := 0) (s := (nblank_CheckBatches_i27_i46_l0_0_h a0 r1140 r1145 y0 x8)) (ans := [.reg (.n :: []), .br true, .reg (.n :: .v (VV.ag (c_SGlassBatch (a0.getD x8.toNat default))) :: .n :: .n :: []), .reg (arS1_21 y0 a0 x8 r1263 r1266 r1268 r1271 r1274 r1277 r1280), .reg (.n :: .n :: []), .br false, .reg (.n :: .n :: [])]) (c := ⟨[(1, none), (6, none), (7, none), (8, none)], [some (flatMap (mpE vb) (mset y0 ((a0.getD x8.toNat default).Name) true)), none, none, none, none], []⟩) (e := .normal) (s1 := (nblank_CheckBatches_i27_i46_l0_0_h a0 r1140 r1145 (mset y0 ((a0.getD x8.toNat default).Name) true) (w64 (x8 + 1)))) (an (an (ti trivial) (an (an (decide_eq_true h1257) trivial) (an (an (an h1258 (an e1259 (ti (ti trivial)))) (an (ti (ti (an e1284 (ti trivial)))) (an (ti (ti trivial)) (an (not_f (decide_eq_true h1285)) trivial)))) (ti (ti trivial))))) (ti (an (show upM (.string ((a0.getD x8.toNat default).Name)) (vb true) (flatMap (mpE vb) y0) = flatMap (mpE vb) (mset y0 ((a0.getD x8.toNat default).Name) true) from (by exact upM_mp vb ((a0.getD x8.toNat default).Name) true y0)) trivial))) (by kernel_rfl)
     cases r with
     | inl r => exact round_next pm pn hv hq h2
     | inr r =>
      exact round_next pm pn hv hq h2
    ·injection h with h; subst h
     exact round_stop (c := ⟨[(2, none)], [some (flatMap (mpE vb) (mset y0 ((a0.getD x8.toNat default).Name) true)), none, none, none, none], []⟩) (s1 := (nblank_CheckBatches_i27_i46_l0_0_e0 a0 r1140 r1145 (r1280, mset y0 ((a0.getD x8.toNat default).Name) true))) pm pn (ans := [.reg (.n :: []), .br true, .reg (.n :: .v (VV.ag (c_SGlassBatch (a0.getD x8.toNat default))) :: .n :: .n :: []), .reg (arS1_21 y0 a0 x8 r1263 r1266 r1268 r1271 r1274 r1277 r1280), .reg (.n :: .n :: []), .br true, .reg (.n :: .n :: [])]) (by kernel_rfl) (by intro e; cases e) (an (an (ti trivial) (an (an (decide_eq_true h1257) trivial) (an (an h1258 (an e1259 (ti (ti trivial)))) (an (ti (ti (an e1284 (ti trivial)))) (an (ti (ti trivial)) (an (not_t (decide_eq_false h1285)) (an (ti (ti trivial)) trivial))))))) (ti (an (show upM (.string ((a0.getD x8.toNat default).Name)) (vb true) (flatMap (mpE vb) y0) = flatMap (mpE vb) (mset y0 ((a0.getD x8.toNat default).Name) true) from (by exact upM_mp vb ((a0.getD x8.toNat default).Name) true y0)) trivial)))
   ·have e1286 := (show keysM (kdV (.string ((a0.getD x8.toNat default).Name))) (flatMap (mpE vb) y0) = true /\ lkM (.string ((a0.getD x8.toNat default).Name)) (flatMap (mpE vb) y0) = none from ⟨(keysM_mp vb ((a0.getD x8.toNat default).Name) y0), (lkM_no vb ((a0.getD x8.toNat default).Name) y0 (bool_f h1260))⟩)
    have e1287 := (show keysM (kdV (.string ((a0.getD x8.toNat default).Name))) (flatMap (mpE vb) y0) = true from (keysM_mp vb ((a0.getD x8.toNat default).Name) y0))
    obtain ⟨r1288, h1289, h⟩ := bs h
    have e1290 := (nblank_isName_ok k ((a0.getD x8.toNat default).Name) _ h1289)
    obtain ⟨r1291, h1292, h⟩ := bs h
    obtain ⟨r1293, h1294, h⟩ := bs h
    obtain ⟨r1295, h1296, h⟩ := bs h
    have e1297 := (nblank_within_ok k ((a0.getD x8.toNat default).Diameter) 1 1000 _ h1296)
    obtain ⟨r1298, h1299, h⟩ := bs h
    have e1300 := (nblank_within_ok k ((a0.getD x8.toNat default).Thick) 1 500 _ h1299)
    obtain ⟨r1301, h1302, h⟩ := bs h
    have e1303 := (nblank_within_ok k ((a0.getD x8.toNat default).Count) 0 1000 _ h1302)
    obtain ⟨r1304, h1305, h⟩ := bs h
    have e1306 := (VC.args (nblank_firstOf_c0_Lblank_need_1_blank_need_1_blank_need_1_blank_need_1_blank_need_1_ok k (r1291, r1293, r1295, r1298, r1301) _ h1305) (eqS1_0 r1291 r1293 r1295 r1298 r1301))
    have e1307 := (ti (ti (an e1290 (an (nblank_need_ok k r1288 4 _ h1292) (ti (ti (an (nblank_need_ok k (!false) 5 _ h1294) (ti (ti (an e1297 (ti (ti (an e1300 (ti (ti (an e1303 (ti (an e1306 (ti trivial)))))))))))))))))))
    have e1308 := (an (an Try.func30 (an (ti (ti trivial)) (an (ti (ti (ti (an e1286 (ti trivial))))) (an (ti (ti (ti (an e1287 trivial)))) (an e1307 trivial))))) (ti trivial))
    rcases ifs h with ⟨h1309, h⟩ | ⟨h1309, h⟩
    ·have h2 := ih _ _ _ h
     obtain ⟨q, hv, hq⟩ := pkR (rd := none) (P := Try.prog) (fn := Try.f46) (k := 0) (s := (nblank_CheckBatches_i27_i46_l0_0_h a0 r1140 r1145 y0 x8)) (ans := [.reg (.n :: []), .br true, .reg (.n :: .v (VV.ag (c_SGlassBatch (a0.getD x8.toNat default))) :: .n :: .n :: []), .reg (arS1_22 r1288 r1291 r1293 r1295 r1298 r1301 r1304), .reg (.n :: .n :: []), .br false, .reg (.n :: .n :: [])]) (c := ⟨[(1, none), (6, none), (7, none), (8, none)], [some (flatMap (mpE vb) (mset y0 ((a0.getD x8.toNat default).Name) true)), none, none, none, none], []⟩) (e := .normal) (s1 := (nblank_CheckBatches_i27_i46_l0_0_h a0 r1140 r1145 (mset y0 ((a0.getD x8.toNat default).Name) true) (w64 (x8 + 1)))) (an (an (ti trivial) (an (an (decide_eq_true h1257) trivial) (an (an (an h1258 (an e1259 (ti (ti trivial)))) (an (ti (ti (an e1308 (ti trivial)))) (an (ti (ti trivial)) (an (not_f (decide_eq_true h1309)) trivial)))) (ti (ti trivial))))) (ti (an (show upM (.string ((a0.getD x8.toNat default).Name)) (vb true) (flatMap (mpE vb) y0) = flatMap (mpE vb) (mset y0 ((a0.getD x8.toNat default).Name) true) from (by exact upM_mp vb ((a0.getD x8.toNat default).Name) true y0)) trivial))) (by kernel_rfl)
     cases r with
     | inl r => exact round_next pm pn hv hq h2
     | inr r =>
      exact round_next pm pn hv hq h2
    ·injection h with h; subst h
     exact round_stop (c := ⟨[(2, none)], [some (flatMap (mpE vb) (mset y0 ((a0.getD x8.toNat default).Name) true)), none, none, none, none], []⟩) (s1 := (nblank_CheckBatches_i27_i46_l0_0_e0 a0 r1140 r1145 (r1304, mset y0 ((a0.getD x8.toNat default).Name) true))) pm pn (ans := [.reg (.n :: []), .br true, .reg (.n :: .v (VV.ag (c_SGlassBatch (a0.getD x8.toNat default))) :: .n :: .n :: []), .reg (arS1_22 r1288 r1291 r1293 r1295 r1298 r1301 r1304), .reg (.n :: .n :: []), .br true, .reg (.n :: .n :: [])]) (by kernel_rfl) (by intro e; cases e) (an (an (ti trivial) (an (an (decide_eq_true h1257) trivial) (an (an h1258 (an e1259 (ti (ti trivial)))) (an (ti (ti (an e1308 (ti trivial)))) (an (ti (ti trivial)) (an (not_t (decide_eq_false h1309)) (an (ti (ti trivial)) trivial))))))) (ti (an (show upM (.string ((a0.getD x8.toNat default).Name)) (vb true) (flatMap (mpE vb) y0) = flatMap (mpE vb) (mset y0 ((a0.getD x8.toNat default).Name) true) from (by exact upM_mp vb ((a0.getD x8.toNat default).Name) true y0)) trivial)))
  ·injection h with h; subst h
   exact round_stop (c := ⟨[], [none, none, none, none, none], []⟩) (s1 := (nblank_CheckBatches_i27_i46_l0_0_e1 a0 r1140 r1145 y0)) pm pn (ans := [.reg (.n :: []), .br false]) (by kernel_rfl) (by intro e; cases e) (an (an (ti trivial) (an (decide_eq_false h1257) trivial)) (ti trivial))
noncomputable def arS1_23 (z0 : (Bool × Int)) (z1 : Int) : List Ans := (nN 3 (.call (VV.fn 45 [VV.tp [vb z0.1] 0, VV.tp [vi z0.2] 0]) :: .n :: .n :: .inl (inlF Try.f29 [.reg (nN 3 []), .frz 2, .reg (.n :: .n :: [])]) :: .n :: .inl (inlF Try.f27 [.reg (.n :: []), .reg (nN 3 []), .unr 2, .reg (.n :: []), .br true, .reg (.v (VV.pt 4 0) :: .n :: .n :: []), .reg (.n :: .call (vi z1) :: .n :: []), .reg (.n :: .n :: []), .br true, .reg (.n :: .n :: [])]) :: .n :: []))
def nblank_CheckBatches (k : Nat) (a0 : (List SGlassBatch)) : Option Int :=
 (nblank_need k (decide ((a0.length : Int) <= 40)) 8).bind fun r1140 => ((nblank_need_1 k r1140.1 r1140.2).bind fun r1145 => (if r1145 = 0 then ((nblank_CheckBatches_i27_i46_l0_0 k a0 r1140 r1145 k ([] : List (ByteArray × Bool)) 0).bind fun r1311 => (match r1311 with | .inl r1312 => (if r1312.1 = 0 then (some 0) else (some r1312.1)) | .inr r1313 => (some 0))) else (some r1145)))
theorem nblank_CheckBatches_ok (k : Nat) (a0 : (List SGlassBatch)) (r : Int) (h : nblank_CheckBatches k a0 = some r) : VC Try.prog 11 [VV.tr (flatMap c_SGlassBatch a0) a0.length] (vi r) := by
 unfold nblank_CheckBatches at h
 obtain ⟨r1140, h1141, h⟩ := bs h
 have e1142 := (nblank_need_ok k (decide ((a0.length : Int) <= 40)) 8 _ h1141)
 have e1143 := (an (an Try.func29 (an (ti (ti (ti trivial))) (an (ti (ti trivial)) trivial))) (ti trivial))
 have e1144 := (show ((0 : Int) <= 0 /\ (0 : Int) < ((2 : Nat) : Int)) /\ VV.pt 4 (0 + (0 : Int).toNat * 1) = VV.pt 4 0 from ⟨⟨by decide, by decide⟩, rfl⟩)
 obtain ⟨r1145, h1146, h⟩ := bs h
 have e1147 := (nblank_need_1_ok k r1140.1 r1140.2 _ h1146)
 rcases ifs h with ⟨h1148, h⟩ | ⟨h1148, h⟩
 ·have e1149 := (show ((0 : Int) <= 1 /\ (1 : Int) < ((2 : Nat) : Int)) /\ VV.pt 4 (0 + (1 : Int).toNat * 1) = VV.pt 4 1 from ⟨⟨by decide, by decide⟩, rfl⟩)
  have e1150 := (show loadL Try.prog 22 0 [VV.tr (flatMap c_SGlassBatch a0) a0.length] = some (VV.tr (flatMap c_SGlassBatch a0) a0.length) from (ld_one ag22 rfl))
  obtain ⟨r1311, h1310, h⟩ := bs h
  have hph1310 := nblank_CheckBatches_i27_i46_l0_0_ok k a0 r1140 r1145 _ _ _ _ h1310
  cases r1311 with
  | inl r1312 =>
   dsimp only at h
   have e1314 := (an (ti (an (show [] = flatMap (mpE vb) ([] : List (ByteArray × Bool)) from rfl) trivial)) (VRun.loop hph1310))
   have e1315 := (an (an Try.func46 (an (ti trivial) (an (an e1150 (ti (ti trivial))) e1314))) (ti trivial))
   rcases ifs h with ⟨h1316, h⟩ | ⟨h1316, h⟩
   ·have e1317 := (an (an Try.func27 (an (ti trivial) (an (an (ti (ti (ti trivial))) (an (an (ti trivial) (an (an (show (decide ((0 : Int) < 2)) = true from (decide_eq_true (by decide))) trivial) (an (an (an e1144 (ti (ti trivial))) (an (ti (an e1147 (ti trivial))) (an (ti (ti trivial)) (an (not_f (decide_eq_true h1148)) trivial)))) (ti (ti trivial))))) (an (an (ti trivial) (an (an (show (decide ((1 : Int) < 2)) = true from (decide_eq_true (by decide))) trivial) (an (an (an e1149 (ti (ti trivial))) (an (ti (an e1315 (ti trivial))) (an (ti (ti trivial)) (an (not_f (decide_eq_true h1316)) trivial)))) (ti (ti trivial))))) (an (ti trivial) (an (show (decide ((2 : Int) < 2)) = false from (decide_eq_false (by decide))) trivial))))) (an (ti trivial) trivial)))) (ti trivial))
    have e1318 := (ti (ti (ti (an e1142 (ti (ti (an e1143 (ti (an e1317 (ti trivial))))))))))
    injection h with h; subst h
    exact fun_ok pm pn Try.func11 (r0 := vi 0) (ans := [.reg (.n :: []), .reg (nN 3 []), .reg (nN 3 (.call (VV.fn 45 [VV.tp [vb r1140.1] 0, VV.tp [vi r1140.2] 0]) :: .n :: .n :: .inl (inlF Try.f29 [.reg (nN 3 []), .frz 2, .reg (.n :: .n :: [])]) :: .n :: .inl (inlF Try.f27 [.reg (.n :: []), .reg (nN 3 []), .unr 4, .reg (.n :: []), .br true, .reg (.v (VV.pt 4 0) :: .n :: .n :: []), .reg (.n :: .call (vi r1145) :: .n :: []), .reg (.n :: .n :: []), .br false, .reg (.n :: .n :: []), .reg (.n :: []), .br true, .reg (.v (VV.pt 4 1) :: .n :: .n :: []), .reg (.n :: .inl (inlF Try.f46 [.reg (.n :: []), .reg (.v (VV.tr (flatMap c_SGlassBatch a0) a0.length) :: .n :: .n :: []), .sub ⟨[(1, none), (6, none), (7, none), (8, none)], [some (flatMap (mpE vb) ([] : List (ByteArray × Bool))), none, none, none, none], []⟩ .ret (nblank_CheckBatches_i27_i46_l0_0_e0 a0 r1140 r1145 r1312)]) :: .n :: []), .reg (.n :: .n :: []), .br false, .reg (.n :: .n :: []), .reg (.n :: []), .br false, .reg (.n :: [])]) :: .n :: []))]) (fr := true) (by kernel_rfl) (an (an (ti trivial) (an (ti (ti (ti trivial))) (an e1318 trivial))) (ti trivial)) (Wv.refl _)
   ·have e1319 := (an (an Try.func27 (an (ti trivial) (an (ti (ti (ti trivial))) (an (an (ti trivial) (an (an (show (decide ((0 : Int) < 2)) = true from (decide_eq_true (by decide))) trivial) (an (an (an e1144 (ti (ti trivial))) (an (ti (an e1147 (ti trivial))) (an (ti (ti trivial)) (an (not_f (decide_eq_true h1148)) trivial)))) (ti (ti trivial))))) (an (ti trivial) (an (an (show (decide ((1 : Int) < 2)) = true from (decide_eq_true (by decide))) trivial) (an (an e1149 (ti (ti trivial))) (an (ti (an e1315 (ti trivial))) (an (ti (ti trivial)) (an (not_t (decide_eq_false h1316)) (an (ti (ti trivial)) trivial))))))))))) (ti trivial))
    have e1320 := (ti (ti (ti (an e1142 (ti (ti (an e1143 (ti (an e1319 (ti trivial))))))))))
    injection h with h; subst h
    exact fun_ok pm pn Try.func11 (r0 := vi r1312.1) (ans := [.reg (.n :: []), .reg (nN 3 []), .reg (nN 3 (.call (VV.fn 45 [VV.tp [vb r1140.1] 0, VV.tp [vi r1140.2] 0]) :: .n :: .n :: .inl (inlF Try.f29 [.reg (nN 3 []), .frz 2, .reg (.n :: .n :: [])]) :: .n :: .inl (inlF Try.f27 [.reg (.n :: []), .reg (nN 3 []), .unr 3, .reg (.n :: []), .br true, .reg (.v (VV.pt 4 0) :: .n :: .n :: []), .reg (.n :: .call (vi r1145) :: .n :: []), .reg (.n :: .n :: []), .br false, .reg (.n :: .n :: []), .reg (.n :: []), .br true, .reg (.v (VV.pt 4 1) :: .n :: .n :: []), .reg (.n :: .inl (inlF Try.f46 [.reg (.n :: []), .reg (.v (VV.tr (flatMap c_SGlassBatch a0) a0.length) :: .n :: .n :: []), .sub ⟨[(1, none), (6, none), (7, none), (8, none)], [some (flatMap (mpE vb) ([] : List (ByteArray × Bool))), none, none, none, none], []⟩ .ret (nblank_CheckBatches_i27_i46_l0_0_e0 a0 r1140 r1145 r1312)]) :: .n :: []), .reg (.n :: .n :: []), .br true, .reg (.n :: .n :: [])]) :: .n :: []))]) (fr := true) (by kernel_rfl) (an (an (ti trivial) (an (ti (ti (ti trivial))) (an e1320 trivial))) (ti trivial)) (Wv.refl _)
  | inr r1313 =>
   dsimp only at h
   have e1321 := (an (ti (an (show [] = flatMap (mpE vb) ([] : List (ByteArray × Bool)) from rfl) trivial)) (VRun.loop hph1310))
   have e1322 := (an (an Try.func46 (an (ti trivial) (an (an (an e1150 (ti (ti trivial))) e1321) (an (ti trivial) trivial)))) (ti trivial))
   have e1323 := (an (an Try.func27 (an (ti trivial) (an (an (ti (ti (ti trivial))) (an (an (ti trivial) (an (an (show (decide ((0 : Int) < 2)) = true from (decide_eq_true (by decide))) trivial) (an (an (an e1144 (ti (ti trivial))) (an (ti (an e1147 (ti trivial))) (an (ti (ti trivial)) (an (not_f (decide_eq_true h1148)) trivial)))) (ti (ti trivial))))) (an (an (ti trivial) (an (an (show (decide ((1 : Int) < 2)) = true from (decide_eq_true (by decide))) trivial) (an (an (an e1149 (ti (ti trivial))) (an (ti (an e1322 (ti trivial))) (an (ti (ti trivial)) (an (show (!(decide ((0 : Int) = 0))) = false from (not_f (decide_eq_true (by decide)))) trivial)))) (ti (ti trivial))))) (an (ti trivial) (an (show (decide ((2 : Int) < 2)) = false from (decide_eq_false (by decide))) trivial))))) (an (ti trivial) trivial)))) (ti trivial))
   have e1324 := (ti (ti (ti (an e1142 (ti (ti (an e1143 (ti (an e1323 (ti trivial))))))))))
   injection h with h; subst h
   exact fun_ok pm pn Try.func11 (r0 := vi 0) (ans := [.reg (.n :: []), .reg (nN 3 []), .reg (nN 3 (.call (VV.fn 45 [VV.tp [vb r1140.1] 0, VV.tp [vi r1140.2] 0]) :: .n :: .n :: .inl (inlF Try.f29 [.reg (nN 3 []), .frz 2, .reg (.n :: .n :: [])]) :: .n :: .inl (inlF Try.f27 [.reg (.n :: []), .reg (nN 3 []), .unr 4, .reg (.n :: []), .br true, .reg (.v (VV.pt 4 0) :: .n :: .n :: []), .reg (.n :: .call (vi r1145) :: .n :: []), .reg (.n :: .n :: []), .br false, .reg (.n :: .n :: []), .reg (.n :: []), .br true, .reg (.v (VV.pt 4 1) :: .n :: .n :: []), .reg (.n :: .inl (inlF Try.f46 [.reg (.n :: []), .reg (.v (VV.tr (flatMap c_SGlassBatch a0) a0.length) :: .n :: .n :: []), .sub ⟨[(1, none), (6, none), (7, none), (8, none)], [some (flatMap (mpE vb) ([] : List (ByteArray × Bool))), none, none, none, none], []⟩ (.exit 0) (nblank_CheckBatches_i27_i46_l0_0_e1 a0 r1140 r1145 r1313), .reg (.n :: [])]) :: .n :: []), .reg (.n :: .n :: []), .br false, .reg (.n :: .n :: []), .reg (.n :: []), .br false, .reg (.n :: [])]) :: .n :: []))]) (fr := true) (by kernel_rfl) (an (an (ti trivial) (an (ti (ti (ti trivial))) (an e1324 trivial))) (ti trivial)) (Wv.refl _)
 ·have e1325 := (an (an Try.func27 (an (ti trivial) (an (ti (ti (ti trivial))) (an (ti trivial) (an (an (show (decide ((0 : Int) < 2)) = true from (decide_eq_true (by decide))) trivial) (an (an e1144 (ti (ti trivial))) (an (ti (an e1147 (ti trivial))) (an (ti (ti trivial)) (an (not_t (decide_eq_false h1148)) (an (ti (ti trivial)) trivial)))))))))) (ti trivial))
  have e1326 := (ti (ti (ti (an e1142 (ti (ti (an e1143 (ti (an e1325 (ti trivial))))))))))
  injection h with h; subst h
  exact fun_ok pm pn Try.func11 (r0 := vi r1145) (ans := [.reg (.n :: []), .reg (nN 3 []), .reg (arS1_23 r1140 r1145)]) (fr := true) (by kernel_rfl) (an (an (ti trivial) (an (ti (ti (ti trivial))) (an e1326 trivial))) (ti trivial)) (Wv.refl _)
def nspeculumref03_BatchAt_l0_0_h (a0 : (List SGlassBatch)) (a1 : ByteArray) (x5 : Int) : VS := ⟨mkA [(0, VV.tr (flatMap c_SGlassBatch a0) a0.length), (1, vs a1), (5, vi x5)], [], .nil⟩
def nspeculumref03_BatchAt_l0_0_e0 (a0 : (List SGlassBatch)) (a1 : ByteArray) (r : Int) : VS := ⟨mkA [(4, vi r)], [], .nil⟩
def nspeculumref03_BatchAt_l0_0_e1 (a0 : (List SGlassBatch)) (a1 : ByteArray) (r : Unit) : VS := ⟨mkA [], [], .nil⟩
def nspeculumref03_BatchAt_l0_0 (k : Nat) (a0 : (List SGlassBatch)) (a1 : ByteArray) : Nat -> Int -> Option (Sum Int Unit)
 | 0, _ => none
 | fuel + 1, x5 => if x5 < (a0.length : Int) then (if 0 <= x5 /\ x5 < (a0.length : Int) then (if ((a0.getD x5.toNat default).Name) = a1 then (some (.inl x5)) else (nspeculumref03_BatchAt_l0_0 k a0 a1 fuel (w64 (x5 + 1)))) else none) else (some (.inr ()))
theorem nspeculumref03_BatchAt_l0_0_ok (k : Nat) (a0 : (List SGlassBatch)) (a1 : ByteArray) : ∀ (fuel : Nat) (x5 : Int) (r : Sum Int Unit), nspeculumref03_BatchAt_l0_0 k a0 a1 fuel x5 = some r -> (match r with | .inl r => VLoop none Try.prog (szF Try.f25) (bodyOf Try.f25 0) (nspeculumref03_BatchAt_l0_0_h a0 a1 x5) .ret (nspeculumref03_BatchAt_l0_0_e0 a0 a1 r) | .inr r => VLoop none Try.prog (szF Try.f25) (bodyOf Try.f25 0) (nspeculumref03_BatchAt_l0_0_h a0 a1 x5) (.exit 0) (nspeculumref03_BatchAt_l0_0_e1 a0 a1 r)) := by
 intro fuel
 induction fuel with
 | zero => intro x5 r h; rw [nspeculumref03_BatchAt_l0_0.eq_1] at h; cases h
 | succ fuel ih =>
  intro x5 r h
  rw [nspeculumref03_BatchAt_l0_0.eq_2] at h
  rcases ifs h with ⟨h1368, h⟩ | ⟨h1368, h⟩
  ·obtain ⟨h1369, h⟩ := ifn h
   have e1370 := (show loadL Try.prog 9 (x5.toNat * 4 + 0) (flatMap c_SGlassBatch a0) = some (vs ((a0.getD x5.toNat default).Name)) from (ld_flat ag9 c_SGlassBatch 4 0 len_c_SGlassBatch (by omega) a0 default h1369 (by omega)).trans rfl)
   have e1371 := (ti (ti (an h1369 (ti (an e1370 (ti (ti trivial)))))))
   rcases ifs h with ⟨h1372, h⟩ | ⟨h1372, h⟩
   ·injection h with h; subst h
    exact round_stop (c := ⟨[(4, none)], [], []⟩) (s1 := (nspeculumref03_BatchAt_l0_0_e0 a0 a1 x5)) pm pn (ans := [.reg (nN 4 []), .br true, .reg (nN 4 (.v (vs ((a0.getD x5.toNat default).Name)) :: .n :: .n :: [])), .br true, .reg (.n :: .n :: [])]) (by kernel_rfl) (by intro e; cases e) (an (an (an (ti (ti (ti (ti trivial)))) (an (decide_eq_true h1368) trivial)) (an e1371 (an (decide_eq_true h1372) (an (ti (ti trivial)) trivial)))) (ti trivial))
   ·have h2 := ih _ _ h
    obtain ⟨q, hv, hq⟩ := pkR (rd := none) (P := Try.prog) (fn := Try.f25) (k := 0) (s := (nspeculumref03_BatchAt_l0_0_h a0 a1 x5)) (ans := [.reg (nN 4 []), .br true, .reg (nN 4 (.v (vs ((a0.getD x5.toNat default).Name)) :: .n :: .n :: [])), .br false, .reg (nN 3 [])]) (c := ⟨[(0, none), (1, none), (5, none)], [], []⟩) (e := .normal) (s1 := (nspeculumref03_BatchAt_l0_0_h a0 a1 (w64 (x5 + 1)))) (an (an (an (ti (ti (ti (ti trivial)))) (an (decide_eq_true h1368) trivial)) (an (an e1371 (an (decide_eq_false h1372) trivial)) (ti (ti (ti trivial))))) (ti trivial)) (by kernel_rfl)
    cases r with
    | inl r => exact round_next pm pn hv hq h2
    | inr r =>
     exact round_next pm pn hv hq h2
  ·injection h with h; subst h
   exact round_stop (c := ⟨[], [], []⟩) (s1 := (nspeculumref03_BatchAt_l0_0_e1 a0 a1 ())) pm pn (ans := [.reg (nN 4 []), .br false]) (by kernel_rfl) (by intro e; cases e) (an (an (ti (ti (ti (ti trivial)))) (an (decide_eq_false h1368) trivial)) (ti trivial))
def nspeculumref03_BatchAt (k : Nat) (a0 : (List SGlassBatch)) (a1 : ByteArray) : Option Int :=
 (nspeculumref03_BatchAt_l0_0 k a0 a1 k 0).bind fun r1374 => (match r1374 with | .inl r1375 => (some r1375) | .inr r1376 => (some (-1)))
theorem nspeculumref03_BatchAt_ok (k : Nat) (a0 : (List SGlassBatch)) (a1 : ByteArray) (r : Int) (h : nspeculumref03_BatchAt k a0 a1 = some r) : VC Try.prog 25 [VV.tr (flatMap c_SGlassBatch a0) a0.length, vs a1] (vi r) := by
 unfold nspeculumref03_BatchAt at h
 obtain ⟨r1374, h1373, h⟩ := bs h
 have hph1373 := nspeculumref03_BatchAt_l0_0_ok k a0 a1 _ _ _ h1373
 cases r1374 with
 | inl r1375 =>
  dsimp only at h
  have e1377 := (an (ti trivial) (VRun.loop hph1373))
  injection h with h; subst h
  exact fun_ok pm pn Try.func25 (r0 := vi r1375) (ans := [.reg (.n :: []), .reg (.n :: []), .sub ⟨[(0, none), (1, none), (5, none)], [], []⟩ .ret (nspeculumref03_BatchAt_l0_0_e0 a0 a1 r1375)]) (fr := true) (by kernel_rfl) (an (an (ti trivial) (an (ti trivial) e1377)) (ti trivial)) (Wv.refl _)
 | inr r1376 =>
  dsimp only at h
  have e1378 := (an (ti trivial) (VRun.loop hph1373))
  injection h with h; subst h
  exact fun_ok pm pn Try.func25 (r0 := vi (-1)) (ans := [.reg (.n :: []), .reg (.n :: []), .sub ⟨[(0, none), (1, none), (5, none)], [], []⟩ (.exit 0) (nspeculumref03_BatchAt_l0_0_e1 a0 a1 r1376), .reg (.n :: [])]) (fr := true) (by kernel_rfl) (an (an (ti trivial) (an (an (ti trivial) e1378) (an (ti trivial) trivial))) (ti trivial)) (Wv.refl _)
def arS1_24 (z0 : (List SGlassBatch)) (z1 : Int) (z2 : Bool) (z3 : Bool) (z4 : Bool) : List Ans := (nN 4 (.v (vi ((z0.getD z1.toNat default).Diameter)) :: .call (vb z2) :: nN 6 (.v (vi ((z0.getD z1.toNat default).Thick)) :: .call (vb z3) :: .n :: .b false :: nN 5 (.v (vi ((z0.getD z1.toNat default).Count)) :: .call (vb z4) :: .n :: .b false :: []))))
def arS1_25 (z0 : (List SGlassBatch)) (z1 : Int) (z2 : Bool) (z3 : Bool) : List Ans := (nN 4 (.v (vi ((z0.getD z1.toNat default).Diameter)) :: .call (vb z2) :: nN 6 (.v (vi ((z0.getD z1.toNat default).Thick)) :: .call (vb z3) :: .n :: .b false :: .n :: nS 7 (.b true :: []))))
def arS1_26 (z0 : (List SGlassBatch)) (z1 : Int) (z2 : Bool) : List Ans := (nN 4 (.v (vi ((z0.getD z1.toNat default).Diameter)) :: .call (vb z2) :: .n :: .n :: nS 7 (.b true :: .n :: nS 7 (.b true :: []))))
def nspeculumref03_CheckBatches_l0_0_h (a0 : (List SGlassBatch)) (x3 : Int) : VS := ⟨mkA [(0, VV.tr (flatMap c_SGlassBatch a0) a0.length), (3, vi x3)], [], .nil⟩
def nspeculumref03_CheckBatches_l0_0_e0 (a0 : (List SGlassBatch)) (r : Int) : VS := ⟨mkA [(2, vi r)], [], .nil⟩
def nspeculumref03_CheckBatches_l0_0_e1 (a0 : (List SGlassBatch)) (r : Unit) : VS := ⟨mkA [], [], .nil⟩
def nspeculumref03_CheckBatches_l0_0 (k : Nat) (a0 : (List SGlassBatch)) : Nat -> Int -> Option (Sum Int Unit)
 | 0, _ => none
 | fuel + 1, x3 => if x3 < (a0.length : Int) then (if 0 <= x3 /\ x3 < (a0.length : Int) then ((nspeculumbase_IsName k ((a0.getD x3.toNat default).Name)).bind fun r1540 => (if r1540 = true then ((nspeculumref03_BatchAt k a0 ((a0.getD x3.toNat default).Name)).bind fun r1546 => (if r1546 < x3 then (some (.inl 5)) else ((nspeculumbase_Within k ((a0.getD x3.toNat default).Diameter) 1 1000).bind fun r1552 => (if r1552 = true then ((nspeculumbase_Within k ((a0.getD x3.toNat default).Thick) 1 500).bind fun r1557 => (if r1557 = true then ((nspeculumbase_Within k ((a0.getD x3.toNat default).Count) 0 1000).bind fun r1562 => (if r1562 = true then (nspeculumref03_CheckBatches_l0_0 k a0 fuel (w64 (x3 + 1))) else (some (.inl 2)))) else (some (.inl 2)))) else (some (.inl 2)))))) else (some (.inl 4)))) else none) else (some (.inr ()))
theorem nspeculumref03_CheckBatches_l0_0_ok (k : Nat) (a0 : (List SGlassBatch)) : ∀ (fuel : Nat) (x3 : Int) (r : Sum Int Unit), nspeculumref03_CheckBatches_l0_0 k a0 fuel x3 = some r -> (match r with | .inl r => VLoop none Try.prog (szF Try.f12) (bodyOf Try.f12 0) (nspeculumref03_CheckBatches_l0_0_h a0 x3) .ret (nspeculumref03_CheckBatches_l0_0_e0 a0 r) | .inr r => VLoop none Try.prog (szF Try.f12) (bodyOf Try.f12 0) (nspeculumref03_CheckBatches_l0_0_h a0 x3) (.exit 0) (nspeculumref03_CheckBatches_l0_0_e1 a0 r)) := by
 intro fuel
 induction fuel with
 | zero => intro x3 r h; rw [nspeculumref03_CheckBatches_l0_0.eq_1] at h; cases h
 | succ fuel ih =>
  intro x3 r h
  rw [nspeculumref03_CheckBatches_l0_0.eq_2] at h
  rcases ifs h with ⟨h1537, h⟩ | ⟨h1537, h⟩
  ·obtain ⟨h1538, h⟩ := ifn h
   have e1539 := (show loadL Try.prog 9 (x3.toNat * 4 + 0) (flatMap c_SGlassBatch a0) = some (vs ((a0.getD x3.toNat default).Name)) from (ld_flat ag9 c_SGlassBatch 4 0 len_c_SGlassBatch (by omega) a0 default h1538 (by omega)).trans rfl)
   obtain ⟨r1540, h1541, h⟩ := bs h
   have e1542 := (nspeculumbase_IsName_ok k ((a0.getD x3.toNat default).Name) _ h1541)
   have e1543 := (ti (ti (an h1538 (ti (an e1539 (an e1542 (ti trivial)))))))
   rcases ifs h with ⟨h1544, h⟩ | ⟨h1544, h⟩
   ·have e1545 := (show loadL Try.prog 9 (x3.toNat * 4 + 0) (flatMap c_SGlassBatch a0) = some (vs ((a0.getD x3.toNat default).Name)) from (ld_flat ag9 c_SGlassBatch 4 0 len_c_SGlassBatch (by omega) a0 default h1538 (by omega)).trans rfl)
    obtain ⟨r1546, h1547, h⟩ := bs h
    have e1548 := (nspeculumref03_BatchAt_ok k a0 ((a0.getD x3.toNat default).Name) _ h1547)
    have e1549 := (ti (ti (ti (an h1538 (ti (an e1545 (an e1548 (ti (ti trivial)))))))))
    rcases ifs h with ⟨h1550, h⟩ | ⟨h1550, h⟩
    ·injection h with h; subst h
     exact round_stop (c := ⟨[(2, none)], [], []⟩) (s1 := (nspeculumref03_CheckBatches_l0_0_e0 a0 5)) pm pn (ans := [.reg (nN 4 []), .br true, .reg (nN 4 (.v (vs ((a0.getD x3.toNat default).Name)) :: .call (vb r1540) :: .n :: [])), .br false, .reg (nN 5 (.v (vs ((a0.getD x3.toNat default).Name)) :: .call (vi r1546) :: .n :: .n :: [])), .br true, .reg (.n :: [])]) (by kernel_rfl) (by intro e; cases e) (an (an (an (ti (ti (ti (ti trivial)))) (an (decide_eq_true h1537) trivial)) (an (an e1543 (an (not_f h1544) trivial)) (an e1549 (an (decide_eq_true h1550) (an (ti trivial) trivial))))) (ti trivial))
    ·have e1551 := (show loadL Try.prog 3 (x3.toNat * 4 + 1) (flatMap c_SGlassBatch a0) = some (vi ((a0.getD x3.toNat default).Diameter)) from (ld_flat ag3 c_SGlassBatch 4 1 len_c_SGlassBatch (by omega) a0 default h1538 (by omega)).trans rfl)
     obtain ⟨r1552, h1553, h⟩ := bs h
     have e1554 := (nspeculumbase_Within_ok k ((a0.getD x3.toNat default).Diameter) 1 1000 _ h1553)
     rcases ifs h with ⟨h1555, h⟩ | ⟨h1555, h⟩
     ·have e1556 := (an (not_f h1555) (show loadL Try.prog 3 (x3.toNat * 4 + 2) (flatMap c_SGlassBatch a0) = some (vi ((a0.getD x3.toNat default).Thick)) from (ld_flat ag3 c_SGlassBatch 4 2 len_c_SGlassBatch (by omega) a0 default h1538 (by omega)).trans rfl))
      obtain ⟨r1557, h1558, h⟩ := bs h
      have e1559 := (an (not_f h1555) (nspeculumbase_Within_ok k ((a0.getD x3.toNat default).Thick) 1 500 _ h1558))
      rcases ifs h with ⟨h1560, h⟩ | ⟨h1560, h⟩
      ·have e1561 := (an (not_f h1560) (show loadL Try.prog 3 (x3.toNat * 4 + 3) (flatMap c_SGlassBatch a0) = some (vi ((a0.getD x3.toNat default).Count)) from (ld_flat ag3 c_SGlassBatch 4 3 len_c_SGlassBatch (by omega) a0 default h1538 (by omega)).trans rfl))
       obtain ⟨r1562, h1563, h⟩ := bs h
       have e1564 := (an (not_f h1560) (nspeculumbase_Within_ok k ((a0.getD x3.toNat default).Count) 0 1000 _ h1563))
       have e1565 := (ti (ti (an h1538 (ti (an e1551 (an e1554 (ti (ti (an (an (not_f h1555) trivial) (an (an (not_f h1555) trivial) (an (an (not_f h1555) h1538) (an (an (not_f h1555) trivial) (an e1556 (an e1559 (an (an (not_f h1555) trivial) (an (not_f h1555) (ti (an (an (not_f h1560) trivial) (an (an (not_f h1560) trivial) (an (an (not_f h1560) h1538) (an (an (not_f h1560) trivial) (an e1561 (an e1564 (an (an (not_f h1560) trivial) (an (not_f h1560) trivial)))))))))))))))))))))))))
       rcases ifs h with ⟨h1566, h⟩ | ⟨h1566, h⟩
       ·have h2 := ih _ _ h
        obtain ⟨q, hv, hq⟩ := pkR (rd := none) (P := Try.prog) (fn := Try.f12) (k := 0) (s := (nspeculumref03_CheckBatches_l0_0_h a0 x3)) (ans := [.reg (nN 4 []), .br true, .reg (nN 4 (.v (vs ((a0.getD x3.toNat default).Name)) :: .call (vb r1540) :: .n :: [])), .br false, .reg (nN 5 (.v (vs ((a0.getD x3.toNat default).Name)) :: .call (vi r1546) :: .n :: .n :: [])), .br false, .reg (arS1_24 a0 x3 r1552 r1557 r1562), .br false, .reg (nN 3 [])]) (c := ⟨[(0, none), (3, none)], [], []⟩) (e := .normal) (s1 := (nspeculumref03_CheckBatches_l0_0_h a0 (w64 (x3 + 1)))) (an (an (an (ti (ti (ti (ti trivial)))) (an (decide_eq_true h1537) trivial)) (an (an (an e1543 (an (not_f h1544) trivial)) (an (an e1549 (an (decide_eq_false h1550) trivial)) (an e1565 (an (not_f h1566) trivial)))) (ti (ti (ti trivial))))) (ti trivial)) (by kernel_rfl)
        cases r with
        | inl r => exact round_next pm pn hv hq h2
        | inr r =>
         exact round_next pm pn hv hq h2
       ·injection h with h; subst h
        exact round_stop (c := ⟨[(2, none)], [], []⟩) (s1 := (nspeculumref03_CheckBatches_l0_0_e0 a0 2)) pm pn (ans := [.reg (nN 4 []), .br true, .reg (nN 4 (.v (vs ((a0.getD x3.toNat default).Name)) :: .call (vb r1540) :: .n :: [])), .br false, .reg (nN 5 (.v (vs ((a0.getD x3.toNat default).Name)) :: .call (vi r1546) :: .n :: .n :: [])), .br false, .reg (arS1_24 a0 x3 r1552 r1557 r1562), .br true, .reg (.n :: [])]) (by kernel_rfl) (by intro e; cases e) (an (an (an (ti (ti (ti (ti trivial)))) (an (decide_eq_true h1537) trivial)) (an (an e1543 (an (not_f h1544) trivial)) (an (an e1549 (an (decide_eq_false h1550) trivial)) (an e1565 (an (not_t (bool_f h1566)) (an (ti trivial) trivial)))))) (ti trivial))
      ·have e1567 := (ti (ti (an h1538 (ti (an e1551 (an e1554 (ti (ti (an (an (not_f h1555) trivial) (an (an (not_f h1555) trivial) (an (an (not_f h1555) h1538) (an (an (not_f h1555) trivial) (an e1556 (an e1559 (an (an (not_f h1555) trivial) (an (not_f h1555) (ti (an (not_t (bool_f h1560)) (an (not_t (bool_f h1560)) (an (not_t (bool_f h1560)) (an (not_t (bool_f h1560)) (an (not_t (bool_f h1560)) (an (not_t (bool_f h1560)) (an (not_t (bool_f h1560)) (an (not_t (bool_f h1560)) trivial)))))))))))))))))))))))))
       injection h with h; subst h
       exact round_stop (c := ⟨[(2, none)], [], []⟩) (s1 := (nspeculumref03_CheckBatches_l0_0_e0 a0 2)) pm pn (ans := [.reg (nN 4 []), .br true, .reg (nN 4 (.v (vs ((a0.getD x3.toNat default).Name)) :: .call (vb r1540) :: .n :: [])), .br false, .reg (nN 5 (.v (vs ((a0.getD x3.toNat default).Name)) :: .call (vi r1546) :: .n :: .n :: [])), .br false, .reg (arS1_25 a0 x3 r1552 r1557), .br true, .reg (.n :: [])]) (by kernel_rfl) (by intro e; cases e) (an (an (an (ti (ti (ti (ti trivial)))) (an (decide_eq_true h1537) trivial)) (an (an e1543 (an (not_f h1544) trivial)) (an (an e1549 (an (decide_eq_false h1550) trivial)) (an e1567 (an rt (an (ti trivial) trivial)))))) (ti trivial))
     ·have e1568 := (ti (ti (an h1538 (ti (an e1551 (an e1554 (ti (ti (an (not_t (bool_f h1555)) (an (not_t (bool_f h1555)) (an (not_t (bool_f h1555)) (an (not_t (bool_f h1555)) (an (not_t (bool_f h1555)) (an (not_t (bool_f h1555)) (an (not_t (bool_f h1555)) (an (not_t (bool_f h1555)) (ti (an rt (an rt (an rt (an rt (an rt (an rt (an rt (an rt trivial)))))))))))))))))))))))))
      injection h with h; subst h
      exact round_stop (c := ⟨[(2, none)], [], []⟩) (s1 := (nspeculumref03_CheckBatches_l0_0_e0 a0 2)) pm pn (ans := [.reg (nN 4 []), .br true, .reg (nN 4 (.v (vs ((a0.getD x3.toNat default).Name)) :: .call (vb r1540) :: .n :: [])), .br false, .reg (nN 5 (.v (vs ((a0.getD x3.toNat default).Name)) :: .call (vi r1546) :: .n :: .n :: [])), .br false, .reg (arS1_26 a0 x3 r1552), .br true, .reg (.n :: [])]) (by kernel_rfl) (by intro e; cases e) (an (an (an (ti (ti (ti (ti trivial)))) (an (decide_eq_true h1537) trivial)) (an (an e1543 (an (not_f h1544) trivial)) (an (an e1549 (an (decide_eq_false h1550) trivial)) (an e1568 (an rt (an (ti trivial) trivial)))))) (ti trivial))
   ·injection h with h; subst h
    exact round_stop (c := ⟨[(2, none)], [], []⟩) (s1 := (nspeculumref03_CheckBatches_l0_0_e0 a0 4)) pm pn (ans := [.reg (nN 4 []), .br true, .reg (nN 4 (.v (vs ((a0.getD x3.toNat default).Name)) :: .call (vb r1540) :: .n :: [])), .br true, .reg (.n :: [])]) (by kernel_rfl) (by intro e; cases e) (an (an (an (ti (ti (ti (ti trivial)))) (an (decide_eq_true h1537) trivial)) (an e1543 (an (not_t (bool_f h1544)) (an (ti trivial) trivial)))) (ti trivial))
  ·injection h with h; subst h
   exact round_stop (c := ⟨[], [], []⟩) (s1 := (nspeculumref03_CheckBatches_l0_0_e1 a0 ())) pm pn (ans := [.reg (nN 4 []), .br false]) (by kernel_rfl) (by intro e; cases e) (an (an (ti (ti (ti (ti trivial)))) (an (decide_eq_false h1537) trivial)) (ti trivial))
def nspeculumref03_CheckBatches (k : Nat) (a0 : (List SGlassBatch)) : Option Int :=
 if 40 < (a0.length : Int) then (some 8) else ((nspeculumref03_CheckBatches_l0_0 k a0 k 0).bind fun r1570 => (match r1570 with | .inl r1571 => (some r1571) | .inr r1572 => (some 0)))
theorem nspeculumref03_CheckBatches_ok (k : Nat) (a0 : (List SGlassBatch)) (r : Int) (h : nspeculumref03_CheckBatches k a0 = some r) : VC Try.prog 12 [VV.tr (flatMap c_SGlassBatch a0) a0.length] (vi r) := by
 unfold nspeculumref03_CheckBatches at h
 rcases ifs h with ⟨h1472, h⟩ | ⟨h1472, h⟩
 ·injection h with h; subst h
  exact fun_ok pm pn Try.func12 (r0 := vi 8) (ans := [.reg (.n :: []), .reg (nN 3 []), .br true, .reg (.n :: [])]) (fr := true) (by kernel_rfl) (an (an (ti trivial) (an (ti (ti (ti trivial))) (an (decide_eq_true h1472) (an (ti trivial) trivial)))) (ti trivial)) (Wv.refl _)
 ·obtain ⟨r1570, h1569, h⟩ := bs h
  have hph1569 := nspeculumref03_CheckBatches_l0_0_ok k a0 _ _ _ h1569
  cases r1570 with
  | inl r1571 =>
   dsimp only at h
   have e1573 := (an (ti trivial) (VRun.loop hph1569))
   injection h with h; subst h
   exact fun_ok pm pn Try.func12 (r0 := vi r1571) (ans := [.reg (.n :: []), .reg (nN 3 []), .br false, .reg (.n :: []), .sub ⟨[(0, none), (3, none)], [], []⟩ .ret (nspeculumref03_CheckBatches_l0_0_e0 a0 r1571)]) (fr := true) (by kernel_rfl) (an (an (ti trivial) (an (an (ti (ti (ti trivial))) (an (decide_eq_false h1472) trivial)) (an (ti trivial) e1573))) (ti trivial)) (Wv.refl _)
  | inr r1572 =>
   dsimp only at h
   have e1574 := (an (ti trivial) (VRun.loop hph1569))
   injection h with h; subst h
   exact fun_ok pm pn Try.func12 (r0 := vi 0) (ans := [.reg (.n :: []), .reg (nN 3 []), .br false, .reg (.n :: []), .sub ⟨[(0, none), (3, none)], [], []⟩ (.exit 0) (nspeculumref03_CheckBatches_l0_0_e1 a0 r1572), .reg (.n :: [])]) (fr := true) (by kernel_rfl) (an (an (ti trivial) (an (an (ti (ti (ti trivial))) (an (decide_eq_false h1472) trivial)) (an (an (ti trivial) e1574) (an (ti trivial) trivial)))) (ti trivial)) (Wv.refl _)
end Go.Proofs.Ytodiglefoobjkaa.Vg

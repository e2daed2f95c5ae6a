import Derived.Test.YtbaegoglpijnnabWa
namespace Go.Proofs.Ytbaegoglpijnnab.Vg
set_option maxRecDepth 100000
set_option maxHeartbeats 4000000
set_option linter.unusedVariables false
set_option linter.unusedSimpArgs false
open Go Go.Proofs.Ytbaegoglpijnnab.Ev Go.Proofs.Ytbaegoglpijnnab.Vv
open List (flatMap length_cons length_nil length_map length_append map_cons map_nil length_replicate)
def ngrind_isWithin (k : Nat) (a0 : Int) (a1 : Int) (a2 : Int) : Option Bool :=
 if a1 <= a0 then (some (decide (a0 <= a2))) else (some false)
theorem ngrind_isWithin_ok (k : Nat) (a0 : Int) (a1 : Int) (a2 : Int) (r : Bool) (h : ngrind_isWithin k a0 a1 a2 = some r) : VC Try.prog 66 [vi a0, vi a1, vi a2] (vb r) := by
 unfold ngrind_isWithin at h
 rcases ifs h with ⟨h104, h⟩ | ⟨h104, h⟩
 ·have e105 := (ti (ti (ti (ti (an (an (decide_eq_true h104) trivial) (an (an (decide_eq_true h104) trivial) (an (an (decide_eq_true h104) trivial) (an (decide_eq_true h104) (ti trivial)))))))))
  injection h with h; subst h
  exact fun_ok pm pn Try.func66 (r0 := vb (decide (a0 <= a2))) (ans := [.reg (.n :: []), .reg (nN 7 (.b true :: .n :: []))]) (fr := true) (by kernel_rfl) (an (an (ti trivial) (an e105 trivial)) (ti trivial)) (Wv.refl _)
 ·have e106 := (ti (ti (ti (ti (an (decide_eq_false h104) (an (decide_eq_false h104) (an (decide_eq_false h104) (an (decide_eq_false h104) (ti trivial)))))))))
  injection h with h; subst h
  exact fun_ok pm pn Try.func66 (r0 := vb false) (ans := [.reg (.n :: []), .reg (nN 4 (nS 3 (.b false :: .n :: [])))]) (fr := true) (by kernel_rfl) (an (an (ti trivial) (an e106 trivial)) (ti trivial)) (Wv.refl _)
def arK0_0  : List Ans := (nN 3 (.skip :: .skip :: .b false :: nN 4 (.skip :: .skip :: .b false :: .b false :: .n :: [])))
def ngrind_isLetter (k : Nat) (a0 : Int) : Option Bool :=
 if 97 <= a0 then (if a0 <= 122 then (some true) else (if 65 <= a0 then (some (decide (a0 <= 90))) else (some false))) else (if 65 <= a0 then (some (decide (a0 <= 90))) else (some false))
theorem ngrind_isLetter_ok (k : Nat) (a0 : Int) (r : Bool) (h : ngrind_isLetter k a0 = some r) : VC Try.prog 118 [VV.c (.int .i32 a0)] (vb r) := by
 unfold ngrind_isLetter at h
 rcases ifs h with ⟨h123, h⟩ | ⟨h123, h⟩
 ·rcases ifs h with ⟨h124, h⟩ | ⟨h124, h⟩
  ·have e125 := (ti (ti (ti (an (an (decide_eq_true h123) trivial) (an (an (decide_eq_true h123) trivial) (an (decide_eq_true h123) (ti (an (decide_eq_true h124) (an (decide_eq_true h124) (an (decide_eq_true h124) (ti (ti (an (decide_eq_true h124) (an (decide_eq_true h124) (ti trivial)))))))))))))))
   injection h with h; subst h
   exact fun_ok pm pn Try.func118 (r0 := vb true) (ans := [.reg (.n :: []), .reg (nN 5 (.b true :: .n :: nS 6 (.b true :: .n :: [])))]) (fr := true) (by kernel_rfl) (an (an (ti trivial) (an e125 trivial)) (ti trivial)) (Wv.refl _)
  ·rcases ifs h with ⟨h126, h⟩ | ⟨h126, h⟩
   ·have e127 := (an (decide_eq_false h124) (decide_eq_true h126))
    have e128 := (ti (ti (ti (an (an (decide_eq_true h123) trivial) (an (an (decide_eq_true h123) trivial) (an (decide_eq_true h123) (ti (an (an (decide_eq_false h124) trivial) (an (an (decide_eq_false h124) trivial) (an (an (decide_eq_false h124) trivial) (an (an (decide_eq_true h126) trivial) (an (an (decide_eq_true h126) trivial) (an e127 (an (decide_eq_false h124) (ti trivial)))))))))))))))
    injection h with h; subst h
    exact fun_ok pm pn Try.func118 (r0 := vb (decide (a0 <= 90))) (ans := [.reg (.n :: []), .reg (nN 5 (.b true :: nN 6 (.b true :: .b false :: .n :: [])))]) (fr := true) (by kernel_rfl) (an (an (ti trivial) (an e128 trivial)) (ti trivial)) (Wv.refl _)
   ·have e129 := (an (decide_eq_false h124) (decide_eq_false h126))
    have e130 := (ti (ti (ti (an (an (decide_eq_true h123) trivial) (an (an (decide_eq_true h123) trivial) (an (decide_eq_true h123) (ti (an (an (decide_eq_false h124) trivial) (an (an (decide_eq_false h124) trivial) (an (an (decide_eq_false h124) trivial) (an (decide_eq_false h126) (an (decide_eq_false h126) (an e129 (an (decide_eq_false h124) (ti trivial)))))))))))))))
    injection h with h; subst h
    exact fun_ok pm pn Try.func118 (r0 := vb false) (ans := [.reg (.n :: []), .reg (nN 5 (.b true :: nN 4 (.skip :: .skip :: .b false :: .b false :: .n :: [])))]) (fr := true) (by kernel_rfl) (an (an (ti trivial) (an e130 trivial)) (ti trivial)) (Wv.refl _)
 ·rcases ifs h with ⟨h131, h⟩ | ⟨h131, h⟩
  ·have e132 := (ti (ti (ti (an (decide_eq_false h123) (an (decide_eq_false h123) (an (decide_eq_false h123) (ti (an (an rf trivial) (an (an rf trivial) (an (an rf trivial) (an (an (decide_eq_true h131) trivial) (an (an (decide_eq_true h131) trivial) (an (an rf (decide_eq_true h131)) (an rf (ti trivial)))))))))))))))
   injection h with h; subst h
   exact fun_ok pm pn Try.func118 (r0 := vb (decide (a0 <= 90))) (ans := [.reg (.n :: []), .reg (nN 3 (.skip :: .skip :: .b false :: nN 6 (.b true :: .b false :: .n :: [])))]) (fr := true) (by kernel_rfl) (an (an (ti trivial) (an e132 trivial)) (ti trivial)) (Wv.refl _)
  ·have e133 := (ti (ti (ti (an (decide_eq_false h123) (an (decide_eq_false h123) (an (decide_eq_false h123) (ti (an (an rf trivial) (an (an rf trivial) (an (an rf trivial) (an (decide_eq_false h131) (an (decide_eq_false h131) (an (an rf (decide_eq_false h131)) (an rf (ti trivial)))))))))))))))
   injection h with h; subst h
   exact fun_ok pm pn Try.func118 (r0 := vb false) (ans := [.reg (.n :: []), .reg arK0_0]) (fr := true) (by kernel_rfl) (an (an (ti trivial) (an e133 trivial)) (ti trivial)) (Wv.refl _)
def arK0_1 (z0 : Bool) : List Ans := (.n :: .call (vb z0) :: .n :: .n :: nS 7 (.b false :: .n :: .skip :: .skip :: .b false :: .n :: []))
def arK0_2 (z0 : Bool) : List Ans := (.n :: .call (vb z0) :: nN 7 (.b true :: .n :: .b true :: .n :: .skip :: .skip :: .b false :: .n :: []))
def arK0_3 (z0 : Bool) : List Ans := (.n :: .call (vb z0) :: nN 5 (.skip :: .skip :: .b false :: .n :: .b true :: nN 3 (.b true :: .n :: [])))
def ngrind_isForeign (k : Nat) (a0 : Int) : Option Bool :=
 (ngrind_isLetter k a0).bind fun r156 => (if r156 = true then (some false) else (if 48 <= a0 then (if a0 <= 57 then (some false) else (some (!(decide (a0 = 45))))) else (some (!(decide (a0 = 45))))))
theorem ngrind_isForeign_ok (k : Nat) (a0 : Int) (r : Bool) (h : ngrind_isForeign k a0 = some r) : VC Try.prog 120 [VV.c (.int .i32 a0)] (vb r) := by
 unfold ngrind_isForeign at h
 obtain ⟨r156, h157, h⟩ := bs h
 rcases ifs h with ⟨h158, h⟩ | ⟨h158, h⟩
 ·have e159 := (ti (an (ngrind_isLetter_ok k a0 _ h157) (ti (ti (an (not_f h158) (an (not_f h158) (an (not_f h158) (ti (ti (an (not_f h158) (an (not_f h158) (an (not_f h158) (ti (an rf (an rf (an rf (ti trivial)))))))))))))))))
  injection h with h; subst h
  exact fun_ok pm pn Try.func120 (r0 := vb false) (ans := [.reg (.n :: []), .reg (arK0_1 r156)]) (fr := true) (by kernel_rfl) (an (an (ti trivial) (an e159 trivial)) (ti trivial)) (Wv.refl _)
 ·rcases ifs h with ⟨h160, h⟩ | ⟨h160, h⟩
  ·have e161 := (an (not_t (bool_f h158)) (decide_eq_true h160))
   rcases ifs h with ⟨h162, h⟩ | ⟨h162, h⟩
   ·have e163 := (ti (an (ngrind_isLetter_ok k a0 _ h157) (ti (ti (an (an (not_t (bool_f h158)) trivial) (an (an (not_t (bool_f h158)) trivial) (an (an (not_t (bool_f h158)) trivial) (an (an (decide_eq_true h160) trivial) (an (an (decide_eq_true h160) trivial) (an e161 (an (an (not_t (bool_f h158)) trivial) (an (not_t (bool_f h158)) (ti (an (not_f (decide_eq_true h162)) (an (not_f (decide_eq_true h162)) (an (not_f (decide_eq_true h162)) (ti trivial)))))))))))))))))
    injection h with h; subst h
    exact fun_ok pm pn Try.func120 (r0 := vb false) (ans := [.reg (.n :: []), .reg (arK0_2 r156)]) (fr := true) (by kernel_rfl) (an (an (ti trivial) (an e163 trivial)) (ti trivial)) (Wv.refl _)
   ·have e164 := (an (not_t (decide_eq_false h162)) trivial)
    have e165 := (an (not_t (decide_eq_false h162)) trivial)
    have e166 := (ti (an (ngrind_isLetter_ok k a0 _ h157) (ti (ti (an (an (not_t (bool_f h158)) trivial) (an (an (not_t (bool_f h158)) trivial) (an (an (not_t (bool_f h158)) trivial) (an (an (decide_eq_true h160) trivial) (an (an (decide_eq_true h160) trivial) (an e161 (an (an (not_t (bool_f h158)) trivial) (an (not_t (bool_f h158)) (ti (an e164 (an e165 (an (not_t (decide_eq_false h162)) (ti trivial)))))))))))))))))
    injection h with h; subst h
    exact fun_ok pm pn Try.func120 (r0 := vb (!(decide (a0 = 45)))) (ans := [.reg (.n :: []), .reg (.n :: .call (vb r156) :: nN 7 (.b true :: .n :: .b true :: nN 3 (.b true :: .n :: [])))]) (fr := true) (by kernel_rfl) (an (an (ti trivial) (an e166 trivial)) (ti trivial)) (Wv.refl _)
  ·have e167 := (an (not_t (bool_f h158)) (decide_eq_false h160))
   have e168 := (an (show (!false) = true from (not_t rfl)) trivial)
   have e169 := (an (show (!false) = true from (not_t rfl)) trivial)
   have e170 := (ti (an (ngrind_isLetter_ok k a0 _ h157) (ti (ti (an (an (not_t (bool_f h158)) trivial) (an (an (not_t (bool_f h158)) trivial) (an (an (not_t (bool_f h158)) trivial) (an (decide_eq_false h160) (an (decide_eq_false h160) (an e167 (an (an (not_t (bool_f h158)) trivial) (an (not_t (bool_f h158)) (ti (an e168 (an e169 (an (show (!false) = true from (not_t rfl)) (ti trivial)))))))))))))))))
   injection h with h; subst h
   exact fun_ok pm pn Try.func120 (r0 := vb (!(decide (a0 = 45)))) (ans := [.reg (.n :: []), .reg (arK0_3 r156)]) (fr := true) (by kernel_rfl) (an (an (ti trivial) (an e170 trivial)) (ti trivial)) (Wv.refl _)
def nstrings_indexFunc_c1_grind_isForeign_l0_0_h (a0 : ByteArray) (a2 : Bool) (b0_1 : Int) : VS := ⟨mkA [(1, VV.fn 120 []), (2, vb a2), (10, VV.it 0)], [some ⟨true, bigX, [vs a0, vi b0_1]⟩], .nil⟩
def nstrings_indexFunc_c1_grind_isForeign_l0_0_e0 (a0 : ByteArray) (a2 : Bool) (r : Int) : VS := ⟨mkA [(6, vi r)], [], .nil⟩
def nstrings_indexFunc_c1_grind_isForeign_l0_0_e1 (a0 : ByteArray) (a2 : Bool) (r : Unit) : VS := ⟨mkA [], [], .nil⟩
def nstrings_indexFunc_c1_grind_isForeign_l0_0 (k : Nat) (a0 : ByteArray) (a2 : Bool) : Nat -> Int -> Option (Sum Int Unit)
 | 0, _ => none
 | fuel + 1, b0_1 => if b0_1 < (a0.size : Int) then (if 0 <= b0_1 then ((ngrind_isForeign k (((Go.Utf8.decode a0 (b0_1).toNat).1 : Nat) : Int)).bind fun r217 => (if (r217 == a2) = true then (some (.inl b0_1)) else (nstrings_indexFunc_c1_grind_isForeign_l0_0 k a0 a2 fuel (b0_1 + (((Go.Utf8.decode a0 (b0_1).toNat).2 : Nat) : Int))))) else none) else (some (.inr ()))
theorem nstrings_indexFunc_c1_grind_isForeign_l0_0_ok (k : Nat) (a0 : ByteArray) (a2 : Bool) : ∀ (fuel : Nat) (b0_1 : Int) (r : Sum Int Unit), nstrings_indexFunc_c1_grind_isForeign_l0_0 k a0 a2 fuel b0_1 = some r -> (match r with | .inl r => VLoop none Try.prog (szF Try.f132) (bodyOf Try.f132 0) (nstrings_indexFunc_c1_grind_isForeign_l0_0_h a0 a2 b0_1) .ret (nstrings_indexFunc_c1_grind_isForeign_l0_0_e0 a0 a2 r) | .inr r => VLoop none Try.prog (szF Try.f132) (bodyOf Try.f132 0) (nstrings_indexFunc_c1_grind_isForeign_l0_0_h a0 a2 b0_1) (.exit 0) (nstrings_indexFunc_c1_grind_isForeign_l0_0_e1 a0 a2 r)) := by
 intro fuel
 induction fuel with
 | zero => intro b0_1 r h; rw [nstrings_indexFunc_c1_grind_isForeign_l0_0.eq_1] at h; cases h
 | succ fuel ih =>
  intro b0_1 r h
  rw [nstrings_indexFunc_c1_grind_isForeign_l0_0.eq_2] at h
  rcases ifs h with ⟨h214, h⟩ | ⟨h214, h⟩
  ·obtain ⟨h215, h⟩ := ifn h
   have e216 := (show 0 <= b0_1 /\ b0_1 < (a0.size : Int) from ⟨h215, of_decide_eq_true (decide_eq_true h214)⟩)
   obtain ⟨r217, h218, h⟩ := bs h
   have e219 := (ngrind_isForeign_ok k (((Go.Utf8.decode a0 (b0_1).toNat).1 : Nat) : Int) _ h218)
   rcases ifs h with ⟨h220, h⟩ | ⟨h220, h⟩
   ·injection h with h; subst h
    exact round_stop (c := ⟨[(6, none)], [], []⟩) (s1 := (nstrings_indexFunc_c1_grind_isForeign_l0_0_e0 a0 a2 b0_1)) pm pn (ans := [.reg (.b true :: .n :: []), .br true, .reg (nN 4 []), .reg (.n :: .n :: .call (vb r217) :: .n :: .n :: []), .br true, .reg (.n :: .n :: [])]) (by kernel_rfl) (by intro e; cases e) (an (an (an e216 (ti trivial)) (an (an rt trivial) (an (ti (ti (ti (ti trivial)))) (an (ti (ti (an e219 (ti (ti trivial))))) (an h220 (an (ti (ti trivial)) trivial)))))) (ti trivial))
   ·have h2 := ih _ _ h
    obtain ⟨q, hv, hq⟩ := pkR (rd := none) (P := Try.prog) (fn := Try.f132) (k := 0) (s := (nstrings_indexFunc_c1_grind_isForeign_l0_0_h a0 a2 b0_1)) (ans := [.reg (.b true :: .n :: []), .br true, .reg (nN 4 []), .reg (.n :: .n :: .call (vb r217) :: .n :: .n :: []), .br false]) (c := ⟨[(1, none), (2, none), (10, none)], [none], []⟩) (e := .normal) (s1 := (nstrings_indexFunc_c1_grind_isForeign_l0_0_h a0 a2 (b0_1 + (((Go.Utf8.decode a0 (b0_1).toNat).2 : Nat) : Int)))) (an (an (an e216 (ti trivial)) (an (an rt trivial) (an (ti (ti (ti (ti trivial)))) (an (ti (ti (an e219 (ti (ti trivial))))) (an (bool_f h220) trivial))))) (ti trivial)) (by kernel_rfl)
    cases r with
    | inl r => exact round_next pm pn hv hq h2
    | inr r =>
     exact round_next pm pn hv hq h2
  ·have e221 := (show (a0.size : Int) <= b0_1 from (by have := of_decide_eq_false (decide_eq_false h214); omega))
   injection h with h; subst h
   exact round_stop (c := ⟨[], [], []⟩) (s1 := (nstrings_indexFunc_c1_grind_isForeign_l0_0_e1 a0 a2 ())) pm pn (ans := [.reg (.b false :: .n :: []), .br false]) (by kernel_rfl) (by intro e; cases e) (an (an (an e221 (ti trivial)) (an rf trivial)) (ti trivial))
def nstrings_indexFunc_c1_grind_isForeign (k : Nat) (a0 : ByteArray) (a1 : Unit) (a2 : Bool) : Option Int :=
 (nstrings_indexFunc_c1_grind_isForeign_l0_0 k a0 a2 k 0).bind fun r223 => (match r223 with | .inl r224 => (some r224) | .inr r225 => (some (-1)))
theorem nstrings_indexFunc_c1_grind_isForeign_ok (k : Nat) (a0 : ByteArray) (a1 : Unit) (a2 : Bool) (r : Int) (h : nstrings_indexFunc_c1_grind_isForeign k a0 a1 a2 = some r) : VC Try.prog 132 [vs a0, VV.fn 120 [], vb a2] (vi r) := by
 unfold nstrings_indexFunc_c1_grind_isForeign at h
 obtain ⟨r223, h222, h⟩ := bs h
 have hph222 := nstrings_indexFunc_c1_grind_isForeign_l0_0_ok k a0 a2 _ _ _ h222
 cases r223 with
 | inl r224 =>
  dsimp only at h
  have e226 := (an (ti trivial) (VRun.loop hph222))
  injection h with h; subst h
  exact fun_ok pm pn Try.func132 (r0 := vi r224) (ans := [.reg (.n :: []), .reg (.n :: .n :: []), .sub ⟨[(1, none), (2, none), (10, none)], [none], []⟩ .ret (nstrings_indexFunc_c1_grind_isForeign_l0_0_e0 a0 a2 r224)]) (fr := true) (by kernel_rfl) (an (an (ti trivial) (an (ti (ti trivial)) e226)) (ti trivial)) (Wv.refl _)
 | inr r225 =>
  dsimp only at h
  have e227 := (an (ti trivial) (VRun.loop hph222))
  injection h with h; subst h
  exact fun_ok pm pn Try.func132 (r0 := vi (-1)) (ans := [.reg (.n :: []), .reg (.n :: .n :: []), .sub ⟨[(1, none), (2, none), (10, none)], [none], []⟩ (.exit 0) (nstrings_indexFunc_c1_grind_isForeign_l0_0_e1 a0 a2 r225), .reg (.n :: [])]) (fr := true) (by kernel_rfl) (an (an (ti trivial) (an (an (ti (ti trivial)) e227) (an (ti trivial) trivial))) (ti trivial)) (Wv.refl _)
def nstrings_IndexFunc_c1_grind_isForeign (k : Nat) (a0 : ByteArray) (a1 : Unit) : Option Int :=
 (nstrings_indexFunc_c1_grind_isForeign k a0 a1 true).bind fun r231 => (some r231)
theorem nstrings_IndexFunc_c1_grind_isForeign_ok (k : Nat) (a0 : ByteArray) (a1 : Unit) (r : Int) (h : nstrings_IndexFunc_c1_grind_isForeign k a0 a1 = some r) : VC Try.prog 130 [vs a0, VV.fn 120 []] (vi r) := by
 unfold nstrings_IndexFunc_c1_grind_isForeign at h
 obtain ⟨r231, h232, h⟩ := bs h
 have e233 := (nstrings_indexFunc_c1_grind_isForeign_ok k a0 a1 true _ h232)
 injection h with h; subst h
 exact fun_ok pm pn Try.func130 (r0 := vi r231) (ans := [.reg (.n :: []), .reg (.n :: .n :: .call (vi r231) :: .n :: [])]) (fr := true) (by kernel_rfl) (an (an (ti trivial) (an (ti (ti (an e233 (ti trivial)))) trivial)) (ti trivial)) (Wv.refl _)
def nstrings_ContainsFunc_c1_grind_isForeign (k : Nat) (a0 : ByteArray) (a1 : Unit) : Option Bool :=
 (nstrings_IndexFunc_c1_grind_isForeign k a0 a1).bind fun r237 => (some (decide (0 <= r237)))
theorem nstrings_ContainsFunc_c1_grind_isForeign_ok (k : Nat) (a0 : ByteArray) (a1 : Unit) (r : Bool) (h : nstrings_ContainsFunc_c1_grind_isForeign k a0 a1 = some r) : VC Try.prog 119 [vs a0, VV.fn 120 []] (vb r) := by
 unfold nstrings_ContainsFunc_c1_grind_isForeign at h
 obtain ⟨r237, h238, h⟩ := bs h
 have e239 := (nstrings_IndexFunc_c1_grind_isForeign_ok k a0 a1 _ h238)
 injection h with h; subst h
 exact fun_ok pm pn Try.func119 (r0 := vb (decide (0 <= r237))) (ans := [.reg (.n :: []), .reg (.n :: .n :: .call (vi r237) :: .n :: .n :: [])]) (fr := true) (by kernel_rfl) (an (an (ti trivial) (an (ti (ti (an e239 (ti (ti trivial))))) trivial)) (ti trivial)) (Wv.refl _)
def arK0_4 (z0 : Bool) (z1 : Bool) (z2 : Bool) : List Ans := (.n :: .n :: .call (vb z0) :: nN 4 (.call (vb z1) :: .b true :: .n :: .n :: .call (vb z2) :: .n :: .b true :: .n :: []))
def arK0_5 (z0 : Bool) (z1 : Bool) : List Ans := (.n :: .n :: .call (vb z0) :: nN 4 (.call (vb z1) :: .b true :: .n :: nS 3 (.b false :: .n :: [])))
def arK0_6 (z0 : Bool) : List Ans := (.n :: .n :: .call (vb z0) :: .n :: nS 4 (.b false :: .n :: nS 3 (.b false :: .n :: [])))
def ngrind_isName (k : Nat) (a0 : ByteArray) : Option Bool :=
 (ngrind_isWithin k (a0.size : Int) 1 12).bind fun r246 => (if r246 = true then (if (0 : Int) <= 0 /\ 0 < (a0.size : Int) then ((ngrind_isLetter k (IntKind.i32.wrap (bat a0 0))).bind fun r251 => (if r251 = true then ((nstrings_ContainsFunc_c1_grind_isForeign k a0 ()).bind fun r255 => (some (!r255))) else (some false))) else none) else (some false))
theorem ngrind_isName_ok (k : Nat) (a0 : ByteArray) (r : Bool) (h : ngrind_isName k a0 = some r) : VC Try.prog 98 [vs a0] (vb r) := by
 unfold ngrind_isName at h
 obtain ⟨r246, h247, h⟩ := bs h
 have e248 := (ngrind_isWithin_ok k (a0.size : Int) 1 12 _ h247)
 rcases ifs h with ⟨h249, h⟩ | ⟨h249, h⟩
 ·obtain ⟨h250, h⟩ := ifn h
  obtain ⟨r251, h252, h⟩ := bs h
  have e253 := (an h249 (ngrind_isLetter_ok k (IntKind.i32.wrap (bat a0 0)) _ h252))
  rcases ifs h with ⟨h254, h⟩ | ⟨h254, h⟩
  ·obtain ⟨r255, h256, h⟩ := bs h
   have e257 := (an h254 (nstrings_ContainsFunc_c1_grind_isForeign_ok k a0 () _ h256))
   have e258 := (ti (ti (an e248 (ti (an (an h249 trivial) (an (an h249 h250) (an (an h249 trivial) (an e253 (an h249 (ti (an (an h254 trivial) (an e257 (an (an h254 trivial) (an h254 (ti trivial)))))))))))))))
   injection h with h; subst h
   exact fun_ok pm pn Try.func98 (r0 := vb (!r255)) (ans := [.reg (.n :: []), .reg (arK0_4 r246 r251 r255)]) (fr := true) (by kernel_rfl) (an (an (ti trivial) (an e258 trivial)) (ti trivial)) (Wv.refl _)
  ·have e259 := (ti (ti (an e248 (ti (an (an h249 trivial) (an (an h249 h250) (an (an h249 trivial) (an e253 (an h249 (ti (an (bool_f h254) (an (bool_f h254) (an (bool_f h254) (an (bool_f h254) (ti trivial)))))))))))))))
   injection h with h; subst h
   exact fun_ok pm pn Try.func98 (r0 := vb false) (ans := [.reg (.n :: []), .reg (arK0_5 r246 r251)]) (fr := true) (by kernel_rfl) (an (an (ti trivial) (an e259 trivial)) (ti trivial)) (Wv.refl _)
 ·have e260 := (ti (ti (an e248 (ti (an (bool_f h249) (an (bool_f h249) (an (bool_f h249) (an (bool_f h249) (an (bool_f h249) (ti (an rf (an rf (an rf (an rf (ti trivial)))))))))))))))
  injection h with h; subst h
  exact fun_ok pm pn Try.func98 (r0 := vb false) (ans := [.reg (.n :: []), .reg (arK0_6 r246)]) (fr := true) (by kernel_rfl) (an (an (ti trivial) (an e260 trivial)) (ti trivial)) (Wv.refl _)
end Go.Proofs.Ytbaegoglpijnnab.Vg

/- Written by a program out of the program: what Go functions do, as plain functions, and their contracts. -/
import Derived.Test.YtjhclaollpkdgaaWa
namespace Go.Proofs.Ytjhclaollpkdgaa.Vg
set_option maxRecDepth 100000
set_option maxHeartbeats 4000000
set_option linter.unusedVariables false
set_option linter.unusedSimpArgs false
open Go Go.Proofs.Ytjhclaollpkdgaa.Ev Go.Proofs.Ytjhclaollpkdgaa.Vv
def ngrind_isWithin (k : Nat) (a0 : Int) (a1 : Int) (a2 : Int) : Option Bool :=
  if a1 ≤ a0 then (some (decide (a0 ≤ a2))) else (some false)
theorem ngrind_isWithin_ok (k : Nat) (a0 : Int) (a1 : Int) (a2 : Int) (r : Bool) (h : ngrind_isWithin k a0 a1 a2 = some r) : VC Go.Proofs.Try.prog 42 [vi a0, vi a1, vi a2] (vb r) := by
 unfold ngrind_isWithin at h
 rcases ifs h with ⟨h104, h⟩ | ⟨h104, h⟩
 ·have e105 := (ti (ti (ti (ti (an (an (decide_eq_true h104) trivial) (an (an (decide_eq_true h104) trivial) (an (an (decide_eq_true h104) trivial) (an (decide_eq_true h104) (ti trivial)))))))))
  injection h with h; subst h
  exact fun_ok pm pn Go.Proofs.Try.func42 (r0 := vb (decide (a0 ≤ a2))) (ans := [.reg (.n :: []), .reg (nN 7 (.b true :: .n :: []))]) (fr := true) (by kernel_rfl) (an (an (ti trivial) (an e105 trivial)) (ti trivial)) (Wv.refl _)
 ·have e106 := (ti (ti (ti (ti (an (decide_eq_false h104) (an (decide_eq_false h104) (an (decide_eq_false h104) (an (decide_eq_false h104) (ti trivial)))))))))
  injection h with h; subst h
  exact fun_ok pm pn Go.Proofs.Try.func42 (r0 := vb false) (ans := [.reg (.n :: []), .reg (nN 4 (nS 3 (.b false :: .n :: [])))]) (fr := true) (by kernel_rfl) (an (an (ti trivial) (an e106 trivial)) (ti trivial)) (Wv.refl _)
def arK0_0  : List Ans := (nN 3 (.skip :: .skip :: .b false :: nN 4 (.skip :: .skip :: .b false :: .b false :: .n :: [])))
def ngrind_isLetter (k : Nat) (a0 : Int) : Option Bool :=
  if 97 ≤ a0 then (if a0 ≤ 122 then (some true) else (if 65 ≤ a0 then (some (decide (a0 ≤ 90))) else (some false))) else (if 65 ≤ a0 then (some (decide (a0 ≤ 90))) else (some false))
theorem ngrind_isLetter_ok (k : Nat) (a0 : Int) (r : Bool) (h : ngrind_isLetter k a0 = some r) : VC Go.Proofs.Try.prog 91 [VV.c (.int .i32 a0)] (vb r) := by
 unfold ngrind_isLetter at h
 rcases ifs h with ⟨h123, h⟩ | ⟨h123, h⟩
 ·rcases ifs h with ⟨h124, h⟩ | ⟨h124, h⟩
  ·have e125 := (ti (ti (ti (an (an (decide_eq_true h123) trivial) (an (an (decide_eq_true h123) trivial) (an (decide_eq_true h123) (ti (an (decide_eq_true h124) (an (decide_eq_true h124) (an (decide_eq_true h124) (ti (ti (an (decide_eq_true h124) (an (decide_eq_true h124) (ti trivial)))))))))))))))
   injection h with h; subst h
   exact fun_ok pm pn Go.Proofs.Try.func91 (r0 := vb true) (ans := [.reg (.n :: []), .reg (nN 5 (.b true :: .n :: nS 6 (.b true :: .n :: [])))]) (fr := true) (by kernel_rfl) (an (an (ti trivial) (an e125 trivial)) (ti trivial)) (Wv.refl _)
  ·rcases ifs h with ⟨h126, h⟩ | ⟨h126, h⟩
   ·have e127 := (an (decide_eq_false h124) (decide_eq_true h126))
    have e128 := (ti (ti (ti (an (an (decide_eq_true h123) trivial) (an (an (decide_eq_true h123) trivial) (an (decide_eq_true h123) (ti (an (an (decide_eq_false h124) trivial) (an (an (decide_eq_false h124) trivial) (an (an (decide_eq_false h124) trivial) (an (an (decide_eq_true h126) trivial) (an (an (decide_eq_true h126) trivial) (an e127 (an (decide_eq_false h124) (ti trivial)))))))))))))))
    injection h with h; subst h
    exact fun_ok pm pn Go.Proofs.Try.func91 (r0 := vb (decide (a0 ≤ 90))) (ans := [.reg (.n :: []), .reg (nN 5 (.b true :: nN 6 (.b true :: .b false :: .n :: [])))]) (fr := true) (by kernel_rfl) (an (an (ti trivial) (an e128 trivial)) (ti trivial)) (Wv.refl _)
   ·have e129 := (an (decide_eq_false h124) (decide_eq_false h126))
    have e130 := (ti (ti (ti (an (an (decide_eq_true h123) trivial) (an (an (decide_eq_true h123) trivial) (an (decide_eq_true h123) (ti (an (an (decide_eq_false h124) trivial) (an (an (decide_eq_false h124) trivial) (an (an (decide_eq_false h124) trivial) (an (decide_eq_false h126) (an (decide_eq_false h126) (an e129 (an (decide_eq_false h124) (ti trivial)))))))))))))))
    injection h with h; subst h
    exact fun_ok pm pn Go.Proofs.Try.func91 (r0 := vb false) (ans := [.reg (.n :: []), .reg (nN 5 (.b true :: nN 4 (.skip :: .skip :: .b false :: .b false :: .n :: [])))]) (fr := true) (by kernel_rfl) (an (an (ti trivial) (an e130 trivial)) (ti trivial)) (Wv.refl _)
 ·rcases ifs h with ⟨h131, h⟩ | ⟨h131, h⟩
  ·have e132 := (ti (ti (ti (an (decide_eq_false h123) (an (decide_eq_false h123) (an (decide_eq_false h123) (ti (an (an rf trivial) (an (an rf trivial) (an (an rf trivial) (an (an (decide_eq_true h131) trivial) (an (an (decide_eq_true h131) trivial) (an (an rf (decide_eq_true h131)) (an rf (ti trivial)))))))))))))))
   injection h with h; subst h
   exact fun_ok pm pn Go.Proofs.Try.func91 (r0 := vb (decide (a0 ≤ 90))) (ans := [.reg (.n :: []), .reg (nN 3 (.skip :: .skip :: .b false :: nN 6 (.b true :: .b false :: .n :: [])))]) (fr := true) (by kernel_rfl) (an (an (ti trivial) (an e132 trivial)) (ti trivial)) (Wv.refl _)
  ·have e133 := (ti (ti (ti (an (decide_eq_false h123) (an (decide_eq_false h123) (an (decide_eq_false h123) (ti (an (an rf trivial) (an (an rf trivial) (an (an rf trivial) (an (decide_eq_false h131) (an (decide_eq_false h131) (an (an rf (decide_eq_false h131)) (an rf (ti trivial)))))))))))))))
   injection h with h; subst h
   exact fun_ok pm pn Go.Proofs.Try.func91 (r0 := vb false) (ans := [.reg (.n :: []), .reg arK0_0]) (fr := true) (by kernel_rfl) (an (an (ti trivial) (an e133 trivial)) (ti trivial)) (Wv.refl _)
def arK0_1 (z0 : Bool) : List Ans := (.n :: .call (vb z0) :: .n :: .n :: nS 7 (.b false :: .n :: .skip :: .skip :: .b false :: .n :: []))
def arK0_2 (z0 : Bool) : List Ans := (.n :: .call (vb z0) :: nN 7 (.b true :: .n :: .b true :: .n :: .skip :: .skip :: .b false :: .n :: []))
def arK0_3 (z0 : Bool) : List Ans := (.n :: .call (vb z0) :: nN 5 (.skip :: .skip :: .b false :: .n :: .b true :: nN 3 (.b true :: .n :: [])))
def ngrind_isForeign (k : Nat) (a0 : Int) : Option Bool :=
  (ngrind_isLetter k a0).bind fun r156 => (if r156 = true then (some false) else (if 48 ≤ a0 then (if a0 ≤ 57 then (some false) else (some (!(decide (a0 = 45))))) else (some (!(decide (a0 = 45))))))
theorem ngrind_isForeign_ok (k : Nat) (a0 : Int) (r : Bool) (h : ngrind_isForeign k a0 = some r) : VC Go.Proofs.Try.prog 93 [VV.c (.int .i32 a0)] (vb r) := by
 unfold ngrind_isForeign at h
 obtain ⟨r156, h157, h⟩ := bs h
 rcases ifs h with ⟨h158, h⟩ | ⟨h158, h⟩
 ·have e159 := (ti (an (ngrind_isLetter_ok k a0 _ h157) (ti (ti (an (not_f h158) (an (not_f h158) (an (not_f h158) (ti (ti (an (not_f h158) (an (not_f h158) (an (not_f h158) (ti (an rf (an rf (an rf (ti trivial)))))))))))))))))
  injection h with h; subst h
  exact fun_ok pm pn Go.Proofs.Try.func93 (r0 := vb false) (ans := [.reg (.n :: []), .reg (arK0_1 r156)]) (fr := true) (by kernel_rfl) (an (an (ti trivial) (an e159 trivial)) (ti trivial)) (Wv.refl _)
 ·rcases ifs h with ⟨h160, h⟩ | ⟨h160, h⟩
  ·have e161 := (an (not_t (bool_f h158)) (decide_eq_true h160))
   rcases ifs h with ⟨h162, h⟩ | ⟨h162, h⟩
   ·have e163 := (ti (an (ngrind_isLetter_ok k a0 _ h157) (ti (ti (an (an (not_t (bool_f h158)) trivial) (an (an (not_t (bool_f h158)) trivial) (an (an (not_t (bool_f h158)) trivial) (an (an (decide_eq_true h160) trivial) (an (an (decide_eq_true h160) trivial) (an e161 (an (an (not_t (bool_f h158)) trivial) (an (not_t (bool_f h158)) (ti (an (not_f (decide_eq_true h162)) (an (not_f (decide_eq_true h162)) (an (not_f (decide_eq_true h162)) (ti trivial)))))))))))))))))
    injection h with h; subst h
    exact fun_ok pm pn Go.Proofs.Try.func93 (r0 := vb false) (ans := [.reg (.n :: []), .reg (arK0_2 r156)]) (fr := true) (by kernel_rfl) (an (an (ti trivial) (an e163 trivial)) (ti trivial)) (Wv.refl _)
   ·have e164 := (an (not_t (decide_eq_false h162)) trivial)
    have e165 := (an (not_t (decide_eq_false h162)) trivial)
    have e166 := (ti (an (ngrind_isLetter_ok k a0 _ h157) (ti (ti (an (an (not_t (bool_f h158)) trivial) (an (an (not_t (bool_f h158)) trivial) (an (an (not_t (bool_f h158)) trivial) (an (an (decide_eq_true h160) trivial) (an (an (decide_eq_true h160) trivial) (an e161 (an (an (not_t (bool_f h158)) trivial) (an (not_t (bool_f h158)) (ti (an e164 (an e165 (an (not_t (decide_eq_false h162)) (ti trivial)))))))))))))))))
    injection h with h; subst h
    exact fun_ok pm pn Go.Proofs.Try.func93 (r0 := vb (!(decide (a0 = 45)))) (ans := [.reg (.n :: []), .reg (.n :: .call (vb r156) :: nN 7 (.b true :: .n :: .b true :: nN 3 (.b true :: .n :: [])))]) (fr := true) (by kernel_rfl) (an (an (ti trivial) (an e166 trivial)) (ti trivial)) (Wv.refl _)
  ·have e167 := (an (not_t (bool_f h158)) (decide_eq_false h160))
   have e168 := (an (show (!false) = true from (not_t rfl)) trivial)
   have e169 := (an (show (!false) = true from (not_t rfl)) trivial)
   have e170 := (ti (an (ngrind_isLetter_ok k a0 _ h157) (ti (ti (an (an (not_t (bool_f h158)) trivial) (an (an (not_t (bool_f h158)) trivial) (an (an (not_t (bool_f h158)) trivial) (an (decide_eq_false h160) (an (decide_eq_false h160) (an e167 (an (an (not_t (bool_f h158)) trivial) (an (not_t (bool_f h158)) (ti (an e168 (an e169 (an (show (!false) = true from (not_t rfl)) (ti trivial)))))))))))))))))
   injection h with h; subst h
   exact fun_ok pm pn Go.Proofs.Try.func93 (r0 := vb (!(decide (a0 = 45)))) (ans := [.reg (.n :: []), .reg (arK0_3 r156)]) (fr := true) (by kernel_rfl) (an (an (ti trivial) (an e170 trivial)) (ti trivial)) (Wv.refl _)
def nstrings_indexFunc_c1_grind_isForeign_l0_0_h (a0 : ByteArray) (a2 : Bool) (b0_1 : Int) : VS := ⟨mkA [(1, VV.fn 93 []), (2, vb a2), (10, VV.it 0)], [some ⟨true, bigX, [vs a0, vi b0_1]⟩], .nil⟩
def nstrings_indexFunc_c1_grind_isForeign_l0_0_e0 (a0 : ByteArray) (a2 : Bool) (r : Int) : VS := ⟨mkA [(6, vi r)], [], .nil⟩
def nstrings_indexFunc_c1_grind_isForeign_l0_0_e1 (a0 : ByteArray) (a2 : Bool) (r : Unit) : VS := ⟨mkA [], [], .nil⟩
def nstrings_indexFunc_c1_grind_isForeign_l0_0 (k : Nat) (a0 : ByteArray) (a2 : Bool) : Nat → Int → Option (Sum Int Unit)
  | 0, _ => none
  | fuel + 1, b0_1 => if b0_1 < (a0.size : Int) then (if 0 ≤ b0_1 then ((ngrind_isForeign k (((Go.Utf8.decode a0 (b0_1).toNat).1 : Nat) : Int)).bind fun r217 => (if (r217 == a2) = true then (some (.inl b0_1)) else (nstrings_indexFunc_c1_grind_isForeign_l0_0 k a0 a2 fuel (b0_1 + (((Go.Utf8.decode a0 (b0_1).toNat).2 : Nat) : Int))))) else none) else (some (.inr ()))
theorem nstrings_indexFunc_c1_grind_isForeign_l0_0_ok (k : Nat) (a0 : ByteArray) (a2 : Bool) : ∀ (fuel : Nat) (b0_1 : Int) (r : Sum Int Unit), nstrings_indexFunc_c1_grind_isForeign_l0_0 k a0 a2 fuel b0_1 = some r → (match r with | .inl r => VLoop none Go.Proofs.Try.prog (szF Go.Proofs.Try.f98) (bodyOf Go.Proofs.Try.f98 0) (nstrings_indexFunc_c1_grind_isForeign_l0_0_h a0 a2 b0_1) .ret (nstrings_indexFunc_c1_grind_isForeign_l0_0_e0 a0 a2 r) | .inr r => VLoop none Go.Proofs.Try.prog (szF Go.Proofs.Try.f98) (bodyOf Go.Proofs.Try.f98 0) (nstrings_indexFunc_c1_grind_isForeign_l0_0_h a0 a2 b0_1) (.exit 0) (nstrings_indexFunc_c1_grind_isForeign_l0_0_e1 a0 a2 r)) := by
 intro fuel
 induction fuel with
 | zero => intro b0_1 r h; rw [nstrings_indexFunc_c1_grind_isForeign_l0_0.eq_1] at h; cases h
 | succ fuel ih =>
  intro b0_1 r h
  rw [nstrings_indexFunc_c1_grind_isForeign_l0_0.eq_2] at h
  rcases ifs h with ⟨h214, h⟩ | ⟨h214, h⟩
  ·obtain ⟨h215, h⟩ := ifn h
   have e216 := (show 0 ≤ b0_1 ∧ b0_1 < (a0.size : Int) from ⟨h215, of_decide_eq_true (decide_eq_true h214)⟩)
   obtain ⟨r217, h218, h⟩ := bs h
   have e219 := (ngrind_isForeign_ok k (((Go.Utf8.decode a0 (b0_1).toNat).1 : Nat) : Int) _ h218)
   rcases ifs h with ⟨h220, h⟩ | ⟨h220, h⟩
   ·injection h with h; subst h
    exact round_stop (c := ⟨[(6, none)], [], []⟩) (s1 := (nstrings_indexFunc_c1_grind_isForeign_l0_0_e0 a0 a2 b0_1)) pm pn (ans := [.reg (.b true :: .n :: []), .br true, .reg (nN 4 []), .reg (.n :: .n :: .call (vb r217) :: .n :: .n :: []), .br true, .reg (.n :: .n :: [])]) (by kernel_rfl) (by intro e; cases e) (an (an (an e216 (ti trivial)) (an (an rt trivial) (an (ti (ti (ti (ti trivial)))) (an (ti (ti (an e219 (ti (ti trivial))))) (an h220 (an (ti (ti trivial)) trivial)))))) (ti trivial))
   ·have h2 := ih _ _ h
    obtain ⟨q, hv, hq⟩ := pkR (rd := none) (P := Go.Proofs.Try.prog) (fn := Go.Proofs.Try.f98) (k := 0) (s := (nstrings_indexFunc_c1_grind_isForeign_l0_0_h a0 a2 b0_1)) (ans := [.reg (.b true :: .n :: []), .br true, .reg (nN 4 []), .reg (.n :: .n :: .call (vb r217) :: .n :: .n :: []), .br false]) (c := ⟨[(1, none), (2, none), (10, none)], [none], []⟩) (e := .normal) (s1 := (nstrings_indexFunc_c1_grind_isForeign_l0_0_h a0 a2 (b0_1 + (((Go.Utf8.decode a0 (b0_1).toNat).2 : Nat) : Int)))) (an (an (an e216 (ti trivial)) (an (an rt trivial) (an (ti (ti (ti (ti trivial)))) (an (ti (ti (an e219 (ti (ti trivial))))) (an (bool_f h220) trivial))))) (ti trivial)) (by kernel_rfl)
    cases r with
    | inl r => exact round_next pm pn hv hq h2
    | inr r =>
     exact round_next pm pn hv hq h2
  ·have e221 := (show (a0.size : Int) ≤ b0_1 from (by have := of_decide_eq_false (decide_eq_false h214); omega))
   injection h with h; subst h
   exact round_stop (c := ⟨[], [], []⟩) (s1 := (nstrings_indexFunc_c1_grind_isForeign_l0_0_e1 a0 a2 ())) pm pn (ans := [.reg (.b false :: .n :: []), .br false]) (by kernel_rfl) (by intro e; cases e) (an (an (an e221 (ti trivial)) (an rf trivial)) (ti trivial))
def nstrings_indexFunc_c1_grind_isForeign (k : Nat) (a0 : ByteArray) (a1 : Unit) (a2 : Bool) : Option Int :=
  (nstrings_indexFunc_c1_grind_isForeign_l0_0 k a0 a2 k 0).bind fun r223 => (match r223 with | .inl r224 => (some r224) | .inr r225 => (some (-1)))
theorem nstrings_indexFunc_c1_grind_isForeign_ok (k : Nat) (a0 : ByteArray) (a1 : Unit) (a2 : Bool) (r : Int) (h : nstrings_indexFunc_c1_grind_isForeign k a0 a1 a2 = some r) : VC Go.Proofs.Try.prog 98 [vs a0, VV.fn 93 [], vb a2] (vi r) := by
 unfold nstrings_indexFunc_c1_grind_isForeign at h
 obtain ⟨r223, h222, h⟩ := bs h
 have hph222 := nstrings_indexFunc_c1_grind_isForeign_l0_0_ok k a0 a2 _ _ _ h222
 cases r223 with
 | inl r224 =>
  dsimp only at h
  have e226 := (an (ti trivial) (VRun.loop hph222))
  injection h with h; subst h
  exact fun_ok pm pn Go.Proofs.Try.func98 (r0 := vi r224) (ans := [.reg (.n :: []), .reg (.n :: .n :: []), .sub ⟨[(1, none), (2, none), (10, none)], [none], []⟩ .ret (nstrings_indexFunc_c1_grind_isForeign_l0_0_e0 a0 a2 r224)]) (fr := true) (by kernel_rfl) (an (an (ti trivial) (an (ti (ti trivial)) e226)) (ti trivial)) (Wv.refl _)
 | inr r225 =>
  dsimp only at h
  have e227 := (an (ti trivial) (VRun.loop hph222))
  injection h with h; subst h
  exact fun_ok pm pn Go.Proofs.Try.func98 (r0 := vi (-1)) (ans := [.reg (.n :: []), .reg (.n :: .n :: []), .sub ⟨[(1, none), (2, none), (10, none)], [none], []⟩ (.exit 0) (nstrings_indexFunc_c1_grind_isForeign_l0_0_e1 a0 a2 r225), .reg (.n :: [])]) (fr := true) (by kernel_rfl) (an (an (ti trivial) (an (an (ti (ti trivial)) e227) (an (ti trivial) trivial))) (ti trivial)) (Wv.refl _)
def nstrings_IndexFunc_c1_grind_isForeign (k : Nat) (a0 : ByteArray) (a1 : Unit) : Option Int :=
  (nstrings_indexFunc_c1_grind_isForeign k a0 a1 true).bind fun r231 => (some r231)
theorem nstrings_IndexFunc_c1_grind_isForeign_ok (k : Nat) (a0 : ByteArray) (a1 : Unit) (r : Int) (h : nstrings_IndexFunc_c1_grind_isForeign k a0 a1 = some r) : VC Go.Proofs.Try.prog 97 [vs a0, VV.fn 93 []] (vi r) := by
 unfold nstrings_IndexFunc_c1_grind_isForeign at h
 obtain ⟨r231, h232, h⟩ := bs h
 have e233 := (nstrings_indexFunc_c1_grind_isForeign_ok k a0 a1 true _ h232)
 injection h with h; subst h
 exact fun_ok pm pn Go.Proofs.Try.func97 (r0 := vi r231) (ans := [.reg (.n :: []), .reg (.n :: .n :: .call (vi r231) :: .n :: [])]) (fr := true) (by kernel_rfl) (an (an (ti trivial) (an (ti (ti (an e233 (ti trivial)))) trivial)) (ti trivial)) (Wv.refl _)
def nstrings_ContainsFunc_c1_grind_isForeign (k : Nat) (a0 : ByteArray) (a1 : Unit) : Option Bool :=
  (nstrings_IndexFunc_c1_grind_isForeign k a0 a1).bind fun r237 => (some (decide (0 ≤ r237)))
theorem nstrings_ContainsFunc_c1_grind_isForeign_ok (k : Nat) (a0 : ByteArray) (a1 : Unit) (r : Bool) (h : nstrings_ContainsFunc_c1_grind_isForeign k a0 a1 = some r) : VC Go.Proofs.Try.prog 92 [vs a0, VV.fn 93 []] (vb r) := by
 unfold nstrings_ContainsFunc_c1_grind_isForeign at h
 obtain ⟨r237, h238, h⟩ := bs h
 have e239 := (nstrings_IndexFunc_c1_grind_isForeign_ok k a0 a1 _ h238)
 injection h with h; subst h
 exact fun_ok pm pn Go.Proofs.Try.func92 (r0 := vb (decide (0 ≤ r237))) (ans := [.reg (.n :: []), .reg (.n :: .n :: .call (vi r237) :: .n :: .n :: [])]) (fr := true) (by kernel_rfl) (an (an (ti trivial) (an (ti (ti (an e239 (ti (ti trivial))))) trivial)) (ti trivial)) (Wv.refl _)
def arK0_4 (z0 : Bool) (z1 : Bool) (z2 : Bool) : List Ans := (.n :: .n :: .call (vb z0) :: nN 4 (.call (vb z1) :: .b true :: .n :: .n :: .call (vb z2) :: .n :: .b true :: .n :: []))
def arK0_5 (z0 : Bool) (z1 : Bool) : List Ans := (.n :: .n :: .call (vb z0) :: nN 4 (.call (vb z1) :: .b true :: .n :: nS 3 (.b false :: .n :: [])))
def arK0_6 (z0 : Bool) : List Ans := (.n :: .n :: .call (vb z0) :: .n :: nS 4 (.b false :: .n :: nS 3 (.b false :: .n :: [])))
def ngrind_isName (k : Nat) (a0 : ByteArray) : Option Bool :=
  (ngrind_isWithin k (a0.size : Int) 1 12).bind fun r246 => (if r246 = true then (if (0 : Int) ≤ 0 ∧ 0 < (a0.size : Int) then ((ngrind_isLetter k (IntKind.i32.wrap (bat a0 0))).bind fun r251 => (if r251 = true then ((nstrings_ContainsFunc_c1_grind_isForeign k a0 ()).bind fun r255 => (some (!r255))) else (some false))) else none) else (some false))
theorem ngrind_isName_ok (k : Nat) (a0 : ByteArray) (r : Bool) (h : ngrind_isName k a0 = some r) : VC Go.Proofs.Try.prog 79 [vs a0] (vb r) := by
 unfold ngrind_isName at h
 obtain ⟨r246, h247, h⟩ := bs h
 have e248 := (ngrind_isWithin_ok k (a0.size : Int) 1 12 _ h247)
 rcases ifs h with ⟨h249, h⟩ | ⟨h249, h⟩
 ·obtain ⟨h250, h⟩ := ifn h
  obtain ⟨r251, h252, h⟩ := bs h
  have e253 := (an h249 (ngrind_isLetter_ok k (IntKind.i32.wrap (bat a0 0)) _ h252))
  rcases ifs h with ⟨h254, h⟩ | ⟨h254, h⟩
  ·obtain ⟨r255, h256, h⟩ := bs h
   have e257 := (an h254 (nstrings_ContainsFunc_c1_grind_isForeign_ok k a0 () _ h256))
   have e258 := (ti (ti (an e248 (ti (an (an h249 trivial) (an (an h249 h250) (an (an h249 trivial) (an e253 (an h249 (ti (an (an h254 trivial) (an e257 (an (an h254 trivial) (an h254 (ti trivial)))))))))))))))
   injection h with h; subst h
   exact fun_ok pm pn Go.Proofs.Try.func79 (r0 := vb (!r255)) (ans := [.reg (.n :: []), .reg (arK0_4 r246 r251 r255)]) (fr := true) (by kernel_rfl) (an (an (ti trivial) (an e258 trivial)) (ti trivial)) (Wv.refl _)
  ·have e259 := (ti (ti (an e248 (ti (an (an h249 trivial) (an (an h249 h250) (an (an h249 trivial) (an e253 (an h249 (ti (an (bool_f h254) (an (bool_f h254) (an (bool_f h254) (an (bool_f h254) (ti trivial)))))))))))))))
   injection h with h; subst h
   exact fun_ok pm pn Go.Proofs.Try.func79 (r0 := vb false) (ans := [.reg (.n :: []), .reg (arK0_5 r246 r251)]) (fr := true) (by kernel_rfl) (an (an (ti trivial) (an e259 trivial)) (ti trivial)) (Wv.refl _)
 ·have e260 := (ti (ti (an e248 (ti (an (bool_f h249) (an (bool_f h249) (an (bool_f h249) (an (bool_f h249) (an (bool_f h249) (ti (an rf (an rf (an rf (an rf (ti trivial)))))))))))))))
  injection h with h; subst h
  exact fun_ok pm pn Go.Proofs.Try.func79 (r0 := vb false) (ans := [.reg (.n :: []), .reg (arK0_6 r246)]) (fr := true) (by kernel_rfl) (an (an (ti trivial) (an e260 trivial)) (ti trivial)) (Wv.refl _)
def nspeculumbase_isLetter (k : Nat) (a0 : Int) : Option Bool :=
  if 97 ≤ a0 then (if a0 ≤ 122 then (some true) else (if 65 ≤ a0 then (some (decide (a0 ≤ 90))) else (some false))) else (if 65 ≤ a0 then (some (decide (a0 ≤ 90))) else (some false))
theorem nspeculumbase_isLetter_ok (k : Nat) (a0 : Int) (r : Bool) (h : nspeculumbase_isLetter k a0 = some r) : VC Go.Proofs.Try.prog 57 [VV.c (.int .u8 a0)] (vb r) := by
 unfold nspeculumbase_isLetter at h
 rcases ifs h with ⟨h277, h⟩ | ⟨h277, h⟩
 ·rcases ifs h with ⟨h278, h⟩ | ⟨h278, h⟩
  ·have e279 := (ti (ti (ti (an (an (decide_eq_true h277) trivial) (an (an (decide_eq_true h277) trivial) (an (decide_eq_true h277) (ti (an (decide_eq_true h278) (an (decide_eq_true h278) (an (decide_eq_true h278) (ti (ti (an (decide_eq_true h278) (an (decide_eq_true h278) (ti trivial)))))))))))))))
   injection h with h; subst h
   exact fun_ok pm pn Go.Proofs.Try.func57 (r0 := vb true) (ans := [.reg (.n :: []), .reg (nN 5 (.b true :: .n :: nS 6 (.b true :: .n :: [])))]) (fr := true) (by kernel_rfl) (an (an (ti trivial) (an e279 trivial)) (ti trivial)) (Wv.refl _)
  ·rcases ifs h with ⟨h280, h⟩ | ⟨h280, h⟩
   ·have e281 := (an (decide_eq_false h278) (decide_eq_true h280))
    have e282 := (ti (ti (ti (an (an (decide_eq_true h277) trivial) (an (an (decide_eq_true h277) trivial) (an (decide_eq_true h277) (ti (an (an (decide_eq_false h278) trivial) (an (an (decide_eq_false h278) trivial) (an (an (decide_eq_false h278) trivial) (an (an (decide_eq_true h280) trivial) (an (an (decide_eq_true h280) trivial) (an e281 (an (decide_eq_false h278) (ti trivial)))))))))))))))
    injection h with h; subst h
    exact fun_ok pm pn Go.Proofs.Try.func57 (r0 := vb (decide (a0 ≤ 90))) (ans := [.reg (.n :: []), .reg (nN 5 (.b true :: nN 6 (.b true :: .b false :: .n :: [])))]) (fr := true) (by kernel_rfl) (an (an (ti trivial) (an e282 trivial)) (ti trivial)) (Wv.refl _)
   ·have e283 := (an (decide_eq_false h278) (decide_eq_false h280))
    have e284 := (ti (ti (ti (an (an (decide_eq_true h277) trivial) (an (an (decide_eq_true h277) trivial) (an (decide_eq_true h277) (ti (an (an (decide_eq_false h278) trivial) (an (an (decide_eq_false h278) trivial) (an (an (decide_eq_false h278) trivial) (an (decide_eq_false h280) (an (decide_eq_false h280) (an e283 (an (decide_eq_false h278) (ti trivial)))))))))))))))
    injection h with h; subst h
    exact fun_ok pm pn Go.Proofs.Try.func57 (r0 := vb false) (ans := [.reg (.n :: []), .reg (nN 5 (.b true :: nN 4 (.skip :: .skip :: .b false :: .b false :: .n :: [])))]) (fr := true) (by kernel_rfl) (an (an (ti trivial) (an e284 trivial)) (ti trivial)) (Wv.refl _)
 ·rcases ifs h with ⟨h285, h⟩ | ⟨h285, h⟩
  ·have e286 := (ti (ti (ti (an (decide_eq_false h277) (an (decide_eq_false h277) (an (decide_eq_false h277) (ti (an (an rf trivial) (an (an rf trivial) (an (an rf trivial) (an (an (decide_eq_true h285) trivial) (an (an (decide_eq_true h285) trivial) (an (an rf (decide_eq_true h285)) (an rf (ti trivial)))))))))))))))
   injection h with h; subst h
   exact fun_ok pm pn Go.Proofs.Try.func57 (r0 := vb (decide (a0 ≤ 90))) (ans := [.reg (.n :: []), .reg (nN 3 (.skip :: .skip :: .b false :: nN 6 (.b true :: .b false :: .n :: [])))]) (fr := true) (by kernel_rfl) (an (an (ti trivial) (an e286 trivial)) (ti trivial)) (Wv.refl _)
  ·have e287 := (ti (ti (ti (an (decide_eq_false h277) (an (decide_eq_false h277) (an (decide_eq_false h277) (ti (an (an rf trivial) (an (an rf trivial) (an (an rf trivial) (an (decide_eq_false h285) (an (decide_eq_false h285) (an (an rf (decide_eq_false h285)) (an rf (ti trivial)))))))))))))))
   injection h with h; subst h
   exact fun_ok pm pn Go.Proofs.Try.func57 (r0 := vb false) (ans := [.reg (.n :: []), .reg arK0_0]) (fr := true) (by kernel_rfl) (an (an (ti trivial) (an e287 trivial)) (ti trivial)) (Wv.refl _)
def nspeculumbase_isDigit (k : Nat) (a0 : Int) : Option Bool :=
  if 48 ≤ a0 then (some (decide (a0 ≤ 57))) else (some false)
theorem nspeculumbase_isDigit_ok (k : Nat) (a0 : Int) (r : Bool) (h : nspeculumbase_isDigit k a0 = some r) : VC Go.Proofs.Try.prog 58 [VV.c (.int .u8 a0)] (vb r) := by
 unfold nspeculumbase_isDigit at h
 rcases ifs h with ⟨h303, h⟩ | ⟨h303, h⟩
 ·have e304 := (ti (ti (ti (an (an (decide_eq_true h303) trivial) (an (an (decide_eq_true h303) trivial) (an (decide_eq_true h303) (ti trivial)))))))
  injection h with h; subst h
  exact fun_ok pm pn Go.Proofs.Try.func58 (r0 := vb (decide (a0 ≤ 57))) (ans := [.reg (.n :: []), .reg (nN 5 (.b true :: .n :: []))]) (fr := true) (by kernel_rfl) (an (an (ti trivial) (an e304 trivial)) (ti trivial)) (Wv.refl _)
 ·have e305 := (ti (ti (ti (an (decide_eq_false h303) (an (decide_eq_false h303) (an (decide_eq_false h303) (ti trivial)))))))
  injection h with h; subst h
  exact fun_ok pm pn Go.Proofs.Try.func58 (r0 := vb false) (ans := [.reg (.n :: []), .reg (nN 3 (.skip :: .skip :: .b false :: .n :: []))]) (fr := true) (by kernel_rfl) (an (an (ti trivial) (an e305 trivial)) (ti trivial)) (Wv.refl _)
def arK0_7 (z0 : Bool) (z1 : Bool) : List Ans := (nN 3 (.call (vb z0) :: nN 5 (.call (vb z1) :: .n :: .b true :: .n :: nS 4 (.b false :: []))))
def arK0_8 (z0 : Bool) (z1 : Bool) : List Ans := (nN 3 (.call (vb z0) :: nN 5 (.call (vb z1) :: .n :: .b true :: nN 5 (.b true :: []))))
def nspeculumbase_IsName_l0_0_h (a0 : ByteArray) (x3 : Int) : VS := ⟨mkA [(0, vs a0), (3, vi x3)], [], .nil⟩
def nspeculumbase_IsName_l0_0_e0 (a0 : ByteArray) (r : Unit) : VS := ⟨mkA [(2, vb false)], [], .nil⟩
def nspeculumbase_IsName_l0_0_e1 (a0 : ByteArray) (r : Unit) : VS := ⟨mkA [], [], .nil⟩
def nspeculumbase_IsName_l0_0 (k : Nat) (a0 : ByteArray) : Nat → Int → Option (Sum Unit Unit)
  | 0, _ => none
  | fuel + 1, x3 => if x3 < (a0.size : Int) then (if 0 ≤ x3 ∧ x3 < (a0.size : Int) then ((nspeculumbase_isLetter k (bat a0 x3)).bind fun r387 => (if r387 = true then (nspeculumbase_IsName_l0_0 k a0 fuel (w64 (x3 + 1))) else ((nspeculumbase_isDigit k (bat a0 x3)).bind fun r392 => (if r392 = true then (nspeculumbase_IsName_l0_0 k a0 fuel (w64 (x3 + 1))) else (if (bat a0 x3) = 45 then (nspeculumbase_IsName_l0_0 k a0 fuel (w64 (x3 + 1))) else (some (.inl ()))))))) else none) else (some (.inr ()))
theorem nspeculumbase_IsName_l0_0_ok (k : Nat) (a0 : ByteArray) : ∀ (fuel : Nat) (x3 : Int) (r : Sum Unit Unit), nspeculumbase_IsName_l0_0 k a0 fuel x3 = some r → (match r with | .inl r => VLoop none Go.Proofs.Try.prog (szF Go.Proofs.Try.f26) (bodyOf Go.Proofs.Try.f26 0) (nspeculumbase_IsName_l0_0_h a0 x3) .ret (nspeculumbase_IsName_l0_0_e0 a0 r) | .inr r => VLoop none Go.Proofs.Try.prog (szF Go.Proofs.Try.f26) (bodyOf Go.Proofs.Try.f26 0) (nspeculumbase_IsName_l0_0_h a0 x3) (.exit 0) (nspeculumbase_IsName_l0_0_e1 a0 r)) := by
 intro fuel
 induction fuel with
 | zero => intro x3 r h; rw [nspeculumbase_IsName_l0_0.eq_1] at h; cases h
 | succ fuel ih =>
  intro x3 r h
  rw [nspeculumbase_IsName_l0_0.eq_2] at h
  rcases ifs h with ⟨h385, h⟩ | ⟨h385, h⟩
  ·obtain ⟨h386, h⟩ := ifn h
   obtain ⟨r387, h388, h⟩ := bs h
   have e389 := (nspeculumbase_isLetter_ok k (bat a0 x3) _ h388)
   rcases ifs h with ⟨h390, h⟩ | ⟨h390, h⟩
   ·have e391 := (ti (ti (an h386 (an e389 (ti (ti (an (not_f h390) (an (not_f h390) (an (not_f h390) (an (not_f h390) (an (not_f h390) (an (not_f h390) (ti (an rf (an rf (an rf (an rf (an rf trivial))))))))))))))))))
    have h2 := ih _ _ h
    obtain ⟨q, hv, hq⟩ := pkR (rd := none) (P := Go.Proofs.Try.prog) (fn := Go.Proofs.Try.f26) (k := 0) (s := (nspeculumbase_IsName_l0_0_h a0 x3)) (ans := [.reg (nN 4 []), .br true, .reg (nN 3 (.call (vb r387) :: .n :: .n :: nS 5 (.b false :: .n :: nS 4 (.b false :: [])))), .br false, .reg (nN 3 [])]) (c := ⟨[(0, none), (3, none)], [], []⟩) (e := .normal) (s1 := (nspeculumbase_IsName_l0_0_h a0 (w64 (x3 + 1)))) (an (an (an (ti (ti (ti (ti trivial)))) (an (decide_eq_true h385) trivial)) (an (an e391 (an rf trivial)) (ti (ti (ti trivial))))) (ti trivial)) (by kernel_rfl)
    cases r with
    | inl r => exact round_next pm pn hv hq h2
    | inr r =>
     exact round_next pm pn hv hq h2
   ·obtain ⟨r392, h393, h⟩ := bs h
    have e394 := (an (not_t (bool_f h390)) (nspeculumbase_isDigit_ok k (bat a0 x3) _ h393))
    rcases ifs h with ⟨h395, h⟩ | ⟨h395, h⟩
    ·have e396 := (ti (ti (an h386 (an e389 (ti (ti (an (an (not_t (bool_f h390)) trivial) (an (an (not_t (bool_f h390)) trivial) (an (an (not_t (bool_f h390)) h386) (an e394 (an (an (not_t (bool_f h390)) trivial) (an (not_t (bool_f h390)) (ti (an (not_f h395) (an (not_f h395) (an (not_f h395) (an (not_f h395) (an (not_f h395) trivial))))))))))))))))))
     have h2 := ih _ _ h
     obtain ⟨q, hv, hq⟩ := pkR (rd := none) (P := Go.Proofs.Try.prog) (fn := Go.Proofs.Try.f26) (k := 0) (s := (nspeculumbase_IsName_l0_0_h a0 x3)) (ans := [.reg (nN 4 []), .br true, .reg (arK0_7 r387 r392), .br false, .reg (nN 3 [])]) (c := ⟨[(0, none), (3, none)], [], []⟩) (e := .normal) (s1 := (nspeculumbase_IsName_l0_0_h a0 (w64 (x3 + 1)))) (an (an (an (ti (ti (ti (ti trivial)))) (an (decide_eq_true h385) trivial)) (an (an e396 (an rf trivial)) (ti (ti (ti trivial))))) (ti trivial)) (by kernel_rfl)
     cases r with
     | inl r => exact round_next pm pn hv hq h2
     | inr r =>
      exact round_next pm pn hv hq h2
    ·have e397 := (ti (ti (an h386 (an e389 (ti (ti (an (an (not_t (bool_f h390)) trivial) (an (an (not_t (bool_f h390)) trivial) (an (an (not_t (bool_f h390)) h386) (an e394 (an (an (not_t (bool_f h390)) trivial) (an (not_t (bool_f h390)) (ti (an (an (not_t (bool_f h395)) trivial) (an (an (not_t (bool_f h395)) trivial) (an (an (not_t (bool_f h395)) h386) (an (an (not_t (bool_f h395)) trivial) (an (not_t (bool_f h395)) trivial))))))))))))))))))
     rcases ifs h with ⟨h398, h⟩ | ⟨h398, h⟩
     ·have h2 := ih _ _ h
      obtain ⟨q, hv, hq⟩ := pkR (rd := none) (P := Go.Proofs.Try.prog) (fn := Go.Proofs.Try.f26) (k := 0) (s := (nspeculumbase_IsName_l0_0_h a0 x3)) (ans := [.reg (nN 4 []), .br true, .reg (arK0_8 r387 r392), .br false, .reg (nN 3 [])]) (c := ⟨[(0, none), (3, none)], [], []⟩) (e := .normal) (s1 := (nspeculumbase_IsName_l0_0_h a0 (w64 (x3 + 1)))) (an (an (an (ti (ti (ti (ti trivial)))) (an (decide_eq_true h385) trivial)) (an (an e397 (an (not_f (decide_eq_true h398)) trivial)) (ti (ti (ti trivial))))) (ti trivial)) (by kernel_rfl)
      cases r with
      | inl r => exact round_next pm pn hv hq h2
      | inr r =>
       exact round_next pm pn hv hq h2
     ·injection h with h; subst h
      exact round_stop (c := ⟨[(2, none)], [], []⟩) (s1 := (nspeculumbase_IsName_l0_0_e0 a0 ())) pm pn (ans := [.reg (nN 4 []), .br true, .reg (arK0_8 r387 r392), .br true, .reg (.n :: [])]) (by kernel_rfl) (by intro e; cases e) (an (an (an (ti (ti (ti (ti trivial)))) (an (decide_eq_true h385) trivial)) (an e397 (an (not_t (decide_eq_false h398)) (an (ti trivial) trivial)))) (ti trivial))
  ·injection h with h; subst h
   exact round_stop (c := ⟨[], [], []⟩) (s1 := (nspeculumbase_IsName_l0_0_e1 a0 ())) pm pn (ans := [.reg (nN 4 []), .br false]) (by kernel_rfl) (by intro e; cases e) (an (an (ti (ti (ti (ti trivial)))) (an (decide_eq_false h385) trivial)) (ti trivial))
def nspeculumbase_IsName (k : Nat) (a0 : ByteArray) : Option Bool :=
  if (a0.size : Int) = 0 then (some false) else (if 12 < (a0.size : Int) then (some false) else (if (0 : Int) ≤ 0 ∧ 0 < (a0.size : Int) then ((nspeculumbase_isLetter k (bat a0 0)).bind fun r352 => (if r352 = true then ((nspeculumbase_IsName_l0_0 k a0 k 0).bind fun r400 => (match r400 with | .inl r401 => (some false) | .inr r402 => (some true))) else (some false))) else none))
theorem nspeculumbase_IsName_ok (k : Nat) (a0 : ByteArray) (r : Bool) (h : nspeculumbase_IsName k a0 = some r) : VC Go.Proofs.Try.prog 26 [vs a0] (vb r) := by
 unfold nspeculumbase_IsName at h
 rcases ifs h with ⟨h347, h⟩ | ⟨h347, h⟩
 ·have e348 := (ti (ti (ti (ti (an (decide_eq_true h347) (an (decide_eq_true h347) (an (decide_eq_true h347) (an (decide_eq_true h347) (ti (an rt (an rt (an rt (an rt (an rt trivial))))))))))))))
  injection h with h; subst h
  exact fun_ok pm pn Go.Proofs.Try.func26 (r0 := vb false) (ans := [.reg (.n :: []), .reg (nN 4 (nS 3 (.b true :: .n :: nS 4 (.b true :: [])))), .br true, .reg (.n :: [])]) (fr := true) (by kernel_rfl) (an (an (ti trivial) (an e348 (an rt (an (ti trivial) trivial)))) (ti trivial)) (Wv.refl _)
 ·rcases ifs h with ⟨h349, h⟩ | ⟨h349, h⟩
  ·have e350 := (ti (ti (ti (ti (an (an (decide_eq_false h347) trivial) (an (an (decide_eq_false h347) trivial) (an (an (decide_eq_false h347) trivial) (an (decide_eq_false h347) (ti (an (decide_eq_true h349) (an (decide_eq_true h349) (an (decide_eq_true h349) (an (decide_eq_true h349) (an (decide_eq_true h349) trivial))))))))))))))
   injection h with h; subst h
   exact fun_ok pm pn Go.Proofs.Try.func26 (r0 := vb false) (ans := [.reg (.n :: []), .reg (nN 7 (.b false :: .n :: nS 4 (.b true :: []))), .br true, .reg (.n :: [])]) (fr := true) (by kernel_rfl) (an (an (ti trivial) (an e350 (an rt (an (ti trivial) trivial)))) (ti trivial)) (Wv.refl _)
  ·obtain ⟨h351, h⟩ := ifn h
   obtain ⟨r352, h353, h⟩ := bs h
   have e354 := (an (decide_eq_false h349) (nspeculumbase_isLetter_ok k (bat a0 0) _ h353))
   have e355 := (ti (ti (ti (ti (an (an (decide_eq_false h347) trivial) (an (an (decide_eq_false h347) trivial) (an (an (decide_eq_false h347) trivial) (an (decide_eq_false h347) (ti (an (an (decide_eq_false h349) trivial) (an (an (decide_eq_false h349) h351) (an e354 (an (an (decide_eq_false h349) trivial) (an (decide_eq_false h349) trivial))))))))))))))
   rcases ifs h with ⟨h356, h⟩ | ⟨h356, h⟩
   ·obtain ⟨r400, h399, h⟩ := bs h
    have hph399 := nspeculumbase_IsName_l0_0_ok k a0 _ _ _ h399
    cases r400 with
    | inl r401 =>
     dsimp only at h
     have e403 := (an (ti trivial) (VRun.loop hph399))
     injection h with h; subst h
     exact fun_ok pm pn Go.Proofs.Try.func26 (r0 := vb false) (ans := [.reg (.n :: []), .reg (nN 7 (.b false :: nN 3 (.call (vb r352) :: .n :: .b false :: []))), .br false, .reg (.n :: []), .sub ⟨[(0, none), (3, none)], [], []⟩ .ret (nspeculumbase_IsName_l0_0_e0 a0 r401)]) (fr := true) (by kernel_rfl) (an (an (ti trivial) (an (an e355 (an (not_f h356) trivial)) (an (ti trivial) e403))) (ti trivial)) (Wv.refl _)
    | inr r402 =>
     dsimp only at h
     have e404 := (an (ti trivial) (VRun.loop hph399))
     injection h with h; subst h
     exact fun_ok pm pn Go.Proofs.Try.func26 (r0 := vb true) (ans := [.reg (.n :: []), .reg (nN 7 (.b false :: nN 3 (.call (vb r352) :: .n :: .b false :: []))), .br false, .reg (.n :: []), .sub ⟨[(0, none), (3, none)], [], []⟩ (.exit 0) (nspeculumbase_IsName_l0_0_e1 a0 r402), .reg (.n :: [])]) (fr := true) (by kernel_rfl) (an (an (ti trivial) (an (an e355 (an (not_f h356) trivial)) (an (an (ti trivial) e404) (an (ti trivial) trivial)))) (ti trivial)) (Wv.refl _)
   ·injection h with h; subst h
    exact fun_ok pm pn Go.Proofs.Try.func26 (r0 := vb false) (ans := [.reg (.n :: []), .reg (nN 7 (.b false :: nN 3 (.call (vb r352) :: .n :: .b false :: []))), .br true, .reg (.n :: [])]) (fr := true) (by kernel_rfl) (an (an (ti trivial) (an e355 (an (not_t (bool_f h356)) (an (ti trivial) trivial)))) (ti trivial)) (Wv.refl _)
def nspeculumbase_Within (k : Nat) (a0 : Int) (a1 : Int) (a2 : Int) : Option Bool :=
  if a1 ≤ a0 then (some (decide (a0 ≤ a2))) else (some false)
theorem nspeculumbase_Within_ok (k : Nat) (a0 : Int) (a1 : Int) (a2 : Int) (r : Bool) (h : nspeculumbase_Within k a0 a1 a2 = some r) : VC Go.Proofs.Try.prog 14 [vi a0, vi a1, vi a2] (vb r) := by
 unfold nspeculumbase_Within at h
 rcases ifs h with ⟨h408, h⟩ | ⟨h408, h⟩
 ·have e409 := (ti (ti (ti (ti (an (an (decide_eq_true h408) trivial) (an (an (decide_eq_true h408) trivial) (an (an (decide_eq_true h408) trivial) (an (decide_eq_true h408) (ti trivial)))))))))
  injection h with h; subst h
  exact fun_ok pm pn Go.Proofs.Try.func14 (r0 := vb (decide (a0 ≤ a2))) (ans := [.reg (.n :: []), .reg (nN 7 (.b true :: .n :: []))]) (fr := true) (by kernel_rfl) (an (an (ti trivial) (an e409 trivial)) (ti trivial)) (Wv.refl _)
 ·have e410 := (ti (ti (ti (ti (an (decide_eq_false h408) (an (decide_eq_false h408) (an (decide_eq_false h408) (an (decide_eq_false h408) (ti trivial)))))))))
  injection h with h; subst h
  exact fun_ok pm pn Go.Proofs.Try.func14 (r0 := vb false) (ans := [.reg (.n :: []), .reg (nN 4 (nS 3 (.b false :: .n :: [])))]) (fr := true) (by kernel_rfl) (an (an (ti trivial) (an e410 trivial)) (ti trivial)) (Wv.refl _)
end Go.Proofs.Ytjhclaollpkdgaa.Vg

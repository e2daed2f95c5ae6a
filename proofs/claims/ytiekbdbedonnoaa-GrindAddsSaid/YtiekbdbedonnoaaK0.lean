import Derived.Test.YtiekbdbedonnoaaWa
namespace Go.Proofs.Ytiekbdbedonnoaa.Vg
set_option maxRecDepth 100000
set_option maxHeartbeats 4000000
set_option linter.unusedVariables false
set_option linter.unusedSimpArgs false
open Go Go.Proofs.Ytiekbdbedonnoaa.Ev Go.Proofs.Ytiekbdbedonnoaa.Vv
open List (flatMap length_cons length_nil length_map length_append map_cons map_nil length_replicate)
def Y3 (k : Nat) (a0 : Int) (a1 : Int) (a2 : Int) : Option Bool :=
 if a1 <= a0 then (some (decide (a0 <= a2))) else (some false)
theorem Qcp (k : Nat) (a0 : Int) (a1 : Int) (a2 : Int) (r : Bool) (h : Y3 k a0 a1 a2 = some r) : VC Try.prog 39 [vi a0, vi a1, vi a2] (vb r) := by
 unfold Y3 at h
 rcases ifs h with ⟨h104, h⟩ | ⟨h104, h⟩
 ·have e105 := (ti (ti (ti (ti (an (an (dt h104) tt) (an (an (dt h104) tt) (an (an (dt h104) tt) (an (dt h104) (ti tt)))))))))
  injection h with h; subst h
  exact Qq pm pn Try.func39 (r0 := vb (decide (a0 <= a2))) (ans := [.reg (.n :: []), .reg (nN 7 (.b true :: .n :: []))]) (fr := true) (by kernel_rfl) (an (an (ti tt) (an e105 tt)) (ti tt)) (Wv.refl _)
 ·have e106 := (ti (ti (ti (ti (an (df h104) (an (df h104) (an (df h104) (an (df h104) (ti tt)))))))))
  injection h with h; subst h
  exact Qq pm pn Try.func39 (r0 := vb false) (ans := [.reg (.n :: []), .reg (nN 4 (nS 3 (.b false :: .n :: [])))]) (fr := true) (by kernel_rfl) (an (an (ti tt) (an e106 tt)) (ti tt)) (Wv.refl _)
def Qyx  : List Ans := (nN 3 (.skip :: .skip :: .b false :: nN 4 (.skip :: .skip :: .b false :: .b false :: .n :: [])))
def Qb6 (k : Nat) (a0 : Int) : Option Bool :=
 if 97 <= a0 then (if a0 <= 122 then (some true) else (if 65 <= a0 then (some (decide (a0 <= 90))) else (some false))) else (if 65 <= a0 then (some (decide (a0 <= 90))) else (some false))
theorem Qbv (k : Nat) (a0 : Int) (r : Bool) (h : Qb6 k a0 = some r) : VC Try.prog 87 [VV.c (.int .i32 a0)] (vb r) := by
 unfold Qb6 at h
 rcases ifs h with ⟨h123, h⟩ | ⟨h123, h⟩
 ·rcases ifs h with ⟨h124, h⟩ | ⟨h124, h⟩
  ·have e125 := (ti (ti (ti (an (an (dt h123) tt) (an (an (dt h123) tt) (an (dt h123) (ti (an (dt h124) (an (dt h124) (an (dt h124) (ti (ti (an (dt h124) (an (dt h124) (ti tt)))))))))))))))
   injection h with h; subst h
   exact Qq pm pn Try.func87 (r0 := vb true) (ans := [.reg (.n :: []), .reg (nN 5 (.b true :: .n :: nS 6 (.b true :: .n :: [])))]) (fr := true) (by kernel_rfl) (an (an (ti tt) (an e125 tt)) (ti tt)) (Wv.refl _)
  ·rcases ifs h with ⟨h126, h⟩ | ⟨h126, h⟩
   ·have e127 := (an (df h124) (dt h126))
    have e128 := (ti (ti (ti (an (an (dt h123) tt) (an (an (dt h123) tt) (an (dt h123) (ti (an (an (df h124) tt) (an (an (df h124) tt) (an (an (df h124) tt) (an (an (dt h126) tt) (an (an (dt h126) tt) (an e127 (an (df h124) (ti tt)))))))))))))))
    injection h with h; subst h
    exact Qq pm pn Try.func87 (r0 := vb (decide (a0 <= 90))) (ans := [.reg (.n :: []), .reg (nN 5 (.b true :: nN 6 (.b true :: .b false :: .n :: [])))]) (fr := true) (by kernel_rfl) (an (an (ti tt) (an e128 tt)) (ti tt)) (Wv.refl _)
   ·have e129 := (an (df h124) (df h126))
    have e130 := (ti (ti (ti (an (an (dt h123) tt) (an (an (dt h123) tt) (an (dt h123) (ti (an (an (df h124) tt) (an (an (df h124) tt) (an (an (df h124) tt) (an (df h126) (an (df h126) (an e129 (an (df h124) (ti tt)))))))))))))))
    injection h with h; subst h
    exact Qq pm pn Try.func87 (r0 := vb false) (ans := [.reg (.n :: []), .reg (nN 5 (.b true :: nN 4 (.skip :: .skip :: .b false :: .b false :: .n :: [])))]) (fr := true) (by kernel_rfl) (an (an (ti tt) (an e130 tt)) (ti tt)) (Wv.refl _)
 ·rcases ifs h with ⟨h131, h⟩ | ⟨h131, h⟩
  ·have e132 := (ti (ti (ti (an (df h123) (an (df h123) (an (df h123) (ti (an (an rf tt) (an (an rf tt) (an (an rf tt) (an (an (dt h131) tt) (an (an (dt h131) tt) (an (an rf (dt h131)) (an rf (ti tt)))))))))))))))
   injection h with h; subst h
   exact Qq pm pn Try.func87 (r0 := vb (decide (a0 <= 90))) (ans := [.reg (.n :: []), .reg (nN 3 (.skip :: .skip :: .b false :: nN 6 (.b true :: .b false :: .n :: [])))]) (fr := true) (by kernel_rfl) (an (an (ti tt) (an e132 tt)) (ti tt)) (Wv.refl _)
  ·have e133 := (ti (ti (ti (an (df h123) (an (df h123) (an (df h123) (ti (an (an rf tt) (an (an rf tt) (an (an rf tt) (an (df h131) (an (df h131) (an (an rf (df h131)) (an rf (ti tt)))))))))))))))
   injection h with h; subst h
   exact Qq pm pn Try.func87 (r0 := vb false) (ans := [.reg (.n :: []), .reg Qyx]) (fr := true) (by kernel_rfl) (an (an (ti tt) (an e133 tt)) (ti tt)) (Wv.refl _)
def Q1x (z0 : Bool) : List Ans := (.n :: .call (vb z0) :: .n :: .n :: nS 7 (.b false :: .n :: .skip :: .skip :: .b false :: .n :: []))
def Q1y (z0 : Bool) : List Ans := (.n :: .call (vb z0) :: nN 7 (.b true :: .n :: .b true :: .n :: .skip :: .skip :: .b false :: .n :: []))
def Q1z (z0 : Bool) : List Ans := (.n :: .call (vb z0) :: nN 5 (.skip :: .skip :: .b false :: .n :: .b true :: nN 3 (.b true :: .n :: [])))
def Qcl (k : Nat) (a0 : Int) : Option Bool :=
 (Qb6 k a0).bind fun r156 => (if r156 = true then (some false) else (if 48 <= a0 then (if a0 <= 57 then (some false) else (some (!(decide (a0 = 45))))) else (some (!(decide (a0 = 45))))))
theorem Qh9 (k : Nat) (a0 : Int) (r : Bool) (h : Qcl k a0 = some r) : VC Try.prog 89 [VV.c (.int .i32 a0)] (vb r) := by
 unfold Qcl at h
 obtain ⟨r156, h157, h⟩ := bs h
 rcases ifs h with ⟨h158, h⟩ | ⟨h158, h⟩
 ·have e159 := (ti (an (Qbv k a0 _ h157) (ti (ti (an (Qs h158) (an (Qs h158) (an (Qs h158) (ti (ti (an (Qs h158) (an (Qs h158) (an (Qs h158) (ti (an rf (an rf (an rf (ti tt)))))))))))))))))
  injection h with h; subst h
  exact Qq pm pn Try.func89 (r0 := vb false) (ans := [.reg (.n :: []), .reg (Q1x r156)]) (fr := true) (by kernel_rfl) (an (an (ti tt) (an e159 tt)) (ti tt)) (Wv.refl _)
 ·rcases ifs h with ⟨h160, h⟩ | ⟨h160, h⟩
  ·have e161 := (an (Zj (Zm h158)) (dt h160))
   rcases ifs h with ⟨h162, h⟩ | ⟨h162, h⟩
   ·have e163 := (ti (an (Qbv k a0 _ h157) (ti (ti (an (an (Zj (Zm h158)) tt) (an (an (Zj (Zm h158)) tt) (an (an (Zj (Zm h158)) tt) (an (an (dt h160) tt) (an (an (dt h160) tt) (an e161 (an (an (Zj (Zm h158)) tt) (an (Zj (Zm h158)) (ti (an (Qs (dt h162)) (an (Qs (dt h162)) (an (Qs (dt h162)) (ti tt)))))))))))))))))
    injection h with h; subst h
    exact Qq pm pn Try.func89 (r0 := vb false) (ans := [.reg (.n :: []), .reg (Q1y r156)]) (fr := true) (by kernel_rfl) (an (an (ti tt) (an e163 tt)) (ti tt)) (Wv.refl _)
   ·have e164 := (an (Zj (df h162)) tt)
    have e165 := (an (Zj (df h162)) tt)
    have e166 := (ti (an (Qbv k a0 _ h157) (ti (ti (an (an (Zj (Zm h158)) tt) (an (an (Zj (Zm h158)) tt) (an (an (Zj (Zm h158)) tt) (an (an (dt h160) tt) (an (an (dt h160) tt) (an e161 (an (an (Zj (Zm h158)) tt) (an (Zj (Zm h158)) (ti (an e164 (an e165 (an (Zj (df h162)) (ti tt)))))))))))))))))
    injection h with h; subst h
    exact Qq pm pn Try.func89 (r0 := vb (!(decide (a0 = 45)))) (ans := [.reg (.n :: []), .reg (.n :: .call (vb r156) :: nN 7 (.b true :: .n :: .b true :: nN 3 (.b true :: .n :: [])))]) (fr := true) (by kernel_rfl) (an (an (ti tt) (an e166 tt)) (ti tt)) (Wv.refl _)
  ·have e167 := (an (Zj (Zm h158)) (df h160))
   have e168 := (an (show (!false) = true from (Zj rfl)) tt)
   have e169 := (an (show (!false) = true from (Zj rfl)) tt)
   have e170 := (ti (an (Qbv k a0 _ h157) (ti (ti (an (an (Zj (Zm h158)) tt) (an (an (Zj (Zm h158)) tt) (an (an (Zj (Zm h158)) tt) (an (df h160) (an (df h160) (an e167 (an (an (Zj (Zm h158)) tt) (an (Zj (Zm h158)) (ti (an e168 (an e169 (an (show (!false) = true from (Zj rfl)) (ti tt)))))))))))))))))
   injection h with h; subst h
   exact Qq pm pn Try.func89 (r0 := vb (!(decide (a0 = 45)))) (ans := [.reg (.n :: []), .reg (Q1z r156)]) (fr := true) (by kernel_rfl) (an (an (ti tt) (an e170 tt)) (ti tt)) (Wv.refl _)
def Xl (a0 : ByteArray) (a2 : Bool) (b0_1 : Int) : VS := ⟨mkA [(1, VV.fn 89 []), (2, vb a2), (10, VV.it 0)], [some ⟨true, bigX, [vs a0, vi b0_1]⟩], .nil⟩
def Jg (a0 : ByteArray) (a2 : Bool) (r : Int) : VS := ⟨mkA [(6, vi r)], [], .nil⟩
def Jh (a0 : ByteArray) (a2 : Bool) (r : Unit) : VS := ⟨mkA [], [], .nil⟩
def Q5 (k : Nat) (a0 : ByteArray) (a2 : Bool) : Nat -> Int -> Option (Sum Int Unit)
 | 0, _ => none
 | fuel + 1, b0_1 => if b0_1 < (a0.size : Int) then (if 0 <= b0_1 then ((Qcl k (((Go.Utf8.decode a0 (b0_1).toNat).1 : Nat) : Int)).bind fun r217 => (if (r217 == a2) = true then (some (.inl b0_1)) else (Q5 k a0 a2 fuel (b0_1 + (((Go.Utf8.decode a0 (b0_1).toNat).2 : Nat) : Int))))) else none) else (some (.inr ()))
theorem Qb7 (k : Nat) (a0 : ByteArray) (a2 : Bool) : ∀ (fuel : Nat) (b0_1 : Int) (r : Sum Int Unit), Q5 k a0 a2 fuel b0_1 = some r -> (match r with | .inl r => Y0 none Try.prog (szF Try.f95) (J5 Try.f95 0) (Xl a0 a2 b0_1) .ret (Jg a0 a2 r) | .inr r => Y0 none Try.prog (szF Try.f95) (J5 Try.f95 0) (Xl a0 a2 b0_1) (.exit 0) (Jh a0 a2 r)) := by
 intro fuel
 induction fuel with
 | zero => intro b0_1 r h; rw [Q5.eq_1] at h; cases h
 | succ fuel ih =>
  intro b0_1 r h
  rw [Q5.eq_2] at h
  rcases ifs h with ⟨h214, h⟩ | ⟨h214, h⟩
  ·obtain ⟨h215, h⟩ := ifn h
   have e216 := (show 0 <= b0_1 /\ b0_1 < (a0.size : Int) from ⟨h215, of_decide_eq_true (dt h214)⟩)
   obtain ⟨r217, h218, h⟩ := bs h
   have e219 := (Qh9 k (((Go.Utf8.decode a0 (b0_1).toNat).1 : Nat) : Int) _ h218)
   rcases ifs h with ⟨h220, h⟩ | ⟨h220, h⟩
   ·injection h with h; subst h
    exact Qv (c := ⟨[(6, none)], [], []⟩) (s1 := (Jg a0 a2 b0_1)) pm pn (ans := [.reg (.b true :: .n :: []), .br true, .reg (nN 4 []), .reg (.n :: .n :: .call (vb r217) :: .n :: .n :: []), .br true, .reg (.n :: .n :: [])]) (by kernel_rfl) (by intro e; cases e) (an (an (an e216 (ti tt)) (an (an rt tt) (an (ti (ti (ti (ti tt)))) (an (ti (ti (an e219 (ti (ti tt))))) (an h220 (an (ti (ti tt)) tt)))))) (ti tt))
   ·have h2 := ih _ _ h
    obtain ⟨q, hv, hq⟩ := pkR (rd := none) (P := Try.prog) (fn := Try.f95) (k := 0) (s := (Xl a0 a2 b0_1)) (ans := [.reg (.b true :: .n :: []), .br true, .reg (nN 4 []), .reg (.n :: .n :: .call (vb r217) :: .n :: .n :: []), .br false]) (c := ⟨[(1, none), (2, none), (10, none)], [none], []⟩) (e := .normal) (s1 := (Xl a0 a2 (b0_1 + (((Go.Utf8.decode a0 (b0_1).toNat).2 : Nat) : Int)))) (an (an (an e216 (ti tt)) (an (an rt tt) (an (ti (ti (ti (ti tt)))) (an (ti (ti (an e219 (ti (ti tt))))) (an (Zm h220) tt))))) (ti tt)) (by kernel_rfl)
    cases r with
    | inl r => exact Qw pm pn hv hq h2
    | inr r =>
     exact Qw pm pn hv hq h2
  ·have e221 := (show (a0.size : Int) <= b0_1 from (by have := of_decide_eq_false (df h214); omega))
   injection h with h; subst h
   exact Qv (c := ⟨[], [], []⟩) (s1 := (Jh a0 a2 ())) pm pn (ans := [.reg (.b false :: .n :: []), .br false]) (by kernel_rfl) (by intro e; cases e) (an (an (an e221 (ti tt)) (an rf tt)) (ti tt))
def Ja (k : Nat) (a0 : ByteArray) (a1 : Unit) (a2 : Bool) : Option Int :=
 (Q5 k a0 a2 k 0).bind fun r223 => (match r223 with | .inl r224 => (some r224) | .inr r225 => (some (-1)))
theorem Qcr (k : Nat) (a0 : ByteArray) (a1 : Unit) (a2 : Bool) (r : Int) (h : Ja k a0 a1 a2 = some r) : VC Try.prog 95 [vs a0, VV.fn 89 [], vb a2] (vi r) := by
 unfold Ja at h
 obtain ⟨r223, h222, h⟩ := bs h
 have hph222 := Qb7 k a0 a2 _ _ _ h222
 cases r223 with
 | inl r224 =>
  dsimp only at h
  have e226 := (an (ti tt) (VRun.loop hph222))
  injection h with h; subst h
  exact Qq pm pn Try.func95 (r0 := vi r224) (ans := [.reg (.n :: []), .reg (.n :: .n :: []), .sub ⟨[(1, none), (2, none), (10, none)], [none], []⟩ .ret (Jg a0 a2 r224)]) (fr := true) (by kernel_rfl) (an (an (ti tt) (an (ti (ti tt)) e226)) (ti tt)) (Wv.refl _)
 | inr r225 =>
  dsimp only at h
  have e227 := (an (ti tt) (VRun.loop hph222))
  injection h with h; subst h
  exact Qq pm pn Try.func95 (r0 := vi (-1)) (ans := [.reg (.n :: []), .reg (.n :: .n :: []), .sub ⟨[(1, none), (2, none), (10, none)], [none], []⟩ (.exit 0) (Jh a0 a2 r225), .reg (.n :: [])]) (fr := true) (by kernel_rfl) (an (an (ti tt) (an (an (ti (ti tt)) e227) (an (ti tt) tt))) (ti tt)) (Wv.refl _)
def Jb (k : Nat) (a0 : ByteArray) (a1 : Unit) : Option Int :=
 (Ja k a0 a1 true).bind fun r231 => (some r231)
theorem Qcs (k : Nat) (a0 : ByteArray) (a1 : Unit) (r : Int) (h : Jb k a0 a1 = some r) : VC Try.prog 94 [vs a0, VV.fn 89 []] (vi r) := by
 unfold Jb at h
 obtain ⟨r231, h232, h⟩ := bs h
 have e233 := (Qcr k a0 a1 true _ h232)
 injection h with h; subst h
 exact Qq pm pn Try.func94 (r0 := vi r231) (ans := [.reg (.n :: []), .reg (.n :: .n :: .call (vi r231) :: .n :: [])]) (fr := true) (by kernel_rfl) (an (an (ti tt) (an (ti (ti (an e233 (ti tt)))) tt)) (ti tt)) (Wv.refl _)
def Xy (k : Nat) (a0 : ByteArray) (a1 : Unit) : Option Bool :=
 (Jb k a0 a1).bind fun r237 => (some (decide (0 <= r237)))
theorem Qce (k : Nat) (a0 : ByteArray) (a1 : Unit) (r : Bool) (h : Xy k a0 a1 = some r) : VC Try.prog 88 [vs a0, VV.fn 89 []] (vb r) := by
 unfold Xy at h
 obtain ⟨r237, h238, h⟩ := bs h
 have e239 := (Qcs k a0 a1 _ h238)
 injection h with h; subst h
 exact Qq pm pn Try.func88 (r0 := vb (decide (0 <= r237))) (ans := [.reg (.n :: []), .reg (.n :: .n :: .call (vi r237) :: .n :: .n :: [])]) (fr := true) (by kernel_rfl) (an (an (ti tt) (an (ti (ti (an e239 (ti (ti tt))))) tt)) (ti tt)) (Wv.refl _)
def Q10 (z0 : Bool) (z1 : Bool) (z2 : Bool) : List Ans := (.n :: .n :: .call (vb z0) :: nN 4 (.call (vb z1) :: .b true :: .n :: .n :: .call (vb z2) :: .n :: .b true :: .n :: []))
def Q11 (z0 : Bool) (z1 : Bool) : List Ans := (.n :: .n :: .call (vb z0) :: nN 4 (.call (vb z1) :: .b true :: .n :: nS 3 (.b false :: .n :: [])))
def Q12 (z0 : Bool) : List Ans := (.n :: .n :: .call (vb z0) :: .n :: nS 4 (.b false :: .n :: nS 3 (.b false :: .n :: [])))
def Qdr (k : Nat) (a0 : ByteArray) : Option Bool :=
 (Y3 k (a0.size : Int) 1 12).bind fun r246 => (if r246 = true then (if (0 : Int) <= 0 /\ 0 < (a0.size : Int) then ((Qb6 k (IntKind.i32.wrap (bat a0 0))).bind fun r251 => (if r251 = true then ((Xy k a0 ()).bind fun r255 => (some (!r255))) else (some false))) else none) else (some false))
theorem Qkb (k : Nat) (a0 : ByteArray) (r : Bool) (h : Qdr k a0 = some r) : VC Try.prog 75 [vs a0] (vb r) := by
 unfold Qdr at h
 obtain ⟨r246, h247, h⟩ := bs h
 have e248 := (Qcp k (a0.size : Int) 1 12 _ h247)
 rcases ifs h with ⟨h249, h⟩ | ⟨h249, h⟩
 ·obtain ⟨h250, h⟩ := ifn h
  obtain ⟨r251, h252, h⟩ := bs h
  have e253 := (an h249 (Qbv k (IntKind.i32.wrap (bat a0 0)) _ h252))
  rcases ifs h with ⟨h254, h⟩ | ⟨h254, h⟩
  ·obtain ⟨r255, h256, h⟩ := bs h
   have e257 := (an h254 (Qce k a0 () _ h256))
   have e258 := (ti (ti (an e248 (ti (an (an h249 tt) (an (an h249 h250) (an (an h249 tt) (an e253 (an h249 (ti (an (an h254 tt) (an e257 (an (an h254 tt) (an h254 (ti tt)))))))))))))))
   injection h with h; subst h
   exact Qq pm pn Try.func75 (r0 := vb (!r255)) (ans := [.reg (.n :: []), .reg (Q10 r246 r251 r255)]) (fr := true) (by kernel_rfl) (an (an (ti tt) (an e258 tt)) (ti tt)) (Wv.refl _)
  ·have e259 := (ti (ti (an e248 (ti (an (an h249 tt) (an (an h249 h250) (an (an h249 tt) (an e253 (an h249 (ti (an (Zm h254) (an (Zm h254) (an (Zm h254) (an (Zm h254) (ti tt)))))))))))))))
   injection h with h; subst h
   exact Qq pm pn Try.func75 (r0 := vb false) (ans := [.reg (.n :: []), .reg (Q11 r246 r251)]) (fr := true) (by kernel_rfl) (an (an (ti tt) (an e259 tt)) (ti tt)) (Wv.refl _)
 ·have e260 := (ti (ti (an e248 (ti (an (Zm h249) (an (Zm h249) (an (Zm h249) (an (Zm h249) (an (Zm h249) (ti (an rf (an rf (an rf (an rf (ti tt)))))))))))))))
  injection h with h; subst h
  exact Qq pm pn Try.func75 (r0 := vb false) (ans := [.reg (.n :: []), .reg (Q12 r246)]) (fr := true) (by kernel_rfl) (an (an (ti tt) (an e260 tt)) (ti tt)) (Wv.refl _)
def Yn (k : Nat) (a0 : Int) : Option Bool :=
 if 97 <= a0 then (if a0 <= 122 then (some true) else (if 65 <= a0 then (some (decide (a0 <= 90))) else (some false))) else (if 65 <= a0 then (some (decide (a0 <= 90))) else (some false))
theorem Qda (k : Nat) (a0 : Int) (r : Bool) (h : Yn k a0 = some r) : VC Try.prog 57 [VV.c (.int .u8 a0)] (vb r) := by
 unfold Yn at h
 rcases ifs h with ⟨h277, h⟩ | ⟨h277, h⟩
 ·rcases ifs h with ⟨h278, h⟩ | ⟨h278, h⟩
  ·have e279 := (ti (ti (ti (an (an (dt h277) tt) (an (an (dt h277) tt) (an (dt h277) (ti (an (dt h278) (an (dt h278) (an (dt h278) (ti (ti (an (dt h278) (an (dt h278) (ti tt)))))))))))))))
   injection h with h; subst h
   exact Qq pm pn Try.func57 (r0 := vb true) (ans := [.reg (.n :: []), .reg (nN 5 (.b true :: .n :: nS 6 (.b true :: .n :: [])))]) (fr := true) (by kernel_rfl) (an (an (ti tt) (an e279 tt)) (ti tt)) (Wv.refl _)
  ·rcases ifs h with ⟨h280, h⟩ | ⟨h280, h⟩
   ·have e281 := (an (df h278) (dt h280))
    have e282 := (ti (ti (ti (an (an (dt h277) tt) (an (an (dt h277) tt) (an (dt h277) (ti (an (an (df h278) tt) (an (an (df h278) tt) (an (an (df h278) tt) (an (an (dt h280) tt) (an (an (dt h280) tt) (an e281 (an (df h278) (ti tt)))))))))))))))
    injection h with h; subst h
    exact Qq pm pn Try.func57 (r0 := vb (decide (a0 <= 90))) (ans := [.reg (.n :: []), .reg (nN 5 (.b true :: nN 6 (.b true :: .b false :: .n :: [])))]) (fr := true) (by kernel_rfl) (an (an (ti tt) (an e282 tt)) (ti tt)) (Wv.refl _)
   ·have e283 := (an (df h278) (df h280))
    have e284 := (ti (ti (ti (an (an (dt h277) tt) (an (an (dt h277) tt) (an (dt h277) (ti (an (an (df h278) tt) (an (an (df h278) tt) (an (an (df h278) tt) (an (df h280) (an (df h280) (an e283 (an (df h278) (ti tt)))))))))))))))
    injection h with h; subst h
    exact Qq pm pn Try.func57 (r0 := vb false) (ans := [.reg (.n :: []), .reg (nN 5 (.b true :: nN 4 (.skip :: .skip :: .b false :: .b false :: .n :: [])))]) (fr := true) (by kernel_rfl) (an (an (ti tt) (an e284 tt)) (ti tt)) (Wv.refl _)
 ·rcases ifs h with ⟨h285, h⟩ | ⟨h285, h⟩
  ·have e286 := (ti (ti (ti (an (df h277) (an (df h277) (an (df h277) (ti (an (an rf tt) (an (an rf tt) (an (an rf tt) (an (an (dt h285) tt) (an (an (dt h285) tt) (an (an rf (dt h285)) (an rf (ti tt)))))))))))))))
   injection h with h; subst h
   exact Qq pm pn Try.func57 (r0 := vb (decide (a0 <= 90))) (ans := [.reg (.n :: []), .reg (nN 3 (.skip :: .skip :: .b false :: nN 6 (.b true :: .b false :: .n :: [])))]) (fr := true) (by kernel_rfl) (an (an (ti tt) (an e286 tt)) (ti tt)) (Wv.refl _)
  ·have e287 := (ti (ti (ti (an (df h277) (an (df h277) (an (df h277) (ti (an (an rf tt) (an (an rf tt) (an (an rf tt) (an (df h285) (an (df h285) (an (an rf (df h285)) (an rf (ti tt)))))))))))))))
   injection h with h; subst h
   exact Qq pm pn Try.func57 (r0 := vb false) (ans := [.reg (.n :: []), .reg Qyx]) (fr := true) (by kernel_rfl) (an (an (ti tt) (an e287 tt)) (ti tt)) (Wv.refl _)
def Qai (k : Nat) (a0 : Int) : Option Bool :=
 if 48 <= a0 then (some (decide (a0 <= 57))) else (some false)
theorem Qgg (k : Nat) (a0 : Int) (r : Bool) (h : Qai k a0 = some r) : VC Try.prog 58 [VV.c (.int .u8 a0)] (vb r) := by
 unfold Qai at h
 rcases ifs h with ⟨h303, h⟩ | ⟨h303, h⟩
 ·have e304 := (ti (ti (ti (an (an (dt h303) tt) (an (an (dt h303) tt) (an (dt h303) (ti tt)))))))
  injection h with h; subst h
  exact Qq pm pn Try.func58 (r0 := vb (decide (a0 <= 57))) (ans := [.reg (.n :: []), .reg (nN 5 (.b true :: .n :: []))]) (fr := true) (by kernel_rfl) (an (an (ti tt) (an e304 tt)) (ti tt)) (Wv.refl _)
 ·have e305 := (ti (ti (ti (an (df h303) (an (df h303) (an (df h303) (ti tt)))))))
  injection h with h; subst h
  exact Qq pm pn Try.func58 (r0 := vb false) (ans := [.reg (.n :: []), .reg (nN 3 (.skip :: .skip :: .b false :: .n :: []))]) (fr := true) (by kernel_rfl) (an (an (ti tt) (an e305 tt)) (ti tt)) (Wv.refl _)
def Q13 (z0 : Bool) (z1 : Bool) : List Ans := (nN 3 (.call (vb z0) :: nN 5 (.call (vb z1) :: .n :: .b true :: .n :: nS 4 (.b false :: []))))
def Qyy (z0 : Bool) (z1 : Bool) : List Ans := (nN 3 (.call (vb z0) :: nN 5 (.call (vb z1) :: .n :: .b true :: nN 5 (.b true :: []))))
def Xg (a0 : ByteArray) (x3 : Int) : VS := ⟨mkA [(0, vs a0), (3, vi x3)], [], .nil⟩
def Qa0 (a0 : ByteArray) (r : Unit) : VS := ⟨mkA [(2, vb false)], [], .nil⟩
def Qa1 (a0 : ByteArray) (r : Unit) : VS := ⟨mkA [], [], .nil⟩
def Zr (k : Nat) (a0 : ByteArray) : Nat -> Int -> Option (Sum Unit Unit)
 | 0, _ => none
 | fuel + 1, x3 => if x3 < (a0.size : Int) then (if 0 <= x3 /\ x3 < (a0.size : Int) then ((Yn k (bat a0 x3)).bind fun r387 => (if r387 = true then (Zr k a0 fuel (w64 (x3 + 1))) else ((Qai k (bat a0 x3)).bind fun r392 => (if r392 = true then (Zr k a0 fuel (w64 (x3 + 1))) else (if (bat a0 x3) = 45 then (Zr k a0 fuel (w64 (x3 + 1))) else (some (.inl ()))))))) else none) else (some (.inr ()))
theorem Qe4 (k : Nat) (a0 : ByteArray) : ∀ (fuel : Nat) (x3 : Int) (r : Sum Unit Unit), Zr k a0 fuel x3 = some r -> (match r with | .inl r => Y0 none Try.prog (szF Try.f25) (J5 Try.f25 0) (Xg a0 x3) .ret (Qa0 a0 r) | .inr r => Y0 none Try.prog (szF Try.f25) (J5 Try.f25 0) (Xg a0 x3) (.exit 0) (Qa1 a0 r)) := by
 intro fuel
 induction fuel with
 | zero => intro x3 r h; rw [Zr.eq_1] at h; cases h
 | succ fuel ih =>
  intro x3 r h
  rw [Zr.eq_2] at h
  rcases ifs h with ⟨h385, h⟩ | ⟨h385, h⟩
  ·obtain ⟨h386, h⟩ := ifn h
   obtain ⟨r387, h388, h⟩ := bs h
   have e389 := (Qda k (bat a0 x3) _ h388)
   rcases ifs h with ⟨h390, h⟩ | ⟨h390, h⟩
   ·have e391 := (ti (ti (an h386 (an e389 (ti (ti (an (Qs h390) (an (Qs h390) (an (Qs h390) (an (Qs h390) (an (Qs h390) (an (Qs h390) (ti (an rf (an rf (an rf (an rf (an rf tt))))))))))))))))))
    have h2 := ih _ _ h
    obtain ⟨q, hv, hq⟩ := pkR (rd := none) (P := Try.prog) (fn := Try.f25) (k := 0) (s := (Xg a0 x3)) (ans := [.reg (nN 4 []), .br true, .reg (nN 3 (.call (vb r387) :: .n :: .n :: nS 5 (.b false :: .n :: nS 4 (.b false :: [])))), .br false, .reg (nN 3 [])]) (c := ⟨[(0, none), (3, none)], [], []⟩) (e := .normal) (s1 := (Xg a0 (w64 (x3 + 1)))) (an (an (an (ti (ti (ti (ti tt)))) (an (dt h385) tt)) (an (an e391 (an rf tt)) (ti (ti (ti tt))))) (ti tt)) (by kernel_rfl)
    cases r with
    | inl r => exact Qw pm pn hv hq h2
    | inr r =>
     exact Qw pm pn hv hq h2
   ·obtain ⟨r392, h393, h⟩ := bs h
    have e394 := (an (Zj (Zm h390)) (Qgg k (bat a0 x3) _ h393))
    rcases ifs h with ⟨h395, h⟩ | ⟨h395, h⟩
    ·have e396 := (ti (ti (an h386 (an e389 (ti (ti (an (an (Zj (Zm h390)) tt) (an (an (Zj (Zm h390)) tt) (an (an (Zj (Zm h390)) h386) (an e394 (an (an (Zj (Zm h390)) tt) (an (Zj (Zm h390)) (ti (an (Qs h395) (an (Qs h395) (an (Qs h395) (an (Qs h395) (an (Qs h395) tt))))))))))))))))))
     have h2 := ih _ _ h
     obtain ⟨q, hv, hq⟩ := pkR (rd := none) (P := Try.prog) (fn := Try.f25) (k := 0) (s := (Xg a0 x3)) (ans := [.reg (nN 4 []), .br true, .reg (Q13 r387 r392), .br false, .reg (nN 3 [])]) (c := ⟨[(0, none), (3, none)], [], []⟩) (e := .normal) (s1 := (Xg a0 (w64 (x3 + 1)))) (an (an (an (ti (ti (ti (ti tt)))) (an (dt h385) tt)) (an (an e396 (an rf tt)) (ti (ti (ti tt))))) (ti tt)) (by kernel_rfl)
     cases r with
     | inl r => exact Qw pm pn hv hq h2
     | inr r =>
      exact Qw pm pn hv hq h2
    ·have e397 := (ti (ti (an h386 (an e389 (ti (ti (an (an (Zj (Zm h390)) tt) (an (an (Zj (Zm h390)) tt) (an (an (Zj (Zm h390)) h386) (an e394 (an (an (Zj (Zm h390)) tt) (an (Zj (Zm h390)) (ti (an (an (Zj (Zm h395)) tt) (an (an (Zj (Zm h395)) tt) (an (an (Zj (Zm h395)) h386) (an (an (Zj (Zm h395)) tt) (an (Zj (Zm h395)) tt))))))))))))))))))
     rcases ifs h with ⟨h398, h⟩ | ⟨h398, h⟩
     ·have h2 := ih _ _ h
      obtain ⟨q, hv, hq⟩ := pkR (rd := none) (P := Try.prog) (fn := Try.f25) (k := 0) (s := (Xg a0 x3)) (ans := [.reg (nN 4 []), .br true, .reg (Qyy r387 r392), .br false, .reg (nN 3 [])]) (c := ⟨[(0, none), (3, none)], [], []⟩) (e := .normal) (s1 := (Xg a0 (w64 (x3 + 1)))) (an (an (an (ti (ti (ti (ti tt)))) (an (dt h385) tt)) (an (an e397 (an (Qs (dt h398)) tt)) (ti (ti (ti tt))))) (ti tt)) (by kernel_rfl)
      cases r with
      | inl r => exact Qw pm pn hv hq h2
      | inr r =>
       exact Qw pm pn hv hq h2
     ·injection h with h; subst h
      exact Qv (c := ⟨[(2, none)], [], []⟩) (s1 := (Qa0 a0 ())) pm pn (ans := [.reg (nN 4 []), .br true, .reg (Qyy r387 r392), .br true, .reg (.n :: [])]) (by kernel_rfl) (by intro e; cases e) (an (an (an (ti (ti (ti (ti tt)))) (an (dt h385) tt)) (an e397 (an (Zj (df h398)) (an (ti tt) tt)))) (ti tt))
  ·injection h with h; subst h
   exact Qv (c := ⟨[], [], []⟩) (s1 := (Qa1 a0 ())) pm pn (ans := [.reg (nN 4 []), .br false]) (by kernel_rfl) (by intro e; cases e) (an (an (ti (ti (ti (ti tt)))) (an (df h385) tt)) (ti tt))
def Yh (k : Nat) (a0 : ByteArray) : Option Bool :=
 if (a0.size : Int) = 0 then (some false) else (if 12 < (a0.size : Int) then (some false) else (if (0 : Int) <= 0 /\ 0 < (a0.size : Int) then ((Yn k (bat a0 0)).bind fun r352 => (if r352 = true then ((Zr k a0 k 0).bind fun r400 => (match r400 with | .inl r401 => (some false) | .inr r402 => (some true))) else (some false))) else none))
theorem Qcb (k : Nat) (a0 : ByteArray) (r : Bool) (h : Yh k a0 = some r) : VC Try.prog 25 [vs a0] (vb r) := by
 unfold Yh at h
 rcases ifs h with ⟨h347, h⟩ | ⟨h347, h⟩
 ·have e348 := (ti (ti (ti (ti (an (dt h347) (an (dt h347) (an (dt h347) (an (dt h347) (ti (an rt (an rt (an rt (an rt (an rt tt))))))))))))))
  injection h with h; subst h
  exact Qq pm pn Try.func25 (r0 := vb false) (ans := [.reg (.n :: []), .reg (nN 4 (nS 3 (.b true :: .n :: nS 4 (.b true :: [])))), .br true, .reg (.n :: [])]) (fr := true) (by kernel_rfl) (an (an (ti tt) (an e348 (an rt (an (ti tt) tt)))) (ti tt)) (Wv.refl _)
 ·rcases ifs h with ⟨h349, h⟩ | ⟨h349, h⟩
  ·have e350 := (ti (ti (ti (ti (an (an (df h347) tt) (an (an (df h347) tt) (an (an (df h347) tt) (an (df h347) (ti (an (dt h349) (an (dt h349) (an (dt h349) (an (dt h349) (an (dt h349) tt))))))))))))))
   injection h with h; subst h
   exact Qq pm pn Try.func25 (r0 := vb false) (ans := [.reg (.n :: []), .reg (nN 7 (.b false :: .n :: nS 4 (.b true :: []))), .br true, .reg (.n :: [])]) (fr := true) (by kernel_rfl) (an (an (ti tt) (an e350 (an rt (an (ti tt) tt)))) (ti tt)) (Wv.refl _)
  ·obtain ⟨h351, h⟩ := ifn h
   obtain ⟨r352, h353, h⟩ := bs h
   have e354 := (an (df h349) (Qda k (bat a0 0) _ h353))
   have e355 := (ti (ti (ti (ti (an (an (df h347) tt) (an (an (df h347) tt) (an (an (df h347) tt) (an (df h347) (ti (an (an (df h349) tt) (an (an (df h349) h351) (an e354 (an (an (df h349) tt) (an (df h349) tt))))))))))))))
   rcases ifs h with ⟨h356, h⟩ | ⟨h356, h⟩
   ·obtain ⟨r400, h399, h⟩ := bs h
    have hph399 := Qe4 k a0 _ _ _ h399
    cases r400 with
    | inl r401 =>
     dsimp only at h
     have e403 := (an (ti tt) (VRun.loop hph399))
     injection h with h; subst h
     exact Qq pm pn Try.func25 (r0 := vb false) (ans := [.reg (.n :: []), .reg (nN 7 (.b false :: nN 3 (.call (vb r352) :: .n :: .b false :: []))), .br false, .reg (.n :: []), .sub ⟨[(0, none), (3, none)], [], []⟩ .ret (Qa0 a0 r401)]) (fr := true) (by kernel_rfl) (an (an (ti tt) (an (an e355 (an (Qs h356) tt)) (an (ti tt) e403))) (ti tt)) (Wv.refl _)
    | inr r402 =>
     dsimp only at h
     have e404 := (an (ti tt) (VRun.loop hph399))
     injection h with h; subst h
     exact Qq pm pn Try.func25 (r0 := vb true) (ans := [.reg (.n :: []), .reg (nN 7 (.b false :: nN 3 (.call (vb r352) :: .n :: .b false :: []))), .br false, .reg (.n :: []), .sub ⟨[(0, none), (3, none)], [], []⟩ (.exit 0) (Qa1 a0 r402), .reg (.n :: [])]) (fr := true) (by kernel_rfl) (an (an (ti tt) (an (an e355 (an (Qs h356) tt)) (an (an (ti tt) e404) (an (ti tt) tt)))) (ti tt)) (Wv.refl _)
   ·injection h with h; subst h
    exact Qq pm pn Try.func25 (r0 := vb false) (ans := [.reg (.n :: []), .reg (nN 7 (.b false :: nN 3 (.call (vb r352) :: .n :: .b false :: []))), .br true, .reg (.n :: [])]) (fr := true) (by kernel_rfl) (an (an (ti tt) (an e355 (an (Zj (Zm h356)) (an (ti tt) tt)))) (ti tt)) (Wv.refl _)
def Jc (k : Nat) (a0 : Int) (a1 : Int) (a2 : Int) : Option Bool :=
 if a1 <= a0 then (some (decide (a0 <= a2))) else (some false)
theorem Y4 (k : Nat) (a0 : Int) (a1 : Int) (a2 : Int) (r : Bool) (h : Jc k a0 a1 a2 = some r) : VC Try.prog 45 [vi a0, vi a1, vi a2] (vb r) := by
 unfold Jc at h
 rcases ifs h with ⟨h408, h⟩ | ⟨h408, h⟩
 ·have e409 := (ti (ti (ti (ti (an (an (dt h408) tt) (an (an (dt h408) tt) (an (an (dt h408) tt) (an (dt h408) (ti tt)))))))))
  injection h with h; subst h
  exact Qq pm pn Try.func45 (r0 := vb (decide (a0 <= a2))) (ans := [.reg (.n :: []), .reg (nN 7 (.b true :: .n :: []))]) (fr := true) (by kernel_rfl) (an (an (ti tt) (an e409 tt)) (ti tt)) (Wv.refl _)
 ·have e410 := (ti (ti (ti (ti (an (df h408) (an (df h408) (an (df h408) (an (df h408) (ti tt)))))))))
  injection h with h; subst h
  exact Qq pm pn Try.func45 (r0 := vb false) (ans := [.reg (.n :: []), .reg (nN 4 (nS 3 (.b false :: .n :: [])))]) (fr := true) (by kernel_rfl) (an (an (ti tt) (an e410 tt)) (ti tt)) (Wv.refl _)
end Go.Proofs.Ytiekbdbedonnoaa.Vg

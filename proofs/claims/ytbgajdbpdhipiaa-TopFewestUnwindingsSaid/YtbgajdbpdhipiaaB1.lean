import Derived.Test.YtbgajdbpdhipiaaWa
namespace Go.Proofs.Ytbgajdbpdhipiaa.Vg
set_option maxRecDepth 100000
set_option maxHeartbeats 4000000
set_option linter.unusedVariables false
set_option linter.unusedSimpArgs false
open Go Go.Proofs.Ytbgajdbpdhipiaa.Ev Go.Proofs.Ytbgajdbpdhipiaa.Vv
open List (flatMap length_cons length_nil length_map length_append map_cons map_nil length_replicate)
structure Q7 where
 At : Int
 Value : Int
 deriving Inhabited
def Qv (x : Q7) : List VV := [vi x.At, vi x.Value]
theorem Qat (x : Q7) : (Qv x).length = 2 := rfl
theorem Qct (xs : List Q7) : (xs.flatMap Qv).map unfr = xs.flatMap Qv := Qk9 (fun _ => rfl) xs
theorem ag3 : Qce Try.prog 3 = some false := by kernel_rfl
theorem ag96 : Qce Try.prog 96 = some true := by kernel_rfl
theorem sz96 : szOf Try.prog 96 = some 2 := by kernel_rfl
def Yn (a0 : Int) (a1 : Int) (a2 : (List Int)) (x11 : Int) : VS := ⟨mkA [(0, vi a0), (1, vi a1), (9, VV.tr (List.map vi a2) a2.length), (10, vi (a2.length : Int)), (11, vi x11)], [], .nil⟩
def J9 (a0 : Int) (a1 : Int) (a2 : (List Int)) (r : Unit) : VS := ⟨mkA [(6, vb false)], [], .nil⟩
def Qaj (a0 : Int) (a1 : Int) (a2 : (List Int)) (r : Unit) : VS := ⟨mkA [], [], .nil⟩
def Z9 (k : Nat) (a0 : Int) (a1 : Int) (a2 : (List Int)) : Nat -> Int -> Option (Sum Unit Unit)
 | 0, _ => none
 | fuel + 1, x11 => if x11 < (a2.length : Int) then (if 0 <= x11 /\ x11 < (a2.length : Int) then (if (a2.getD x11.toNat 0) < a0 then (some (.inl ())) else (if a1 < (a2.getD x11.toNat 0) then (some (.inl ())) else (Z9 k a0 a1 a2 fuel (w64 (x11 + 1))))) else none) else (some (.inr ()))
theorem Qfg (k : Nat) (a0 : Int) (a1 : Int) (a2 : (List Int)) : ∀ (fuel : Nat) (x11 : Int) (r : Sum Unit Unit), Z9 k a0 a1 a2 fuel x11 = some r -> (match r with | .inl r => J6 none Try.prog (szF Try.f30) (X5 Try.f30 0) (Yn a0 a1 a2 x11) .ret (J9 a0 a1 a2 r) | .inr r => J6 none Try.prog (szF Try.f30) (X5 Try.f30 0) (Yn a0 a1 a2 x11) (.exit 0) (Qaj a0 a1 a2 r)) := by
 intro fuel
 induction fuel with
 | zero => intro x11 r h; rw [Z9.eq_1] at h; cases h
 | succ fuel ih =>
  intro x11 r h
  rw [Z9.eq_2] at h
  rcases ifs h with ⟨h142, h⟩ | ⟨h142, h⟩
  ·obtain ⟨h143, h⟩ := ifn h
   have e144 := (show Zv Try.prog 3 (x11.toNat * 1) (List.map vi a2) = some (vi (a2.getD x11.toNat 0)) from Jk ag3 vi a2 0 h143 (by omega))
   rcases ifs h with ⟨h145, h⟩ | ⟨h145, h⟩
   ·have e146 := (ti (ti (ti (ti (an (dt h145) (an (dt h145) (an (dt h145) (an (dt h145) tt))))))))
    injection h with h; subst h
    exact Qz (c := ⟨[(6, none)], [], []⟩) (s1 := (J9 a0 a1 a2 ())) pm pn (ans := [.reg (.n :: []), .br true, .reg (.n :: .v (vi (a2.getD x11.toNat 0)) :: .n :: []), .reg (nN 4 (nS 3 (.b true :: []))), .br true, .reg (.n :: [])]) (by kernel_rfl) (by intro e; cases e) (an (an (ti tt) (an (an (dt h142) tt) (an (an h143 (an e144 (ti tt))) (an e146 (an rt (an (ti tt) tt)))))) (ti tt))
   ·have e147 := (ti (ti (ti (ti (an (an (df h145) tt) (an (an (df h145) tt) (an (an (df h145) tt) (an (df h145) tt))))))))
    rcases ifs h with ⟨h148, h⟩ | ⟨h148, h⟩
    ·injection h with h; subst h
     exact Qz (c := ⟨[(6, none)], [], []⟩) (s1 := (J9 a0 a1 a2 ())) pm pn (ans := [.reg (.n :: []), .br true, .reg (.n :: .v (vi (a2.getD x11.toNat 0)) :: .n :: []), .reg (nN 7 (.b false :: [])), .br true, .reg (.n :: [])]) (by kernel_rfl) (by intro e; cases e) (an (an (ti tt) (an (an (dt h142) tt) (an (an h143 (an e144 (ti tt))) (an e147 (an (dt h148) (an (ti tt) tt)))))) (ti tt))
    ·have h2 := ih _ _ h
     obtain ⟨q, hv, hq⟩ := pkR (rd := none) (P := Try.prog) (fn := Try.f30) (k := 0) (s := (Yn a0 a1 a2 x11)) (ans := [.reg (.n :: []), .br true, .reg (.n :: .v (vi (a2.getD x11.toNat 0)) :: .n :: []), .reg (nN 7 (.b false :: [])), .br false, .reg (.n :: .n :: [])]) (c := ⟨[(0, none), (1, none), (9, none), (10, none), (11, none)], [], []⟩) (e := .normal) (s1 := (Yn a0 a1 a2 (w64 (x11 + 1)))) (an (an (ti tt) (an (an (dt h142) tt) (an (an (an h143 (an e144 (ti tt))) (an e147 (an (df h148) tt))) (ti (ti tt))))) (ti tt)) (by kernel_rfl)
     cases r with
     | inl r => exact Qy pm pn hv hq h2
     | inr r =>
      exact Qy pm pn hv hq h2
  ·injection h with h; subst h
   exact Qz (c := ⟨[], [], []⟩) (s1 := (Qaj a0 a1 a2 ())) pm pn (ans := [.reg (.n :: []), .br false]) (by kernel_rfl) (by intro e; cases e) (an (an (ti tt) (an (df h142) tt)) (ti tt))
def Zc (k : Nat) (a0 : Int) (a1 : Int) (a2 : (List Int)) : Option Bool :=
 (Z9 k a0 a1 a2 k 0).bind fun r150 => (match r150 with | .inl r151 => (some false) | .inr r152 => (some true))
theorem Zo (k : Nat) (a0 : Int) (a1 : Int) (a2 : (List Int)) (r : Bool) (h : Zc k a0 a1 a2 = some r) : VC Try.prog 30 [vi a0, vi a1, VV.tr (List.map vi a2) a2.length] (vb r) := by
 unfold Zc at h
 obtain ⟨r150, h149, h⟩ := bs h
 have hph149 := Qfg k a0 a1 a2 _ _ _ h149
 cases r150 with
 | inl r151 =>
  dsimp only at h
  have e153 := (an (ti tt) (VRun.loop hph149))
  injection h with h; subst h
  exact Qk pm pn Try.func30 (r0 := vb false) (ans := [.reg (.n :: []), .reg (nN 3 []), .sub ⟨[(0, none), (1, none), (9, none), (10, none), (11, none)], [], []⟩ .ret (J9 a0 a1 a2 r151)]) (fr := true) (by kernel_rfl) (an (an (ti tt) (an (ti (ti (ti tt))) e153)) (ti tt)) (Wv.refl _)
 | inr r152 =>
  dsimp only at h
  have e154 := (an (ti tt) (VRun.loop hph149))
  injection h with h; subst h
  exact Qk pm pn Try.func30 (r0 := vb true) (ans := [.reg (.n :: []), .reg (nN 3 []), .sub ⟨[(0, none), (1, none), (9, none), (10, none), (11, none)], [], []⟩ (.exit 0) (Qaj a0 a1 a2 r152), .reg (.n :: [])]) (fr := true) (by kernel_rfl) (an (an (ti tt) (an (an (ti (ti (ti tt))) e154) (an (ti tt) tt))) (ti tt)) (Wv.refl _)
theorem Q3d (z0 : (List Q7)) : [vi 1, vi 40, VV.tr (List.map vi ([(z0.length : Int)] : List Int)) (([(z0.length : Int)] : List Int).length)] = [vi 1, vi 40, VV.tr [vi (z0.length : Int)] 1] := by first | rfl | (simp only [Qm, map_cons, map_nil, un_i, Yj, length_map, length_cons, length_nil]; done) | (simp only [Qm, map_cons, map_nil, un_i, Yj, length_map, length_cons, length_nil]; rfl) | (simp only [Qm, map_cons, map_nil, un_i, Yj, length_map, length_cons, length_nil, length_cons, length_nil, length_append]; done)
def Jv (k : Nat) (a0 : Int) (a1 : (List Int)) : Option Bool :=
 (Zc k (w64 (0 - a0)) a0 a1).bind fun r165 => (some r165)
theorem Qb2 (k : Nat) (a0 : Int) (a1 : (List Int)) (r : Bool) (h : Jv k a0 a1 = some r) : VC Try.prog 36 [vi a0, VV.tr (List.map vi a1) a1.length] (vb r) := by
 unfold Jv at h
 obtain ⟨r165, h166, h⟩ := bs h
 have e167 := (Zo k (w64 (0 - a0)) a0 a1 _ h166)
 injection h with h; subst h
 exact Qk pm pn Try.func36 (r0 := vb r165) (ans := [.reg (.n :: []), .reg (nN 4 (.call (vb r165) :: .n :: []))]) (fr := true) (by kernel_rfl) (an (an (ti tt) (an (ti (ti (ti (ti (an e167 (ti tt)))))) tt)) (ti tt)) (Wv.refl _)
theorem Q3e (z0 : (List Q7)) (z1 : Int) : [vi 1000000, VV.tr (List.map vi ([(z0.getD z1.toNat default).At, (z0.getD z1.toNat default).Value] : List Int)) (([(z0.getD z1.toNat default).At, (z0.getD z1.toNat default).Value] : List Int).length)] = [vi 1000000, VV.tr [vi ((z0.getD z1.toNat default).At), vi ((z0.getD z1.toNat default).Value)] 2] := by first | rfl | (simp only [Qm, map_cons, map_nil, un_i, Yj, length_map, length_cons, length_nil]; done) | (simp only [Qm, map_cons, map_nil, un_i, Yj, length_map, length_cons, length_nil]; rfl) | (simp only [Qm, map_cons, map_nil, un_i, Yj, length_map, length_cons, length_nil, length_cons, length_nil, length_append]; done)
def Qzs (z0 : (List Q7)) (z1 : Int) : List Ans := (nN 10 (.v (vi ((z0.getD (w64 (z1 - 1)).toNat default).At)) :: .n :: .b true :: .n :: []))
def Xr (a0 : (List Q7)) (x12 : Int) : VS := ⟨mkA [(0, VV.tr (flatMap Qv a0) a0.length), (10, VV.tr (flatMap Qv a0) a0.length), (11, vi (a0.length : Int)), (12, vi x12)], [], .nil⟩
def Ju (a0 : (List Q7)) (r : Int) : VS := ⟨mkA [(2, vi r)], [], .nil⟩
def Wx (a0 : (List Q7)) (r : Unit) : VS := ⟨mkA [], [], .nil⟩
def Zm (k : Nat) (a0 : (List Q7)) : Nat -> Int -> Option (Sum Int Unit)
 | 0, _ => none
 | fuel + 1, x12 => if x12 < (a0.length : Int) then (if 0 <= x12 /\ x12 < (a0.length : Int) then ((Jv k 1000000 ([(a0.getD x12.toNat default).At, (a0.getD x12.toNat default).Value] : List Int)).bind fun r240 => (if r240 = true then (if 0 < x12 then (if 0 <= w64 (x12 - 1) /\ w64 (x12 - 1) < (a0.length : Int) then (if ((a0.getD x12.toNat default).At) <= ((a0.getD (w64 (x12 - 1)).toNat default).At) then (some (.inl 9)) else (Zm k a0 fuel (w64 (x12 + 1)))) else none) else (Zm k a0 fuel (w64 (x12 + 1)))) else (some (.inl 2)))) else none) else (some (.inr ()))
theorem Qew (k : Nat) (a0 : (List Q7)) : ∀ (fuel : Nat) (x12 : Int) (r : Sum Int Unit), Zm k a0 fuel x12 = some r -> (match r with | .inl r => J6 none Try.prog (szF Try.f50) (X5 Try.f50 0) (Xr a0 x12) .ret (Ju a0 r) | .inr r => J6 none Try.prog (szF Try.f50) (X5 Try.f50 0) (Xr a0 x12) (.exit 0) (Wx a0 r)) := by
 intro fuel
 induction fuel with
 | zero => intro x12 r h; rw [Zm.eq_1] at h; cases h
 | succ fuel ih =>
  intro x12 r h
  rw [Zm.eq_2] at h
  rcases ifs h with ⟨h237, h⟩ | ⟨h237, h⟩
  ·obtain ⟨h238, h⟩ := ifn h
   have e239 := (show Zv Try.prog 96 (x12.toNat * 2) (flatMap Qv a0) = some (VV.ag (Qv (a0.getD x12.toNat default))) from Qed ag96 Qv 2 sz96 Qat a0 default h238 (by omega))
   obtain ⟨r240, h241, h⟩ := bs h
   have e242 := (VC.args (Qb2 k 1000000 ([(a0.getD x12.toNat default).At, (a0.getD x12.toNat default).Value] : List Int) _ h241) (Q3e a0 x12))
   have e243 := (ti (ti (ti (ti (ti (an e242 (ti (ti tt))))))))
   rcases ifs h with ⟨h244, h⟩ | ⟨h244, h⟩
   ·rcases ifs h with ⟨h245, h⟩ | ⟨h245, h⟩
    ·obtain ⟨h246, h⟩ := ifn h
     have e247 := (an (dt h245) (show Zv Try.prog 3 ((w64 (x12 - 1)).toNat * 2 + 0) (flatMap Qv a0) = some (vi ((a0.getD (w64 (x12 - 1)).toNat default).At)) from (Qdx ag3 Qv 2 0 Qat (by omega) a0 default h246 (by omega)).trans rfl))
     have e248 := (ti (ti (ti (an (an (dt h245) tt) (an (an (dt h245) tt) (an (an (dt h245) tt) (an (an (dt h245) tt) (an (an (dt h245) tt) (an (an (dt h245) h246) (an (an (dt h245) tt) (an e247 (an (an (dt h245) tt) (an (dt h245) (ti tt))))))))))))))
     rcases ifs h with ⟨h249, h⟩ | ⟨h249, h⟩
     ·injection h with h; subst h
      exact Qz (c := ⟨[(2, none)], [], []⟩) (s1 := (Ju a0 9)) pm pn (ans := [.reg (.n :: []), .br true, .reg (.n :: .n :: .v (VV.ag (Qv (a0.getD x12.toNat default))) :: nN 3 []), .reg (nN 4 (.v VV.any :: .call (vb r240) :: .n :: .n :: [])), .br false, .reg (Qzs a0 x12), .br true, .reg (.n :: [])]) (by kernel_rfl) (by intro e; cases e) (an (an (ti tt) (an (an (dt h237) tt) (an (ti (an h238 (an e239 (ti (ti (ti tt)))))) (an e243 (an (Q5 h244) (an e248 (an (dt h249) (an (ti tt) tt)))))))) (ti tt))
     ·have h2 := ih _ _ h
      obtain ⟨q, hv, hq⟩ := pkR (rd := none) (P := Try.prog) (fn := Try.f50) (k := 0) (s := (Xr a0 x12)) (ans := [.reg (.n :: []), .br true, .reg (.n :: .n :: .v (VV.ag (Qv (a0.getD x12.toNat default))) :: nN 3 []), .reg (nN 4 (.v VV.any :: .call (vb r240) :: .n :: .n :: [])), .br false, .reg (Qzs a0 x12), .br false, .reg (.n :: .n :: [])]) (c := ⟨[(0, none), (10, none), (11, none), (12, none)], [], []⟩) (e := .normal) (s1 := (Xr a0 (w64 (x12 + 1)))) (an (an (ti tt) (an (an (dt h237) tt) (an (an (ti (an h238 (an e239 (ti (ti (ti tt)))))) (an e243 (an (Q5 h244) (an e248 (an (df h249) tt))))) (ti (ti tt))))) (ti tt)) (by kernel_rfl)
      cases r with
      | inl r => exact Qy pm pn hv hq h2
      | inr r =>
       exact Qy pm pn hv hq h2
    ·have e250 := (ti (ti (ti (an (df h245) (an (df h245) (an (df h245) (an (df h245) (an (df h245) (an (df h245) (an (df h245) (an (df h245) (an (df h245) (an (df h245) (ti tt))))))))))))))
     have h2 := ih _ _ h
     obtain ⟨q, hv, hq⟩ := pkR (rd := none) (P := Try.prog) (fn := Try.f50) (k := 0) (s := (Xr a0 x12)) (ans := [.reg (.n :: []), .br true, .reg (.n :: .n :: .v (VV.ag (Qv (a0.getD x12.toNat default))) :: nN 3 []), .reg (nN 4 (.v VV.any :: .call (vb r240) :: .n :: .n :: [])), .br false, .reg (nN 3 (nS 9 (.b false :: .n :: []))), .br false, .reg (.n :: .n :: [])]) (c := ⟨[(0, none), (10, none), (11, none), (12, none)], [], []⟩) (e := .normal) (s1 := (Xr a0 (w64 (x12 + 1)))) (an (an (ti tt) (an (an (dt h237) tt) (an (an (ti (an h238 (an e239 (ti (ti (ti tt)))))) (an e243 (an (Q5 h244) (an e250 (an rf tt))))) (ti (ti tt))))) (ti tt)) (by kernel_rfl)
     cases r with
     | inl r => exact Qy pm pn hv hq h2
     | inr r =>
      exact Qy pm pn hv hq h2
   ·injection h with h; subst h
    exact Qz (c := ⟨[(2, none)], [], []⟩) (s1 := (Ju a0 2)) pm pn (ans := [.reg (.n :: []), .br true, .reg (.n :: .n :: .v (VV.ag (Qv (a0.getD x12.toNat default))) :: nN 3 []), .reg (nN 4 (.v VV.any :: .call (vb r240) :: .n :: .n :: [])), .br true, .reg (.n :: [])]) (by kernel_rfl) (by intro e; cases e) (an (an (ti tt) (an (an (dt h237) tt) (an (ti (an h238 (an e239 (ti (ti (ti tt)))))) (an e243 (an (Z5 (Zb h244)) (an (ti tt) tt)))))) (ti tt))
  ·injection h with h; subst h
   exact Qz (c := ⟨[], [], []⟩) (s1 := (Wx a0 ())) pm pn (ans := [.reg (.n :: []), .br false]) (by kernel_rfl) (by intro e; cases e) (an (an (ti tt) (an (df h237) tt)) (ti tt))
def Yr (k : Nat) (a0 : (List Q7)) : Option Int :=
 (Zc k 1 40 ([(a0.length : Int)] : List Int)).bind fun r209 => (if r209 = true then ((Zm k a0 k 0).bind fun r252 => (match r252 with | .inl r253 => (some r253) | .inr r254 => (some 0))) else (some 10))
theorem Qdh (k : Nat) (a0 : (List Q7)) (r : Int) (h : Yr k a0 = some r) : VC Try.prog 50 [VV.tr (flatMap Qv a0) a0.length] (vi r) := by
 unfold Yr at h
 obtain ⟨r209, h210, h⟩ := bs h
 have e211 := (VC.args (Zo k 1 40 ([(a0.length : Int)] : List Int) _ h210) (Q3d a0))
 rcases ifs h with ⟨h212, h⟩ | ⟨h212, h⟩
 ·obtain ⟨r252, h251, h⟩ := bs h
  have hph251 := Qew k a0 _ _ _ h251
  cases r252 with
  | inl r253 =>
   dsimp only at h
   have e255 := (an (ti tt) (VRun.loop hph251))
   injection h with h; subst h
   exact Qk pm pn Try.func50 (r0 := vi r253) (ans := [.reg (.n :: []), .reg (.n :: .n :: .v VV.any :: .call (vb r209) :: .n :: []), .br false, .reg (nN 3 []), .sub ⟨[(0, none), (10, none), (11, none), (12, none)], [], []⟩ .ret (Ju a0 r253)]) (fr := true) (by kernel_rfl) (an (an (ti tt) (an (an (ti (ti (ti (an e211 (ti tt))))) (an (Q5 h212) tt)) (an (ti (ti (ti tt))) e255))) (ti tt)) (Wv.refl _)
  | inr r254 =>
   dsimp only at h
   have e256 := (an (ti tt) (VRun.loop hph251))
   injection h with h; subst h
   exact Qk pm pn Try.func50 (r0 := vi 0) (ans := [.reg (.n :: []), .reg (.n :: .n :: .v VV.any :: .call (vb r209) :: .n :: []), .br false, .reg (nN 3 []), .sub ⟨[(0, none), (10, none), (11, none), (12, none)], [], []⟩ (.exit 0) (Wx a0 r254), .reg (.n :: [])]) (fr := true) (by kernel_rfl) (an (an (ti tt) (an (an (ti (ti (ti (an e211 (ti tt))))) (an (Q5 h212) tt)) (an (an (ti (ti (ti tt))) e256) (an (ti tt) tt)))) (ti tt)) (Wv.refl _)
 ·injection h with h; subst h
  exact Qk pm pn Try.func50 (r0 := vi 10) (ans := [.reg (.n :: []), .reg (.n :: .n :: .v VV.any :: .call (vb r209) :: .n :: []), .br true, .reg (.n :: [])]) (fr := true) (by kernel_rfl) (an (an (ti tt) (an (ti (ti (ti (an e211 (ti tt))))) (an (Z5 (Zb h212)) (an (ti tt) tt)))) (ti tt)) (Wv.refl _)
def Qdd (k : Nat) (a0 : Q7) (q0_0 : Int) : Option Bool :=
 some (decide (q0_0 < a0.At))
theorem Qhk (k : Nat) (a0 : Q7) (q0_0 : Int) (r : Bool) (h : Qdd k a0 q0_0 = some r) : VC Try.prog 56 [VV.ag (Qv a0), VV.tp [vi q0_0] 0] (vb r) := by
 unfold Qdd at h
 have e261 := (show Zv Try.prog 3 0 [vi q0_0] = some (vi q0_0) from (Qfb ag3 rfl))
 injection h with h; subst h
 exact Qk pm pn Try.func56 (r0 := vb (decide (q0_0 < a0.At))) (ans := [.reg (.n :: .n :: []), .reg (.n :: .n :: .v (vi q0_0) :: .n :: .n :: [])]) (fr := true) (by kernel_rfl) (an (an (ti (ti tt)) (an (ti (ti (an e261 (ti (ti tt))))) tt)) (ti tt)) (Wv.refl _)
def Qp (a0 : (List Q7)) (a1 : Int) (x8 : Int) : VS := ⟨mkA [(0, VV.tr (flatMap Qv a0) a0.length), (1, VV.fn 56 [VV.tp [vi a1] 0]), (7, vi (a0.length : Int)), (8, vi x8)], [], .nil⟩
def Q8 (a0 : (List Q7)) (a1 : Int) (r : Int) : VS := ⟨mkA [(4, vi r)], [], .nil⟩
def Q9 (a0 : (List Q7)) (a1 : Int) (r : Unit) : VS := ⟨mkA [], [], .nil⟩
def Qe (k : Nat) (a0 : (List Q7)) (a1 : Int) : Nat -> Int -> Option (Sum Int Unit)
 | 0, _ => none
 | fuel + 1, x8 => if x8 < (a0.length : Int) then (if 0 <= x8 /\ x8 < (a0.length : Int) then ((Qdd k (a0.getD x8.toNat default) a1).bind fun r308 => (if r308 = true then (some (.inl x8)) else (Qe k a0 a1 fuel (w64 (x8 + 1))))) else none) else (some (.inr ()))
theorem X9 (k : Nat) (a0 : (List Q7)) (a1 : Int) : ∀ (fuel : Nat) (x8 : Int) (r : Sum Int Unit), Qe k a0 a1 fuel x8 = some r -> (match r with | .inl r => J6 none Try.prog (szF Try.f55) (X5 Try.f55 0) (Qp a0 a1 x8) .ret (Q8 a0 a1 r) | .inr r => J6 none Try.prog (szF Try.f55) (X5 Try.f55 0) (Qp a0 a1 x8) (.exit 0) (Q9 a0 a1 r)) := by
 intro fuel
 induction fuel with
 | zero => intro x8 r h; rw [Qe.eq_1] at h; cases h
 | succ fuel ih =>
  intro x8 r h
  rw [Qe.eq_2] at h
  rcases ifs h with ⟨h305, h⟩ | ⟨h305, h⟩
  ·obtain ⟨h306, h⟩ := ifn h
   have e307 := (show Zv Try.prog 96 (x8.toNat * 2) (flatMap Qv a0) = some (VV.ag (Qv (a0.getD x8.toNat default))) from Qed ag96 Qv 2 sz96 Qat a0 default h306 (by omega))
   obtain ⟨r308, h309, h⟩ := bs h
   have e310 := (Qhk k (a0.getD x8.toNat default) a1 _ h309)
   have e311 := (ti (ti (ti (an h306 (an e307 (an e310 tt))))))
   rcases ifs h with ⟨h312, h⟩ | ⟨h312, h⟩
   ·injection h with h; subst h
    exact Qz (c := ⟨[(4, none)], [], []⟩) (s1 := (Q8 a0 a1 x8)) pm pn (ans := [.reg (.n :: []), .br true, .reg (.n :: .n :: []), .reg (nN 4 (.v (VV.ag (Qv (a0.getD x8.toNat default))) :: .call (vb r308) :: [])), .br true, .reg (.n :: .n :: [])]) (by kernel_rfl) (by intro e; cases e) (an (an (ti tt) (an (an (dt h305) tt) (an (ti (ti tt)) (an e311 (an h312 (an (ti (ti tt)) tt)))))) (ti tt))
   ·have h2 := ih _ _ h
    obtain ⟨q, hv, hq⟩ := pkR (rd := none) (P := Try.prog) (fn := Try.f55) (k := 0) (s := (Qp a0 a1 x8)) (ans := [.reg (.n :: []), .br true, .reg (.n :: .n :: []), .reg (nN 4 (.v (VV.ag (Qv (a0.getD x8.toNat default))) :: .call (vb r308) :: [])), .br false, .reg (.n :: .n :: [])]) (c := ⟨[(0, none), (1, none), (7, none), (8, none)], [], []⟩) (e := .normal) (s1 := (Qp a0 a1 (w64 (x8 + 1)))) (an (an (ti tt) (an (an (dt h305) tt) (an (an (ti (ti tt)) (an e311 (an (Zb h312) tt))) (ti (ti tt))))) (ti tt)) (by kernel_rfl)
    cases r with
    | inl r => exact Qy pm pn hv hq h2
    | inr r =>
     exact Qy pm pn hv hq h2
  ·injection h with h; subst h
   exact Qz (c := ⟨[], [], []⟩) (s1 := (Q9 a0 a1 ())) pm pn (ans := [.reg (.n :: []), .br false]) (by kernel_rfl) (by intro e; cases e) (an (an (ti tt) (an (df h305) tt)) (ti tt))
def Qn (k : Nat) (a0 : (List Q7)) (a1 : Int) : Option Int :=
 (Qe k a0 a1 k 0).bind fun r314 => (match r314 with | .inl r315 => (some r315) | .inr r316 => (some (-1)))
theorem Jh (k : Nat) (a0 : (List Q7)) (a1 : Int) (r : Int) (h : Qn k a0 a1 = some r) : VC Try.prog 55 [VV.tr (flatMap Qv a0) a0.length, VV.fn 56 [VV.tp [vi a1] 0]] (vi r) := by
 unfold Qn at h
 obtain ⟨r314, h313, h⟩ := bs h
 have hph313 := X9 k a0 a1 _ _ _ h313
 cases r314 with
 | inl r315 =>
  dsimp only at h
  have e317 := (an (ti tt) (VRun.loop hph313))
  injection h with h; subst h
  exact Qk pm pn Try.func55 (r0 := vi r315) (ans := [.reg (.n :: []), .reg (nN 3 []), .sub ⟨[(0, none), (1, none), (7, none), (8, none)], [], []⟩ .ret (Q8 a0 a1 r315)]) (fr := true) (by kernel_rfl) (an (an (ti tt) (an (ti (ti (ti tt))) e317)) (ti tt)) (Wv.refl _)
 | inr r316 =>
  dsimp only at h
  have e318 := (an (ti tt) (VRun.loop hph313))
  injection h with h; subst h
  exact Qk pm pn Try.func55 (r0 := vi (-1)) (ans := [.reg (.n :: []), .reg (nN 3 []), .sub ⟨[(0, none), (1, none), (7, none), (8, none)], [], []⟩ (.exit 0) (Q9 a0 a1 r316), .reg (.n :: [])]) (fr := true) (by kernel_rfl) (an (an (ti tt) (an (an (ti (ti (ti tt))) e318) (an (ti tt) tt))) (ti tt)) (Wv.refl _)
def Qa8 (k : Nat) (a0 : Int) (a1 : Int) : Option Int :=
 if a1 ≠ 0 then (if (a0.tmod a1) < 0 then (some (w64 ((w64 (a0.tdiv a1)) - 1))) else (some (w64 (a0.tdiv a1)))) else none
theorem Qeu (k : Nat) (a0 : Int) (a1 : Int) (r : Int) (h : Qa8 k a0 a1 = some r) : VC Try.prog 47 [vi a0, vi a1] (vi r) := by
 unfold Qa8 at h
 obtain ⟨h337, h⟩ := ifn h
 rcases ifs h with ⟨h338, h⟩ | ⟨h338, h⟩
 ·injection h with h; subst h
  exact Qk pm pn Try.func47 (r0 := vi (w64 ((w64 (a0.tdiv a1)) - 1))) (ans := [.reg (.n :: []), .reg (nN 4 []), .br true, .reg (nN 5 [])]) (fr := true) (by kernel_rfl) (an (an (ti tt) (an (ti (ti (an h337 (ti tt)))) (an (dt h338) (an (ti (ti (an h337 (ti (ti tt))))) tt)))) (ti tt)) (Wv.refl _)
 ·injection h with h; subst h
  exact Qk pm pn Try.func47 (r0 := vi (w64 (a0.tdiv a1))) (ans := [.reg (.n :: []), .reg (nN 4 []), .br false, .reg (nN 4 [])]) (fr := true) (by kernel_rfl) (an (an (ti tt) (an (an (ti (ti (an h337 (ti tt)))) (an (df h338) tt)) (an (ti (ti (an h337 (ti tt)))) tt))) (ti tt)) (Wv.refl _)
def Q3f (z0 : (List Q7)) : List Ans := (nN 6 (.v (vi ((z0.getD (w64 ((z0.length : Int) - 1)).toNat default).Value)) :: .n :: []))
def Q3g (z0 : (List Q7)) (z1 : Int) : List Ans := (nN 4 (.v (VV.ag (Qv (z0.getD (w64 (z1 - 1)).toNat default))) :: nN 3 (.v (VV.ag (Qv (z0.getD z1.toNat default))) :: nN 4 [])))
def Qaz (k : Nat) (a0 : (List Q7)) (a1 : Int) : Option Int :=
 (Qn k a0 a1).bind fun r343 => (if r343 = (-1) then (if 0 <= w64 ((a0.length : Int) - 1) /\ w64 ((a0.length : Int) - 1) < (a0.length : Int) then (some ((a0.getD (w64 ((a0.length : Int) - 1)).toNat default).Value)) else none) else (if r343 = 0 then (if (0 : Int) <= 0 /\ 0 < (a0.length : Int) then (some ((a0.getD ((0 : Int)).toNat default).Value)) else none) else (if 0 <= w64 (r343 - 1) /\ w64 (r343 - 1) < (a0.length : Int) then (if 0 <= r343 /\ r343 < (a0.length : Int) then ((Qa8 k (w64 ((w64 (((a0.getD r343.toNat default).Value) - ((a0.getD (w64 (r343 - 1)).toNat default).Value))) * (w64 (a1 - ((a0.getD (w64 (r343 - 1)).toNat default).At))))) (w64 (((a0.getD r343.toNat default).At) - ((a0.getD (w64 (r343 - 1)).toNat default).At)))).bind fun r359 => (some (w64 (((a0.getD (w64 (r343 - 1)).toNat default).Value) + r359)))) else none) else none)))
theorem Qff (k : Nat) (a0 : (List Q7)) (a1 : Int) (r : Int) (h : Qaz k a0 a1 = some r) : VC Try.prog 49 [VV.tr (flatMap Qv a0) a0.length, vi a1] (vi r) := by
 unfold Qaz at h
 obtain ⟨r343, h344, h⟩ := bs h
 have e345 := (Jh k a0 a1 _ h344)
 rcases ifs h with ⟨h346, h⟩ | ⟨h346, h⟩
 ·obtain ⟨h347, h⟩ := ifn h
  have e348 := (show Zv Try.prog 3 ((w64 ((a0.length : Int) - 1)).toNat * 2 + 1) (flatMap Qv a0) = some (vi ((a0.getD (w64 ((a0.length : Int) - 1)).toNat default).Value)) from (Qdx ag3 Qv 2 1 Qat (by omega) a0 default h347 (by omega)).trans rfl)
  have e349 := (ti (ti (ti (ti (an h347 (ti (an e348 (ti tt))))))))
  injection h with h; subst h
  exact Qk pm pn Try.func49 (r0 := vi ((a0.getD (w64 ((a0.length : Int) - 1)).toNat default).Value)) (ans := [.reg (.n :: .n :: []), .frz 0, .reg (.n :: .n :: .call (vi r343) :: .n :: []), .reg (.n :: []), .reg (.n :: .n :: []), .br true, .reg (Q3f a0)]) (fr := true) (by kernel_rfl) (an (an (ti (ti tt)) (an (ti (ti (an e345 (ti tt)))) (an (ti tt) (an (ti (ti tt)) (an (dt h346) (an e349 tt)))))) (ti tt)) (Wv.refl _)
 ·rcases ifs h with ⟨h350, h⟩ | ⟨h350, h⟩
  ·obtain ⟨h351, h⟩ := ifn h
   have e352 := (show Zv Try.prog 3 (((0 : Int)).toNat * 2 + 1) (flatMap Qv a0) = some (vi ((a0.getD ((0 : Int)).toNat default).Value)) from (Qdx ag3 Qv 2 1 Qat (by omega) a0 default h351 (by omega)).trans rfl)
   injection h with h; subst h
   exact Qk pm pn Try.func49 (r0 := vi ((a0.getD ((0 : Int)).toNat default).Value)) (ans := [.reg (.n :: .n :: []), .frz 0, .reg (.n :: .n :: .call (vi r343) :: .n :: []), .reg (.n :: []), .reg (.n :: .n :: []), .br false, .reg (.n :: .n :: []), .br true, .reg (nN 3 (.v (vi ((a0.getD ((0 : Int)).toNat default).Value)) :: .n :: []))]) (fr := true) (by kernel_rfl) (an (an (ti (ti tt)) (an (ti (ti (an e345 (ti tt)))) (an (ti tt) (an (ti (ti tt)) (an (df h346) (an (ti (ti tt)) (an (dt h350) (an (ti (an h351 (ti (an e352 (ti tt))))) tt)))))))) (ti tt)) (Wv.refl _)
  ·obtain ⟨h353, h⟩ := ifn h
   have e354 := (show Zv Try.prog 96 ((w64 (r343 - 1)).toNat * 2) (flatMap Qv a0) = some (VV.ag (Qv (a0.getD (w64 (r343 - 1)).toNat default))) from Qed ag96 Qv 2 sz96 Qat a0 default h353 (by omega))
   obtain ⟨h355, h⟩ := ifn h
   have e356 := (show Zv Try.prog 96 (r343.toNat * 2) (flatMap Qv a0) = some (VV.ag (Qv (a0.getD r343.toNat default))) from Qed ag96 Qv 2 sz96 Qat a0 default h355 (by omega))
   have e357 := (ti (ti (ti (an h353 (an e354 (ti (ti (an h355 (an e356 (ti (ti (ti (ti tt)))))))))))))
   have e358 := (show Zv Try.prog 3 0 [vi a1] = some (vi a1) from (Qfb ag3 rfl))
   obtain ⟨r359, h360, h⟩ := bs h
   have e361 := (Qeu k (w64 ((w64 (((a0.getD r343.toNat default).Value) - ((a0.getD (w64 (r343 - 1)).toNat default).Value))) * (w64 (a1 - ((a0.getD (w64 (r343 - 1)).toNat default).At))))) (w64 (((a0.getD r343.toNat default).At) - ((a0.getD (w64 (r343 - 1)).toNat default).At))) _ h360)
   have e362 := (ti (ti (ti (ti (ti (ti (ti (an e358 (ti (ti (ti (ti (ti (ti (ti (ti (ti (an e361 (ti (ti tt))))))))))))))))))))
   injection h with h; subst h
   exact Qk pm pn Try.func49 (r0 := vi (w64 (((a0.getD (w64 (r343 - 1)).toNat default).Value) + r359))) (ans := [.reg (.n :: .n :: []), .frz 0, .reg (.n :: .n :: .call (vi r343) :: .n :: []), .reg (.n :: []), .reg (.n :: .n :: []), .br false, .reg (.n :: .n :: []), .br false, .reg (Q3g a0 r343), .reg (nN 7 (.v (vi a1) :: nN 9 (.call (vi r359) :: .n :: .n :: [])))]) (fr := true) (by kernel_rfl) (an (an (ti (ti tt)) (an (ti (ti (an e345 (ti tt)))) (an (an (ti tt) (an (ti (ti tt)) (an (df h346) (an (ti (ti tt)) (an (df h350) tt))))) (an e357 (an e362 tt))))) (ti tt)) (Wv.refl _)
def Jr (k : Nat) (a0 : (List Q7)) : Option Bool :=
 if (a0.length : Int) <= 6 then (some true) else (if 40 < (a0.length : Int) then (some (decide ((a0.length : Int) <= 43))) else (some false))
theorem Qcf (k : Nat) (a0 : (List Q7)) (r : Bool) (h : Jr k a0 = some r) : VC Try.prog 38 [VV.tr (flatMap Qv a0) a0.length] (vb r) := by
 unfold Jr at h
 rcases ifs h with ⟨h370, h⟩ | ⟨h370, h⟩
 ·have e371 := (ti (ti (ti (ti (an (dt h370) (an (dt h370) (an (dt h370) (an (dt h370) (ti (ti (ti (an (dt h370) (an (dt h370) (ti tt))))))))))))))
  injection h with h; subst h
  exact Qk pm pn Try.func38 (r0 := vb true) (ans := [.reg (.n :: []), .reg (nN 4 (nS 8 (.b true :: .n :: [])))]) (fr := true) (by kernel_rfl) (an (an (ti tt) (an e371 tt)) (ti tt)) (Wv.refl _)
 ·rcases ifs h with ⟨h372, h⟩ | ⟨h372, h⟩
  ·have e373 := (an (df h370) (dt h372))
   have e374 := (ti (ti (ti (ti (an (an (df h370) tt) (an (an (df h370) tt) (an (an (df h370) tt) (an (an (df h370) tt) (an (an (dt h372) tt) (an (an (dt h372) tt) (an (an (dt h372) tt) (an e373 (an (df h370) (ti tt))))))))))))))
   injection h with h; subst h
   exact Qk pm pn Try.func38 (r0 := vb (decide ((a0.length : Int) <= 43))) (ans := [.reg (.n :: []), .reg (nN 11 (.b true :: .b false :: .n :: []))]) (fr := true) (by kernel_rfl) (an (an (ti tt) (an e374 tt)) (ti tt)) (Wv.refl _)
  ·have e375 := (an (df h370) (df h372))
   have e376 := (ti (ti (ti (ti (an (an (df h370) tt) (an (an (df h370) tt) (an (an (df h370) tt) (an (an (df h370) tt) (an (df h372) (an (df h372) (an (df h372) (an e375 (an (df h370) (ti tt))))))))))))))
   injection h with h; subst h
   exact Qk pm pn Try.func38 (r0 := vb false) (ans := [.reg (.n :: []), .reg (nN 8 (nS 3 (.b false :: .b false :: .n :: [])))]) (fr := true) (by kernel_rfl) (an (an (ti tt) (an e376 tt)) (ti tt)) (Wv.refl _)
def Y2 (k : Nat) (a0 : Int) (a1 : Int) : Option Int :=
 if a1 ≠ 0 then (if (a0.tmod a1) < 0 then (some (w64 ((w64 (a0.tdiv a1)) - 1))) else (some (w64 (a0.tdiv a1)))) else none
theorem Qcg (k : Nat) (a0 : Int) (a1 : Int) (r : Int) (h : Y2 k a0 a1 = some r) : VC Try.prog 11 [vi a0, vi a1] (vi r) := by
 unfold Y2 at h
 obtain ⟨h379, h⟩ := ifn h
 rcases ifs h with ⟨h380, h⟩ | ⟨h380, h⟩
 ·injection h with h; subst h
  exact Qk pm pn Try.func11 (r0 := vi (w64 ((w64 (a0.tdiv a1)) - 1))) (ans := [.reg (.n :: []), .reg (nN 4 []), .reg (nN 4 []), .br true, .reg (nN 3 []), .reg (.n :: .n :: [])]) (fr := true) (by kernel_rfl) (an (an (ti tt) (an (ti (ti (an h379 (ti tt)))) (an (an (ti (ti (an h379 (ti tt)))) (an (dt h380) (ti (ti (ti tt))))) (an (ti (ti tt)) tt)))) (ti tt)) (Wv.refl _)
 ·injection h with h; subst h
  exact Qk pm pn Try.func11 (r0 := vi (w64 (a0.tdiv a1))) (ans := [.reg (.n :: []), .reg (nN 4 []), .reg (nN 4 []), .br false, .reg (.n :: .n :: [])]) (fr := true) (by kernel_rfl) (an (an (ti tt) (an (ti (ti (an h379 (ti tt)))) (an (an (ti (ti (an h379 (ti tt)))) (an (df h380) tt)) (an (ti (ti tt)) tt)))) (ti tt)) (Wv.refl _)
end Go.Proofs.Ytbgajdbpdhipiaa.Vg

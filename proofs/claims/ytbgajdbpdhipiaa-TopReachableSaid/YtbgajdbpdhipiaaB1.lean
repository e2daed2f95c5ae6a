import Derived.Test.YtbgajdbpdhipiaaWa
namespace Go.Proofs.Ytbgajdbpdhipiaa.Vg
set_option maxRecDepth 100000
set_option maxHeartbeats 4000000
set_option linter.unusedVariables false
set_option linter.unusedSimpArgs false
open Go Go.Proofs.Ytbgajdbpdhipiaa.Ev Go.Proofs.Ytbgajdbpdhipiaa.Vv
open List (flatMap length_cons length_nil length_map length_append map_cons map_nil length_replicate)
structure Zg where
 At : Int
 Value : Int
 deriving Inhabited
def Zd (x : Zg) : List VV := [vi x.At, vi x.Value]
theorem Qa4 (x : Zg) : (Zd x).length = 2 := rfl
theorem Qc7 (xs : List Zg) : (xs.flatMap Zd).map unfr = xs.flatMap Zd := Qh6 (fun _ => rfl) xs
theorem ag3 : Qct Try.prog 3 = some false := by kernel_rfl
theorem ag96 : Qct Try.prog 96 = some true := by kernel_rfl
theorem sz96 : szOf Try.prog 96 = some 2 := by kernel_rfl
def Y0 (a0 : Int) (a1 : Int) (a2 : (List Int)) (x11 : Int) : VS := ⟨mkA [(0, vi a0), (1, vi a1), (9, VV.tr (List.map vi a2) a2.length), (10, vi (a2.length : Int)), (11, vi x11)], [], .nil⟩
def Yl (a0 : Int) (a1 : Int) (a2 : (List Int)) (r : Unit) : VS := ⟨mkA [(6, vb false)], [], .nil⟩
def Qau (a0 : Int) (a1 : Int) (a2 : (List Int)) (r : Unit) : VS := ⟨mkA [], [], .nil⟩
def Xf (k : Nat) (a0 : Int) (a1 : Int) (a2 : (List Int)) : Nat -> Int -> Option (Sum Unit Unit)
 | 0, _ => none
 | fuel + 1, x11 => if x11 < (a2.length : Int) then (if 0 <= x11 /\ x11 < (a2.length : Int) then (if (a2.getD x11.toNat 0) < a0 then (some (.inl ())) else (if a1 < (a2.getD x11.toNat 0) then (some (.inl ())) else (Xf k a0 a1 a2 fuel (w64 (x11 + 1))))) else none) else (some (.inr ()))
theorem Qfw (k : Nat) (a0 : Int) (a1 : Int) (a2 : (List Int)) : ∀ (fuel : Nat) (x11 : Int) (r : Sum Unit Unit), Xf k a0 a1 a2 fuel x11 = some r -> (match r with | .inl r => J9 none Try.prog (szF Try.f30) (X9 Try.f30 0) (Y0 a0 a1 a2 x11) .ret (Yl a0 a1 a2 r) | .inr r => J9 none Try.prog (szF Try.f30) (X9 Try.f30 0) (Y0 a0 a1 a2 x11) (.exit 0) (Qau a0 a1 a2 r)) := by
 intro fuel
 induction fuel with
 | zero => intro x11 r h; rw [Xf.eq_1] at h; cases h
 | succ fuel ih =>
  intro x11 r h
  rw [Xf.eq_2] at h
  rcases ifs h with ⟨h142, h⟩ | ⟨h142, h⟩
  ·obtain ⟨h143, h⟩ := ifn h
   have e144 := (show Ze Try.prog 3 (x11.toNat * 1) (List.map vi a2) = some (vi (a2.getD x11.toNat 0)) from Xj ag3 vi a2 0 h143 (by omega))
   rcases ifs h with ⟨h145, h⟩ | ⟨h145, h⟩
   ·have e146 := (t4 (u3 (dt h145) (te h145)))
    injection h with h; subst h
    exact Qj (c := ⟨[(6, none)], [], []⟩) (s1 := (Yl a0 a1 a2 ())) pm pn (ans := [.reg (.n :: []), .br true, .reg (.n :: .v (vi (a2.getD x11.toNat 0)) :: .n :: []), .reg (nN 4 (nS 3 (.b true :: []))), .br true, .reg (.n :: [])]) (by kernel_rfl) (by intro e; cases e) (an (an (ti tt) (an (te h142) (an (an h143 (an e144 (ti tt))) (an e146 (an rt (an (ti tt) tt)))))) (ti tt))
   ·have e147 := (t4 (u3 (tf h145) (tf h145)))
    rcases ifs h with ⟨h148, h⟩ | ⟨h148, h⟩
    ·injection h with h; subst h
     exact Qj (c := ⟨[(6, none)], [], []⟩) (s1 := (Yl a0 a1 a2 ())) pm pn (ans := [.reg (.n :: []), .br true, .reg (.n :: .v (vi (a2.getD x11.toNat 0)) :: .n :: []), .reg (nN 7 (.b false :: [])), .br true, .reg (.n :: [])]) (by kernel_rfl) (by intro e; cases e) (an (an (ti tt) (an (te h142) (an (an h143 (an e144 (ti tt))) (an e147 (an (dt h148) (an (ti tt) tt)))))) (ti tt))
    ·have h2 := ih _ _ h
     obtain ⟨q, hv, hq⟩ := pkR (rd := none) (P := Try.prog) (fn := Try.f30) (k := 0) (s := (Y0 a0 a1 a2 x11)) (ans := [.reg (.n :: []), .br true, .reg (.n :: .v (vi (a2.getD x11.toNat 0)) :: .n :: []), .reg (nN 7 (.b false :: [])), .br false, .reg (.n :: .n :: [])]) (c := ⟨[(0, none), (1, none), (9, none), (10, none), (11, none)], [], []⟩) (e := .normal) (s1 := (Y0 a0 a1 a2 (w64 (x11 + 1)))) (an (an (ti tt) (an (te h142) (an (an (an h143 (an e144 (ti tt))) (an e147 (tf h148))) (t2 tt)))) (ti tt)) (by kernel_rfl)
     cases r with
     | inl r => exact Qv pm pn hv hq h2
     | inr r =>
      exact Qv pm pn hv hq h2
  ·injection h with h; subst h
   exact Qj (c := ⟨[], [], []⟩) (s1 := (Qau a0 a1 a2 ())) pm pn (ans := [.reg (.n :: []), .br false]) (by kernel_rfl) (by intro e; cases e) (an (an (ti tt) (tf h142)) (ti tt))
def Zh (k : Nat) (a0 : Int) (a1 : Int) (a2 : (List Int)) : Option Bool :=
 (Xf k a0 a1 a2 k 0).bind fun r150 => (match r150 with | .inl r151 => (some false) | .inr r152 => (some true))
theorem Zo (k : Nat) (a0 : Int) (a1 : Int) (a2 : (List Int)) (r : Bool) (h : Zh k a0 a1 a2 = some r) : VC Try.prog 30 [vi a0, vi a1, VV.tr (List.map vi a2) a2.length] (vb r) := by
 unfold Zh at h
 obtain ⟨r150, h149, h⟩ := bs h
 have hph149 := Qfw k a0 a1 a2 _ _ _ h149
 cases r150 with
 | inl r151 =>
  dsimp only at h
  have e153 := (an (ti tt) (VRun.loop hph149))
  injection h with h; subst h
  exact Qo pm pn Try.func30 (r0 := vb false) (ans := [.reg (.n :: []), .reg (nN 3 []), .sub ⟨[(0, none), (1, none), (9, none), (10, none), (11, none)], [], []⟩ .ret (Yl a0 a1 a2 r151)]) (fr := true) (by kernel_rfl) (an (an (ti tt) (an (t3 tt) e153)) (ti tt)) (Wv.refl _)
 | inr r152 =>
  dsimp only at h
  have e154 := (an (ti tt) (VRun.loop hph149))
  injection h with h; subst h
  exact Qo pm pn Try.func30 (r0 := vb true) (ans := [.reg (.n :: []), .reg (nN 3 []), .sub ⟨[(0, none), (1, none), (9, none), (10, none), (11, none)], [], []⟩ (.exit 0) (Qau a0 a1 a2 r152), .reg (.n :: [])]) (fr := true) (by kernel_rfl) (an (an (ti tt) (an (an (t3 tt) e154) (an (ti tt) tt))) (ti tt)) (Wv.refl _)
theorem Q4a (z0 : (List Zg)) : [vi 1, vi 40, VV.tr (List.map vi ([(z0.length : Int)] : List Int)) (([(z0.length : Int)] : List Int).length)] = [vi 1, vi 40, VV.tr [vi (z0.length : Int)] 1] := by first | rfl | (simp only [Qn, map_cons, map_nil, un_i, Ji, length_map, length_cons, length_nil]; done) | (simp only [Qn, map_cons, map_nil, un_i, Ji, length_map, length_cons, length_nil]; rfl) | (simp only [Qn, map_cons, map_nil, un_i, Ji, length_map, length_cons, length_nil, length_cons, length_nil, length_append]; done)
def Yb (k : Nat) (a0 : Int) (a1 : (List Int)) : Option Bool :=
 (Zh k (w64 (0 - a0)) a0 a1).bind fun r165 => (some r165)
theorem Qci (k : Nat) (a0 : Int) (a1 : (List Int)) (r : Bool) (h : Yb k a0 a1 = some r) : VC Try.prog 36 [vi a0, VV.tr (List.map vi a1) a1.length] (vb r) := by
 unfold Yb at h
 obtain ⟨r165, h166, h⟩ := bs h
 have e167 := (Zo k (w64 (0 - a0)) a0 a1 _ h166)
 injection h with h; subst h
 exact Qo pm pn Try.func36 (r0 := vb r165) (ans := [.reg (.n :: []), .reg (nN 4 (.call (vb r165) :: .n :: []))]) (fr := true) (by kernel_rfl) (an (an (ti tt) (an (t4 (an e167 (ti tt))) tt)) (ti tt)) (Wv.refl _)
theorem Q4b (z0 : (List Zg)) (z1 : Int) : [vi 1000000, VV.tr (List.map vi ([(z0.getD z1.toNat default).At, (z0.getD z1.toNat default).Value] : List Int)) (([(z0.getD z1.toNat default).At, (z0.getD z1.toNat default).Value] : List Int).length)] = [vi 1000000, VV.tr [vi ((z0.getD z1.toNat default).At), vi ((z0.getD z1.toNat default).Value)] 2] := by first | rfl | (simp only [Qn, map_cons, map_nil, un_i, Ji, length_map, length_cons, length_nil]; done) | (simp only [Qn, map_cons, map_nil, un_i, Ji, length_map, length_cons, length_nil]; rfl) | (simp only [Qn, map_cons, map_nil, un_i, Ji, length_map, length_cons, length_nil, length_cons, length_nil, length_append]; done)
def Q0i (z0 : (List Zg)) (z1 : Int) : List Ans := (nN 10 (.v (vi ((z0.getD (w64 (z1 - 1)).toNat default).At)) :: .n :: .b true :: .n :: []))
def Xw (a0 : (List Zg)) (x12 : Int) : VS := ⟨mkA [(0, VV.tr (flatMap Zd a0) a0.length), (10, VV.tr (flatMap Zd a0) a0.length), (11, vi (a0.length : Int)), (12, vi x12)], [], .nil⟩
def J8 (a0 : (List Zg)) (r : Int) : VS := ⟨mkA [(2, vi r)], [], .nil⟩
def Qal (a0 : (List Zg)) (r : Unit) : VS := ⟨mkA [], [], .nil⟩
def Zx (k : Nat) (a0 : (List Zg)) : Nat -> Int -> Option (Sum Int Unit)
 | 0, _ => none
 | fuel + 1, x12 => if x12 < (a0.length : Int) then (if 0 <= x12 /\ x12 < (a0.length : Int) then ((Yb k 1000000 ([(a0.getD x12.toNat default).At, (a0.getD x12.toNat default).Value] : List Int)).bind fun r240 => (if r240 = true then (if 0 < x12 then (if 0 <= w64 (x12 - 1) /\ w64 (x12 - 1) < (a0.length : Int) then (if ((a0.getD x12.toNat default).At) <= ((a0.getD (w64 (x12 - 1)).toNat default).At) then (some (.inl 9)) else (Zx k a0 fuel (w64 (x12 + 1)))) else none) else (Zx k a0 fuel (w64 (x12 + 1)))) else (some (.inl 2)))) else none) else (some (.inr ()))
theorem Qfd (k : Nat) (a0 : (List Zg)) : ∀ (fuel : Nat) (x12 : Int) (r : Sum Int Unit), Zx k a0 fuel x12 = some r -> (match r with | .inl r => J9 none Try.prog (szF Try.f50) (X9 Try.f50 0) (Xw a0 x12) .ret (J8 a0 r) | .inr r => J9 none Try.prog (szF Try.f50) (X9 Try.f50 0) (Xw a0 x12) (.exit 0) (Qal a0 r)) := by
 intro fuel
 induction fuel with
 | zero => intro x12 r h; rw [Zx.eq_1] at h; cases h
 | succ fuel ih =>
  intro x12 r h
  rw [Zx.eq_2] at h
  rcases ifs h with ⟨h237, h⟩ | ⟨h237, h⟩
  ·obtain ⟨h238, h⟩ := ifn h
   have e239 := (show Ze Try.prog 96 (x12.toNat * 2) (flatMap Zd a0) = some (VV.ag (Zd (a0.getD x12.toNat default))) from Qbb ag96 Zd 2 sz96 Qa4 a0 default h238 (by omega))
   obtain ⟨r240, h241, h⟩ := bs h
   have e242 := (VC.args (Qci k 1000000 ([(a0.getD x12.toNat default).At, (a0.getD x12.toNat default).Value] : List Int) _ h241) (Q4b a0 x12))
   have e243 := (t5 (an e242 (t2 tt)))
   rcases ifs h with ⟨h244, h⟩ | ⟨h244, h⟩
   ·rcases ifs h with ⟨h245, h⟩ | ⟨h245, h⟩
    ·obtain ⟨h246, h⟩ := ifn h
     have e247 := (an (dt h245) (show Ze Try.prog 3 ((w64 (x12 - 1)).toNat * 2 + 0) (flatMap Zd a0) = some (vi ((a0.getD (w64 (x12 - 1)).toNat default).At)) from (Ya ag3 Zd 2 0 Qa4 (by omega) a0 default h246 (by omega)).trans rfl))
     have e248 := (t3 (u5 (te h245) (an (an (dt h245) h246) (an (te h245) (an e247 (an (te h245) (an (dt h245) (ti tt))))))))
     rcases ifs h with ⟨h249, h⟩ | ⟨h249, h⟩
     ·injection h with h; subst h
      exact Qj (c := ⟨[(2, none)], [], []⟩) (s1 := (J8 a0 9)) pm pn (ans := [.reg (.n :: []), .br true, .reg (.n :: .n :: .v (VV.ag (Zd (a0.getD x12.toNat default))) :: nN 3 []), .reg (nN 4 (.v VV.any :: .call (vb r240) :: .n :: .n :: [])), .br false, .reg (Q0i a0 x12), .br true, .reg (.n :: [])]) (by kernel_rfl) (by intro e; cases e) (an (an (ti tt) (an (te h237) (an (ti (an h238 (an e239 (t3 tt)))) (an e243 (an (Qi h244) (an e248 (an (dt h249) (an (ti tt) tt)))))))) (ti tt))
     ·have h2 := ih _ _ h
      obtain ⟨q, hv, hq⟩ := pkR (rd := none) (P := Try.prog) (fn := Try.f50) (k := 0) (s := (Xw a0 x12)) (ans := [.reg (.n :: []), .br true, .reg (.n :: .n :: .v (VV.ag (Zd (a0.getD x12.toNat default))) :: nN 3 []), .reg (nN 4 (.v VV.any :: .call (vb r240) :: .n :: .n :: [])), .br false, .reg (Q0i a0 x12), .br false, .reg (.n :: .n :: [])]) (c := ⟨[(0, none), (10, none), (11, none), (12, none)], [], []⟩) (e := .normal) (s1 := (Xw a0 (w64 (x12 + 1)))) (an (an (ti tt) (an (te h237) (an (an (ti (an h238 (an e239 (t3 tt)))) (an e243 (an (Qi h244) (an e248 (tf h249))))) (t2 tt)))) (ti tt)) (by kernel_rfl)
      cases r with
      | inl r => exact Qv pm pn hv hq h2
      | inr r =>
       exact Qv pm pn hv hq h2
    ·have e250 := (t3 (u9 (df h245) (an (df h245) (ti tt))))
     have h2 := ih _ _ h
     obtain ⟨q, hv, hq⟩ := pkR (rd := none) (P := Try.prog) (fn := Try.f50) (k := 0) (s := (Xw a0 x12)) (ans := [.reg (.n :: []), .br true, .reg (.n :: .n :: .v (VV.ag (Zd (a0.getD x12.toNat default))) :: nN 3 []), .reg (nN 4 (.v VV.any :: .call (vb r240) :: .n :: .n :: [])), .br false, .reg (nN 3 (nS 9 (.b false :: .n :: []))), .br false, .reg (.n :: .n :: [])]) (c := ⟨[(0, none), (10, none), (11, none), (12, none)], [], []⟩) (e := .normal) (s1 := (Xw a0 (w64 (x12 + 1)))) (an (an (ti tt) (an (te h237) (an (an (ti (an h238 (an e239 (t3 tt)))) (an e243 (an (Qi h244) (an e250 (an rf tt))))) (t2 tt)))) (ti tt)) (by kernel_rfl)
     cases r with
     | inl r => exact Qv pm pn hv hq h2
     | inr r =>
      exact Qv pm pn hv hq h2
   ·injection h with h; subst h
    exact Qj (c := ⟨[(2, none)], [], []⟩) (s1 := (J8 a0 2)) pm pn (ans := [.reg (.n :: []), .br true, .reg (.n :: .n :: .v (VV.ag (Zd (a0.getD x12.toNat default))) :: nN 3 []), .reg (nN 4 (.v VV.any :: .call (vb r240) :: .n :: .n :: [])), .br true, .reg (.n :: [])]) (by kernel_rfl) (by intro e; cases e) (an (an (ti tt) (an (te h237) (an (ti (an h238 (an e239 (t3 tt)))) (an e243 (an (Qq (Qy h244)) (an (ti tt) tt)))))) (ti tt))
  ·injection h with h; subst h
   exact Qj (c := ⟨[], [], []⟩) (s1 := (Qal a0 ())) pm pn (ans := [.reg (.n :: []), .br false]) (by kernel_rfl) (by intro e; cases e) (an (an (ti tt) (tf h237)) (ti tt))
def Y7 (k : Nat) (a0 : (List Zg)) : Option Int :=
 (Zh k 1 40 ([(a0.length : Int)] : List Int)).bind fun r209 => (if r209 = true then ((Zx k a0 k 0).bind fun r252 => (match r252 with | .inl r253 => (some r253) | .inr r254 => (some 0))) else (some 10))
theorem Qdw (k : Nat) (a0 : (List Zg)) (r : Int) (h : Y7 k a0 = some r) : VC Try.prog 50 [VV.tr (flatMap Zd a0) a0.length] (vi r) := by
 unfold Y7 at h
 obtain ⟨r209, h210, h⟩ := bs h
 have e211 := (VC.args (Zo k 1 40 ([(a0.length : Int)] : List Int) _ h210) (Q4a a0))
 rcases ifs h with ⟨h212, h⟩ | ⟨h212, h⟩
 ·obtain ⟨r252, h251, h⟩ := bs h
  have hph251 := Qfd k a0 _ _ _ h251
  cases r252 with
  | inl r253 =>
   dsimp only at h
   have e255 := (an (ti tt) (VRun.loop hph251))
   injection h with h; subst h
   exact Qo pm pn Try.func50 (r0 := vi r253) (ans := [.reg (.n :: []), .reg (.n :: .n :: .v VV.any :: .call (vb r209) :: .n :: []), .br false, .reg (nN 3 []), .sub ⟨[(0, none), (10, none), (11, none), (12, none)], [], []⟩ .ret (J8 a0 r253)]) (fr := true) (by kernel_rfl) (an (an (ti tt) (an (an (t3 (an e211 (ti tt))) (an (Qi h212) tt)) (an (t3 tt) e255))) (ti tt)) (Wv.refl _)
  | inr r254 =>
   dsimp only at h
   have e256 := (an (ti tt) (VRun.loop hph251))
   injection h with h; subst h
   exact Qo pm pn Try.func50 (r0 := vi 0) (ans := [.reg (.n :: []), .reg (.n :: .n :: .v VV.any :: .call (vb r209) :: .n :: []), .br false, .reg (nN 3 []), .sub ⟨[(0, none), (10, none), (11, none), (12, none)], [], []⟩ (.exit 0) (Qal a0 r254), .reg (.n :: [])]) (fr := true) (by kernel_rfl) (an (an (ti tt) (an (an (t3 (an e211 (ti tt))) (an (Qi h212) tt)) (an (an (t3 tt) e256) (an (ti tt) tt)))) (ti tt)) (Wv.refl _)
 ·injection h with h; subst h
  exact Qo pm pn Try.func50 (r0 := vi 10) (ans := [.reg (.n :: []), .reg (.n :: .n :: .v VV.any :: .call (vb r209) :: .n :: []), .br true, .reg (.n :: [])]) (fr := true) (by kernel_rfl) (an (an (ti tt) (an (t3 (an e211 (ti tt))) (an (Qq (Qy h212)) (an (ti tt) tt)))) (ti tt)) (Wv.refl _)
def Qdq (k : Nat) (a0 : Zg) (q0_0 : Int) : Option Bool :=
 some (decide (q0_0 < a0.At))
theorem Qh5 (k : Nat) (a0 : Zg) (q0_0 : Int) (r : Bool) (h : Qdq k a0 q0_0 = some r) : VC Try.prog 56 [VV.ag (Zd a0), VV.tp [vi q0_0] 0] (vb r) := by
 unfold Qdq at h
 have e261 := (show Ze Try.prog 3 0 [vi q0_0] = some (vi q0_0) from (Qfr ag3 rfl))
 injection h with h; subst h
 exact Qo pm pn Try.func56 (r0 := vb (decide (q0_0 < a0.At))) (ans := [.reg (.n :: .n :: []), .reg (.n :: .n :: .v (vi q0_0) :: .n :: .n :: [])]) (fr := true) (by kernel_rfl) (an (an (t2 tt) (an (t2 (an e261 (t2 tt))) tt)) (ti tt)) (Wv.refl _)
def Qz (a0 : (List Zg)) (a1 : Int) (x8 : Int) : VS := ⟨mkA [(0, VV.tr (flatMap Zd a0) a0.length), (1, VV.fn 56 [VV.tp [vi a1] 0]), (7, vi (a0.length : Int)), (8, vi x8)], [], .nil⟩
def Zi (a0 : (List Zg)) (a1 : Int) (r : Int) : VS := ⟨mkA [(4, vi r)], [], .nil⟩
def Zj (a0 : (List Zg)) (a1 : Int) (r : Unit) : VS := ⟨mkA [], [], .nil⟩
def Qg (k : Nat) (a0 : (List Zg)) (a1 : Int) : Nat -> Int -> Option (Sum Int Unit)
 | 0, _ => none
 | fuel + 1, x8 => if x8 < (a0.length : Int) then (if 0 <= x8 /\ x8 < (a0.length : Int) then ((Qdq k (a0.getD x8.toNat default) a1).bind fun r308 => (if r308 = true then (some (.inl x8)) else (Qg k a0 a1 fuel (w64 (x8 + 1))))) else none) else (some (.inr ()))
theorem Jf (k : Nat) (a0 : (List Zg)) (a1 : Int) : ∀ (fuel : Nat) (x8 : Int) (r : Sum Int Unit), Qg k a0 a1 fuel x8 = some r -> (match r with | .inl r => J9 none Try.prog (szF Try.f55) (X9 Try.f55 0) (Qz a0 a1 x8) .ret (Zi a0 a1 r) | .inr r => J9 none Try.prog (szF Try.f55) (X9 Try.f55 0) (Qz a0 a1 x8) (.exit 0) (Zj a0 a1 r)) := by
 intro fuel
 induction fuel with
 | zero => intro x8 r h; rw [Qg.eq_1] at h; cases h
 | succ fuel ih =>
  intro x8 r h
  rw [Qg.eq_2] at h
  rcases ifs h with ⟨h305, h⟩ | ⟨h305, h⟩
  ·obtain ⟨h306, h⟩ := ifn h
   have e307 := (show Ze Try.prog 96 (x8.toNat * 2) (flatMap Zd a0) = some (VV.ag (Zd (a0.getD x8.toNat default))) from Qbb ag96 Zd 2 sz96 Qa4 a0 default h306 (by omega))
   obtain ⟨r308, h309, h⟩ := bs h
   have e310 := (Qh5 k (a0.getD x8.toNat default) a1 _ h309)
   have e311 := (t3 (an h306 (an e307 (an e310 tt))))
   rcases ifs h with ⟨h312, h⟩ | ⟨h312, h⟩
   ·injection h with h; subst h
    exact Qj (c := ⟨[(4, none)], [], []⟩) (s1 := (Zi a0 a1 x8)) pm pn (ans := [.reg (.n :: []), .br true, .reg (.n :: .n :: []), .reg (nN 4 (.v (VV.ag (Zd (a0.getD x8.toNat default))) :: .call (vb r308) :: [])), .br true, .reg (.n :: .n :: [])]) (by kernel_rfl) (by intro e; cases e) (an (an (ti tt) (an (te h305) (an (t2 tt) (an e311 (an h312 (an (t2 tt) tt)))))) (ti tt))
   ·have h2 := ih _ _ h
    obtain ⟨q, hv, hq⟩ := pkR (rd := none) (P := Try.prog) (fn := Try.f55) (k := 0) (s := (Qz a0 a1 x8)) (ans := [.reg (.n :: []), .br true, .reg (.n :: .n :: []), .reg (nN 4 (.v (VV.ag (Zd (a0.getD x8.toNat default))) :: .call (vb r308) :: [])), .br false, .reg (.n :: .n :: [])]) (c := ⟨[(0, none), (1, none), (7, none), (8, none)], [], []⟩) (e := .normal) (s1 := (Qz a0 a1 (w64 (x8 + 1)))) (an (an (ti tt) (an (te h305) (an (an (t2 tt) (an e311 (an (Qy h312) tt))) (t2 tt)))) (ti tt)) (by kernel_rfl)
    cases r with
    | inl r => exact Qv pm pn hv hq h2
    | inr r =>
     exact Qv pm pn hv hq h2
  ·injection h with h; subst h
   exact Qj (c := ⟨[], [], []⟩) (s1 := (Zj a0 a1 ())) pm pn (ans := [.reg (.n :: []), .br false]) (by kernel_rfl) (by intro e; cases e) (an (an (ti tt) (tf h305)) (ti tt))
def Qw (k : Nat) (a0 : (List Zg)) (a1 : Int) : Option Int :=
 (Qg k a0 a1 k 0).bind fun r314 => (match r314 with | .inl r315 => (some r315) | .inr r316 => (some (-1)))
theorem Jr (k : Nat) (a0 : (List Zg)) (a1 : Int) (r : Int) (h : Qw k a0 a1 = some r) : VC Try.prog 55 [VV.tr (flatMap Zd a0) a0.length, VV.fn 56 [VV.tp [vi a1] 0]] (vi r) := by
 unfold Qw at h
 obtain ⟨r314, h313, h⟩ := bs h
 have hph313 := Jf k a0 a1 _ _ _ h313
 cases r314 with
 | inl r315 =>
  dsimp only at h
  have e317 := (an (ti tt) (VRun.loop hph313))
  injection h with h; subst h
  exact Qo pm pn Try.func55 (r0 := vi r315) (ans := [.reg (.n :: []), .reg (nN 3 []), .sub ⟨[(0, none), (1, none), (7, none), (8, none)], [], []⟩ .ret (Zi a0 a1 r315)]) (fr := true) (by kernel_rfl) (an (an (ti tt) (an (t3 tt) e317)) (ti tt)) (Wv.refl _)
 | inr r316 =>
  dsimp only at h
  have e318 := (an (ti tt) (VRun.loop hph313))
  injection h with h; subst h
  exact Qo pm pn Try.func55 (r0 := vi (-1)) (ans := [.reg (.n :: []), .reg (nN 3 []), .sub ⟨[(0, none), (1, none), (7, none), (8, none)], [], []⟩ (.exit 0) (Zj a0 a1 r316), .reg (.n :: [])]) (fr := true) (by kernel_rfl) (an (an (ti tt) (an (an (t3 tt) e318) (an (ti tt) tt))) (ti tt)) (Wv.refl _)
def Qbl (k : Nat) (a0 : Int) (a1 : Int) : Option Int :=
 if a1 ≠ 0 then (if (a0.tmod a1) < 0 then (some (w64 ((w64 (a0.tdiv a1)) - 1))) else (some (w64 (a0.tdiv a1)))) else none
theorem Qfb (k : Nat) (a0 : Int) (a1 : Int) (r : Int) (h : Qbl k a0 a1 = some r) : VC Try.prog 47 [vi a0, vi a1] (vi r) := by
 unfold Qbl at h
 obtain ⟨h337, h⟩ := ifn h
 rcases ifs h with ⟨h338, h⟩ | ⟨h338, h⟩
 ·injection h with h; subst h
  exact Qo pm pn Try.func47 (r0 := vi (w64 ((w64 (a0.tdiv a1)) - 1))) (ans := [.reg (.n :: []), .reg (nN 4 []), .br true, .reg (nN 5 [])]) (fr := true) (by kernel_rfl) (an (an (ti tt) (an (t2 (an h337 (ti tt))) (an (dt h338) (an (t2 (an h337 (t2 tt))) tt)))) (ti tt)) (Wv.refl _)
 ·injection h with h; subst h
  exact Qo pm pn Try.func47 (r0 := vi (w64 (a0.tdiv a1))) (ans := [.reg (.n :: []), .reg (nN 4 []), .br false, .reg (nN 4 [])]) (fr := true) (by kernel_rfl) (an (an (ti tt) (an (an (t2 (an h337 (ti tt))) (tf h338)) (an (t2 (an h337 (ti tt))) tt))) (ti tt)) (Wv.refl _)
def Q4c (z0 : (List Zg)) : List Ans := (nN 6 (.v (vi ((z0.getD (w64 ((z0.length : Int) - 1)).toNat default).Value)) :: .n :: []))
def Q4d (z0 : (List Zg)) (z1 : Int) : List Ans := (nN 4 (.v (VV.ag (Zd (z0.getD (w64 (z1 - 1)).toNat default))) :: nN 3 (.v (VV.ag (Zd (z0.getD z1.toNat default))) :: nN 4 [])))
def Qa9 (k : Nat) (a0 : (List Zg)) (a1 : Int) : Option Int :=
 (Qw k a0 a1).bind fun r343 => (if r343 = (-1) then (if 0 <= w64 ((a0.length : Int) - 1) /\ w64 ((a0.length : Int) - 1) < (a0.length : Int) then (some ((a0.getD (w64 ((a0.length : Int) - 1)).toNat default).Value)) else none) else (if r343 = 0 then (if (0 : Int) <= 0 /\ 0 < (a0.length : Int) then (some ((a0.getD ((0 : Int)).toNat default).Value)) else none) else (if 0 <= w64 (r343 - 1) /\ w64 (r343 - 1) < (a0.length : Int) then (if 0 <= r343 /\ r343 < (a0.length : Int) then ((Qbl k (w64 ((w64 (((a0.getD r343.toNat default).Value) - ((a0.getD (w64 (r343 - 1)).toNat default).Value))) * (w64 (a1 - ((a0.getD (w64 (r343 - 1)).toNat default).At))))) (w64 (((a0.getD r343.toNat default).At) - ((a0.getD (w64 (r343 - 1)).toNat default).At)))).bind fun r359 => (some (w64 (((a0.getD (w64 (r343 - 1)).toNat default).Value) + r359)))) else none) else none)))
theorem Qfu (k : Nat) (a0 : (List Zg)) (a1 : Int) (r : Int) (h : Qa9 k a0 a1 = some r) : VC Try.prog 49 [VV.tr (flatMap Zd a0) a0.length, vi a1] (vi r) := by
 unfold Qa9 at h
 obtain ⟨r343, h344, h⟩ := bs h
 have e345 := (Jr k a0 a1 _ h344)
 rcases ifs h with ⟨h346, h⟩ | ⟨h346, h⟩
 ·obtain ⟨h347, h⟩ := ifn h
  have e348 := (show Ze Try.prog 3 ((w64 ((a0.length : Int) - 1)).toNat * 2 + 1) (flatMap Zd a0) = some (vi ((a0.getD (w64 ((a0.length : Int) - 1)).toNat default).Value)) from (Ya ag3 Zd 2 1 Qa4 (by omega) a0 default h347 (by omega)).trans rfl)
  have e349 := (t4 (an h347 (ti (an e348 (ti tt)))))
  injection h with h; subst h
  exact Qo pm pn Try.func49 (r0 := vi ((a0.getD (w64 ((a0.length : Int) - 1)).toNat default).Value)) (ans := [.reg (.n :: .n :: []), .frz 0, .reg (.n :: .n :: .call (vi r343) :: .n :: []), .reg (.n :: []), .reg (.n :: .n :: []), .br true, .reg (Q4c a0)]) (fr := true) (by kernel_rfl) (an (an (t2 tt) (an (t2 (an e345 (ti tt))) (an (ti tt) (an (t2 tt) (an (dt h346) (an e349 tt)))))) (ti tt)) (Wv.refl _)
 ·rcases ifs h with ⟨h350, h⟩ | ⟨h350, h⟩
  ·obtain ⟨h351, h⟩ := ifn h
   have e352 := (show Ze Try.prog 3 (((0 : Int)).toNat * 2 + 1) (flatMap Zd a0) = some (vi ((a0.getD ((0 : Int)).toNat default).Value)) from (Ya ag3 Zd 2 1 Qa4 (by omega) a0 default h351 (by omega)).trans rfl)
   injection h with h; subst h
   exact Qo pm pn Try.func49 (r0 := vi ((a0.getD ((0 : Int)).toNat default).Value)) (ans := [.reg (.n :: .n :: []), .frz 0, .reg (.n :: .n :: .call (vi r343) :: .n :: []), .reg (.n :: []), .reg (.n :: .n :: []), .br false, .reg (.n :: .n :: []), .br true, .reg (nN 3 (.v (vi ((a0.getD ((0 : Int)).toNat default).Value)) :: .n :: []))]) (fr := true) (by kernel_rfl) (an (an (t2 tt) (an (t2 (an e345 (ti tt))) (an (ti tt) (an (t2 tt) (an (df h346) (an (t2 tt) (an (dt h350) (an (ti (an h351 (ti (an e352 (ti tt))))) tt)))))))) (ti tt)) (Wv.refl _)
  ·obtain ⟨h353, h⟩ := ifn h
   have e354 := (show Ze Try.prog 96 ((w64 (r343 - 1)).toNat * 2) (flatMap Zd a0) = some (VV.ag (Zd (a0.getD (w64 (r343 - 1)).toNat default))) from Qbb ag96 Zd 2 sz96 Qa4 a0 default h353 (by omega))
   obtain ⟨h355, h⟩ := ifn h
   have e356 := (show Ze Try.prog 96 (r343.toNat * 2) (flatMap Zd a0) = some (VV.ag (Zd (a0.getD r343.toNat default))) from Qbb ag96 Zd 2 sz96 Qa4 a0 default h355 (by omega))
   have e357 := (t3 (an h353 (an e354 (t2 (an h355 (an e356 (t4 tt)))))))
   have e358 := (show Ze Try.prog 3 0 [vi a1] = some (vi a1) from (Qfr ag3 rfl))
   obtain ⟨r359, h360, h⟩ := bs h
   have e361 := (Qfb k (w64 ((w64 (((a0.getD r343.toNat default).Value) - ((a0.getD (w64 (r343 - 1)).toNat default).Value))) * (w64 (a1 - ((a0.getD (w64 (r343 - 1)).toNat default).At))))) (w64 (((a0.getD r343.toNat default).At) - ((a0.getD (w64 (r343 - 1)).toNat default).At))) _ h360)
   have e362 := (t7 (an e358 (t9 (an e361 (t2 tt)))))
   injection h with h; subst h
   exact Qo pm pn Try.func49 (r0 := vi (w64 (((a0.getD (w64 (r343 - 1)).toNat default).Value) + r359))) (ans := [.reg (.n :: .n :: []), .frz 0, .reg (.n :: .n :: .call (vi r343) :: .n :: []), .reg (.n :: []), .reg (.n :: .n :: []), .br false, .reg (.n :: .n :: []), .br false, .reg (Q4d a0 r343), .reg (nN 7 (.v (vi a1) :: nN 9 (.call (vi r359) :: .n :: .n :: [])))]) (fr := true) (by kernel_rfl) (an (an (t2 tt) (an (t2 (an e345 (ti tt))) (an (an (ti tt) (an (t2 tt) (an (df h346) (an (t2 tt) (tf h350))))) (an e357 (an e362 tt))))) (ti tt)) (Wv.refl _)
def J4 (k : Nat) (a0 : (List Zg)) : Option Bool :=
 if (a0.length : Int) <= 6 then (some true) else (if 40 < (a0.length : Int) then (some (decide ((a0.length : Int) <= 43))) else (some false))
theorem Qcu (k : Nat) (a0 : (List Zg)) (r : Bool) (h : J4 k a0 = some r) : VC Try.prog 38 [VV.tr (flatMap Zd a0) a0.length] (vb r) := by
 unfold J4 at h
 rcases ifs h with ⟨h370, h⟩ | ⟨h370, h⟩
 ·have e371 := (t4 (u4 (dt h370) (t3 (u2 (dt h370) (ti tt)))))
  injection h with h; subst h
  exact Qo pm pn Try.func38 (r0 := vb true) (ans := [.reg (.n :: []), .reg (nN 4 (nS 8 (.b true :: .n :: [])))]) (fr := true) (by kernel_rfl) (an (an (ti tt) (an e371 tt)) (ti tt)) (Wv.refl _)
 ·rcases ifs h with ⟨h372, h⟩ | ⟨h372, h⟩
  ·have e373 := (an (df h370) (dt h372))
   have e374 := (t4 (u4 (tf h370) (u3 (te h372) (an e373 (an (df h370) (ti tt))))))
   injection h with h; subst h
   exact Qo pm pn Try.func38 (r0 := vb (decide ((a0.length : Int) <= 43))) (ans := [.reg (.n :: []), .reg (nN 11 (.b true :: .b false :: .n :: []))]) (fr := true) (by kernel_rfl) (an (an (ti tt) (an e374 tt)) (ti tt)) (Wv.refl _)
  ·have e375 := (an (df h370) (df h372))
   have e376 := (t4 (u4 (tf h370) (u3 (df h372) (an e375 (an (df h370) (ti tt))))))
   injection h with h; subst h
   exact Qo pm pn Try.func38 (r0 := vb false) (ans := [.reg (.n :: []), .reg (nN 8 (nS 3 (.b false :: .b false :: .n :: [])))]) (fr := true) (by kernel_rfl) (an (an (ti tt) (an e376 tt)) (ti tt)) (Wv.refl _)
theorem Qgi (k : Nat) (a0 : Int) (a1 : Int) (r : Int) (h : Qbl k a0 a1 = some r) : VC Try.prog 11 [vi a0, vi a1] (vi r) := by
 unfold Qbl at h
 obtain ⟨h379, h⟩ := ifn h
 rcases ifs h with ⟨h380, h⟩ | ⟨h380, h⟩
 ·injection h with h; subst h
  exact Qo pm pn Try.func11 (r0 := vi (w64 ((w64 (a0.tdiv a1)) - 1))) (ans := [.reg (.n :: []), .reg (nN 4 []), .reg (nN 4 []), .br true, .reg (nN 3 []), .reg (.n :: .n :: [])]) (fr := true) (by kernel_rfl) (an (an (ti tt) (an (t2 (an h379 (ti tt))) (an (an (t2 (an h379 (ti tt))) (an (dt h380) (t3 tt))) (an (t2 tt) tt)))) (ti tt)) (Wv.refl _)
 ·injection h with h; subst h
  exact Qo pm pn Try.func11 (r0 := vi (w64 (a0.tdiv a1))) (ans := [.reg (.n :: []), .reg (nN 4 []), .reg (nN 4 []), .br false, .reg (.n :: .n :: [])]) (fr := true) (by kernel_rfl) (an (an (ti tt) (an (t2 (an h379 (ti tt))) (an (an (t2 (an h379 (ti tt))) (tf h380)) (an (t2 tt) tt)))) (ti tt)) (Wv.refl _)
end Go.Proofs.Ytbgajdbpdhipiaa.Vg

import Derived.Test.YtjomicmhnbmhoaaWa
namespace Go.Proofs.Ytjomicmhnbmhoaa.Vg
set_option maxRecDepth 100000
set_option maxHeartbeats 4000000
set_option linter.unusedVariables false
set_option linter.unusedSimpArgs false
open Go Go.Proofs.Ytjomicmhnbmhoaa.Ev Go.Proofs.Ytjomicmhnbmhoaa.Vv
open List (flatMap length_cons length_nil length_map length_append map_cons map_nil length_replicate)
structure Qo where
 At : Int
 Value : Int
 deriving Inhabited
def Qi (x : Qo) : List VV := [vi x.At, vi x.Value]
theorem J3 (x : Qo) : (Qi x).length = 2 := rfl
theorem Qj2 (xs : List Qo) : (xs.flatMap Qi).all VV.still = true := Qf6 (fun _ => rfl) xs
theorem Qk3 (xs : List Qo) : (xs.flatMap Qi).all new0 = true := Qf6 (fun _ => rfl) xs
theorem X0 (xs : List Qo) : (xs.flatMap Qi).map unfr = xs.flatMap Qi := Qj3 (fun _ => rfl) xs
theorem ag3 : Qch Try.prog 3 = some false := by kernel_rfl
theorem ag68 : Qch Try.prog 68 = some true := by kernel_rfl
theorem sz68 : szOf Try.prog 68 = some 2 := by kernel_rfl
def Jf (k : Nat) (a0 : (List Qo)) : Option Bool :=
 if (a0.length : Int) <= 6 then (some true) else (if 40 < (a0.length : Int) then (some (decide ((a0.length : Int) <= 43))) else (some false))
theorem Qbt (k : Nat) (a0 : (List Qo)) (r : Bool) (h : Jf k a0 = some r) : VC Try.prog 55 [VV.tr (flatMap Qi a0) a0.length] (vb r) := by
 unfold Jf at h
 rcases ifs h with ⟨h108, h⟩ | ⟨h108, h⟩
 ·have e109 := (ti (ti (ti (ti (an (dt h108) (an (dt h108) (an (dt h108) (an (dt h108) (ti (ti (ti (an (dt h108) (an (dt h108) (ti tt))))))))))))))
  injection h with h; subst h
  exact Qn pm pn Try.func55 (r0 := vb true) (ans := [.reg (.n :: []), .reg (nN 4 (nS 8 (.b true :: .n :: [])))]) (fr := true) (by kernel_rfl) (an (an (ti tt) (an e109 tt)) (ti tt)) (Wv.refl _)
 ·rcases ifs h with ⟨h110, h⟩ | ⟨h110, h⟩
  ·have e111 := (an (df h108) (dt h110))
   have e112 := (ti (ti (ti (ti (an (an (df h108) tt) (an (an (df h108) tt) (an (an (df h108) tt) (an (an (df h108) tt) (an (an (dt h110) tt) (an (an (dt h110) tt) (an (an (dt h110) tt) (an e111 (an (df h108) (ti tt))))))))))))))
   injection h with h; subst h
   exact Qn pm pn Try.func55 (r0 := vb (decide ((a0.length : Int) <= 43))) (ans := [.reg (.n :: []), .reg (nN 11 (.b true :: .b false :: .n :: []))]) (fr := true) (by kernel_rfl) (an (an (ti tt) (an e112 tt)) (ti tt)) (Wv.refl _)
  ·have e113 := (an (df h108) (df h110))
   have e114 := (ti (ti (ti (ti (an (an (df h108) tt) (an (an (df h108) tt) (an (an (df h108) tt) (an (an (df h108) tt) (an (df h110) (an (df h110) (an (df h110) (an e113 (an (df h108) (ti tt))))))))))))))
   injection h with h; subst h
   exact Qn pm pn Try.func55 (r0 := vb false) (ans := [.reg (.n :: []), .reg (nN 8 (nS 3 (.b false :: .b false :: .n :: [])))]) (fr := true) (by kernel_rfl) (an (an (ti tt) (an e114 tt)) (ti tt)) (Wv.refl _)
def X7 (k : Nat) (a0 : (List Qo)) : Option (List Qo) :=
 if ([] : List Qo).length + a0.length <= 1000000000 then (some (([] : List Qo) ++ a0)) else none
theorem Qbo (k : Nat) (a0 : (List Qo)) (r : (List Qo)) (h : X7 k a0 = some r) : VC Try.prog 30 [VV.tr (flatMap Qi a0) a0.length] (VV.fw 2 (flatMap Qi r) r.length) := by
 unfold X7 at h
 obtain ⟨h117, h⟩ := ifn h
 have e118 := (show List.length [] = 0 * 2 /\ List.length (flatMap Qi a0) = a0.length * 2 /\ (0 + a0.length) * 16 <= 140737488355328 /\ 0 + a0.length < 1099511627776 /\ List.all (flatMap Qi a0) VV.still = true from ⟨(by rw [show [] = flatMap Qi ([] : List Qo) from rfl]; rw [Qao J3] <;> simp), (by rw [Qao J3] <;> simp), (by first | omega | (simp at h117 ⊢; omega)), (by first | omega | (simp at h117 ⊢; omega)), (by exact Qj2 _)⟩)
 injection h with h; subst h
 exact Qn pm pn Try.func30 (r0 := VV.fw 2 (List.drop 0 (List.map unfr ([] ++ (flatMap Qi a0)))) (0 + a0.length)) (ans := [.reg (.n :: []), .reg (nN 4 [])]) (fr := true) (by kernel_rfl) (an (an (ti tt) (an (ti (ti (an e118 (ti tt)))) tt)) (an (show List.all ([] ++ (flatMap Qi a0)) new0 = true from (by rw [show [] ++ (flatMap Qi a0) = flatMap Qi (([] : List Qo) ++ a0) from (by rw [show [] = flatMap Qi ([] : List Qo) from rfl]; exact List.flatMap_append.symm)]; exact Qk3 _)) tt)) (Wv.of_eq (by simp only [show [] ++ (flatMap Qi a0) = flatMap Qi (([] : List Qo) ++ a0) from (by rw [show [] = flatMap Qi ([] : List Qo) from rfl]; exact List.flatMap_append.symm), Qer, Qk, Qmh, Qby, map_cons, map_nil, un_i, un_k, un_b, un_s, Jd, Qk0, length_map, length_replicate, length_append, List.length_set, length_cons, length_nil, Nat.zero_add, X0]))
def J4 (a0 : Int) (a1 : Int) (a2 : (List Int)) (x11 : Int) : VS := ⟨mkA [(0, vi a0), (1, vi a1), (9, VV.tr (List.map vi a2) a2.length), (10, vi (a2.length : Int)), (11, vi x11)], [], .nil⟩
def Jr (a0 : Int) (a1 : Int) (a2 : (List Int)) (r : Unit) : VS := ⟨mkA [(6, vb false)], [], .nil⟩
def Wh (a0 : Int) (a1 : Int) (a2 : (List Int)) (r : Unit) : VS := ⟨mkA [], [], .nil⟩
def Zx (k : Nat) (a0 : Int) (a1 : Int) (a2 : (List Int)) : Nat -> Int -> Option (Sum Unit Unit)
 | 0, _ => none
 | fuel + 1, x11 => if x11 < (a2.length : Int) then (if 0 <= x11 /\ x11 < (a2.length : Int) then (if (a2.getD x11.toNat 0) < a0 then (some (.inl ())) else (if a1 < (a2.getD x11.toNat 0) then (some (.inl ())) else (Zx k a0 a1 a2 fuel (w64 (x11 + 1))))) else none) else (some (.inr ()))
theorem Qeg (k : Nat) (a0 : Int) (a1 : Int) (a2 : (List Int)) : ∀ (fuel : Nat) (x11 : Int) (r : Sum Unit Unit), Zx k a0 a1 a2 fuel x11 = some r -> (match r with | .inl r => Y9 none Try.prog (szF Try.f58) (Yb Try.f58 0) (J4 a0 a1 a2 x11) .ret (Jr a0 a1 a2 r) | .inr r => Y9 none Try.prog (szF Try.f58) (Yb Try.f58 0) (J4 a0 a1 a2 x11) (.exit 0) (Wh a0 a1 a2 r)) := by
 intro fuel
 induction fuel with
 | zero => intro x11 r h; rw [Zx.eq_1] at h; cases h
 | succ fuel ih =>
  intro x11 r h
  rw [Zx.eq_2] at h
  rcases ifs h with ⟨h160, h⟩ | ⟨h160, h⟩
  ·obtain ⟨h161, h⟩ := ifn h
   have e162 := (show Z4 Try.prog 3 (x11.toNat * 1) (List.map vi a2) = some (vi (a2.getD x11.toNat 0)) from Yr ag3 vi a2 0 h161 (by omega))
   rcases ifs h with ⟨h163, h⟩ | ⟨h163, h⟩
   ·have e164 := (ti (ti (ti (ti (an (dt h163) (an (dt h163) (an (dt h163) (an (dt h163) tt))))))))
    injection h with h; subst h
    exact Zi (c := ⟨[(6, none)], [], []⟩) (s1 := (Jr a0 a1 a2 ())) pm pn (ans := [.reg (.n :: []), .br true, .reg (.n :: .v (vi (a2.getD x11.toNat 0)) :: .n :: []), .reg (nN 4 (nS 3 (.b true :: []))), .br true, .reg (.n :: [])]) (by kernel_rfl) (by intro e; cases e) (an (an (ti tt) (an (an (dt h160) tt) (an (an h161 (an e162 (ti tt))) (an e164 (an rt (an (ti tt) tt)))))) (ti tt))
   ·have e165 := (ti (ti (ti (ti (an (an (df h163) tt) (an (an (df h163) tt) (an (an (df h163) tt) (an (df h163) tt))))))))
    rcases ifs h with ⟨h166, h⟩ | ⟨h166, h⟩
    ·injection h with h; subst h
     exact Zi (c := ⟨[(6, none)], [], []⟩) (s1 := (Jr a0 a1 a2 ())) pm pn (ans := [.reg (.n :: []), .br true, .reg (.n :: .v (vi (a2.getD x11.toNat 0)) :: .n :: []), .reg (nN 7 (.b false :: [])), .br true, .reg (.n :: [])]) (by kernel_rfl) (by intro e; cases e) (an (an (ti tt) (an (an (dt h160) tt) (an (an h161 (an e162 (ti tt))) (an e165 (an (dt h166) (an (ti tt) tt)))))) (ti tt))
    ·have h2 := ih _ _ h
     obtain ⟨q, hv, hq⟩ := pkR (rd := none) (P := Try.prog) (fn := Try.f58) (k := 0) (s := (J4 a0 a1 a2 x11)) (ans := [.reg (.n :: []), .br true, .reg (.n :: .v (vi (a2.getD x11.toNat 0)) :: .n :: []), .reg (nN 7 (.b false :: [])), .br false, .reg (.n :: .n :: [])]) (c := ⟨[(0, none), (1, none), (9, none), (10, none), (11, none)], [], []⟩) (e := .normal) (s1 := (J4 a0 a1 a2 (w64 (x11 + 1)))) (an (an (ti tt) (an (an (dt h160) tt) (an (an (an h161 (an e162 (ti tt))) (an e165 (an (df h166) tt))) (ti (ti tt))))) (ti tt)) (by kernel_rfl)
     cases r with
     | inl r => exact Zc pm pn hv hq h2
     | inr r =>
      exact Zc pm pn hv hq h2
  ·injection h with h; subst h
   exact Zi (c := ⟨[], [], []⟩) (s1 := (Wh a0 a1 a2 ())) pm pn (ans := [.reg (.n :: []), .br false]) (by kernel_rfl) (by intro e; cases e) (an (an (ti tt) (an (df h160) tt)) (ti tt))
def Q8 (k : Nat) (a0 : Int) (a1 : Int) (a2 : (List Int)) : Option Bool :=
 (Zx k a0 a1 a2 k 0).bind fun r168 => (match r168 with | .inl r169 => (some false) | .inr r170 => (some true))
theorem Zm (k : Nat) (a0 : Int) (a1 : Int) (a2 : (List Int)) (r : Bool) (h : Q8 k a0 a1 a2 = some r) : VC Try.prog 58 [vi a0, vi a1, VV.tr (List.map vi a2) a2.length] (vb r) := by
 unfold Q8 at h
 obtain ⟨r168, h167, h⟩ := bs h
 have hph167 := Qeg k a0 a1 a2 _ _ _ h167
 cases r168 with
 | inl r169 =>
  dsimp only at h
  have e171 := (an (ti tt) (VRun.loop hph167))
  injection h with h; subst h
  exact Qn pm pn Try.func58 (r0 := vb false) (ans := [.reg (.n :: []), .reg (nN 3 []), .sub ⟨[(0, none), (1, none), (9, none), (10, none), (11, none)], [], []⟩ .ret (Jr a0 a1 a2 r169)]) (fr := true) (by kernel_rfl) (an (an (ti tt) (an (ti (ti (ti tt))) e171)) (ti tt)) (Wv.refl _)
 | inr r170 =>
  dsimp only at h
  have e172 := (an (ti tt) (VRun.loop hph167))
  injection h with h; subst h
  exact Qn pm pn Try.func58 (r0 := vb true) (ans := [.reg (.n :: []), .reg (nN 3 []), .sub ⟨[(0, none), (1, none), (9, none), (10, none), (11, none)], [], []⟩ (.exit 0) (Wh a0 a1 a2 r170), .reg (.n :: [])]) (fr := true) (by kernel_rfl) (an (an (ti tt) (an (an (ti (ti (ti tt))) e172) (an (ti tt) tt))) (ti tt)) (Wv.refl _)
theorem Q04 (z0 : (List Qo)) : [vi 1, vi 40, VV.tr (List.map vi ([(z0.length : Int)] : List Int)) (([(z0.length : Int)] : List Int).length)] = [vi 1, vi 40, VV.tr [vi (z0.length : Int)] 1] := by first | rfl | (simp only [Qk, map_cons, map_nil, un_i, Jd, length_map, length_cons, length_nil]; done) | (simp only [Qk, map_cons, map_nil, un_i, Jd, length_map, length_cons, length_nil]; rfl) | (simp only [Qk, map_cons, map_nil, un_i, Jd, length_map, length_cons, length_nil, length_cons, length_nil, length_append]; done)
def Jl (k : Nat) (a0 : Int) (a1 : (List Int)) : Option Bool :=
 (Q8 k (w64 (0 - a0)) a0 a1).bind fun r183 => (some r183)
theorem Qbn (k : Nat) (a0 : Int) (a1 : (List Int)) (r : Bool) (h : Jl k a0 a1 = some r) : VC Try.prog 45 [vi a0, VV.tr (List.map vi a1) a1.length] (vb r) := by
 unfold Jl at h
 obtain ⟨r183, h184, h⟩ := bs h
 have e185 := (Zm k (w64 (0 - a0)) a0 a1 _ h184)
 injection h with h; subst h
 exact Qn pm pn Try.func45 (r0 := vb r183) (ans := [.reg (.n :: []), .reg (nN 4 (.call (vb r183) :: .n :: []))]) (fr := true) (by kernel_rfl) (an (an (ti tt) (an (ti (ti (ti (ti (an e185 (ti tt)))))) tt)) (ti tt)) (Wv.refl _)
theorem Q05 (z0 : (List Qo)) (z1 : Int) : [vi 1000000, VV.tr (List.map vi ([(z0.getD z1.toNat default).At, (z0.getD z1.toNat default).Value] : List Int)) (([(z0.getD z1.toNat default).At, (z0.getD z1.toNat default).Value] : List Int).length)] = [vi 1000000, VV.tr [vi ((z0.getD z1.toNat default).At), vi ((z0.getD z1.toNat default).Value)] 2] := by first | rfl | (simp only [Qk, map_cons, map_nil, un_i, Jd, length_map, length_cons, length_nil]; done) | (simp only [Qk, map_cons, map_nil, un_i, Jd, length_map, length_cons, length_nil]; rfl) | (simp only [Qk, map_cons, map_nil, un_i, Jd, length_map, length_cons, length_nil, length_cons, length_nil, length_append]; done)
def Qym (z0 : (List Qo)) (z1 : Int) : List Ans := (nN 10 (.v (vi ((z0.getD (w64 (z1 - 1)).toNat default).At)) :: .n :: .b true :: .n :: []))
def Xg (a0 : (List Qo)) (x12 : Int) : VS := ⟨mkA [(0, VV.tr (flatMap Qi a0) a0.length), (10, VV.tr (flatMap Qi a0) a0.length), (11, vi (a0.length : Int)), (12, vi x12)], [], .nil⟩
def Jj (a0 : (List Qo)) (r : Int) : VS := ⟨mkA [(2, vi r)], [], .nil⟩
def Y2 (a0 : (List Qo)) (r : Unit) : VS := ⟨mkA [], [], .nil⟩
def Zk (k : Nat) (a0 : (List Qo)) : Nat -> Int -> Option (Sum Int Unit)
 | 0, _ => none
 | fuel + 1, x12 => if x12 < (a0.length : Int) then (if 0 <= x12 /\ x12 < (a0.length : Int) then ((Jl k 1000000 ([(a0.getD x12.toNat default).At, (a0.getD x12.toNat default).Value] : List Int)).bind fun r258 => (if r258 = true then (if 0 < x12 then (if 0 <= w64 (x12 - 1) /\ w64 (x12 - 1) < (a0.length : Int) then (if ((a0.getD x12.toNat default).At) <= ((a0.getD (w64 (x12 - 1)).toNat default).At) then (some (.inl 9)) else (Zk k a0 fuel (w64 (x12 + 1)))) else none) else (Zk k a0 fuel (w64 (x12 + 1)))) else (some (.inl 2)))) else none) else (some (.inr ()))
theorem Qdz (k : Nat) (a0 : (List Qo)) : ∀ (fuel : Nat) (x12 : Int) (r : Sum Int Unit), Zk k a0 fuel x12 = some r -> (match r with | .inl r => Y9 none Try.prog (szF Try.f53) (Yb Try.f53 0) (Xg a0 x12) .ret (Jj a0 r) | .inr r => Y9 none Try.prog (szF Try.f53) (Yb Try.f53 0) (Xg a0 x12) (.exit 0) (Y2 a0 r)) := by
 intro fuel
 induction fuel with
 | zero => intro x12 r h; rw [Zk.eq_1] at h; cases h
 | succ fuel ih =>
  intro x12 r h
  rw [Zk.eq_2] at h
  rcases ifs h with ⟨h255, h⟩ | ⟨h255, h⟩
  ·obtain ⟨h256, h⟩ := ifn h
   have e257 := (show Z4 Try.prog 68 (x12.toNat * 2) (flatMap Qi a0) = some (VV.ag (Qi (a0.getD x12.toNat default))) from Qdp ag68 Qi 2 sz68 J3 a0 default h256 (by omega))
   obtain ⟨r258, h259, h⟩ := bs h
   have e260 := (VC.args (Qbn k 1000000 ([(a0.getD x12.toNat default).At, (a0.getD x12.toNat default).Value] : List Int) _ h259) (Q05 a0 x12))
   have e261 := (ti (ti (ti (ti (ti (an e260 (ti (ti tt))))))))
   rcases ifs h with ⟨h262, h⟩ | ⟨h262, h⟩
   ·rcases ifs h with ⟨h263, h⟩ | ⟨h263, h⟩
    ·obtain ⟨h264, h⟩ := ifn h
     have e265 := (an (dt h263) (show Z4 Try.prog 3 ((w64 (x12 - 1)).toNat * 2 + 0) (flatMap Qi a0) = some (vi ((a0.getD (w64 (x12 - 1)).toNat default).At)) from (Qes ag3 Qi 2 0 J3 (by omega) a0 default h264 (by omega)).trans rfl))
     have e266 := (ti (ti (ti (an (an (dt h263) tt) (an (an (dt h263) tt) (an (an (dt h263) tt) (an (an (dt h263) tt) (an (an (dt h263) tt) (an (an (dt h263) h264) (an (an (dt h263) tt) (an e265 (an (an (dt h263) tt) (an (dt h263) (ti tt))))))))))))))
     rcases ifs h with ⟨h267, h⟩ | ⟨h267, h⟩
     ·injection h with h; subst h
      exact Zi (c := ⟨[(2, none)], [], []⟩) (s1 := (Jj a0 9)) pm pn (ans := [.reg (.n :: []), .br true, .reg (.n :: .n :: .v (VV.ag (Qi (a0.getD x12.toNat default))) :: nN 3 []), .reg (nN 4 (.v VV.any :: .call (vb r258) :: .n :: .n :: [])), .br false, .reg (Qym a0 x12), .br true, .reg (.n :: [])]) (by kernel_rfl) (by intro e; cases e) (an (an (ti tt) (an (an (dt h255) tt) (an (ti (an h256 (an e257 (ti (ti (ti tt)))))) (an e261 (an (Qu h262) (an e266 (an (dt h267) (an (ti tt) tt)))))))) (ti tt))
     ·have h2 := ih _ _ h
      obtain ⟨q, hv, hq⟩ := pkR (rd := none) (P := Try.prog) (fn := Try.f53) (k := 0) (s := (Xg a0 x12)) (ans := [.reg (.n :: []), .br true, .reg (.n :: .n :: .v (VV.ag (Qi (a0.getD x12.toNat default))) :: nN 3 []), .reg (nN 4 (.v VV.any :: .call (vb r258) :: .n :: .n :: [])), .br false, .reg (Qym a0 x12), .br false, .reg (.n :: .n :: [])]) (c := ⟨[(0, none), (10, none), (11, none), (12, none)], [], []⟩) (e := .normal) (s1 := (Xg a0 (w64 (x12 + 1)))) (an (an (ti tt) (an (an (dt h255) tt) (an (an (ti (an h256 (an e257 (ti (ti (ti tt)))))) (an e261 (an (Qu h262) (an e266 (an (df h267) tt))))) (ti (ti tt))))) (ti tt)) (by kernel_rfl)
      cases r with
      | inl r => exact Zc pm pn hv hq h2
      | inr r =>
       exact Zc pm pn hv hq h2
    ·have e268 := (ti (ti (ti (an (df h263) (an (df h263) (an (df h263) (an (df h263) (an (df h263) (an (df h263) (an (df h263) (an (df h263) (an (df h263) (an (df h263) (ti tt))))))))))))))
     have h2 := ih _ _ h
     obtain ⟨q, hv, hq⟩ := pkR (rd := none) (P := Try.prog) (fn := Try.f53) (k := 0) (s := (Xg a0 x12)) (ans := [.reg (.n :: []), .br true, .reg (.n :: .n :: .v (VV.ag (Qi (a0.getD x12.toNat default))) :: nN 3 []), .reg (nN 4 (.v VV.any :: .call (vb r258) :: .n :: .n :: [])), .br false, .reg (nN 3 (nS 9 (.b false :: .n :: []))), .br false, .reg (.n :: .n :: [])]) (c := ⟨[(0, none), (10, none), (11, none), (12, none)], [], []⟩) (e := .normal) (s1 := (Xg a0 (w64 (x12 + 1)))) (an (an (ti tt) (an (an (dt h255) tt) (an (an (ti (an h256 (an e257 (ti (ti (ti tt)))))) (an e261 (an (Qu h262) (an e268 (an rf tt))))) (ti (ti tt))))) (ti tt)) (by kernel_rfl)
     cases r with
     | inl r => exact Zc pm pn hv hq h2
     | inr r =>
      exact Zc pm pn hv hq h2
   ·injection h with h; subst h
    exact Zi (c := ⟨[(2, none)], [], []⟩) (s1 := (Jj a0 2)) pm pn (ans := [.reg (.n :: []), .br true, .reg (.n :: .n :: .v (VV.ag (Qi (a0.getD x12.toNat default))) :: nN 3 []), .reg (nN 4 (.v VV.any :: .call (vb r258) :: .n :: .n :: [])), .br true, .reg (.n :: [])]) (by kernel_rfl) (by intro e; cases e) (an (an (ti tt) (an (an (dt h255) tt) (an (ti (an h256 (an e257 (ti (ti (ti tt)))))) (an e261 (an (Zj (Qx h262)) (an (ti tt) tt)))))) (ti tt))
  ·injection h with h; subst h
   exact Zi (c := ⟨[], [], []⟩) (s1 := (Y2 a0 ())) pm pn (ans := [.reg (.n :: []), .br false]) (by kernel_rfl) (by intro e; cases e) (an (an (ti tt) (an (df h255) tt)) (ti tt))
def Yh (k : Nat) (a0 : (List Qo)) : Option Int :=
 (Q8 k 1 40 ([(a0.length : Int)] : List Int)).bind fun r227 => (if r227 = true then ((Zk k a0 k 0).bind fun r270 => (match r270 with | .inl r271 => (some r271) | .inr r272 => (some 0))) else (some 10))
theorem Qcw (k : Nat) (a0 : (List Qo)) (r : Int) (h : Yh k a0 = some r) : VC Try.prog 53 [VV.tr (flatMap Qi a0) a0.length] (vi r) := by
 unfold Yh at h
 obtain ⟨r227, h228, h⟩ := bs h
 have e229 := (VC.args (Zm k 1 40 ([(a0.length : Int)] : List Int) _ h228) (Q04 a0))
 rcases ifs h with ⟨h230, h⟩ | ⟨h230, h⟩
 ·obtain ⟨r270, h269, h⟩ := bs h
  have hph269 := Qdz k a0 _ _ _ h269
  cases r270 with
  | inl r271 =>
   dsimp only at h
   have e273 := (an (ti tt) (VRun.loop hph269))
   injection h with h; subst h
   exact Qn pm pn Try.func53 (r0 := vi r271) (ans := [.reg (.n :: []), .reg (.n :: .n :: .v VV.any :: .call (vb r227) :: .n :: []), .br false, .reg (nN 3 []), .sub ⟨[(0, none), (10, none), (11, none), (12, none)], [], []⟩ .ret (Jj a0 r271)]) (fr := true) (by kernel_rfl) (an (an (ti tt) (an (an (ti (ti (ti (an e229 (ti tt))))) (an (Qu h230) tt)) (an (ti (ti (ti tt))) e273))) (ti tt)) (Wv.refl _)
  | inr r272 =>
   dsimp only at h
   have e274 := (an (ti tt) (VRun.loop hph269))
   injection h with h; subst h
   exact Qn pm pn Try.func53 (r0 := vi 0) (ans := [.reg (.n :: []), .reg (.n :: .n :: .v VV.any :: .call (vb r227) :: .n :: []), .br false, .reg (nN 3 []), .sub ⟨[(0, none), (10, none), (11, none), (12, none)], [], []⟩ (.exit 0) (Y2 a0 r272), .reg (.n :: [])]) (fr := true) (by kernel_rfl) (an (an (ti tt) (an (an (ti (ti (ti (an e229 (ti tt))))) (an (Qu h230) tt)) (an (an (ti (ti (ti tt))) e274) (an (ti tt) tt)))) (ti tt)) (Wv.refl _)
 ·injection h with h; subst h
  exact Qn pm pn Try.func53 (r0 := vi 10) (ans := [.reg (.n :: []), .reg (.n :: .n :: .v VV.any :: .call (vb r227) :: .n :: []), .br true, .reg (.n :: [])]) (fr := true) (by kernel_rfl) (an (an (ti tt) (an (ti (ti (ti (an e229 (ti tt))))) (an (Zj (Qx h230)) (an (ti tt) tt)))) (ti tt)) (Wv.refl _)
def Qco (k : Nat) (a0 : Qo) (q0_0 : Int) : Option Bool :=
 some (decide (q0_0 < a0.At))
theorem Qgm (k : Nat) (a0 : Qo) (q0_0 : Int) (r : Bool) (h : Qco k a0 q0_0 = some r) : VC Try.prog 75 [VV.ag (Qi a0), VV.tp [vi q0_0] 0] (vb r) := by
 unfold Qco at h
 have e279 := (show Z4 Try.prog 3 0 [vi q0_0] = some (vi q0_0) from (Qd9 ag3 rfl))
 injection h with h; subst h
 exact Qn pm pn Try.func75 (r0 := vb (decide (q0_0 < a0.At))) (ans := [.reg (.n :: .n :: []), .reg (.n :: .n :: .v (vi q0_0) :: .n :: .n :: [])]) (fr := true) (by kernel_rfl) (an (an (ti (ti tt)) (an (ti (ti (an e279 (ti (ti tt))))) tt)) (ti tt)) (Wv.refl _)
def Qr (a0 : (List Qo)) (a1 : Int) (x8 : Int) : VS := ⟨mkA [(0, VV.tr (flatMap Qi a0) a0.length), (1, VV.fn 75 [VV.tp [vi a1] 0]), (7, vi (a0.length : Int)), (8, vi x8)], [], .nil⟩
def Qz (a0 : (List Qo)) (a1 : Int) (r : Int) : VS := ⟨mkA [(4, vi r)], [], .nil⟩
def Q5 (a0 : (List Qo)) (a1 : Int) (r : Unit) : VS := ⟨mkA [], [], .nil⟩
def Qg (k : Nat) (a0 : (List Qo)) (a1 : Int) : Nat -> Int -> Option (Sum Int Unit)
 | 0, _ => none
 | fuel + 1, x8 => if x8 < (a0.length : Int) then (if 0 <= x8 /\ x8 < (a0.length : Int) then ((Qco k (a0.getD x8.toNat default) a1).bind fun r326 => (if r326 = true then (some (.inl x8)) else (Qg k a0 a1 fuel (w64 (x8 + 1))))) else none) else (some (.inr ()))
theorem Xv (k : Nat) (a0 : (List Qo)) (a1 : Int) : ∀ (fuel : Nat) (x8 : Int) (r : Sum Int Unit), Qg k a0 a1 fuel x8 = some r -> (match r with | .inl r => Y9 none Try.prog (szF Try.f74) (Yb Try.f74 0) (Qr a0 a1 x8) .ret (Qz a0 a1 r) | .inr r => Y9 none Try.prog (szF Try.f74) (Yb Try.f74 0) (Qr a0 a1 x8) (.exit 0) (Q5 a0 a1 r)) := by
 intro fuel
 induction fuel with
 | zero => intro x8 r h; rw [Qg.eq_1] at h; cases h
 | succ fuel ih =>
  intro x8 r h
  rw [Qg.eq_2] at h
  rcases ifs h with ⟨h323, h⟩ | ⟨h323, h⟩
  ·obtain ⟨h324, h⟩ := ifn h
   have e325 := (show Z4 Try.prog 68 (x8.toNat * 2) (flatMap Qi a0) = some (VV.ag (Qi (a0.getD x8.toNat default))) from Qdp ag68 Qi 2 sz68 J3 a0 default h324 (by omega))
   obtain ⟨r326, h327, h⟩ := bs h
   have e328 := (Qgm k (a0.getD x8.toNat default) a1 _ h327)
   have e329 := (ti (ti (ti (an h324 (an e325 (an e328 tt))))))
   rcases ifs h with ⟨h330, h⟩ | ⟨h330, h⟩
   ·injection h with h; subst h
    exact Zi (c := ⟨[(4, none)], [], []⟩) (s1 := (Qz a0 a1 x8)) pm pn (ans := [.reg (.n :: []), .br true, .reg (.n :: .n :: []), .reg (nN 4 (.v (VV.ag (Qi (a0.getD x8.toNat default))) :: .call (vb r326) :: [])), .br true, .reg (.n :: .n :: [])]) (by kernel_rfl) (by intro e; cases e) (an (an (ti tt) (an (an (dt h323) tt) (an (ti (ti tt)) (an e329 (an h330 (an (ti (ti tt)) tt)))))) (ti tt))
   ·have h2 := ih _ _ h
    obtain ⟨q, hv, hq⟩ := pkR (rd := none) (P := Try.prog) (fn := Try.f74) (k := 0) (s := (Qr a0 a1 x8)) (ans := [.reg (.n :: []), .br true, .reg (.n :: .n :: []), .reg (nN 4 (.v (VV.ag (Qi (a0.getD x8.toNat default))) :: .call (vb r326) :: [])), .br false, .reg (.n :: .n :: [])]) (c := ⟨[(0, none), (1, none), (7, none), (8, none)], [], []⟩) (e := .normal) (s1 := (Qr a0 a1 (w64 (x8 + 1)))) (an (an (ti tt) (an (an (dt h323) tt) (an (an (ti (ti tt)) (an e329 (an (Qx h330) tt))) (ti (ti tt))))) (ti tt)) (by kernel_rfl)
    cases r with
    | inl r => exact Zc pm pn hv hq h2
    | inr r =>
     exact Zc pm pn hv hq h2
  ·injection h with h; subst h
   exact Zi (c := ⟨[], [], []⟩) (s1 := (Q5 a0 a1 ())) pm pn (ans := [.reg (.n :: []), .br false]) (by kernel_rfl) (by intro e; cases e) (an (an (ti tt) (an (df h323) tt)) (ti tt))
def Qp (k : Nat) (a0 : (List Qo)) (a1 : Int) : Option Int :=
 (Qg k a0 a1 k 0).bind fun r332 => (match r332 with | .inl r333 => (some r333) | .inr r334 => (some (-1)))
theorem X8 (k : Nat) (a0 : (List Qo)) (a1 : Int) (r : Int) (h : Qp k a0 a1 = some r) : VC Try.prog 74 [VV.tr (flatMap Qi a0) a0.length, VV.fn 75 [VV.tp [vi a1] 0]] (vi r) := by
 unfold Qp at h
 obtain ⟨r332, h331, h⟩ := bs h
 have hph331 := Xv k a0 a1 _ _ _ h331
 cases r332 with
 | inl r333 =>
  dsimp only at h
  have e335 := (an (ti tt) (VRun.loop hph331))
  injection h with h; subst h
  exact Qn pm pn Try.func74 (r0 := vi r333) (ans := [.reg (.n :: []), .reg (nN 3 []), .sub ⟨[(0, none), (1, none), (7, none), (8, none)], [], []⟩ .ret (Qz a0 a1 r333)]) (fr := true) (by kernel_rfl) (an (an (ti tt) (an (ti (ti (ti tt))) e335)) (ti tt)) (Wv.refl _)
 | inr r334 =>
  dsimp only at h
  have e336 := (an (ti tt) (VRun.loop hph331))
  injection h with h; subst h
  exact Qn pm pn Try.func74 (r0 := vi (-1)) (ans := [.reg (.n :: []), .reg (nN 3 []), .sub ⟨[(0, none), (1, none), (7, none), (8, none)], [], []⟩ (.exit 0) (Q5 a0 a1 r334), .reg (.n :: [])]) (fr := true) (by kernel_rfl) (an (an (ti tt) (an (an (ti (ti (ti tt))) e336) (an (ti tt) tt))) (ti tt)) (Wv.refl _)
def Qap (k : Nat) (a0 : Int) (a1 : Int) : Option Int :=
 if a1 ≠ 0 then (if (a0.tmod a1) < 0 then (some (w64 ((w64 (a0.tdiv a1)) - 1))) else (some (w64 (a0.tdiv a1)))) else none
theorem Qd0 (k : Nat) (a0 : Int) (a1 : Int) (r : Int) (h : Qap k a0 a1 = some r) : VC Try.prog 73 [vi a0, vi a1] (vi r) := by
 unfold Qap at h
 obtain ⟨h355, h⟩ := ifn h
 rcases ifs h with ⟨h356, h⟩ | ⟨h356, h⟩
 ·injection h with h; subst h
  exact Qn pm pn Try.func73 (r0 := vi (w64 ((w64 (a0.tdiv a1)) - 1))) (ans := [.reg (.n :: []), .reg (nN 4 []), .br true, .reg (nN 5 [])]) (fr := true) (by kernel_rfl) (an (an (ti tt) (an (ti (ti (an h355 (ti tt)))) (an (dt h356) (an (ti (ti (an h355 (ti (ti tt))))) tt)))) (ti tt)) (Wv.refl _)
 ·injection h with h; subst h
  exact Qn pm pn Try.func73 (r0 := vi (w64 (a0.tdiv a1))) (ans := [.reg (.n :: []), .reg (nN 4 []), .br false, .reg (nN 4 [])]) (fr := true) (by kernel_rfl) (an (an (ti tt) (an (an (ti (ti (an h355 (ti tt)))) (an (df h356) tt)) (an (ti (ti (an h355 (ti tt)))) tt))) (ti tt)) (Wv.refl _)
def Q06 (z0 : (List Qo)) : List Ans := (nN 6 (.v (vi ((z0.getD (w64 ((z0.length : Int) - 1)).toNat default).Value)) :: .n :: []))
def Q07 (z0 : (List Qo)) (z1 : Int) : List Ans := (nN 4 (.v (VV.ag (Qi (z0.getD (w64 (z1 - 1)).toNat default))) :: nN 3 (.v (VV.ag (Qi (z0.getD z1.toNat default))) :: nN 4 [])))
def Qaf (k : Nat) (a0 : (List Qo)) (a1 : Int) : Option Int :=
 (Qp k a0 a1).bind fun r361 => (if r361 = (-1) then (if 0 <= w64 ((a0.length : Int) - 1) /\ w64 ((a0.length : Int) - 1) < (a0.length : Int) then (some ((a0.getD (w64 ((a0.length : Int) - 1)).toNat default).Value)) else none) else (if r361 = 0 then (if (0 : Int) <= 0 /\ 0 < (a0.length : Int) then (some ((a0.getD ((0 : Int)).toNat default).Value)) else none) else (if 0 <= w64 (r361 - 1) /\ w64 (r361 - 1) < (a0.length : Int) then (if 0 <= r361 /\ r361 < (a0.length : Int) then ((Qap k (w64 ((w64 (((a0.getD r361.toNat default).Value) - ((a0.getD (w64 (r361 - 1)).toNat default).Value))) * (w64 (a1 - ((a0.getD (w64 (r361 - 1)).toNat default).At))))) (w64 (((a0.getD r361.toNat default).At) - ((a0.getD (w64 (r361 - 1)).toNat default).At)))).bind fun r377 => (some (w64 (((a0.getD (w64 (r361 - 1)).toNat default).Value) + r377)))) else none) else none)))
theorem Qeh (k : Nat) (a0 : (List Qo)) (a1 : Int) (r : Int) (h : Qaf k a0 a1 = some r) : VC Try.prog 54 [VV.tr (flatMap Qi a0) a0.length, vi a1] (vi r) := by
 unfold Qaf at h
 obtain ⟨r361, h362, h⟩ := bs h
 have e363 := (X8 k a0 a1 _ h362)
 rcases ifs h with ⟨h364, h⟩ | ⟨h364, h⟩
 ·obtain ⟨h365, h⟩ := ifn h
  have e366 := (show Z4 Try.prog 3 ((w64 ((a0.length : Int) - 1)).toNat * 2 + 1) (flatMap Qi a0) = some (vi ((a0.getD (w64 ((a0.length : Int) - 1)).toNat default).Value)) from (Qes ag3 Qi 2 1 J3 (by omega) a0 default h365 (by omega)).trans rfl)
  have e367 := (ti (ti (ti (ti (an h365 (ti (an e366 (ti tt))))))))
  injection h with h; subst h
  exact Qn pm pn Try.func54 (r0 := vi ((a0.getD (w64 ((a0.length : Int) - 1)).toNat default).Value)) (ans := [.reg (.n :: .n :: []), .frz 0, .reg (.n :: .n :: .call (vi r361) :: .n :: []), .reg (.n :: []), .reg (.n :: .n :: []), .br true, .reg (Q06 a0)]) (fr := true) (by kernel_rfl) (an (an (ti (ti tt)) (an (ti (ti (an e363 (ti tt)))) (an (ti tt) (an (ti (ti tt)) (an (dt h364) (an e367 tt)))))) (ti tt)) (Wv.refl _)
 ·rcases ifs h with ⟨h368, h⟩ | ⟨h368, h⟩
  ·obtain ⟨h369, h⟩ := ifn h
   have e370 := (show Z4 Try.prog 3 (((0 : Int)).toNat * 2 + 1) (flatMap Qi a0) = some (vi ((a0.getD ((0 : Int)).toNat default).Value)) from (Qes ag3 Qi 2 1 J3 (by omega) a0 default h369 (by omega)).trans rfl)
   injection h with h; subst h
   exact Qn pm pn Try.func54 (r0 := vi ((a0.getD ((0 : Int)).toNat default).Value)) (ans := [.reg (.n :: .n :: []), .frz 0, .reg (.n :: .n :: .call (vi r361) :: .n :: []), .reg (.n :: []), .reg (.n :: .n :: []), .br false, .reg (.n :: .n :: []), .br true, .reg (nN 3 (.v (vi ((a0.getD ((0 : Int)).toNat default).Value)) :: .n :: []))]) (fr := true) (by kernel_rfl) (an (an (ti (ti tt)) (an (ti (ti (an e363 (ti tt)))) (an (ti tt) (an (ti (ti tt)) (an (df h364) (an (ti (ti tt)) (an (dt h368) (an (ti (an h369 (ti (an e370 (ti tt))))) tt)))))))) (ti tt)) (Wv.refl _)
  ·obtain ⟨h371, h⟩ := ifn h
   have e372 := (show Z4 Try.prog 68 ((w64 (r361 - 1)).toNat * 2) (flatMap Qi a0) = some (VV.ag (Qi (a0.getD (w64 (r361 - 1)).toNat default))) from Qdp ag68 Qi 2 sz68 J3 a0 default h371 (by omega))
   obtain ⟨h373, h⟩ := ifn h
   have e374 := (show Z4 Try.prog 68 (r361.toNat * 2) (flatMap Qi a0) = some (VV.ag (Qi (a0.getD r361.toNat default))) from Qdp ag68 Qi 2 sz68 J3 a0 default h373 (by omega))
   have e375 := (ti (ti (ti (an h371 (an e372 (ti (ti (an h373 (an e374 (ti (ti (ti (ti tt)))))))))))))
   have e376 := (show Z4 Try.prog 3 0 [vi a1] = some (vi a1) from (Qd9 ag3 rfl))
   obtain ⟨r377, h378, h⟩ := bs h
   have e379 := (Qd0 k (w64 ((w64 (((a0.getD r361.toNat default).Value) - ((a0.getD (w64 (r361 - 1)).toNat default).Value))) * (w64 (a1 - ((a0.getD (w64 (r361 - 1)).toNat default).At))))) (w64 (((a0.getD r361.toNat default).At) - ((a0.getD (w64 (r361 - 1)).toNat default).At))) _ h378)
   have e380 := (ti (ti (ti (ti (ti (ti (ti (an e376 (ti (ti (ti (ti (ti (ti (ti (ti (ti (an e379 (ti (ti tt))))))))))))))))))))
   injection h with h; subst h
   exact Qn pm pn Try.func54 (r0 := vi (w64 (((a0.getD (w64 (r361 - 1)).toNat default).Value) + r377))) (ans := [.reg (.n :: .n :: []), .frz 0, .reg (.n :: .n :: .call (vi r361) :: .n :: []), .reg (.n :: []), .reg (.n :: .n :: []), .br false, .reg (.n :: .n :: []), .br false, .reg (Q07 a0 r361), .reg (nN 7 (.v (vi a1) :: nN 9 (.call (vi r377) :: .n :: .n :: [])))]) (fr := true) (by kernel_rfl) (an (an (ti (ti tt)) (an (ti (ti (an e363 (ti tt)))) (an (an (ti tt) (an (ti (ti tt)) (an (df h364) (an (ti (ti tt)) (an (df h368) tt))))) (an e375 (an e380 tt))))) (ti tt)) (Wv.refl _)
def Xo (k : Nat) (a0 : Int) (a1 : Int) (a2 : Int) : Option Bool :=
 if a1 <= a0 then (some (decide (a0 <= a2))) else (some false)
theorem Wn (k : Nat) (a0 : Int) (a1 : Int) (a2 : Int) (r : Bool) (h : Xo k a0 a1 a2 = some r) : VC Try.prog 16 [vi a0, vi a1, vi a2] (vb r) := by
 unfold Xo at h
 rcases ifs h with ⟨h406, h⟩ | ⟨h406, h⟩
 ·have e407 := (ti (ti (ti (ti (an (an (dt h406) tt) (an (an (dt h406) tt) (an (an (dt h406) tt) (an (dt h406) (ti tt)))))))))
  injection h with h; subst h
  exact Qn pm pn Try.func16 (r0 := vb (decide (a0 <= a2))) (ans := [.reg (.n :: []), .reg (nN 7 (.b true :: .n :: []))]) (fr := true) (by kernel_rfl) (an (an (ti tt) (an e407 tt)) (ti tt)) (Wv.refl _)
 ·have e408 := (ti (ti (ti (ti (an (df h406) (an (df h406) (an (df h406) (an (df h406) (ti tt)))))))))
  injection h with h; subst h
  exact Qn pm pn Try.func16 (r0 := vb false) (ans := [.reg (.n :: []), .reg (nN 4 (nS 3 (.b false :: .n :: [])))]) (fr := true) (by kernel_rfl) (an (an (ti tt) (an e408 tt)) (ti tt)) (Wv.refl _)
def Wq (k : Nat) (a0 : Int) (a1 : Int) : Option Int :=
 if a1 ≠ 0 then (if (a0.tmod a1) < 0 then (some (w64 ((w64 (a0.tdiv a1)) - 1))) else (some (w64 (a0.tdiv a1)))) else none
theorem Qe4 (k : Nat) (a0 : Int) (a1 : Int) (r : Int) (h : Wq k a0 a1 = some r) : VC Try.prog 19 [vi a0, vi a1] (vi r) := by
 unfold Wq at h
 obtain ⟨h564, h⟩ := ifn h
 rcases ifs h with ⟨h565, h⟩ | ⟨h565, h⟩
 ·injection h with h; subst h
  exact Qn pm pn Try.func19 (r0 := vi (w64 ((w64 (a0.tdiv a1)) - 1))) (ans := [.reg (.n :: []), .reg (nN 4 []), .reg (nN 4 []), .br true, .reg (nN 3 []), .reg (.n :: .n :: [])]) (fr := true) (by kernel_rfl) (an (an (ti tt) (an (ti (ti (an h564 (ti tt)))) (an (an (ti (ti (an h564 (ti tt)))) (an (dt h565) (ti (ti (ti tt))))) (an (ti (ti tt)) tt)))) (ti tt)) (Wv.refl _)
 ·injection h with h; subst h
  exact Qn pm pn Try.func19 (r0 := vi (w64 (a0.tdiv a1))) (ans := [.reg (.n :: []), .reg (nN 4 []), .reg (nN 4 []), .br false, .reg (.n :: .n :: [])]) (fr := true) (by kernel_rfl) (an (an (ti tt) (an (ti (ti (an h564 (ti tt)))) (an (an (ti (ti (an h564 (ti tt)))) (an (df h565) tt)) (an (ti (ti tt)) tt)))) (ti tt)) (Wv.refl _)
end Go.Proofs.Ytjomicmhnbmhoaa.Vg

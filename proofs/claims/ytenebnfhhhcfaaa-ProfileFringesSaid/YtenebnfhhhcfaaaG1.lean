import Derived.Test.YtenebnfhhhcfaaaAQ
namespace Go.Proofs.Ytenebnfhhhcfaaa.Vg
set_option maxRecDepth 100000
set_option maxHeartbeats 4000000
set_option linter.unusedVariables false
set_option linter.unusedSimpArgs false
open Go Go.Proofs.Ytenebnfhhhcfaaa.Ev Go.Proofs.Ytenebnfhhhcfaaa.Vv
open List (flatMap length_cons length_nil length_map length_append map_cons map_nil length_replicate)
structure Qb where
 Width : Int
 Phases : (List Int)
 deriving Inhabited
def Qe (x : Qb) : List VV := [vi x.Width, VV.tr (List.map vi x.Phases) x.Phases.length]
def Zc (x : Qb) : List VV := [vi x.Width, VV.fr (List.map vi x.Phases) x.Phases.length]
theorem Q5 (xs : List Qb) : (xs.flatMap Qe).map unfr = xs.flatMap Qe := Qbm (fun _ => rfl) xs
theorem Zf (xs : List Qb) : (xs.flatMap Zc).map unfr = xs.flatMap Qe := Qbm (fun _ => rfl) xs
theorem ag3 : Y2 Try.prog 3 = some false := by kernel_rfl
def X7 (k : Nat) (a0 : Qb) : Option Bool :=
 if (a0.Phases.length : Int) <= 36 then (some true) else (if 144 < (a0.Phases.length : Int) then (some (decide ((a0.Phases.length : Int) <= 160))) else (some false))
theorem Qb4 (k : Nat) (a0 : Qb) (r : Bool) (h : X7 k a0 = some r) : VC Try.prog 5 [VV.ag (Qe a0)] (vb r) := by
 unfold X7 at h
 rcases ifs h with ⟨h108, h⟩ | ⟨h108, h⟩
 ·have e109 := (t5 (u5 (dt h108) (t4 (u2 (dt h108) (ti tt)))))
  injection h with h; subst h
  exact Qq pm pn Try.func5 (r0 := vb true) (ans := [.reg (.n :: .n :: []), .reg (nN 5 (nS 10 (.b true :: .n :: [])))]) (fr := true) (by kernel_rfl) (an (an (t2 tt) (an e109 tt)) (ti tt)) (Wv.refl _)
 ·rcases ifs h with ⟨h110, h⟩ | ⟨h110, h⟩
  ·have e111 := (an (df h108) (dt h110))
   have e112 := (t5 (u5 (tf h108) (u4 (te h110) (an e111 (an (df h108) (ti tt))))))
   injection h with h; subst h
   exact Qq pm pn Try.func5 (r0 := vb (decide ((a0.Phases.length : Int) <= 160))) (ans := [.reg (.n :: .n :: []), .reg (nN 14 (.b true :: .b false :: .n :: []))]) (fr := true) (by kernel_rfl) (an (an (t2 tt) (an e112 tt)) (ti tt)) (Wv.refl _)
  ·have e113 := (an (df h108) (df h110))
   have e114 := (t5 (u5 (tf h108) (u4 (df h110) (an e113 (an (df h108) (ti tt))))))
   injection h with h; subst h
   exact Qq pm pn Try.func5 (r0 := vb false) (ans := [.reg (.n :: .n :: []), .reg (nN 10 (nS 4 (.b false :: .b false :: .n :: [])))]) (fr := true) (by kernel_rfl) (an (an (t2 tt) (an e114 tt)) (ti tt)) (Wv.refl _)
def Jf (k : Nat) (a0 : (List Int)) : Option (List Int) :=
 if ([] : List Int).length + a0.length <= 1000000000 then (some (([] : List Int) ++ a0)) else none
theorem Qbc (k : Nat) (a0 : (List Int)) (r : (List Int)) (h : Jf k a0 = some r) : VC Try.prog 24 [VV.tr (List.map vi a0) a0.length] (VV.fw 1 (List.map vi r) r.length) := by
 unfold Jf at h
 obtain ⟨h117, h⟩ := ifn h
 have e118 := (show List.length [] = 0 * 1 /\ List.length (List.map vi a0) = a0.length * 1 /\ (0 + a0.length) * 8 <= 140737488355328 /\ 0 + a0.length < 1099511627776 /\ List.all (List.map vi a0) VV.still = true from ⟨(by rw [show [] = List.map vi ([] : List Int) from rfl]; simp), (by simp), (by first | omega | (simp at h117 ⊢; omega)), (by first | omega | (simp at h117 ⊢; omega)), (by exact Qr5 _)⟩)
 injection h with h; subst h
 exact Qq pm pn Try.func24 (r0 := VV.fw 1 (List.drop 0 (List.map unfr ([] ++ (List.map vi a0)))) (0 + a0.length)) (ans := [.reg (.n :: []), .reg (nN 4 [])]) (fr := true) (by kernel_rfl) (an (an (ti tt) (an (t2 (an e118 (ti tt))) tt)) (an (show List.all ([] ++ (List.map vi a0)) new0 = true from (by rw [show [] ++ (List.map vi a0) = List.map vi (([] : List Int) ++ a0) from (by rw [show [] = List.map vi ([] : List Int) from rfl]; exact List.map_append.symm)]; exact Qly _)) tt)) (Wv.of_eq (by first | (simp only [show [] ++ (List.map vi a0) = List.map vi (([] : List Int) ++ a0) from (by rw [show [] = List.map vi ([] : List Int) from rfl]; exact List.map_append.symm), Qcl, Xc, Qcw, Qcx, map_cons, map_nil, un_i, un_k, un_b, un_s, Qck, Qgk, length_map, length_replicate, length_append, List.length_set, length_cons, length_nil, Nat.zero_add, Q5, Zf]; done) | (simp only [show [] ++ (List.map vi a0) = List.map vi (([] : List Int) ++ a0) from (by rw [show [] = List.map vi ([] : List Int) from rfl]; exact List.map_append.symm), Qcl, Xc, Qcw, Qcx, map_cons, map_nil, un_i, un_k, un_b, un_s, Qck, Qgk, length_map, length_replicate, length_append, List.length_set, length_cons, length_nil, Nat.zero_add, Q5, Zf]; rfl)))
theorem Qu3 (z0 : Qb) (z1 : (List Int)) : VV.ag [vi z0.Width, VV.fr (List.map vi z1) z1.length] = VV.ag (Zc (⟨z0.Width, z1⟩ : Qb)) := by first | rfl | (simp only [Xc, map_cons, map_nil, un_i, Qgk, length_map, length_cons, length_nil, Zf]; done) | (simp only [Xc, map_cons, map_nil, un_i, Qgk, length_map, length_cons, length_nil, Zf]; rfl) | (simp only [Xc, map_cons, map_nil, un_i, Qgk, length_map, length_cons, length_nil, Zf, Zc, length_cons, length_nil, length_append]; done)
def Xv (k : Nat) (a0 : Qb) : Option Qb :=
 (Jf k a0.Phases).bind fun r122 => (some (⟨a0.Width, r122⟩ : Qb))
theorem X3 (k : Nat) (a0 : Qb) (r : Qb) (h : Xv k a0 = some r) : VC Try.prog 7 [VV.ag (Qe a0)] (VV.ag (Zc r)) := by
 unfold Xv at h
 obtain ⟨r122, h123, h⟩ := bs h
 have e124 := (show VC Try.prog 24 [VV.tr (List.map vi a0.Phases) a0.Phases.length] (VV.fr (List.map vi r122) r122.length) from (VC.weak (Qbc k a0.Phases _ h123) (Wv.fw rfl rfl)))
 injection h with h; subst h
 exact Qq pm pn Try.func7 (r0 := VV.ag [vi a0.Width, VV.fr (List.map vi r122) r122.length]) (ans := [.reg (.n :: .n :: []), .reg (nN 4 (.call (VV.fr (List.map vi r122) r122.length) :: .n :: .n :: []))]) (fr := true) (by kernel_rfl) (an (an (t2 tt) (an (t4 (an e124 (t2 tt))) tt)) (an (t3 tt) tt)) (Wv.of_eq (Qu3 a0 r122))
def Z8 (k : Nat) (a0 : Int) (a1 : Int) (a2 : Int) : Option Bool :=
 if a1 <= a0 then (some (decide (a0 <= a2))) else (some false)
theorem Jo (k : Nat) (a0 : Int) (a1 : Int) (a2 : Int) (r : Bool) (h : Z8 k a0 a1 a2 = some r) : VC Try.prog 28 [vi a0, vi a1, vi a2] (vb r) := by
 unfold Z8 at h
 rcases ifs h with ⟨h128, h⟩ | ⟨h128, h⟩
 ·have e129 := (t4 (u3 (te h128) (an (dt h128) (ti tt))))
  injection h with h; subst h
  exact Qq pm pn Try.func28 (r0 := vb (decide (a0 <= a2))) (ans := [.reg (.n :: []), .reg (nN 7 (.b true :: .n :: []))]) (fr := true) (by kernel_rfl) (an (an (ti tt) (an e129 tt)) (ti tt)) (Wv.refl _)
 ·have e130 := (t4 (u4 (df h128) (ti tt)))
  injection h with h; subst h
  exact Qq pm pn Try.func28 (r0 := vb false) (ans := [.reg (.n :: []), .reg (nN 4 (nS 3 (.b false :: .n :: [])))]) (fr := true) (by kernel_rfl) (an (an (ti tt) (an e130 tt)) (ti tt)) (Wv.refl _)
def Xa (a0 : Qb) (x29 : Int) : VS := ⟨mkA [(27, VV.tr (List.map vi a0.Phases) a0.Phases.length), (28, vi (a0.Phases.length : Int)), (29, vi x29)], [], .nil⟩
def X5 (a0 : Qb) (r : Unit) : VS := ⟨mkA [(2, vi 2)], [], .nil⟩
def X6 (a0 : Qb) (r : Unit) : VS := ⟨mkA [], [], .nil⟩
def Qw (k : Nat) (a0 : Qb) : Nat -> Int -> Option (Sum Unit Unit)
 | 0, _ => none
 | fuel + 1, x29 => if x29 < (a0.Phases.length : Int) then (if 0 <= x29 /\ x29 < (a0.Phases.length : Int) then ((Z8 k (a0.Phases.getD x29.toNat 0) (-1) 999).bind fun r210 => (if r210 = true then (Qw k a0 fuel (w64 (x29 + 1))) else (some (.inl ())))) else none) else (some (.inr ()))
theorem Qab (k : Nat) (a0 : Qb) : ∀ (fuel : Nat) (x29 : Int) (r : Sum Unit Unit), Qw k a0 fuel x29 = some r -> (match r with | .inl r => Yo none Try.prog (szF Try.f10) (Yr Try.f10 0) (Xa a0 x29) .ret (X5 a0 r) | .inr r => Yo none Try.prog (szF Try.f10) (Yr Try.f10 0) (Xa a0 x29) (.exit 0) (X6 a0 r)) := by
 intro fuel
 induction fuel with
 | zero => intro x29 r h; rw [Qw.eq_1] at h; cases h
 | succ fuel ih =>
  intro x29 r h
  rw [Qw.eq_2] at h
  rcases ifs h with ⟨h207, h⟩ | ⟨h207, h⟩
  ·obtain ⟨h208, h⟩ := ifn h
   have e209 := (show Jz Try.prog 3 (x29.toNat * 1) (List.map vi a0.Phases) = some (vi (a0.Phases.getD x29.toNat 0)) from Qa3 ag3 vi a0.Phases 0 h208 (by omega))
   obtain ⟨r210, h211, h⟩ := bs h
   have e212 := (Jo k (a0.Phases.getD x29.toNat 0) (-1) 999 _ h211)
   rcases ifs h with ⟨h213, h⟩ | ⟨h213, h⟩
   ·have h2 := ih _ _ h
    obtain ⟨q, hv, hq⟩ := pkR (rd := none) (P := Try.prog) (fn := Try.f10) (k := 0) (s := (Xa a0 x29)) (ans := [.reg (.n :: []), .br true, .reg (.n :: .v (vi (a0.Phases.getD x29.toNat 0)) :: .n :: []), .reg (.n :: .call (vb r210) :: .n :: []), .br false, .reg (.n :: .n :: [])]) (c := ⟨[(27, none), (28, none), (29, none)], [], []⟩) (e := .normal) (s1 := (Xa a0 (w64 (x29 + 1)))) (an (an (ti tt) (an (te h207) (an (an (an h208 (an e209 (ti tt))) (an (ti (an e212 (ti tt))) (an (Qo h213) tt))) (t2 tt)))) (ti tt)) (by kernel_rfl)
    cases r with
    | inl r => exact Zp pm pn hv hq h2
    | inr r =>
     exact Zp pm pn hv hq h2
   ·injection h with h; subst h
    exact Xz (c := ⟨[(2, none)], [], []⟩) (s1 := (X5 a0 ())) pm pn (ans := [.reg (.n :: []), .br true, .reg (.n :: .v (vi (a0.Phases.getD x29.toNat 0)) :: .n :: []), .reg (.n :: .call (vb r210) :: .n :: []), .br true, .reg (.n :: [])]) (by kernel_rfl) (by intro e; cases e) (an (an (ti tt) (an (te h207) (an (an h208 (an e209 (ti tt))) (an (ti (an e212 (ti tt))) (an (Zl (Zb h213)) (an (ti tt) tt)))))) (ti tt))
  ·injection h with h; subst h
   exact Xz (c := ⟨[], [], []⟩) (s1 := (X6 a0 ())) pm pn (ans := [.reg (.n :: []), .br false]) (by kernel_rfl) (by intro e; cases e) (an (an (ti tt) (tf h207)) (ti tt))
def Z7 (k : Nat) (a0 : Qb) : Option Int :=
 (Z8 k a0.Width 1 12).bind fun r176 => (if r176 = true then (if a0.Width ≠ 0 then (if ((a0.Phases.length : Int).tmod a0.Width) = 0 then ((Z8 k (w64 ((a0.Phases.length : Int).tdiv a0.Width)) 1 12).bind fun r187 => (if r187 = true then ((Qw k a0 k 0).bind fun r215 => (match r215 with | .inl r216 => (some 2) | .inr r217 => (some 0))) else (some 10))) else (some 10)) else none) else (some 2))
theorem Yl (k : Nat) (a0 : Qb) (r : Int) (h : Z7 k a0 = some r) : VC Try.prog 10 [VV.ag (Qe a0)] (vi r) := by
 unfold Z7 at h
 obtain ⟨r176, h177, h⟩ := bs h
 have e178 := (Jo k a0.Width 1 12 _ h177)
 rcases ifs h with ⟨h179, h⟩ | ⟨h179, h⟩
 ·obtain ⟨h180, h⟩ := ifn h
  rcases ifs h with ⟨h181, h⟩ | ⟨h181, h⟩
  ·have e182 := (ta h181)
   obtain ⟨r187, h188, h⟩ := bs h
   have e189 := (an (tc h181) (Jo k (w64 ((a0.Phases.length : Int).tdiv a0.Width)) 1 12 _ h188))
   have e191 := (t5 (an h180 (t2 (u5 e182 (an (an (tc h181) h180) (an e189 (an e182 (ta h181))))))))
   rcases ifs h with ⟨h192, h⟩ | ⟨h192, h⟩
   ·obtain ⟨r215, h214, h⟩ := bs h
    have hph214 := Qab k a0 _ _ _ h214
    cases r215 with
    | inl r216 =>
     dsimp only at h
     have e218 := (an (ti tt) (VRun.loop hph214))
     injection h with h; subst h
     exact Qq pm pn Try.func10 (r0 := vi 2) (ans := [.reg (.n :: .n :: []), .reg (.n :: .n :: .call (vb r176) :: .n :: []), .br false, .reg (nN 14 (.call (vb r187) :: .n :: .b false :: [])), .br false, .reg (nN 4 []), .sub ⟨[(27, none), (28, none), (29, none)], [], []⟩ .ret (X5 a0 r216)]) (fr := true) (by kernel_rfl) (an (an (t2 tt) (an (an (t2 (an e178 (ti tt))) (an (Qo h179) tt)) (an (an e191 (an (Qo h192) tt)) (an (t4 tt) e218)))) (ti tt)) (Wv.refl _)
    | inr r217 =>
     dsimp only at h
     have e219 := (an (ti tt) (VRun.loop hph214))
     injection h with h; subst h
     exact Qq pm pn Try.func10 (r0 := vi 0) (ans := [.reg (.n :: .n :: []), .reg (.n :: .n :: .call (vb r176) :: .n :: []), .br false, .reg (nN 14 (.call (vb r187) :: .n :: .b false :: [])), .br false, .reg (nN 4 []), .sub ⟨[(27, none), (28, none), (29, none)], [], []⟩ (.exit 0) (X6 a0 r217), .reg (.n :: [])]) (fr := true) (by kernel_rfl) (an (an (t2 tt) (an (an (t2 (an e178 (ti tt))) (an (Qo h179) tt)) (an (an e191 (an (Qo h192) tt)) (an (an (t4 tt) e219) (an (ti tt) tt))))) (ti tt)) (Wv.refl _)
   ·injection h with h; subst h
    exact Qq pm pn Try.func10 (r0 := vi 10) (ans := [.reg (.n :: .n :: []), .reg (.n :: .n :: .call (vb r176) :: .n :: []), .br false, .reg (nN 14 (.call (vb r187) :: .n :: .b false :: [])), .br true, .reg (.n :: [])]) (fr := true) (by kernel_rfl) (an (an (t2 tt) (an (an (t2 (an e178 (ti tt))) (an (Qo h179) tt)) (an e191 (an (Zl (Zb h192)) (an (ti tt) tt))))) (ti tt)) (Wv.refl _)
  ·have e220 := (t5 (an h180 (t2 (u8 (td h181) (tb h181)))))
   injection h with h; subst h
   exact Qq pm pn Try.func10 (r0 := vi 10) (ans := [.reg (.n :: .n :: []), .reg (.n :: .n :: .call (vb r176) :: .n :: []), .br false, .reg (nN 8 (nS 8 (.b true :: []))), .br true, .reg (.n :: [])]) (fr := true) (by kernel_rfl) (an (an (t2 tt) (an (an (t2 (an e178 (ti tt))) (an (Qo h179) tt)) (an e220 (an rt (an (ti tt) tt))))) (ti tt)) (Wv.refl _)
 ·injection h with h; subst h
  exact Qq pm pn Try.func10 (r0 := vi 2) (ans := [.reg (.n :: .n :: []), .reg (.n :: .n :: .call (vb r176) :: .n :: []), .br true, .reg (.n :: [])]) (fr := true) (by kernel_rfl) (an (an (t2 tt) (an (t2 (an e178 (ti tt))) (an (Zl (Zb h179)) (an (ti tt) tt)))) (ti tt)) (Wv.refl _)
theorem Ja (k : Nat) (a0 : Int) (a1 : Int) (a2 : Int) (r : Bool) (h : Z8 k a0 a1 a2 = some r) : VC Try.prog 27 [vi a0, vi a1, vi a2] (vb r) := by
 unfold Z8 at h
 rcases ifs h with ⟨h224, h⟩ | ⟨h224, h⟩
 ·have e225 := (t4 (u3 (te h224) (an (dt h224) (ti tt))))
  injection h with h; subst h
  exact Qq pm pn Try.func27 (r0 := vb (decide (a0 <= a2))) (ans := [.reg (.n :: []), .reg (nN 7 (.b true :: .n :: []))]) (fr := true) (by kernel_rfl) (an (an (ti tt) (an e225 tt)) (ti tt)) (Wv.refl _)
 ·have e226 := (t4 (u4 (df h224) (ti tt)))
  injection h with h; subst h
  exact Qq pm pn Try.func27 (r0 := vb false) (ans := [.reg (.n :: []), .reg (nN 4 (nS 3 (.b false :: .n :: [])))]) (fr := true) (by kernel_rfl) (an (an (ti tt) (an e226 tt)) (ti tt)) (Wv.refl _)
def Zh (a0 : Qb) (x3 : Int) : VS := ⟨mkA [(1, VV.pt 0 0), (3, vi x3)], [some ⟨true, 1, Qe a0⟩], .nil⟩
def Qk (k : Nat) (a0 : Qb) : Nat -> Int -> Option (Sum Unit Unit)
 | 0, _ => none
 | fuel + 1, x3 => if x3 < (a0.Phases.length : Int) then (if 0 <= x3 /\ x3 < (a0.Phases.length : Int) then ((Z8 k (a0.Phases.getD x3.toNat 0) (-1) 999).bind fun r309 => (if r309 = true then (Qk k a0 fuel (w64 (x3 + 1))) else (some (.inl ())))) else none) else (some (.inr ()))
theorem Yk (k : Nat) (a0 : Qb) : ∀ (fuel : Nat) (x3 : Int) (r : Sum Unit Unit), Qk k a0 fuel x3 = some r -> (match r with | .inl r => Yo none Try.prog (szF Try.f9) (Yr Try.f9 0) (Zh a0 x3) .ret (X5 a0 r) | .inr r => Yo none Try.prog (szF Try.f9) (Yr Try.f9 0) (Zh a0 x3) (.exit 0) (X6 a0 r)) := by
 intro fuel
 induction fuel with
 | zero => intro x3 r h; rw [Qk.eq_1] at h; cases h
 | succ fuel ih =>
  intro x3 r h
  rw [Qk.eq_2] at h
  rcases ifs h with ⟨h306, h⟩ | ⟨h306, h⟩
  ·obtain ⟨h307, h⟩ := ifn h
   have e308 := (show Jz Try.prog 3 (x3.toNat * 1) (List.map vi a0.Phases) = some (vi (a0.Phases.getD x3.toNat 0)) from Qa3 ag3 vi a0.Phases 0 h307 (by omega))
   obtain ⟨r309, h310, h⟩ := bs h
   have e311 := (Ja k (a0.Phases.getD x3.toNat 0) (-1) 999 _ h310)
   have e312 := (t3 (an h307 (an e308 (an e311 (ti tt)))))
   rcases ifs h with ⟨h313, h⟩ | ⟨h313, h⟩
   ·have h2 := ih _ _ h
    obtain ⟨q, hv, hq⟩ := pkR (rd := none) (P := Try.prog) (fn := Try.f9) (k := 0) (s := (Zh a0 x3)) (ans := [.reg (nN 5 []), .br true, .reg (nN 4 (.v (vi (a0.Phases.getD x3.toNat 0)) :: .call (vb r309) :: .n :: [])), .br false, .reg (nN 3 [])]) (c := ⟨[(1, none), (3, none)], [none], []⟩) (e := .normal) (s1 := (Zh a0 (w64 (x3 + 1)))) (an (an (an (t5 tt) (te h306)) (an (an e312 (an (Qo h313) tt)) (t3 tt))) (ti tt)) (by kernel_rfl)
    cases r with
    | inl r => exact Zp pm pn hv hq h2
    | inr r =>
     exact Zp pm pn hv hq h2
   ·injection h with h; subst h
    exact Xz (c := ⟨[(2, none)], [], []⟩) (s1 := (X5 a0 ())) pm pn (ans := [.reg (nN 5 []), .br true, .reg (nN 4 (.v (vi (a0.Phases.getD x3.toNat 0)) :: .call (vb r309) :: .n :: [])), .br true, .reg (.n :: [])]) (by kernel_rfl) (by intro e; cases e) (an (an (an (t5 tt) (te h306)) (an e312 (an (Zl (Zb h313)) (an (ti tt) tt)))) (ti tt))
  ·injection h with h; subst h
   exact Xz (c := ⟨[], [], []⟩) (s1 := (X6 a0 ())) pm pn (ans := [.reg (nN 5 []), .br false]) (by kernel_rfl) (by intro e; cases e) (an (an (t5 tt) (tf h306)) (ti tt))
def Zn (k : Nat) (a0 : Qb) : Option Int :=
 (Z8 k a0.Width 1 12).bind fun r274 => (if r274 = true then (if (a0.Phases.length : Int) = 0 then (some 10) else (if a0.Width ≠ 0 then (if ((a0.Phases.length : Int).tmod a0.Width) = 0 then (if 12 < (w64 ((a0.Phases.length : Int).tdiv a0.Width)) then (some 10) else ((Qk k a0 k 0).bind fun r315 => (match r315 with | .inl r316 => (some 2) | .inr r317 => (some 0)))) else (some 10)) else none)) else (some 2))
theorem Wy (k : Nat) (a0 : Qb) (r : Int) (h : Zn k a0 = some r) : VC Try.prog 9 [VV.ag (Qe a0)] (vi r) := by
 unfold Zn at h
 obtain ⟨r274, h275, h⟩ := bs h
 have e276 := (Ja k a0.Width 1 12 _ h275)
 rcases ifs h with ⟨h277, h⟩ | ⟨h277, h⟩
 ·rcases ifs h with ⟨h278, h⟩ | ⟨h278, h⟩
  ·have e279 := (t5 (u8 (dt h278) (ti (an rt (an rt (an rt (an rt (an rt (an rt (an rt (an rt tt)))))))))))
   injection h with h; subst h
   exact Qq pm pn Try.func9 (r0 := vi 10) (ans := [.reg (.n :: .n :: []), .reg (.n :: .n :: .call (vb r274) :: .n :: []), .br false, .reg (nN 5 (nS 7 (.b true :: .n :: nS 7 (.b true :: [])))), .br true, .reg (.n :: [])]) (fr := true) (by kernel_rfl) (an (an (t2 tt) (an (an (t2 (an e276 (ti tt))) (an (Qo h277) tt)) (an e279 (an rt (an (ti tt) tt))))) (ti tt)) (Wv.refl _)
  ·obtain ⟨h280, h⟩ := ifn h
   rcases ifs h with ⟨h281, h⟩ | ⟨h281, h⟩
   ·have e282 := (ta h281)
    have e288 := (t5 (u5 (tf h278) (an (an (df h278) h280) (an (tf h278) (an (df h278) (ti (u5 e282 (an (an (tc h281) h280) (an e282 (ta h281))))))))))
    rcases ifs h with ⟨h289, h⟩ | ⟨h289, h⟩
    ·injection h with h; subst h
     exact Qq pm pn Try.func9 (r0 := vi 10) (ans := [.reg (.n :: .n :: []), .reg (.n :: .n :: .call (vb r274) :: .n :: []), .br false, .reg (nN 12 (.b false :: nN 8 (.b false :: []))), .br true, .reg (.n :: [])]) (fr := true) (by kernel_rfl) (an (an (t2 tt) (an (an (t2 (an e276 (ti tt))) (an (Qo h277) tt)) (an e288 (an (dt h289) (an (ti tt) tt))))) (ti tt)) (Wv.refl _)
    ·obtain ⟨r315, h314, h⟩ := bs h
     have hph314 := Yk k a0 _ _ _ h314
     cases r315 with
     | inl r316 =>
      dsimp only at h
      have e318 := (an (ti tt) (VRun.loop hph314))
      injection h with h; subst h
      exact Qq pm pn Try.func9 (r0 := vi 2) (ans := [.reg (.n :: .n :: []), .reg (.n :: .n :: .call (vb r274) :: .n :: []), .br false, .reg (nN 12 (.b false :: nN 8 (.b false :: []))), .br false, .reg (.n :: []), .sub ⟨[(1, none), (3, none)], [none], []⟩ .ret (X5 a0 r316)]) (fr := true) (by kernel_rfl) (an (an (t2 tt) (an (an (t2 (an e276 (ti tt))) (an (Qo h277) tt)) (an (an e288 (tf h289)) (an (ti tt) e318)))) (ti tt)) (Wv.refl _)
     | inr r317 =>
      dsimp only at h
      have e319 := (an (ti tt) (VRun.loop hph314))
      injection h with h; subst h
      exact Qq pm pn Try.func9 (r0 := vi 0) (ans := [.reg (.n :: .n :: []), .reg (.n :: .n :: .call (vb r274) :: .n :: []), .br false, .reg (nN 12 (.b false :: nN 8 (.b false :: []))), .br false, .reg (.n :: []), .sub ⟨[(1, none), (3, none)], [none], []⟩ (.exit 0) (X6 a0 r317), .reg (.n :: [])]) (fr := true) (by kernel_rfl) (an (an (t2 tt) (an (an (t2 (an e276 (ti tt))) (an (Qo h277) tt)) (an (an e288 (tf h289)) (an (an (ti tt) e319) (an (ti tt) tt))))) (ti tt)) (Wv.refl _)
   ·have e320 := (t5 (u5 (tf h278) (an (an (df h278) h280) (an (tf h278) (an (df h278) (ti (u7 (td h281) (tb h281))))))))
    injection h with h; subst h
    exact Qq pm pn Try.func9 (r0 := vi 10) (ans := [.reg (.n :: .n :: []), .reg (.n :: .n :: .call (vb r274) :: .n :: []), .br false, .reg (nN 12 (.b false :: .n :: nS 7 (.b true :: []))), .br true, .reg (.n :: [])]) (fr := true) (by kernel_rfl) (an (an (t2 tt) (an (an (t2 (an e276 (ti tt))) (an (Qo h277) tt)) (an e320 (an rt (an (ti tt) tt))))) (ti tt)) (Wv.refl _)
 ·injection h with h; subst h
  exact Qq pm pn Try.func9 (r0 := vi 2) (ans := [.reg (.n :: .n :: []), .reg (.n :: .n :: .call (vb r274) :: .n :: []), .br true, .reg (.n :: [])]) (fr := true) (by kernel_rfl) (an (an (t2 tt) (an (t2 (an e276 (ti tt))) (an (Zl (Zb h277)) (an (ti tt) tt)))) (ti tt)) (Wv.refl _)
end Go.Proofs.Ytenebnfhhhcfaaa.Vg

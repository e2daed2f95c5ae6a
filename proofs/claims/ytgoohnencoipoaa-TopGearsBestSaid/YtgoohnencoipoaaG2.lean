import Derived.Test.YtgoohnencoipoaaG1
namespace Go.Proofs.Ytgoohnencoipoaa.Vg
set_option maxRecDepth 100000
set_option maxHeartbeats 4000000
set_option linter.unusedVariables false
set_option linter.unusedSimpArgs false
open Go Go.Proofs.Ytgoohnencoipoaa.Ev Go.Proofs.Ytgoohnencoipoaa.Vv
open List (flatMap length_cons length_nil length_map length_append map_cons map_nil length_replicate)
structure Qe where
 Driver : Int
 Driven : Int
 deriving Inhabited
def Qd (x : Qe) : List VV := [vi x.Driver, vi x.Driven]
theorem Xb (x : Qe) : (Qd x).length = 2 := rfl
theorem Qat (xs : List Qe) : (xs.flatMap Qd).all VV.still = true := Qky (fun _ => rfl) xs
theorem Ja (xs : List Qe) : (xs.flatMap Qd).map unfr = xs.flatMap Qd := Qmb (fun _ => rfl) xs
theorem ag3 : Qcf Try.prog 3 = some false := by kernel_rfl
theorem ag38 : Qcf Try.prog 38 = some true := by kernel_rfl
theorem sz38 : szOf Try.prog 38 = some 2 := by kernel_rfl
def Y0 (a0 : Qc) (y3 : List Qc) (b1_0 : Int) (b1_1 : Int) (b2_0 : Int) (b2_1 : Int) (x8 : Int) (x9 : Int) : VS := ⟨mkA [(5, VV.rf 3 0 y3.length), (6, VV.pt 1 0), (7, VV.pt 2 0), (8, vi x8), (9, vi x9)], [some ⟨true, 1, Qa a0⟩, some ⟨true, 1, [vi b1_0, vi b1_1]⟩, some ⟨true, 1, [vi b2_0, vi b2_1]⟩, some ⟨false, 2, flatMap Qa y3⟩], .nil⟩
def Yr (a0 : Qc) (r : Int × Int × Int × Int × (List Qc)) : VS := ⟨mkA [(5, VV.rf 3 0 r.2.2.2.2.length)], [some ⟨true, 1, Qa a0⟩, some ⟨true, 1, [vi r.1, vi r.2.1]⟩, some ⟨true, 1, [vi r.2.2.1, vi r.2.2.2.1]⟩, some ⟨false, 2, flatMap Qa r.2.2.2.2⟩], .nil⟩
def Z8 (k : Nat) (a0 : Qc) : Nat -> (List Qc) -> Int -> Int -> Int -> Int -> Int -> Int -> Option (Int × Int × Int × Int × (List Qc))
 | 0, _, _, _, _, _, _, _ => none
 | fuel + 1, y3, b1_0, b1_1, b2_0, b2_1, x8, x9 => if x9 = 0 then (some (b1_0, b1_1, b2_0, b2_1, y3)) else (if x9 ≠ 0 then (if y3.length + ([(⟨w64 ((w64 ((w64 (x8.tdiv x9)) * b2_0)) + b1_0), w64 ((w64 ((w64 (x8.tdiv x9)) * b2_1)) + b1_1)⟩ : Qc)] : List Qc).length <= 1000000000 then (Z8 k a0 fuel (y3 ++ ([(⟨w64 ((w64 ((w64 (x8.tdiv x9)) * b2_0)) + b1_0), w64 ((w64 ((w64 (x8.tdiv x9)) * b2_1)) + b1_1)⟩ : Qc)] : List Qc)) b2_0 b2_1 (w64 ((w64 ((w64 (x8.tdiv x9)) * b2_0)) + b1_0)) (w64 ((w64 ((w64 (x8.tdiv x9)) * b2_1)) + b1_1)) x9 (x8.tmod x9)) else none) else none)
theorem Qcv (k : Nat) (a0 : Qc) : ∀ (fuel : Nat) (y3 : List Qc) (b1_0 : Int) (b1_1 : Int) (b2_0 : Int) (b2_1 : Int) (x8 : Int) (x9 : Int) (r : Int × Int × Int × Int × (List Qc)), Z8 k a0 fuel y3 b1_0 b1_1 b2_0 b2_1 x8 x9 = some r -> (X7 none Try.prog (szF Try.f10) (Z9 Try.f10 0) (Y0 a0 y3 b1_0 b1_1 b2_0 b2_1 x8 x9) (.exit 0) (Yr a0 r)) := by
 intro fuel
 induction fuel with
 | zero => intro y3 b1_0 b1_1 b2_0 b2_1 x8 x9 r h; rw [Z8.eq_1] at h; cases h
 | succ fuel ih =>
  intro y3 b1_0 b1_1 b2_0 b2_1 x8 x9 r h
  rw [Z8.eq_2] at h
  rcases ifs h with ⟨h385, h⟩ | ⟨h385, h⟩
  ·injection h with h; subst h
   exact Qh (c := ⟨[(5, none)], [none, none, none, none], []⟩) (s1 := (Yr a0 (b1_0, b1_1, b2_0, b2_1, y3))) pm pn (ans := [.reg (.n :: .n :: []), .br false]) (by kernel_rfl) (by intro e; cases e) (an (an (ti (ti tt)) (an (Qk (dt h385)) tt)) (ti tt))
  ·obtain ⟨h386, h⟩ := ifn h
   have e387 := (ti (ti (ti (ti (ti (ti (ti (ti (ti (ti (ti (ti (ti (ti (ti (ti (ti (ti tt))))))))))))))))))
   obtain ⟨h388, h⟩ := ifn h
   have e389 := (show List.length (flatMap Qa y3) = y3.length * 2 /\ List.length [vi (w64 ((w64 ((w64 (x8.tdiv x9)) * b2_0)) + b1_0)), vi (w64 ((w64 ((w64 (x8.tdiv x9)) * b2_1)) + b1_1))] = 1 * 2 /\ (y3.length + 1) * 16 <= 140737488355328 /\ y3.length + 1 < 1099511627776 /\ List.all [vi (w64 ((w64 ((w64 (x8.tdiv x9)) * b2_0)) + b1_0)), vi (w64 ((w64 ((w64 (x8.tdiv x9)) * b2_1)) + b1_1))] VV.still = true from ⟨(by rw [Ye Jd] <;> simp), (by rw [show [vi (w64 ((w64 ((w64 (x8.tdiv x9)) * b2_0)) + b1_0)), vi (w64 ((w64 ((w64 (x8.tdiv x9)) * b2_1)) + b1_1))] = flatMap Qa ([(⟨w64 ((w64 ((w64 (x8.tdiv x9)) * b2_0)) + b1_0), w64 ((w64 ((w64 (x8.tdiv x9)) * b2_1)) + b1_1)⟩ : Qc)] : List Qc) from rfl]; rw [Ye Jd] <;> simp), (by first | omega | (simp at h388 ⊢; omega)), (by first | omega | (simp at h388 ⊢; omega)), (by rw [show [vi (w64 ((w64 ((w64 (x8.tdiv x9)) * b2_0)) + b1_0)), vi (w64 ((w64 ((w64 (x8.tdiv x9)) * b2_1)) + b1_1))] = flatMap Qa ([(⟨w64 ((w64 ((w64 (x8.tdiv x9)) * b2_0)) + b1_0), w64 ((w64 ((w64 (x8.tdiv x9)) * b2_1)) + b1_1)⟩ : Qc)] : List Qc) from rfl]; exact Qf5 _)⟩)
   have h2 := ih _ _ _ _ _ _ _ _ h
   obtain ⟨q, hv, hq⟩ := pkR (rd := none) (P := Try.prog) (fn := Try.f10) (k := 0) (s := (Y0 a0 y3 b1_0 b1_1 b2_0 b2_1 x8 x9)) (ans := [.reg (.n :: .n :: []), .br true, .reg (nN 4 []), .reg (nN 18 []), .reg (nN 5 []), .reg (nN 6 [])]) (c := ⟨[(5, some (VV.rf 3 0 ((y3 ++ ([(⟨w64 ((w64 ((w64 (x8.tdiv x9)) * b2_0)) + b1_0), w64 ((w64 ((w64 (x8.tdiv x9)) * b2_1)) + b1_1)⟩ : Qc)] : List Qc)).length))), (6, none), (7, none), (8, none), (9, none)], [none, none, none, some (flatMap Qa (y3 ++ ([(⟨w64 ((w64 ((w64 (x8.tdiv x9)) * b2_0)) + b1_0), w64 ((w64 ((w64 (x8.tdiv x9)) * b2_1)) + b1_1)⟩ : Qc)] : List Qc)))], []⟩) (e := .normal) (s1 := (Y0 a0 (y3 ++ ([(⟨w64 ((w64 ((w64 (x8.tdiv x9)) * b2_0)) + b1_0), w64 ((w64 ((w64 (x8.tdiv x9)) * b2_1)) + b1_1)⟩ : Qc)] : List Qc)) b2_0 b2_1 (w64 ((w64 ((w64 (x8.tdiv x9)) * b2_0)) + b1_0)) (w64 ((w64 ((w64 (x8.tdiv x9)) * b2_1)) + b1_1)) x9 (x8.tmod x9))) (an (an (an (ti (ti tt)) (an (Zo (df h385)) tt)) (an (an (ti (ti (an h386 (ti tt)))) (an e387 (ti (ti (ti (an e389 (ti tt))))))) (ti (ti (ti (an h386 (ti (ti tt)))))))) (an (an (show Wv (VV.rf 3 0 (y3.length + 1)) (VV.rf 3 0 ((y3 ++ ([(⟨w64 ((w64 ((w64 (x8.tdiv x9)) * b2_0)) + b1_0), w64 ((w64 ((w64 (x8.tdiv x9)) * b2_1)) + b1_1)⟩ : Qc)] : List Qc)).length)) from (Wv.of_eq (by simp))) tt) (an (show (flatMap Qa y3) ++ [vi (w64 ((w64 ((w64 (x8.tdiv x9)) * b2_0)) + b1_0)), vi (w64 ((w64 ((w64 (x8.tdiv x9)) * b2_1)) + b1_1))] = flatMap Qa (y3 ++ ([(⟨w64 ((w64 ((w64 (x8.tdiv x9)) * b2_0)) + b1_0), w64 ((w64 ((w64 (x8.tdiv x9)) * b2_1)) + b1_1)⟩ : Qc)] : List Qc)) from (by rw [show [vi (w64 ((w64 ((w64 (x8.tdiv x9)) * b2_0)) + b1_0)), vi (w64 ((w64 ((w64 (x8.tdiv x9)) * b2_1)) + b1_1))] = flatMap Qa ([(⟨w64 ((w64 ((w64 (x8.tdiv x9)) * b2_0)) + b1_0), w64 ((w64 ((w64 (x8.tdiv x9)) * b2_1)) + b1_1)⟩ : Qc)] : List Qc) from rfl]; exact List.flatMap_append.symm)) tt))) (by kernel_rfl)
   exact Ql pm pn hv hq h2
theorem Qw1 (z0 : Int × Int × Int × Int × (List Qc)) : VV.tu [VV.fw 2 (List.drop 0 (List.map unfr (flatMap Qa z0.2.2.2.2))) z0.2.2.2.2.length, vi 0] = VV.tu [VV.fw 2 (flatMap Qa z0.2.2.2.2) z0.2.2.2.2.length, vi 0] := by first | rfl | (simp only [Qhr, Zl, map_cons, map_nil, un_i, length_map, length_cons, length_nil, Qj]; done) | (simp only [Qhr, Zl, map_cons, map_nil, un_i, length_map, length_cons, length_nil, Qj]; rfl) | (simp only [Qhr, Zl, map_cons, map_nil, un_i, length_map, length_cons, length_nil, Qj, Qa, length_cons, length_nil, length_append]; done)
def Qu (k : Nat) (a0 : Qc) : Option ((List Qc) × Int) :=
 (X5 k a0).bind fun r365 => (if r365 = 0 then (if a0.Num < 0 then (some ([], 2)) else ((Z8 k a0 k ([] : List Qc) 0 1 1 0 a0.Num a0.Den).bind fun r391 => (some (r391.2.2.2.2, 0)))) else (some ([], r365)))
theorem X6 (k : Nat) (a0 : Qc) (r : ((List Qc) × Int)) (h : Qu k a0 = some r) : VC Try.prog 10 [VV.ag (Qa a0)] (VV.tu [VV.fw 2 (flatMap Qa r.1) r.1.length, vi r.2]) := by
 unfold Qu at h
 obtain ⟨r365, h366, h⟩ := bs h
 have e367 := (ti (an (Ws k a0 _ h366) (ti tt)))
 rcases ifs h with ⟨h368, h⟩ | ⟨h368, h⟩
 ·rcases ifs h with ⟨h369, h⟩ | ⟨h369, h⟩
  ·injection h with h; subst h
   exact Qv pm pn Try.func10 (r0 := VV.tu [VV.c (.slice none 0 0), vi 2]) (ans := [.reg (nN 3 []), .reg (.n :: .call (vi r365) :: .n :: []), .reg (.n :: .n :: []), .br false, .reg (nN 3 []), .br true, .reg (.n :: .n :: [])]) (fr := true) (by kernel_rfl) (an (an (ti (ti (ti tt))) (an (an e367 (an (ti (ti tt)) (an (Qk (dt h368)) tt))) (an (ti (ti (ti tt))) (an (dt h369) (an (ti (ti tt)) tt))))) (ti (ti tt))) (Wv.tuL (.cons Wv.Qu3 (.cons (Wv.refl _) .nil)))
  ·obtain ⟨r391, h390, h⟩ := bs h
   have hph390 := Qcv k a0 _ _ _ _ _ _ _ _ _ h390
   have e392 := (an (ti tt) (VRun.loop hph390))
   injection h with h; subst h
   exact Qv pm pn Try.func10 (r0 := VV.tu [VV.fw 2 (List.drop 0 (List.map unfr (flatMap Qa r391.2.2.2.2))) r391.2.2.2.2.length, vi 0]) (ans := [.reg (nN 3 []), .reg (.n :: .call (vi r365) :: .n :: []), .reg (.n :: .n :: []), .br false, .reg (nN 3 []), .br false, .reg (.n :: []), .reg (nN 6 []), .reg (nN 6 []), .sub ⟨[(5, none), (6, none), (7, none), (8, none), (9, none)], [none, none, none], [.t 5 2]⟩ (.exit 0) (Yr a0 r391), .reg (nN 3 [])]) (fr := true) (by kernel_rfl) (an (an (ti (ti (ti tt))) (an (an e367 (an (ti (ti tt)) (an (Qk (dt h368)) tt))) (an (an (ti (ti (ti tt))) (an (df h369) tt)) (an (ti tt) (an (ti (ti (ti (ti (ti (ti tt)))))) (an (an (ti (ti (ti (ti (ti (ti tt)))))) e392) (an (ti (ti (ti tt))) tt))))))) (an (show List.all (flatMap Qa r391.2.2.2.2) new0 = true from (by exact Qhe _)) (ti tt))) (Wv.of_eq (Qw1 r391))
 ·injection h with h; subst h
  exact Qv pm pn Try.func10 (r0 := VV.tu [VV.c (.slice none 0 0), vi r365]) (ans := [.reg (nN 3 []), .reg (.n :: .call (vi r365) :: .n :: []), .reg (.n :: .n :: []), .br true, .reg (nN 3 [])]) (fr := true) (by kernel_rfl) (an (an (ti (ti (ti tt))) (an e367 (an (ti (ti tt)) (an (Zo (df h368)) (an (ti (ti (ti tt))) tt))))) (ti (ti tt))) (Wv.tuL (.cons Wv.Qu3 (.cons (Wv.refl _) .nil)))
def Yi (a0 : Int) (a1 : Int) (a2 : (List Int)) (x11 : Int) : VS := ⟨mkA [(0, vi a0), (1, vi a1), (9, VV.tr (List.map vi a2) a2.length), (10, vi (a2.length : Int)), (11, vi x11)], [], .nil⟩
def Ya (a0 : Int) (a1 : Int) (a2 : (List Int)) (r : Unit) : VS := ⟨mkA [(6, vb false)], [], .nil⟩
def Y8 (a0 : Int) (a1 : Int) (a2 : (List Int)) (r : Unit) : VS := ⟨mkA [], [], .nil⟩
def Zj (k : Nat) (a0 : Int) (a1 : Int) (a2 : (List Int)) : Nat -> Int -> Option (Sum Unit Unit)
 | 0, _ => none
 | fuel + 1, x11 => if x11 < (a2.length : Int) then (if 0 <= x11 /\ x11 < (a2.length : Int) then (if (a2.getD x11.toNat 0) < a0 then (some (.inl ())) else (if a1 < (a2.getD x11.toNat 0) then (some (.inl ())) else (Zj k a0 a1 a2 fuel (w64 (x11 + 1))))) else none) else (some (.inr ()))
theorem Qdb (k : Nat) (a0 : Int) (a1 : Int) (a2 : (List Int)) : ∀ (fuel : Nat) (x11 : Int) (r : Sum Unit Unit), Zj k a0 a1 a2 fuel x11 = some r -> (match r with | .inl r => X7 none Try.prog (szF Try.f41) (Z9 Try.f41 0) (Yi a0 a1 a2 x11) .ret (Ya a0 a1 a2 r) | .inr r => X7 none Try.prog (szF Try.f41) (Z9 Try.f41 0) (Yi a0 a1 a2 x11) (.exit 0) (Y8 a0 a1 a2 r)) := by
 intro fuel
 induction fuel with
 | zero => intro x11 r h; rw [Zj.eq_1] at h; cases h
 | succ fuel ih =>
  intro x11 r h
  rw [Zj.eq_2] at h
  rcases ifs h with ⟨h438, h⟩ | ⟨h438, h⟩
  ·obtain ⟨h439, h⟩ := ifn h
   have e440 := (show Qch Try.prog 3 (x11.toNat * 1) (List.map vi a2) = some (vi (a2.getD x11.toNat 0)) from Qw2 ag3 vi a2 0 h439 (by omega))
   rcases ifs h with ⟨h441, h⟩ | ⟨h441, h⟩
   ·have e442 := (ti (ti (ti (ti (an (dt h441) (an (dt h441) (an (dt h441) (an (dt h441) tt))))))))
    injection h with h; subst h
    exact Qh (c := ⟨[(6, none)], [], []⟩) (s1 := (Ya a0 a1 a2 ())) pm pn (ans := [.reg (.n :: []), .br true, .reg (.n :: .v (vi (a2.getD x11.toNat 0)) :: .n :: []), .reg (nN 4 (nS 3 (.b true :: []))), .br true, .reg (.n :: [])]) (by kernel_rfl) (by intro e; cases e) (an (an (ti tt) (an (an (dt h438) tt) (an (an h439 (an e440 (ti tt))) (an e442 (an rt (an (ti tt) tt)))))) (ti tt))
   ·have e443 := (ti (ti (ti (ti (an (an (df h441) tt) (an (an (df h441) tt) (an (an (df h441) tt) (an (df h441) tt))))))))
    rcases ifs h with ⟨h444, h⟩ | ⟨h444, h⟩
    ·injection h with h; subst h
     exact Qh (c := ⟨[(6, none)], [], []⟩) (s1 := (Ya a0 a1 a2 ())) pm pn (ans := [.reg (.n :: []), .br true, .reg (.n :: .v (vi (a2.getD x11.toNat 0)) :: .n :: []), .reg (nN 7 (.b false :: [])), .br true, .reg (.n :: [])]) (by kernel_rfl) (by intro e; cases e) (an (an (ti tt) (an (an (dt h438) tt) (an (an h439 (an e440 (ti tt))) (an e443 (an (dt h444) (an (ti tt) tt)))))) (ti tt))
    ·have h2 := ih _ _ h
     obtain ⟨q, hv, hq⟩ := pkR (rd := none) (P := Try.prog) (fn := Try.f41) (k := 0) (s := (Yi a0 a1 a2 x11)) (ans := [.reg (.n :: []), .br true, .reg (.n :: .v (vi (a2.getD x11.toNat 0)) :: .n :: []), .reg (nN 7 (.b false :: [])), .br false, .reg (.n :: .n :: [])]) (c := ⟨[(0, none), (1, none), (9, none), (10, none), (11, none)], [], []⟩) (e := .normal) (s1 := (Yi a0 a1 a2 (w64 (x11 + 1)))) (an (an (ti tt) (an (an (dt h438) tt) (an (an (an h439 (an e440 (ti tt))) (an e443 (an (df h444) tt))) (ti (ti tt))))) (ti tt)) (by kernel_rfl)
     cases r with
     | inl r => exact Ql pm pn hv hq h2
     | inr r =>
      exact Ql pm pn hv hq h2
  ·injection h with h; subst h
   exact Qh (c := ⟨[], [], []⟩) (s1 := (Y8 a0 a1 a2 ())) pm pn (ans := [.reg (.n :: []), .br false]) (by kernel_rfl) (by intro e; cases e) (an (an (ti tt) (an (df h438) tt)) (ti tt))
def Wj (k : Nat) (a0 : Int) (a1 : Int) (a2 : (List Int)) : Option Bool :=
 (Zj k a0 a1 a2 k 0).bind fun r446 => (match r446 with | .inl r447 => (some false) | .inr r448 => (some true))
theorem Qey (k : Nat) (a0 : Int) (a1 : Int) (a2 : (List Int)) (r : Bool) (h : Wj k a0 a1 a2 = some r) : VC Try.prog 41 [vi a0, vi a1, VV.tr (List.map vi a2) a2.length] (vb r) := by
 unfold Wj at h
 obtain ⟨r446, h445, h⟩ := bs h
 have hph445 := Qdb k a0 a1 a2 _ _ _ h445
 cases r446 with
 | inl r447 =>
  dsimp only at h
  have e449 := (an (ti tt) (VRun.loop hph445))
  injection h with h; subst h
  exact Qv pm pn Try.func41 (r0 := vb false) (ans := [.reg (.n :: []), .reg (nN 3 []), .sub ⟨[(0, none), (1, none), (9, none), (10, none), (11, none)], [], []⟩ .ret (Ya a0 a1 a2 r447)]) (fr := true) (by kernel_rfl) (an (an (ti tt) (an (ti (ti (ti tt))) e449)) (ti tt)) (Wv.refl _)
 | inr r448 =>
  dsimp only at h
  have e450 := (an (ti tt) (VRun.loop hph445))
  injection h with h; subst h
  exact Qv pm pn Try.func41 (r0 := vb true) (ans := [.reg (.n :: []), .reg (nN 3 []), .sub ⟨[(0, none), (1, none), (9, none), (10, none), (11, none)], [], []⟩ (.exit 0) (Y8 a0 a1 a2 r448), .reg (.n :: [])]) (fr := true) (by kernel_rfl) (an (an (ti tt) (an (an (ti (ti (ti tt))) e450) (an (ti tt) tt))) (ti tt)) (Wv.refl _)
theorem Qw3 (z0 : (List Qe)) (z1 : Int) : [vi 1, vi 500, VV.tr (List.map vi ([(z0.getD z1.toNat default).Driver, (z0.getD z1.toNat default).Driven] : List Int)) (([(z0.getD z1.toNat default).Driver, (z0.getD z1.toNat default).Driven] : List Int).length)] = [vi 1, vi 500, VV.tr [vi ((z0.getD z1.toNat default).Driver), vi ((z0.getD z1.toNat default).Driven)] 2] := by first | rfl | (simp only [Zl, map_cons, map_nil, un_i, Qhp, length_map, length_cons, length_nil]; done) | (simp only [Zl, map_cons, map_nil, un_i, Qhp, length_map, length_cons, length_nil]; rfl) | (simp only [Zl, map_cons, map_nil, un_i, Qhp, length_map, length_cons, length_nil, length_cons, length_nil, length_append]; done)
def Yb (a0 : (List Qe)) (x10 : Int) : VS := ⟨mkA [(8, VV.tr (flatMap Qd a0) a0.length), (9, vi (a0.length : Int)), (10, vi x10)], [], .nil⟩
def Y1 (a0 : (List Qe)) (r : Unit) : VS := ⟨mkA [(2, vi 2)], [], .nil⟩
def Y2 (a0 : (List Qe)) (r : Unit) : VS := ⟨mkA [], [], .nil⟩
def Zh (k : Nat) (a0 : (List Qe)) : Nat -> Int -> Option (Sum Unit Unit)
 | 0, _ => none
 | fuel + 1, x10 => if x10 < (a0.length : Int) then (if 0 <= x10 /\ x10 < (a0.length : Int) then ((Wj k 1 500 ([(a0.getD x10.toNat default).Driver, (a0.getD x10.toNat default).Driven] : List Int)).bind fun r493 => (if r493 = true then (Zh k a0 fuel (w64 (x10 + 1))) else (some (.inl ())))) else none) else (some (.inr ()))
theorem Qc5 (k : Nat) (a0 : (List Qe)) : ∀ (fuel : Nat) (x10 : Int) (r : Sum Unit Unit), Zh k a0 fuel x10 = some r -> (match r with | .inl r => X7 none Try.prog (szF Try.f25) (Z9 Try.f25 0) (Yb a0 x10) .ret (Y1 a0 r) | .inr r => X7 none Try.prog (szF Try.f25) (Z9 Try.f25 0) (Yb a0 x10) (.exit 0) (Y2 a0 r)) := by
 intro fuel
 induction fuel with
 | zero => intro x10 r h; rw [Zh.eq_1] at h; cases h
 | succ fuel ih =>
  intro x10 r h
  rw [Zh.eq_2] at h
  rcases ifs h with ⟨h490, h⟩ | ⟨h490, h⟩
  ·obtain ⟨h491, h⟩ := ifn h
   have e492 := (show Qch Try.prog 38 (x10.toNat * 2) (flatMap Qd a0) = some (VV.ag (Qd (a0.getD x10.toNat default))) from Qa1 ag38 Qd 2 sz38 Xb a0 default h491 (by omega))
   obtain ⟨r493, h494, h⟩ := bs h
   have e495 := (VC.args (Qey k 1 500 ([(a0.getD x10.toNat default).Driver, (a0.getD x10.toNat default).Driven] : List Int) _ h494) (Qw3 a0 x10))
   rcases ifs h with ⟨h496, h⟩ | ⟨h496, h⟩
   ·have h2 := ih _ _ h
    obtain ⟨q, hv, hq⟩ := pkR (rd := none) (P := Try.prog) (fn := Try.f25) (k := 0) (s := (Yb a0 x10)) (ans := [.reg (.n :: []), .br true, .reg (.n :: .v (VV.ag (Qd (a0.getD x10.toNat default))) :: .n :: .n :: []), .reg (nN 4 (.v VV.any :: .call (vb r493) :: .n :: [])), .br false, .reg (.n :: .n :: [])]) (c := ⟨[(8, none), (9, none), (10, none)], [], []⟩) (e := .normal) (s1 := (Yb a0 (w64 (x10 + 1)))) (an (an (ti tt) (an (an (dt h490) tt) (an (an (an h491 (an e492 (ti (ti tt)))) (an (ti (ti (ti (ti (ti (an e495 (ti tt))))))) (an (Qk h496) tt))) (ti (ti tt))))) (ti tt)) (by kernel_rfl)
    cases r with
    | inl r => exact Ql pm pn hv hq h2
    | inr r =>
     exact Ql pm pn hv hq h2
   ·injection h with h; subst h
    exact Qh (c := ⟨[(2, none)], [], []⟩) (s1 := (Y1 a0 ())) pm pn (ans := [.reg (.n :: []), .br true, .reg (.n :: .v (VV.ag (Qd (a0.getD x10.toNat default))) :: .n :: .n :: []), .reg (nN 4 (.v VV.any :: .call (vb r493) :: .n :: [])), .br true, .reg (.n :: [])]) (by kernel_rfl) (by intro e; cases e) (an (an (ti tt) (an (an (dt h490) tt) (an (an h491 (an e492 (ti (ti tt)))) (an (ti (ti (ti (ti (ti (an e495 (ti tt))))))) (an (Zo (Qby h496)) (an (ti tt) tt)))))) (ti tt))
  ·injection h with h; subst h
   exact Qh (c := ⟨[], [], []⟩) (s1 := (Y2 a0 ())) pm pn (ans := [.reg (.n :: []), .br false]) (by kernel_rfl) (by intro e; cases e) (an (an (ti tt) (an (df h490) tt)) (ti tt))
def Y3 (k : Nat) (a0 : (List Qe)) : Option Int :=
 if 12 < (a0.length : Int) then (some 8) else ((Zh k a0 k 0).bind fun r498 => (match r498 with | .inl r499 => (some 2) | .inr r500 => (some 0)))
theorem Qee (k : Nat) (a0 : (List Qe)) (r : Int) (h : Y3 k a0 = some r) : VC Try.prog 25 [VV.tr (flatMap Qd a0) a0.length] (vi r) := by
 unfold Y3 at h
 rcases ifs h with ⟨h475, h⟩ | ⟨h475, h⟩
 ·injection h with h; subst h
  exact Qv pm pn Try.func25 (r0 := vi 8) (ans := [.reg (.n :: []), .reg (nN 3 []), .br true, .reg (.n :: [])]) (fr := true) (by kernel_rfl) (an (an (ti tt) (an (ti (ti (ti tt))) (an (dt h475) (an (ti tt) tt)))) (ti tt)) (Wv.refl _)
 ·obtain ⟨r498, h497, h⟩ := bs h
  have hph497 := Qc5 k a0 _ _ _ h497
  cases r498 with
  | inl r499 =>
   dsimp only at h
   have e501 := (an (ti tt) (VRun.loop hph497))
   injection h with h; subst h
   exact Qv pm pn Try.func25 (r0 := vi 2) (ans := [.reg (.n :: []), .reg (nN 3 []), .br false, .reg (nN 3 []), .sub ⟨[(8, none), (9, none), (10, none)], [], []⟩ .ret (Y1 a0 r499)]) (fr := true) (by kernel_rfl) (an (an (ti tt) (an (an (ti (ti (ti tt))) (an (df h475) tt)) (an (ti (ti (ti tt))) e501))) (ti tt)) (Wv.refl _)
  | inr r500 =>
   dsimp only at h
   have e502 := (an (ti tt) (VRun.loop hph497))
   injection h with h; subst h
   exact Qv pm pn Try.func25 (r0 := vi 0) (ans := [.reg (.n :: []), .reg (nN 3 []), .br false, .reg (nN 3 []), .sub ⟨[(8, none), (9, none), (10, none)], [], []⟩ (.exit 0) (Y2 a0 r500), .reg (.n :: [])]) (fr := true) (by kernel_rfl) (an (an (ti tt) (an (an (ti (ti (ti tt))) (an (df h475) tt)) (an (an (ti (ti (ti tt))) e502) (an (ti tt) tt)))) (ti tt)) (Wv.refl _)
theorem Qw4  : VV.ag [vi 1, vi 1] = VV.ag (Qa (⟨1, 1⟩ : Qc)) := by first | rfl | (simp only [Zl, map_cons, map_nil, un_i, Qj]; done) | (simp only [Zl, map_cons, map_nil, un_i, Qj]; rfl) | (simp only [Zl, map_cons, map_nil, un_i, Qj, Qa, length_cons, length_nil, length_append]; done)
def Qdg (k : Nat)  : Option Qc :=
 some (⟨1, 1⟩ : Qc)
theorem Qez (k : Nat)  (r : Qc) (h : Qdg k  = some r) : VC Try.prog 38 [] (VV.ag (Qa r)) := by
 unfold Qdg at h
 injection h with h; subst h
 exact Qv pm pn Try.func38 (r0 := VV.ag [vi 1, vi 1]) (ans := [.reg (.n :: []), .reg (.n :: .n :: [])]) (fr := true) (by kernel_rfl) (an (an (ti tt) (an (ti (ti tt)) tt)) (an (ti (ti (ti tt))) tt)) (Wv.of_eq Qw4)
def Qak  (x0 : Int) (x1 : Int) : VS := ⟨mkA [(0, vi x0), (1, vi x1)], [], .nil⟩
def Qaa  (r : Int) : VS := ⟨mkA [(0, vi r)], [], .nil⟩
def X3 (k : Nat)  : Nat -> Int -> Int -> Option (Int)
 | 0, _, _ => none
 | fuel + 1, x0, x1 => if x1 = 0 then (some x0) else (if x1 ≠ 0 then (X3 k  fuel x1 (x0.tmod x1)) else none)
theorem Qdx (k : Nat)  : ∀ (fuel : Nat) (x0 : Int) (x1 : Int) (r : Int), X3 k  fuel x0 x1 = some r -> (X7 none Try.prog (szF Try.f18) (Z9 Try.f18 0) (Qak  x0 x1) (.exit 0) (Qaa  r)) := by
 intro fuel
 induction fuel with
 | zero => intro x0 x1 r h; rw [X3.eq_1] at h; cases h
 | succ fuel ih =>
  intro x0 x1 r h
  rw [X3.eq_2] at h
  rcases ifs h with ⟨h529, h⟩ | ⟨h529, h⟩
  ·injection h with h; subst h
   exact Qh (c := ⟨[(0, none)], [], []⟩) (s1 := (Qaa  x0)) pm pn (ans := [.reg (.n :: .n :: []), .br false]) (by kernel_rfl) (by intro e; cases e) (an (an (ti (ti tt)) (an (Qk (dt h529)) tt)) (ti tt))
  ·obtain ⟨h530, h⟩ := ifn h
   have h2 := ih _ _ _ h
   obtain ⟨q, hv, hq⟩ := pkR (rd := none) (P := Try.prog) (fn := Try.f18) (k := 0) (s := (Qak  x0 x1)) (ans := [.reg (.n :: .n :: []), .br true, .reg (nN 6 [])]) (c := ⟨[(0, none), (1, none)], [], []⟩) (e := .normal) (s1 := (Qak  x1 (x0.tmod x1))) (an (an (an (ti (ti tt)) (an (Zo (df h529)) tt)) (ti (ti (ti (an h530 (ti (ti tt))))))) (ti tt)) (by kernel_rfl)
   exact Ql pm pn hv hq h2
def Wh (k : Nat) (a0 : Int) (a1 : Int) : Option Int :=
 (X3 k k a0 a1).bind fun r532 => (some r532)
theorem Qc6 (k : Nat) (a0 : Int) (a1 : Int) (r : Int) (h : Wh k a0 a1 = some r) : VC Try.prog 18 [vi a0, vi a1] (vi r) := by
 unfold Wh at h
 obtain ⟨r532, h531, h⟩ := bs h
 have hph531 := Qdx k  _ _ _ _ h531
 have e533 := (an (ti tt) (VRun.loop hph531))
 injection h with h; subst h
 exact Qv pm pn Try.func18 (r0 := vi r532) (ans := [.reg (.n :: []), .sub ⟨[(0, none), (1, none)], [], []⟩ (.exit 0) (Qaa  r532), .reg (.n :: .n :: [])]) (fr := true) (by kernel_rfl) (an (an (ti tt) (an e533 (an (ti (ti tt)) tt))) (ti tt)) (Wv.refl _)
theorem Qw5 (z0 : Int) (z1 : Int) (z2 : Int) : VV.ag [vi (w64 (z0.tdiv z1)), vi (w64 (z2.tdiv z1))] = VV.ag (Qa (⟨w64 (z0.tdiv z1), w64 (z2.tdiv z1)⟩ : Qc)) := by first | rfl | (simp only [Zl, map_cons, map_nil, un_i, Qj]; done) | (simp only [Zl, map_cons, map_nil, un_i, Qj]; rfl) | (simp only [Zl, map_cons, map_nil, un_i, Qj, Qa, length_cons, length_nil, length_append]; done)
def Qbb (k : Nat) (a0 : Int) (a1 : Int) : Option Qc :=
 (Wh k a0 a1).bind fun r539 => (if r539 ≠ 0 then (some (⟨w64 (a0.tdiv r539), w64 (a1.tdiv r539)⟩ : Qc)) else none)
theorem Qgi (k : Nat) (a0 : Int) (a1 : Int) (r : Qc) (h : Qbb k a0 a1 = some r) : VC Try.prog 46 [vi a0, vi a1] (VV.ag (Qa r)) := by
 unfold Qbb at h
 obtain ⟨r539, h540, h⟩ := bs h
 have e541 := (ti (ti (an (Qc6 k a0 a1 _ h540) (ti tt))))
 obtain ⟨h542, h⟩ := ifn h
 have e543 := (ti (ti (an h542 (ti (ti (an h542 (ti (ti tt))))))))
 injection h with h; subst h
 exact Qv pm pn Try.func46 (r0 := VV.ag [vi (w64 (a0.tdiv r539)), vi (w64 (a1.tdiv r539))]) (ans := [.reg (.n :: []), .reg (.n :: .n :: .call (vi r539) :: .n :: []), .reg (nN 8 [])]) (fr := true) (by kernel_rfl) (an (an (ti tt) (an e541 (an e543 tt))) (an (ti (ti (ti tt))) tt)) (Wv.of_eq (Qw5 a0 r539 a1))
def Qal (k : Nat) (a0 : Qe) : Option Qc :=
 (Qbb k a0.Driver a0.Driven).bind fun r547 => (some r547)
theorem Qfh (k : Nat) (a0 : Qe) (r : Qc) (h : Qal k a0 = some r) : VC Try.prog 42 [VV.ag (Qd a0)] (VV.ag (Qa r)) := by
 unfold Qal at h
 obtain ⟨r547, h548, h⟩ := bs h
 have e549 := (Qgi k a0.Driver a0.Driven _ h548)
 injection h with h; subst h
 exact Qv pm pn Try.func42 (r0 := VV.ag (Qa r547)) (ans := [.reg (.n :: .n :: []), .reg (nN 4 (.call (VV.ag (Qa r547)) :: .n :: []))]) (fr := true) (by kernel_rfl) (an (an (ti (ti tt)) (an (ti (ti (ti (ti (an e549 (ti tt)))))) tt)) (an (ti (ti (ti tt))) tt)) (Wv.refl _)
def Qun (z0 : List Qc) (z1 : Int) (z2 : Qc) (z3 : (Qc × Int)) : List Ans := (nN 3 (.v (VV.ag (Qa (z0.getD z1.toNat default))) :: .n :: .call (VV.ag (Qa z2)) :: .call (VV.tu [VV.ag (Qa z3.1), vi z3.2]) :: nN 6 []))
def Yo (a0 : (List Qe)) (y0 : List Qc) (x13 : Int) : VS := ⟨mkA [(4, VV.rf 0 0 y0.length), (11, VV.tr (flatMap Qd a0) a0.length), (12, vi (a0.length : Int)), (13, vi x13)], [some ⟨false, 2, flatMap Qa y0⟩], .nil⟩
def Wp (a0 : (List Qe)) (r : Int) : VS := ⟨mkA [(2, VV.c (.slice none 0 0)), (3, vi r)], [], .nil⟩
def Wq (a0 : (List Qe)) (r : (List Qc)) : VS := ⟨mkA [(4, VV.rf 0 0 r.length)], [some ⟨false, 2, flatMap Qa r⟩], .nil⟩
def Zm (k : Nat) (a0 : (List Qe)) : Nat -> (List Qc) -> Int -> Option (Sum Int (List Qc))
 | 0, _, _ => none
 | fuel + 1, y0, x13 => if x13 < (a0.length : Int) then (if 0 <= x13 /\ x13 < (a0.length : Int) then (if 0 <= x13 /\ x13 < (y0.length : Int) then ((Qal k (a0.getD x13.toNat default)).bind fun r635 => ((Qb3 k (y0.getD x13.toNat default) r635).bind fun r638 => (if r638.2 = 0 then (if y0.length + ([r638.1] : List Qc).length <= 1000000000 then (Zm k a0 fuel (y0 ++ ([r638.1] : List Qc)) (w64 (x13 + 1))) else none) else (some (.inl r638.2))))) else none) else none) else (some (.inr y0))
theorem Qdm (k : Nat) (a0 : (List Qe)) : ∀ (fuel : Nat) (y0 : List Qc) (x13 : Int) (r : Sum Int (List Qc)), Zm k a0 fuel y0 x13 = some r -> (match r with | .inl r => X7 none Try.prog (szF Try.f26) (Z9 Try.f26 0) (Yo a0 y0 x13) .ret (Wp a0 r) | .inr r => X7 none Try.prog (szF Try.f26) (Z9 Try.f26 0) (Yo a0 y0 x13) (.exit 0) (Wq a0 r)) := by
 intro fuel
 induction fuel with
 | zero => intro y0 x13 r h; rw [Zm.eq_1] at h; cases h
 | succ fuel ih =>
  intro y0 x13 r h
  rw [Zm.eq_2] at h
  rcases ifs h with ⟨h630, h⟩ | ⟨h630, h⟩
  ·obtain ⟨h631, h⟩ := ifn h
   have e632 := (show Qch Try.prog 38 (x13.toNat * 2) (flatMap Qd a0) = some (VV.ag (Qd (a0.getD x13.toNat default))) from Qa1 ag38 Qd 2 sz38 Xb a0 default h631 (by omega))
   obtain ⟨h633, h⟩ := ifn h
   have e634 := (show Qch Try.prog 23 (0 + x13.toNat * 2) (flatMap Qa y0) = some (VV.ag (Qa (y0.getD x13.toNat default))) from Qa1 ag23 Qa 2 sz23 Jd y0 default h633 (by omega))
   obtain ⟨r635, h636, h⟩ := bs h
   have e637 := (Qfh k (a0.getD x13.toNat default) _ h636)
   obtain ⟨r638, h639, h⟩ := bs h
   have e640 := (Qfa k (y0.getD x13.toNat default) r635 _ h639)
   have e641 := (ti (ti (an h633 (an e634 (ti (an e637 (an e640 (ti (ti (ti (ti (ti (ti tt)))))))))))))
   rcases ifs h with ⟨h642, h⟩ | ⟨h642, h⟩
   ·obtain ⟨h643, h⟩ := ifn h
    have e644 := (show List.length (flatMap Qa y0) = y0.length * 2 /\ List.length [vi r638.1.Num, vi r638.1.Den] = 1 * 2 /\ (y0.length + 1) * 16 <= 140737488355328 /\ y0.length + 1 < 1099511627776 /\ List.all [vi r638.1.Num, vi r638.1.Den] VV.still = true from ⟨(by rw [Ye Jd] <;> simp), (by rw [show [vi r638.1.Num, vi r638.1.Den] = flatMap Qa ([r638.1] : List Qc) from rfl]; rw [Ye Jd] <;> simp), (by first | omega | (simp at h643 ⊢; omega)), (by first | omega | (simp at h643 ⊢; omega)), (by rw [show [vi r638.1.Num, vi r638.1.Den] = flatMap Qa ([r638.1] : List Qc) from rfl]; exact Qf5 _)⟩)
    have h2 := ih _ _ _ h
    obtain ⟨q, hv, hq⟩ := pkR (rd := none) (P := Try.prog) (fn := Try.f26) (k := 0) (s := (Yo a0 y0 x13)) (ans := [.reg (.n :: []), .br true, .reg (.n :: .n :: .v (VV.ag (Qd (a0.getD x13.toNat default))) :: nN 3 []), .reg (Qun y0 x13 r635 r638), .reg (.n :: .n :: []), .br false, .reg (nN 5 []), .reg (.n :: .n :: [])]) (c := ⟨[(4, some (VV.rf 0 0 ((y0 ++ ([r638.1] : List Qc)).length))), (11, none), (12, none), (13, none)], [some (flatMap Qa (y0 ++ ([r638.1] : List Qc)))], []⟩) (e := .normal) (s1 := (Yo a0 (y0 ++ ([r638.1] : List Qc)) (w64 (x13 + 1)))) (an (an (ti tt) (an (an (dt h630) tt) (an (an (ti (an h631 (an e632 (ti (ti (ti tt)))))) (an e641 (an (an (ti (ti tt)) (an (Qk (dt h642)) tt)) (ti (ti (ti (an e644 (ti tt)))))))) (ti (ti tt))))) (an (an (show Wv (VV.rf 0 0 (y0.length + 1)) (VV.rf 0 0 ((y0 ++ ([r638.1] : List Qc)).length)) from (Wv.of_eq (by simp))) tt) (an (show (flatMap Qa y0) ++ [vi r638.1.Num, vi r638.1.Den] = flatMap Qa (y0 ++ ([r638.1] : List Qc)) from (by rw [show [vi r638.1.Num, vi r638.1.Den] = flatMap Qa ([r638.1] : List Qc) from rfl]; exact List.flatMap_append.symm)) tt))) (by kernel_rfl)
    cases r with
    | inl r => exact Ql pm pn hv hq h2
    | inr r =>
     exact Ql pm pn hv hq h2
   ·injection h with h; subst h
    exact Qh (c := ⟨[(2, none), (3, none)], [], []⟩) (s1 := (Wp a0 r638.2)) pm pn (ans := [.reg (.n :: []), .br true, .reg (.n :: .n :: .v (VV.ag (Qd (a0.getD x13.toNat default))) :: nN 3 []), .reg (Qun y0 x13 r635 r638), .reg (.n :: .n :: []), .br true, .reg (nN 3 [])]) (by kernel_rfl) (by intro e; cases e) (an (an (ti tt) (an (an (dt h630) tt) (an (ti (an h631 (an e632 (ti (ti (ti tt)))))) (an e641 (an (ti (ti tt)) (an (Zo (df h642)) (an (ti (ti (ti tt))) tt))))))) (ti tt))
  ·injection h with h; subst h
   exact Qh (c := ⟨[(4, none)], [none], []⟩) (s1 := (Wq a0 y0)) pm pn (ans := [.reg (.n :: []), .br false]) (by kernel_rfl) (by intro e; cases e) (an (an (ti tt) (an (df h630) tt)) (ti tt))
theorem Qw6 (z0 : (List Qc)) : VV.tu [VV.fw 2 (List.drop 0 (List.map unfr (flatMap Qa z0))) z0.length, vi 0] = VV.tu [VV.fw 2 (flatMap Qa z0) z0.length, vi 0] := by first | rfl | (simp only [Qhr, Zl, map_cons, map_nil, un_i, length_map, length_cons, length_nil, Qj]; done) | (simp only [Qhr, Zl, map_cons, map_nil, un_i, length_map, length_cons, length_nil, Qj]; rfl) | (simp only [Qhr, Zl, map_cons, map_nil, un_i, length_map, length_cons, length_nil, Qj, Qa, length_cons, length_nil, length_append]; done)
def Qab (k : Nat) (a0 : (List Qe)) : Option ((List Qc) × Int) :=
 (Qdg k).bind fun r596 => ((Zm k a0 k ([r596] : List Qc) 0).bind fun r646 => (match r646 with | .inl r647 => (some ([], r647)) | .inr r648 => (some (r648, 0))))
theorem Qe9 (k : Nat) (a0 : (List Qe)) (r : ((List Qc) × Int)) (h : Qab k a0 = some r) : VC Try.prog 26 [VV.tr (flatMap Qd a0) a0.length] (VV.tu [VV.fw 2 (flatMap Qa r.1) r.1.length, vi r.2]) := by
 unfold Qab at h
 obtain ⟨r596, h597, h⟩ := bs h
 obtain ⟨r646, h645, h⟩ := bs h
 have hph645 := Qdm k a0 _ _ _ _ h645
 cases r646 with
 | inl r647 =>
  dsimp only at h
  have e649 := (an (an (an (show Wv (VV.rf 0 0 1) (VV.rf 0 0 (([r596] : List Qc).length)) from (Wv.of_eq (by simp))) tt) (an (show [vi r596.Num, vi r596.Den] = flatMap Qa ([r596] : List Qc) from rfl) tt)) (VRun.loop hph645))
  injection h with h; subst h
  exact Qv pm pn Try.func26 (r0 := VV.tu [VV.c (.slice none 0 0), vi r647]) (ans := [.reg (.n :: .n :: []), .reg (.call (VV.ag (Qa r596)) :: .n :: .n :: []), .reg (nN 3 []), .sub ⟨[(4, some (VV.rf 0 0 (([r596] : List Qc).length))), (11, none), (12, none), (13, none)], [some (flatMap Qa ([r596] : List Qc))], []⟩ .ret (Wp a0 r647)]) (fr := true) (by kernel_rfl) (an (an (ti (ti tt)) (an (an (Qez k _ h597) (ti (ti tt))) (an (ti (ti (ti tt))) e649))) (ti (ti tt))) (Wv.tuL (.cons Wv.Qu3 (.cons (Wv.refl _) .nil)))
 | inr r648 =>
  dsimp only at h
  have e650 := (an (an (an (show Wv (VV.rf 0 0 1) (VV.rf 0 0 (([r596] : List Qc).length)) from (Wv.of_eq (by simp))) tt) (an (show [vi r596.Num, vi r596.Den] = flatMap Qa ([r596] : List Qc) from rfl) tt)) (VRun.loop hph645))
  injection h with h; subst h
  exact Qv pm pn Try.func26 (r0 := VV.tu [VV.fw 2 (List.drop 0 (List.map unfr (flatMap Qa r648))) r648.length, vi 0]) (ans := [.reg (.n :: .n :: []), .reg (.call (VV.ag (Qa r596)) :: .n :: .n :: []), .reg (nN 3 []), .sub ⟨[(4, some (VV.rf 0 0 (([r596] : List Qc).length))), (11, none), (12, none), (13, none)], [some (flatMap Qa ([r596] : List Qc))], []⟩ (.exit 0) (Wq a0 r648), .reg (nN 3 [])]) (fr := true) (by kernel_rfl) (an (an (ti (ti tt)) (an (an (Qez k _ h597) (ti (ti tt))) (an (an (ti (ti (ti tt))) e650) (an (ti (ti (ti tt))) tt)))) (an (show List.all (flatMap Qa r648) new0 = true from (by exact Qhe _)) (ti tt))) (Wv.of_eq (Qw6 r648))
def Qw7 (z0 : ((List Qc) × Int)) : List Ans := (.n :: .call (VV.tu [VV.fr (flatMap Qa z0.1) z0.1.length, vi z0.2]) :: nN 4 [])
def Yc (k : Nat) (a0 : (List Qe)) : Option ((List Qc) × Int) :=
 (Y3 k a0).bind fun r654 => (if r654 = 0 then ((Qab k a0).bind fun r658 => (some (r658.1, r658.2))) else (some ([], r654)))
theorem Qbz (k : Nat) (a0 : (List Qe)) (r : ((List Qc) × Int)) (h : Yc k a0 = some r) : VC Try.prog 15 [VV.tr (flatMap Qd a0) a0.length] (VV.tu [VV.fr (flatMap Qa r.1) r.1.length, vi r.2]) := by
 unfold Yc at h
 obtain ⟨r654, h655, h⟩ := bs h
 have e656 := (ti (an (Qee k a0 _ h655) (ti tt)))
 rcases ifs h with ⟨h657, h⟩ | ⟨h657, h⟩
 ·obtain ⟨r658, h659, h⟩ := bs h
  have e660 := (show VC Try.prog 26 [VV.tr (flatMap Qd a0) a0.length] (VV.tu [VV.fr (flatMap Qa r658.1) r658.1.length, vi r658.2]) from (VC.weak (Qe9 k a0 _ h659) (Wv.tuL (.cons (Wv.fw rfl rfl) (.cons (Wv.refl _) .nil)))))
  injection h with h; subst h
  exact Qv pm pn Try.func15 (r0 := VV.tu [VV.fr (flatMap Qa r658.1) r658.1.length, vi r658.2]) (ans := [.reg (.n :: .n :: []), .reg (.n :: .call (vi r654) :: .n :: []), .reg (.n :: .n :: []), .br false, .reg (Qw7 r658)]) (fr := true) (by kernel_rfl) (an (an (ti (ti tt)) (an (an e656 (an (ti (ti tt)) (an (Qk (dt h657)) tt))) (an (ti (an e660 (ti (ti (ti (ti tt)))))) tt))) (ti (ti tt))) (Wv.refl _)
 ·injection h with h; subst h
  exact Qv pm pn Try.func15 (r0 := VV.tu [VV.c (.slice none 0 0), vi r654]) (ans := [.reg (.n :: .n :: []), .reg (.n :: .call (vi r654) :: .n :: []), .reg (.n :: .n :: []), .br true, .reg (nN 3 [])]) (fr := true) (by kernel_rfl) (an (an (ti (ti tt)) (an e656 (an (ti (ti tt)) (an (Zo (df h657)) (an (ti (ti (ti tt))) tt))))) (ti (ti tt))) (Wv.tuL (.cons Wv.Qxm (.cons (Wv.refl _) .nil)))
def Qmp (z0 : ((List Qc) × Int)) : List Ans := (.n :: .call (VV.tu [VV.fr (flatMap Qa z0.1) z0.1.length, vi z0.2]) :: nN 5 [])
def Qw8 (z0 : ((List Qc) × Int)) (z1 : (List Qe)) : List Ans := (nN 4 (.v (VV.ag (Qa (z0.1.getD (z1.length : Int).toNat default))) :: .n :: .n :: []))
theorem Qw9 (z0 : ((List Qc) × Int)) : VV.tu [VV.ag [vi 0, vi 0], vi z0.2] = VV.tu [VV.ag (Qa (⟨0, 0⟩ : Qc)), vi z0.2] := by first | rfl | (simp only [Zl, map_cons, map_nil, un_i, Qj]; done) | (simp only [Zl, map_cons, map_nil, un_i, Qj]; rfl) | (simp only [Zl, map_cons, map_nil, un_i, Qj, Qa, length_cons, length_nil, length_append]; done)
def Wl (k : Nat) (a0 : (List Qe)) : Option (Qc × Int) :=
 (Yc k a0).bind fun r668 => (if r668.2 = 0 then (if 0 <= (a0.length : Int) /\ (a0.length : Int) < (r668.1.length : Int) then (some ((r668.1.getD (a0.length : Int).toNat default), 0)) else none) else (some ((⟨0, 0⟩ : Qc), r668.2)))
theorem Qb8 (k : Nat) (a0 : (List Qe)) (r : (Qc × Int)) (h : Wl k a0 = some r) : VC Try.prog 6 [VV.tr (flatMap Qd a0) a0.length] (VV.tu [VV.ag (Qa r.1), vi r.2]) := by
 unfold Wl at h
 obtain ⟨r668, h669, h⟩ := bs h
 have e670 := (ti (an (Qbz k a0 _ h669) (ti (ti (ti (ti (ti tt)))))))
 rcases ifs h with ⟨h671, h⟩ | ⟨h671, h⟩
 ·obtain ⟨h672, h⟩ := ifn h
  have e673 := (show Qch Try.prog 23 ((a0.length : Int).toNat * 2) (flatMap Qa r668.1) = some (VV.ag (Qa (r668.1.getD (a0.length : Int).toNat default))) from Qa1 ag23 Qa 2 sz23 Jd r668.1 default h672 (by omega))
  have e674 := (ti (ti (ti (an h672 (an e673 (ti (ti tt)))))))
  injection h with h; subst h
  exact Qv pm pn Try.func6 (r0 := VV.tu [VV.ag (Qa (r668.1.getD (a0.length : Int).toNat default)), vi 0]) (ans := [.reg (.n :: .n :: []), .reg (Qmp r668), .reg (.n :: .n :: []), .br false, .reg (Qw8 r668 a0)]) (fr := true) (by kernel_rfl) (an (an (ti (ti tt)) (an e670 (an (an (ti (ti tt)) (an (Qk (dt h671)) tt)) (an e674 tt)))) (an (ti (ti (ti tt))) (ti tt))) (Wv.refl _)
 ·injection h with h; subst h
  exact Qv pm pn Try.func6 (r0 := VV.tu [VV.ag [vi 0, vi 0], vi r668.2]) (ans := [.reg (.n :: .n :: []), .reg (Qmp r668), .reg (.n :: .n :: []), .br true, .reg (nN 4 [])]) (fr := true) (by kernel_rfl) (an (an (ti (ti tt)) (an e670 (an (ti (ti tt)) (an (Zo (df h671)) (an (ti (ti (ti (ti tt)))) tt))))) (an (ti (ti (ti tt))) (ti tt))) (Wv.of_eq (Qw9 r668))
def Yt (r712 : ((List Qc) × Int)) (x19 : Int) (x6 : Int) : VS := ⟨mkA [(6, vi x6), (17, VV.fr (flatMap Qa r712.1) r712.1.length), (18, vi (r712.1.length : Int)), (19, vi x19)], [], .nil⟩
def Qac (r712 : ((List Qc) × Int)) (r : Unit) : VS := ⟨mkA [(2, vi 0), (3, vi 8)], [], .nil⟩
def Qad (r712 : ((List Qc) × Int)) (r : Int) : VS := ⟨mkA [(6, vi r)], [], .nil⟩
def Zp (k : Nat) (r712 : ((List Qc) × Int)) : Nat -> Int -> Int -> Option (Sum Unit Int)
 | 0, _, _ => none
 | fuel + 1, x19, x6 => if x19 < (r712.1.length : Int) then (if 0 <= x19 /\ x19 < (r712.1.length : Int) then ((Wh k x6 ((r712.1.getD x19.toNat default).Den)).bind fun r737 => (if r737 ≠ 0 then (if 1000000000 < (w64 (x6 * (w64 (((r712.1.getD x19.toNat default).Den).tdiv r737)))) then (some (.inl ())) else (Zp k r712 fuel (w64 (x19 + 1)) (w64 (x6 * (w64 (((r712.1.getD x19.toNat default).Den).tdiv r737)))))) else none)) else none) else (some (.inr x6))
theorem Qdy (k : Nat) (r712 : ((List Qc) × Int)) : ∀ (fuel : Nat) (x19 : Int) (x6 : Int) (r : Sum Unit Int), Zp k r712 fuel x19 x6 = some r -> (match r with | .inl r => X7 none Try.prog (szF Try.f8) (Z9 Try.f8 0) (Yt r712 x19 x6) .ret (Qac r712 r) | .inr r => X7 none Try.prog (szF Try.f8) (Z9 Try.f8 0) (Yt r712 x19 x6) (.exit 0) (Qad r712 r)) := by
 intro fuel
 induction fuel with
 | zero => intro x19 x6 r h; rw [Zp.eq_1] at h; cases h
 | succ fuel ih =>
  intro x19 x6 r h
  rw [Zp.eq_2] at h
  rcases ifs h with ⟨h734, h⟩ | ⟨h734, h⟩
  ·obtain ⟨h735, h⟩ := ifn h
   have e736 := (show Qch Try.prog 23 (x19.toNat * 2) (flatMap Qa r712.1) = some (VV.ag (Qa (r712.1.getD x19.toNat default))) from Qa1 ag23 Qa 2 sz23 Jd r712.1 default h735 (by omega))
   obtain ⟨r737, h738, h⟩ := bs h
   have e739 := (Qc6 k x6 ((r712.1.getD x19.toNat default).Den) _ h738)
   obtain ⟨h740, h⟩ := ifn h
   have e741 := (ti (ti (ti (ti (ti (ti (an e739 (an h740 (ti (ti tt))))))))))
   rcases ifs h with ⟨h742, h⟩ | ⟨h742, h⟩
   ·injection h with h; subst h
    exact Qh (c := ⟨[(2, none), (3, none)], [], []⟩) (s1 := (Qac r712 ())) pm pn (ans := [.reg (.n :: []), .br true, .reg (.n :: .v (VV.ag (Qa (r712.1.getD x19.toNat default))) :: .n :: .n :: []), .reg (nN 6 (.call (vi r737) :: nN 3 [])), .reg (.n :: .n :: []), .br true, .reg (.n :: .n :: [])]) (by kernel_rfl) (by intro e; cases e) (an (an (ti tt) (an (an (dt h734) tt) (an (an h735 (an e736 (ti (ti tt)))) (an e741 (an (ti (ti tt)) (an (dt h742) (an (ti (ti tt)) tt))))))) (ti tt))
   ·have h2 := ih _ _ _ h
    obtain ⟨q, hv, hq⟩ := pkR (rd := none) (P := Try.prog) (fn := Try.f8) (k := 0) (s := (Yt r712 x19 x6)) (ans := [.reg (.n :: []), .br true, .reg (.n :: .v (VV.ag (Qa (r712.1.getD x19.toNat default))) :: .n :: .n :: []), .reg (nN 6 (.call (vi r737) :: nN 3 [])), .reg (.n :: .n :: []), .br false, .reg (.n :: .n :: [])]) (c := ⟨[(6, none), (17, none), (18, none), (19, none)], [], []⟩) (e := .normal) (s1 := (Yt r712 (w64 (x19 + 1)) (w64 (x6 * (w64 (((r712.1.getD x19.toNat default).Den).tdiv r737)))))) (an (an (ti tt) (an (an (dt h734) tt) (an (an (an h735 (an e736 (ti (ti tt)))) (an e741 (an (ti (ti tt)) (an (df h742) tt)))) (ti (ti tt))))) (ti tt)) (by kernel_rfl)
    cases r with
    | inl r => exact Ql pm pn hv hq h2
    | inr r =>
     exact Ql pm pn hv hq h2
  ·injection h with h; subst h
   exact Qh (c := ⟨[(6, none)], [], []⟩) (s1 := (Qad r712 x6)) pm pn (ans := [.reg (.n :: []), .br false]) (by kernel_rfl) (by intro e; cases e) (an (an (ti tt) (an (df h734) tt)) (ti tt))
def Y9 (k : Nat) (a0 : (List Qe)) : Option (Int × Int) :=
 (Yc k a0).bind fun r712 => (if r712.2 = 0 then ((Zp k r712 k 0 1).bind fun r744 => (match r744 with | .inl r745 => (some (0, 8)) | .inr r746 => (some (r746, 0)))) else (some (0, r712.2)))
theorem Qc7 (k : Nat) (a0 : (List Qe)) (r : (Int × Int)) (h : Y9 k a0 = some r) : VC Try.prog 8 [VV.tr (flatMap Qd a0) a0.length] (VV.tu [vi r.1, vi r.2]) := by
 unfold Y9 at h
 obtain ⟨r712, h713, h⟩ := bs h
 have e714 := (ti (an (Qbz k a0 _ h713) (ti (ti (ti (ti (ti tt)))))))
 rcases ifs h with ⟨h715, h⟩ | ⟨h715, h⟩
 ·obtain ⟨r744, h743, h⟩ := bs h
  have hph743 := Qdy k r712 _ _ _ _ h743
  cases r744 with
  | inl r745 =>
   dsimp only at h
   have e747 := (an (ti tt) (VRun.loop hph743))
   injection h with h; subst h
   exact Qv pm pn Try.func8 (r0 := VV.tu [vi 0, vi 8]) (ans := [.reg (.n :: .n :: []), .reg (Qmp r712), .reg (.n :: .n :: []), .br false, .reg (.n :: []), .reg (nN 3 []), .sub ⟨[(6, none), (17, none), (18, none), (19, none)], [], []⟩ .ret (Qac r712 r745)]) (fr := true) (by kernel_rfl) (an (an (ti (ti tt)) (an e714 (an (an (ti (ti tt)) (an (Qk (dt h715)) tt)) (an (ti tt) (an (ti (ti (ti tt))) e747))))) (ti (ti tt))) (Wv.refl _)
  | inr r746 =>
   dsimp only at h
   have e748 := (an (ti tt) (VRun.loop hph743))
   injection h with h; subst h
   exact Qv pm pn Try.func8 (r0 := VV.tu [vi r746, vi 0]) (ans := [.reg (.n :: .n :: []), .reg (Qmp r712), .reg (.n :: .n :: []), .br false, .reg (.n :: []), .reg (nN 3 []), .sub ⟨[(6, none), (17, none), (18, none), (19, none)], [], []⟩ (.exit 0) (Qad r712 r746), .reg (nN 3 [])]) (fr := true) (by kernel_rfl) (an (an (ti (ti tt)) (an e714 (an (an (ti (ti tt)) (an (Qk (dt h715)) tt)) (an (ti tt) (an (an (ti (ti (ti tt))) e748) (an (ti (ti (ti tt))) tt)))))) (ti (ti tt))) (Wv.refl _)
 ·injection h with h; subst h
  exact Qv pm pn Try.func8 (r0 := VV.tu [vi 0, vi r712.2]) (ans := [.reg (.n :: .n :: []), .reg (Qmp r712), .reg (.n :: .n :: []), .br true, .reg (nN 3 [])]) (fr := true) (by kernel_rfl) (an (an (ti (ti tt)) (an e714 (an (ti (ti tt)) (an (Zo (df h715)) (an (ti (ti (ti tt))) tt))))) (ti (ti tt))) (Wv.refl _)
def Wu (k : Nat) (a0 : Int) (a1 : Int) (a2 : Int) : Option Bool :=
 if a1 <= a0 then (some (decide (a0 <= a2))) else (some false)
theorem Qd9 (k : Nat) (a0 : Int) (a1 : Int) (a2 : Int) (r : Bool) (h : Wu k a0 a1 a2 = some r) : VC Try.prog 24 [vi a0, vi a1, vi a2] (vb r) := by
 unfold Wu at h
 rcases ifs h with ⟨h756, h⟩ | ⟨h756, h⟩
 ·have e757 := (ti (ti (ti (ti (an (an (dt h756) tt) (an (an (dt h756) tt) (an (an (dt h756) tt) (an (dt h756) (ti tt)))))))))
  injection h with h; subst h
  exact Qv pm pn Try.func24 (r0 := vb (decide (a0 <= a2))) (ans := [.reg (.n :: []), .reg (nN 7 (.b true :: .n :: []))]) (fr := true) (by kernel_rfl) (an (an (ti tt) (an e757 tt)) (ti tt)) (Wv.refl _)
 ·have e758 := (ti (ti (ti (ti (an (df h756) (an (df h756) (an (df h756) (an (df h756) (ti tt)))))))))
  injection h with h; subst h
  exact Qv pm pn Try.func24 (r0 := vb false) (ans := [.reg (.n :: []), .reg (nN 4 (nS 3 (.b false :: .n :: [])))]) (fr := true) (by kernel_rfl) (an (an (ti tt) (an e758 tt)) (ti tt)) (Wv.refl _)
def X9 (k : Nat) (a0 : Int) : Option Bool :=
 (Wu k a0 1 500).bind fun r762 => (some r762)
theorem Qaz (k : Nat) (a0 : Int) (r : Bool) (h : X9 k a0 = some r) : VC Try.prog 14 [vi a0] (vb r) := by
 unfold X9 at h
 obtain ⟨r762, h763, h⟩ := bs h
 have e764 := (Qd9 k a0 1 500 _ h763)
 injection h with h; subst h
 exact Qv pm pn Try.func14 (r0 := vb r762) (ans := [.reg (.n :: []), .reg (.n :: .call (vb r762) :: .n :: [])]) (fr := true) (by kernel_rfl) (an (an (ti tt) (an (ti (an e764 (ti tt))) tt)) (ti tt)) (Wv.refl _)
def Quo (z0 : (List Qe)) (z1 : Int) (z2 : Bool) (z3 : Bool) : List Ans := (nN 4 (.v (vi ((z0.getD z1.toNat default).Driver)) :: .call (vb z2) :: nN 6 (.v (vi ((z0.getD z1.toNat default).Driven)) :: .call (vb z3) :: .n :: .b false :: [])))
def Qxa (z0 : (List Qe)) (z1 : Int) (z2 : Bool) : List Ans := (nN 4 (.v (vi ((z0.getD z1.toNat default).Driver)) :: .call (vb z2) :: .n :: .n :: nS 7 (.b true :: [])))
def Xh (a0 : (List Qe)) (x3 : Int) : VS := ⟨mkA [(0, VV.tr (flatMap Qd a0) a0.length), (3, vi x3)], [], .nil⟩
def Xe (a0 : (List Qe)) (r : Unit) : VS := ⟨mkA [(2, vi 2)], [], .nil⟩
def Je (a0 : (List Qe)) (r : Unit) : VS := ⟨mkA [], [], .nil⟩
def Ze (k : Nat) (a0 : (List Qe)) : Nat -> Int -> Option (Sum Unit Unit)
 | 0, _ => none
 | fuel + 1, x3 => if x3 < (a0.length : Int) then (if 0 <= x3 /\ x3 < (a0.length : Int) then ((X9 k ((a0.getD x3.toNat default).Driver)).bind fun r842 => (if r842 = true then ((X9 k ((a0.getD x3.toNat default).Driven)).bind fun r847 => (if r847 = true then (Ze k a0 fuel (w64 (x3 + 1))) else (some (.inl ())))) else (some (.inl ())))) else none) else (some (.inr ()))
theorem Qbc (k : Nat) (a0 : (List Qe)) : ∀ (fuel : Nat) (x3 : Int) (r : Sum Unit Unit), Ze k a0 fuel x3 = some r -> (match r with | .inl r => X7 none Try.prog (szF Try.f5) (Z9 Try.f5 0) (Xh a0 x3) .ret (Xe a0 r) | .inr r => X7 none Try.prog (szF Try.f5) (Z9 Try.f5 0) (Xh a0 x3) (.exit 0) (Je a0 r)) := by
 intro fuel
 induction fuel with
 | zero => intro x3 r h; rw [Ze.eq_1] at h; cases h
 | succ fuel ih =>
  intro x3 r h
  rw [Ze.eq_2] at h
  rcases ifs h with ⟨h839, h⟩ | ⟨h839, h⟩
  ·obtain ⟨h840, h⟩ := ifn h
   have e841 := (show Qch Try.prog 3 (x3.toNat * 2 + 0) (flatMap Qd a0) = some (vi ((a0.getD x3.toNat default).Driver)) from (Qr4 ag3 Qd 2 0 Xb (by omega) a0 default h840 (by omega)).trans rfl)
   obtain ⟨r842, h843, h⟩ := bs h
   have e844 := (Qaz k ((a0.getD x3.toNat default).Driver) _ h843)
   rcases ifs h with ⟨h845, h⟩ | ⟨h845, h⟩
   ·have e846 := (an (Qk h845) (show Qch Try.prog 3 (x3.toNat * 2 + 1) (flatMap Qd a0) = some (vi ((a0.getD x3.toNat default).Driven)) from (Qr4 ag3 Qd 2 1 Xb (by omega) a0 default h840 (by omega)).trans rfl))
    obtain ⟨r847, h848, h⟩ := bs h
    have e849 := (an (Qk h845) (Qaz k ((a0.getD x3.toNat default).Driven) _ h848))
    have e850 := (ti (ti (an h840 (ti (an e841 (an e844 (ti (ti (an (an (Qk h845) tt) (an (an (Qk h845) tt) (an (an (Qk h845) h840) (an (an (Qk h845) tt) (an e846 (an e849 (an (an (Qk h845) tt) (an (Qk h845) tt))))))))))))))))
    rcases ifs h with ⟨h851, h⟩ | ⟨h851, h⟩
    ·have h2 := ih _ _ h
     obtain ⟨q, hv, hq⟩ := pkR (rd := none) (P := Try.prog) (fn := Try.f5) (k := 0) (s := (Xh a0 x3)) (ans := [.reg (nN 4 []), .br true, .reg (Quo a0 x3 r842 r847), .br false, .reg (nN 3 [])]) (c := ⟨[(0, none), (3, none)], [], []⟩) (e := .normal) (s1 := (Xh a0 (w64 (x3 + 1)))) (an (an (an (ti (ti (ti (ti tt)))) (an (dt h839) tt)) (an (an e850 (an (Qk h851) tt)) (ti (ti (ti tt))))) (ti tt)) (by kernel_rfl)
     cases r with
     | inl r => exact Ql pm pn hv hq h2
     | inr r =>
      exact Ql pm pn hv hq h2
    ·injection h with h; subst h
     exact Qh (c := ⟨[(2, none)], [], []⟩) (s1 := (Xe a0 ())) pm pn (ans := [.reg (nN 4 []), .br true, .reg (Quo a0 x3 r842 r847), .br true, .reg (.n :: [])]) (by kernel_rfl) (by intro e; cases e) (an (an (an (ti (ti (ti (ti tt)))) (an (dt h839) tt)) (an e850 (an (Zo (Qby h851)) (an (ti tt) tt)))) (ti tt))
   ·have e852 := (ti (ti (an h840 (ti (an e841 (an e844 (ti (ti (an (Zo (Qby h845)) (an (Zo (Qby h845)) (an (Zo (Qby h845)) (an (Zo (Qby h845)) (an (Zo (Qby h845)) (an (Zo (Qby h845)) (an (Zo (Qby h845)) (an (Zo (Qby h845)) tt))))))))))))))))
    injection h with h; subst h
    exact Qh (c := ⟨[(2, none)], [], []⟩) (s1 := (Xe a0 ())) pm pn (ans := [.reg (nN 4 []), .br true, .reg (Qxa a0 x3 r842), .br true, .reg (.n :: [])]) (by kernel_rfl) (by intro e; cases e) (an (an (an (ti (ti (ti (ti tt)))) (an (dt h839) tt)) (an e852 (an rt (an (ti tt) tt)))) (ti tt))
  ·injection h with h; subst h
   exact Qh (c := ⟨[], [], []⟩) (s1 := (Je a0 ())) pm pn (ans := [.reg (nN 4 []), .br false]) (by kernel_rfl) (by intro e; cases e) (an (an (ti (ti (ti (ti tt)))) (an (df h839) tt)) (ti tt))
def Xc (k : Nat) (a0 : (List Qe)) : Option Int :=
 if 12 < (a0.length : Int) then (some 8) else ((Ze k a0 k 0).bind fun r854 => (match r854 with | .inl r855 => (some 2) | .inr r856 => (some 0)))
theorem Qan (k : Nat) (a0 : (List Qe)) (r : Int) (h : Xc k a0 = some r) : VC Try.prog 5 [VV.tr (flatMap Qd a0) a0.length] (vi r) := by
 unfold Xc at h
 rcases ifs h with ⟨h810, h⟩ | ⟨h810, h⟩
 ·injection h with h; subst h
  exact Qv pm pn Try.func5 (r0 := vi 8) (ans := [.reg (.n :: []), .reg (nN 3 []), .br true, .reg (.n :: [])]) (fr := true) (by kernel_rfl) (an (an (ti tt) (an (ti (ti (ti tt))) (an (dt h810) (an (ti tt) tt)))) (ti tt)) (Wv.refl _)
 ·obtain ⟨r854, h853, h⟩ := bs h
  have hph853 := Qbc k a0 _ _ _ h853
  cases r854 with
  | inl r855 =>
   dsimp only at h
   have e857 := (an (ti tt) (VRun.loop hph853))
   injection h with h; subst h
   exact Qv pm pn Try.func5 (r0 := vi 2) (ans := [.reg (.n :: []), .reg (nN 3 []), .br false, .reg (.n :: []), .sub ⟨[(0, none), (3, none)], [], []⟩ .ret (Xe a0 r855)]) (fr := true) (by kernel_rfl) (an (an (ti tt) (an (an (ti (ti (ti tt))) (an (df h810) tt)) (an (ti tt) e857))) (ti tt)) (Wv.refl _)
  | inr r856 =>
   dsimp only at h
   have e858 := (an (ti tt) (VRun.loop hph853))
   injection h with h; subst h
   exact Qv pm pn Try.func5 (r0 := vi 0) (ans := [.reg (.n :: []), .reg (nN 3 []), .br false, .reg (.n :: []), .sub ⟨[(0, none), (3, none)], [], []⟩ (.exit 0) (Je a0 r856), .reg (.n :: [])]) (fr := true) (by kernel_rfl) (an (an (ti tt) (an (an (ti (ti (ti tt))) (an (df h810) tt)) (an (an (ti tt) e858) (an (ti tt) tt)))) (ti tt)) (Wv.refl _)
def Yn (k : Nat) (a0 : Qc) (a1 : Qe) : Option (Int × Int) :=
 (Jb k (w64 ((w64 (a1.Driver * a0.Den)) - (w64 (a0.Num * a1.Driven))))).bind fun r863 => (some (r863, a1.Driven))
theorem Qcm (k : Nat) (a0 : Qc) (a1 : Qe) (r : (Int × Int)) (h : Yn k a0 a1 = some r) : VC Try.prog 21 [VV.ag (Qa a0), VV.ag (Qd a1)] (VV.tu [vi r.1, vi r.2]) := by
 unfold Yn at h
 obtain ⟨r863, h864, h⟩ := bs h
 have e865 := (Qcr k (w64 ((w64 (a1.Driver * a0.Den)) - (w64 (a0.Num * a1.Driven)))) _ h864)
 have e866 := (ti (ti (ti (ti (ti (ti (ti (ti (ti (ti (ti (an e865 (ti (ti (ti (ti tt))))))))))))))))
 injection h with h; subst h
 exact Qv pm pn Try.func21 (r0 := VV.tu [vi r863, vi a1.Driven]) (ans := [.reg (nN 4 []), .reg (nN 11 (.call (vi r863) :: nN 4 []))]) (fr := true) (by kernel_rfl) (an (an (ti (ti (ti (ti tt)))) (an e866 tt)) (ti (ti tt))) (Wv.refl _)
def Zk (k : Nat) (a0 : Qc) (a1 : Qe) (a2 : Qe) : Option Bool :=
 (Yn k a0 a1).bind fun r873 => ((Yn k a0 a2).bind fun r876 => (some (decide ((w64 (r873.1 * r876.2)) < (w64 (r876.1 * r873.2))))))
theorem Xg (k : Nat) (a0 : Qc) (a1 : Qe) (a2 : Qe) (r : Bool) (h : Zk k a0 a1 a2 = some r) : VC Try.prog 11 [VV.ag (Qa a0), VV.ag (Qd a1), VV.ag (Qd a2)] (vb r) := by
 unfold Zk at h
 obtain ⟨r873, h874, h⟩ := bs h
 have e875 := (ti (ti (an (Qcm k a0 a1 _ h874) (ti (ti (ti (ti (ti tt))))))))
 obtain ⟨r876, h877, h⟩ := bs h
 have e878 := (ti (ti (an (Qcm k a0 a2 _ h877) (ti (ti (ti (ti (ti tt))))))))
 injection h with h; subst h
 exact Qv pm pn Try.func11 (r0 := vb (decide ((w64 (r873.1 * r876.2)) < (w64 (r876.1 * r873.2))))) (ans := [.reg (nN 4 []), .reg (.n :: .n :: .call (VV.tu [vi r873.1, vi r873.2]) :: nN 5 []), .reg (.n :: .n :: .call (VV.tu [vi r876.1, vi r876.2]) :: nN 5 []), .reg (nN 8 [])]) (fr := true) (by kernel_rfl) (an (an (ti (ti (ti (ti tt)))) (an e875 (an e878 (an (ti (ti (ti (ti (ti (ti (ti (ti tt)))))))) tt)))) (ti tt)) (Wv.refl _)
end Go.Proofs.Ytgoohnencoipoaa.Vg

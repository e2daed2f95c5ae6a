import Derived.Test.YtenebnfhhhcfaaaG1
namespace Go.Proofs.Ytenebnfhhhcfaaa.Vg
set_option maxRecDepth 100000
set_option maxHeartbeats 4000000
set_option linter.unusedVariables false
set_option linter.unusedSimpArgs false
open Go Go.Proofs.Ytenebnfhhhcfaaa.Ev Go.Proofs.Ytenebnfhhhcfaaa.Vv
open List (flatMap length_cons length_nil length_map length_append map_cons map_nil length_replicate)
structure Jy where
 width : Int
 phases : (List Int)
 deriving Inhabited
def Zm (x : Jy) : List VV := [vi x.width, VV.tr (List.map vi x.phases) x.phases.length]
def Qua (x : Jy) : List VV := [vi x.width, VV.fr (List.map vi x.phases) x.phases.length]
theorem Xf (xs : List Jy) : (xs.flatMap Zm).map unfr = xs.flatMap Zm := Qbm (fun _ => rfl) xs
theorem Yn (xs : List Jy) : (xs.flatMap Qua).map unfr = xs.flatMap Zm := Qbm (fun _ => rfl) xs
theorem Qu9 (z0 : Qb) : VV.tu [VV.ag (Qe z0), vi 0] = VV.tu [VV.ag (Zm (⟨z0.Width, z0.Phases⟩ : Jy)), vi 0] := by first | rfl | (simp only [Xc, map_cons, map_nil, un_i, Q5, Xf]; done) | (simp only [Xc, map_cons, map_nil, un_i, Q5, Xf]; rfl) | (simp only [Xc, map_cons, map_nil, un_i, Q5, Xf, Qe, Zm, length_cons, length_nil, length_append]; done)
theorem Qva  : vi 0 = vi ((⟨0, []⟩ : Jy).width) := by first | rfl | (simp only [Xc, map_cons, map_nil, un_i]; done) | (simp only [Xc, map_cons, map_nil, un_i]; rfl) | (simp only [Xc, map_cons, map_nil, un_i, length_cons, length_nil, length_append]; done)
def Ji (k : Nat) (a0 : Qb) : Option (Jy × Int) :=
 (Z7 k a0).bind fun r325 => (if r325 = 0 then (some ((⟨a0.Width, a0.Phases⟩ : Jy), 0)) else (some ((⟨0, []⟩ : Jy), r325)))
theorem Qaw (k : Nat) (a0 : Qb) (r : (Jy × Int)) (h : Ji k a0 = some r) : VC Try.prog 20 [VV.ag (Qe a0)] (VV.tu [VV.ag (Zm r.1), vi r.2]) := by
 unfold Ji at h
 obtain ⟨r325, h326, h⟩ := bs h
 have e327 := (ti (an (Yl k a0 _ h326) (ti tt)))
 rcases ifs h with ⟨h328, h⟩ | ⟨h328, h⟩
 ·injection h with h; subst h
  exact Qq pm pn Try.func20 (r0 := VV.tu [VV.ag (Qe a0), vi 0]) (ans := [.reg (nN 3 []), .reg (.n :: .call (vi r325) :: .n :: []), .reg (.n :: .n :: []), .br false, .reg (nN 7 [])]) (fr := false) (by kernel_rfl) (an (an (ti (ti (ti tt))) (an (an e327 (an (ti (ti tt)) (an (Qo (dt h328)) tt))) (an (ti (ti (ti (ti (ti (ti (ti tt))))))) tt))) (an (ti (ti (ti tt))) (ti tt))) (Wv.of_eq (Qu9 a0))
 ·injection h with h; subst h
  exact Qq pm pn Try.func20 (r0 := VV.tu [VV.ag [vi 0, VV.c (.slice none 0 0)], vi r325]) (ans := [.reg (nN 3 []), .reg (.n :: .call (vi r325) :: .n :: []), .reg (.n :: .n :: []), .br true, .reg (nN 4 [])]) (fr := false) (by kernel_rfl) (an (an (ti (ti (ti tt))) (an e327 (an (ti (ti tt)) (an (Zl (df h328)) (an (ti (ti (ti (ti tt)))) tt))))) (an (ti (ti (ti tt))) (ti tt))) (Wv.tuL (.cons (Wv.agL (.cons (Wv.of_eq Qva) (.cons (Wv.nil (k := 0)) .nil))) (.cons (Wv.refl _) .nil)))
def Qvb (z0 : Bool) (z1 : Jy) (z2 : Int) : List Ans := (nN 5 (.call (vb z0) :: nN 5 (.v (vi (z1.phases.getD z2.toNat 0)) :: .n :: .b true :: .n :: [])))
def Za (k : Nat) (a0 : Jy) (a1 : Int) : Option Bool :=
 (Z8 k a1 0 (w64 ((a0.phases.length : Int) - 1))).bind fun r337 => (if r337 = true then (if 0 <= a1 /\ a1 < (a0.phases.length : Int) then (some (!(decide ((a0.phases.getD a1.toNat 0) = (-1))))) else none) else (some false))
theorem Qv (k : Nat) (a0 : Jy) (a1 : Int) (r : Bool) (h : Za k a0 a1 = some r) : VC Try.prog 21 [VV.ag (Zm a0), vi a1] (vb r) := by
 unfold Za at h
 obtain ⟨r337, h338, h⟩ := bs h
 have e339 := (Jo k a1 0 (w64 ((a0.phases.length : Int) - 1)) _ h338)
 rcases ifs h with ⟨h340, h⟩ | ⟨h340, h⟩
 ·obtain ⟨h341, h⟩ := ifn h
  have e342 := (an h340 (show Jz Try.prog 3 (a1.toNat * 1) (List.map vi a0.phases) = some (vi (a0.phases.getD a1.toNat 0)) from Qa3 ag3 vi a0.phases 0 h341 (by omega)))
  have e343 := (ti (ti (ti (ti (ti (an e339 (ti (an (an h340 tt) (an (an h340 tt) (an (an h340 tt) (an (an h340 h341) (an e342 (an (an h340 tt) (an h340 (ti tt)))))))))))))))
  injection h with h; subst h
  exact Qq pm pn Try.func21 (r0 := vb (!(decide ((a0.phases.getD a1.toNat 0) = (-1))))) (ans := [.reg (.n :: .n :: []), .reg (Qvb r337 a0 a1)]) (fr := true) (by kernel_rfl) (an (an (ti (ti tt)) (an e343 tt)) (ti tt)) (Wv.refl _)
 ·have e344 := (ti (ti (ti (ti (ti (an e339 (ti (an (Zb h340) (an (Zb h340) (an (Zb h340) (an (Zb h340) (an (Zb h340) (an (Zb h340) (an (Zb h340) (ti tt)))))))))))))))
  injection h with h; subst h
  exact Qq pm pn Try.func21 (r0 := vb false) (ans := [.reg (.n :: .n :: []), .reg (nN 5 (.call (vb r337) :: .n :: nS 6 (.b false :: .n :: [])))]) (fr := true) (by kernel_rfl) (an (an (ti (ti tt)) (an e344 tt)) (ti tt)) (Wv.refl _)
def Qs1 (z0 : Bool) (z1 : Bool) : List Ans := (.n :: .n :: .call (vb z0) :: nN 3 (.call (vb z1) :: .b true :: nN 4 (.b false :: .b true :: .n :: [])))
def Qvc (z0 : Bool) (z1 : Bool) : List Ans := (.n :: .n :: .call (vb z0) :: nN 3 (.call (vb z1) :: .b true :: nN 3 (.skip :: .b true :: .b true :: .n :: [])))
def Qs2 (z0 : Bool) (z1 : Bool) : List Ans := (.n :: .n :: .call (vb z0) :: nN 3 (.call (vb z1) :: .b true :: .n :: nS 4 (.b false :: .n :: [])))
def Qs3 (z0 : Bool) : List Ans := (.n :: .n :: .call (vb z0) :: .n :: nS 3 (.b false :: .n :: nS 4 (.b false :: .n :: [])))
def Zk (k : Nat) (a0 : Jy) (a1 : Int) (a2 : Int) : Option Bool :=
 if (maxI a1 a2) = (w64 ((minI a1 a2) + 1)) then (if a0.width ≠ 0 then ((Za k a0 a1).bind fun r376 => (if r376 = true then ((Za k a0 a2).bind fun r379 => (if r379 = true then (if ((maxI a1 a2).tmod a0.width) = 0 then (some (decide ((maxI a1 a2) = (w64 ((minI a1 a2) + a0.width))))) else (some true)) else (some false))) else (some false))) else none) else ((Za k a0 a1).bind fun r391 => (if r391 = true then ((Za k a0 a2).bind fun r394 => (if r394 = true then (some (decide ((maxI a1 a2) = (w64 ((minI a1 a2) + a0.width))))) else (some false))) else (some false)))
theorem Y9 (k : Nat) (a0 : Jy) (a1 : Int) (a2 : Int) (r : Bool) (h : Zk k a0 a1 a2 = some r) : VC Try.prog 22 [VV.ag (Zm a0), vi a1, vi a2] (vb r) := by
 unfold Zk at h
 rcases ifs h with ⟨h373, h⟩ | ⟨h373, h⟩
 ·obtain ⟨h374, h⟩ := ifn h
  have e375 := (ti (ti (ti (ti (ti (an (an (dt h373) tt) (an (an (dt h373) tt) (an (an (dt h373) tt) (an (an (dt h373) h374) (an (an (dt h373) tt) (an (dt h373) (ti tt))))))))))))
  obtain ⟨r376, h377, h⟩ := bs h
  rcases ifs h with ⟨h378, h⟩ | ⟨h378, h⟩
  ·obtain ⟨r379, h380, h⟩ := bs h
   have e381 := (an h378 (Qv k a0 a2 _ h380))
   rcases ifs h with ⟨h382, h⟩ | ⟨h382, h⟩
   ·rcases ifs h with ⟨h383, h⟩ | ⟨h383, h⟩
    ·have e384 := (an (Qo (dt h383)) tt)
     have e385 := (ti (ti (an (Qv k a0 a1 _ h377) (ti (an (an h378 tt) (an (an h378 tt) (an e381 (an h378 (ti (an (an h382 tt) (an (an h382 tt) (an e384 (an (an h382 (Qo (dt h383))) (an h382 (ti tt)))))))))))))))
     injection h with h; subst h
     exact Qq pm pn Try.func22 (r0 := vb (decide ((maxI a1 a2) = (w64 ((minI a1 a2) + a0.width))))) (ans := [.reg (.n :: .n :: []), .reg (nN 8 []), .reg (nN 10 (.b true :: .n :: [])), .reg (nN 7 []), .reg (Qs1 r376 r379)]) (fr := true) (by kernel_rfl) (an (an (ti (ti tt)) (an (ti (ti (ti (ti (ti (ti (ti (ti tt)))))))) (an e375 (an (ti (ti (ti (ti (ti (ti (ti tt))))))) (an e385 tt))))) (ti tt)) (Wv.refl _)
    ·have e386 := (an h382 (Zl (df h383)))
     have e387 := (ti (ti (an (Qv k a0 a1 _ h377) (ti (an (an h378 tt) (an (an h378 tt) (an e381 (an h378 (ti (an (an h382 tt) (an (an h382 tt) (an (Zl (df h383)) (an e386 (an h382 (ti tt)))))))))))))))
     injection h with h; subst h
     exact Qq pm pn Try.func22 (r0 := vb true) (ans := [.reg (.n :: .n :: []), .reg (nN 8 []), .reg (nN 10 (.b true :: .n :: [])), .reg (nN 7 []), .reg (Qvc r376 r379)]) (fr := true) (by kernel_rfl) (an (an (ti (ti tt)) (an (ti (ti (ti (ti (ti (ti (ti (ti tt)))))))) (an e375 (an (ti (ti (ti (ti (ti (ti (ti tt))))))) (an e387 tt))))) (ti tt)) (Wv.refl _)
   ·have e388 := (ti (ti (an (Qv k a0 a1 _ h377) (ti (an (an h378 tt) (an (an h378 tt) (an e381 (an h378 (ti (an (Zb h382) (an (Zb h382) (ti (an (Zb h382) (an (Zb h382) (ti tt)))))))))))))))
    injection h with h; subst h
    exact Qq pm pn Try.func22 (r0 := vb false) (ans := [.reg (.n :: .n :: []), .reg (nN 8 []), .reg (nN 10 (.b true :: .n :: [])), .reg (nN 7 []), .reg (Qs2 r376 r379)]) (fr := true) (by kernel_rfl) (an (an (ti (ti tt)) (an (ti (ti (ti (ti (ti (ti (ti (ti tt)))))))) (an e375 (an (ti (ti (ti (ti (ti (ti (ti tt))))))) (an e388 tt))))) (ti tt)) (Wv.refl _)
  ·have e389 := (ti (ti (an (Qv k a0 a1 _ h377) (ti (an (Zb h378) (an (Zb h378) (an (Zb h378) (an (Zb h378) (ti (an rf (an rf (ti (an rf (an rf (ti tt)))))))))))))))
   injection h with h; subst h
   exact Qq pm pn Try.func22 (r0 := vb false) (ans := [.reg (.n :: .n :: []), .reg (nN 8 []), .reg (nN 10 (.b true :: .n :: [])), .reg (nN 7 []), .reg (Qs3 r376)]) (fr := true) (by kernel_rfl) (an (an (ti (ti tt)) (an (ti (ti (ti (ti (ti (ti (ti (ti tt)))))))) (an e375 (an (ti (ti (ti (ti (ti (ti (ti tt))))))) (an e389 tt))))) (ti tt)) (Wv.refl _)
 ·have e390 := (ti (ti (ti (ti (ti (an (df h373) (an (df h373) (an (df h373) (an (df h373) (an (df h373) (an (df h373) (ti tt))))))))))))
  obtain ⟨r391, h392, h⟩ := bs h
  rcases ifs h with ⟨h393, h⟩ | ⟨h393, h⟩
  ·obtain ⟨r394, h395, h⟩ := bs h
   have e396 := (an h393 (Qv k a0 a2 _ h395))
   rcases ifs h with ⟨h397, h⟩ | ⟨h397, h⟩
   ·have e398 := (ti (ti (an (Qv k a0 a1 _ h392) (ti (an (an h393 tt) (an (an h393 tt) (an e396 (an h393 (ti (an (an h397 tt) (an (an h397 tt) (an (an rf tt) (an (an h397 rf) (an h397 (ti tt)))))))))))))))
    injection h with h; subst h
    exact Qq pm pn Try.func22 (r0 := vb (decide ((maxI a1 a2) = (w64 ((minI a1 a2) + a0.width))))) (ans := [.reg (.n :: .n :: []), .reg (nN 8 []), .reg (nN 5 (nS 5 (.b false :: .n :: []))), .reg (nN 7 []), .reg (Qs1 r391 r394)]) (fr := true) (by kernel_rfl) (an (an (ti (ti tt)) (an (ti (ti (ti (ti (ti (ti (ti (ti tt)))))))) (an e390 (an (ti (ti (ti (ti (ti (ti (ti tt))))))) (an e398 tt))))) (ti tt)) (Wv.refl _)
   ·have e399 := (ti (ti (an (Qv k a0 a1 _ h392) (ti (an (an h393 tt) (an (an h393 tt) (an e396 (an h393 (ti (an (Zb h397) (an (Zb h397) (ti (an (Zb h397) (an (Zb h397) (ti tt)))))))))))))))
    injection h with h; subst h
    exact Qq pm pn Try.func22 (r0 := vb false) (ans := [.reg (.n :: .n :: []), .reg (nN 8 []), .reg (nN 5 (nS 5 (.b false :: .n :: []))), .reg (nN 7 []), .reg (Qs2 r391 r394)]) (fr := true) (by kernel_rfl) (an (an (ti (ti tt)) (an (ti (ti (ti (ti (ti (ti (ti (ti tt)))))))) (an e390 (an (ti (ti (ti (ti (ti (ti (ti tt))))))) (an e399 tt))))) (ti tt)) (Wv.refl _)
  ·have e400 := (ti (ti (an (Qv k a0 a1 _ h392) (ti (an (Zb h393) (an (Zb h393) (an (Zb h393) (an (Zb h393) (ti (an rf (an rf (ti (an rf (an rf (ti tt)))))))))))))))
   injection h with h; subst h
   exact Qq pm pn Try.func22 (r0 := vb false) (ans := [.reg (.n :: .n :: []), .reg (nN 8 []), .reg (nN 5 (nS 5 (.b false :: .n :: []))), .reg (nN 7 []), .reg (Qs3 r391)]) (fr := true) (by kernel_rfl) (an (an (ti (ti tt)) (an (ti (ti (ti (ti (ti (ti (ti (ti tt)))))))) (an e390 (an (ti (ti (ti (ti (ti (ti (ti tt))))))) (an e400 tt))))) (ti tt)) (Wv.refl _)
def Qvd (z0 : Jy) (z1 : Int) (z2 : Int) : List Ans := (nN 4 (.v (vi (z0.phases.getD z1.toNat 0)) :: nN 4 (.v (vi (z0.phases.getD z2.toNat 0)) :: nN 6 [])))
def Xx (self23 : Jy -> Int -> Int -> Option Int) (k : Nat) (a0 : Jy) (a1 : Int) (a2 : Int) : Option Int :=
 if a2 < a1 then ((self23 a0 a2 a1).bind fun r414 => (some (w64 (0 - r414)))) else (if 0 <= a2 /\ a2 < (a0.phases.length : Int) then (if 0 <= a1 /\ a1 < (a0.phases.length : Int) then (some (w64 (((w64 ((w64 ((w64 ((a0.phases.getD a2.toNat 0) - (a0.phases.getD a1.toNat 0))) + 1000)) + 500)).tmod 1000) - 500))) else none) else none)
theorem Qbw (self23 : Jy -> Int -> Int -> Option Int) (k : Nat) (a0 : Jy) (a1 : Int) (a2 : Int) (h402 : ∀ (a0 : Jy) (a1 : Int) (a2 : Int) (r : Int), self23 a0 a1 a2 = some r -> VC Try.prog 23 [VV.ag (Zm a0), vi a1, vi a2] (vi r)) (r : Int) (h : Xx self23 k a0 a1 a2 = some r) : VC Try.prog 23 [VV.ag (Zm a0), vi a1, vi a2] (vi r) := by
 unfold Xx at h
 rcases ifs h with ⟨h413, h⟩ | ⟨h413, h⟩
 ·obtain ⟨r414, h415, h⟩ := bs h
  have e416 := (ti (ti (ti (an (h402 a0 a2 a1 _ h415) (ti (ti tt))))))
  injection h with h; subst h
  exact Qq pm pn Try.func23 (r0 := vi (w64 (0 - r414))) (ans := [.reg (.n :: .n :: []), .reg (nN 3 []), .br true, .reg (nN 3 (.call (vi r414) :: .n :: .n :: []))]) (fr := true) (by kernel_rfl) (an (an (ti (ti tt)) (an (ti (ti (ti tt))) (an (dt h413) (an e416 tt)))) (ti tt)) (Wv.refl _)
 ·obtain ⟨h417, h⟩ := ifn h
  have e418 := (show Jz Try.prog 3 (a2.toNat * 1) (List.map vi a0.phases) = some (vi (a0.phases.getD a2.toNat 0)) from Qa3 ag3 vi a0.phases 0 h417 (by omega))
  obtain ⟨h419, h⟩ := ifn h
  have e420 := (show Jz Try.prog 3 (a1.toNat * 1) (List.map vi a0.phases) = some (vi (a0.phases.getD a1.toNat 0)) from Qa3 ag3 vi a0.phases 0 h419 (by omega))
  have e421 := (show (1000 : Int) ≠ 0 from (by decide))
  have e422 := (ti (ti (ti (an h417 (an e418 (ti (ti (ti (an h419 (an e420 (ti (ti (ti (an e421 (ti (ti tt))))))))))))))))
  injection h with h; subst h
  exact Qq pm pn Try.func23 (r0 := vi (w64 (((w64 ((w64 ((w64 ((a0.phases.getD a2.toNat 0) - (a0.phases.getD a1.toNat 0))) + 1000)) + 500)).tmod 1000) - 500))) (ans := [.reg (.n :: .n :: []), .reg (nN 3 []), .br false, .reg (Qvd a0 a2 a1)]) (fr := true) (by kernel_rfl) (an (an (ti (ti tt)) (an (an (ti (ti (ti tt))) (an (df h413) tt)) (an e422 tt))) (ti tt)) (Wv.refl _)
def Qp : Nat -> Jy -> Int -> Int -> Option Int
 | 0, _, _, _ => none
 | k + 1, a0, a1, a2 => Xx (Qp k) k a0 a1 a2
theorem Y1 (k : Nat) : ∀ (a0 : Jy) (a1 : Int) (a2 : Int) (r : Int) (h : Qp k a0 a1 a2 = some r), VC Try.prog 23 [VV.ag (Zm a0), vi a1, vi a2] (vi r) := by
 induction k with
 | zero => intro a0 a1 a2 r h; rw [Qp.eq_1] at h; cases h
 | succ k ih => intro a0 a1 a2 r h; rw [Qp.eq_2] at h; exact Qbw (Qp k) k a0 a1 a2 ih r h
end Go.Proofs.Ytenebnfhhhcfaaa.Vg

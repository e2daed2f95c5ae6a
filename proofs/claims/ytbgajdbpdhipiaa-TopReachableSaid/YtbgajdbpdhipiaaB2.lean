import Derived.Test.YtbgajdbpdhipiaaB1
namespace Go.Proofs.Ytbgajdbpdhipiaa.Vg
set_option maxRecDepth 100000
set_option maxHeartbeats 4000000
set_option linter.unusedVariables false
set_option linter.unusedSimpArgs false
open Go Go.Proofs.Ytbgajdbpdhipiaa.Ev Go.Proofs.Ytbgajdbpdhipiaa.Vv
open List (flatMap length_cons length_nil length_map length_append map_cons map_nil length_replicate)
structure Qd where
 Least : Int
 Most : Int
 Low : Int
 High : Int
 Speed : Int
 Refraction : (List Zg)
 Drift : (List Zg)
 deriving Inhabited
def Zf (x : Qd) : List VV := [vi x.Least, vi x.Most, vi x.Low, vi x.High, vi x.Speed, VV.tr (flatMap Zd x.Refraction) x.Refraction.length, VV.tr (flatMap Zd x.Drift) x.Drift.length]
def Qro (x : Qd) : List VV := [vi x.Least, vi x.Most, vi x.Low, vi x.High, vi x.Speed, VV.fr (flatMap Zd x.Refraction) x.Refraction.length, VV.fr (flatMap Zd x.Drift) x.Drift.length]
theorem X0 (xs : List Qd) : (xs.flatMap Zf).map unfr = xs.flatMap Zf := Qba (fun _ => rfl) xs
theorem Qb4 (xs : List Qd) : (xs.flatMap Qro).map unfr = xs.flatMap Zf := Qba (fun _ => rfl) xs
structure Qa where
 Name : ByteArray
 Azimuth : Int
 Height : Int
 From : Int
 To : Int
 Dwell : Int
 deriving Inhabited
def Qb (x : Qa) : List VV := [vs x.Name, vi x.Azimuth, vi x.Height, vi x.From, vi x.To, vi x.Dwell]
theorem Qs (x : Qa) : (Qb x).length = 6 := rfl
theorem Z9 (xs : List Qa) : (xs.flatMap Qb).map unfr = xs.flatMap Qb := Qh6 (fun _ => rfl) xs
structure A26 where
 e0 : Int
 e1 : Int
 deriving Inhabited
def Qdy (x : A26) : List VV := [vi x.e0, vi x.e1]
theorem Y2 (xs : List A26) : (xs.flatMap Qdy).map unfr = xs.flatMap Qdy := Qh6 (fun _ => rfl) xs
structure Xe where
 SkyTarget : Qa
 turns : (List Int)
 positions : (List Int)
 deriving Inhabited
def Zb (x : Xe) : List VV := [vs x.SkyTarget.Name, vi x.SkyTarget.Azimuth, vi x.SkyTarget.Height, vi x.SkyTarget.From, vi x.SkyTarget.To, vi x.SkyTarget.Dwell, VV.tr (List.map vi x.turns) x.turns.length, VV.tr (List.map vi x.positions) x.positions.length]
theorem Qay (x : Xe) : (Zb x).length = 8 := rfl
def Qac (x : Xe) : List VV := [vs x.SkyTarget.Name, vi x.SkyTarget.Azimuth, vi x.SkyTarget.Height, vi x.SkyTarget.From, vi x.SkyTarget.To, vi x.SkyTarget.Dwell, VV.fr (List.map vi x.turns) x.turns.length, VV.fr (List.map vi x.positions) x.positions.length]
theorem Qlo (x : Xe) : (Qac x).length = 8 := rfl
theorem Qoj (xs : List Xe) : (xs.flatMap Qac).all VV.still = true := Qtf (fun _ => rfl) xs
theorem Qbi (xs : List Xe) : (xs.flatMap Zb).map unfr = xs.flatMap Zb := Qba (fun _ => rfl) xs
theorem Qbj (xs : List Xe) : (xs.flatMap Qac).map unfr = xs.flatMap Zb := Qba (fun _ => rfl) xs
theorem Qpy (xs : List Xe) : (xs.flatMap Qac).all new0 = true := Qtf (fun _ => rfl) xs
def Yp (k : Nat) (a0 : Qd) : Option Bool :=
 (J4 k a0.Refraction).bind fun r390 => (if r390 = true then ((J4 k a0.Drift).bind fun r394 => (some r394)) else (some false))
theorem Qf9 (k : Nat) (a0 : Qd) (r : Bool) (h : Yp k a0 = some r) : VC Try.prog 21 [VV.ag (Zf a0)] (vb r) := by
 unfold Yp at h
 obtain ⟨r390, h391, h⟩ := bs h
 have e392 := (Qcu k a0.Refraction _ h391)
 rcases ifs h with ⟨h393, h⟩ | ⟨h393, h⟩
 ·obtain ⟨r394, h395, h⟩ := bs h
  have e396 := (an h393 (Qcu k a0.Drift _ h395))
  have e397 := (t2 (an e392 (ti (u2 (an h393 tt) (an e396 (an h393 (ti tt)))))))
  injection h with h; subst h
  exact Qo pm pn Try.func21 (r0 := vb r394) (ans := [.reg (.n :: .n :: []), .reg (.n :: .n :: .call (vb r390) :: nN 3 (.call (vb r394) :: .b true :: .n :: []))]) (fr := true) (by kernel_rfl) (an (an (t2 tt) (an e397 tt)) (ti tt)) (Wv.refl _)
 ·have e398 := (t2 (an e392 (ti (u4 (Qy h393) (ti tt)))))
  injection h with h; subst h
  exact Qo pm pn Try.func21 (r0 := vb false) (ans := [.reg (.n :: .n :: []), .reg (.n :: .n :: .call (vb r390) :: .n :: nS 3 (.b false :: .n :: []))]) (fr := true) (by kernel_rfl) (an (an (t2 tt) (an e398 tt)) (ti tt)) (Wv.refl _)
theorem Q3j (z0 : Qd) : [vi 25920000, VV.tr (List.map vi ([z0.Least, z0.Most] : List Int)) (([z0.Least, z0.Most] : List Int).length)] = [vi 25920000, VV.tr [vi z0.Least, vi z0.Most] 2] := by first | rfl | (simp only [Qn, map_cons, map_nil, un_i, Ji, length_map, length_cons, length_nil]; done) | (simp only [Qn, map_cons, map_nil, un_i, Ji, length_map, length_cons, length_nil]; rfl) | (simp only [Qn, map_cons, map_nil, un_i, Ji, length_map, length_cons, length_nil, length_cons, length_nil, length_append]; done)
theorem Q3k (z0 : Qd) : [vi 0, vi 324000, VV.tr (List.map vi ([z0.Low, z0.High] : List Int)) (([z0.Low, z0.High] : List Int).length)] = [vi 0, vi 324000, VV.tr [vi z0.Low, vi z0.High] 2] := by first | rfl | (simp only [Qn, map_cons, map_nil, un_i, Ji, length_map, length_cons, length_nil]; done) | (simp only [Qn, map_cons, map_nil, un_i, Ji, length_map, length_cons, length_nil]; rfl) | (simp only [Qn, map_cons, map_nil, un_i, Ji, length_map, length_cons, length_nil, length_cons, length_nil, length_append]; done)
theorem Q3l (z0 : Qd) : [vi 1, vi 1000000, VV.tr (List.map vi ([z0.Speed] : List Int)) (([z0.Speed] : List Int).length)] = [vi 1, vi 1000000, VV.tr [vi z0.Speed] 1] := by first | rfl | (simp only [Qn, map_cons, map_nil, un_i, Ji, length_map, length_cons, length_nil]; done) | (simp only [Qn, map_cons, map_nil, un_i, Ji, length_map, length_cons, length_nil]; rfl) | (simp only [Qn, map_cons, map_nil, un_i, Ji, length_map, length_cons, length_nil, length_cons, length_nil, length_append]; done)
def Qp7 (z0 : Bool) (z1 : Bool) (z2 : Bool) : List Ans := (nN 4 (.v VV.any :: .call (vb z0) :: nN 6 (.v VV.any :: .call (vb z1) :: .n :: .b false :: nN 3 (.v VV.any :: .call (vb z2) :: .n :: .b false :: .n :: []))))
def Q3m (z0 : Bool) (z1 : Bool) : List Ans := (nN 4 (.v VV.any :: .call (vb z0) :: nN 6 (.v VV.any :: .call (vb z1) :: .n :: .b false :: .n :: nS 5 (.b true :: .n :: []))))
def Q3n (z0 : Bool) : List Ans := (nN 4 (.v VV.any :: .call (vb z0) :: .n :: .n :: nS 7 (.b true :: .n :: nS 5 (.b true :: .n :: []))))
def Y4 (k : Nat) (a0 : Qd) : Option Int :=
 (Yb k 25920000 ([a0.Least, a0.Most] : List Int)).bind fun r425 => (if r425 = true then ((Zh k 0 324000 ([a0.Low, a0.High] : List Int)).bind fun r429 => (if r429 = true then ((Zh k 1 1000000 ([a0.Speed] : List Int)).bind fun r433 => (if r433 = true then (if a0.Most < a0.Least then (some 9) else (if a0.High < a0.Low then (some 9) else ((Y7 k a0.Refraction).bind fun r442 => (if r442 = 0 then ((Y7 k a0.Drift).bind fun r446 => (some r446)) else (some r442))))) else (some 2))) else (some 2))) else (some 2))
theorem Qds (k : Nat) (a0 : Qd) (r : Int) (h : Y4 k a0 = some r) : VC Try.prog 39 [VV.ag (Zf a0)] (vi r) := by
 unfold Y4 at h
 obtain ⟨r425, h426, h⟩ := bs h
 have e427 := (VC.args (Qci k 25920000 ([a0.Least, a0.Most] : List Int) _ h426) (Q3j a0))
 rcases ifs h with ⟨h428, h⟩ | ⟨h428, h⟩
 ·obtain ⟨r429, h430, h⟩ := bs h
  have e431 := (an (Qi h428) (VC.args (Zo k 0 324000 ([a0.Low, a0.High] : List Int) _ h430) (Q3k a0)))
  rcases ifs h with ⟨h432, h⟩ | ⟨h432, h⟩
  ·obtain ⟨r433, h434, h⟩ := bs h
   have e435 := (an (Qi h432) (VC.args (Zo k 1 1000000 ([a0.Speed] : List Int) _ h434) (Q3l a0)))
   have e436 := (t5 (an e427 (t2 (u5 (an (Qi h428) tt) (an e431 (an (an (Qi h428) tt) (an (Qi h428) (ti (u3 (an (Qi h432) tt) (an e435 (an (an (Qi h432) tt) (an (Qi h432) (ti tt)))))))))))))
   rcases ifs h with ⟨h437, h⟩ | ⟨h437, h⟩
   ·rcases ifs h with ⟨h438, h⟩ | ⟨h438, h⟩
    ·have e439 := (t6 (u6 (dt h438) (ti tt)))
     injection h with h; subst h
     exact Qo pm pn Try.func39 (r0 := vi 9) (ans := [.reg (.n :: .n :: []), .reg (Qp7 r425 r429 r433), .br false, .reg (nN 6 (nS 5 (.b true :: .n :: []))), .br true, .reg (.n :: [])]) (fr := true) (by kernel_rfl) (an (an (t2 tt) (an e436 (an (Qi h437) (an e439 (an rt (an (ti tt) tt)))))) (ti tt)) (Wv.refl _)
    ·have e440 := (t6 (u5 (tf h438) (an (df h438) (ti tt))))
     rcases ifs h with ⟨h441, h⟩ | ⟨h441, h⟩
     ·injection h with h; subst h
      exact Qo pm pn Try.func39 (r0 := vi 9) (ans := [.reg (.n :: .n :: []), .reg (Qp7 r425 r429 r433), .br false, .reg (nN 11 (.b false :: .n :: [])), .br true, .reg (.n :: [])]) (fr := true) (by kernel_rfl) (an (an (t2 tt) (an e436 (an (Qi h437) (an e440 (an (dt h441) (an (ti tt) tt)))))) (ti tt)) (Wv.refl _)
     ·obtain ⟨r442, h443, h⟩ := bs h
      have e444 := (Qdw k a0.Refraction _ h443)
      rcases ifs h with ⟨h445, h⟩ | ⟨h445, h⟩
      ·obtain ⟨r446, h447, h⟩ := bs h
       have e448 := (Qdw k a0.Drift _ h447)
       injection h with h; subst h
       exact Qo pm pn Try.func39 (r0 := vi r446) (ans := [.reg (.n :: .n :: []), .reg (Qp7 r425 r429 r433), .br false, .reg (nN 11 (.b false :: .n :: [])), .br false, .reg (.n :: .n :: .call (vi r442) :: .n :: []), .reg (.n :: .n :: []), .br false, .reg (.n :: .n :: .call (vi r446) :: .n :: [])]) (fr := true) (by kernel_rfl) (an (an (t2 tt) (an (an e436 (an (Qi h437) (an e440 (tf h441)))) (an (an (t2 (an e444 (ti tt))) (an (t2 tt) (ta h445))) (an (t2 (an e448 (ti tt))) tt)))) (ti tt)) (Wv.refl _)
      ·injection h with h; subst h
       exact Qo pm pn Try.func39 (r0 := vi r442) (ans := [.reg (.n :: .n :: []), .reg (Qp7 r425 r429 r433), .br false, .reg (nN 11 (.b false :: .n :: [])), .br false, .reg (.n :: .n :: .call (vi r442) :: .n :: []), .reg (.n :: .n :: []), .br true, .reg (.n :: .n :: [])]) (fr := true) (by kernel_rfl) (an (an (t2 tt) (an (an e436 (an (Qi h437) (an e440 (tf h441)))) (an (t2 (an e444 (ti tt))) (an (t2 tt) (an (td h445) (an (t2 tt) tt)))))) (ti tt)) (Wv.refl _)
   ·injection h with h; subst h
    exact Qo pm pn Try.func39 (r0 := vi 2) (ans := [.reg (.n :: .n :: []), .reg (Qp7 r425 r429 r433), .br true, .reg (.n :: [])]) (fr := true) (by kernel_rfl) (an (an (t2 tt) (an e436 (an (Qq (Qy h437)) (an (ti tt) tt)))) (ti tt)) (Wv.refl _)
  ·have e449 := (t5 (an e427 (t2 (u5 (an (Qi h428) tt) (an e431 (an (an (Qi h428) tt) (an (Qi h428) (ti (u6 (Qq (Qy h432)) (ti tt))))))))))
   injection h with h; subst h
   exact Qo pm pn Try.func39 (r0 := vi 2) (ans := [.reg (.n :: .n :: []), .reg (Q3m r425 r429), .br true, .reg (.n :: [])]) (fr := true) (by kernel_rfl) (an (an (t2 tt) (an e449 (an rt (an (ti tt) tt)))) (ti tt)) (Wv.refl _)
 ·have e450 := (t5 (an e427 (t2 (u8 (Qq (Qy h428)) (ti (an rt (an rt (an rt (an rt (an rt (an rt (ti tt))))))))))))
  injection h with h; subst h
  exact Qo pm pn Try.func39 (r0 := vi 2) (ans := [.reg (.n :: .n :: []), .reg (Q3n r425), .br true, .reg (.n :: [])]) (fr := true) (by kernel_rfl) (an (an (t2 tt) (an e450 (an rt (an (ti tt) tt)))) (ti tt)) (Wv.refl _)
theorem Q3o (z0 : ByteArray) : [vi 1, vi 12, VV.tr (List.map vi ([(z0.size : Int)] : List Int)) (([(z0.size : Int)] : List Int).length)] = [vi 1, vi 12, VV.tr [vi (z0.size : Int)] 1] := by first | rfl | (simp only [Qn, map_cons, map_nil, un_i, Ji, length_map, length_cons, length_nil]; done) | (simp only [Qn, map_cons, map_nil, un_i, Ji, length_map, length_cons, length_nil]; rfl) | (simp only [Qn, map_cons, map_nil, un_i, Ji, length_map, length_cons, length_nil, length_cons, length_nil, length_append]; done)
def Q3p  : List Ans := (nN 3 (.skip :: .skip :: .b false :: nN 4 (.skip :: .skip :: .b false :: .b false :: .n :: [])))
def Qas (k : Nat) (a0 : Int) : Option Bool :=
 if 97 <= a0 then (if a0 <= 122 then (some true) else (if 65 <= a0 then (some (decide (a0 <= 90))) else (some false))) else (if 65 <= a0 then (some (decide (a0 <= 90))) else (some false))
theorem Qah (k : Nat) (a0 : Int) (r : Bool) (h : Qas k a0 = some r) : VC Try.prog 58 [VV.c (.int .i32 a0)] (vb r) := by
 unfold Qas at h
 rcases ifs h with ⟨h467, h⟩ | ⟨h467, h⟩
 ·rcases ifs h with ⟨h468, h⟩ | ⟨h468, h⟩
  ·have e469 := (t3 (u2 (te h467) (an (dt h467) (ti (u3 (dt h468) (t2 (u2 (dt h468) (ti tt))))))))
   injection h with h; subst h
   exact Qo pm pn Try.func58 (r0 := vb true) (ans := [.reg (.n :: []), .reg (nN 5 (.b true :: .n :: nS 6 (.b true :: .n :: [])))]) (fr := true) (by kernel_rfl) (an (an (ti tt) (an e469 tt)) (ti tt)) (Wv.refl _)
  ·rcases ifs h with ⟨h470, h⟩ | ⟨h470, h⟩
   ·have e471 := (an (df h468) (dt h470))
    have e472 := (t3 (u2 (te h467) (an (dt h467) (ti (u3 (tf h468) (u2 (te h470) (an e471 (an (df h468) (ti tt)))))))))
    injection h with h; subst h
    exact Qo pm pn Try.func58 (r0 := vb (decide (a0 <= 90))) (ans := [.reg (.n :: []), .reg (nN 5 (.b true :: nN 6 (.b true :: .b false :: .n :: [])))]) (fr := true) (by kernel_rfl) (an (an (ti tt) (an e472 tt)) (ti tt)) (Wv.refl _)
   ·have e473 := (an (df h468) (df h470))
    have e474 := (t3 (u2 (te h467) (an (dt h467) (ti (u3 (tf h468) (u2 (df h470) (an e473 (an (df h468) (ti tt)))))))))
    injection h with h; subst h
    exact Qo pm pn Try.func58 (r0 := vb false) (ans := [.reg (.n :: []), .reg (nN 5 (.b true :: nN 4 (.skip :: .skip :: .b false :: .b false :: .n :: [])))]) (fr := true) (by kernel_rfl) (an (an (ti tt) (an e474 tt)) (ti tt)) (Wv.refl _)
 ·rcases ifs h with ⟨h475, h⟩ | ⟨h475, h⟩
  ·have e476 := (t3 (u3 (df h467) (ti (u3 (an rf tt) (u2 (te h475) (an (an rf (dt h475)) (an rf (ti tt))))))))
   injection h with h; subst h
   exact Qo pm pn Try.func58 (r0 := vb (decide (a0 <= 90))) (ans := [.reg (.n :: []), .reg (nN 3 (.skip :: .skip :: .b false :: nN 6 (.b true :: .b false :: .n :: [])))]) (fr := true) (by kernel_rfl) (an (an (ti tt) (an e476 tt)) (ti tt)) (Wv.refl _)
  ·have e477 := (t3 (u3 (df h467) (ti (u3 (an rf tt) (u2 (df h475) (an (an rf (df h475)) (an rf (ti tt))))))))
   injection h with h; subst h
   exact Qo pm pn Try.func58 (r0 := vb false) (ans := [.reg (.n :: []), .reg Q3p]) (fr := true) (by kernel_rfl) (an (an (ti tt) (an e477 tt)) (ti tt)) (Wv.refl _)
def Q3q (z0 : Bool) : List Ans := (.n :: .call (vb z0) :: .n :: .n :: nS 7 (.b false :: .n :: .skip :: .skip :: .b false :: .n :: []))
def Q3r (z0 : Bool) : List Ans := (.n :: .call (vb z0) :: nN 7 (.b true :: .n :: .b true :: .n :: .skip :: .skip :: .b false :: .n :: []))
def Q3s (z0 : Bool) : List Ans := (.n :: .call (vb z0) :: nN 5 (.skip :: .skip :: .b false :: .n :: .b true :: nN 3 (.b true :: .n :: [])))
def Qa7 (k : Nat) (a0 : Int) : Option Bool :=
 (Qas k a0).bind fun r500 => (if r500 = true then (some false) else (if 48 <= a0 then (if a0 <= 57 then (some false) else (some (!(decide (a0 = 45))))) else (some (!(decide (a0 = 45))))))
theorem Qh2 (k : Nat) (a0 : Int) (r : Bool) (h : Qa7 k a0 = some r) : VC Try.prog 60 [VV.c (.int .i32 a0)] (vb r) := by
 unfold Qa7 at h
 obtain ⟨r500, h501, h⟩ := bs h
 rcases ifs h with ⟨h502, h⟩ | ⟨h502, h⟩
 ·have e503 := (ti (an (Qah k a0 _ h501) (t2 (u3 (Qi h502) (t2 (u3 (Qi h502) (ti (an rf (an rf (an rf (ti tt)))))))))))
  injection h with h; subst h
  exact Qo pm pn Try.func60 (r0 := vb false) (ans := [.reg (.n :: []), .reg (Q3q r500)]) (fr := true) (by kernel_rfl) (an (an (ti tt) (an e503 tt)) (ti tt)) (Wv.refl _)
 ·rcases ifs h with ⟨h504, h⟩ | ⟨h504, h⟩
  ·have e505 := (an (Qq (Qy h502)) (dt h504))
   rcases ifs h with ⟨h506, h⟩ | ⟨h506, h⟩
   ·have e507 := (ti (an (Qah k a0 _ h501) (t2 (u3 (an (Qq (Qy h502)) tt) (u2 (te h504) (an e505 (an (an (Qq (Qy h502)) tt) (an (Qq (Qy h502)) (ti (u3 (tc h506) (ti tt)))))))))))
    injection h with h; subst h
    exact Qo pm pn Try.func60 (r0 := vb false) (ans := [.reg (.n :: []), .reg (Q3r r500)]) (fr := true) (by kernel_rfl) (an (an (ti tt) (an e507 tt)) (ti tt)) (Wv.refl _)
   ·have e508 := (tb h506)
    have e510 := (ti (an (Qah k a0 _ h501) (t2 (u3 (an (Qq (Qy h502)) tt) (u2 (te h504) (an e505 (an (an (Qq (Qy h502)) tt) (an (Qq (Qy h502)) (ti (u2 e508 (an (td h506) (ti tt))))))))))))
    injection h with h; subst h
    exact Qo pm pn Try.func60 (r0 := vb (!(decide (a0 = 45)))) (ans := [.reg (.n :: []), .reg (.n :: .call (vb r500) :: nN 7 (.b true :: .n :: .b true :: nN 3 (.b true :: .n :: [])))]) (fr := true) (by kernel_rfl) (an (an (ti tt) (an e510 tt)) (ti tt)) (Wv.refl _)
  ·have e511 := (an (Qq (Qy h502)) (df h504))
   have e512 := (an (show (!false) = true from (Qq rfl)) tt)
   have e514 := (ti (an (Qah k a0 _ h501) (t2 (u3 (an (Qq (Qy h502)) tt) (u2 (df h504) (an e511 (an (an (Qq (Qy h502)) tt) (an (Qq (Qy h502)) (ti (u2 e512 (an (show (!false) = true from (Qq rfl)) (ti tt))))))))))))
   injection h with h; subst h
   exact Qo pm pn Try.func60 (r0 := vb (!(decide (a0 = 45)))) (ans := [.reg (.n :: []), .reg (Q3s r500)]) (fr := true) (by kernel_rfl) (an (an (ti tt) (an e514 tt)) (ti tt)) (Wv.refl _)
def Zz (a0 : ByteArray) (a2 : Bool) (b0_1 : Int) : VS := ⟨mkA [(1, VV.fn 60 []), (2, vb a2), (10, VV.it 0)], [some ⟨true, bigX, [vs a0, vi b0_1]⟩], .nil⟩
def Xn (a0 : ByteArray) (a2 : Bool) (r : Int) : VS := ⟨mkA [(6, vi r)], [], .nil⟩
def Xo (a0 : ByteArray) (a2 : Bool) (r : Unit) : VS := ⟨mkA [], [], .nil⟩
def Qp (k : Nat) (a0 : ByteArray) (a2 : Bool) : Nat -> Int -> Option (Sum Int Unit)
 | 0, _ => none
 | fuel + 1, b0_1 => if b0_1 < (a0.size : Int) then (if 0 <= b0_1 then ((Qa7 k (((Go.Utf8.decode a0 (b0_1).toNat).1 : Nat) : Int)).bind fun r561 => (if (r561 == a2) = true then (some (.inl b0_1)) else (Qp k a0 a2 fuel (b0_1 + (((Go.Utf8.decode a0 (b0_1).toNat).2 : Nat) : Int))))) else none) else (some (.inr ()))
theorem Qat (k : Nat) (a0 : ByteArray) (a2 : Bool) : ∀ (fuel : Nat) (b0_1 : Int) (r : Sum Int Unit), Qp k a0 a2 fuel b0_1 = some r -> (match r with | .inl r => J9 none Try.prog (szF Try.f62) (X9 Try.f62 0) (Zz a0 a2 b0_1) .ret (Xn a0 a2 r) | .inr r => J9 none Try.prog (szF Try.f62) (X9 Try.f62 0) (Zz a0 a2 b0_1) (.exit 0) (Xo a0 a2 r)) := by
 intro fuel
 induction fuel with
 | zero => intro b0_1 r h; rw [Qp.eq_1] at h; cases h
 | succ fuel ih =>
  intro b0_1 r h
  rw [Qp.eq_2] at h
  rcases ifs h with ⟨h558, h⟩ | ⟨h558, h⟩
  ·obtain ⟨h559, h⟩ := ifn h
   have e560 := (show 0 <= b0_1 /\ b0_1 < (a0.size : Int) from ⟨h559, of_decide_eq_true (dt h558)⟩)
   obtain ⟨r561, h562, h⟩ := bs h
   have e563 := (Qh2 k (((Go.Utf8.decode a0 (b0_1).toNat).1 : Nat) : Int) _ h562)
   rcases ifs h with ⟨h564, h⟩ | ⟨h564, h⟩
   ·injection h with h; subst h
    exact Qj (c := ⟨[(6, none)], [], []⟩) (s1 := (Xn a0 a2 b0_1)) pm pn (ans := [.reg (.b true :: .n :: []), .br true, .reg (nN 4 []), .reg (.n :: .n :: .call (vb r561) :: .n :: .n :: []), .br true, .reg (.n :: .n :: [])]) (by kernel_rfl) (by intro e; cases e) (an (an (an e560 (ti tt)) (an (an rt tt) (an (t4 tt) (an (t2 (an e563 (t2 tt))) (an h564 (an (t2 tt) tt)))))) (ti tt))
   ·have h2 := ih _ _ h
    obtain ⟨q, hv, hq⟩ := pkR (rd := none) (P := Try.prog) (fn := Try.f62) (k := 0) (s := (Zz a0 a2 b0_1)) (ans := [.reg (.b true :: .n :: []), .br true, .reg (nN 4 []), .reg (.n :: .n :: .call (vb r561) :: .n :: .n :: []), .br false]) (c := ⟨[(1, none), (2, none), (10, none)], [none], []⟩) (e := .normal) (s1 := (Zz a0 a2 (b0_1 + (((Go.Utf8.decode a0 (b0_1).toNat).2 : Nat) : Int)))) (an (an (an e560 (ti tt)) (an (an rt tt) (an (t4 tt) (an (t2 (an e563 (t2 tt))) (an (Qy h564) tt))))) (ti tt)) (by kernel_rfl)
    cases r with
    | inl r => exact Qv pm pn hv hq h2
    | inr r =>
     exact Qv pm pn hv hq h2
  ·have e565 := (show (a0.size : Int) <= b0_1 from (by have := of_decide_eq_false (df h558); omega))
   injection h with h; subst h
   exact Qj (c := ⟨[], [], []⟩) (s1 := (Xo a0 a2 ())) pm pn (ans := [.reg (.b false :: .n :: []), .br false]) (by kernel_rfl) (by intro e; cases e) (an (an (an e565 (ti tt)) (an rf tt)) (ti tt))
def Xl (k : Nat) (a0 : ByteArray) (a1 : Unit) (a2 : Bool) : Option Int :=
 (Qp k a0 a2 k 0).bind fun r567 => (match r567 with | .inl r568 => (some r568) | .inr r569 => (some (-1)))
theorem Qbc (k : Nat) (a0 : ByteArray) (a1 : Unit) (a2 : Bool) (r : Int) (h : Xl k a0 a1 a2 = some r) : VC Try.prog 62 [vs a0, VV.fn 60 [], vb a2] (vi r) := by
 unfold Xl at h
 obtain ⟨r567, h566, h⟩ := bs h
 have hph566 := Qat k a0 a2 _ _ _ h566
 cases r567 with
 | inl r568 =>
  dsimp only at h
  have e570 := (an (ti tt) (VRun.loop hph566))
  injection h with h; subst h
  exact Qo pm pn Try.func62 (r0 := vi r568) (ans := [.reg (.n :: []), .reg (.n :: .n :: []), .sub ⟨[(1, none), (2, none), (10, none)], [none], []⟩ .ret (Xn a0 a2 r568)]) (fr := true) (by kernel_rfl) (an (an (ti tt) (an (t2 tt) e570)) (ti tt)) (Wv.refl _)
 | inr r569 =>
  dsimp only at h
  have e571 := (an (ti tt) (VRun.loop hph566))
  injection h with h; subst h
  exact Qo pm pn Try.func62 (r0 := vi (-1)) (ans := [.reg (.n :: []), .reg (.n :: .n :: []), .sub ⟨[(1, none), (2, none), (10, none)], [none], []⟩ (.exit 0) (Xo a0 a2 r569), .reg (.n :: [])]) (fr := true) (by kernel_rfl) (an (an (ti tt) (an (an (t2 tt) e571) (an (ti tt) tt))) (ti tt)) (Wv.refl _)
def Xk (k : Nat) (a0 : ByteArray) (a1 : Unit) : Option Int :=
 (Xl k a0 a1 true).bind fun r575 => (some r575)
theorem Qbd (k : Nat) (a0 : ByteArray) (a1 : Unit) (r : Int) (h : Xk k a0 a1 = some r) : VC Try.prog 61 [vs a0, VV.fn 60 []] (vi r) := by
 unfold Xk at h
 obtain ⟨r575, h576, h⟩ := bs h
 have e577 := (Qbc k a0 a1 true _ h576)
 injection h with h; subst h
 exact Qo pm pn Try.func61 (r0 := vi r575) (ans := [.reg (.n :: []), .reg (.n :: .n :: .call (vi r575) :: .n :: [])]) (fr := true) (by kernel_rfl) (an (an (ti tt) (an (t2 (an e577 (ti tt))) tt)) (ti tt)) (Wv.refl _)
def Xc (k : Nat) (a0 : ByteArray) (a1 : Unit) : Option Bool :=
 (Xk k a0 a1).bind fun r581 => (some (decide (0 <= r581)))
theorem Qa3 (k : Nat) (a0 : ByteArray) (a1 : Unit) (r : Bool) (h : Xc k a0 a1 = some r) : VC Try.prog 59 [vs a0, VV.fn 60 []] (vb r) := by
 unfold Xc at h
 obtain ⟨r581, h582, h⟩ := bs h
 have e583 := (Qbd k a0 a1 _ h582)
 injection h with h; subst h
 exact Qo pm pn Try.func59 (r0 := vb (decide (0 <= r581))) (ans := [.reg (.n :: []), .reg (.n :: .n :: .call (vi r581) :: .n :: .n :: [])]) (fr := true) (by kernel_rfl) (an (an (ti tt) (an (t2 (an e583 (t2 tt))) tt)) (ti tt)) (Wv.refl _)
def Q3t (z0 : Bool) (z1 : Bool) (z2 : Bool) : List Ans := (.n :: .n :: .v VV.any :: .call (vb z0) :: nN 4 (.call (vb z1) :: .b true :: .n :: .n :: .call (vb z2) :: .n :: .b true :: .n :: []))
def Q3u (z0 : Bool) (z1 : Bool) : List Ans := (.n :: .n :: .v VV.any :: .call (vb z0) :: nN 4 (.call (vb z1) :: .b true :: .n :: nS 3 (.b false :: .n :: [])))
def Q3v (z0 : Bool) : List Ans := (.n :: .n :: .v VV.any :: .call (vb z0) :: .n :: nS 4 (.b false :: .n :: nS 3 (.b false :: .n :: [])))
def Qcj (k : Nat) (a0 : ByteArray) : Option Bool :=
 (Zh k 1 12 ([(a0.size : Int)] : List Int)).bind fun r590 => (if r590 = true then (if (0 : Int) <= 0 /\ 0 < (a0.size : Int) then ((Qas k (IntKind.i32.wrap (bat a0 0))).bind fun r595 => (if r595 = true then ((Xc k a0 ()).bind fun r599 => (some (!r599))) else (some false))) else none) else (some false))
theorem Qj5 (k : Nat) (a0 : ByteArray) (r : Bool) (h : Qcj k a0 = some r) : VC Try.prog 54 [vs a0] (vb r) := by
 unfold Qcj at h
 obtain ⟨r590, h591, h⟩ := bs h
 have e592 := (VC.args (Zo k 1 12 ([(a0.size : Int)] : List Int) _ h591) (Q3o a0))
 rcases ifs h with ⟨h593, h⟩ | ⟨h593, h⟩
 ·obtain ⟨h594, h⟩ := ifn h
  obtain ⟨r595, h596, h⟩ := bs h
  have e597 := (an h593 (Qah k (IntKind.i32.wrap (bat a0 0)) _ h596))
  rcases ifs h with ⟨h598, h⟩ | ⟨h598, h⟩
  ·obtain ⟨r599, h600, h⟩ := bs h
   have e601 := (an h598 (Qa3 k a0 () _ h600))
   have e602 := (t3 (an e592 (ti (an (an h593 tt) (an (an h593 h594) (an (an h593 tt) (an e597 (an h593 (ti (an (an h598 tt) (an e601 (an (an h598 tt) (an h598 (ti tt))))))))))))))
   injection h with h; subst h
   exact Qo pm pn Try.func54 (r0 := vb (!r599)) (ans := [.reg (.n :: []), .reg (Q3t r590 r595 r599)]) (fr := true) (by kernel_rfl) (an (an (ti tt) (an e602 tt)) (ti tt)) (Wv.refl _)
  ·have e603 := (t3 (an e592 (ti (an (an h593 tt) (an (an h593 h594) (an (an h593 tt) (an e597 (an h593 (ti (u4 (Qy h598) (ti tt)))))))))))
   injection h with h; subst h
   exact Qo pm pn Try.func54 (r0 := vb false) (ans := [.reg (.n :: []), .reg (Q3u r590 r595)]) (fr := true) (by kernel_rfl) (an (an (ti tt) (an e603 tt)) (ti tt)) (Wv.refl _)
 ·have e604 := (t3 (an e592 (ti (u5 (Qy h593) (ti (an rf (an rf (an rf (an rf (ti tt))))))))))
  injection h with h; subst h
  exact Qo pm pn Try.func54 (r0 := vb false) (ans := [.reg (.n :: []), .reg (Q3v r590)]) (fr := true) (by kernel_rfl) (an (an (ti tt) (an e604 tt)) (ti tt)) (Wv.refl _)
theorem Q3w (z0 : Qa) : [vi 0, vi 1295999, VV.tr (List.map vi ([z0.Azimuth] : List Int)) (([z0.Azimuth] : List Int).length)] = [vi 0, vi 1295999, VV.tr [vi z0.Azimuth] 1] := by first | rfl | (simp only [Qn, map_cons, map_nil, un_i, Ji, length_map, length_cons, length_nil]; done) | (simp only [Qn, map_cons, map_nil, un_i, Ji, length_map, length_cons, length_nil]; rfl) | (simp only [Qn, map_cons, map_nil, un_i, Ji, length_map, length_cons, length_nil, length_cons, length_nil, length_append]; done)
theorem Q3x (z0 : Qa) : [vi 0, vi 324000, VV.tr (List.map vi ([z0.Height] : List Int)) (([z0.Height] : List Int).length)] = [vi 0, vi 324000, VV.tr [vi z0.Height] 1] := by first | rfl | (simp only [Qn, map_cons, map_nil, un_i, Ji, length_map, length_cons, length_nil]; done) | (simp only [Qn, map_cons, map_nil, un_i, Ji, length_map, length_cons, length_nil]; rfl) | (simp only [Qn, map_cons, map_nil, un_i, Ji, length_map, length_cons, length_nil, length_cons, length_nil, length_append]; done)
theorem Q3y (z0 : Qa) : [vi 0, vi 10000000, VV.tr (List.map vi ([z0.From, z0.To] : List Int)) (([z0.From, z0.To] : List Int).length)] = [vi 0, vi 10000000, VV.tr [vi z0.From, vi z0.To] 2] := by first | rfl | (simp only [Qn, map_cons, map_nil, un_i, Ji, length_map, length_cons, length_nil]; done) | (simp only [Qn, map_cons, map_nil, un_i, Ji, length_map, length_cons, length_nil]; rfl) | (simp only [Qn, map_cons, map_nil, un_i, Ji, length_map, length_cons, length_nil, length_cons, length_nil, length_append]; done)
theorem Q3z (z0 : Qa) : [vi 1, vi 10000, VV.tr (List.map vi ([z0.Dwell] : List Int)) (([z0.Dwell] : List Int).length)] = [vi 1, vi 10000, VV.tr [vi z0.Dwell] 1] := by first | rfl | (simp only [Qn, map_cons, map_nil, un_i, Ji, length_map, length_cons, length_nil]; done) | (simp only [Qn, map_cons, map_nil, un_i, Ji, length_map, length_cons, length_nil]; rfl) | (simp only [Qn, map_cons, map_nil, un_i, Ji, length_map, length_cons, length_nil, length_cons, length_nil, length_append]; done)
def Qly (z0 : Bool) (z1 : Bool) : List Ans := (.n :: .n :: .v VV.any :: .call (vb z0) :: nN 4 (.v VV.any :: .call (vb z1) :: .n :: .b false :: .n :: []))
def Qrp (z0 : Bool) (z1 : Bool) : List Ans := (nN 4 (.v VV.any :: .call (vb z0) :: nN 4 (.v VV.any :: .call (vb z1) :: .n :: .b false :: .n :: [])))
def Yj (k : Nat) (a0 : Qa) : Option Int :=
 (Qcj k a0.Name).bind fun r630 => (if r630 = true then ((Zh k 0 1295999 ([a0.Azimuth] : List Int)).bind fun r634 => (if r634 = true then ((Zh k 0 324000 ([a0.Height] : List Int)).bind fun r638 => (if r638 = true then ((Zh k 0 10000000 ([a0.From, a0.To] : List Int)).bind fun r643 => (if r643 = true then ((Zh k 1 10000 ([a0.Dwell] : List Int)).bind fun r647 => (if r647 = true then (if a0.To <= a0.From then (some 9) else (some 0)) else (some 2))) else (some 2))) else (some 2))) else (some 2))) else (some 4))
theorem Qde (k : Nat) (a0 : Qa) (r : Int) (h : Yj k a0 = some r) : VC Try.prog 48 [VV.ag (Qb a0)] (vi r) := by
 unfold Yj at h
 obtain ⟨r630, h631, h⟩ := bs h
 have e632 := (t2 (an (Qj5 k a0.Name _ h631) (t2 tt)))
 rcases ifs h with ⟨h633, h⟩ | ⟨h633, h⟩
 ·obtain ⟨r634, h635, h⟩ := bs h
  have e636 := (VC.args (Zo k 0 1295999 ([a0.Azimuth] : List Int) _ h635) (Q3w a0))
  rcases ifs h with ⟨h637, h⟩ | ⟨h637, h⟩
  ·obtain ⟨r638, h639, h⟩ := bs h
   have e640 := (an (Qi h637) (VC.args (Zo k 0 324000 ([a0.Height] : List Int) _ h639) (Q3x a0)))
   have e641 := (t3 (an e636 (t2 (u3 (an (Qi h637) tt) (an e640 (an (an (Qi h637) tt) (an (Qi h637) (ti tt))))))))
   rcases ifs h with ⟨h642, h⟩ | ⟨h642, h⟩
   ·obtain ⟨r643, h644, h⟩ := bs h
    have e645 := (VC.args (Zo k 0 10000000 ([a0.From, a0.To] : List Int) _ h644) (Q3y a0))
    rcases ifs h with ⟨h646, h⟩ | ⟨h646, h⟩
    ·obtain ⟨r647, h648, h⟩ := bs h
     have e649 := (an (Qi h646) (VC.args (Zo k 1 10000 ([a0.Dwell] : List Int) _ h648) (Q3z a0)))
     have e650 := (t5 (an e645 (t2 (u3 (an (Qi h646) tt) (an e649 (an (an (Qi h646) tt) (an (Qi h646) (ti tt))))))))
     rcases ifs h with ⟨h651, h⟩ | ⟨h651, h⟩
     ·rcases ifs h with ⟨h652, h⟩ | ⟨h652, h⟩
      ·injection h with h; subst h
       exact Qo pm pn Try.func48 (r0 := vi 9) (ans := [.reg (.n :: .n :: []), .reg (.n :: .n :: .call (vb r630) :: .n :: .n :: []), .br false, .reg (Qly r634 r638), .br false, .reg (Qrp r643 r647), .br false, .reg (nN 6 []), .br true, .reg (.n :: [])]) (fr := true) (by kernel_rfl) (an (an (t2 tt) (an e632 (an (Qi h633) (an e641 (an (Qi h642) (an e650 (an (Qi h651) (an (t6 tt) (an (dt h652) (an (ti tt) tt)))))))))) (ti tt)) (Wv.refl _)
      ·injection h with h; subst h
       exact Qo pm pn Try.func48 (r0 := vi 0) (ans := [.reg (.n :: .n :: []), .reg (.n :: .n :: .call (vb r630) :: .n :: .n :: []), .br false, .reg (Qly r634 r638), .br false, .reg (Qrp r643 r647), .br false, .reg (nN 6 []), .br false, .reg (.n :: [])]) (fr := true) (by kernel_rfl) (an (an (t2 tt) (an (an e632 (an (Qi h633) (an e641 (an (Qi h642) (an e650 (an (Qi h651) (an (t6 tt) (tf h652)))))))) (an (ti tt) tt))) (ti tt)) (Wv.refl _)
     ·injection h with h; subst h
      exact Qo pm pn Try.func48 (r0 := vi 2) (ans := [.reg (.n :: .n :: []), .reg (.n :: .n :: .call (vb r630) :: .n :: .n :: []), .br false, .reg (Qly r634 r638), .br false, .reg (Qrp r643 r647), .br true, .reg (.n :: [])]) (fr := true) (by kernel_rfl) (an (an (t2 tt) (an e632 (an (Qi h633) (an e641 (an (Qi h642) (an e650 (an (Qq (Qy h651)) (an (ti tt) tt)))))))) (ti tt)) (Wv.refl _)
    ·have e653 := (t5 (an e645 (t2 (u6 (Qq (Qy h646)) (ti tt)))))
     injection h with h; subst h
     exact Qo pm pn Try.func48 (r0 := vi 2) (ans := [.reg (.n :: .n :: []), .reg (.n :: .n :: .call (vb r630) :: .n :: .n :: []), .br false, .reg (Qly r634 r638), .br false, .reg (nN 4 (.v VV.any :: .call (vb r643) :: .n :: .n :: nS 5 (.b true :: .n :: []))), .br true, .reg (.n :: [])]) (fr := true) (by kernel_rfl) (an (an (t2 tt) (an e632 (an (Qi h633) (an e641 (an (Qi h642) (an e653 (an rt (an (ti tt) tt)))))))) (ti tt)) (Wv.refl _)
   ·injection h with h; subst h
    exact Qo pm pn Try.func48 (r0 := vi 2) (ans := [.reg (.n :: .n :: []), .reg (.n :: .n :: .call (vb r630) :: .n :: .n :: []), .br false, .reg (Qly r634 r638), .br true, .reg (.n :: [])]) (fr := true) (by kernel_rfl) (an (an (t2 tt) (an e632 (an (Qi h633) (an e641 (an (Qq (Qy h642)) (an (ti tt) tt)))))) (ti tt)) (Wv.refl _)
  ·have e654 := (t3 (an e636 (t2 (u6 (Qq (Qy h637)) (ti tt)))))
   injection h with h; subst h
   exact Qo pm pn Try.func48 (r0 := vi 2) (ans := [.reg (.n :: .n :: []), .reg (.n :: .n :: .call (vb r630) :: .n :: .n :: []), .br false, .reg (.n :: .n :: .v VV.any :: .call (vb r634) :: .n :: .n :: nS 5 (.b true :: .n :: [])), .br true, .reg (.n :: [])]) (fr := true) (by kernel_rfl) (an (an (t2 tt) (an e632 (an (Qi h633) (an e654 (an rt (an (ti tt) tt)))))) (ti tt)) (Wv.refl _)
 ·injection h with h; subst h
  exact Qo pm pn Try.func48 (r0 := vi 4) (ans := [.reg (.n :: .n :: []), .reg (.n :: .n :: .call (vb r630) :: .n :: .n :: []), .br true, .reg (.n :: [])]) (fr := true) (by kernel_rfl) (an (an (t2 tt) (an e632 (an (Qq (Qy h633)) (an (ti tt) tt)))) (ti tt)) (Wv.refl _)
theorem Q30 (z0 : Qa) (z1 : Int) (z2 : Int) (z3 : Int) : VV.ag [vi (w64 ((w64 (z0.Azimuth + z1)) - (w64 (z2 * 1296000)))), vi (w64 (z0.Height + z3))] = VV.ag (Qdy (⟨w64 ((w64 (z0.Azimuth + z1)) - (w64 (z2 * 1296000))), w64 (z0.Height + z3)⟩ : A26)) := by first | rfl | (simp only [Qn, map_cons, map_nil, un_i, Y2]; done) | (simp only [Qn, map_cons, map_nil, un_i, Y2]; rfl) | (simp only [Qn, map_cons, map_nil, un_i, Y2, length_cons, length_nil, length_append]; done)
def Qap (k : Nat) (a0 : Qd) (a1 : Qa) (a2 : Int) : Option A26 :=
 (Qa9 k a0.Drift a2).bind fun r666 => ((Qbl k (w64 (a1.Azimuth + r666)) 1296000).bind fun r670 => ((Qa9 k a0.Refraction a1.Height).bind fun r673 => (some (⟨w64 ((w64 (a1.Azimuth + r666)) - (w64 (r670 * 1296000))), w64 (a1.Height + r673)⟩ : A26))))
theorem Qev (k : Nat) (a0 : Qd) (a1 : Qa) (a2 : Int) (r : A26) (h : Qap k a0 a1 a2 = some r) : VC Try.prog 35 [VV.ag (Zf a0), VV.ag (Qb a1), vi a2] (VV.ag (Qdy r)) := by
 unfold Qap at h
 obtain ⟨r666, h667, h⟩ := bs h
 have e668 := (Qfu k a0.Drift a2 _ h667)
 have e669 := (t5 (an e668 (t2 tt)))
 obtain ⟨r670, h671, h⟩ := bs h
 have e672 := (Qfb k (w64 (a1.Azimuth + r666)) 1296000 _ h671)
 obtain ⟨r673, h674, h⟩ := bs h
 have e675 := (Qfu k a0.Refraction a1.Height _ h674)
 have e676 := (t7 (an e675 (t3 tt)))
 injection h with h; subst h
 exact Qo pm pn Try.func35 (r0 := VV.ag [vi (w64 ((w64 (a1.Azimuth + r666)) - (w64 (r670 * 1296000)))), vi (w64 (a1.Height + r673))]) (ans := [.reg (nN 3 []), .reg (nN 5 (.call (vi r666) :: .n :: .n :: [])), .reg (.n :: .n :: .call (vi r670) :: nN 3 []), .reg (nN 7 (.call (vi r673) :: nN 3 []))]) (fr := true) (by kernel_rfl) (an (an (t3 tt) (an e669 (an (t2 (an e672 (t3 tt))) (an e676 tt)))) (an (t3 tt) tt)) (Wv.of_eq (Q30 a1 r666 r670 r673))
theorem Q31 (z0 : Qd) (z1 : A26) : [vi z0.Low, vi z0.High, VV.tr (List.map vi ([z1.e1] : List Int)) (([z1.e1] : List Int).length)] = [vi z0.Low, vi z0.High, VV.tr [vi z1.e1] 1] := by first | rfl | (simp only [Qn, map_cons, map_nil, un_i, Ji, length_map, length_cons, length_nil]; done) | (simp only [Qn, map_cons, map_nil, un_i, Ji, length_map, length_cons, length_nil]; rfl) | (simp only [Qn, map_cons, map_nil, un_i, Ji, length_map, length_cons, length_nil, length_cons, length_nil, length_append]; done)
def Qee (k : Nat) (a0 : Int) (a1 : Int) : Option Int :=
 (Qbl k (w64 (0 - a0)) a1).bind fun r690 => (some (w64 (0 - r690)))
theorem Qjk (k : Nat) (a0 : Int) (a1 : Int) (r : Int) (h : Qee k a0 a1 = some r) : VC Try.prog 32 [vi a0, vi a1] (vi r) := by
 unfold Qee at h
 obtain ⟨r690, h691, h⟩ := bs h
 have e692 := (Qfb k (w64 (0 - a0)) a1 _ h691)
 injection h with h; subst h
 exact Qo pm pn Try.func32 (r0 := vi (w64 (0 - r690))) (ans := [.reg (.n :: []), .reg (nN 3 (.call (vi r690) :: .n :: .n :: []))]) (fr := true) (by kernel_rfl) (an (an (ti tt) (an (t3 (an e692 (t2 tt))) tt)) (ti tt)) (Wv.refl _)
def Qby (a0 : Qd) (a1 : Qa) (r724 : A26) (y5 : List Int) (y6 : List Int) (x12 : Int) : VS := ⟨mkA [(3, VV.pt 0 0), (6, VV.pt 2 0), (9, vi r724.e0), (11, VV.pt 4 0), (12, vi x12)], [some ⟨true, 1, Zf a0⟩, some ⟨true, 1, Qb a1⟩, some ⟨true, 1, [vs ByteArray.empty, vi 0, vi 0, vi 0, vi 0, vi 0, VV.c (.slice none 0 0), VV.c (.slice none 0 0)]⟩, some ⟨true, 1, Qdy r724⟩, some ⟨true, 1, [vs a1.Name, vi a1.Azimuth, vi a1.Height, vi a1.From, vi a1.To, vi a1.Dwell, VV.rf 5 0 y5.length, VV.rf 6 0 y6.length]⟩, some ⟨false, 1, List.map vi y5⟩, some ⟨false, 1, List.map vi y6⟩], .nil⟩
def Qai (a0 : Qd) (a1 : Qa) (r724 : A26) (r : (List Int) × (List Int)) : VS := ⟨mkA [(6, VV.pt 2 0), (11, VV.pt 4 0)], [some ⟨true, 1, Zf a0⟩, some ⟨true, 1, Qb a1⟩, some ⟨true, 1, [vs ByteArray.empty, vi 0, vi 0, vi 0, vi 0, vi 0, VV.c (.slice none 0 0), VV.c (.slice none 0 0)]⟩, some ⟨true, 1, Qdy r724⟩, some ⟨true, 1, [vs a1.Name, vi a1.Azimuth, vi a1.Height, vi a1.From, vi a1.To, vi a1.Dwell, VV.rf 5 0 r.1.length, VV.rf 6 0 r.2.length]⟩, some ⟨false, 1, List.map vi r.1⟩, some ⟨false, 1, List.map vi r.2⟩], .nil⟩
def Jb (k : Nat) (a0 : Qd) (a1 : Qa) (r724 : A26) : Nat -> (List Int) -> (List Int) -> Int -> Option ((List Int) × (List Int))
 | 0, _, _, _ => none
 | fuel + 1, y5, y6, x12 => if (w64 (r724.e0 + (w64 (x12 * 1296000)))) <= a0.Most then (if y5.length + ([x12] : List Int).length <= 1000000000 then (if y6.length + ([w64 (r724.e0 + (w64 (x12 * 1296000)))] : List Int).length <= 1000000000 then (Jb k a0 a1 r724 fuel (y5 ++ ([x12] : List Int)) (y6 ++ ([w64 (r724.e0 + (w64 (x12 * 1296000)))] : List Int)) (w64 (x12 + 1))) else none) else none) else (some (y5, y6))
theorem Qha (k : Nat) (a0 : Qd) (a1 : Qa) (r724 : A26) : ∀ (fuel : Nat) (y5 : List Int) (y6 : List Int) (x12 : Int) (r : (List Int) × (List Int)), Jb k a0 a1 r724 fuel y5 y6 x12 = some r -> (J9 none Try.prog (szF Try.f34) (X9 Try.f34 0) (Qby a0 a1 r724 y5 y6 x12) (.exit 0) (Qai a0 a1 r724 r)) := by
 intro fuel
 induction fuel with
 | zero => intro y5 y6 x12 r h; rw [Jb.eq_1] at h; cases h
 | succ fuel ih =>
  intro y5 y6 x12 r h
  rw [Jb.eq_2] at h
  rcases ifs h with ⟨h755, h⟩ | ⟨h755, h⟩
  ·obtain ⟨h756, h⟩ := ifn h
   have e757 := (show List.length (List.map vi y5) = y5.length * 1 /\ List.length [vi x12] = 1 * 1 /\ (y5.length + 1) * 8 <= 140737488355328 /\ y5.length + 1 < 1099511627776 /\ List.all [vi x12] VV.still = true from ⟨(by simp), (by rw [show [vi x12] = List.map vi ([x12] : List Int) from rfl]; simp), (by first | omega | (simp at h756 ⊢; omega)), (by first | omega | (simp at h756 ⊢; omega)), (by rw [show [vi x12] = List.map vi ([x12] : List Int) from rfl]; exact Qnf _)⟩)
   obtain ⟨h758, h⟩ := ifn h
   have e759 := (show List.length (List.map vi y6) = y6.length * 1 /\ List.length [vi (w64 (r724.e0 + (w64 (x12 * 1296000))))] = 1 * 1 /\ (y6.length + 1) * 8 <= 140737488355328 /\ y6.length + 1 < 1099511627776 /\ List.all [vi (w64 (r724.e0 + (w64 (x12 * 1296000))))] VV.still = true from ⟨(by simp), (by rw [show [vi (w64 (r724.e0 + (w64 (x12 * 1296000))))] = List.map vi ([w64 (r724.e0 + (w64 (x12 * 1296000)))] : List Int) from rfl]; simp), (by first | omega | (simp at h758 ⊢; omega)), (by first | omega | (simp at h758 ⊢; omega)), (by rw [show [vi (w64 (r724.e0 + (w64 (x12 * 1296000))))] = List.map vi ([w64 (r724.e0 + (w64 (x12 * 1296000)))] : List Int) from rfl]; exact Qnf _)⟩)
   have e760 := (t7 (an e759 (t2 tt)))
   have h2 := ih _ _ _ _ h
   obtain ⟨q, hv, hq⟩ := pkR (rd := none) (P := Try.prog) (fn := Try.f34) (k := 0) (s := (Qby a0 a1 r724 y5 y6 x12)) (ans := [.reg (nN 7 []), .br true, .reg (nN 7 []), .reg (nN 10 []), .reg (nN 3 [])]) (c := ⟨[(3, none), (6, none), (9, none), (11, none), (12, none)], [none, none, none, none, some [vs a1.Name, vi a1.Azimuth, vi a1.Height, vi a1.From, vi a1.To, vi a1.Dwell, VV.rf 5 0 ((y5 ++ ([x12] : List Int)).length), VV.rf 6 0 ((y6 ++ ([w64 (r724.e0 + (w64 (x12 * 1296000)))] : List Int)).length)], some (List.map vi (y5 ++ ([x12] : List Int))), some (List.map vi (y6 ++ ([w64 (r724.e0 + (w64 (x12 * 1296000)))] : List Int)))], []⟩) (e := .normal) (s1 := (Qby a0 a1 r724 (y5 ++ ([x12] : List Int)) (y6 ++ ([w64 (r724.e0 + (w64 (x12 * 1296000)))] : List Int)) (w64 (x12 + 1)))) (an (an (an (t7 tt) (te h755)) (an (an (t4 (an e757 (t2 tt))) e760) (t3 tt))) (ti (an (show [vs a1.Name, vi a1.Azimuth, vi a1.Height, vi a1.From, vi a1.To, vi a1.Dwell, VV.rf 5 0 (y5.length + 1), VV.rf 6 0 (y6.length + 1)] = [vs a1.Name, vi a1.Azimuth, vi a1.Height, vi a1.From, vi a1.To, vi a1.Dwell, VV.rf 5 0 ((y5 ++ ([x12] : List Int)).length), VV.rf 6 0 ((y6 ++ ([w64 (r724.e0 + (w64 (x12 * 1296000)))] : List Int)).length)] from (by first | rfl | simp)) (an (show (List.map vi y5) ++ [vi x12] = List.map vi (y5 ++ ([x12] : List Int)) from (by rw [show [vi x12] = List.map vi ([x12] : List Int) from rfl]; exact List.map_append.symm)) (an (show (List.map vi y6) ++ [vi (w64 (r724.e0 + (w64 (x12 * 1296000))))] = List.map vi (y6 ++ ([w64 (r724.e0 + (w64 (x12 * 1296000)))] : List Int)) from (by rw [show [vi (w64 (r724.e0 + (w64 (x12 * 1296000))))] = List.map vi ([w64 (r724.e0 + (w64 (x12 * 1296000)))] : List Int) from rfl]; exact List.map_append.symm)) tt))))) (by kernel_rfl)
   exact Qv pm pn hv hq h2
  ·injection h with h; subst h
   exact Qj (c := ⟨[(6, none), (11, none)], [none, none, none, none, none, none, none], []⟩) (s1 := (Qai a0 a1 r724 (y5, y6))) pm pn (ans := [.reg (nN 7 []), .br false]) (by kernel_rfl) (by intro e; cases e) (an (an (t7 tt) (tf h755)) (ti tt))
theorem Qxt  : vi 0 = vi (((⟨(⟨ByteArray.empty, 0, 0, 0, 0, 0⟩ : Qa), [], []⟩ : Xe).SkyTarget).Dwell) := by first | rfl | (simp only [Qn, map_cons, map_nil, un_i]; done) | (simp only [Qn, map_cons, map_nil, un_i]; rfl) | (simp only [Qn, map_cons, map_nil, un_i, length_cons, length_nil, length_append]; done)
theorem Qxu  : vi 0 = vi (((⟨(⟨ByteArray.empty, 0, 0, 0, 0, 0⟩ : Qa), [], []⟩ : Xe).SkyTarget).To) := by first | rfl | (simp only [Qn, map_cons, map_nil, un_i]; done) | (simp only [Qn, map_cons, map_nil, un_i]; rfl) | (simp only [Qn, map_cons, map_nil, un_i, length_cons, length_nil, length_append]; done)
theorem Qxv  : vi 0 = vi (((⟨(⟨ByteArray.empty, 0, 0, 0, 0, 0⟩ : Qa), [], []⟩ : Xe).SkyTarget).From) := by first | rfl | (simp only [Qn, map_cons, map_nil, un_i]; done) | (simp only [Qn, map_cons, map_nil, un_i]; rfl) | (simp only [Qn, map_cons, map_nil, un_i, length_cons, length_nil, length_append]; done)
theorem Qxw  : vi 0 = vi (((⟨(⟨ByteArray.empty, 0, 0, 0, 0, 0⟩ : Qa), [], []⟩ : Xe).SkyTarget).Height) := by first | rfl | (simp only [Qn, map_cons, map_nil, un_i]; done) | (simp only [Qn, map_cons, map_nil, un_i]; rfl) | (simp only [Qn, map_cons, map_nil, un_i, length_cons, length_nil, length_append]; done)
theorem Qxx  : vi 0 = vi (((⟨(⟨ByteArray.empty, 0, 0, 0, 0, 0⟩ : Qa), [], []⟩ : Xe).SkyTarget).Azimuth) := by first | rfl | (simp only [Qn, map_cons, map_nil, un_i]; done) | (simp only [Qn, map_cons, map_nil, un_i]; rfl) | (simp only [Qn, map_cons, map_nil, un_i, length_cons, length_nil, length_append]; done)
theorem Qxy  : vs ByteArray.empty = vs (((⟨(⟨ByteArray.empty, 0, 0, 0, 0, 0⟩ : Qa), [], []⟩ : Xe).SkyTarget).Name) := by first | rfl | (simp only [Qcx, map_cons, map_nil, un_s]; done) | (simp only [Qcx, map_cons, map_nil, un_s]; rfl) | (simp only [Qcx, map_cons, map_nil, un_s, length_cons, length_nil, length_append]; done)
theorem Q10 (z0 : Qa) (z1 : (List Int) × (List Int)) : VV.tu [VV.ag [vs z0.Name, vi z0.Azimuth, vi z0.Height, vi z0.From, vi z0.To, vi z0.Dwell, VV.fw 1 (List.drop 0 (List.map unfr (List.map vi z1.1))) z1.1.length, VV.fw 1 (List.drop 0 (List.map unfr (List.map vi z1.2))) z1.2.length], vi 0] = VV.tu [VV.ag [vs (((⟨z0, z1.1, z1.2⟩ : Xe).SkyTarget).Name), vi (((⟨z0, z1.1, z1.2⟩ : Xe).SkyTarget).Azimuth), vi (((⟨z0, z1.1, z1.2⟩ : Xe).SkyTarget).Height), vi (((⟨z0, z1.1, z1.2⟩ : Xe).SkyTarget).From), vi (((⟨z0, z1.1, z1.2⟩ : Xe).SkyTarget).To), vi (((⟨z0, z1.1, z1.2⟩ : Xe).SkyTarget).Dwell), VV.fw 1 (List.map vi ((⟨z0, z1.1, z1.2⟩ : Xe).turns)) (((⟨z0, z1.1, z1.2⟩ : Xe).turns).length), VV.fw 1 (List.map vi ((⟨z0, z1.1, z1.2⟩ : Xe).positions)) (((⟨z0, z1.1, z1.2⟩ : Xe).positions).length)], vi 0] := by first | rfl | (simp only [Qdl, Qn, Qcx, map_cons, map_nil, un_i, un_s, length_map, length_cons, length_nil]; done) | (simp only [Qdl, Qn, Qcx, map_cons, map_nil, un_i, un_s, length_map, length_cons, length_nil]; rfl) | (simp only [Qdl, Qn, Qcx, map_cons, map_nil, un_i, un_s, length_map, length_cons, length_nil, length_cons, length_nil, length_append]; done)
def Qbo (k : Nat) (a0 : Qd) (a1 : Qa) (a2 : Int) : Option (Xe × Int) :=
 (Qap k a0 a1 a2).bind fun r724 => ((Zh k a0.Low a0.High ([r724.e1] : List Int)).bind fun r729 => (if r729 = true then ((Qee k (w64 (a0.Least - r724.e0)) 1296000).bind fun r734 => ((Jb k a0 a1 r724 k ([] : List Int) ([] : List Int) r734).bind fun r762 => (if ((r762.1.length : Nat) : Int) = 0 then (some ((⟨(⟨ByteArray.empty, 0, 0, 0, 0, 0⟩ : Qa), [], []⟩ : Xe), 12)) else (some ((⟨a1, r762.1, r762.2⟩ : Xe), 0))))) else (some ((⟨(⟨ByteArray.empty, 0, 0, 0, 0, 0⟩ : Qa), [], []⟩ : Xe), 26))))
theorem Qgd (k : Nat) (a0 : Qd) (a1 : Qa) (a2 : Int) (r : (Xe × Int)) (h : Qbo k a0 a1 a2 = some r) : VC Try.prog 34 [VV.ag (Zf a0), VV.ag (Qb a1), vi a2] (VV.tu [VV.ag [vs r.1.SkyTarget.Name, vi r.1.SkyTarget.Azimuth, vi r.1.SkyTarget.Height, vi r.1.SkyTarget.From, vi r.1.SkyTarget.To, vi r.1.SkyTarget.Dwell, VV.fw 1 (List.map vi r.1.turns) r.1.turns.length, VV.fw 1 (List.map vi r.1.positions) r.1.positions.length], vi r.2]) := by
 unfold Qbo at h
 obtain ⟨r724, h725, h⟩ := bs h
 have e726 := (t3 (an (Qev k a0 a1 a2 _ h725) (t2 tt)))
 have e727 := (show (0:Int) <= 0 /\ (0:Int) < ((2 : Nat) : Int) from ⟨by decide, by decide⟩)
 have e728 := (show (0:Int) <= 1 /\ (1:Int) < ((2 : Nat) : Int) from ⟨by decide, by decide⟩)
 obtain ⟨r729, h730, h⟩ := bs h
 have e731 := (VC.args (Zo k a0.Low a0.High ([r724.e1] : List Int) _ h730) (Q31 a0 r724))
 have e732 := (t6 (an e731 (ti tt)))
 rcases ifs h with ⟨h733, h⟩ | ⟨h733, h⟩
 ·obtain ⟨r734, h735, h⟩ := bs h
  have e736 := (Qjk k (w64 (a0.Least - r724.e0)) 1296000 _ h735)
  obtain ⟨r762, h761, h⟩ := bs h
  have hph761 := Qha k a0 a1 r724 _ _ _ _ _ h761
  have e763 := (an (ti tt) (VRun.loop hph761))
  rcases ifs h with ⟨h764, h⟩ | ⟨h764, h⟩
  ·injection h with h; subst h
   exact Qo pm pn Try.func34 (r0 := VV.tu [VV.ag [vs ByteArray.empty, vi 0, vi 0, vi 0, vi 0, vi 0, VV.c (.slice none 0 0), VV.c (.slice none 0 0)], vi 12]) (ans := [.reg (nN 4 []), .reg (nN 3 (.call (VV.ag (Qdy r724)) :: .n :: .n :: [])), .reg (nN 6 []), .reg (nN 5 (.v VV.any :: .call (vb r729) :: .n :: [])), .br false, .reg (nN 4 []), .reg (nN 4 (.call (vi r734) :: .n :: [])), .sub ⟨[(3, none), (6, none), (9, none), (11, none), (12, none)], [none, none, none, none, none], [.b 4 6 1, .b 4 7 1]⟩ (.exit 0) (Qai a0 a1 r724 r762), .reg (nN 4 []), .br true, .reg (nN 3 [])]) (fr := true) (by kernel_rfl) (an (an (t4 tt) (an e726 (an (an e727 (ti (an e728 (t3 tt)))) (an (an e732 (an (Qi h733) tt)) (an (t4 tt) (an (an (t4 (an e736 (ti tt))) e763) (an (t4 tt) (an (dt h764) (an (t3 tt) tt))))))))) (an (t9 tt) (ti tt))) (Wv.tuL (.cons (Wv.agL (.cons (Wv.of_eq Qxy) (.cons (Wv.of_eq Qxx) (.cons (Wv.of_eq Qxw) (.cons (Wv.of_eq Qxv) (.cons (Wv.of_eq Qxu) (.cons (Wv.of_eq Qxt) (.cons Wv.Qhu (.cons Wv.Qhu .nil))))))))) (.cons (Wv.refl _) .nil)))
  ·injection h with h; subst h
   exact Qo pm pn Try.func34 (r0 := VV.tu [VV.ag [vs a1.Name, vi a1.Azimuth, vi a1.Height, vi a1.From, vi a1.To, vi a1.Dwell, VV.fw 1 (List.drop 0 (List.map unfr (List.map vi r762.1))) r762.1.length, VV.fw 1 (List.drop 0 (List.map unfr (List.map vi r762.2))) r762.2.length], vi 0]) (ans := [.reg (nN 4 []), .reg (nN 3 (.call (VV.ag (Qdy r724)) :: .n :: .n :: [])), .reg (nN 6 []), .reg (nN 5 (.v VV.any :: .call (vb r729) :: .n :: [])), .br false, .reg (nN 4 []), .reg (nN 4 (.call (vi r734) :: .n :: [])), .sub ⟨[(3, none), (6, none), (9, none), (11, none), (12, none)], [none, none, none, none, none], [.b 4 6 1, .b 4 7 1]⟩ (.exit 0) (Qai a0 a1 r724 r762), .reg (nN 4 []), .br false, .reg (nN 3 [])]) (fr := true) (by kernel_rfl) (an (an (t4 tt) (an e726 (an (an e727 (ti (an e728 (t3 tt)))) (an (an e732 (an (Qi h733) tt)) (an (t4 tt) (an (an (t4 (an e736 (ti tt))) e763) (an (an (t4 tt) (tf h764)) (an (t3 tt) tt)))))))) (an (t7 (an (show List.all (List.map vi r762.1) new0 = true from (by exact Qgm _)) (an (show List.all (List.map vi r762.2) new0 = true from (by exact Qgm _)) tt))) (ti tt))) (Wv.of_eq (Q10 a1 r762))
 ·injection h with h; subst h
  exact Qo pm pn Try.func34 (r0 := VV.tu [VV.ag [vs ByteArray.empty, vi 0, vi 0, vi 0, vi 0, vi 0, VV.c (.slice none 0 0), VV.c (.slice none 0 0)], vi 26]) (ans := [.reg (nN 4 []), .reg (nN 3 (.call (VV.ag (Qdy r724)) :: .n :: .n :: [])), .reg (nN 6 []), .reg (nN 5 (.v VV.any :: .call (vb r729) :: .n :: [])), .br true, .reg (nN 3 [])]) (fr := true) (by kernel_rfl) (an (an (t4 tt) (an e726 (an (an e727 (ti (an e728 (t3 tt)))) (an e732 (an (Qq (Qy h733)) (an (t3 tt) tt)))))) (an (t9 tt) (ti tt))) (Wv.tuL (.cons (Wv.agL (.cons (Wv.of_eq Qxy) (.cons (Wv.of_eq Qxx) (.cons (Wv.of_eq Qxw) (.cons (Wv.of_eq Qxv) (.cons (Wv.of_eq Qxu) (.cons (Wv.of_eq Qxt) (.cons Wv.Qhu (.cons Wv.Qhu .nil))))))))) (.cons (Wv.refl _) .nil)))
end Go.Proofs.Ytbgajdbpdhipiaa.Vg

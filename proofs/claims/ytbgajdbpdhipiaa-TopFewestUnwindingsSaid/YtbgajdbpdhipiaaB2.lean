import Derived.Test.YtbgajdbpdhipiaaB1
namespace Go.Proofs.Ytbgajdbpdhipiaa.Vg
set_option maxRecDepth 100000
set_option maxHeartbeats 4000000
set_option linter.unusedVariables false
set_option linter.unusedSimpArgs false
open Go Go.Proofs.Ytbgajdbpdhipiaa.Ev Go.Proofs.Ytbgajdbpdhipiaa.Vv
open List (flatMap length_cons length_nil length_map length_append map_cons map_nil length_replicate)
structure Qc where
 Least : Int
 Most : Int
 Low : Int
 High : Int
 Speed : Int
 Refraction : (List Q7)
 Drift : (List Q7)
 deriving Inhabited
def Zq (x : Qc) : List VV := [vi x.Least, vi x.Most, vi x.Low, vi x.High, vi x.Speed, VV.tr (flatMap Qv x.Refraction) x.Refraction.length, VV.tr (flatMap Qv x.Drift) x.Drift.length]
def Qq8 (x : Qc) : List VV := [vi x.Least, vi x.Most, vi x.Low, vi x.High, vi x.Speed, VV.fr (flatMap Qv x.Refraction) x.Refraction.length, VV.fr (flatMap Qv x.Drift) x.Drift.length]
theorem Qbq (xs : List Qc) : (xs.flatMap Zq).map unfr = xs.flatMap Zq := Qa0 (fun _ => rfl) xs
theorem Qbr (xs : List Qc) : (xs.flatMap Qq8).map unfr = xs.flatMap Zq := Qa0 (fun _ => rfl) xs
structure Qa where
 Name : ByteArray
 Azimuth : Int
 Height : Int
 From : Int
 To : Int
 Dwell : Int
 deriving Inhabited
def Qh (x : Qa) : List VV := [vs x.Name, vi x.Azimuth, vi x.Height, vi x.From, vi x.To, vi x.Dwell]
theorem Qaw (x : Qa) : (Qh x).length = 6 := rfl
theorem Jq (xs : List Qa) : (xs.flatMap Qh).map unfr = xs.flatMap Qh := Qk9 (fun _ => rfl) xs
structure A26 where
 e0 : Int
 e1 : Int
 deriving Inhabited
def Qdw (x : A26) : List VV := [vi x.e0, vi x.e1]
theorem Qck (xs : List A26) : (xs.flatMap Qdw).map unfr = xs.flatMap Qdw := Qk9 (fun _ => rfl) xs
structure Z8 where
 SkyTarget : Qa
 turns : (List Int)
 positions : (List Int)
 deriving Inhabited
def Qw (x : Z8) : List VV := [vs x.SkyTarget.Name, vi x.SkyTarget.Azimuth, vi x.SkyTarget.Height, vi x.SkyTarget.From, vi x.SkyTarget.To, vi x.SkyTarget.Dwell, VV.tr (List.map vi x.turns) x.turns.length, VV.tr (List.map vi x.positions) x.positions.length]
theorem Qam (x : Z8) : (Qw x).length = 8 := rfl
def Qah (x : Z8) : List VV := [vs x.SkyTarget.Name, vi x.SkyTarget.Azimuth, vi x.SkyTarget.Height, vi x.SkyTarget.From, vi x.SkyTarget.To, vi x.SkyTarget.Dwell, VV.fr (List.map vi x.turns) x.turns.length, VV.fr (List.map vi x.positions) x.positions.length]
theorem Qk0 (x : Z8) : (Qah x).length = 8 := rfl
theorem Qny (xs : List Z8) : (xs.flatMap Qah).all VV.still = true := Qsv (fun _ => rfl) xs
theorem Qa4 (xs : List Z8) : (xs.flatMap Qw).map unfr = xs.flatMap Qw := Qa0 (fun _ => rfl) xs
theorem Qa5 (xs : List Z8) : (xs.flatMap Qah).map unfr = xs.flatMap Qw := Qa0 (fun _ => rfl) xs
theorem Qpf (xs : List Z8) : (xs.flatMap Qah).all new0 = true := Qsv (fun _ => rfl) xs
def Yc (k : Nat) (a0 : Qc) : Option Bool :=
 (Jr k a0.Refraction).bind fun r390 => (if r390 = true then ((Jr k a0.Drift).bind fun r394 => (some r394)) else (some false))
theorem Qfr (k : Nat) (a0 : Qc) (r : Bool) (h : Yc k a0 = some r) : VC Try.prog 21 [VV.ag (Zq a0)] (vb r) := by
 unfold Yc at h
 obtain ⟨r390, h391, h⟩ := bs h
 have e392 := (Qcf k a0.Refraction _ h391)
 rcases ifs h with ⟨h393, h⟩ | ⟨h393, h⟩
 ·obtain ⟨r394, h395, h⟩ := bs h
  have e396 := (an h393 (Qcf k a0.Drift _ h395))
  have e397 := (ti (ti (an e392 (ti (an (an h393 tt) (an (an h393 tt) (an e396 (an h393 (ti tt)))))))))
  injection h with h; subst h
  exact Qk pm pn Try.func21 (r0 := vb r394) (ans := [.reg (.n :: .n :: []), .reg (.n :: .n :: .call (vb r390) :: nN 3 (.call (vb r394) :: .b true :: .n :: []))]) (fr := true) (by kernel_rfl) (an (an (ti (ti tt)) (an e397 tt)) (ti tt)) (Wv.refl _)
 ·have e398 := (ti (ti (an e392 (ti (an (Zb h393) (an (Zb h393) (an (Zb h393) (an (Zb h393) (ti tt)))))))))
  injection h with h; subst h
  exact Qk pm pn Try.func21 (r0 := vb false) (ans := [.reg (.n :: .n :: []), .reg (.n :: .n :: .call (vb r390) :: .n :: nS 3 (.b false :: .n :: []))]) (fr := true) (by kernel_rfl) (an (an (ti (ti tt)) (an e398 tt)) (ti tt)) (Wv.refl _)
theorem Q2l (z0 : Qc) : [vi 25920000, VV.tr (List.map vi ([z0.Least, z0.Most] : List Int)) (([z0.Least, z0.Most] : List Int).length)] = [vi 25920000, VV.tr [vi z0.Least, vi z0.Most] 2] := by first | rfl | (simp only [Qm, map_cons, map_nil, un_i, Yj, length_map, length_cons, length_nil]; done) | (simp only [Qm, map_cons, map_nil, un_i, Yj, length_map, length_cons, length_nil]; rfl) | (simp only [Qm, map_cons, map_nil, un_i, Yj, length_map, length_cons, length_nil, length_cons, length_nil, length_append]; done)
theorem Q2m (z0 : Qc) : [vi 0, vi 324000, VV.tr (List.map vi ([z0.Low, z0.High] : List Int)) (([z0.Low, z0.High] : List Int).length)] = [vi 0, vi 324000, VV.tr [vi z0.Low, vi z0.High] 2] := by first | rfl | (simp only [Qm, map_cons, map_nil, un_i, Yj, length_map, length_cons, length_nil]; done) | (simp only [Qm, map_cons, map_nil, un_i, Yj, length_map, length_cons, length_nil]; rfl) | (simp only [Qm, map_cons, map_nil, un_i, Yj, length_map, length_cons, length_nil, length_cons, length_nil, length_append]; done)
theorem Q2n (z0 : Qc) : [vi 1, vi 1000000, VV.tr (List.map vi ([z0.Speed] : List Int)) (([z0.Speed] : List Int).length)] = [vi 1, vi 1000000, VV.tr [vi z0.Speed] 1] := by first | rfl | (simp only [Qm, map_cons, map_nil, un_i, Yj, length_map, length_cons, length_nil]; done) | (simp only [Qm, map_cons, map_nil, un_i, Yj, length_map, length_cons, length_nil]; rfl) | (simp only [Qm, map_cons, map_nil, un_i, Yj, length_map, length_cons, length_nil, length_cons, length_nil, length_append]; done)
def Qpo (z0 : Bool) (z1 : Bool) (z2 : Bool) : List Ans := (nN 4 (.v VV.any :: .call (vb z0) :: nN 6 (.v VV.any :: .call (vb z1) :: .n :: .b false :: nN 3 (.v VV.any :: .call (vb z2) :: .n :: .b false :: .n :: []))))
def Q2o (z0 : Bool) (z1 : Bool) : List Ans := (nN 4 (.v VV.any :: .call (vb z0) :: nN 6 (.v VV.any :: .call (vb z1) :: .n :: .b false :: .n :: nS 5 (.b true :: .n :: []))))
def Q2p (z0 : Bool) : List Ans := (nN 4 (.v VV.any :: .call (vb z0) :: .n :: .n :: nS 7 (.b true :: .n :: nS 5 (.b true :: .n :: []))))
def Qag (k : Nat) (a0 : Qc) : Option Int :=
 (Jv k 25920000 ([a0.Least, a0.Most] : List Int)).bind fun r425 => (if r425 = true then ((Zc k 0 324000 ([a0.Low, a0.High] : List Int)).bind fun r429 => (if r429 = true then ((Zc k 1 1000000 ([a0.Speed] : List Int)).bind fun r433 => (if r433 = true then (if a0.Most < a0.Least then (some 9) else (if a0.High < a0.Low then (some 9) else ((Yr k a0.Refraction).bind fun r442 => (if r442 = 0 then ((Yr k a0.Drift).bind fun r446 => (some r446)) else (some r442))))) else (some 2))) else (some 2))) else (some 2))
theorem Qg1 (k : Nat) (a0 : Qc) (r : Int) (h : Qag k a0 = some r) : VC Try.prog 39 [VV.ag (Zq a0)] (vi r) := by
 unfold Qag at h
 obtain ⟨r425, h426, h⟩ := bs h
 have e427 := (VC.args (Qb2 k 25920000 ([a0.Least, a0.Most] : List Int) _ h426) (Q2l a0))
 rcases ifs h with ⟨h428, h⟩ | ⟨h428, h⟩
 ·obtain ⟨r429, h430, h⟩ := bs h
  have e431 := (an (Q5 h428) (VC.args (Zo k 0 324000 ([a0.Low, a0.High] : List Int) _ h430) (Q2m a0)))
  rcases ifs h with ⟨h432, h⟩ | ⟨h432, h⟩
  ·obtain ⟨r433, h434, h⟩ := bs h
   have e435 := (an (Q5 h432) (VC.args (Zo k 1 1000000 ([a0.Speed] : List Int) _ h434) (Q2n a0)))
   have e436 := (ti (ti (ti (ti (ti (an e427 (ti (ti (an (an (Q5 h428) tt) (an (an (Q5 h428) tt) (an (an (Q5 h428) tt) (an (an (Q5 h428) tt) (an (an (Q5 h428) tt) (an e431 (an (an (Q5 h428) tt) (an (Q5 h428) (ti (an (an (Q5 h432) tt) (an (an (Q5 h432) tt) (an (an (Q5 h432) tt) (an e435 (an (an (Q5 h432) tt) (an (Q5 h432) (ti tt))))))))))))))))))))))))
   rcases ifs h with ⟨h437, h⟩ | ⟨h437, h⟩
   ·rcases ifs h with ⟨h438, h⟩ | ⟨h438, h⟩
    ·have e439 := (ti (ti (ti (ti (ti (ti (an (dt h438) (an (dt h438) (an (dt h438) (an (dt h438) (an (dt h438) (an (dt h438) (ti tt)))))))))))))
     injection h with h; subst h
     exact Qk pm pn Try.func39 (r0 := vi 9) (ans := [.reg (.n :: .n :: []), .reg (Qpo r425 r429 r433), .br false, .reg (nN 6 (nS 5 (.b true :: .n :: []))), .br true, .reg (.n :: [])]) (fr := true) (by kernel_rfl) (an (an (ti (ti tt)) (an e436 (an (Q5 h437) (an e439 (an rt (an (ti tt) tt)))))) (ti tt)) (Wv.refl _)
    ·have e440 := (ti (ti (ti (ti (ti (ti (an (an (df h438) tt) (an (an (df h438) tt) (an (an (df h438) tt) (an (an (df h438) tt) (an (an (df h438) tt) (an (df h438) (ti tt)))))))))))))
     rcases ifs h with ⟨h441, h⟩ | ⟨h441, h⟩
     ·injection h with h; subst h
      exact Qk pm pn Try.func39 (r0 := vi 9) (ans := [.reg (.n :: .n :: []), .reg (Qpo r425 r429 r433), .br false, .reg (nN 11 (.b false :: .n :: [])), .br true, .reg (.n :: [])]) (fr := true) (by kernel_rfl) (an (an (ti (ti tt)) (an e436 (an (Q5 h437) (an e440 (an (dt h441) (an (ti tt) tt)))))) (ti tt)) (Wv.refl _)
     ·obtain ⟨r442, h443, h⟩ := bs h
      have e444 := (Qdh k a0.Refraction _ h443)
      rcases ifs h with ⟨h445, h⟩ | ⟨h445, h⟩
      ·obtain ⟨r446, h447, h⟩ := bs h
       have e448 := (Qdh k a0.Drift _ h447)
       injection h with h; subst h
       exact Qk pm pn Try.func39 (r0 := vi r446) (ans := [.reg (.n :: .n :: []), .reg (Qpo r425 r429 r433), .br false, .reg (nN 11 (.b false :: .n :: [])), .br false, .reg (.n :: .n :: .call (vi r442) :: .n :: []), .reg (.n :: .n :: []), .br false, .reg (.n :: .n :: .call (vi r446) :: .n :: [])]) (fr := true) (by kernel_rfl) (an (an (ti (ti tt)) (an (an e436 (an (Q5 h437) (an e440 (an (df h441) tt)))) (an (an (ti (ti (an e444 (ti tt)))) (an (ti (ti tt)) (an (Q5 (dt h445)) tt))) (an (ti (ti (an e448 (ti tt)))) tt)))) (ti tt)) (Wv.refl _)
      ·injection h with h; subst h
       exact Qk pm pn Try.func39 (r0 := vi r442) (ans := [.reg (.n :: .n :: []), .reg (Qpo r425 r429 r433), .br false, .reg (nN 11 (.b false :: .n :: [])), .br false, .reg (.n :: .n :: .call (vi r442) :: .n :: []), .reg (.n :: .n :: []), .br true, .reg (.n :: .n :: [])]) (fr := true) (by kernel_rfl) (an (an (ti (ti tt)) (an (an e436 (an (Q5 h437) (an e440 (an (df h441) tt)))) (an (ti (ti (an e444 (ti tt)))) (an (ti (ti tt)) (an (Z5 (df h445)) (an (ti (ti tt)) tt)))))) (ti tt)) (Wv.refl _)
   ·injection h with h; subst h
    exact Qk pm pn Try.func39 (r0 := vi 2) (ans := [.reg (.n :: .n :: []), .reg (Qpo r425 r429 r433), .br true, .reg (.n :: [])]) (fr := true) (by kernel_rfl) (an (an (ti (ti tt)) (an e436 (an (Z5 (Zb h437)) (an (ti tt) tt)))) (ti tt)) (Wv.refl _)
  ·have e449 := (ti (ti (ti (ti (ti (an e427 (ti (ti (an (an (Q5 h428) tt) (an (an (Q5 h428) tt) (an (an (Q5 h428) tt) (an (an (Q5 h428) tt) (an (an (Q5 h428) tt) (an e431 (an (an (Q5 h428) tt) (an (Q5 h428) (ti (an (Z5 (Zb h432)) (an (Z5 (Zb h432)) (an (Z5 (Zb h432)) (an (Z5 (Zb h432)) (an (Z5 (Zb h432)) (an (Z5 (Zb h432)) (ti tt))))))))))))))))))))))))
   injection h with h; subst h
   exact Qk pm pn Try.func39 (r0 := vi 2) (ans := [.reg (.n :: .n :: []), .reg (Q2o r425 r429), .br true, .reg (.n :: [])]) (fr := true) (by kernel_rfl) (an (an (ti (ti tt)) (an e449 (an rt (an (ti tt) tt)))) (ti tt)) (Wv.refl _)
 ·have e450 := (ti (ti (ti (ti (ti (an e427 (ti (ti (an (Z5 (Zb h428)) (an (Z5 (Zb h428)) (an (Z5 (Zb h428)) (an (Z5 (Zb h428)) (an (Z5 (Zb h428)) (an (Z5 (Zb h428)) (an (Z5 (Zb h428)) (an (Z5 (Zb h428)) (ti (an rt (an rt (an rt (an rt (an rt (an rt (ti tt))))))))))))))))))))))))
  injection h with h; subst h
  exact Qk pm pn Try.func39 (r0 := vi 2) (ans := [.reg (.n :: .n :: []), .reg (Q2p r425), .br true, .reg (.n :: [])]) (fr := true) (by kernel_rfl) (an (an (ti (ti tt)) (an e450 (an rt (an (ti tt) tt)))) (ti tt)) (Wv.refl _)
theorem Q2q (z0 : ByteArray) : [vi 1, vi 12, VV.tr (List.map vi ([(z0.size : Int)] : List Int)) (([(z0.size : Int)] : List Int).length)] = [vi 1, vi 12, VV.tr [vi (z0.size : Int)] 1] := by first | rfl | (simp only [Qm, map_cons, map_nil, un_i, Yj, length_map, length_cons, length_nil]; done) | (simp only [Qm, map_cons, map_nil, un_i, Yj, length_map, length_cons, length_nil]; rfl) | (simp only [Qm, map_cons, map_nil, un_i, Yj, length_map, length_cons, length_nil, length_cons, length_nil, length_append]; done)
def Q2r  : List Ans := (nN 3 (.skip :: .skip :: .b false :: nN 4 (.skip :: .skip :: .b false :: .b false :: .n :: [])))
def Qaf (k : Nat) (a0 : Int) : Option Bool :=
 if 97 <= a0 then (if a0 <= 122 then (some true) else (if 65 <= a0 then (some (decide (a0 <= 90))) else (some false))) else (if 65 <= a0 then (some (decide (a0 <= 90))) else (some false))
theorem Wj (k : Nat) (a0 : Int) (r : Bool) (h : Qaf k a0 = some r) : VC Try.prog 58 [VV.c (.int .i32 a0)] (vb r) := by
 unfold Qaf at h
 rcases ifs h with ⟨h467, h⟩ | ⟨h467, h⟩
 ·rcases ifs h with ⟨h468, h⟩ | ⟨h468, h⟩
  ·have e469 := (ti (ti (ti (an (an (dt h467) tt) (an (an (dt h467) tt) (an (dt h467) (ti (an (dt h468) (an (dt h468) (an (dt h468) (ti (ti (an (dt h468) (an (dt h468) (ti tt)))))))))))))))
   injection h with h; subst h
   exact Qk pm pn Try.func58 (r0 := vb true) (ans := [.reg (.n :: []), .reg (nN 5 (.b true :: .n :: nS 6 (.b true :: .n :: [])))]) (fr := true) (by kernel_rfl) (an (an (ti tt) (an e469 tt)) (ti tt)) (Wv.refl _)
  ·rcases ifs h with ⟨h470, h⟩ | ⟨h470, h⟩
   ·have e471 := (an (df h468) (dt h470))
    have e472 := (ti (ti (ti (an (an (dt h467) tt) (an (an (dt h467) tt) (an (dt h467) (ti (an (an (df h468) tt) (an (an (df h468) tt) (an (an (df h468) tt) (an (an (dt h470) tt) (an (an (dt h470) tt) (an e471 (an (df h468) (ti tt)))))))))))))))
    injection h with h; subst h
    exact Qk pm pn Try.func58 (r0 := vb (decide (a0 <= 90))) (ans := [.reg (.n :: []), .reg (nN 5 (.b true :: nN 6 (.b true :: .b false :: .n :: [])))]) (fr := true) (by kernel_rfl) (an (an (ti tt) (an e472 tt)) (ti tt)) (Wv.refl _)
   ·have e473 := (an (df h468) (df h470))
    have e474 := (ti (ti (ti (an (an (dt h467) tt) (an (an (dt h467) tt) (an (dt h467) (ti (an (an (df h468) tt) (an (an (df h468) tt) (an (an (df h468) tt) (an (df h470) (an (df h470) (an e473 (an (df h468) (ti tt)))))))))))))))
    injection h with h; subst h
    exact Qk pm pn Try.func58 (r0 := vb false) (ans := [.reg (.n :: []), .reg (nN 5 (.b true :: nN 4 (.skip :: .skip :: .b false :: .b false :: .n :: [])))]) (fr := true) (by kernel_rfl) (an (an (ti tt) (an e474 tt)) (ti tt)) (Wv.refl _)
 ·rcases ifs h with ⟨h475, h⟩ | ⟨h475, h⟩
  ·have e476 := (ti (ti (ti (an (df h467) (an (df h467) (an (df h467) (ti (an (an rf tt) (an (an rf tt) (an (an rf tt) (an (an (dt h475) tt) (an (an (dt h475) tt) (an (an rf (dt h475)) (an rf (ti tt)))))))))))))))
   injection h with h; subst h
   exact Qk pm pn Try.func58 (r0 := vb (decide (a0 <= 90))) (ans := [.reg (.n :: []), .reg (nN 3 (.skip :: .skip :: .b false :: nN 6 (.b true :: .b false :: .n :: [])))]) (fr := true) (by kernel_rfl) (an (an (ti tt) (an e476 tt)) (ti tt)) (Wv.refl _)
  ·have e477 := (ti (ti (ti (an (df h467) (an (df h467) (an (df h467) (ti (an (an rf tt) (an (an rf tt) (an (an rf tt) (an (df h475) (an (df h475) (an (an rf (df h475)) (an rf (ti tt)))))))))))))))
   injection h with h; subst h
   exact Qk pm pn Try.func58 (r0 := vb false) (ans := [.reg (.n :: []), .reg Q2r]) (fr := true) (by kernel_rfl) (an (an (ti tt) (an e477 tt)) (ti tt)) (Wv.refl _)
def Q2s (z0 : Bool) : List Ans := (.n :: .call (vb z0) :: .n :: .n :: nS 7 (.b false :: .n :: .skip :: .skip :: .b false :: .n :: []))
def Q2t (z0 : Bool) : List Ans := (.n :: .call (vb z0) :: nN 7 (.b true :: .n :: .b true :: .n :: .skip :: .skip :: .b false :: .n :: []))
def Q2u (z0 : Bool) : List Ans := (.n :: .call (vb z0) :: nN 5 (.skip :: .skip :: .b false :: .n :: .b true :: nN 3 (.b true :: .n :: [])))
def Qav (k : Nat) (a0 : Int) : Option Bool :=
 (Qaf k a0).bind fun r500 => (if r500 = true then (some false) else (if 48 <= a0 then (if a0 <= 57 then (some false) else (some (!(decide (a0 = 45))))) else (some (!(decide (a0 = 45))))))
theorem Qhi (k : Nat) (a0 : Int) (r : Bool) (h : Qav k a0 = some r) : VC Try.prog 60 [VV.c (.int .i32 a0)] (vb r) := by
 unfold Qav at h
 obtain ⟨r500, h501, h⟩ := bs h
 rcases ifs h with ⟨h502, h⟩ | ⟨h502, h⟩
 ·have e503 := (ti (an (Wj k a0 _ h501) (ti (ti (an (Q5 h502) (an (Q5 h502) (an (Q5 h502) (ti (ti (an (Q5 h502) (an (Q5 h502) (an (Q5 h502) (ti (an rf (an rf (an rf (ti tt)))))))))))))))))
  injection h with h; subst h
  exact Qk pm pn Try.func60 (r0 := vb false) (ans := [.reg (.n :: []), .reg (Q2s r500)]) (fr := true) (by kernel_rfl) (an (an (ti tt) (an e503 tt)) (ti tt)) (Wv.refl _)
 ·rcases ifs h with ⟨h504, h⟩ | ⟨h504, h⟩
  ·have e505 := (an (Z5 (Zb h502)) (dt h504))
   rcases ifs h with ⟨h506, h⟩ | ⟨h506, h⟩
   ·have e507 := (ti (an (Wj k a0 _ h501) (ti (ti (an (an (Z5 (Zb h502)) tt) (an (an (Z5 (Zb h502)) tt) (an (an (Z5 (Zb h502)) tt) (an (an (dt h504) tt) (an (an (dt h504) tt) (an e505 (an (an (Z5 (Zb h502)) tt) (an (Z5 (Zb h502)) (ti (an (Q5 (dt h506)) (an (Q5 (dt h506)) (an (Q5 (dt h506)) (ti tt)))))))))))))))))
    injection h with h; subst h
    exact Qk pm pn Try.func60 (r0 := vb false) (ans := [.reg (.n :: []), .reg (Q2t r500)]) (fr := true) (by kernel_rfl) (an (an (ti tt) (an e507 tt)) (ti tt)) (Wv.refl _)
   ·have e508 := (an (Z5 (df h506)) tt)
    have e509 := (an (Z5 (df h506)) tt)
    have e510 := (ti (an (Wj k a0 _ h501) (ti (ti (an (an (Z5 (Zb h502)) tt) (an (an (Z5 (Zb h502)) tt) (an (an (Z5 (Zb h502)) tt) (an (an (dt h504) tt) (an (an (dt h504) tt) (an e505 (an (an (Z5 (Zb h502)) tt) (an (Z5 (Zb h502)) (ti (an e508 (an e509 (an (Z5 (df h506)) (ti tt)))))))))))))))))
    injection h with h; subst h
    exact Qk pm pn Try.func60 (r0 := vb (!(decide (a0 = 45)))) (ans := [.reg (.n :: []), .reg (.n :: .call (vb r500) :: nN 7 (.b true :: .n :: .b true :: nN 3 (.b true :: .n :: [])))]) (fr := true) (by kernel_rfl) (an (an (ti tt) (an e510 tt)) (ti tt)) (Wv.refl _)
  ·have e511 := (an (Z5 (Zb h502)) (df h504))
   have e512 := (an (show (!false) = true from (Z5 rfl)) tt)
   have e513 := (an (show (!false) = true from (Z5 rfl)) tt)
   have e514 := (ti (an (Wj k a0 _ h501) (ti (ti (an (an (Z5 (Zb h502)) tt) (an (an (Z5 (Zb h502)) tt) (an (an (Z5 (Zb h502)) tt) (an (df h504) (an (df h504) (an e511 (an (an (Z5 (Zb h502)) tt) (an (Z5 (Zb h502)) (ti (an e512 (an e513 (an (show (!false) = true from (Z5 rfl)) (ti tt)))))))))))))))))
   injection h with h; subst h
   exact Qk pm pn Try.func60 (r0 := vb (!(decide (a0 = 45)))) (ans := [.reg (.n :: []), .reg (Q2u r500)]) (fr := true) (by kernel_rfl) (an (an (ti tt) (an e514 tt)) (ti tt)) (Wv.refl _)
def Zp (a0 : ByteArray) (a2 : Bool) (b0_1 : Int) : VS := ⟨mkA [(1, VV.fn 60 []), (2, vb a2), (10, VV.it 0)], [some ⟨true, bigX, [vs a0, vi b0_1]⟩], .nil⟩
def Xf (a0 : ByteArray) (a2 : Bool) (r : Int) : VS := ⟨mkA [(6, vi r)], [], .nil⟩
def Xg (a0 : ByteArray) (a2 : Bool) (r : Unit) : VS := ⟨mkA [], [], .nil⟩
def Qi (k : Nat) (a0 : ByteArray) (a2 : Bool) : Nat -> Int -> Option (Sum Int Unit)
 | 0, _ => none
 | fuel + 1, b0_1 => if b0_1 < (a0.size : Int) then (if 0 <= b0_1 then ((Qav k (((Go.Utf8.decode a0 (b0_1).toNat).1 : Nat) : Int)).bind fun r561 => (if (r561 == a2) = true then (some (.inl b0_1)) else (Qi k a0 a2 fuel (b0_1 + (((Go.Utf8.decode a0 (b0_1).toNat).2 : Nat) : Int))))) else none) else (some (.inr ()))
theorem Qai (k : Nat) (a0 : ByteArray) (a2 : Bool) : ∀ (fuel : Nat) (b0_1 : Int) (r : Sum Int Unit), Qi k a0 a2 fuel b0_1 = some r -> (match r with | .inl r => J6 none Try.prog (szF Try.f62) (X5 Try.f62 0) (Zp a0 a2 b0_1) .ret (Xf a0 a2 r) | .inr r => J6 none Try.prog (szF Try.f62) (X5 Try.f62 0) (Zp a0 a2 b0_1) (.exit 0) (Xg a0 a2 r)) := by
 intro fuel
 induction fuel with
 | zero => intro b0_1 r h; rw [Qi.eq_1] at h; cases h
 | succ fuel ih =>
  intro b0_1 r h
  rw [Qi.eq_2] at h
  rcases ifs h with ⟨h558, h⟩ | ⟨h558, h⟩
  ·obtain ⟨h559, h⟩ := ifn h
   have e560 := (show 0 <= b0_1 /\ b0_1 < (a0.size : Int) from ⟨h559, of_decide_eq_true (dt h558)⟩)
   obtain ⟨r561, h562, h⟩ := bs h
   have e563 := (Qhi k (((Go.Utf8.decode a0 (b0_1).toNat).1 : Nat) : Int) _ h562)
   rcases ifs h with ⟨h564, h⟩ | ⟨h564, h⟩
   ·injection h with h; subst h
    exact Qz (c := ⟨[(6, none)], [], []⟩) (s1 := (Xf a0 a2 b0_1)) pm pn (ans := [.reg (.b true :: .n :: []), .br true, .reg (nN 4 []), .reg (.n :: .n :: .call (vb r561) :: .n :: .n :: []), .br true, .reg (.n :: .n :: [])]) (by kernel_rfl) (by intro e; cases e) (an (an (an e560 (ti tt)) (an (an rt tt) (an (ti (ti (ti (ti tt)))) (an (ti (ti (an e563 (ti (ti tt))))) (an h564 (an (ti (ti tt)) tt)))))) (ti tt))
   ·have h2 := ih _ _ h
    obtain ⟨q, hv, hq⟩ := pkR (rd := none) (P := Try.prog) (fn := Try.f62) (k := 0) (s := (Zp a0 a2 b0_1)) (ans := [.reg (.b true :: .n :: []), .br true, .reg (nN 4 []), .reg (.n :: .n :: .call (vb r561) :: .n :: .n :: []), .br false]) (c := ⟨[(1, none), (2, none), (10, none)], [none], []⟩) (e := .normal) (s1 := (Zp a0 a2 (b0_1 + (((Go.Utf8.decode a0 (b0_1).toNat).2 : Nat) : Int)))) (an (an (an e560 (ti tt)) (an (an rt tt) (an (ti (ti (ti (ti tt)))) (an (ti (ti (an e563 (ti (ti tt))))) (an (Zb h564) tt))))) (ti tt)) (by kernel_rfl)
    cases r with
    | inl r => exact Qy pm pn hv hq h2
    | inr r =>
     exact Qy pm pn hv hq h2
  ·have e565 := (show (a0.size : Int) <= b0_1 from (by have := of_decide_eq_false (df h558); omega))
   injection h with h; subst h
   exact Qz (c := ⟨[], [], []⟩) (s1 := (Xg a0 a2 ())) pm pn (ans := [.reg (.b false :: .n :: []), .br false]) (by kernel_rfl) (by intro e; cases e) (an (an (an e565 (ti tt)) (an rf tt)) (ti tt))
def Xd (k : Nat) (a0 : ByteArray) (a1 : Unit) (a2 : Bool) : Option Int :=
 (Qi k a0 a2 k 0).bind fun r567 => (match r567 with | .inl r568 => (some r568) | .inr r569 => (some (-1)))
theorem Qa1 (k : Nat) (a0 : ByteArray) (a1 : Unit) (a2 : Bool) (r : Int) (h : Xd k a0 a1 a2 = some r) : VC Try.prog 62 [vs a0, VV.fn 60 [], vb a2] (vi r) := by
 unfold Xd at h
 obtain ⟨r567, h566, h⟩ := bs h
 have hph566 := Qai k a0 a2 _ _ _ h566
 cases r567 with
 | inl r568 =>
  dsimp only at h
  have e570 := (an (ti tt) (VRun.loop hph566))
  injection h with h; subst h
  exact Qk pm pn Try.func62 (r0 := vi r568) (ans := [.reg (.n :: []), .reg (.n :: .n :: []), .sub ⟨[(1, none), (2, none), (10, none)], [none], []⟩ .ret (Xf a0 a2 r568)]) (fr := true) (by kernel_rfl) (an (an (ti tt) (an (ti (ti tt)) e570)) (ti tt)) (Wv.refl _)
 | inr r569 =>
  dsimp only at h
  have e571 := (an (ti tt) (VRun.loop hph566))
  injection h with h; subst h
  exact Qk pm pn Try.func62 (r0 := vi (-1)) (ans := [.reg (.n :: []), .reg (.n :: .n :: []), .sub ⟨[(1, none), (2, none), (10, none)], [none], []⟩ (.exit 0) (Xg a0 a2 r569), .reg (.n :: [])]) (fr := true) (by kernel_rfl) (an (an (ti tt) (an (an (ti (ti tt)) e571) (an (ti tt) tt))) (ti tt)) (Wv.refl _)
def Xc (k : Nat) (a0 : ByteArray) (a1 : Unit) : Option Int :=
 (Xd k a0 a1 true).bind fun r575 => (some r575)
theorem Qa2 (k : Nat) (a0 : ByteArray) (a1 : Unit) (r : Int) (h : Xc k a0 a1 = some r) : VC Try.prog 61 [vs a0, VV.fn 60 []] (vi r) := by
 unfold Xc at h
 obtain ⟨r575, h576, h⟩ := bs h
 have e577 := (Qa1 k a0 a1 true _ h576)
 injection h with h; subst h
 exact Qk pm pn Try.func61 (r0 := vi r575) (ans := [.reg (.n :: []), .reg (.n :: .n :: .call (vi r575) :: .n :: [])]) (fr := true) (by kernel_rfl) (an (an (ti tt) (an (ti (ti (an e577 (ti tt)))) tt)) (ti tt)) (Wv.refl _)
def Zz (k : Nat) (a0 : ByteArray) (a1 : Unit) : Option Bool :=
 (Xc k a0 a1).bind fun r581 => (some (decide (0 <= r581)))
theorem Qas (k : Nat) (a0 : ByteArray) (a1 : Unit) (r : Bool) (h : Zz k a0 a1 = some r) : VC Try.prog 59 [vs a0, VV.fn 60 []] (vb r) := by
 unfold Zz at h
 obtain ⟨r581, h582, h⟩ := bs h
 have e583 := (Qa2 k a0 a1 _ h582)
 injection h with h; subst h
 exact Qk pm pn Try.func59 (r0 := vb (decide (0 <= r581))) (ans := [.reg (.n :: []), .reg (.n :: .n :: .call (vi r581) :: .n :: .n :: [])]) (fr := true) (by kernel_rfl) (an (an (ti tt) (an (ti (ti (an e583 (ti (ti tt))))) tt)) (ti tt)) (Wv.refl _)
def Q2v (z0 : Bool) (z1 : Bool) (z2 : Bool) : List Ans := (.n :: .n :: .v VV.any :: .call (vb z0) :: nN 4 (.call (vb z1) :: .b true :: .n :: .n :: .call (vb z2) :: .n :: .b true :: .n :: []))
def Q2w (z0 : Bool) (z1 : Bool) : List Ans := (.n :: .n :: .v VV.any :: .call (vb z0) :: nN 4 (.call (vb z1) :: .b true :: .n :: nS 3 (.b false :: .n :: [])))
def Q2x (z0 : Bool) : List Ans := (.n :: .n :: .v VV.any :: .call (vb z0) :: .n :: nS 4 (.b false :: .n :: nS 3 (.b false :: .n :: [])))
def Qb5 (k : Nat) (a0 : ByteArray) : Option Bool :=
 (Zc k 1 12 ([(a0.size : Int)] : List Int)).bind fun r590 => (if r590 = true then (if (0 : Int) <= 0 /\ 0 < (a0.size : Int) then ((Qaf k (IntKind.i32.wrap (bat a0 0))).bind fun r595 => (if r595 = true then ((Zz k a0 ()).bind fun r599 => (some (!r599))) else (some false))) else none) else (some false))
theorem Qjj (k : Nat) (a0 : ByteArray) (r : Bool) (h : Qb5 k a0 = some r) : VC Try.prog 54 [vs a0] (vb r) := by
 unfold Qb5 at h
 obtain ⟨r590, h591, h⟩ := bs h
 have e592 := (VC.args (Zo k 1 12 ([(a0.size : Int)] : List Int) _ h591) (Q2q a0))
 rcases ifs h with ⟨h593, h⟩ | ⟨h593, h⟩
 ·obtain ⟨h594, h⟩ := ifn h
  obtain ⟨r595, h596, h⟩ := bs h
  have e597 := (an h593 (Wj k (IntKind.i32.wrap (bat a0 0)) _ h596))
  rcases ifs h with ⟨h598, h⟩ | ⟨h598, h⟩
  ·obtain ⟨r599, h600, h⟩ := bs h
   have e601 := (an h598 (Qas k a0 () _ h600))
   have e602 := (ti (ti (ti (an e592 (ti (an (an h593 tt) (an (an h593 h594) (an (an h593 tt) (an e597 (an h593 (ti (an (an h598 tt) (an e601 (an (an h598 tt) (an h598 (ti tt))))))))))))))))
   injection h with h; subst h
   exact Qk pm pn Try.func54 (r0 := vb (!r599)) (ans := [.reg (.n :: []), .reg (Q2v r590 r595 r599)]) (fr := true) (by kernel_rfl) (an (an (ti tt) (an e602 tt)) (ti tt)) (Wv.refl _)
  ·have e603 := (ti (ti (ti (an e592 (ti (an (an h593 tt) (an (an h593 h594) (an (an h593 tt) (an e597 (an h593 (ti (an (Zb h598) (an (Zb h598) (an (Zb h598) (an (Zb h598) (ti tt))))))))))))))))
   injection h with h; subst h
   exact Qk pm pn Try.func54 (r0 := vb false) (ans := [.reg (.n :: []), .reg (Q2w r590 r595)]) (fr := true) (by kernel_rfl) (an (an (ti tt) (an e603 tt)) (ti tt)) (Wv.refl _)
 ·have e604 := (ti (ti (ti (an e592 (ti (an (Zb h593) (an (Zb h593) (an (Zb h593) (an (Zb h593) (an (Zb h593) (ti (an rf (an rf (an rf (an rf (ti tt))))))))))))))))
  injection h with h; subst h
  exact Qk pm pn Try.func54 (r0 := vb false) (ans := [.reg (.n :: []), .reg (Q2x r590)]) (fr := true) (by kernel_rfl) (an (an (ti tt) (an e604 tt)) (ti tt)) (Wv.refl _)
theorem Q2y (z0 : Qa) : [vi 0, vi 1295999, VV.tr (List.map vi ([z0.Azimuth] : List Int)) (([z0.Azimuth] : List Int).length)] = [vi 0, vi 1295999, VV.tr [vi z0.Azimuth] 1] := by first | rfl | (simp only [Qm, map_cons, map_nil, un_i, Yj, length_map, length_cons, length_nil]; done) | (simp only [Qm, map_cons, map_nil, un_i, Yj, length_map, length_cons, length_nil]; rfl) | (simp only [Qm, map_cons, map_nil, un_i, Yj, length_map, length_cons, length_nil, length_cons, length_nil, length_append]; done)
theorem Q2z (z0 : Qa) : [vi 0, vi 324000, VV.tr (List.map vi ([z0.Height] : List Int)) (([z0.Height] : List Int).length)] = [vi 0, vi 324000, VV.tr [vi z0.Height] 1] := by first | rfl | (simp only [Qm, map_cons, map_nil, un_i, Yj, length_map, length_cons, length_nil]; done) | (simp only [Qm, map_cons, map_nil, un_i, Yj, length_map, length_cons, length_nil]; rfl) | (simp only [Qm, map_cons, map_nil, un_i, Yj, length_map, length_cons, length_nil, length_cons, length_nil, length_append]; done)
theorem Q20 (z0 : Qa) : [vi 0, vi 10000000, VV.tr (List.map vi ([z0.From, z0.To] : List Int)) (([z0.From, z0.To] : List Int).length)] = [vi 0, vi 10000000, VV.tr [vi z0.From, vi z0.To] 2] := by first | rfl | (simp only [Qm, map_cons, map_nil, un_i, Yj, length_map, length_cons, length_nil]; done) | (simp only [Qm, map_cons, map_nil, un_i, Yj, length_map, length_cons, length_nil]; rfl) | (simp only [Qm, map_cons, map_nil, un_i, Yj, length_map, length_cons, length_nil, length_cons, length_nil, length_append]; done)
theorem Q21 (z0 : Qa) : [vi 1, vi 10000, VV.tr (List.map vi ([z0.Dwell] : List Int)) (([z0.Dwell] : List Int).length)] = [vi 1, vi 10000, VV.tr [vi z0.Dwell] 1] := by first | rfl | (simp only [Qm, map_cons, map_nil, un_i, Yj, length_map, length_cons, length_nil]; done) | (simp only [Qm, map_cons, map_nil, un_i, Yj, length_map, length_cons, length_nil]; rfl) | (simp only [Qm, map_cons, map_nil, un_i, Yj, length_map, length_cons, length_nil, length_cons, length_nil, length_append]; done)
def Qla (z0 : Bool) (z1 : Bool) : List Ans := (.n :: .n :: .v VV.any :: .call (vb z0) :: nN 4 (.v VV.any :: .call (vb z1) :: .n :: .b false :: .n :: []))
def Qq9 (z0 : Bool) (z1 : Bool) : List Ans := (nN 4 (.v VV.any :: .call (vb z0) :: nN 4 (.v VV.any :: .call (vb z1) :: .n :: .b false :: .n :: [])))
def Y9 (k : Nat) (a0 : Qa) : Option Int :=
 (Qb5 k a0.Name).bind fun r630 => (if r630 = true then ((Zc k 0 1295999 ([a0.Azimuth] : List Int)).bind fun r634 => (if r634 = true then ((Zc k 0 324000 ([a0.Height] : List Int)).bind fun r638 => (if r638 = true then ((Zc k 0 10000000 ([a0.From, a0.To] : List Int)).bind fun r643 => (if r643 = true then ((Zc k 1 10000 ([a0.Dwell] : List Int)).bind fun r647 => (if r647 = true then (if a0.To <= a0.From then (some 9) else (some 0)) else (some 2))) else (some 2))) else (some 2))) else (some 2))) else (some 4))
theorem Qgi (k : Nat) (a0 : Qa) (r : Int) (h : Y9 k a0 = some r) : VC Try.prog 48 [VV.ag (Qh a0)] (vi r) := by
 unfold Y9 at h
 obtain ⟨r630, h631, h⟩ := bs h
 have e632 := (ti (ti (an (Qjj k a0.Name _ h631) (ti (ti tt)))))
 rcases ifs h with ⟨h633, h⟩ | ⟨h633, h⟩
 ·obtain ⟨r634, h635, h⟩ := bs h
  have e636 := (VC.args (Zo k 0 1295999 ([a0.Azimuth] : List Int) _ h635) (Q2y a0))
  rcases ifs h with ⟨h637, h⟩ | ⟨h637, h⟩
  ·obtain ⟨r638, h639, h⟩ := bs h
   have e640 := (an (Q5 h637) (VC.args (Zo k 0 324000 ([a0.Height] : List Int) _ h639) (Q2z a0)))
   have e641 := (ti (ti (ti (an e636 (ti (ti (an (an (Q5 h637) tt) (an (an (Q5 h637) tt) (an (an (Q5 h637) tt) (an e640 (an (an (Q5 h637) tt) (an (Q5 h637) (ti tt)))))))))))))
   rcases ifs h with ⟨h642, h⟩ | ⟨h642, h⟩
   ·obtain ⟨r643, h644, h⟩ := bs h
    have e645 := (VC.args (Zo k 0 10000000 ([a0.From, a0.To] : List Int) _ h644) (Q20 a0))
    rcases ifs h with ⟨h646, h⟩ | ⟨h646, h⟩
    ·obtain ⟨r647, h648, h⟩ := bs h
     have e649 := (an (Q5 h646) (VC.args (Zo k 1 10000 ([a0.Dwell] : List Int) _ h648) (Q21 a0)))
     have e650 := (ti (ti (ti (ti (ti (an e645 (ti (ti (an (an (Q5 h646) tt) (an (an (Q5 h646) tt) (an (an (Q5 h646) tt) (an e649 (an (an (Q5 h646) tt) (an (Q5 h646) (ti tt)))))))))))))))
     rcases ifs h with ⟨h651, h⟩ | ⟨h651, h⟩
     ·rcases ifs h with ⟨h652, h⟩ | ⟨h652, h⟩
      ·injection h with h; subst h
       exact Qk pm pn Try.func48 (r0 := vi 9) (ans := [.reg (.n :: .n :: []), .reg (.n :: .n :: .call (vb r630) :: .n :: .n :: []), .br false, .reg (Qla r634 r638), .br false, .reg (Qq9 r643 r647), .br false, .reg (nN 6 []), .br true, .reg (.n :: [])]) (fr := true) (by kernel_rfl) (an (an (ti (ti tt)) (an e632 (an (Q5 h633) (an e641 (an (Q5 h642) (an e650 (an (Q5 h651) (an (ti (ti (ti (ti (ti (ti tt)))))) (an (dt h652) (an (ti tt) tt)))))))))) (ti tt)) (Wv.refl _)
      ·injection h with h; subst h
       exact Qk pm pn Try.func48 (r0 := vi 0) (ans := [.reg (.n :: .n :: []), .reg (.n :: .n :: .call (vb r630) :: .n :: .n :: []), .br false, .reg (Qla r634 r638), .br false, .reg (Qq9 r643 r647), .br false, .reg (nN 6 []), .br false, .reg (.n :: [])]) (fr := true) (by kernel_rfl) (an (an (ti (ti tt)) (an (an e632 (an (Q5 h633) (an e641 (an (Q5 h642) (an e650 (an (Q5 h651) (an (ti (ti (ti (ti (ti (ti tt)))))) (an (df h652) tt)))))))) (an (ti tt) tt))) (ti tt)) (Wv.refl _)
     ·injection h with h; subst h
      exact Qk pm pn Try.func48 (r0 := vi 2) (ans := [.reg (.n :: .n :: []), .reg (.n :: .n :: .call (vb r630) :: .n :: .n :: []), .br false, .reg (Qla r634 r638), .br false, .reg (Qq9 r643 r647), .br true, .reg (.n :: [])]) (fr := true) (by kernel_rfl) (an (an (ti (ti tt)) (an e632 (an (Q5 h633) (an e641 (an (Q5 h642) (an e650 (an (Z5 (Zb h651)) (an (ti tt) tt)))))))) (ti tt)) (Wv.refl _)
    ·have e653 := (ti (ti (ti (ti (ti (an e645 (ti (ti (an (Z5 (Zb h646)) (an (Z5 (Zb h646)) (an (Z5 (Zb h646)) (an (Z5 (Zb h646)) (an (Z5 (Zb h646)) (an (Z5 (Zb h646)) (ti tt)))))))))))))))
     injection h with h; subst h
     exact Qk pm pn Try.func48 (r0 := vi 2) (ans := [.reg (.n :: .n :: []), .reg (.n :: .n :: .call (vb r630) :: .n :: .n :: []), .br false, .reg (Qla r634 r638), .br false, .reg (nN 4 (.v VV.any :: .call (vb r643) :: .n :: .n :: nS 5 (.b true :: .n :: []))), .br true, .reg (.n :: [])]) (fr := true) (by kernel_rfl) (an (an (ti (ti tt)) (an e632 (an (Q5 h633) (an e641 (an (Q5 h642) (an e653 (an rt (an (ti tt) tt)))))))) (ti tt)) (Wv.refl _)
   ·injection h with h; subst h
    exact Qk pm pn Try.func48 (r0 := vi 2) (ans := [.reg (.n :: .n :: []), .reg (.n :: .n :: .call (vb r630) :: .n :: .n :: []), .br false, .reg (Qla r634 r638), .br true, .reg (.n :: [])]) (fr := true) (by kernel_rfl) (an (an (ti (ti tt)) (an e632 (an (Q5 h633) (an e641 (an (Z5 (Zb h642)) (an (ti tt) tt)))))) (ti tt)) (Wv.refl _)
  ·have e654 := (ti (ti (ti (an e636 (ti (ti (an (Z5 (Zb h637)) (an (Z5 (Zb h637)) (an (Z5 (Zb h637)) (an (Z5 (Zb h637)) (an (Z5 (Zb h637)) (an (Z5 (Zb h637)) (ti tt)))))))))))))
   injection h with h; subst h
   exact Qk pm pn Try.func48 (r0 := vi 2) (ans := [.reg (.n :: .n :: []), .reg (.n :: .n :: .call (vb r630) :: .n :: .n :: []), .br false, .reg (.n :: .n :: .v VV.any :: .call (vb r634) :: .n :: .n :: nS 5 (.b true :: .n :: [])), .br true, .reg (.n :: [])]) (fr := true) (by kernel_rfl) (an (an (ti (ti tt)) (an e632 (an (Q5 h633) (an e654 (an rt (an (ti tt) tt)))))) (ti tt)) (Wv.refl _)
 ·injection h with h; subst h
  exact Qk pm pn Try.func48 (r0 := vi 4) (ans := [.reg (.n :: .n :: []), .reg (.n :: .n :: .call (vb r630) :: .n :: .n :: []), .br true, .reg (.n :: [])]) (fr := true) (by kernel_rfl) (an (an (ti (ti tt)) (an e632 (an (Z5 (Zb h633)) (an (ti tt) tt)))) (ti tt)) (Wv.refl _)
theorem Q22 (z0 : Qa) (z1 : Int) (z2 : Int) (z3 : Int) : VV.ag [vi (w64 ((w64 (z0.Azimuth + z1)) - (w64 (z2 * 1296000)))), vi (w64 (z0.Height + z3))] = VV.ag (Qdw (⟨w64 ((w64 (z0.Azimuth + z1)) - (w64 (z2 * 1296000))), w64 (z0.Height + z3)⟩ : A26)) := by first | rfl | (simp only [Qm, map_cons, map_nil, un_i, Qck]; done) | (simp only [Qm, map_cons, map_nil, un_i, Qck]; rfl) | (simp only [Qm, map_cons, map_nil, un_i, Qck, length_cons, length_nil, length_append]; done)
def Qa7 (k : Nat) (a0 : Qc) (a1 : Qa) (a2 : Int) : Option A26 :=
 (Qaz k a0.Drift a2).bind fun r666 => ((Qa8 k (w64 (a1.Azimuth + r666)) 1296000).bind fun r670 => ((Qaz k a0.Refraction a1.Height).bind fun r673 => (some (⟨w64 ((w64 (a1.Azimuth + r666)) - (w64 (r670 * 1296000))), w64 (a1.Height + r673)⟩ : A26))))
theorem Qie (k : Nat) (a0 : Qc) (a1 : Qa) (a2 : Int) (r : A26) (h : Qa7 k a0 a1 a2 = some r) : VC Try.prog 35 [VV.ag (Zq a0), VV.ag (Qh a1), vi a2] (VV.ag (Qdw r)) := by
 unfold Qa7 at h
 obtain ⟨r666, h667, h⟩ := bs h
 have e668 := (Qff k a0.Drift a2 _ h667)
 have e669 := (ti (ti (ti (ti (ti (an e668 (ti (ti tt))))))))
 obtain ⟨r670, h671, h⟩ := bs h
 have e672 := (Qeu k (w64 (a1.Azimuth + r666)) 1296000 _ h671)
 obtain ⟨r673, h674, h⟩ := bs h
 have e675 := (Qff k a0.Refraction a1.Height _ h674)
 have e676 := (ti (ti (ti (ti (ti (ti (ti (an e675 (ti (ti (ti tt)))))))))))
 injection h with h; subst h
 exact Qk pm pn Try.func35 (r0 := VV.ag [vi (w64 ((w64 (a1.Azimuth + r666)) - (w64 (r670 * 1296000)))), vi (w64 (a1.Height + r673))]) (ans := [.reg (nN 3 []), .reg (nN 5 (.call (vi r666) :: .n :: .n :: [])), .reg (.n :: .n :: .call (vi r670) :: nN 3 []), .reg (nN 7 (.call (vi r673) :: nN 3 []))]) (fr := true) (by kernel_rfl) (an (an (ti (ti (ti tt))) (an e669 (an (ti (ti (an e672 (ti (ti (ti tt)))))) (an e676 tt)))) (an (ti (ti (ti tt))) tt)) (Wv.of_eq (Q22 a1 r666 r670 r673))
theorem Q23 (z0 : Qc) (z1 : A26) : [vi z0.Low, vi z0.High, VV.tr (List.map vi ([z1.e1] : List Int)) (([z1.e1] : List Int).length)] = [vi z0.Low, vi z0.High, VV.tr [vi z1.e1] 1] := by first | rfl | (simp only [Qm, map_cons, map_nil, un_i, Yj, length_map, length_cons, length_nil]; done) | (simp only [Qm, map_cons, map_nil, un_i, Yj, length_map, length_cons, length_nil]; rfl) | (simp only [Qm, map_cons, map_nil, un_i, Yj, length_map, length_cons, length_nil, length_cons, length_nil, length_append]; done)
def Qhr (k : Nat) (a0 : Int) (a1 : Int) : Option Int :=
 (Qa8 k (w64 (0 - a0)) a1).bind fun r690 => (some (w64 (0 - r690)))
theorem Qpp (k : Nat) (a0 : Int) (a1 : Int) (r : Int) (h : Qhr k a0 a1 = some r) : VC Try.prog 32 [vi a0, vi a1] (vi r) := by
 unfold Qhr at h
 obtain ⟨r690, h691, h⟩ := bs h
 have e692 := (Qeu k (w64 (0 - a0)) a1 _ h691)
 injection h with h; subst h
 exact Qk pm pn Try.func32 (r0 := vi (w64 (0 - r690))) (ans := [.reg (.n :: []), .reg (nN 3 (.call (vi r690) :: .n :: .n :: []))]) (fr := true) (by kernel_rfl) (an (an (ti tt) (an (ti (ti (ti (an e692 (ti (ti tt)))))) tt)) (ti tt)) (Wv.refl _)
def Qbi (a0 : Qc) (a1 : Qa) (r724 : A26) (y5 : List Int) (y6 : List Int) (x12 : Int) : VS := ⟨mkA [(3, VV.pt 0 0), (6, VV.pt 2 0), (9, vi r724.e0), (11, VV.pt 4 0), (12, vi x12)], [some ⟨true, 1, Zq a0⟩, some ⟨true, 1, Qh a1⟩, some ⟨true, 1, [vs ByteArray.empty, vi 0, vi 0, vi 0, vi 0, vi 0, VV.c (.slice none 0 0), VV.c (.slice none 0 0)]⟩, some ⟨true, 1, Qdw r724⟩, some ⟨true, 1, [vs a1.Name, vi a1.Azimuth, vi a1.Height, vi a1.From, vi a1.To, vi a1.Dwell, VV.rf 5 0 y5.length, VV.rf 6 0 y6.length]⟩, some ⟨false, 1, List.map vi y5⟩, some ⟨false, 1, List.map vi y6⟩], .nil⟩
def Wl (a0 : Qc) (a1 : Qa) (r724 : A26) (r : (List Int) × (List Int)) : VS := ⟨mkA [(6, VV.pt 2 0), (11, VV.pt 4 0)], [some ⟨true, 1, Zq a0⟩, some ⟨true, 1, Qh a1⟩, some ⟨true, 1, [vs ByteArray.empty, vi 0, vi 0, vi 0, vi 0, vi 0, VV.c (.slice none 0 0), VV.c (.slice none 0 0)]⟩, some ⟨true, 1, Qdw r724⟩, some ⟨true, 1, [vs a1.Name, vi a1.Azimuth, vi a1.Height, vi a1.From, vi a1.To, vi a1.Dwell, VV.rf 5 0 r.1.length, VV.rf 6 0 r.2.length]⟩, some ⟨false, 1, List.map vi r.1⟩, some ⟨false, 1, List.map vi r.2⟩], .nil⟩
def X3 (k : Nat) (a0 : Qc) (a1 : Qa) (r724 : A26) : Nat -> (List Int) -> (List Int) -> Int -> Option ((List Int) × (List Int))
 | 0, _, _, _ => none
 | fuel + 1, y5, y6, x12 => if (w64 (r724.e0 + (w64 (x12 * 1296000)))) <= a0.Most then (if y5.length + ([x12] : List Int).length <= 1000000000 then (if y6.length + ([w64 (r724.e0 + (w64 (x12 * 1296000)))] : List Int).length <= 1000000000 then (X3 k a0 a1 r724 fuel (y5 ++ ([x12] : List Int)) (y6 ++ ([w64 (r724.e0 + (w64 (x12 * 1296000)))] : List Int)) (w64 (x12 + 1))) else none) else none) else (some (y5, y6))
theorem Qgp (k : Nat) (a0 : Qc) (a1 : Qa) (r724 : A26) : ∀ (fuel : Nat) (y5 : List Int) (y6 : List Int) (x12 : Int) (r : (List Int) × (List Int)), X3 k a0 a1 r724 fuel y5 y6 x12 = some r -> (J6 none Try.prog (szF Try.f34) (X5 Try.f34 0) (Qbi a0 a1 r724 y5 y6 x12) (.exit 0) (Wl a0 a1 r724 r)) := by
 intro fuel
 induction fuel with
 | zero => intro y5 y6 x12 r h; rw [X3.eq_1] at h; cases h
 | succ fuel ih =>
  intro y5 y6 x12 r h
  rw [X3.eq_2] at h
  rcases ifs h with ⟨h755, h⟩ | ⟨h755, h⟩
  ·obtain ⟨h756, h⟩ := ifn h
   have e757 := (show List.length (List.map vi y5) = y5.length * 1 /\ List.length [vi x12] = 1 * 1 /\ (y5.length + 1) * 8 <= 140737488355328 /\ y5.length + 1 < 1099511627776 /\ List.all [vi x12] VV.still = true from ⟨(by simp), (by rw [show [vi x12] = List.map vi ([x12] : List Int) from rfl]; simp), (by first | omega | (simp at h756 ⊢; omega)), (by first | omega | (simp at h756 ⊢; omega)), (by rw [show [vi x12] = List.map vi ([x12] : List Int) from rfl]; exact Qmv _)⟩)
   obtain ⟨h758, h⟩ := ifn h
   have e759 := (show List.length (List.map vi y6) = y6.length * 1 /\ List.length [vi (w64 (r724.e0 + (w64 (x12 * 1296000))))] = 1 * 1 /\ (y6.length + 1) * 8 <= 140737488355328 /\ y6.length + 1 < 1099511627776 /\ List.all [vi (w64 (r724.e0 + (w64 (x12 * 1296000))))] VV.still = true from ⟨(by simp), (by rw [show [vi (w64 (r724.e0 + (w64 (x12 * 1296000))))] = List.map vi ([w64 (r724.e0 + (w64 (x12 * 1296000)))] : List Int) from rfl]; simp), (by first | omega | (simp at h758 ⊢; omega)), (by first | omega | (simp at h758 ⊢; omega)), (by rw [show [vi (w64 (r724.e0 + (w64 (x12 * 1296000))))] = List.map vi ([w64 (r724.e0 + (w64 (x12 * 1296000)))] : List Int) from rfl]; exact Qmv _)⟩)
   have e760 := (ti (ti (ti (ti (ti (ti (ti (an e759 (ti (ti tt))))))))))
   have h2 := ih _ _ _ _ h
   obtain ⟨q, hv, hq⟩ := pkR (rd := none) (P := Try.prog) (fn := Try.f34) (k := 0) (s := (Qbi a0 a1 r724 y5 y6 x12)) (ans := [.reg (nN 7 []), .br true, .reg (nN 7 []), .reg (nN 10 []), .reg (nN 3 [])]) (c := ⟨[(3, none), (6, none), (9, none), (11, none), (12, none)], [none, none, none, none, some [vs a1.Name, vi a1.Azimuth, vi a1.Height, vi a1.From, vi a1.To, vi a1.Dwell, VV.rf 5 0 ((y5 ++ ([x12] : List Int)).length), VV.rf 6 0 ((y6 ++ ([w64 (r724.e0 + (w64 (x12 * 1296000)))] : List Int)).length)], some (List.map vi (y5 ++ ([x12] : List Int))), some (List.map vi (y6 ++ ([w64 (r724.e0 + (w64 (x12 * 1296000)))] : List Int)))], []⟩) (e := .normal) (s1 := (Qbi a0 a1 r724 (y5 ++ ([x12] : List Int)) (y6 ++ ([w64 (r724.e0 + (w64 (x12 * 1296000)))] : List Int)) (w64 (x12 + 1)))) (an (an (an (ti (ti (ti (ti (ti (ti (ti tt))))))) (an (dt h755) tt)) (an (an (ti (ti (ti (ti (an e757 (ti (ti tt))))))) e760) (ti (ti (ti tt))))) (ti (an (show [vs a1.Name, vi a1.Azimuth, vi a1.Height, vi a1.From, vi a1.To, vi a1.Dwell, VV.rf 5 0 (y5.length + 1), VV.rf 6 0 (y6.length + 1)] = [vs a1.Name, vi a1.Azimuth, vi a1.Height, vi a1.From, vi a1.To, vi a1.Dwell, VV.rf 5 0 ((y5 ++ ([x12] : List Int)).length), VV.rf 6 0 ((y6 ++ ([w64 (r724.e0 + (w64 (x12 * 1296000)))] : List Int)).length)] from (by first | rfl | simp)) (an (show (List.map vi y5) ++ [vi x12] = List.map vi (y5 ++ ([x12] : List Int)) from (by rw [show [vi x12] = List.map vi ([x12] : List Int) from rfl]; exact List.map_append.symm)) (an (show (List.map vi y6) ++ [vi (w64 (r724.e0 + (w64 (x12 * 1296000))))] = List.map vi (y6 ++ ([w64 (r724.e0 + (w64 (x12 * 1296000)))] : List Int)) from (by rw [show [vi (w64 (r724.e0 + (w64 (x12 * 1296000))))] = List.map vi ([w64 (r724.e0 + (w64 (x12 * 1296000)))] : List Int) from rfl]; exact List.map_append.symm)) tt))))) (by kernel_rfl)
   exact Qy pm pn hv hq h2
  ·injection h with h; subst h
   exact Qz (c := ⟨[(6, none), (11, none)], [none, none, none, none, none, none, none], []⟩) (s1 := (Wl a0 a1 r724 (y5, y6))) pm pn (ans := [.reg (nN 7 []), .br false]) (by kernel_rfl) (by intro e; cases e) (an (an (ti (ti (ti (ti (ti (ti (ti tt))))))) (an (df h755) tt)) (ti tt))
theorem Qw1  : vi 0 = vi (((⟨(⟨ByteArray.empty, 0, 0, 0, 0, 0⟩ : Qa), [], []⟩ : Z8).SkyTarget).Dwell) := by first | rfl | (simp only [Qm, map_cons, map_nil, un_i]; done) | (simp only [Qm, map_cons, map_nil, un_i]; rfl) | (simp only [Qm, map_cons, map_nil, un_i, length_cons, length_nil, length_append]; done)
theorem Qw2  : vi 0 = vi (((⟨(⟨ByteArray.empty, 0, 0, 0, 0, 0⟩ : Qa), [], []⟩ : Z8).SkyTarget).To) := by first | rfl | (simp only [Qm, map_cons, map_nil, un_i]; done) | (simp only [Qm, map_cons, map_nil, un_i]; rfl) | (simp only [Qm, map_cons, map_nil, un_i, length_cons, length_nil, length_append]; done)
theorem Qw3  : vi 0 = vi (((⟨(⟨ByteArray.empty, 0, 0, 0, 0, 0⟩ : Qa), [], []⟩ : Z8).SkyTarget).From) := by first | rfl | (simp only [Qm, map_cons, map_nil, un_i]; done) | (simp only [Qm, map_cons, map_nil, un_i]; rfl) | (simp only [Qm, map_cons, map_nil, un_i, length_cons, length_nil, length_append]; done)
theorem Qw4  : vi 0 = vi (((⟨(⟨ByteArray.empty, 0, 0, 0, 0, 0⟩ : Qa), [], []⟩ : Z8).SkyTarget).Height) := by first | rfl | (simp only [Qm, map_cons, map_nil, un_i]; done) | (simp only [Qm, map_cons, map_nil, un_i]; rfl) | (simp only [Qm, map_cons, map_nil, un_i, length_cons, length_nil, length_append]; done)
theorem Qw5  : vi 0 = vi (((⟨(⟨ByteArray.empty, 0, 0, 0, 0, 0⟩ : Qa), [], []⟩ : Z8).SkyTarget).Azimuth) := by first | rfl | (simp only [Qm, map_cons, map_nil, un_i]; done) | (simp only [Qm, map_cons, map_nil, un_i]; rfl) | (simp only [Qm, map_cons, map_nil, un_i, length_cons, length_nil, length_append]; done)
theorem Qw6  : vs ByteArray.empty = vs (((⟨(⟨ByteArray.empty, 0, 0, 0, 0, 0⟩ : Qa), [], []⟩ : Z8).SkyTarget).Name) := by first | rfl | (simp only [Qcj, map_cons, map_nil, un_s]; done) | (simp only [Qcj, map_cons, map_nil, un_s]; rfl) | (simp only [Qcj, map_cons, map_nil, un_s, length_cons, length_nil, length_append]; done)
theorem Q04 (z0 : Qa) (z1 : (List Int) × (List Int)) : VV.tu [VV.ag [vs z0.Name, vi z0.Azimuth, vi z0.Height, vi z0.From, vi z0.To, vi z0.Dwell, VV.fw 1 (List.drop 0 (List.map unfr (List.map vi z1.1))) z1.1.length, VV.fw 1 (List.drop 0 (List.map unfr (List.map vi z1.2))) z1.2.length], vi 0] = VV.tu [VV.ag [vs (((⟨z0, z1.1, z1.2⟩ : Z8).SkyTarget).Name), vi (((⟨z0, z1.1, z1.2⟩ : Z8).SkyTarget).Azimuth), vi (((⟨z0, z1.1, z1.2⟩ : Z8).SkyTarget).Height), vi (((⟨z0, z1.1, z1.2⟩ : Z8).SkyTarget).From), vi (((⟨z0, z1.1, z1.2⟩ : Z8).SkyTarget).To), vi (((⟨z0, z1.1, z1.2⟩ : Z8).SkyTarget).Dwell), VV.fw 1 (List.map vi ((⟨z0, z1.1, z1.2⟩ : Z8).turns)) (((⟨z0, z1.1, z1.2⟩ : Z8).turns).length), VV.fw 1 (List.map vi ((⟨z0, z1.1, z1.2⟩ : Z8).positions)) (((⟨z0, z1.1, z1.2⟩ : Z8).positions).length)], vi 0] := by first | rfl | (simp only [Qea, Qm, Qcj, map_cons, map_nil, un_i, un_s, length_map, length_cons, length_nil]; done) | (simp only [Qea, Qm, Qcj, map_cons, map_nil, un_i, un_s, length_map, length_cons, length_nil]; rfl) | (simp only [Qea, Qm, Qcj, map_cons, map_nil, un_i, un_s, length_map, length_cons, length_nil, length_cons, length_nil, length_append]; done)
def Qb6 (k : Nat) (a0 : Qc) (a1 : Qa) (a2 : Int) : Option (Z8 × Int) :=
 (Qa7 k a0 a1 a2).bind fun r724 => ((Zc k a0.Low a0.High ([r724.e1] : List Int)).bind fun r729 => (if r729 = true then ((Qhr k (w64 (a0.Least - r724.e0)) 1296000).bind fun r734 => ((X3 k a0 a1 r724 k ([] : List Int) ([] : List Int) r734).bind fun r762 => (if ((r762.1.length : Nat) : Int) = 0 then (some ((⟨(⟨ByteArray.empty, 0, 0, 0, 0, 0⟩ : Qa), [], []⟩ : Z8), 12)) else (some ((⟨a1, r762.1, r762.2⟩ : Z8), 0))))) else (some ((⟨(⟨ByteArray.empty, 0, 0, 0, 0, 0⟩ : Qa), [], []⟩ : Z8), 26))))
theorem Qjg (k : Nat) (a0 : Qc) (a1 : Qa) (a2 : Int) (r : (Z8 × Int)) (h : Qb6 k a0 a1 a2 = some r) : VC Try.prog 34 [VV.ag (Zq a0), VV.ag (Qh a1), vi a2] (VV.tu [VV.ag [vs r.1.SkyTarget.Name, vi r.1.SkyTarget.Azimuth, vi r.1.SkyTarget.Height, vi r.1.SkyTarget.From, vi r.1.SkyTarget.To, vi r.1.SkyTarget.Dwell, VV.fw 1 (List.map vi r.1.turns) r.1.turns.length, VV.fw 1 (List.map vi r.1.positions) r.1.positions.length], vi r.2]) := by
 unfold Qb6 at h
 obtain ⟨r724, h725, h⟩ := bs h
 have e726 := (ti (ti (ti (an (Qie k a0 a1 a2 _ h725) (ti (ti tt))))))
 have e727 := (show (0:Int) <= 0 /\ (0:Int) < ((2 : Nat) : Int) from ⟨by decide, by decide⟩)
 have e728 := (show (0:Int) <= 1 /\ (1:Int) < ((2 : Nat) : Int) from ⟨by decide, by decide⟩)
 obtain ⟨r729, h730, h⟩ := bs h
 have e731 := (VC.args (Zo k a0.Low a0.High ([r724.e1] : List Int) _ h730) (Q23 a0 r724))
 have e732 := (ti (ti (ti (ti (ti (ti (an e731 (ti tt))))))))
 rcases ifs h with ⟨h733, h⟩ | ⟨h733, h⟩
 ·obtain ⟨r734, h735, h⟩ := bs h
  have e736 := (Qpp k (w64 (a0.Least - r724.e0)) 1296000 _ h735)
  obtain ⟨r762, h761, h⟩ := bs h
  have hph761 := Qgp k a0 a1 r724 _ _ _ _ _ h761
  have e763 := (an (ti tt) (VRun.loop hph761))
  rcases ifs h with ⟨h764, h⟩ | ⟨h764, h⟩
  ·injection h with h; subst h
   exact Qk pm pn Try.func34 (r0 := VV.tu [VV.ag [vs ByteArray.empty, vi 0, vi 0, vi 0, vi 0, vi 0, VV.c (.slice none 0 0), VV.c (.slice none 0 0)], vi 12]) (ans := [.reg (nN 4 []), .reg (nN 3 (.call (VV.ag (Qdw r724)) :: .n :: .n :: [])), .reg (nN 6 []), .reg (nN 5 (.v VV.any :: .call (vb r729) :: .n :: [])), .br false, .reg (nN 4 []), .reg (nN 4 (.call (vi r734) :: .n :: [])), .sub ⟨[(3, none), (6, none), (9, none), (11, none), (12, none)], [none, none, none, none, none], [.b 4 6 1, .b 4 7 1]⟩ (.exit 0) (Wl a0 a1 r724 r762), .reg (nN 4 []), .br true, .reg (nN 3 [])]) (fr := true) (by kernel_rfl) (an (an (ti (ti (ti (ti tt)))) (an e726 (an (an e727 (ti (an e728 (ti (ti (ti tt)))))) (an (an e732 (an (Q5 h733) tt)) (an (ti (ti (ti (ti tt)))) (an (an (ti (ti (ti (ti (an e736 (ti tt)))))) e763) (an (ti (ti (ti (ti tt)))) (an (dt h764) (an (ti (ti (ti tt))) tt))))))))) (an (ti (ti (ti (ti (ti (ti (ti (ti (ti tt))))))))) (ti tt))) (Wv.tuL (.cons (Wv.agL (.cons (Wv.of_eq Qw6) (.cons (Wv.of_eq Qw5) (.cons (Wv.of_eq Qw4) (.cons (Wv.of_eq Qw3) (.cons (Wv.of_eq Qw2) (.cons (Wv.of_eq Qw1) (.cons Wv.Qka (.cons Wv.Qka .nil))))))))) (.cons (Wv.refl _) .nil)))
  ·injection h with h; subst h
   exact Qk pm pn Try.func34 (r0 := VV.tu [VV.ag [vs a1.Name, vi a1.Azimuth, vi a1.Height, vi a1.From, vi a1.To, vi a1.Dwell, VV.fw 1 (List.drop 0 (List.map unfr (List.map vi r762.1))) r762.1.length, VV.fw 1 (List.drop 0 (List.map unfr (List.map vi r762.2))) r762.2.length], vi 0]) (ans := [.reg (nN 4 []), .reg (nN 3 (.call (VV.ag (Qdw r724)) :: .n :: .n :: [])), .reg (nN 6 []), .reg (nN 5 (.v VV.any :: .call (vb r729) :: .n :: [])), .br false, .reg (nN 4 []), .reg (nN 4 (.call (vi r734) :: .n :: [])), .sub ⟨[(3, none), (6, none), (9, none), (11, none), (12, none)], [none, none, none, none, none], [.b 4 6 1, .b 4 7 1]⟩ (.exit 0) (Wl a0 a1 r724 r762), .reg (nN 4 []), .br false, .reg (nN 3 [])]) (fr := true) (by kernel_rfl) (an (an (ti (ti (ti (ti tt)))) (an e726 (an (an e727 (ti (an e728 (ti (ti (ti tt)))))) (an (an e732 (an (Q5 h733) tt)) (an (ti (ti (ti (ti tt)))) (an (an (ti (ti (ti (ti (an e736 (ti tt)))))) e763) (an (an (ti (ti (ti (ti tt)))) (an (df h764) tt)) (an (ti (ti (ti tt))) tt)))))))) (an (ti (ti (ti (ti (ti (ti (ti (an (show List.all (List.map vi r762.1) new0 = true from (by exact Qhb _)) (an (show List.all (List.map vi r762.2) new0 = true from (by exact Qhb _)) tt))))))))) (ti tt))) (Wv.of_eq (Q04 a1 r762))
 ·injection h with h; subst h
  exact Qk pm pn Try.func34 (r0 := VV.tu [VV.ag [vs ByteArray.empty, vi 0, vi 0, vi 0, vi 0, vi 0, VV.c (.slice none 0 0), VV.c (.slice none 0 0)], vi 26]) (ans := [.reg (nN 4 []), .reg (nN 3 (.call (VV.ag (Qdw r724)) :: .n :: .n :: [])), .reg (nN 6 []), .reg (nN 5 (.v VV.any :: .call (vb r729) :: .n :: [])), .br true, .reg (nN 3 [])]) (fr := true) (by kernel_rfl) (an (an (ti (ti (ti (ti tt)))) (an e726 (an (an e727 (ti (an e728 (ti (ti (ti tt)))))) (an e732 (an (Z5 (Zb h733)) (an (ti (ti (ti tt))) tt)))))) (an (ti (ti (ti (ti (ti (ti (ti (ti (ti tt))))))))) (ti tt))) (Wv.tuL (.cons (Wv.agL (.cons (Wv.of_eq Qw6) (.cons (Wv.of_eq Qw5) (.cons (Wv.of_eq Qw4) (.cons (Wv.of_eq Qw3) (.cons (Wv.of_eq Qw2) (.cons (Wv.of_eq Qw1) (.cons Wv.Qka (.cons Wv.Qka .nil))))))))) (.cons (Wv.refl _) .nil)))
end Go.Proofs.Ytbgajdbpdhipiaa.Vg

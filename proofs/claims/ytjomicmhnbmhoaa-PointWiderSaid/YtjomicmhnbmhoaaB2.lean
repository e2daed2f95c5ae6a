import Derived.Test.YtjomicmhnbmhoaaB1
namespace Go.Proofs.Ytjomicmhnbmhoaa.Vg
set_option maxRecDepth 100000
set_option maxHeartbeats 4000000
set_option linter.unusedVariables false
set_option linter.unusedSimpArgs false
open Go Go.Proofs.Ytjomicmhnbmhoaa.Ev Go.Proofs.Ytjomicmhnbmhoaa.Vv
open List (flatMap length_cons length_nil length_map length_append map_cons map_nil length_replicate)
structure Qc where
 Least : Int
 Most : Int
 Low : Int
 High : Int
 Speed : Int
 Refraction : (List Qo)
 Drift : (List Qo)
 deriving Inhabited
def Zt (x : Qc) : List VV := [vi x.Least, vi x.Most, vi x.Low, vi x.High, vi x.Speed, VV.tr (flatMap Qi x.Refraction) x.Refraction.length, VV.tr (flatMap Qi x.Drift) x.Drift.length]
def Y1 (x : Qc) : List VV := [vi x.Least, vi x.Most, vi x.Low, vi x.High, vi x.Speed, VV.fr (flatMap Qi x.Refraction) x.Refraction.length, VV.fr (flatMap Qi x.Drift) x.Drift.length]
theorem Yt (xs : List Qc) : (xs.flatMap Zt).map unfr = xs.flatMap Zt := Qae (fun _ => rfl) xs
theorem Yv (xs : List Qc) : (xs.flatMap Y1).map unfr = xs.flatMap Zt := Qae (fun _ => rfl) xs
structure Qa where
 Name : ByteArray
 Azimuth : Int
 Height : Int
 From : Int
 To : Int
 Dwell : Int
 deriving Inhabited
def Qe (x : Qa) : List VV := [vs x.Name, vi x.Azimuth, vi x.Height, vi x.From, vi x.To, vi x.Dwell]
theorem X9 (x : Qa) : (Qe x).length = 6 := rfl
theorem Qhl (xs : List Qa) : (xs.flatMap Qe).all VV.still = true := Qf6 (fun _ => rfl) xs
theorem Qh4 (xs : List Qa) : (xs.flatMap Qe).all new0 = true := Qf6 (fun _ => rfl) xs
theorem Xm (xs : List Qa) : (xs.flatMap Qe).map unfr = xs.flatMap Qe := Qj3 (fun _ => rfl) xs
structure A26 where
 e0 : Int
 e1 : Int
 deriving Inhabited
def Qbv (x : A26) : List VV := [vi x.e0, vi x.e1]
theorem Yu (xs : List A26) : (xs.flatMap Qbv).map unfr = xs.flatMap Qbv := Qj3 (fun _ => rfl) xs
structure Zv where
 SkyTarget : Qa
 turns : (List Int)
 positions : (List Int)
 deriving Inhabited
def Qy (x : Zv) : List VV := [vs x.SkyTarget.Name, vi x.SkyTarget.Azimuth, vi x.SkyTarget.Height, vi x.SkyTarget.From, vi x.SkyTarget.To, vi x.SkyTarget.Dwell, VV.tr (List.map vi x.turns) x.turns.length, VV.tr (List.map vi x.positions) x.positions.length]
theorem Qb1 (x : Zv) : (Qy x).length = 8 := rfl
def Wi (x : Zv) : List VV := [vs x.SkyTarget.Name, vi x.SkyTarget.Azimuth, vi x.SkyTarget.Height, vi x.SkyTarget.From, vi x.SkyTarget.To, vi x.SkyTarget.Dwell, VV.fr (List.map vi x.turns) x.turns.length, VV.fr (List.map vi x.positions) x.positions.length]
theorem Qks (x : Zv) : (Wi x).length = 8 := rfl
theorem Qnl (xs : List Zv) : (xs.flatMap Wi).all VV.still = true := Qf6 (fun _ => rfl) xs
theorem Qbd (xs : List Zv) : (xs.flatMap Qy).map unfr = xs.flatMap Qy := Qae (fun _ => rfl) xs
theorem Qbe (xs : List Zv) : (xs.flatMap Wi).map unfr = xs.flatMap Qy := Qae (fun _ => rfl) xs
theorem Qo9 (xs : List Zv) : (xs.flatMap Wi).all new0 = true := Qf6 (fun _ => rfl) xs
def Ju (k : Nat) (a0 : Qc) : Option Bool :=
 (Jf k a0.Refraction).bind fun r656 => (if r656 = true then ((Jf k a0.Drift).bind fun r660 => (some r660)) else (some false))
theorem Qex (k : Nat) (a0 : Qc) (r : Bool) (h : Ju k a0 = some r) : VC Try.prog 25 [VV.ag (Zt a0)] (vb r) := by
 unfold Ju at h
 obtain ⟨r656, h657, h⟩ := bs h
 have e658 := (Qbt k a0.Refraction _ h657)
 rcases ifs h with ⟨h659, h⟩ | ⟨h659, h⟩
 ·obtain ⟨r660, h661, h⟩ := bs h
  have e662 := (an h659 (Qbt k a0.Drift _ h661))
  have e663 := (ti (ti (an e658 (ti (an (an h659 tt) (an (an h659 tt) (an e662 (an h659 (ti tt)))))))))
  injection h with h; subst h
  exact Qn pm pn Try.func25 (r0 := vb r660) (ans := [.reg (.n :: .n :: []), .reg (.n :: .n :: .call (vb r656) :: nN 3 (.call (vb r660) :: .b true :: .n :: []))]) (fr := true) (by kernel_rfl) (an (an (ti (ti tt)) (an e663 tt)) (ti tt)) (Wv.refl _)
 ·have e664 := (ti (ti (an e658 (ti (an (Qx h659) (an (Qx h659) (an (Qx h659) (an (Qx h659) (ti tt)))))))))
  injection h with h; subst h
  exact Qn pm pn Try.func25 (r0 := vb false) (ans := [.reg (.n :: .n :: []), .reg (.n :: .n :: .call (vb r656) :: .n :: nS 3 (.b false :: .n :: []))]) (fr := true) (by kernel_rfl) (an (an (ti (ti tt)) (an e664 tt)) (ti tt)) (Wv.refl _)
def Q2d (z0 : (List Qo)) (z1 : (List Qo)) : List Ans := (.n :: .n :: .call (VV.fr (flatMap Qi z0) z0.length) :: .n :: .n :: .call (VV.fr (flatMap Qi z1) z1.length) :: nN 4 [])
theorem Q2e (z0 : Qc) (z1 : (List Qo)) (z2 : (List Qo)) : VV.ag [vi z0.Least, vi z0.Most, vi z0.Low, vi z0.High, vi z0.Speed, VV.fr (flatMap Qi z1) z1.length, VV.fr (flatMap Qi z2) z2.length] = VV.ag (Y1 (⟨z0.Least, z0.Most, z0.Low, z0.High, z0.Speed, z1, z2⟩ : Qc)) := by first | rfl | (simp only [Qk, map_cons, map_nil, un_i, Qk0, length_cons, length_nil, X0, Yv]; done) | (simp only [Qk, map_cons, map_nil, un_i, Qk0, length_cons, length_nil, X0, Yv]; rfl) | (simp only [Qk, map_cons, map_nil, un_i, Qk0, length_cons, length_nil, X0, Yv, Qi, Y1, length_cons, length_nil, length_append]; done)
def X6 (k : Nat) (a0 : Qc) : Option Qc :=
 (X7 k a0.Refraction).bind fun r672 => ((X7 k a0.Drift).bind fun r675 => (some (⟨a0.Least, a0.Most, a0.Low, a0.High, a0.Speed, r672, r675⟩ : Qc)))
theorem Wl (k : Nat) (a0 : Qc) (r : Qc) (h : X6 k a0 = some r) : VC Try.prog 8 [VV.ag (Zt a0)] (VV.ag (Y1 r)) := by
 unfold X6 at h
 obtain ⟨r672, h673, h⟩ := bs h
 have e674 := (show VC Try.prog 30 [VV.tr (flatMap Qi a0.Refraction) a0.Refraction.length] (VV.fr (flatMap Qi r672) r672.length) from (VC.weak (Qbo k a0.Refraction _ h673) (Wv.fw rfl rfl)))
 obtain ⟨r675, h676, h⟩ := bs h
 have e677 := (show VC Try.prog 30 [VV.tr (flatMap Qi a0.Drift) a0.Drift.length] (VV.fr (flatMap Qi r675) r675.length) from (VC.weak (Qbo k a0.Drift _ h676) (Wv.fw rfl rfl)))
 have e678 := (ti (ti (an e674 (ti (ti (an e677 (ti (ti (ti (ti tt))))))))))
 injection h with h; subst h
 exact Qn pm pn Try.func8 (r0 := VV.ag [vi a0.Least, vi a0.Most, vi a0.Low, vi a0.High, vi a0.Speed, VV.fr (flatMap Qi r672) r672.length, VV.fr (flatMap Qi r675) r675.length]) (ans := [.reg (.n :: .n :: []), .reg (Q2d r672 r675), .reg (.n :: .n :: [])]) (fr := true) (by kernel_rfl) (an (an (ti (ti tt)) (an e678 (an (ti (ti tt)) tt))) (an (ti (ti (ti (ti (ti (ti (ti (ti tt)))))))) tt)) (Wv.of_eq (Q2e a0 r672 r675))
theorem Q2f (z0 : Qc) : [vi 25920000, VV.tr (List.map vi ([z0.Least, z0.Most] : List Int)) (([z0.Least, z0.Most] : List Int).length)] = [vi 25920000, VV.tr [vi z0.Least, vi z0.Most] 2] := by first | rfl | (simp only [Qk, map_cons, map_nil, un_i, Jd, length_map, length_cons, length_nil]; done) | (simp only [Qk, map_cons, map_nil, un_i, Jd, length_map, length_cons, length_nil]; rfl) | (simp only [Qk, map_cons, map_nil, un_i, Jd, length_map, length_cons, length_nil, length_cons, length_nil, length_append]; done)
theorem Q2g (z0 : Qc) : [vi 0, vi 324000, VV.tr (List.map vi ([z0.Low, z0.High] : List Int)) (([z0.Low, z0.High] : List Int).length)] = [vi 0, vi 324000, VV.tr [vi z0.Low, vi z0.High] 2] := by first | rfl | (simp only [Qk, map_cons, map_nil, un_i, Jd, length_map, length_cons, length_nil]; done) | (simp only [Qk, map_cons, map_nil, un_i, Jd, length_map, length_cons, length_nil]; rfl) | (simp only [Qk, map_cons, map_nil, un_i, Jd, length_map, length_cons, length_nil, length_cons, length_nil, length_append]; done)
theorem Q2h (z0 : Qc) : [vi 1, vi 1000000, VV.tr (List.map vi ([z0.Speed] : List Int)) (([z0.Speed] : List Int).length)] = [vi 1, vi 1000000, VV.tr [vi z0.Speed] 1] := by first | rfl | (simp only [Qk, map_cons, map_nil, un_i, Jd, length_map, length_cons, length_nil]; done) | (simp only [Qk, map_cons, map_nil, un_i, Jd, length_map, length_cons, length_nil]; rfl) | (simp only [Qk, map_cons, map_nil, un_i, Jd, length_map, length_cons, length_nil, length_cons, length_nil, length_append]; done)
def Qpe (z0 : Bool) (z1 : Bool) (z2 : Bool) : List Ans := (nN 4 (.v VV.any :: .call (vb z0) :: nN 6 (.v VV.any :: .call (vb z1) :: .n :: .b false :: nN 3 (.v VV.any :: .call (vb z2) :: .n :: .b false :: .n :: []))))
def Q2i (z0 : Bool) (z1 : Bool) : List Ans := (nN 4 (.v VV.any :: .call (vb z0) :: nN 6 (.v VV.any :: .call (vb z1) :: .n :: .b false :: .n :: nS 5 (.b true :: .n :: []))))
def Q2j (z0 : Bool) : List Ans := (nN 4 (.v VV.any :: .call (vb z0) :: .n :: .n :: nS 7 (.b true :: .n :: nS 5 (.b true :: .n :: []))))
def Yd (k : Nat) (a0 : Qc) : Option Int :=
 (Jl k 25920000 ([a0.Least, a0.Most] : List Int)).bind fun r705 => (if r705 = true then ((Q8 k 0 324000 ([a0.Low, a0.High] : List Int)).bind fun r709 => (if r709 = true then ((Q8 k 1 1000000 ([a0.Speed] : List Int)).bind fun r713 => (if r713 = true then (if a0.Most < a0.Least then (some 9) else (if a0.High < a0.Low then (some 9) else ((Yh k a0.Refraction).bind fun r722 => (if r722 = 0 then ((Yh k a0.Drift).bind fun r726 => (some r726)) else (some r722))))) else (some 2))) else (some 2))) else (some 2))
theorem Qcr (k : Nat) (a0 : Qc) (r : Int) (h : Yd k a0 = some r) : VC Try.prog 56 [VV.ag (Zt a0)] (vi r) := by
 unfold Yd at h
 obtain ⟨r705, h706, h⟩ := bs h
 have e707 := (VC.args (Qbn k 25920000 ([a0.Least, a0.Most] : List Int) _ h706) (Q2f a0))
 rcases ifs h with ⟨h708, h⟩ | ⟨h708, h⟩
 ·obtain ⟨r709, h710, h⟩ := bs h
  have e711 := (an (Qu h708) (VC.args (Zm k 0 324000 ([a0.Low, a0.High] : List Int) _ h710) (Q2g a0)))
  rcases ifs h with ⟨h712, h⟩ | ⟨h712, h⟩
  ·obtain ⟨r713, h714, h⟩ := bs h
   have e715 := (an (Qu h712) (VC.args (Zm k 1 1000000 ([a0.Speed] : List Int) _ h714) (Q2h a0)))
   have e716 := (ti (ti (ti (ti (ti (an e707 (ti (ti (an (an (Qu h708) tt) (an (an (Qu h708) tt) (an (an (Qu h708) tt) (an (an (Qu h708) tt) (an (an (Qu h708) tt) (an e711 (an (an (Qu h708) tt) (an (Qu h708) (ti (an (an (Qu h712) tt) (an (an (Qu h712) tt) (an (an (Qu h712) tt) (an e715 (an (an (Qu h712) tt) (an (Qu h712) (ti tt))))))))))))))))))))))))
   rcases ifs h with ⟨h717, h⟩ | ⟨h717, h⟩
   ·rcases ifs h with ⟨h718, h⟩ | ⟨h718, h⟩
    ·have e719 := (ti (ti (ti (ti (ti (ti (an (dt h718) (an (dt h718) (an (dt h718) (an (dt h718) (an (dt h718) (an (dt h718) (ti tt)))))))))))))
     injection h with h; subst h
     exact Qn pm pn Try.func56 (r0 := vi 9) (ans := [.reg (.n :: .n :: []), .reg (Qpe r705 r709 r713), .br false, .reg (nN 6 (nS 5 (.b true :: .n :: []))), .br true, .reg (.n :: [])]) (fr := true) (by kernel_rfl) (an (an (ti (ti tt)) (an e716 (an (Qu h717) (an e719 (an rt (an (ti tt) tt)))))) (ti tt)) (Wv.refl _)
    ·have e720 := (ti (ti (ti (ti (ti (ti (an (an (df h718) tt) (an (an (df h718) tt) (an (an (df h718) tt) (an (an (df h718) tt) (an (an (df h718) tt) (an (df h718) (ti tt)))))))))))))
     rcases ifs h with ⟨h721, h⟩ | ⟨h721, h⟩
     ·injection h with h; subst h
      exact Qn pm pn Try.func56 (r0 := vi 9) (ans := [.reg (.n :: .n :: []), .reg (Qpe r705 r709 r713), .br false, .reg (nN 11 (.b false :: .n :: [])), .br true, .reg (.n :: [])]) (fr := true) (by kernel_rfl) (an (an (ti (ti tt)) (an e716 (an (Qu h717) (an e720 (an (dt h721) (an (ti tt) tt)))))) (ti tt)) (Wv.refl _)
     ·obtain ⟨r722, h723, h⟩ := bs h
      have e724 := (Qcw k a0.Refraction _ h723)
      rcases ifs h with ⟨h725, h⟩ | ⟨h725, h⟩
      ·obtain ⟨r726, h727, h⟩ := bs h
       have e728 := (Qcw k a0.Drift _ h727)
       injection h with h; subst h
       exact Qn pm pn Try.func56 (r0 := vi r726) (ans := [.reg (.n :: .n :: []), .reg (Qpe r705 r709 r713), .br false, .reg (nN 11 (.b false :: .n :: [])), .br false, .reg (.n :: .n :: .call (vi r722) :: .n :: []), .reg (.n :: .n :: []), .br false, .reg (.n :: .n :: .call (vi r726) :: .n :: [])]) (fr := true) (by kernel_rfl) (an (an (ti (ti tt)) (an (an e716 (an (Qu h717) (an e720 (an (df h721) tt)))) (an (an (ti (ti (an e724 (ti tt)))) (an (ti (ti tt)) (an (Qu (dt h725)) tt))) (an (ti (ti (an e728 (ti tt)))) tt)))) (ti tt)) (Wv.refl _)
      ·injection h with h; subst h
       exact Qn pm pn Try.func56 (r0 := vi r722) (ans := [.reg (.n :: .n :: []), .reg (Qpe r705 r709 r713), .br false, .reg (nN 11 (.b false :: .n :: [])), .br false, .reg (.n :: .n :: .call (vi r722) :: .n :: []), .reg (.n :: .n :: []), .br true, .reg (.n :: .n :: [])]) (fr := true) (by kernel_rfl) (an (an (ti (ti tt)) (an (an e716 (an (Qu h717) (an e720 (an (df h721) tt)))) (an (ti (ti (an e724 (ti tt)))) (an (ti (ti tt)) (an (Zj (df h725)) (an (ti (ti tt)) tt)))))) (ti tt)) (Wv.refl _)
   ·injection h with h; subst h
    exact Qn pm pn Try.func56 (r0 := vi 2) (ans := [.reg (.n :: .n :: []), .reg (Qpe r705 r709 r713), .br true, .reg (.n :: [])]) (fr := true) (by kernel_rfl) (an (an (ti (ti tt)) (an e716 (an (Zj (Qx h717)) (an (ti tt) tt)))) (ti tt)) (Wv.refl _)
  ·have e729 := (ti (ti (ti (ti (ti (an e707 (ti (ti (an (an (Qu h708) tt) (an (an (Qu h708) tt) (an (an (Qu h708) tt) (an (an (Qu h708) tt) (an (an (Qu h708) tt) (an e711 (an (an (Qu h708) tt) (an (Qu h708) (ti (an (Zj (Qx h712)) (an (Zj (Qx h712)) (an (Zj (Qx h712)) (an (Zj (Qx h712)) (an (Zj (Qx h712)) (an (Zj (Qx h712)) (ti tt))))))))))))))))))))))))
   injection h with h; subst h
   exact Qn pm pn Try.func56 (r0 := vi 2) (ans := [.reg (.n :: .n :: []), .reg (Q2i r705 r709), .br true, .reg (.n :: [])]) (fr := true) (by kernel_rfl) (an (an (ti (ti tt)) (an e729 (an rt (an (ti tt) tt)))) (ti tt)) (Wv.refl _)
 ·have e730 := (ti (ti (ti (ti (ti (an e707 (ti (ti (an (Zj (Qx h708)) (an (Zj (Qx h708)) (an (Zj (Qx h708)) (an (Zj (Qx h708)) (an (Zj (Qx h708)) (an (Zj (Qx h708)) (an (Zj (Qx h708)) (an (Zj (Qx h708)) (ti (an rt (an rt (an rt (an rt (an rt (an rt (ti tt))))))))))))))))))))))))
  injection h with h; subst h
  exact Qn pm pn Try.func56 (r0 := vi 2) (ans := [.reg (.n :: .n :: []), .reg (Q2j r705), .br true, .reg (.n :: [])]) (fr := true) (by kernel_rfl) (an (an (ti (ti tt)) (an e730 (an rt (an (ti tt) tt)))) (ti tt)) (Wv.refl _)
theorem Q2k (z0 : ByteArray) : [vi 1, vi 12, VV.tr (List.map vi ([(z0.size : Int)] : List Int)) (([(z0.size : Int)] : List Int).length)] = [vi 1, vi 12, VV.tr [vi (z0.size : Int)] 1] := by first | rfl | (simp only [Qk, map_cons, map_nil, un_i, Jd, length_map, length_cons, length_nil]; done) | (simp only [Qk, map_cons, map_nil, un_i, Jd, length_map, length_cons, length_nil]; rfl) | (simp only [Qk, map_cons, map_nil, un_i, Jd, length_map, length_cons, length_nil, length_cons, length_nil, length_append]; done)
def Q2l  : List Ans := (nN 3 (.skip :: .skip :: .b false :: nN 4 (.skip :: .skip :: .b false :: .b false :: .n :: [])))
def Y6 (k : Nat) (a0 : Int) : Option Bool :=
 if 97 <= a0 then (if a0 <= 122 then (some true) else (if 65 <= a0 then (some (decide (a0 <= 90))) else (some false))) else (if 65 <= a0 then (some (decide (a0 <= 90))) else (some false))
theorem Yy (k : Nat) (a0 : Int) (r : Bool) (h : Y6 k a0 = some r) : VC Try.prog 88 [VV.c (.int .i32 a0)] (vb r) := by
 unfold Y6 at h
 rcases ifs h with ⟨h747, h⟩ | ⟨h747, h⟩
 ·rcases ifs h with ⟨h748, h⟩ | ⟨h748, h⟩
  ·have e749 := (ti (ti (ti (an (an (dt h747) tt) (an (an (dt h747) tt) (an (dt h747) (ti (an (dt h748) (an (dt h748) (an (dt h748) (ti (ti (an (dt h748) (an (dt h748) (ti tt)))))))))))))))
   injection h with h; subst h
   exact Qn pm pn Try.func88 (r0 := vb true) (ans := [.reg (.n :: []), .reg (nN 5 (.b true :: .n :: nS 6 (.b true :: .n :: [])))]) (fr := true) (by kernel_rfl) (an (an (ti tt) (an e749 tt)) (ti tt)) (Wv.refl _)
  ·rcases ifs h with ⟨h750, h⟩ | ⟨h750, h⟩
   ·have e751 := (an (df h748) (dt h750))
    have e752 := (ti (ti (ti (an (an (dt h747) tt) (an (an (dt h747) tt) (an (dt h747) (ti (an (an (df h748) tt) (an (an (df h748) tt) (an (an (df h748) tt) (an (an (dt h750) tt) (an (an (dt h750) tt) (an e751 (an (df h748) (ti tt)))))))))))))))
    injection h with h; subst h
    exact Qn pm pn Try.func88 (r0 := vb (decide (a0 <= 90))) (ans := [.reg (.n :: []), .reg (nN 5 (.b true :: nN 6 (.b true :: .b false :: .n :: [])))]) (fr := true) (by kernel_rfl) (an (an (ti tt) (an e752 tt)) (ti tt)) (Wv.refl _)
   ·have e753 := (an (df h748) (df h750))
    have e754 := (ti (ti (ti (an (an (dt h747) tt) (an (an (dt h747) tt) (an (dt h747) (ti (an (an (df h748) tt) (an (an (df h748) tt) (an (an (df h748) tt) (an (df h750) (an (df h750) (an e753 (an (df h748) (ti tt)))))))))))))))
    injection h with h; subst h
    exact Qn pm pn Try.func88 (r0 := vb false) (ans := [.reg (.n :: []), .reg (nN 5 (.b true :: nN 4 (.skip :: .skip :: .b false :: .b false :: .n :: [])))]) (fr := true) (by kernel_rfl) (an (an (ti tt) (an e754 tt)) (ti tt)) (Wv.refl _)
 ·rcases ifs h with ⟨h755, h⟩ | ⟨h755, h⟩
  ·have e756 := (ti (ti (ti (an (df h747) (an (df h747) (an (df h747) (ti (an (an rf tt) (an (an rf tt) (an (an rf tt) (an (an (dt h755) tt) (an (an (dt h755) tt) (an (an rf (dt h755)) (an rf (ti tt)))))))))))))))
   injection h with h; subst h
   exact Qn pm pn Try.func88 (r0 := vb (decide (a0 <= 90))) (ans := [.reg (.n :: []), .reg (nN 3 (.skip :: .skip :: .b false :: nN 6 (.b true :: .b false :: .n :: [])))]) (fr := true) (by kernel_rfl) (an (an (ti tt) (an e756 tt)) (ti tt)) (Wv.refl _)
  ·have e757 := (ti (ti (ti (an (df h747) (an (df h747) (an (df h747) (ti (an (an rf tt) (an (an rf tt) (an (an rf tt) (an (df h755) (an (df h755) (an (an rf (df h755)) (an rf (ti tt)))))))))))))))
   injection h with h; subst h
   exact Qn pm pn Try.func88 (r0 := vb false) (ans := [.reg (.n :: []), .reg Q2l]) (fr := true) (by kernel_rfl) (an (an (ti tt) (an e757 tt)) (ti tt)) (Wv.refl _)
def Q2m (z0 : Bool) : List Ans := (.n :: .call (vb z0) :: .n :: .n :: nS 7 (.b false :: .n :: .skip :: .skip :: .b false :: .n :: []))
def Q2n (z0 : Bool) : List Ans := (.n :: .call (vb z0) :: nN 7 (.b true :: .n :: .b true :: .n :: .skip :: .skip :: .b false :: .n :: []))
def Q2o (z0 : Bool) : List Ans := (.n :: .call (vb z0) :: nN 5 (.skip :: .skip :: .b false :: .n :: .b true :: nN 3 (.b true :: .n :: [])))
def Qab (k : Nat) (a0 : Int) : Option Bool :=
 (Y6 k a0).bind fun r780 => (if r780 = true then (some false) else (if 48 <= a0 then (if a0 <= 57 then (some false) else (some (!(decide (a0 = 45))))) else (some (!(decide (a0 = 45))))))
theorem Qgt (k : Nat) (a0 : Int) (r : Bool) (h : Qab k a0 = some r) : VC Try.prog 90 [VV.c (.int .i32 a0)] (vb r) := by
 unfold Qab at h
 obtain ⟨r780, h781, h⟩ := bs h
 rcases ifs h with ⟨h782, h⟩ | ⟨h782, h⟩
 ·have e783 := (ti (an (Yy k a0 _ h781) (ti (ti (an (Qu h782) (an (Qu h782) (an (Qu h782) (ti (ti (an (Qu h782) (an (Qu h782) (an (Qu h782) (ti (an rf (an rf (an rf (ti tt)))))))))))))))))
  injection h with h; subst h
  exact Qn pm pn Try.func90 (r0 := vb false) (ans := [.reg (.n :: []), .reg (Q2m r780)]) (fr := true) (by kernel_rfl) (an (an (ti tt) (an e783 tt)) (ti tt)) (Wv.refl _)
 ·rcases ifs h with ⟨h784, h⟩ | ⟨h784, h⟩
  ·have e785 := (an (Zj (Qx h782)) (dt h784))
   rcases ifs h with ⟨h786, h⟩ | ⟨h786, h⟩
   ·have e787 := (ti (an (Yy k a0 _ h781) (ti (ti (an (an (Zj (Qx h782)) tt) (an (an (Zj (Qx h782)) tt) (an (an (Zj (Qx h782)) tt) (an (an (dt h784) tt) (an (an (dt h784) tt) (an e785 (an (an (Zj (Qx h782)) tt) (an (Zj (Qx h782)) (ti (an (Qu (dt h786)) (an (Qu (dt h786)) (an (Qu (dt h786)) (ti tt)))))))))))))))))
    injection h with h; subst h
    exact Qn pm pn Try.func90 (r0 := vb false) (ans := [.reg (.n :: []), .reg (Q2n r780)]) (fr := true) (by kernel_rfl) (an (an (ti tt) (an e787 tt)) (ti tt)) (Wv.refl _)
   ·have e788 := (an (Zj (df h786)) tt)
    have e789 := (an (Zj (df h786)) tt)
    have e790 := (ti (an (Yy k a0 _ h781) (ti (ti (an (an (Zj (Qx h782)) tt) (an (an (Zj (Qx h782)) tt) (an (an (Zj (Qx h782)) tt) (an (an (dt h784) tt) (an (an (dt h784) tt) (an e785 (an (an (Zj (Qx h782)) tt) (an (Zj (Qx h782)) (ti (an e788 (an e789 (an (Zj (df h786)) (ti tt)))))))))))))))))
    injection h with h; subst h
    exact Qn pm pn Try.func90 (r0 := vb (!(decide (a0 = 45)))) (ans := [.reg (.n :: []), .reg (.n :: .call (vb r780) :: nN 7 (.b true :: .n :: .b true :: nN 3 (.b true :: .n :: [])))]) (fr := true) (by kernel_rfl) (an (an (ti tt) (an e790 tt)) (ti tt)) (Wv.refl _)
  ·have e791 := (an (Zj (Qx h782)) (df h784))
   have e792 := (an (show (!false) = true from (Zj rfl)) tt)
   have e793 := (an (show (!false) = true from (Zj rfl)) tt)
   have e794 := (ti (an (Yy k a0 _ h781) (ti (ti (an (an (Zj (Qx h782)) tt) (an (an (Zj (Qx h782)) tt) (an (an (Zj (Qx h782)) tt) (an (df h784) (an (df h784) (an e791 (an (an (Zj (Qx h782)) tt) (an (Zj (Qx h782)) (ti (an e792 (an e793 (an (show (!false) = true from (Zj rfl)) (ti tt)))))))))))))))))
   injection h with h; subst h
   exact Qn pm pn Try.func90 (r0 := vb (!(decide (a0 = 45)))) (ans := [.reg (.n :: []), .reg (Q2o r780)]) (fr := true) (by kernel_rfl) (an (an (ti tt) (an e794 tt)) (ti tt)) (Wv.refl _)
def Zn (a0 : ByteArray) (a2 : Bool) (b0_1 : Int) : VS := ⟨mkA [(1, VV.fn 90 []), (2, vb a2), (10, VV.it 0)], [some ⟨true, bigX, [vs a0, vi b0_1]⟩], .nil⟩
def Z9 (a0 : ByteArray) (a2 : Bool) (r : Int) : VS := ⟨mkA [(6, vi r)], [], .nil⟩
def Xa (a0 : ByteArray) (a2 : Bool) (r : Unit) : VS := ⟨mkA [], [], .nil⟩
def Qj (k : Nat) (a0 : ByteArray) (a2 : Bool) : Nat -> Int -> Option (Sum Int Unit)
 | 0, _ => none
 | fuel + 1, b0_1 => if b0_1 < (a0.size : Int) then (if 0 <= b0_1 then ((Qab k (((Go.Utf8.decode a0 (b0_1).toNat).1 : Nat) : Int)).bind fun r841 => (if (r841 == a2) = true then (some (.inl b0_1)) else (Qj k a0 a2 fuel (b0_1 + (((Go.Utf8.decode a0 (b0_1).toNat).2 : Nat) : Int))))) else none) else (some (.inr ()))
theorem Wj (k : Nat) (a0 : ByteArray) (a2 : Bool) : ∀ (fuel : Nat) (b0_1 : Int) (r : Sum Int Unit), Qj k a0 a2 fuel b0_1 = some r -> (match r with | .inl r => Y9 none Try.prog (szF Try.f92) (Yb Try.f92 0) (Zn a0 a2 b0_1) .ret (Z9 a0 a2 r) | .inr r => Y9 none Try.prog (szF Try.f92) (Yb Try.f92 0) (Zn a0 a2 b0_1) (.exit 0) (Xa a0 a2 r)) := by
 intro fuel
 induction fuel with
 | zero => intro b0_1 r h; rw [Qj.eq_1] at h; cases h
 | succ fuel ih =>
  intro b0_1 r h
  rw [Qj.eq_2] at h
  rcases ifs h with ⟨h838, h⟩ | ⟨h838, h⟩
  ·obtain ⟨h839, h⟩ := ifn h
   have e840 := (show 0 <= b0_1 /\ b0_1 < (a0.size : Int) from ⟨h839, of_decide_eq_true (dt h838)⟩)
   obtain ⟨r841, h842, h⟩ := bs h
   have e843 := (Qgt k (((Go.Utf8.decode a0 (b0_1).toNat).1 : Nat) : Int) _ h842)
   rcases ifs h with ⟨h844, h⟩ | ⟨h844, h⟩
   ·injection h with h; subst h
    exact Zi (c := ⟨[(6, none)], [], []⟩) (s1 := (Z9 a0 a2 b0_1)) pm pn (ans := [.reg (.b true :: .n :: []), .br true, .reg (nN 4 []), .reg (.n :: .n :: .call (vb r841) :: .n :: .n :: []), .br true, .reg (.n :: .n :: [])]) (by kernel_rfl) (by intro e; cases e) (an (an (an e840 (ti tt)) (an (an rt tt) (an (ti (ti (ti (ti tt)))) (an (ti (ti (an e843 (ti (ti tt))))) (an h844 (an (ti (ti tt)) tt)))))) (ti tt))
   ·have h2 := ih _ _ h
    obtain ⟨q, hv, hq⟩ := pkR (rd := none) (P := Try.prog) (fn := Try.f92) (k := 0) (s := (Zn a0 a2 b0_1)) (ans := [.reg (.b true :: .n :: []), .br true, .reg (nN 4 []), .reg (.n :: .n :: .call (vb r841) :: .n :: .n :: []), .br false]) (c := ⟨[(1, none), (2, none), (10, none)], [none], []⟩) (e := .normal) (s1 := (Zn a0 a2 (b0_1 + (((Go.Utf8.decode a0 (b0_1).toNat).2 : Nat) : Int)))) (an (an (an e840 (ti tt)) (an (an rt tt) (an (ti (ti (ti (ti tt)))) (an (ti (ti (an e843 (ti (ti tt))))) (an (Qx h844) tt))))) (ti tt)) (by kernel_rfl)
    cases r with
    | inl r => exact Zc pm pn hv hq h2
    | inr r =>
     exact Zc pm pn hv hq h2
  ·have e845 := (show (a0.size : Int) <= b0_1 from (by have := of_decide_eq_false (df h838); omega))
   injection h with h; subst h
   exact Zi (c := ⟨[], [], []⟩) (s1 := (Xa a0 a2 ())) pm pn (ans := [.reg (.b false :: .n :: []), .br false]) (by kernel_rfl) (by intro e; cases e) (an (an (an e845 (ti tt)) (an rf tt)) (ti tt))
def Z7 (k : Nat) (a0 : ByteArray) (a1 : Unit) (a2 : Bool) : Option Int :=
 (Qj k a0 a2 k 0).bind fun r847 => (match r847 with | .inl r848 => (some r848) | .inr r849 => (some (-1)))
theorem Qah (k : Nat) (a0 : ByteArray) (a1 : Unit) (a2 : Bool) (r : Int) (h : Z7 k a0 a1 a2 = some r) : VC Try.prog 92 [vs a0, VV.fn 90 [], vb a2] (vi r) := by
 unfold Z7 at h
 obtain ⟨r847, h846, h⟩ := bs h
 have hph846 := Wj k a0 a2 _ _ _ h846
 cases r847 with
 | inl r848 =>
  dsimp only at h
  have e850 := (an (ti tt) (VRun.loop hph846))
  injection h with h; subst h
  exact Qn pm pn Try.func92 (r0 := vi r848) (ans := [.reg (.n :: []), .reg (.n :: .n :: []), .sub ⟨[(1, none), (2, none), (10, none)], [none], []⟩ .ret (Z9 a0 a2 r848)]) (fr := true) (by kernel_rfl) (an (an (ti tt) (an (ti (ti tt)) e850)) (ti tt)) (Wv.refl _)
 | inr r849 =>
  dsimp only at h
  have e851 := (an (ti tt) (VRun.loop hph846))
  injection h with h; subst h
  exact Qn pm pn Try.func92 (r0 := vi (-1)) (ans := [.reg (.n :: []), .reg (.n :: .n :: []), .sub ⟨[(1, none), (2, none), (10, none)], [none], []⟩ (.exit 0) (Xa a0 a2 r849), .reg (.n :: [])]) (fr := true) (by kernel_rfl) (an (an (ti tt) (an (an (ti (ti tt)) e851) (an (ti tt) tt))) (ti tt)) (Wv.refl _)
def Z5 (k : Nat) (a0 : ByteArray) (a1 : Unit) : Option Int :=
 (Z7 k a0 a1 true).bind fun r855 => (some r855)
theorem Qai (k : Nat) (a0 : ByteArray) (a1 : Unit) (r : Int) (h : Z5 k a0 a1 = some r) : VC Try.prog 91 [vs a0, VV.fn 90 []] (vi r) := by
 unfold Z5 at h
 obtain ⟨r855, h856, h⟩ := bs h
 have e857 := (Qah k a0 a1 true _ h856)
 injection h with h; subst h
 exact Qn pm pn Try.func91 (r0 := vi r855) (ans := [.reg (.n :: []), .reg (.n :: .n :: .call (vi r855) :: .n :: [])]) (fr := true) (by kernel_rfl) (an (an (ti tt) (an (ti (ti (an e857 (ti tt)))) tt)) (ti tt)) (Wv.refl _)
def Zr (k : Nat) (a0 : ByteArray) (a1 : Unit) : Option Bool :=
 (Z5 k a0 a1).bind fun r861 => (some (decide (0 <= r861)))
theorem Qaa (k : Nat) (a0 : ByteArray) (a1 : Unit) (r : Bool) (h : Zr k a0 a1 = some r) : VC Try.prog 89 [vs a0, VV.fn 90 []] (vb r) := by
 unfold Zr at h
 obtain ⟨r861, h862, h⟩ := bs h
 have e863 := (Qai k a0 a1 _ h862)
 injection h with h; subst h
 exact Qn pm pn Try.func89 (r0 := vb (decide (0 <= r861))) (ans := [.reg (.n :: []), .reg (.n :: .n :: .call (vi r861) :: .n :: .n :: [])]) (fr := true) (by kernel_rfl) (an (an (ti tt) (an (ti (ti (an e863 (ti (ti tt))))) tt)) (ti tt)) (Wv.refl _)
def Q2p (z0 : Bool) (z1 : Bool) (z2 : Bool) : List Ans := (.n :: .n :: .v VV.any :: .call (vb z0) :: nN 4 (.call (vb z1) :: .b true :: .n :: .n :: .call (vb z2) :: .n :: .b true :: .n :: []))
def Q2q (z0 : Bool) (z1 : Bool) : List Ans := (.n :: .n :: .v VV.any :: .call (vb z0) :: nN 4 (.call (vb z1) :: .b true :: .n :: nS 3 (.b false :: .n :: [])))
def Q0k (z0 : Bool) : List Ans := (.n :: .n :: .v VV.any :: .call (vb z0) :: .n :: nS 4 (.b false :: .n :: nS 3 (.b false :: .n :: [])))
def Qbf (k : Nat) (a0 : ByteArray) : Option Bool :=
 (Q8 k 1 12 ([(a0.size : Int)] : List Int)).bind fun r870 => (if r870 = true then (if (0 : Int) <= 0 /\ 0 < (a0.size : Int) then ((Y6 k (IntKind.i32.wrap (bat a0 0))).bind fun r875 => (if r875 = true then ((Zr k a0 ()).bind fun r879 => (some (!r879))) else (some false))) else none) else (some false))
theorem Qiv (k : Nat) (a0 : ByteArray) (r : Bool) (h : Qbf k a0 = some r) : VC Try.prog 86 [vs a0] (vb r) := by
 unfold Qbf at h
 obtain ⟨r870, h871, h⟩ := bs h
 have e872 := (VC.args (Zm k 1 12 ([(a0.size : Int)] : List Int) _ h871) (Q2k a0))
 rcases ifs h with ⟨h873, h⟩ | ⟨h873, h⟩
 ·obtain ⟨h874, h⟩ := ifn h
  obtain ⟨r875, h876, h⟩ := bs h
  have e877 := (an h873 (Yy k (IntKind.i32.wrap (bat a0 0)) _ h876))
  rcases ifs h with ⟨h878, h⟩ | ⟨h878, h⟩
  ·obtain ⟨r879, h880, h⟩ := bs h
   have e881 := (an h878 (Qaa k a0 () _ h880))
   have e882 := (ti (ti (ti (an e872 (ti (an (an h873 tt) (an (an h873 h874) (an (an h873 tt) (an e877 (an h873 (ti (an (an h878 tt) (an e881 (an (an h878 tt) (an h878 (ti tt))))))))))))))))
   injection h with h; subst h
   exact Qn pm pn Try.func86 (r0 := vb (!r879)) (ans := [.reg (.n :: []), .reg (Q2p r870 r875 r879)]) (fr := true) (by kernel_rfl) (an (an (ti tt) (an e882 tt)) (ti tt)) (Wv.refl _)
  ·have e883 := (ti (ti (ti (an e872 (ti (an (an h873 tt) (an (an h873 h874) (an (an h873 tt) (an e877 (an h873 (ti (an (Qx h878) (an (Qx h878) (an (Qx h878) (an (Qx h878) (ti tt))))))))))))))))
   injection h with h; subst h
   exact Qn pm pn Try.func86 (r0 := vb false) (ans := [.reg (.n :: []), .reg (Q2q r870 r875)]) (fr := true) (by kernel_rfl) (an (an (ti tt) (an e883 tt)) (ti tt)) (Wv.refl _)
 ·have e884 := (ti (ti (ti (an e872 (ti (an (Qx h873) (an (Qx h873) (an (Qx h873) (an (Qx h873) (an (Qx h873) (ti (an rf (an rf (an rf (an rf (ti tt))))))))))))))))
  injection h with h; subst h
  exact Qn pm pn Try.func86 (r0 := vb false) (ans := [.reg (.n :: []), .reg (Q0k r870)]) (fr := true) (by kernel_rfl) (an (an (ti tt) (an e884 tt)) (ti tt)) (Wv.refl _)
theorem Q2r (z0 : Qa) : [vi 0, vi 1295999, VV.tr (List.map vi ([z0.Azimuth] : List Int)) (([z0.Azimuth] : List Int).length)] = [vi 0, vi 1295999, VV.tr [vi z0.Azimuth] 1] := by first | rfl | (simp only [Qk, map_cons, map_nil, un_i, Jd, length_map, length_cons, length_nil]; done) | (simp only [Qk, map_cons, map_nil, un_i, Jd, length_map, length_cons, length_nil]; rfl) | (simp only [Qk, map_cons, map_nil, un_i, Jd, length_map, length_cons, length_nil, length_cons, length_nil, length_append]; done)
theorem Q2s (z0 : Qa) : [vi 0, vi 324000, VV.tr (List.map vi ([z0.Height] : List Int)) (([z0.Height] : List Int).length)] = [vi 0, vi 324000, VV.tr [vi z0.Height] 1] := by first | rfl | (simp only [Qk, map_cons, map_nil, un_i, Jd, length_map, length_cons, length_nil]; done) | (simp only [Qk, map_cons, map_nil, un_i, Jd, length_map, length_cons, length_nil]; rfl) | (simp only [Qk, map_cons, map_nil, un_i, Jd, length_map, length_cons, length_nil, length_cons, length_nil, length_append]; done)
theorem Q2t (z0 : Qa) : [vi 0, vi 10000000, VV.tr (List.map vi ([z0.From, z0.To] : List Int)) (([z0.From, z0.To] : List Int).length)] = [vi 0, vi 10000000, VV.tr [vi z0.From, vi z0.To] 2] := by first | rfl | (simp only [Qk, map_cons, map_nil, un_i, Jd, length_map, length_cons, length_nil]; done) | (simp only [Qk, map_cons, map_nil, un_i, Jd, length_map, length_cons, length_nil]; rfl) | (simp only [Qk, map_cons, map_nil, un_i, Jd, length_map, length_cons, length_nil, length_cons, length_nil, length_append]; done)
theorem Q2u (z0 : Qa) : [vi 1, vi 10000, VV.tr (List.map vi ([z0.Dwell] : List Int)) (([z0.Dwell] : List Int).length)] = [vi 1, vi 10000, VV.tr [vi z0.Dwell] 1] := by first | rfl | (simp only [Qk, map_cons, map_nil, un_i, Jd, length_map, length_cons, length_nil]; done) | (simp only [Qk, map_cons, map_nil, un_i, Jd, length_map, length_cons, length_nil]; rfl) | (simp only [Qk, map_cons, map_nil, un_i, Jd, length_map, length_cons, length_nil, length_cons, length_nil, length_append]; done)
def Qkv (z0 : Bool) (z1 : Bool) : List Ans := (.n :: .n :: .v VV.any :: .call (vb z0) :: nN 4 (.v VV.any :: .call (vb z1) :: .n :: .b false :: .n :: []))
def Qqm (z0 : Bool) (z1 : Bool) : List Ans := (nN 4 (.v VV.any :: .call (vb z0) :: nN 4 (.v VV.any :: .call (vb z1) :: .n :: .b false :: .n :: [])))
def Jq (k : Nat) (a0 : Qa) : Option Int :=
 (Qbf k a0.Name).bind fun r910 => (if r910 = true then ((Q8 k 0 1295999 ([a0.Azimuth] : List Int)).bind fun r914 => (if r914 = true then ((Q8 k 0 324000 ([a0.Height] : List Int)).bind fun r918 => (if r918 = true then ((Q8 k 0 10000000 ([a0.From, a0.To] : List Int)).bind fun r923 => (if r923 = true then ((Q8 k 1 10000 ([a0.Dwell] : List Int)).bind fun r927 => (if r927 = true then (if a0.To <= a0.From then (some 9) else (some 0)) else (some 2))) else (some 2))) else (some 2))) else (some 2))) else (some 4))
theorem Qce (k : Nat) (a0 : Qa) (r : Int) (h : Jq k a0 = some r) : VC Try.prog 72 [VV.ag (Qe a0)] (vi r) := by
 unfold Jq at h
 obtain ⟨r910, h911, h⟩ := bs h
 have e912 := (ti (ti (an (Qiv k a0.Name _ h911) (ti (ti tt)))))
 rcases ifs h with ⟨h913, h⟩ | ⟨h913, h⟩
 ·obtain ⟨r914, h915, h⟩ := bs h
  have e916 := (VC.args (Zm k 0 1295999 ([a0.Azimuth] : List Int) _ h915) (Q2r a0))
  rcases ifs h with ⟨h917, h⟩ | ⟨h917, h⟩
  ·obtain ⟨r918, h919, h⟩ := bs h
   have e920 := (an (Qu h917) (VC.args (Zm k 0 324000 ([a0.Height] : List Int) _ h919) (Q2s a0)))
   have e921 := (ti (ti (ti (an e916 (ti (ti (an (an (Qu h917) tt) (an (an (Qu h917) tt) (an (an (Qu h917) tt) (an e920 (an (an (Qu h917) tt) (an (Qu h917) (ti tt)))))))))))))
   rcases ifs h with ⟨h922, h⟩ | ⟨h922, h⟩
   ·obtain ⟨r923, h924, h⟩ := bs h
    have e925 := (VC.args (Zm k 0 10000000 ([a0.From, a0.To] : List Int) _ h924) (Q2t a0))
    rcases ifs h with ⟨h926, h⟩ | ⟨h926, h⟩
    ·obtain ⟨r927, h928, h⟩ := bs h
     have e929 := (an (Qu h926) (VC.args (Zm k 1 10000 ([a0.Dwell] : List Int) _ h928) (Q2u a0)))
     have e930 := (ti (ti (ti (ti (ti (an e925 (ti (ti (an (an (Qu h926) tt) (an (an (Qu h926) tt) (an (an (Qu h926) tt) (an e929 (an (an (Qu h926) tt) (an (Qu h926) (ti tt)))))))))))))))
     rcases ifs h with ⟨h931, h⟩ | ⟨h931, h⟩
     ·rcases ifs h with ⟨h932, h⟩ | ⟨h932, h⟩
      ·injection h with h; subst h
       exact Qn pm pn Try.func72 (r0 := vi 9) (ans := [.reg (.n :: .n :: []), .reg (.n :: .n :: .call (vb r910) :: .n :: .n :: []), .br false, .reg (Qkv r914 r918), .br false, .reg (Qqm r923 r927), .br false, .reg (nN 6 []), .br true, .reg (.n :: [])]) (fr := true) (by kernel_rfl) (an (an (ti (ti tt)) (an e912 (an (Qu h913) (an e921 (an (Qu h922) (an e930 (an (Qu h931) (an (ti (ti (ti (ti (ti (ti tt)))))) (an (dt h932) (an (ti tt) tt)))))))))) (ti tt)) (Wv.refl _)
      ·injection h with h; subst h
       exact Qn pm pn Try.func72 (r0 := vi 0) (ans := [.reg (.n :: .n :: []), .reg (.n :: .n :: .call (vb r910) :: .n :: .n :: []), .br false, .reg (Qkv r914 r918), .br false, .reg (Qqm r923 r927), .br false, .reg (nN 6 []), .br false, .reg (.n :: [])]) (fr := true) (by kernel_rfl) (an (an (ti (ti tt)) (an (an e912 (an (Qu h913) (an e921 (an (Qu h922) (an e930 (an (Qu h931) (an (ti (ti (ti (ti (ti (ti tt)))))) (an (df h932) tt)))))))) (an (ti tt) tt))) (ti tt)) (Wv.refl _)
     ·injection h with h; subst h
      exact Qn pm pn Try.func72 (r0 := vi 2) (ans := [.reg (.n :: .n :: []), .reg (.n :: .n :: .call (vb r910) :: .n :: .n :: []), .br false, .reg (Qkv r914 r918), .br false, .reg (Qqm r923 r927), .br true, .reg (.n :: [])]) (fr := true) (by kernel_rfl) (an (an (ti (ti tt)) (an e912 (an (Qu h913) (an e921 (an (Qu h922) (an e930 (an (Zj (Qx h931)) (an (ti tt) tt)))))))) (ti tt)) (Wv.refl _)
    ·have e933 := (ti (ti (ti (ti (ti (an e925 (ti (ti (an (Zj (Qx h926)) (an (Zj (Qx h926)) (an (Zj (Qx h926)) (an (Zj (Qx h926)) (an (Zj (Qx h926)) (an (Zj (Qx h926)) (ti tt)))))))))))))))
     injection h with h; subst h
     exact Qn pm pn Try.func72 (r0 := vi 2) (ans := [.reg (.n :: .n :: []), .reg (.n :: .n :: .call (vb r910) :: .n :: .n :: []), .br false, .reg (Qkv r914 r918), .br false, .reg (nN 4 (.v VV.any :: .call (vb r923) :: .n :: .n :: nS 5 (.b true :: .n :: []))), .br true, .reg (.n :: [])]) (fr := true) (by kernel_rfl) (an (an (ti (ti tt)) (an e912 (an (Qu h913) (an e921 (an (Qu h922) (an e933 (an rt (an (ti tt) tt)))))))) (ti tt)) (Wv.refl _)
   ·injection h with h; subst h
    exact Qn pm pn Try.func72 (r0 := vi 2) (ans := [.reg (.n :: .n :: []), .reg (.n :: .n :: .call (vb r910) :: .n :: .n :: []), .br false, .reg (Qkv r914 r918), .br true, .reg (.n :: [])]) (fr := true) (by kernel_rfl) (an (an (ti (ti tt)) (an e912 (an (Qu h913) (an e921 (an (Zj (Qx h922)) (an (ti tt) tt)))))) (ti tt)) (Wv.refl _)
  ·have e934 := (ti (ti (ti (an e916 (ti (ti (an (Zj (Qx h917)) (an (Zj (Qx h917)) (an (Zj (Qx h917)) (an (Zj (Qx h917)) (an (Zj (Qx h917)) (an (Zj (Qx h917)) (ti tt)))))))))))))
   injection h with h; subst h
   exact Qn pm pn Try.func72 (r0 := vi 2) (ans := [.reg (.n :: .n :: []), .reg (.n :: .n :: .call (vb r910) :: .n :: .n :: []), .br false, .reg (.n :: .n :: .v VV.any :: .call (vb r914) :: .n :: .n :: nS 5 (.b true :: .n :: [])), .br true, .reg (.n :: [])]) (fr := true) (by kernel_rfl) (an (an (ti (ti tt)) (an e912 (an (Qu h913) (an e934 (an rt (an (ti tt) tt)))))) (ti tt)) (Wv.refl _)
 ·injection h with h; subst h
  exact Qn pm pn Try.func72 (r0 := vi 4) (ans := [.reg (.n :: .n :: []), .reg (.n :: .n :: .call (vb r910) :: .n :: .n :: []), .br true, .reg (.n :: [])]) (fr := true) (by kernel_rfl) (an (an (ti (ti tt)) (an e912 (an (Zj (Qx h913)) (an (ti tt) tt)))) (ti tt)) (Wv.refl _)
theorem Q2v (z0 : Qa) (z1 : Int) (z2 : Int) (z3 : Int) : VV.ag [vi (w64 ((w64 (z0.Azimuth + z1)) - (w64 (z2 * 1296000)))), vi (w64 (z0.Height + z3))] = VV.ag (Qbv (⟨w64 ((w64 (z0.Azimuth + z1)) - (w64 (z2 * 1296000))), w64 (z0.Height + z3)⟩ : A26)) := by first | rfl | (simp only [Qk, map_cons, map_nil, un_i, Yu]; done) | (simp only [Qk, map_cons, map_nil, un_i, Yu]; rfl) | (simp only [Qk, map_cons, map_nil, un_i, Yu, length_cons, length_nil, length_append]; done)
def Y7 (k : Nat) (a0 : Qc) (a1 : Qa) (a2 : Int) : Option A26 :=
 (Qaf k a0.Drift a2).bind fun r946 => ((Qap k (w64 (a1.Azimuth + r946)) 1296000).bind fun r950 => ((Qaf k a0.Refraction a1.Height).bind fun r953 => (some (⟨w64 ((w64 (a1.Azimuth + r946)) - (w64 (r950 * 1296000))), w64 (a1.Height + r953)⟩ : A26))))
theorem Qdo (k : Nat) (a0 : Qc) (a1 : Qa) (a2 : Int) (r : A26) (h : Y7 k a0 a1 a2 = some r) : VC Try.prog 44 [VV.ag (Zt a0), VV.ag (Qe a1), vi a2] (VV.ag (Qbv r)) := by
 unfold Y7 at h
 obtain ⟨r946, h947, h⟩ := bs h
 have e948 := (Qeh k a0.Drift a2 _ h947)
 have e949 := (ti (ti (ti (ti (ti (an e948 (ti (ti tt))))))))
 obtain ⟨r950, h951, h⟩ := bs h
 have e952 := (Qd0 k (w64 (a1.Azimuth + r946)) 1296000 _ h951)
 obtain ⟨r953, h954, h⟩ := bs h
 have e955 := (Qeh k a0.Refraction a1.Height _ h954)
 have e956 := (ti (ti (ti (ti (ti (ti (ti (an e955 (ti (ti (ti tt)))))))))))
 injection h with h; subst h
 exact Qn pm pn Try.func44 (r0 := VV.ag [vi (w64 ((w64 (a1.Azimuth + r946)) - (w64 (r950 * 1296000)))), vi (w64 (a1.Height + r953))]) (ans := [.reg (nN 3 []), .reg (nN 5 (.call (vi r946) :: .n :: .n :: [])), .reg (.n :: .n :: .call (vi r950) :: nN 3 []), .reg (nN 7 (.call (vi r953) :: nN 3 []))]) (fr := true) (by kernel_rfl) (an (an (ti (ti (ti tt))) (an e949 (an (ti (ti (an e952 (ti (ti (ti tt)))))) (an e956 tt)))) (an (ti (ti (ti tt))) tt)) (Wv.of_eq (Q2v a1 r946 r950 r953))
theorem Q0l (z0 : Qc) (z1 : A26) : [vi z0.Low, vi z0.High, VV.tr (List.map vi ([z1.e1] : List Int)) (([z1.e1] : List Int).length)] = [vi z0.Low, vi z0.High, VV.tr [vi z1.e1] 1] := by first | rfl | (simp only [Qk, map_cons, map_nil, un_i, Jd, length_map, length_cons, length_nil]; done) | (simp only [Qk, map_cons, map_nil, un_i, Jd, length_map, length_cons, length_nil]; rfl) | (simp only [Qk, map_cons, map_nil, un_i, Jd, length_map, length_cons, length_nil, length_cons, length_nil, length_append]; done)
def Qgu (k : Nat) (a0 : Int) (a1 : Int) : Option Int :=
 (Qap k (w64 (0 - a0)) a1).bind fun r970 => (some (w64 (0 - r970)))
theorem Qpf (k : Nat) (a0 : Int) (a1 : Int) (r : Int) (h : Qgu k a0 a1 = some r) : VC Try.prog 78 [vi a0, vi a1] (vi r) := by
 unfold Qgu at h
 obtain ⟨r970, h971, h⟩ := bs h
 have e972 := (Qd0 k (w64 (0 - a0)) a1 _ h971)
 injection h with h; subst h
 exact Qn pm pn Try.func78 (r0 := vi (w64 (0 - r970))) (ans := [.reg (.n :: []), .reg (nN 3 (.call (vi r970) :: .n :: .n :: []))]) (fr := true) (by kernel_rfl) (an (an (ti tt) (an (ti (ti (ti (an e972 (ti (ti tt)))))) tt)) (ti tt)) (Wv.refl _)
def Qay (a0 : Qc) (a1 : Qa) (r1004 : A26) (y5 : List Int) (y6 : List Int) (x12 : Int) : VS := ⟨mkA [(3, VV.pt 0 0), (6, VV.pt 2 0), (9, vi r1004.e0), (11, VV.pt 4 0), (12, vi x12)], [some ⟨true, 1, Zt a0⟩, some ⟨true, 1, Qe a1⟩, some ⟨true, 1, [vs ByteArray.empty, vi 0, vi 0, vi 0, vi 0, vi 0, VV.c (.slice none 0 0), VV.c (.slice none 0 0)]⟩, some ⟨true, 1, Qbv r1004⟩, some ⟨true, 1, [vs a1.Name, vi a1.Azimuth, vi a1.Height, vi a1.From, vi a1.To, vi a1.Dwell, VV.rf 5 0 y5.length, VV.rf 6 0 y6.length]⟩, some ⟨false, 1, List.map vi y5⟩, some ⟨false, 1, List.map vi y6⟩], .nil⟩
def Yz (a0 : Qc) (a1 : Qa) (r1004 : A26) (r : (List Int) × (List Int)) : VS := ⟨mkA [(6, VV.pt 2 0), (11, VV.pt 4 0)], [some ⟨true, 1, Zt a0⟩, some ⟨true, 1, Qe a1⟩, some ⟨true, 1, [vs ByteArray.empty, vi 0, vi 0, vi 0, vi 0, vi 0, VV.c (.slice none 0 0), VV.c (.slice none 0 0)]⟩, some ⟨true, 1, Qbv r1004⟩, some ⟨true, 1, [vs a1.Name, vi a1.Azimuth, vi a1.Height, vi a1.From, vi a1.To, vi a1.Dwell, VV.rf 5 0 r.1.length, VV.rf 6 0 r.2.length]⟩, some ⟨false, 1, List.map vi r.1⟩, some ⟨false, 1, List.map vi r.2⟩], .nil⟩
def Xq (k : Nat) (a0 : Qc) (a1 : Qa) (r1004 : A26) : Nat -> (List Int) -> (List Int) -> Int -> Option ((List Int) × (List Int))
 | 0, _, _, _ => none
 | fuel + 1, y5, y6, x12 => if (w64 (r1004.e0 + (w64 (x12 * 1296000)))) <= a0.Most then (if y5.length + ([x12] : List Int).length <= 1000000000 then (if y6.length + ([w64 (r1004.e0 + (w64 (x12 * 1296000)))] : List Int).length <= 1000000000 then (Xq k a0 a1 r1004 fuel (y5 ++ ([x12] : List Int)) (y6 ++ ([w64 (r1004.e0 + (w64 (x12 * 1296000)))] : List Int)) (w64 (x12 + 1))) else none) else none) else (some (y5, y6))
theorem Qfz (k : Nat) (a0 : Qc) (a1 : Qa) (r1004 : A26) : ∀ (fuel : Nat) (y5 : List Int) (y6 : List Int) (x12 : Int) (r : (List Int) × (List Int)), Xq k a0 a1 r1004 fuel y5 y6 x12 = some r -> (Y9 none Try.prog (szF Try.f60) (Yb Try.f60 0) (Qay a0 a1 r1004 y5 y6 x12) (.exit 0) (Yz a0 a1 r1004 r)) := by
 intro fuel
 induction fuel with
 | zero => intro y5 y6 x12 r h; rw [Xq.eq_1] at h; cases h
 | succ fuel ih =>
  intro y5 y6 x12 r h
  rw [Xq.eq_2] at h
  rcases ifs h with ⟨h1035, h⟩ | ⟨h1035, h⟩
  ·obtain ⟨h1036, h⟩ := ifn h
   have e1037 := (show List.length (List.map vi y5) = y5.length * 1 /\ List.length [vi x12] = 1 * 1 /\ (y5.length + 1) * 8 <= 140737488355328 /\ y5.length + 1 < 1099511627776 /\ List.all [vi x12] VV.still = true from ⟨(by simp), (by rw [show [vi x12] = List.map vi ([x12] : List Int) from rfl]; simp), (by first | omega | (simp at h1036 ⊢; omega)), (by first | omega | (simp at h1036 ⊢; omega)), (by rw [show [vi x12] = List.map vi ([x12] : List Int) from rfl]; exact Qru _)⟩)
   obtain ⟨h1038, h⟩ := ifn h
   have e1039 := (show List.length (List.map vi y6) = y6.length * 1 /\ List.length [vi (w64 (r1004.e0 + (w64 (x12 * 1296000))))] = 1 * 1 /\ (y6.length + 1) * 8 <= 140737488355328 /\ y6.length + 1 < 1099511627776 /\ List.all [vi (w64 (r1004.e0 + (w64 (x12 * 1296000))))] VV.still = true from ⟨(by simp), (by rw [show [vi (w64 (r1004.e0 + (w64 (x12 * 1296000))))] = List.map vi ([w64 (r1004.e0 + (w64 (x12 * 1296000)))] : List Int) from rfl]; simp), (by first | omega | (simp at h1038 ⊢; omega)), (by first | omega | (simp at h1038 ⊢; omega)), (by rw [show [vi (w64 (r1004.e0 + (w64 (x12 * 1296000))))] = List.map vi ([w64 (r1004.e0 + (w64 (x12 * 1296000)))] : List Int) from rfl]; exact Qru _)⟩)
   have e1040 := (ti (ti (ti (ti (ti (ti (ti (an e1039 (ti (ti tt))))))))))
   have h2 := ih _ _ _ _ h
   obtain ⟨q, hv, hq⟩ := pkR (rd := none) (P := Try.prog) (fn := Try.f60) (k := 0) (s := (Qay a0 a1 r1004 y5 y6 x12)) (ans := [.reg (nN 7 []), .br true, .reg (nN 7 []), .reg (nN 10 []), .reg (nN 3 [])]) (c := ⟨[(3, none), (6, none), (9, none), (11, none), (12, none)], [none, none, none, none, some [vs a1.Name, vi a1.Azimuth, vi a1.Height, vi a1.From, vi a1.To, vi a1.Dwell, VV.rf 5 0 ((y5 ++ ([x12] : List Int)).length), VV.rf 6 0 ((y6 ++ ([w64 (r1004.e0 + (w64 (x12 * 1296000)))] : List Int)).length)], some (List.map vi (y5 ++ ([x12] : List Int))), some (List.map vi (y6 ++ ([w64 (r1004.e0 + (w64 (x12 * 1296000)))] : List Int)))], []⟩) (e := .normal) (s1 := (Qay a0 a1 r1004 (y5 ++ ([x12] : List Int)) (y6 ++ ([w64 (r1004.e0 + (w64 (x12 * 1296000)))] : List Int)) (w64 (x12 + 1)))) (an (an (an (ti (ti (ti (ti (ti (ti (ti tt))))))) (an (dt h1035) tt)) (an (an (ti (ti (ti (ti (an e1037 (ti (ti tt))))))) e1040) (ti (ti (ti tt))))) (ti (an (show [vs a1.Name, vi a1.Azimuth, vi a1.Height, vi a1.From, vi a1.To, vi a1.Dwell, VV.rf 5 0 (y5.length + 1), VV.rf 6 0 (y6.length + 1)] = [vs a1.Name, vi a1.Azimuth, vi a1.Height, vi a1.From, vi a1.To, vi a1.Dwell, VV.rf 5 0 ((y5 ++ ([x12] : List Int)).length), VV.rf 6 0 ((y6 ++ ([w64 (r1004.e0 + (w64 (x12 * 1296000)))] : List Int)).length)] from (by first | rfl | simp)) (an (show (List.map vi y5) ++ [vi x12] = List.map vi (y5 ++ ([x12] : List Int)) from (by rw [show [vi x12] = List.map vi ([x12] : List Int) from rfl]; exact List.map_append.symm)) (an (show (List.map vi y6) ++ [vi (w64 (r1004.e0 + (w64 (x12 * 1296000))))] = List.map vi (y6 ++ ([w64 (r1004.e0 + (w64 (x12 * 1296000)))] : List Int)) from (by rw [show [vi (w64 (r1004.e0 + (w64 (x12 * 1296000))))] = List.map vi ([w64 (r1004.e0 + (w64 (x12 * 1296000)))] : List Int) from rfl]; exact List.map_append.symm)) tt))))) (by kernel_rfl)
   exact Zc pm pn hv hq h2
  ·injection h with h; subst h
   exact Zi (c := ⟨[(6, none), (11, none)], [none, none, none, none, none, none, none], []⟩) (s1 := (Yz a0 a1 r1004 (y5, y6))) pm pn (ans := [.reg (nN 7 []), .br false]) (by kernel_rfl) (by intro e; cases e) (an (an (ti (ti (ti (ti (ti (ti (ti tt))))))) (an (df h1035) tt)) (ti tt))
theorem Qwu  : vi 0 = vi (((⟨(⟨ByteArray.empty, 0, 0, 0, 0, 0⟩ : Qa), [], []⟩ : Zv).SkyTarget).Dwell) := by first | rfl | (simp only [Qk, map_cons, map_nil, un_i]; done) | (simp only [Qk, map_cons, map_nil, un_i]; rfl) | (simp only [Qk, map_cons, map_nil, un_i, length_cons, length_nil, length_append]; done)
theorem Qwv  : vi 0 = vi (((⟨(⟨ByteArray.empty, 0, 0, 0, 0, 0⟩ : Qa), [], []⟩ : Zv).SkyTarget).To) := by first | rfl | (simp only [Qk, map_cons, map_nil, un_i]; done) | (simp only [Qk, map_cons, map_nil, un_i]; rfl) | (simp only [Qk, map_cons, map_nil, un_i, length_cons, length_nil, length_append]; done)
theorem Qww  : vi 0 = vi (((⟨(⟨ByteArray.empty, 0, 0, 0, 0, 0⟩ : Qa), [], []⟩ : Zv).SkyTarget).From) := by first | rfl | (simp only [Qk, map_cons, map_nil, un_i]; done) | (simp only [Qk, map_cons, map_nil, un_i]; rfl) | (simp only [Qk, map_cons, map_nil, un_i, length_cons, length_nil, length_append]; done)
theorem Qwx  : vi 0 = vi (((⟨(⟨ByteArray.empty, 0, 0, 0, 0, 0⟩ : Qa), [], []⟩ : Zv).SkyTarget).Height) := by first | rfl | (simp only [Qk, map_cons, map_nil, un_i]; done) | (simp only [Qk, map_cons, map_nil, un_i]; rfl) | (simp only [Qk, map_cons, map_nil, un_i, length_cons, length_nil, length_append]; done)
theorem Qwy  : vi 0 = vi (((⟨(⟨ByteArray.empty, 0, 0, 0, 0, 0⟩ : Qa), [], []⟩ : Zv).SkyTarget).Azimuth) := by first | rfl | (simp only [Qk, map_cons, map_nil, un_i]; done) | (simp only [Qk, map_cons, map_nil, un_i]; rfl) | (simp only [Qk, map_cons, map_nil, un_i, length_cons, length_nil, length_append]; done)
theorem Qwz  : vs ByteArray.empty = vs (((⟨(⟨ByteArray.empty, 0, 0, 0, 0, 0⟩ : Qa), [], []⟩ : Zv).SkyTarget).Name) := by first | rfl | (simp only [Qby, map_cons, map_nil, un_s]; done) | (simp only [Qby, map_cons, map_nil, un_s]; rfl) | (simp only [Qby, map_cons, map_nil, un_s, length_cons, length_nil, length_append]; done)
theorem Q0m (z0 : Qa) (z1 : (List Int) × (List Int)) : VV.tu [VV.ag [vs z0.Name, vi z0.Azimuth, vi z0.Height, vi z0.From, vi z0.To, vi z0.Dwell, VV.fw 1 (List.drop 0 (List.map unfr (List.map vi z1.1))) z1.1.length, VV.fw 1 (List.drop 0 (List.map unfr (List.map vi z1.2))) z1.2.length], vi 0] = VV.tu [VV.ag [vs (((⟨z0, z1.1, z1.2⟩ : Zv).SkyTarget).Name), vi (((⟨z0, z1.1, z1.2⟩ : Zv).SkyTarget).Azimuth), vi (((⟨z0, z1.1, z1.2⟩ : Zv).SkyTarget).Height), vi (((⟨z0, z1.1, z1.2⟩ : Zv).SkyTarget).From), vi (((⟨z0, z1.1, z1.2⟩ : Zv).SkyTarget).To), vi (((⟨z0, z1.1, z1.2⟩ : Zv).SkyTarget).Dwell), VV.fw 1 (List.map vi ((⟨z0, z1.1, z1.2⟩ : Zv).turns)) (((⟨z0, z1.1, z1.2⟩ : Zv).turns).length), VV.fw 1 (List.map vi ((⟨z0, z1.1, z1.2⟩ : Zv).positions)) (((⟨z0, z1.1, z1.2⟩ : Zv).positions).length)], vi 0] := by first | rfl | (simp only [Qer, Qk, Qby, map_cons, map_nil, un_i, un_s, length_map, length_cons, length_nil]; done) | (simp only [Qer, Qk, Qby, map_cons, map_nil, un_i, un_s, length_map, length_cons, length_nil]; rfl) | (simp only [Qer, Qk, Qby, map_cons, map_nil, un_i, un_s, length_map, length_cons, length_nil, length_cons, length_nil, length_append]; done)
def Qbg (k : Nat) (a0 : Qc) (a1 : Qa) (a2 : Int) : Option (Zv × Int) :=
 (Y7 k a0 a1 a2).bind fun r1004 => ((Q8 k a0.Low a0.High ([r1004.e1] : List Int)).bind fun r1009 => (if r1009 = true then ((Qgu k (w64 (a0.Least - r1004.e0)) 1296000).bind fun r1014 => ((Xq k a0 a1 r1004 k ([] : List Int) ([] : List Int) r1014).bind fun r1042 => (if ((r1042.1.length : Nat) : Int) = 0 then (some ((⟨(⟨ByteArray.empty, 0, 0, 0, 0, 0⟩ : Qa), [], []⟩ : Zv), 12)) else (some ((⟨a1, r1042.1, r1042.2⟩ : Zv), 0))))) else (some ((⟨(⟨ByteArray.empty, 0, 0, 0, 0, 0⟩ : Qa), [], []⟩ : Zv), 26))))
theorem Qiu (k : Nat) (a0 : Qc) (a1 : Qa) (a2 : Int) (r : (Zv × Int)) (h : Qbg k a0 a1 a2 = some r) : VC Try.prog 60 [VV.ag (Zt a0), VV.ag (Qe a1), vi a2] (VV.tu [VV.ag [vs r.1.SkyTarget.Name, vi r.1.SkyTarget.Azimuth, vi r.1.SkyTarget.Height, vi r.1.SkyTarget.From, vi r.1.SkyTarget.To, vi r.1.SkyTarget.Dwell, VV.fw 1 (List.map vi r.1.turns) r.1.turns.length, VV.fw 1 (List.map vi r.1.positions) r.1.positions.length], vi r.2]) := by
 unfold Qbg at h
 obtain ⟨r1004, h1005, h⟩ := bs h
 have e1006 := (ti (ti (ti (an (Qdo k a0 a1 a2 _ h1005) (ti (ti tt))))))
 have e1007 := (show (0:Int) <= 0 /\ (0:Int) < ((2 : Nat) : Int) from ⟨by decide, by decide⟩)
 have e1008 := (show (0:Int) <= 1 /\ (1:Int) < ((2 : Nat) : Int) from ⟨by decide, by decide⟩)
 obtain ⟨r1009, h1010, h⟩ := bs h
 have e1011 := (VC.args (Zm k a0.Low a0.High ([r1004.e1] : List Int) _ h1010) (Q0l a0 r1004))
 have e1012 := (ti (ti (ti (ti (ti (ti (an e1011 (ti tt))))))))
 rcases ifs h with ⟨h1013, h⟩ | ⟨h1013, h⟩
 ·obtain ⟨r1014, h1015, h⟩ := bs h
  have e1016 := (Qpf k (w64 (a0.Least - r1004.e0)) 1296000 _ h1015)
  obtain ⟨r1042, h1041, h⟩ := bs h
  have hph1041 := Qfz k a0 a1 r1004 _ _ _ _ _ h1041
  have e1043 := (an (ti tt) (VRun.loop hph1041))
  rcases ifs h with ⟨h1044, h⟩ | ⟨h1044, h⟩
  ·injection h with h; subst h
   exact Qn pm pn Try.func60 (r0 := VV.tu [VV.ag [vs ByteArray.empty, vi 0, vi 0, vi 0, vi 0, vi 0, VV.c (.slice none 0 0), VV.c (.slice none 0 0)], vi 12]) (ans := [.reg (nN 4 []), .reg (nN 3 (.call (VV.ag (Qbv r1004)) :: .n :: .n :: [])), .reg (nN 6 []), .reg (nN 5 (.v VV.any :: .call (vb r1009) :: .n :: [])), .br false, .reg (nN 4 []), .reg (nN 4 (.call (vi r1014) :: .n :: [])), .sub ⟨[(3, none), (6, none), (9, none), (11, none), (12, none)], [none, none, none, none, none], [.b 4 6 1, .b 4 7 1]⟩ (.exit 0) (Yz a0 a1 r1004 r1042), .reg (nN 4 []), .br true, .reg (nN 3 [])]) (fr := true) (by kernel_rfl) (an (an (ti (ti (ti (ti tt)))) (an e1006 (an (an e1007 (ti (an e1008 (ti (ti (ti tt)))))) (an (an e1012 (an (Qu h1013) tt)) (an (ti (ti (ti (ti tt)))) (an (an (ti (ti (ti (ti (an e1016 (ti tt)))))) e1043) (an (ti (ti (ti (ti tt)))) (an (dt h1044) (an (ti (ti (ti tt))) tt))))))))) (an (ti (ti (ti (ti (ti (ti (ti (ti (ti tt))))))))) (ti tt))) (Wv.tuL (.cons (Wv.agL (.cons (Wv.of_eq Qwz) (.cons (Wv.of_eq Qwy) (.cons (Wv.of_eq Qwx) (.cons (Wv.of_eq Qww) (.cons (Wv.of_eq Qwv) (.cons (Wv.of_eq Qwu) (.cons Wv.Qnm (.cons Wv.Qnm .nil))))))))) (.cons (Wv.refl _) .nil)))
  ·injection h with h; subst h
   exact Qn pm pn Try.func60 (r0 := VV.tu [VV.ag [vs a1.Name, vi a1.Azimuth, vi a1.Height, vi a1.From, vi a1.To, vi a1.Dwell, VV.fw 1 (List.drop 0 (List.map unfr (List.map vi r1042.1))) r1042.1.length, VV.fw 1 (List.drop 0 (List.map unfr (List.map vi r1042.2))) r1042.2.length], vi 0]) (ans := [.reg (nN 4 []), .reg (nN 3 (.call (VV.ag (Qbv r1004)) :: .n :: .n :: [])), .reg (nN 6 []), .reg (nN 5 (.v VV.any :: .call (vb r1009) :: .n :: [])), .br false, .reg (nN 4 []), .reg (nN 4 (.call (vi r1014) :: .n :: [])), .sub ⟨[(3, none), (6, none), (9, none), (11, none), (12, none)], [none, none, none, none, none], [.b 4 6 1, .b 4 7 1]⟩ (.exit 0) (Yz a0 a1 r1004 r1042), .reg (nN 4 []), .br false, .reg (nN 3 [])]) (fr := true) (by kernel_rfl) (an (an (ti (ti (ti (ti tt)))) (an e1006 (an (an e1007 (ti (an e1008 (ti (ti (ti tt)))))) (an (an e1012 (an (Qu h1013) tt)) (an (ti (ti (ti (ti tt)))) (an (an (ti (ti (ti (ti (an e1016 (ti tt)))))) e1043) (an (an (ti (ti (ti (ti tt)))) (an (df h1044) tt)) (an (ti (ti (ti tt))) tt)))))))) (an (ti (ti (ti (ti (ti (ti (ti (an (show List.all (List.map vi r1042.1) new0 = true from (by exact Qj7 _)) (an (show List.all (List.map vi r1042.2) new0 = true from (by exact Qj7 _)) tt))))))))) (ti tt))) (Wv.of_eq (Q0m a1 r1042))
 ·injection h with h; subst h
  exact Qn pm pn Try.func60 (r0 := VV.tu [VV.ag [vs ByteArray.empty, vi 0, vi 0, vi 0, vi 0, vi 0, VV.c (.slice none 0 0), VV.c (.slice none 0 0)], vi 26]) (ans := [.reg (nN 4 []), .reg (nN 3 (.call (VV.ag (Qbv r1004)) :: .n :: .n :: [])), .reg (nN 6 []), .reg (nN 5 (.v VV.any :: .call (vb r1009) :: .n :: [])), .br true, .reg (nN 3 [])]) (fr := true) (by kernel_rfl) (an (an (ti (ti (ti (ti tt)))) (an e1006 (an (an e1007 (ti (an e1008 (ti (ti (ti tt)))))) (an e1012 (an (Zj (Qx h1013)) (an (ti (ti (ti tt))) tt)))))) (an (ti (ti (ti (ti (ti (ti (ti (ti (ti tt))))))))) (ti tt))) (Wv.tuL (.cons (Wv.agL (.cons (Wv.of_eq Qwz) (.cons (Wv.of_eq Qwy) (.cons (Wv.of_eq Qwx) (.cons (Wv.of_eq Qww) (.cons (Wv.of_eq Qwv) (.cons (Wv.of_eq Qwu) (.cons Wv.Qnm (.cons Wv.Qnm .nil))))))))) (.cons (Wv.refl _) .nil)))
end Go.Proofs.Ytjomicmhnbmhoaa.Vg

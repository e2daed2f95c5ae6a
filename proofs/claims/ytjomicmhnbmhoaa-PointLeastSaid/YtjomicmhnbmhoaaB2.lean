import Derived.Test.YtjomicmhnbmhoaaB1
namespace Go.Proofs.Ytjomicmhnbmhoaa.Vg
set_option maxRecDepth 100000
set_option maxHeartbeats 4000000
set_option linter.unusedVariables false
set_option linter.unusedSimpArgs false
open Go Go.Proofs.Ytjomicmhnbmhoaa.Ev Go.Proofs.Ytjomicmhnbmhoaa.Vv
open List (flatMap length_cons length_nil length_map length_append map_cons map_nil length_replicate)
structure Qc where
 Least : Int
 Most : Int
 Low : Int
 High : Int
 Speed : Int
 Refraction : (List Qo)
 Drift : (List Qo)
 deriving Inhabited
def Qp (x : Qc) : List VV := [vi x.Least, vi x.Most, vi x.Low, vi x.High, vi x.Speed, VV.tr (flatMap Qg x.Refraction) x.Refraction.length, VV.tr (flatMap Qg x.Drift) x.Drift.length]
def Qcx (x : Qc) : List VV := [vi x.Least, vi x.Most, vi x.Low, vi x.High, vi x.Speed, VV.fr (flatMap Qg x.Refraction) x.Refraction.length, VV.fr (flatMap Qg x.Drift) x.Drift.length]
theorem Xx (xs : List Qc) : (xs.flatMap Qp).map unfr = xs.flatMap Qp := Qbg (fun _ => rfl) xs
theorem Xa (xs : List Qc) : (xs.flatMap Qcx).map unfr = xs.flatMap Qp := Qbg (fun _ => rfl) xs
structure Qa where
 Name : ByteArray
 Azimuth : Int
 Height : Int
 From : Int
 To : Int
 Dwell : Int
 deriving Inhabited
def Qb (x : Qa) : List VV := [vs x.Name, vi x.Azimuth, vi x.Height, vi x.From, vi x.To, vi x.Dwell]
theorem Xb (x : Qa) : (Qb x).length = 6 := rfl
theorem Qne (xs : List Qa) : (xs.flatMap Qb).all VV.still = true := Qlt (fun _ => rfl) xs
theorem Qjg (xs : List Qa) : (xs.flatMap Qb).all new0 = true := Qlt (fun _ => rfl) xs
theorem Zr (xs : List Qa) : (xs.flatMap Qb).map unfr = xs.flatMap Qb := Qk0 (fun _ => rfl) xs
structure A26 where
 e0 : Int
 e1 : Int
 deriving Inhabited
def Qch (x : A26) : List VV := [vi x.e0, vi x.e1]
theorem Yd (xs : List A26) : (xs.flatMap Qch).map unfr = xs.flatMap Qch := Qk0 (fun _ => rfl) xs
structure Jj where
 SkyTarget : Qa
 turns : (List Int)
 positions : (List Int)
 deriving Inhabited
def Zi (x : Jj) : List VV := [vs x.SkyTarget.Name, vi x.SkyTarget.Azimuth, vi x.SkyTarget.Height, vi x.SkyTarget.From, vi x.SkyTarget.To, vi x.SkyTarget.Dwell, VV.tr (List.map vi x.turns) x.turns.length, VV.tr (List.map vi x.positions) x.positions.length]
theorem Qep (x : Jj) : (Zi x).length = 8 := rfl
def Qel (x : Jj) : List VV := [vs x.SkyTarget.Name, vi x.SkyTarget.Azimuth, vi x.SkyTarget.Height, vi x.SkyTarget.From, vi x.SkyTarget.To, vi x.SkyTarget.Dwell, VV.fr (List.map vi x.turns) x.turns.length, VV.fr (List.map vi x.positions) x.positions.length]
theorem Qpp (x : Jj) : (Qel x).length = 8 := rfl
theorem Qr1 (xs : List Jj) : (xs.flatMap Qel).all VV.still = true := Qlt (fun _ => rfl) xs
theorem Yw (xs : List Jj) : (xs.flatMap Zi).map unfr = xs.flatMap Zi := Qbg (fun _ => rfl) xs
theorem Yx (xs : List Jj) : (xs.flatMap Qel).map unfr = xs.flatMap Zi := Qbg (fun _ => rfl) xs
theorem Qti (xs : List Jj) : (xs.flatMap Qel).all new0 = true := Qlt (fun _ => rfl) xs
def Qce (k : Nat) (a0 : Qc) : Option Bool :=
 (Qbi k a0.Refraction).bind fun r11958 => (if r11958 = true then ((Qbi k a0.Drift).bind fun r11962 => (some r11962)) else (some false))
theorem Qj9 (k : Nat) (a0 : Qc) (r : Bool) (h : Qce k a0 = some r) : VC Try.prog 25 [VV.ag (Qp a0)] (vb r) := by
 unfold Qce at h
 obtain ⟨r11958, h11959, h⟩ := bs h
 have e11960 := (Qgx k a0.Refraction _ h11959)
 rcases ifs h with ⟨h11961, h⟩ | ⟨h11961, h⟩
 ·obtain ⟨r11962, h11963, h⟩ := bs h
  have e11964 := (an h11961 (Qgx k a0.Drift _ h11963))
  have e11965 := (t2 (an e11960 (ti (w2 (an h11961 tt) (an e11964 (an h11961 (ti tt)))))))
  obtain rfl := si h
  exact Qi pm pn Try.func25 (r0 := vb r11962) (ans := [.reg (.n :: .n :: []), .reg (.n :: .n :: .call (vb r11958) :: nN 3 (.call (vb r11962) :: .b true :: .n :: []))]) (fr := true) (by kernel_rfl) (an (an (t2 tt) (an e11965 tt)) (ti tt)) (Wv.refl _)
 ·have e11966 := (t2 (an e11960 (ti (w4 (Qn h11961) (ti tt)))))
  obtain rfl := si h
  exact Qi pm pn Try.func25 (r0 := vb false) (ans := [.reg (.n :: .n :: []), .reg (.n :: .n :: .call (vb r11958) :: .n :: nS 3 (.b false :: .n :: []))]) (fr := true) (by kernel_rfl) (an (an (t2 tt) (an e11966 tt)) (ti tt)) (Wv.refl _)
def Q7q (z0 : (List Qo)) (z1 : (List Qo)) : List Ans := (.n :: .n :: .call (VV.fr (flatMap Qg z0) z0.length) :: .n :: .n :: .call (VV.fr (flatMap Qg z1) z1.length) :: nN 4 [])
theorem Q7r (z0 : Qc) (z1 : (List Qo)) (z2 : (List Qo)) : VV.ag [vi z0.Least, vi z0.Most, vi z0.Low, vi z0.High, vi z0.Speed, VV.fr (flatMap Qg z1) z1.length, VV.fr (flatMap Qg z2) z2.length] = VV.ag (Qcx (⟨z0.Least, z0.Most, z0.Low, z0.High, z0.Speed, z1, z2⟩ : Qc)) := by first | rfl | (simp only [Qj, map_cons, map_nil, un_i, Qf0, length_cons, length_nil, Zu, Xa]; done) | (simp only [Qj, map_cons, map_nil, un_i, Qf0, length_cons, length_nil, Zu, Xa]; rfl) | (simp only [Qj, map_cons, map_nil, un_i, Qf0, length_cons, length_nil, Zu, Xa, Qg, Qcx, length_cons, length_nil, length_append]; done)
def Qcf (k : Nat) (a0 : Qc) : Option Qc :=
 (Qa2 k a0.Refraction).bind fun r11974 => ((Qa2 k a0.Drift).bind fun r11977 => (some (⟨a0.Least, a0.Most, a0.Low, a0.High, a0.Speed, r11974, r11977⟩ : Qc)))
theorem Qev (k : Nat) (a0 : Qc) (r : Qc) (h : Qcf k a0 = some r) : VC Try.prog 8 [VV.ag (Qp a0)] (VV.ag (Qcx r)) := by
 unfold Qcf at h
 obtain ⟨r11974, h11975, h⟩ := bs h
 have e11976 := (show VC Try.prog 30 [VV.tr (flatMap Qg a0.Refraction) a0.Refraction.length] (VV.fr (flatMap Qg r11974) r11974.length) from (VC.weak (Qgi k a0.Refraction _ h11975) (Wv.fw rfl rfl)))
 obtain ⟨r11977, h11978, h⟩ := bs h
 have e11979 := (show VC Try.prog 30 [VV.tr (flatMap Qg a0.Drift) a0.Drift.length] (VV.fr (flatMap Qg r11977) r11977.length) from (VC.weak (Qgi k a0.Drift _ h11978) (Wv.fw rfl rfl)))
 have e11980 := (t2 (an e11976 (t2 (an e11979 (t4 tt)))))
 obtain rfl := si h
 exact Qi pm pn Try.func8 (r0 := VV.ag [vi a0.Least, vi a0.Most, vi a0.Low, vi a0.High, vi a0.Speed, VV.fr (flatMap Qg r11974) r11974.length, VV.fr (flatMap Qg r11977) r11977.length]) (ans := [.reg (.n :: .n :: []), .reg (Q7q r11974 r11977), .reg (.n :: .n :: [])]) (fr := true) (by kernel_rfl) (an (an (t2 tt) (an e11980 (an (t2 tt) tt))) (an (t8 tt) tt)) (Wv.of_eq (Q7r a0 r11974 r11977))
theorem Q7s (z0 : Qc) : [vi 25920000, VV.tr (List.map vi ([z0.Least, z0.Most] : List Int)) (([z0.Least, z0.Most] : List Int).length)] = [vi 25920000, VV.tr [vi z0.Least, vi z0.Most] 2] := by first | rfl | (simp only [Qj, map_cons, map_nil, un_i, Jg, length_map, length_cons, length_nil]; done) | (simp only [Qj, map_cons, map_nil, un_i, Jg, length_map, length_cons, length_nil]; rfl) | (simp only [Qj, map_cons, map_nil, un_i, Jg, length_map, length_cons, length_nil, length_cons, length_nil, length_append]; done)
theorem Q7t (z0 : Qc) : [vi 0, vi 324000, VV.tr (List.map vi ([z0.Low, z0.High] : List Int)) (([z0.Low, z0.High] : List Int).length)] = [vi 0, vi 324000, VV.tr [vi z0.Low, vi z0.High] 2] := by first | rfl | (simp only [Qj, map_cons, map_nil, un_i, Jg, length_map, length_cons, length_nil]; done) | (simp only [Qj, map_cons, map_nil, un_i, Jg, length_map, length_cons, length_nil]; rfl) | (simp only [Qj, map_cons, map_nil, un_i, Jg, length_map, length_cons, length_nil, length_cons, length_nil, length_append]; done)
theorem Q7u (z0 : Qc) : [vi 1, vi 1000000, VV.tr (List.map vi ([z0.Speed] : List Int)) (([z0.Speed] : List Int).length)] = [vi 1, vi 1000000, VV.tr [vi z0.Speed] 1] := by first | rfl | (simp only [Qj, map_cons, map_nil, un_i, Jg, length_map, length_cons, length_nil]; done) | (simp only [Qj, map_cons, map_nil, un_i, Jg, length_map, length_cons, length_nil]; rfl) | (simp only [Qj, map_cons, map_nil, un_i, Jg, length_map, length_cons, length_nil, length_cons, length_nil, length_append]; done)
def Qtj (z0 : Bool) (z1 : Bool) (z2 : Bool) : List Ans := (nN 4 (.v VV.any :: .call (vb z0) :: nN 6 (.v VV.any :: .call (vb z1) :: .n :: .b false :: nN 3 (.v VV.any :: .call (vb z2) :: .n :: .b false :: .n :: []))))
def Q7v (z0 : Bool) (z1 : Bool) : List Ans := (nN 4 (.v VV.any :: .call (vb z0) :: nN 6 (.v VV.any :: .call (vb z1) :: .n :: .b false :: .n :: nS 5 (.b true :: .n :: []))))
def Q7w (z0 : Bool) : List Ans := (nN 4 (.v VV.any :: .call (vb z0) :: .n :: .n :: nS 7 (.b true :: .n :: nS 5 (.b true :: .n :: []))))
def Qd8 (k : Nat) (a0 : Qc) : Option Int :=
 (Yc k 25920000 ([a0.Least, a0.Most] : List Int)).bind fun r12007 => (if r12007 = true then ((Zv k 0 324000 ([a0.Low, a0.High] : List Int)).bind fun r12011 => (if r12011 = true then ((Zv k 1 1000000 ([a0.Speed] : List Int)).bind fun r12015 => (if r12015 = true then (if a0.Most < a0.Least then (some 9) else (if a0.High < a0.Low then (some 9) else ((Qbj k a0.Refraction).bind fun r12024 => (if r12024 = 0 then ((Qbj k a0.Drift).bind fun r12028 => (some r12028)) else (some r12024))))) else (some 2))) else (some 2))) else (some 2))
theorem Ql1 (k : Nat) (a0 : Qc) (r : Int) (h : Qd8 k a0 = some r) : VC Try.prog 56 [VV.ag (Qp a0)] (vi r) := by
 unfold Qd8 at h
 obtain ⟨r12007, h12008, h⟩ := bs h
 have e12009 := (VC.args (Qap k 25920000 ([a0.Least, a0.Most] : List Int) _ h12008) (Q7s a0))
 rcases ifs h with ⟨h12010, h⟩ | ⟨h12010, h⟩
 ·obtain ⟨r12011, h12012, h⟩ := bs h
  have e12013 := (an (Qh h12010) (VC.args (Xk k 0 324000 ([a0.Low, a0.High] : List Int) _ h12012) (Q7t a0)))
  rcases ifs h with ⟨h12014, h⟩ | ⟨h12014, h⟩
  ·obtain ⟨r12015, h12016, h⟩ := bs h
   have e12017 := (an (Qh h12014) (VC.args (Xk k 1 1000000 ([a0.Speed] : List Int) _ h12016) (Q7u a0)))
   have e12018 := (t5 (an e12009 (t2 (w5 (an (Qh h12010) tt) (an e12013 (an (an (Qh h12010) tt) (an (Qh h12010) (ti (w3 (an (Qh h12014) tt) (an e12017 (an (an (Qh h12014) tt) (an (Qh h12014) (ti tt)))))))))))))
   rcases ifs h with ⟨h12019, h⟩ | ⟨h12019, h⟩
   ·rcases ifs h with ⟨h12020, h⟩ | ⟨h12020, h⟩
    ·have e12021 := (t6 (w6 (dt h12020) (ti tt)))
     obtain rfl := si h
     exact Qi pm pn Try.func56 (r0 := vi 9) (ans := [.reg (.n :: .n :: []), .reg (Qtj r12007 r12011 r12015), .br false, .reg (nN 6 (nS 5 (.b true :: .n :: []))), .br true, .reg (.n :: [])]) (fr := true) (by kernel_rfl) (an (an (t2 tt) (an e12018 (an (Qh h12019) (an e12021 (an rt (an (ti tt) tt)))))) (ti tt)) (Wv.refl _)
    ·have e12022 := (t6 (w5 (tf h12020) (an (df h12020) (ti tt))))
     rcases ifs h with ⟨h12023, h⟩ | ⟨h12023, h⟩
     ·obtain rfl := si h
      exact Qi pm pn Try.func56 (r0 := vi 9) (ans := [.reg (.n :: .n :: []), .reg (Qtj r12007 r12011 r12015), .br false, .reg (nN 11 (.b false :: .n :: [])), .br true, .reg (.n :: [])]) (fr := true) (by kernel_rfl) (an (an (t2 tt) (an e12018 (an (Qh h12019) (an e12022 (an (dt h12023) (an (ti tt) tt)))))) (ti tt)) (Wv.refl _)
     ·obtain ⟨r12024, h12025, h⟩ := bs h
      have e12026 := (Qfq k a0.Refraction _ h12025)
      rcases ifs h with ⟨h12027, h⟩ | ⟨h12027, h⟩
      ·obtain ⟨r12028, h12029, h⟩ := bs h
       have e12030 := (Qfq k a0.Drift _ h12029)
       obtain rfl := si h
       exact Qi pm pn Try.func56 (r0 := vi r12028) (ans := [.reg (.n :: .n :: []), .reg (Qtj r12007 r12011 r12015), .br false, .reg (nN 11 (.b false :: .n :: [])), .br false, .reg (.n :: .n :: .call (vi r12024) :: .n :: []), .reg (.n :: .n :: []), .br false, .reg (.n :: .n :: .call (vi r12028) :: .n :: [])]) (fr := true) (by kernel_rfl) (an (an (t2 tt) (an (an e12018 (an (Qh h12019) (an e12022 (tf h12023)))) (an (an (t2 (an e12026 (ti tt))) (an (t2 tt) (ta h12027))) (an (t2 (an e12030 (ti tt))) tt)))) (ti tt)) (Wv.refl _)
      ·obtain rfl := si h
       exact Qi pm pn Try.func56 (r0 := vi r12024) (ans := [.reg (.n :: .n :: []), .reg (Qtj r12007 r12011 r12015), .br false, .reg (nN 11 (.b false :: .n :: [])), .br false, .reg (.n :: .n :: .call (vi r12024) :: .n :: []), .reg (.n :: .n :: []), .br true, .reg (.n :: .n :: [])]) (fr := true) (by kernel_rfl) (an (an (t2 tt) (an (an e12018 (an (Qh h12019) (an e12022 (tf h12023)))) (an (t2 (an e12026 (ti tt))) (an (t2 tt) (an (td h12027) (an (t2 tt) tt)))))) (ti tt)) (Wv.refl _)
   ·obtain rfl := si h
    exact Qi pm pn Try.func56 (r0 := vi 2) (ans := [.reg (.n :: .n :: []), .reg (Qtj r12007 r12011 r12015), .br true, .reg (.n :: [])]) (fr := true) (by kernel_rfl) (an (an (t2 tt) (an e12018 (an (Qr (Qn h12019)) (an (ti tt) tt)))) (ti tt)) (Wv.refl _)
  ·have e12031 := (t5 (an e12009 (t2 (w5 (an (Qh h12010) tt) (an e12013 (an (an (Qh h12010) tt) (an (Qh h12010) (ti (w6 (Qr (Qn h12014)) (ti tt))))))))))
   obtain rfl := si h
   exact Qi pm pn Try.func56 (r0 := vi 2) (ans := [.reg (.n :: .n :: []), .reg (Q7v r12007 r12011), .br true, .reg (.n :: [])]) (fr := true) (by kernel_rfl) (an (an (t2 tt) (an e12031 (an rt (an (ti tt) tt)))) (ti tt)) (Wv.refl _)
 ·have e12032 := (t5 (an e12009 (t2 (w8 (Qr (Qn h12010)) (ti (an rt (an rt (an rt (an rt (an rt (an rt (ti tt))))))))))))
  obtain rfl := si h
  exact Qi pm pn Try.func56 (r0 := vi 2) (ans := [.reg (.n :: .n :: []), .reg (Q7w r12007), .br true, .reg (.n :: [])]) (fr := true) (by kernel_rfl) (an (an (t2 tt) (an e12032 (an rt (an (ti tt) tt)))) (ti tt)) (Wv.refl _)
theorem Q7x (z0 : ByteArray) : [vi 1, vi 12, VV.tr (List.map vi ([(z0.size : Int)] : List Int)) (([(z0.size : Int)] : List Int).length)] = [vi 1, vi 12, VV.tr [vi (z0.size : Int)] 1] := by first | rfl | (simp only [Qj, map_cons, map_nil, un_i, Jg, length_map, length_cons, length_nil]; done) | (simp only [Qj, map_cons, map_nil, un_i, Jg, length_map, length_cons, length_nil]; rfl) | (simp only [Qj, map_cons, map_nil, un_i, Jg, length_map, length_cons, length_nil, length_cons, length_nil, length_append]; done)
def Q3g  : List Ans := (nN 3 (.skip :: .skip :: .b false :: nN 4 (.skip :: .skip :: .b false :: .b false :: .n :: [])))
def Qd7 (k : Nat) (a0 : Int) : Option Bool :=
 if 97 <= a0 then (if a0 <= 122 then (some true) else (if 65 <= a0 then (some (decide (a0 <= 90))) else (some false))) else (if 65 <= a0 then (some (decide (a0 <= 90))) else (some false))
theorem Qdp (k : Nat) (a0 : Int) (r : Bool) (h : Qd7 k a0 = some r) : VC Try.prog 88 [VV.c (.int .i32 a0)] (vb r) := by
 unfold Qd7 at h
 rcases ifs h with ⟨h12049, h⟩ | ⟨h12049, h⟩
 ·rcases ifs h with ⟨h12050, h⟩ | ⟨h12050, h⟩
  ·have e12051 := (t3 (w2 (te h12049) (an (dt h12049) (ti (w3 (dt h12050) (t2 (w2 (dt h12050) (ti tt))))))))
   obtain rfl := si h
   exact Qi pm pn Try.func88 (r0 := vb true) (ans := [.reg (.n :: []), .reg (nN 5 (.b true :: .n :: nS 6 (.b true :: .n :: [])))]) (fr := true) (by kernel_rfl) (an (an (ti tt) (an e12051 tt)) (ti tt)) (Wv.refl _)
  ·rcases ifs h with ⟨h12052, h⟩ | ⟨h12052, h⟩
   ·have e12053 := (an (df h12050) (dt h12052))
    have e12054 := (t3 (w2 (te h12049) (an (dt h12049) (ti (w3 (tf h12050) (w2 (te h12052) (an e12053 (an (df h12050) (ti tt)))))))))
    obtain rfl := si h
    exact Qi pm pn Try.func88 (r0 := vb (decide (a0 <= 90))) (ans := [.reg (.n :: []), .reg (nN 5 (.b true :: nN 6 (.b true :: .b false :: .n :: [])))]) (fr := true) (by kernel_rfl) (an (an (ti tt) (an e12054 tt)) (ti tt)) (Wv.refl _)
   ·have e12055 := (an (df h12050) (df h12052))
    have e12056 := (t3 (w2 (te h12049) (an (dt h12049) (ti (w3 (tf h12050) (w2 (df h12052) (an e12055 (an (df h12050) (ti tt)))))))))
    obtain rfl := si h
    exact Qi pm pn Try.func88 (r0 := vb false) (ans := [.reg (.n :: []), .reg (nN 5 (.b true :: nN 4 (.skip :: .skip :: .b false :: .b false :: .n :: [])))]) (fr := true) (by kernel_rfl) (an (an (ti tt) (an e12056 tt)) (ti tt)) (Wv.refl _)
 ·rcases ifs h with ⟨h12057, h⟩ | ⟨h12057, h⟩
  ·have e12058 := (t3 (w3 (df h12049) (ti (w3 (an rf tt) (w2 (te h12057) (an (an rf (dt h12057)) (an rf (ti tt))))))))
   obtain rfl := si h
   exact Qi pm pn Try.func88 (r0 := vb (decide (a0 <= 90))) (ans := [.reg (.n :: []), .reg (nN 3 (.skip :: .skip :: .b false :: nN 6 (.b true :: .b false :: .n :: [])))]) (fr := true) (by kernel_rfl) (an (an (ti tt) (an e12058 tt)) (ti tt)) (Wv.refl _)
  ·have e12059 := (t3 (w3 (df h12049) (ti (w3 (an rf tt) (w2 (df h12057) (an (an rf (df h12057)) (an rf (ti tt))))))))
   obtain rfl := si h
   exact Qi pm pn Try.func88 (r0 := vb false) (ans := [.reg (.n :: []), .reg Q3g]) (fr := true) (by kernel_rfl) (an (an (ti tt) (an e12059 tt)) (ti tt)) (Wv.refl _)
def Q7y (z0 : Bool) : List Ans := (.n :: .call (vb z0) :: .n :: .n :: nS 7 (.b false :: .n :: .skip :: .skip :: .b false :: .n :: []))
def Q7z (z0 : Bool) : List Ans := (.n :: .call (vb z0) :: nN 7 (.b true :: .n :: .b true :: .n :: .skip :: .skip :: .b false :: .n :: []))
def Q70 (z0 : Bool) : List Ans := (.n :: .call (vb z0) :: nN 7 (.b true :: .n :: .b true :: nN 3 (.b true :: .n :: [])))
def Q71 (z0 : Bool) : List Ans := (.n :: .call (vb z0) :: nN 5 (.skip :: .skip :: .b false :: .n :: .b true :: nN 3 (.b true :: .n :: [])))
def Qex (k : Nat) (a0 : Int) : Option Bool :=
 (Qd7 k a0).bind fun r12082 => (if r12082 = true then (some false) else (if 48 <= a0 then (if a0 <= 57 then (some false) else (some (!(decide (a0 = 45))))) else (some (!(decide (a0 = 45))))))
theorem Qmk (k : Nat) (a0 : Int) (r : Bool) (h : Qex k a0 = some r) : VC Try.prog 90 [VV.c (.int .i32 a0)] (vb r) := by
 unfold Qex at h
 obtain ⟨r12082, h12083, h⟩ := bs h
 rcases ifs h with ⟨h12084, h⟩ | ⟨h12084, h⟩
 ·have e12085 := (ti (an (Qdp k a0 _ h12083) (t2 (w3 (Qh h12084) (t2 (w3 (Qh h12084) (ti (an rf (an rf (an rf (ti tt)))))))))))
  obtain rfl := si h
  exact Qi pm pn Try.func90 (r0 := vb false) (ans := [.reg (.n :: []), .reg (Q7y r12082)]) (fr := true) (by kernel_rfl) (an (an (ti tt) (an e12085 tt)) (ti tt)) (Wv.refl _)
 ·rcases ifs h with ⟨h12086, h⟩ | ⟨h12086, h⟩
  ·have e12087 := (an (Qr (Qn h12084)) (dt h12086))
   rcases ifs h with ⟨h12088, h⟩ | ⟨h12088, h⟩
   ·have e12089 := (ti (an (Qdp k a0 _ h12083) (t2 (w3 (an (Qr (Qn h12084)) tt) (w2 (te h12086) (an e12087 (an (an (Qr (Qn h12084)) tt) (an (Qr (Qn h12084)) (ti (w3 (tc h12088) (ti tt)))))))))))
    obtain rfl := si h
    exact Qi pm pn Try.func90 (r0 := vb false) (ans := [.reg (.n :: []), .reg (Q7z r12082)]) (fr := true) (by kernel_rfl) (an (an (ti tt) (an e12089 tt)) (ti tt)) (Wv.refl _)
   ·have e12090 := (tb h12088)
    have e12092 := (ti (an (Qdp k a0 _ h12083) (t2 (w3 (an (Qr (Qn h12084)) tt) (w2 (te h12086) (an e12087 (an (an (Qr (Qn h12084)) tt) (an (Qr (Qn h12084)) (ti (w2 e12090 (an (td h12088) (ti tt))))))))))))
    obtain rfl := si h
    exact Qi pm pn Try.func90 (r0 := vb (!(decide (a0 = 45)))) (ans := [.reg (.n :: []), .reg (Q70 r12082)]) (fr := true) (by kernel_rfl) (an (an (ti tt) (an e12092 tt)) (ti tt)) (Wv.refl _)
  ·have e12093 := (an (Qr (Qn h12084)) (df h12086))
   have e12094 := (an (show (!false) = true from (Qr rfl)) tt)
   have e12096 := (ti (an (Qdp k a0 _ h12083) (t2 (w3 (an (Qr (Qn h12084)) tt) (w2 (df h12086) (an e12093 (an (an (Qr (Qn h12084)) tt) (an (Qr (Qn h12084)) (ti (w2 e12094 (an (show (!false) = true from (Qr rfl)) (ti tt))))))))))))
   obtain rfl := si h
   exact Qi pm pn Try.func90 (r0 := vb (!(decide (a0 = 45)))) (ans := [.reg (.n :: []), .reg (Q71 r12082)]) (fr := true) (by kernel_rfl) (an (an (ti tt) (an e12096 tt)) (ti tt)) (Wv.refl _)
def Xz (a0 : ByteArray) (a2 : Bool) (b0_1 : Int) : VS := ⟨mkA [(1, VV.fn 90 []), (2, vb a2), (10, VV.it 0)], [some ⟨true, bigX, [vs a0, vi b0_1]⟩], .nil⟩
def Jy (a0 : ByteArray) (a2 : Bool) (r : Int) : VS := ⟨mkA [(6, vi r)], [], .nil⟩
def Jz (a0 : ByteArray) (a2 : Bool) (r : Unit) : VS := ⟨mkA [], [], .nil⟩
def Qw (k : Nat) (a0 : ByteArray) (a2 : Bool) : Nat -> Int -> Option (Sum Int Unit)
 | 0, _ => none
 | fuel + 1, b0_1 => if b0_1 < (a0.size : Int) then (if 0 <= b0_1 then ((Qex k (((Go.Utf8.decode a0 (b0_1).toNat).1 : Nat) : Int)).bind fun r12143 => (if (r12143 == a2) = true then (some (.inl b0_1)) else (Qw k a0 a2 fuel (b0_1 + (((Go.Utf8.decode a0 (b0_1).toNat).2 : Nat) : Int))))) else none) else (some (.inr ()))
theorem Qem (k : Nat) (a0 : ByteArray) (a2 : Bool) : ∀ (fuel : Nat) (b0_1 : Int) (r : Sum Int Unit), Qw k a0 a2 fuel b0_1 = some r -> (match r with | .inl r => Jb none Try.prog (szF Try.f92) (Zy Try.f92 0) (Xz a0 a2 b0_1) .ret (Jy a0 a2 r) | .inr r => Jb none Try.prog (szF Try.f92) (Zy Try.f92 0) (Xz a0 a2 b0_1) (.exit 0) (Jz a0 a2 r)) := by
 intro fuel
 induction fuel with
 | zero => intro b0_1 r h; rw [Qw.eq_1] at h; cases h
 | succ fuel ih =>
  intro b0_1 r h
  rw [Qw.eq_2] at h
  rcases ifs h with ⟨h12140, h⟩ | ⟨h12140, h⟩
  ·obtain ⟨h12141, h⟩ := ifn h
   have e12142 := (show 0 <= b0_1 /\ b0_1 < (a0.size : Int) from ⟨h12141, of_decide_eq_true (dt h12140)⟩)
   obtain ⟨r12143, h12144, h⟩ := bs h
   have e12145 := (Qmk k (((Go.Utf8.decode a0 (b0_1).toNat).1 : Nat) : Int) _ h12144)
   rcases ifs h with ⟨h12146, h⟩ | ⟨h12146, h⟩
   ·obtain rfl := si h
    exact Qk (c := ⟨[(6, none)], [], []⟩) (s1 := (Jy a0 a2 b0_1)) pm pn (ans := [.reg (.b true :: .n :: []), .br true, .reg (nN 4 []), .reg (.n :: .n :: .call (vb r12143) :: .n :: .n :: []), .br true, .reg (.n :: .n :: [])]) (by kernel_rfl) nofun (an (an (an e12142 (ti tt)) (an (an rt tt) (an (t4 tt) (an (t2 (an e12145 (t2 tt))) (an h12146 (an (t2 tt) tt)))))) (ti tt))
   ·have h2 := ih _ _ h
    obtain ⟨q, hv, hq⟩ := pK none Try.prog Try.f92 0 (Xz a0 a2 b0_1) [.reg (.b true :: .n :: []), .br true, .reg (nN 4 []), .reg (.n :: .n :: .call (vb r12143) :: .n :: .n :: []), .br false] ⟨(tn [1, 2, 10]), [none], []⟩ .normal (Xz a0 a2 (b0_1 + (((Go.Utf8.decode a0 (b0_1).toNat).2 : Nat) : Int))) (an (an (an e12142 (ti tt)) (an (an rt tt) (an (t4 tt) (an (t2 (an e12145 (t2 tt))) (an (Qn h12146) tt))))) (ti tt)) (by kernel_rfl)
    cases r <;> exact Qd pm pn hv hq h2
  ·have e12147 := (show (a0.size : Int) <= b0_1 from (by have := of_decide_eq_false (df h12140); omega))
   obtain rfl := si h
   exact Qk (c := ⟨[], [], []⟩) (s1 := (Jz a0 a2 ())) pm pn (ans := [.reg (.b false :: .n :: []), .br false]) (by kernel_rfl) nofun (an (an (an e12147 (ti tt)) (an rf tt)) (ti tt))
def Ju (k : Nat) (a0 : ByteArray) (a1 : Unit) (a2 : Bool) : Option Int :=
 (Qw k a0 a2 k 0).bind fun r12149 => (match r12149 with | .inl r12150 => (some r12150) | .inr r12151 => (some (-1)))
theorem Qfa (k : Nat) (a0 : ByteArray) (a1 : Unit) (a2 : Bool) (r : Int) (h : Ju k a0 a1 a2 = some r) : VC Try.prog 92 [vs a0, VV.fn 90 [], vb a2] (vi r) := by
 unfold Ju at h
 obtain ⟨r12149, h12148, h⟩ := bs h
 have hph12148 := Qem k a0 a2 _ _ _ h12148
 cases r12149 with
 | inl r12150 =>
  dsimp only at h
  have e12152 := (an (ti tt) (VRun.loop hph12148))
  obtain rfl := si h
  exact Qi pm pn Try.func92 (r0 := vi r12150) (ans := [.reg (.n :: []), .reg (.n :: .n :: []), .sub ⟨(tn [1, 2, 10]), [none], []⟩ .ret (Jy a0 a2 r12150)]) (fr := true) (by kernel_rfl) (an (an (ti tt) (an (t2 tt) e12152)) (ti tt)) (Wv.refl _)
 | inr r12151 =>
  dsimp only at h
  have e12153 := (an (ti tt) (VRun.loop hph12148))
  obtain rfl := si h
  exact Qi pm pn Try.func92 (r0 := vi (-1)) (ans := [.reg (.n :: []), .reg (.n :: .n :: []), .sub ⟨(tn [1, 2, 10]), [none], []⟩ (.exit 0) (Jz a0 a2 r12151), .reg (.n :: [])]) (fr := true) (by kernel_rfl) (an (an (ti tt) (an (an (t2 tt) e12153) (an (ti tt) tt))) (ti tt)) (Wv.refl _)
def Jt (k : Nat) (a0 : ByteArray) (a1 : Unit) : Option Int :=
 (Ju k a0 a1 true).bind fun r12157 => (some r12157)
theorem Qfb (k : Nat) (a0 : ByteArray) (a1 : Unit) (r : Int) (h : Jt k a0 a1 = some r) : VC Try.prog 91 [vs a0, VV.fn 90 []] (vi r) := by
 unfold Jt at h
 obtain ⟨r12157, h12158, h⟩ := bs h
 have e12159 := (Qfa k a0 a1 true _ h12158)
 obtain rfl := si h
 exact Qi pm pn Try.func91 (r0 := vi r12157) (ans := [.reg (.n :: []), .reg (.n :: .n :: .call (vi r12157) :: .n :: [])]) (fr := true) (by kernel_rfl) (an (an (ti tt) (an (t2 (an e12159 (ti tt))) tt)) (ti tt)) (Wv.refl _)
def Jf (k : Nat) (a0 : ByteArray) (a1 : Unit) : Option Bool :=
 (Jt k a0 a1).bind fun r12163 => (some (decide (0 <= r12163)))
theorem Qew (k : Nat) (a0 : ByteArray) (a1 : Unit) (r : Bool) (h : Jf k a0 a1 = some r) : VC Try.prog 89 [vs a0, VV.fn 90 []] (vb r) := by
 unfold Jf at h
 obtain ⟨r12163, h12164, h⟩ := bs h
 have e12165 := (Qfb k a0 a1 _ h12164)
 obtain rfl := si h
 exact Qi pm pn Try.func89 (r0 := vb (decide (0 <= r12163))) (ans := [.reg (.n :: []), .reg (.n :: .n :: .call (vi r12163) :: .n :: .n :: [])]) (fr := true) (by kernel_rfl) (an (an (ti tt) (an (t2 (an e12165 (t2 tt))) tt)) (ti tt)) (Wv.refl _)
def Q72 (z0 : Bool) (z1 : Bool) (z2 : Bool) : List Ans := (.n :: .n :: .v VV.any :: .call (vb z0) :: nN 4 (.call (vb z1) :: .b true :: .n :: .n :: .call (vb z2) :: .n :: .b true :: .n :: []))
def Q44 (z0 : Bool) (z1 : Bool) : List Ans := (.n :: .n :: .v VV.any :: .call (vb z0) :: nN 4 (.call (vb z1) :: .b true :: .n :: nS 3 (.b false :: .n :: [])))
def Q45 (z0 : Bool) : List Ans := (.n :: .n :: .v VV.any :: .call (vb z0) :: .n :: nS 4 (.b false :: .n :: nS 3 (.b false :: .n :: [])))
def Qgb (k : Nat) (a0 : ByteArray) : Option Bool :=
 (Zv k 1 12 ([(a0.size : Int)] : List Int)).bind fun r12172 => (if r12172 = true then (if (0 : Int) <= 0 /\ 0 < (a0.size : Int) then ((Qd7 k (IntKind.i32.wrap (bat a0 0))).bind fun r12177 => (if r12177 = true then ((Jf k a0 ()).bind fun r12181 => (some (!r12181))) else (some false))) else none) else (some false))
theorem Qoc (k : Nat) (a0 : ByteArray) (r : Bool) (h : Qgb k a0 = some r) : VC Try.prog 86 [vs a0] (vb r) := by
 unfold Qgb at h
 obtain ⟨r12172, h12173, h⟩ := bs h
 have e12174 := (VC.args (Xk k 1 12 ([(a0.size : Int)] : List Int) _ h12173) (Q7x a0))
 rcases ifs h with ⟨h12175, h⟩ | ⟨h12175, h⟩
 ·obtain ⟨h12176, h⟩ := ifn h
  obtain ⟨r12177, h12178, h⟩ := bs h
  have e12179 := (an h12175 (Qdp k (IntKind.i32.wrap (bat a0 0)) _ h12178))
  rcases ifs h with ⟨h12180, h⟩ | ⟨h12180, h⟩
  ·obtain ⟨r12181, h12182, h⟩ := bs h
   have e12183 := (an h12180 (Qew k a0 () _ h12182))
   have e12184 := (t3 (an e12174 (ti (an (an h12175 tt) (an (an h12175 h12176) (an (an h12175 tt) (an e12179 (an h12175 (ti (an (an h12180 tt) (an e12183 (an (an h12180 tt) (an h12180 (ti tt))))))))))))))
   obtain rfl := si h
   exact Qi pm pn Try.func86 (r0 := vb (!r12181)) (ans := [.reg (.n :: []), .reg (Q72 r12172 r12177 r12181)]) (fr := true) (by kernel_rfl) (an (an (ti tt) (an e12184 tt)) (ti tt)) (Wv.refl _)
  ·have e12185 := (t3 (an e12174 (ti (an (an h12175 tt) (an (an h12175 h12176) (an (an h12175 tt) (an e12179 (an h12175 (ti (w4 (Qn h12180) (ti tt)))))))))))
   obtain rfl := si h
   exact Qi pm pn Try.func86 (r0 := vb false) (ans := [.reg (.n :: []), .reg (Q44 r12172 r12177)]) (fr := true) (by kernel_rfl) (an (an (ti tt) (an e12185 tt)) (ti tt)) (Wv.refl _)
 ·have e12186 := (t3 (an e12174 (ti (w5 (Qn h12175) (ti (an rf (an rf (an rf (an rf (ti tt))))))))))
  obtain rfl := si h
  exact Qi pm pn Try.func86 (r0 := vb false) (ans := [.reg (.n :: []), .reg (Q45 r12172)]) (fr := true) (by kernel_rfl) (an (an (ti tt) (an e12186 tt)) (ti tt)) (Wv.refl _)
theorem Q73 (z0 : Qa) : [vi 0, vi 1295999, VV.tr (List.map vi ([z0.Azimuth] : List Int)) (([z0.Azimuth] : List Int).length)] = [vi 0, vi 1295999, VV.tr [vi z0.Azimuth] 1] := by first | rfl | (simp only [Qj, map_cons, map_nil, un_i, Jg, length_map, length_cons, length_nil]; done) | (simp only [Qj, map_cons, map_nil, un_i, Jg, length_map, length_cons, length_nil]; rfl) | (simp only [Qj, map_cons, map_nil, un_i, Jg, length_map, length_cons, length_nil, length_cons, length_nil, length_append]; done)
theorem Q74 (z0 : Qa) : [vi 0, vi 324000, VV.tr (List.map vi ([z0.Height] : List Int)) (([z0.Height] : List Int).length)] = [vi 0, vi 324000, VV.tr [vi z0.Height] 1] := by first | rfl | (simp only [Qj, map_cons, map_nil, un_i, Jg, length_map, length_cons, length_nil]; done) | (simp only [Qj, map_cons, map_nil, un_i, Jg, length_map, length_cons, length_nil]; rfl) | (simp only [Qj, map_cons, map_nil, un_i, Jg, length_map, length_cons, length_nil, length_cons, length_nil, length_append]; done)
theorem Q75 (z0 : Qa) : [vi 0, vi 10000000, VV.tr (List.map vi ([z0.From, z0.To] : List Int)) (([z0.From, z0.To] : List Int).length)] = [vi 0, vi 10000000, VV.tr [vi z0.From, vi z0.To] 2] := by first | rfl | (simp only [Qj, map_cons, map_nil, un_i, Jg, length_map, length_cons, length_nil]; done) | (simp only [Qj, map_cons, map_nil, un_i, Jg, length_map, length_cons, length_nil]; rfl) | (simp only [Qj, map_cons, map_nil, un_i, Jg, length_map, length_cons, length_nil, length_cons, length_nil, length_append]; done)
theorem Q76 (z0 : Qa) : [vi 1, vi 10000, VV.tr (List.map vi ([z0.Dwell] : List Int)) (([z0.Dwell] : List Int).length)] = [vi 1, vi 10000, VV.tr [vi z0.Dwell] 1] := by first | rfl | (simp only [Qj, map_cons, map_nil, un_i, Jg, length_map, length_cons, length_nil]; done) | (simp only [Qj, map_cons, map_nil, un_i, Jg, length_map, length_cons, length_nil]; rfl) | (simp only [Qj, map_cons, map_nil, un_i, Jg, length_map, length_cons, length_nil, length_cons, length_nil, length_append]; done)
def Qpr (z0 : Bool) (z1 : Bool) : List Ans := (.n :: .n :: .v VV.any :: .call (vb z0) :: nN 4 (.v VV.any :: .call (vb z1) :: .n :: .b false :: .n :: []))
def Quo (z0 : Bool) (z1 : Bool) : List Ans := (nN 4 (.v VV.any :: .call (vb z0) :: nN 4 (.v VV.any :: .call (vb z1) :: .n :: .b false :: .n :: [])))
def Qdi (k : Nat) (a0 : Qa) : Option Int :=
 (Qgb k a0.Name).bind fun r12212 => (if r12212 = true then ((Zv k 0 1295999 ([a0.Azimuth] : List Int)).bind fun r12216 => (if r12216 = true then ((Zv k 0 324000 ([a0.Height] : List Int)).bind fun r12220 => (if r12220 = true then ((Zv k 0 10000000 ([a0.From, a0.To] : List Int)).bind fun r12225 => (if r12225 = true then ((Zv k 1 10000 ([a0.Dwell] : List Int)).bind fun r12229 => (if r12229 = true then (if a0.To <= a0.From then (some 9) else (some 0)) else (some 2))) else (some 2))) else (some 2))) else (some 2))) else (some 4))
theorem Qlg (k : Nat) (a0 : Qa) (r : Int) (h : Qdi k a0 = some r) : VC Try.prog 72 [VV.ag (Qb a0)] (vi r) := by
 unfold Qdi at h
 obtain ⟨r12212, h12213, h⟩ := bs h
 have e12214 := (t2 (an (Qoc k a0.Name _ h12213) (t2 tt)))
 rcases ifs h with ⟨h12215, h⟩ | ⟨h12215, h⟩
 ·obtain ⟨r12216, h12217, h⟩ := bs h
  have e12218 := (VC.args (Xk k 0 1295999 ([a0.Azimuth] : List Int) _ h12217) (Q73 a0))
  rcases ifs h with ⟨h12219, h⟩ | ⟨h12219, h⟩
  ·obtain ⟨r12220, h12221, h⟩ := bs h
   have e12222 := (an (Qh h12219) (VC.args (Xk k 0 324000 ([a0.Height] : List Int) _ h12221) (Q74 a0)))
   have e12223 := (t3 (an e12218 (t2 (w3 (an (Qh h12219) tt) (an e12222 (an (an (Qh h12219) tt) (an (Qh h12219) (ti tt))))))))
   rcases ifs h with ⟨h12224, h⟩ | ⟨h12224, h⟩
   ·obtain ⟨r12225, h12226, h⟩ := bs h
    have e12227 := (VC.args (Xk k 0 10000000 ([a0.From, a0.To] : List Int) _ h12226) (Q75 a0))
    rcases ifs h with ⟨h12228, h⟩ | ⟨h12228, h⟩
    ·obtain ⟨r12229, h12230, h⟩ := bs h
     have e12231 := (an (Qh h12228) (VC.args (Xk k 1 10000 ([a0.Dwell] : List Int) _ h12230) (Q76 a0)))
     have e12232 := (t5 (an e12227 (t2 (w3 (an (Qh h12228) tt) (an e12231 (an (an (Qh h12228) tt) (an (Qh h12228) (ti tt))))))))
     rcases ifs h with ⟨h12233, h⟩ | ⟨h12233, h⟩
     ·rcases ifs h with ⟨h12234, h⟩ | ⟨h12234, h⟩
      ·obtain rfl := si h
       exact Qi pm pn Try.func72 (r0 := vi 9) (ans := [.reg (.n :: .n :: []), .reg (.n :: .n :: .call (vb r12212) :: .n :: .n :: []), .br false, .reg (Qpr r12216 r12220), .br false, .reg (Quo r12225 r12229), .br false, .reg (nN 6 []), .br true, .reg (.n :: [])]) (fr := true) (by kernel_rfl) (an (an (t2 tt) (an e12214 (an (Qh h12215) (an e12223 (an (Qh h12224) (an e12232 (an (Qh h12233) (an (t6 tt) (an (dt h12234) (an (ti tt) tt)))))))))) (ti tt)) (Wv.refl _)
      ·obtain rfl := si h
       exact Qi pm pn Try.func72 (r0 := vi 0) (ans := [.reg (.n :: .n :: []), .reg (.n :: .n :: .call (vb r12212) :: .n :: .n :: []), .br false, .reg (Qpr r12216 r12220), .br false, .reg (Quo r12225 r12229), .br false, .reg (nN 6 []), .br false, .reg (.n :: [])]) (fr := true) (by kernel_rfl) (an (an (t2 tt) (an (an e12214 (an (Qh h12215) (an e12223 (an (Qh h12224) (an e12232 (an (Qh h12233) (an (t6 tt) (tf h12234)))))))) (an (ti tt) tt))) (ti tt)) (Wv.refl _)
     ·obtain rfl := si h
      exact Qi pm pn Try.func72 (r0 := vi 2) (ans := [.reg (.n :: .n :: []), .reg (.n :: .n :: .call (vb r12212) :: .n :: .n :: []), .br false, .reg (Qpr r12216 r12220), .br false, .reg (Quo r12225 r12229), .br true, .reg (.n :: [])]) (fr := true) (by kernel_rfl) (an (an (t2 tt) (an e12214 (an (Qh h12215) (an e12223 (an (Qh h12224) (an e12232 (an (Qr (Qn h12233)) (an (ti tt) tt)))))))) (ti tt)) (Wv.refl _)
    ·have e12235 := (t5 (an e12227 (t2 (w6 (Qr (Qn h12228)) (ti tt)))))
     obtain rfl := si h
     exact Qi pm pn Try.func72 (r0 := vi 2) (ans := [.reg (.n :: .n :: []), .reg (.n :: .n :: .call (vb r12212) :: .n :: .n :: []), .br false, .reg (Qpr r12216 r12220), .br false, .reg (nN 4 (.v VV.any :: .call (vb r12225) :: .n :: .n :: nS 5 (.b true :: .n :: []))), .br true, .reg (.n :: [])]) (fr := true) (by kernel_rfl) (an (an (t2 tt) (an e12214 (an (Qh h12215) (an e12223 (an (Qh h12224) (an e12235 (an rt (an (ti tt) tt)))))))) (ti tt)) (Wv.refl _)
   ·obtain rfl := si h
    exact Qi pm pn Try.func72 (r0 := vi 2) (ans := [.reg (.n :: .n :: []), .reg (.n :: .n :: .call (vb r12212) :: .n :: .n :: []), .br false, .reg (Qpr r12216 r12220), .br true, .reg (.n :: [])]) (fr := true) (by kernel_rfl) (an (an (t2 tt) (an e12214 (an (Qh h12215) (an e12223 (an (Qr (Qn h12224)) (an (ti tt) tt)))))) (ti tt)) (Wv.refl _)
  ·have e12236 := (t3 (an e12218 (t2 (w6 (Qr (Qn h12219)) (ti tt)))))
   obtain rfl := si h
   exact Qi pm pn Try.func72 (r0 := vi 2) (ans := [.reg (.n :: .n :: []), .reg (.n :: .n :: .call (vb r12212) :: .n :: .n :: []), .br false, .reg (.n :: .n :: .v VV.any :: .call (vb r12216) :: .n :: .n :: nS 5 (.b true :: .n :: [])), .br true, .reg (.n :: [])]) (fr := true) (by kernel_rfl) (an (an (t2 tt) (an e12214 (an (Qh h12215) (an e12236 (an rt (an (ti tt) tt)))))) (ti tt)) (Wv.refl _)
 ·obtain rfl := si h
  exact Qi pm pn Try.func72 (r0 := vi 4) (ans := [.reg (.n :: .n :: []), .reg (.n :: .n :: .call (vb r12212) :: .n :: .n :: []), .br true, .reg (.n :: [])]) (fr := true) (by kernel_rfl) (an (an (t2 tt) (an e12214 (an (Qr (Qn h12215)) (an (ti tt) tt)))) (ti tt)) (Wv.refl _)
theorem Q77 (z0 : Qa) (z1 : Int) (z2 : Int) (z3 : Int) : VV.ag [vi (w64 ((w64 (z0.Azimuth + z1)) - (w64 (z2 * 1296000)))), vi (w64 (z0.Height + z3))] = VV.ag (Qch (⟨w64 ((w64 (z0.Azimuth + z1)) - (w64 (z2 * 1296000))), w64 (z0.Height + z3)⟩ : A26)) := by first | rfl | (simp only [Qj, map_cons, map_nil, un_i, Yd]; done) | (simp only [Qj, map_cons, map_nil, un_i, Yd]; rfl) | (simp only [Qj, map_cons, map_nil, un_i, Yd, length_cons, length_nil, length_append]; done)
def Qfc (k : Nat) (a0 : Qc) (a1 : Qa) (a2 : Int) : Option A26 :=
 (Qdx k a0.Drift a2).bind fun r12248 => ((Qes k (w64 (a1.Azimuth + r12248)) 1296000).bind fun r12252 => ((Qdx k a0.Refraction a1.Height).bind fun r12255 => (some (⟨w64 ((w64 (a1.Azimuth + r12248)) - (w64 (r12252 * 1296000))), w64 (a1.Height + r12255)⟩ : A26))))
theorem Qnh (k : Nat) (a0 : Qc) (a1 : Qa) (a2 : Int) (r : A26) (h : Qfc k a0 a1 a2 = some r) : VC Try.prog 44 [VV.ag (Qp a0), VV.ag (Qb a1), vi a2] (VV.ag (Qch r)) := by
 unfold Qfc at h
 obtain ⟨r12248, h12249, h⟩ := bs h
 have e12250 := (Qg4 k a0.Drift a2 _ h12249)
 have e12251 := (t5 (an e12250 (t2 tt)))
 obtain ⟨r12252, h12253, h⟩ := bs h
 have e12254 := (Qi6 k (w64 (a1.Azimuth + r12248)) 1296000 _ h12253)
 obtain ⟨r12255, h12256, h⟩ := bs h
 have e12257 := (Qg4 k a0.Refraction a1.Height _ h12256)
 have e12258 := (t7 (an e12257 (t3 tt)))
 obtain rfl := si h
 exact Qi pm pn Try.func44 (r0 := VV.ag [vi (w64 ((w64 (a1.Azimuth + r12248)) - (w64 (r12252 * 1296000)))), vi (w64 (a1.Height + r12255))]) (ans := [.reg (nN 3 []), .reg (nN 5 (.call (vi r12248) :: .n :: .n :: [])), .reg (.n :: .n :: .call (vi r12252) :: nN 3 []), .reg (nN 7 (.call (vi r12255) :: nN 3 []))]) (fr := true) (by kernel_rfl) (an (an (t3 tt) (an e12251 (an (t2 (an e12254 (t3 tt))) (an e12258 tt)))) (an (t3 tt) tt)) (Wv.of_eq (Q77 a1 r12248 r12252 r12255))
theorem Q46 (z0 : Qc) (z1 : A26) : [vi z0.Low, vi z0.High, VV.tr (List.map vi ([z1.e1] : List Int)) (([z1.e1] : List Int).length)] = [vi z0.Low, vi z0.High, VV.tr [vi z1.e1] 1] := by first | rfl | (simp only [Qj, map_cons, map_nil, un_i, Jg, length_map, length_cons, length_nil]; done) | (simp only [Qj, map_cons, map_nil, un_i, Jg, length_map, length_cons, length_nil]; rfl) | (simp only [Qj, map_cons, map_nil, un_i, Jg, length_map, length_cons, length_nil, length_cons, length_nil, length_append]; done)
def Qml (k : Nat) (a0 : Int) (a1 : Int) : Option Int :=
 (Qes k (w64 (0 - a0)) a1).bind fun r12273 => (some (w64 (0 - r12273)))
theorem Qtk (k : Nat) (a0 : Int) (a1 : Int) (r : Int) (h : Qml k a0 a1 = some r) : VC Try.prog 78 [vi a0, vi a1] (vi r) := by
 unfold Qml at h
 obtain ⟨r12273, h12274, h⟩ := bs h
 have e12275 := (Qi6 k (w64 (0 - a0)) a1 _ h12274)
 obtain rfl := si h
 exact Qi pm pn Try.func78 (r0 := vi (w64 (0 - r12273))) (ans := [.reg (.n :: []), .reg (nN 3 (.call (vi r12273) :: .n :: .n :: []))]) (fr := true) (by kernel_rfl) (an (an (ti tt) (an (t3 (an e12275 (t2 tt))) tt)) (ti tt)) (Wv.refl _)
def Qfs (a0 : Qc) (a1 : Qa) (r12307 : A26) (y5 : List Int) (y6 : List Int) (x12 : Int) : VS := ⟨mkA [(3, VV.pt 0 0), (6, VV.pt 2 0), (9, vi r12307.e0), (11, VV.pt 4 0), (12, vi x12)], [some ⟨true, 1, Qp a0⟩, some ⟨true, 1, Qb a1⟩, some ⟨true, 1, [vs ByteArray.empty, vi 0, vi 0, vi 0, vi 0, vi 0, VV.c (.slice none 0 0), VV.c (.slice none 0 0)]⟩, some ⟨true, 1, Qch r12307⟩, some ⟨true, 1, [vs a1.Name, vi a1.Azimuth, vi a1.Height, vi a1.From, vi a1.To, vi a1.Dwell, VV.rf 5 0 y5.length, VV.rf 6 0 y6.length]⟩, some ⟨false, 1, List.map vi y5⟩, some ⟨false, 1, List.map vi y6⟩], .nil⟩
def Qdq (a0 : Qc) (a1 : Qa) (r12307 : A26) (r : (List Int) × (List Int)) : VS := ⟨mkA [(6, VV.pt 2 0), (11, VV.pt 4 0)], [some ⟨true, 1, Qp a0⟩, some ⟨true, 1, Qb a1⟩, some ⟨true, 1, [vs ByteArray.empty, vi 0, vi 0, vi 0, vi 0, vi 0, VV.c (.slice none 0 0), VV.c (.slice none 0 0)]⟩, some ⟨true, 1, Qch r12307⟩, some ⟨true, 1, [vs a1.Name, vi a1.Azimuth, vi a1.Height, vi a1.From, vi a1.To, vi a1.Dwell, VV.rf 5 0 r.1.length, VV.rf 6 0 r.2.length]⟩, some ⟨false, 1, List.map vi r.1⟩, some ⟨false, 1, List.map vi r.2⟩], .nil⟩
def Wn (k : Nat) (a0 : Qc) (a1 : Qa) (r12307 : A26) : Nat -> (List Int) -> (List Int) -> Int -> Option ((List Int) × (List Int))
 | 0, _, _, _ => none
 | fuel + 1, y5, y6, x12 => if (w64 (r12307.e0 + (w64 (x12 * 1296000)))) <= a0.Most then (if y5.length + ([x12] : List Int).length <= 1000000000 then (if y6.length + ([w64 (r12307.e0 + (w64 (x12 * 1296000)))] : List Int).length <= 1000000000 then (Wn k a0 a1 r12307 fuel (y5 ++ ([x12] : List Int)) (y6 ++ ([w64 (r12307.e0 + (w64 (x12 * 1296000)))] : List Int)) (w64 (x12 + 1))) else none) else none) else (some (y5, y6))
theorem Qlj (k : Nat) (a0 : Qc) (a1 : Qa) (r12307 : A26) : ∀ (fuel : Nat) (y5 : List Int) (y6 : List Int) (x12 : Int) (r : (List Int) × (List Int)), Wn k a0 a1 r12307 fuel y5 y6 x12 = some r -> (Jb none Try.prog (szF Try.f60) (Zy Try.f60 0) (Qfs a0 a1 r12307 y5 y6 x12) (.exit 0) (Qdq a0 a1 r12307 r)) := by
 intro fuel
 induction fuel with
 | zero => intro y5 y6 x12 r h; rw [Wn.eq_1] at h; cases h
 | succ fuel ih =>
  intro y5 y6 x12 r h
  rw [Wn.eq_2] at h
  rcases ifs h with ⟨h12339, h⟩ | ⟨h12339, h⟩
  ·obtain ⟨h12340, h⟩ := ifn h
   have e12341 := (show List.length (List.map vi y5) = y5.length * 1 /\ List.length [vi x12] = 1 * 1 /\ (y5.length + 1) * 8 <= 140737488355328 /\ y5.length + 1 < 1099511627776 /\ List.all [vi x12] VV.still = true from ⟨(by simp), (by rw [show [vi x12] = List.map vi ([x12] : List Int) from rfl]; simp), (by first | omega | (simp at h12340 ⊢; omega)), (by first | omega | (simp at h12340 ⊢; omega)), (by rw [show [vi x12] = List.map vi ([x12] : List Int) from rfl]; exact Qit _)⟩)
   obtain ⟨h12342, h⟩ := ifn h
   have e12343 := (show List.length (List.map vi y6) = y6.length * 1 /\ List.length [vi (w64 (r12307.e0 + (w64 (x12 * 1296000))))] = 1 * 1 /\ (y6.length + 1) * 8 <= 140737488355328 /\ y6.length + 1 < 1099511627776 /\ List.all [vi (w64 (r12307.e0 + (w64 (x12 * 1296000))))] VV.still = true from ⟨(by simp), (by rw [show [vi (w64 (r12307.e0 + (w64 (x12 * 1296000))))] = List.map vi ([w64 (r12307.e0 + (w64 (x12 * 1296000)))] : List Int) from rfl]; simp), (by first | omega | (simp at h12342 ⊢; omega)), (by first | omega | (simp at h12342 ⊢; omega)), (by rw [show [vi (w64 (r12307.e0 + (w64 (x12 * 1296000))))] = List.map vi ([w64 (r12307.e0 + (w64 (x12 * 1296000)))] : List Int) from rfl]; exact Qit _)⟩)
   have e12344 := (t7 (an e12343 (t2 tt)))
   have h2 := ih _ _ _ _ h
   obtain ⟨q, hv, hq⟩ := pK none Try.prog Try.f60 0 (Qfs a0 a1 r12307 y5 y6 x12) [.reg (nN 7 []), .br true, .reg (nN 7 []), .reg (nN 10 []), .reg (nN 3 [])] ⟨(tn [3, 6, 9, 11, 12]), [none, none, none, none, some [vs a1.Name, vi a1.Azimuth, vi a1.Height, vi a1.From, vi a1.To, vi a1.Dwell, VV.rf 5 0 ((y5 ++ ([x12] : List Int)).length), VV.rf 6 0 ((y6 ++ ([w64 (r12307.e0 + (w64 (x12 * 1296000)))] : List Int)).length)], some (List.map vi (y5 ++ ([x12] : List Int))), some (List.map vi (y6 ++ ([w64 (r12307.e0 + (w64 (x12 * 1296000)))] : List Int)))], []⟩ .normal (Qfs a0 a1 r12307 (y5 ++ ([x12] : List Int)) (y6 ++ ([w64 (r12307.e0 + (w64 (x12 * 1296000)))] : List Int)) (w64 (x12 + 1))) (an (an (an (t7 tt) (te h12339)) (an (an (t4 (an e12341 (t2 tt))) e12344) (t3 tt))) (ti (an (show [vs a1.Name, vi a1.Azimuth, vi a1.Height, vi a1.From, vi a1.To, vi a1.Dwell, VV.rf 5 0 (y5.length + 1), VV.rf 6 0 (y6.length + 1)] = [vs a1.Name, vi a1.Azimuth, vi a1.Height, vi a1.From, vi a1.To, vi a1.Dwell, VV.rf 5 0 ((y5 ++ ([x12] : List Int)).length), VV.rf 6 0 ((y6 ++ ([w64 (r12307.e0 + (w64 (x12 * 1296000)))] : List Int)).length)] from (by first | rfl | simp)) (an (show (List.map vi y5) ++ [vi x12] = List.map vi (y5 ++ ([x12] : List Int)) from (by rw [show [vi x12] = List.map vi ([x12] : List Int) from rfl]; exact List.map_append.symm)) (an (show (List.map vi y6) ++ [vi (w64 (r12307.e0 + (w64 (x12 * 1296000))))] = List.map vi (y6 ++ ([w64 (r12307.e0 + (w64 (x12 * 1296000)))] : List Int)) from (by rw [show [vi (w64 (r12307.e0 + (w64 (x12 * 1296000))))] = List.map vi ([w64 (r12307.e0 + (w64 (x12 * 1296000)))] : List Int) from rfl]; exact List.map_append.symm)) tt))))) (by kernel_rfl)
   exact Qd pm pn hv hq h2
  ·obtain rfl := si h
   exact Qk (c := ⟨(tn [6, 11]), [none, none, none, none, none, none, none], []⟩) (s1 := (Qdq a0 a1 r12307 (y5, y6))) pm pn (ans := [.reg (nN 7 []), .br false]) (by kernel_rfl) nofun (an (an (t7 tt) (tf h12339)) (ti tt))
theorem Q01  : vi 0 = vi (((⟨(⟨ByteArray.empty, 0, 0, 0, 0, 0⟩ : Qa), [], []⟩ : Jj).SkyTarget).Dwell) := by first | rfl | (simp only [Qj, map_cons, map_nil, un_i]; done) | (simp only [Qj, map_cons, map_nil, un_i]; rfl) | (simp only [Qj, map_cons, map_nil, un_i, length_cons, length_nil, length_append]; done)
theorem Q02  : vi 0 = vi (((⟨(⟨ByteArray.empty, 0, 0, 0, 0, 0⟩ : Qa), [], []⟩ : Jj).SkyTarget).To) := by first | rfl | (simp only [Qj, map_cons, map_nil, un_i]; done) | (simp only [Qj, map_cons, map_nil, un_i]; rfl) | (simp only [Qj, map_cons, map_nil, un_i, length_cons, length_nil, length_append]; done)
theorem Q03  : vi 0 = vi (((⟨(⟨ByteArray.empty, 0, 0, 0, 0, 0⟩ : Qa), [], []⟩ : Jj).SkyTarget).From) := by first | rfl | (simp only [Qj, map_cons, map_nil, un_i]; done) | (simp only [Qj, map_cons, map_nil, un_i]; rfl) | (simp only [Qj, map_cons, map_nil, un_i, length_cons, length_nil, length_append]; done)
theorem Q04  : vi 0 = vi (((⟨(⟨ByteArray.empty, 0, 0, 0, 0, 0⟩ : Qa), [], []⟩ : Jj).SkyTarget).Height) := by first | rfl | (simp only [Qj, map_cons, map_nil, un_i]; done) | (simp only [Qj, map_cons, map_nil, un_i]; rfl) | (simp only [Qj, map_cons, map_nil, un_i, length_cons, length_nil, length_append]; done)
theorem Q05  : vi 0 = vi (((⟨(⟨ByteArray.empty, 0, 0, 0, 0, 0⟩ : Qa), [], []⟩ : Jj).SkyTarget).Azimuth) := by first | rfl | (simp only [Qj, map_cons, map_nil, un_i]; done) | (simp only [Qj, map_cons, map_nil, un_i]; rfl) | (simp only [Qj, map_cons, map_nil, un_i, length_cons, length_nil, length_append]; done)
theorem Q06  : vs ByteArray.empty = vs (((⟨(⟨ByteArray.empty, 0, 0, 0, 0, 0⟩ : Qa), [], []⟩ : Jj).SkyTarget).Name) := by first | rfl | (simp only [Qcb, map_cons, map_nil, un_s]; done) | (simp only [Qcb, map_cons, map_nil, un_s]; rfl) | (simp only [Qcb, map_cons, map_nil, un_s, length_cons, length_nil, length_append]; done)
theorem Q47 (z0 : Qa) (z1 : (List Int) × (List Int)) : VV.tu [VV.ag [vs z0.Name, vi z0.Azimuth, vi z0.Height, vi z0.From, vi z0.To, vi z0.Dwell, VV.fw 1 (List.drop 0 (List.map unfr (List.map vi z1.1))) z1.1.length, VV.fw 1 (List.drop 0 (List.map unfr (List.map vi z1.2))) z1.2.length], vi 0] = VV.tu [VV.ag [vs (((⟨z0, z1.1, z1.2⟩ : Jj).SkyTarget).Name), vi (((⟨z0, z1.1, z1.2⟩ : Jj).SkyTarget).Azimuth), vi (((⟨z0, z1.1, z1.2⟩ : Jj).SkyTarget).Height), vi (((⟨z0, z1.1, z1.2⟩ : Jj).SkyTarget).From), vi (((⟨z0, z1.1, z1.2⟩ : Jj).SkyTarget).To), vi (((⟨z0, z1.1, z1.2⟩ : Jj).SkyTarget).Dwell), VV.fw 1 (List.map vi ((⟨z0, z1.1, z1.2⟩ : Jj).turns)) (((⟨z0, z1.1, z1.2⟩ : Jj).turns).length), VV.fw 1 (List.map vi ((⟨z0, z1.1, z1.2⟩ : Jj).positions)) (((⟨z0, z1.1, z1.2⟩ : Jj).positions).length)], vi 0] := by first | rfl | (simp only [Qdb, Qj, Qcb, map_cons, map_nil, un_i, un_s, length_map, length_cons, length_nil]; done) | (simp only [Qdb, Qj, Qcb, map_cons, map_nil, un_i, un_s, length_map, length_cons, length_nil]; rfl) | (simp only [Qdb, Qj, Qcb, map_cons, map_nil, un_i, un_s, length_map, length_cons, length_nil, length_cons, length_nil, length_append]; done)
def Qgc (k : Nat) (a0 : Qc) (a1 : Qa) (a2 : Int) : Option (Jj × Int) :=
 (Qfc k a0 a1 a2).bind fun r12307 => ((Zv k a0.Low a0.High ([r12307.e1] : List Int)).bind fun r12313 => (if r12313 = true then ((Qml k (w64 (a0.Least - r12307.e0)) 1296000).bind fun r12318 => ((Wn k a0 a1 r12307 k ([] : List Int) ([] : List Int) r12318).bind fun r12346 => (if ((r12346.1.length : Nat) : Int) = 0 then (some ((⟨(⟨ByteArray.empty, 0, 0, 0, 0, 0⟩ : Qa), [], []⟩ : Jj), 12)) else (some ((⟨a1, r12346.1, r12346.2⟩ : Jj), 0))))) else (some ((⟨(⟨ByteArray.empty, 0, 0, 0, 0, 0⟩ : Qa), [], []⟩ : Jj), 26))))
theorem Qob (k : Nat) (a0 : Qc) (a1 : Qa) (a2 : Int) (r : (Jj × Int)) (h : Qgc k a0 a1 a2 = some r) : VC Try.prog 60 [VV.ag (Qp a0), VV.ag (Qb a1), vi a2] (VV.tu [VV.ag [vs r.1.SkyTarget.Name, vi r.1.SkyTarget.Azimuth, vi r.1.SkyTarget.Height, vi r.1.SkyTarget.From, vi r.1.SkyTarget.To, vi r.1.SkyTarget.Dwell, VV.fw 1 (List.map vi r.1.turns) r.1.turns.length, VV.fw 1 (List.map vi r.1.positions) r.1.positions.length], vi r.2]) := by
 unfold Qgc at h
 obtain ⟨r12307, h12308, h⟩ := bs h
 have e12309 := (Qnh k a0 a1 a2 _ h12308)
 have e12310 := (show (0:Int) <= 0 /\ (0:Int) < ((2 : Nat) : Int) from ⟨by decide, by decide⟩)
 have e12311 := (show (0:Int) <= 1 /\ (1:Int) < ((2 : Nat) : Int) from ⟨by decide, by decide⟩)
 have e12312 := (an e12310 (ti (an e12311 (t3 tt))))
 obtain ⟨r12313, h12314, h⟩ := bs h
 have e12315 := (VC.args (Xk k a0.Low a0.High ([r12307.e1] : List Int) _ h12314) (Q46 a0 r12307))
 have e12316 := (t6 (an e12315 (ti tt)))
 rcases ifs h with ⟨h12317, h⟩ | ⟨h12317, h⟩
 ·obtain ⟨r12318, h12319, h⟩ := bs h
  have e12320 := (Qtk k (w64 (a0.Least - r12307.e0)) 1296000 _ h12319)
  obtain ⟨r12346, h12345, h⟩ := bs h
  have hph12345 := Qlj k a0 a1 r12307 _ _ _ _ _ h12345
  have e12347 := (an (ti tt) (VRun.loop hph12345))
  rcases ifs h with ⟨h12348, h⟩ | ⟨h12348, h⟩
  ·obtain rfl := si h
   exact Qi pm pn Try.func60 (r0 := VV.tu [VV.ag [vs ByteArray.empty, vi 0, vi 0, vi 0, vi 0, vi 0, VV.c (.slice none 0 0), VV.c (.slice none 0 0)], vi 12]) (ans := [.reg (nN 4 []), .reg (nN 3 (.call (VV.ag (Qch r12307)) :: .n :: .n :: [])), .reg (nN 6 []), .reg (nN 5 (.v VV.any :: .call (vb r12313) :: .n :: [])), .br false, .reg (nN 4 []), .reg (nN 4 (.call (vi r12318) :: .n :: [])), .sub ⟨(tn [3, 6, 9, 11, 12]), [none, none, none, none, none], [.b 4 6 1, .b 4 7 1]⟩ (.exit 0) (Qdq a0 a1 r12307 r12346), .reg (nN 4 []), .br true, .reg (nN 3 [])]) (fr := true) (by kernel_rfl) (an (an (t4 tt) (an (t3 (an e12309 (t2 tt))) (an e12312 (an (an e12316 (an (Qh h12317) tt)) (an (t4 tt) (an (an (t4 (an e12320 (ti tt))) e12347) (an (t4 tt) (an (dt h12348) (an (t3 tt) tt))))))))) (an (t9 tt) (ti tt))) (Wv.tuL (.cons (Wv.agL (.cons (Wv.of_eq Q06) (.cons (Wv.of_eq Q05) (.cons (Wv.of_eq Q04) (.cons (Wv.of_eq Q03) (.cons (Wv.of_eq Q02) (.cons (Wv.of_eq Q01) (.cons Wv.Qmv (.cons Wv.Qmv .nil))))))))) (.cons (Wv.refl _) .nil)))
  ·obtain rfl := si h
   exact Qi pm pn Try.func60 (r0 := VV.tu [VV.ag [vs a1.Name, vi a1.Azimuth, vi a1.Height, vi a1.From, vi a1.To, vi a1.Dwell, VV.fw 1 (List.drop 0 (List.map unfr (List.map vi r12346.1))) r12346.1.length, VV.fw 1 (List.drop 0 (List.map unfr (List.map vi r12346.2))) r12346.2.length], vi 0]) (ans := [.reg (nN 4 []), .reg (nN 3 (.call (VV.ag (Qch r12307)) :: .n :: .n :: [])), .reg (nN 6 []), .reg (nN 5 (.v VV.any :: .call (vb r12313) :: .n :: [])), .br false, .reg (nN 4 []), .reg (nN 4 (.call (vi r12318) :: .n :: [])), .sub ⟨(tn [3, 6, 9, 11, 12]), [none, none, none, none, none], [.b 4 6 1, .b 4 7 1]⟩ (.exit 0) (Qdq a0 a1 r12307 r12346), .reg (nN 4 []), .br false, .reg (nN 3 [])]) (fr := true) (by kernel_rfl) (an (an (t4 tt) (an (t3 (an e12309 (t2 tt))) (an e12312 (an (an e12316 (an (Qh h12317) tt)) (an (t4 tt) (an (an (t4 (an e12320 (ti tt))) e12347) (an (an (t4 tt) (tf h12348)) (an (t3 tt) tt)))))))) (an (t7 (an (show List.all (List.map vi r12346.1) new0 = true from (by exact Qj1 _)) (an (show List.all (List.map vi r12346.2) new0 = true from (by exact Qj1 _)) tt))) (ti tt))) (Wv.of_eq (Q47 a1 r12346))
 ·obtain rfl := si h
  exact Qi pm pn Try.func60 (r0 := VV.tu [VV.ag [vs ByteArray.empty, vi 0, vi 0, vi 0, vi 0, vi 0, VV.c (.slice none 0 0), VV.c (.slice none 0 0)], vi 26]) (ans := [.reg (nN 4 []), .reg (nN 3 (.call (VV.ag (Qch r12307)) :: .n :: .n :: [])), .reg (nN 6 []), .reg (nN 5 (.v VV.any :: .call (vb r12313) :: .n :: [])), .br true, .reg (nN 3 [])]) (fr := true) (by kernel_rfl) (an (an (t4 tt) (an (t3 (an e12309 (t2 tt))) (an e12312 (an e12316 (an (Qr (Qn h12317)) (an (t3 tt) tt)))))) (an (t9 tt) (ti tt))) (Wv.tuL (.cons (Wv.agL (.cons (Wv.of_eq Q06) (.cons (Wv.of_eq Q05) (.cons (Wv.of_eq Q04) (.cons (Wv.of_eq Q03) (.cons (Wv.of_eq Q02) (.cons (Wv.of_eq Q01) (.cons Wv.Qmv (.cons Wv.Qmv .nil))))))))) (.cons (Wv.refl _) .nil)))
def J6 (k : Nat) (a0 : Int) : Option Bool :=
 (Q7 k a0 0 324000).bind fun r12360 => (some r12360)
theorem Qdf (k : Nat) (a0 : Int) (r : Bool) (h : J6 k a0 = some r) : VC Try.prog 65 [vi a0] (vb r) := by
 unfold J6 at h
 obtain ⟨r12360, h12361, h⟩ := bs h
 have e12362 := (Zb k a0 0 324000 _ h12361)
 obtain rfl := si h
 exact Qi pm pn Try.func65 (r0 := vb r12360) (ans := [.reg (.n :: []), .reg (.n :: .call (vb r12360) :: .n :: [])]) (fr := true) (by kernel_rfl) (an (an (ti tt) (an (ti (an e12362 (ti tt))) tt)) (ti tt)) (Wv.refl _)
def Qlk (z0 : Bool) (z1 : Bool) (z2 : Bool) (z3 : Bool) (z4 : Bool) : List Ans := (.n :: .n :: .call (vb z0) :: nN 4 (.call (vb z1) :: .n :: .b false :: nN 3 (.call (vb z2) :: .n :: .b false :: nN 3 (.call (vb z3) :: .n :: .b false :: nN 3 (.call (vb z4) :: .n :: .b false :: [])))))
def Q07 (z0 : Bool) (z1 : Bool) (z2 : Bool) (z3 : Bool) : List Ans := (.n :: .n :: .call (vb z0) :: nN 4 (.call (vb z1) :: .n :: .b false :: nN 3 (.call (vb z2) :: .n :: .b false :: nN 3 (.call (vb z3) :: .n :: .b false :: .n :: nS 4 (.b true :: [])))))
def Q08 (z0 : Bool) (z1 : Bool) (z2 : Bool) : List Ans := (.n :: .n :: .call (vb z0) :: nN 4 (.call (vb z1) :: .n :: .b false :: nN 3 (.call (vb z2) :: .n :: .b false :: .n :: nS 4 (.b true :: .n :: nS 4 (.b true :: [])))))
def Q09 (z0 : Bool) (z1 : Bool) : List Ans := (.n :: .n :: .call (vb z0) :: nN 4 (.call (vb z1) :: .n :: .b false :: .n :: nS 4 (.b true :: .n :: nS 4 (.b true :: .n :: nS 4 (.b true :: [])))))
def Q1b (z0 : Bool) : List Ans := (.n :: .n :: .call (vb z0) :: .n :: .n :: nS 4 (.b true :: .n :: nS 4 (.b true :: .n :: nS 4 (.b true :: .n :: nS 4 (.b true :: [])))))
def Ws (k : Nat) (a0 : Qc) : Option Int :=
 (Q7 k a0.Least (-25920000) 25920000).bind fun r12391 => (if r12391 = true then ((Q7 k a0.Most (-25920000) 25920000).bind fun r12395 => (if r12395 = true then ((J6 k a0.Low).bind fun r12399 => (if r12399 = true then ((J6 k a0.High).bind fun r12403 => (if r12403 = true then ((Q7 k a0.Speed 1 1000000).bind fun r12407 => (if r12407 = true then (if a0.Most < a0.Least then (some 9) else (if a0.High < a0.Low then (some 9) else ((Yf k a0.Refraction).bind fun r12416 => (if r12416 = 0 then ((Yf k a0.Drift).bind fun r12420 => (some r12420)) else (some r12416))))) else (some 2))) else (some 2))) else (some 2))) else (some 2))) else (some 2))
theorem Qh5 (k : Nat) (a0 : Qc) (r : Int) (h : Ws k a0 = some r) : VC Try.prog 31 [VV.ag (Qp a0)] (vi r) := by
 unfold Ws at h
 obtain ⟨r12391, h12392, h⟩ := bs h
 have e12393 := (Zb k a0.Least (-25920000) 25920000 _ h12392)
 rcases ifs h with ⟨h12394, h⟩ | ⟨h12394, h⟩
 ·obtain ⟨r12395, h12396, h⟩ := bs h
  have e12397 := (an (Qh h12394) (Zb k a0.Most (-25920000) 25920000 _ h12396))
  rcases ifs h with ⟨h12398, h⟩ | ⟨h12398, h⟩
  ·obtain ⟨r12399, h12400, h⟩ := bs h
   have e12401 := (an (Qh h12398) (Qdf k a0.Low _ h12400))
   rcases ifs h with ⟨h12402, h⟩ | ⟨h12402, h⟩
   ·obtain ⟨r12403, h12404, h⟩ := bs h
    have e12405 := (an (Qh h12402) (Qdf k a0.High _ h12404))
    rcases ifs h with ⟨h12406, h⟩ | ⟨h12406, h⟩
    ·obtain ⟨r12407, h12408, h⟩ := bs h
     have e12409 := (an (Qh h12406) (Zb k a0.Speed 1 1000000 _ h12408))
     have e12410 := (t2 (an e12393 (t2 (w2 (an (Qh h12394) tt) (an e12397 (an (an (Qh h12394) tt) (an (Qh h12394) (ti (w2 (an (Qh h12398) tt) (an e12401 (an (an (Qh h12398) tt) (an (Qh h12398) (ti (w2 (an (Qh h12402) tt) (an e12405 (an (an (Qh h12402) tt) (an (Qh h12402) (ti (w2 (an (Qh h12406) tt) (an e12409 (an (an (Qh h12406) tt) (an (Qh h12406) tt))))))))))))))))))))))
     rcases ifs h with ⟨h12411, h⟩ | ⟨h12411, h⟩
     ·rcases ifs h with ⟨h12412, h⟩ | ⟨h12412, h⟩
      ·have e12413 := (t6 (w5 (dt h12412) (te h12412)))
       obtain rfl := si h
       exact Qi pm pn Try.func31 (r0 := vi 9) (ans := [.reg (.n :: .n :: []), .reg (Qlk r12391 r12395 r12399 r12403 r12407), .br false, .reg (nN 6 (nS 5 (.b true :: []))), .br true, .reg (.n :: [])]) (fr := true) (by kernel_rfl) (an (an (t2 tt) (an (an e12410 (an (Qh h12411) tt)) (an e12413 (an rt (an (ti tt) tt))))) (ti tt)) (Wv.refl _)
      ·have e12414 := (t6 (w5 (tf h12412) (tf h12412)))
       rcases ifs h with ⟨h12415, h⟩ | ⟨h12415, h⟩
       ·obtain rfl := si h
        exact Qi pm pn Try.func31 (r0 := vi 9) (ans := [.reg (.n :: .n :: []), .reg (Qlk r12391 r12395 r12399 r12403 r12407), .br false, .reg (nN 11 (.b false :: [])), .br true, .reg (.n :: [])]) (fr := true) (by kernel_rfl) (an (an (t2 tt) (an (an e12410 (an (Qh h12411) tt)) (an e12414 (an (dt h12415) (an (ti tt) tt))))) (ti tt)) (Wv.refl _)
       ·obtain ⟨r12416, h12417, h⟩ := bs h
        have e12418 := (Qe9 k a0.Refraction _ h12417)
        rcases ifs h with ⟨h12419, h⟩ | ⟨h12419, h⟩
        ·obtain ⟨r12420, h12421, h⟩ := bs h
         have e12422 := (Qe9 k a0.Drift _ h12421)
         obtain rfl := si h
         exact Qi pm pn Try.func31 (r0 := vi r12420) (ans := [.reg (.n :: .n :: []), .reg (Qlk r12391 r12395 r12399 r12403 r12407), .br false, .reg (nN 11 (.b false :: [])), .br false, .reg (.n :: .n :: .call (vi r12416) :: .n :: []), .reg (.n :: .n :: []), .br false, .reg (.n :: .n :: .call (vi r12420) :: .n :: [])]) (fr := true) (by kernel_rfl) (an (an (t2 tt) (an (an e12410 (an (Qh h12411) tt)) (an (an e12414 (tf h12415)) (an (an (t2 (an e12418 (ti tt))) (an (t2 tt) (ta h12419))) (an (t2 (an e12422 (ti tt))) tt))))) (ti tt)) (Wv.refl _)
        ·obtain rfl := si h
         exact Qi pm pn Try.func31 (r0 := vi r12416) (ans := [.reg (.n :: .n :: []), .reg (Qlk r12391 r12395 r12399 r12403 r12407), .br false, .reg (nN 11 (.b false :: [])), .br false, .reg (.n :: .n :: .call (vi r12416) :: .n :: []), .reg (.n :: .n :: []), .br true, .reg (.n :: .n :: [])]) (fr := true) (by kernel_rfl) (an (an (t2 tt) (an (an e12410 (an (Qh h12411) tt)) (an (an e12414 (tf h12415)) (an (t2 (an e12418 (ti tt))) (an (t2 tt) (an (td h12419) (an (t2 tt) tt))))))) (ti tt)) (Wv.refl _)
     ·obtain rfl := si h
      exact Qi pm pn Try.func31 (r0 := vi 2) (ans := [.reg (.n :: .n :: []), .reg (Qlk r12391 r12395 r12399 r12403 r12407), .br true, .reg (.n :: [])]) (fr := true) (by kernel_rfl) (an (an (t2 tt) (an e12410 (an (Qr (Qn h12411)) (an (ti tt) tt)))) (ti tt)) (Wv.refl _)
    ·have e12423 := (t2 (an e12393 (t2 (w2 (an (Qh h12394) tt) (an e12397 (an (an (Qh h12394) tt) (an (Qh h12394) (ti (w2 (an (Qh h12398) tt) (an e12401 (an (an (Qh h12398) tt) (an (Qh h12398) (ti (w2 (an (Qh h12402) tt) (an e12405 (an (an (Qh h12402) tt) (an (Qh h12402) (ti (w5 (Qr (Qn h12406)) tt)))))))))))))))))))
     obtain rfl := si h
     exact Qi pm pn Try.func31 (r0 := vi 2) (ans := [.reg (.n :: .n :: []), .reg (Q07 r12391 r12395 r12399 r12403), .br true, .reg (.n :: [])]) (fr := true) (by kernel_rfl) (an (an (t2 tt) (an e12423 (an rt (an (ti tt) tt)))) (ti tt)) (Wv.refl _)
   ·have e12424 := (t2 (an e12393 (t2 (w2 (an (Qh h12394) tt) (an e12397 (an (an (Qh h12394) tt) (an (Qh h12394) (ti (w2 (an (Qh h12398) tt) (an e12401 (an (an (Qh h12398) tt) (an (Qh h12398) (ti (w5 (Qr (Qn h12402)) (ti (an rt (an rt (an rt (an rt (an rt tt))))))))))))))))))))
    obtain rfl := si h
    exact Qi pm pn Try.func31 (r0 := vi 2) (ans := [.reg (.n :: .n :: []), .reg (Q08 r12391 r12395 r12399), .br true, .reg (.n :: [])]) (fr := true) (by kernel_rfl) (an (an (t2 tt) (an e12424 (an rt (an (ti tt) tt)))) (ti tt)) (Wv.refl _)
  ·have e12425 := (t2 (an e12393 (t2 (w2 (an (Qh h12394) tt) (an e12397 (an (an (Qh h12394) tt) (an (Qh h12394) (ti (w5 (Qr (Qn h12398)) (ti (an rt (an rt (an rt (an rt (an rt (ti (an rt (an rt (an rt (an rt (an rt tt)))))))))))))))))))))
   obtain rfl := si h
   exact Qi pm pn Try.func31 (r0 := vi 2) (ans := [.reg (.n :: .n :: []), .reg (Q09 r12391 r12395), .br true, .reg (.n :: [])]) (fr := true) (by kernel_rfl) (an (an (t2 tt) (an e12425 (an rt (an (ti tt) tt)))) (ti tt)) (Wv.refl _)
 ·have e12426 := (t2 (an e12393 (t2 (w5 (Qr (Qn h12394)) (ti (an rt (an rt (an rt (an rt (an rt (ti (an rt (an rt (an rt (an rt (an rt (ti (an rt (an rt (an rt (an rt (an rt tt))))))))))))))))))))))
  obtain rfl := si h
  exact Qi pm pn Try.func31 (r0 := vi 2) (ans := [.reg (.n :: .n :: []), .reg (Q1b r12391), .br true, .reg (.n :: [])]) (fr := true) (by kernel_rfl) (an (an (t2 tt) (an e12426 (an rt (an (ti tt) tt)))) (ti tt)) (Wv.refl _)
theorem Qfy (k : Nat) (a0 : Int) (r : Bool) (h : Qd7 k a0 = some r) : VC Try.prog 81 [VV.c (.int .u8 a0)] (vb r) := by
 unfold Qd7 at h
 rcases ifs h with ⟨h12443, h⟩ | ⟨h12443, h⟩
 ·rcases ifs h with ⟨h12444, h⟩ | ⟨h12444, h⟩
  ·have e12445 := (t3 (w2 (te h12443) (an (dt h12443) (ti (w3 (dt h12444) (t2 (w2 (dt h12444) (ti tt))))))))
   obtain rfl := si h
   exact Qi pm pn Try.func81 (r0 := vb true) (ans := [.reg (.n :: []), .reg (nN 5 (.b true :: .n :: nS 6 (.b true :: .n :: [])))]) (fr := true) (by kernel_rfl) (an (an (ti tt) (an e12445 tt)) (ti tt)) (Wv.refl _)
  ·rcases ifs h with ⟨h12446, h⟩ | ⟨h12446, h⟩
   ·have e12447 := (an (df h12444) (dt h12446))
    have e12448 := (t3 (w2 (te h12443) (an (dt h12443) (ti (w3 (tf h12444) (w2 (te h12446) (an e12447 (an (df h12444) (ti tt)))))))))
    obtain rfl := si h
    exact Qi pm pn Try.func81 (r0 := vb (decide (a0 <= 90))) (ans := [.reg (.n :: []), .reg (nN 5 (.b true :: nN 6 (.b true :: .b false :: .n :: [])))]) (fr := true) (by kernel_rfl) (an (an (ti tt) (an e12448 tt)) (ti tt)) (Wv.refl _)
   ·have e12449 := (an (df h12444) (df h12446))
    have e12450 := (t3 (w2 (te h12443) (an (dt h12443) (ti (w3 (tf h12444) (w2 (df h12446) (an e12449 (an (df h12444) (ti tt)))))))))
    obtain rfl := si h
    exact Qi pm pn Try.func81 (r0 := vb false) (ans := [.reg (.n :: []), .reg (nN 5 (.b true :: nN 4 (.skip :: .skip :: .b false :: .b false :: .n :: [])))]) (fr := true) (by kernel_rfl) (an (an (ti tt) (an e12450 tt)) (ti tt)) (Wv.refl _)
 ·rcases ifs h with ⟨h12451, h⟩ | ⟨h12451, h⟩
  ·have e12452 := (t3 (w3 (df h12443) (ti (w3 (an rf tt) (w2 (te h12451) (an (an rf (dt h12451)) (an rf (ti tt))))))))
   obtain rfl := si h
   exact Qi pm pn Try.func81 (r0 := vb (decide (a0 <= 90))) (ans := [.reg (.n :: []), .reg (nN 3 (.skip :: .skip :: .b false :: nN 6 (.b true :: .b false :: .n :: [])))]) (fr := true) (by kernel_rfl) (an (an (ti tt) (an e12452 tt)) (ti tt)) (Wv.refl _)
  ·have e12453 := (t3 (w3 (df h12443) (ti (w3 (an rf tt) (w2 (df h12451) (an (an rf (df h12451)) (an rf (ti tt))))))))
   obtain rfl := si h
   exact Qi pm pn Try.func81 (r0 := vb false) (ans := [.reg (.n :: []), .reg Q3g]) (fr := true) (by kernel_rfl) (an (an (ti tt) (an e12453 tt)) (ti tt)) (Wv.refl _)
def Qbq (k : Nat) (a0 : Int) : Option Bool :=
 if 48 <= a0 then (some (decide (a0 <= 57))) else (some false)
theorem Qjw (k : Nat) (a0 : Int) (r : Bool) (h : Qbq k a0 = some r) : VC Try.prog 82 [VV.c (.int .u8 a0)] (vb r) := by
 unfold Qbq at h
 rcases ifs h with ⟨h12469, h⟩ | ⟨h12469, h⟩
 ·have e12470 := (t3 (w2 (te h12469) (an (dt h12469) (ti tt))))
  obtain rfl := si h
  exact Qi pm pn Try.func82 (r0 := vb (decide (a0 <= 57))) (ans := [.reg (.n :: []), .reg (nN 5 (.b true :: .n :: []))]) (fr := true) (by kernel_rfl) (an (an (ti tt) (an e12470 tt)) (ti tt)) (Wv.refl _)
 ·have e12471 := (t3 (w3 (df h12469) (ti tt)))
  obtain rfl := si h
  exact Qi pm pn Try.func82 (r0 := vb false) (ans := [.reg (.n :: []), .reg (nN 3 (.skip :: .skip :: .b false :: .n :: []))]) (fr := true) (by kernel_rfl) (an (an (ti tt) (an e12471 tt)) (ti tt)) (Wv.refl _)
def Q48 (z0 : Bool) (z1 : Bool) : List Ans := (nN 3 (.call (vb z0) :: nN 5 (.call (vb z1) :: .n :: .b true :: .n :: nS 4 (.b false :: []))))
def Q1c (z0 : Bool) (z1 : Bool) : List Ans := (nN 3 (.call (vb z0) :: nN 5 (.call (vb z1) :: .n :: .b true :: nN 5 (.b true :: []))))
def Xr (a0 : ByteArray) (x3 : Int) : VS := ⟨mkA [(0, vs a0), (3, vi x3)], [], .nil⟩
def Qcs (a0 : ByteArray) (r : Unit) : VS := ⟨mkA [(2, vb false)], [], .nil⟩
def Qct (a0 : ByteArray) (r : Unit) : VS := ⟨mkA [], [], .nil⟩
def Zt (k : Nat) (a0 : ByteArray) : Nat -> Int -> Option (Sum Unit Unit)
 | 0, _ => none
 | fuel + 1, x3 => if x3 < (a0.size : Int) then (if 0 <= x3 /\ x3 < (a0.size : Int) then ((Qd7 k (bat a0 x3)).bind fun r12553 => (if r12553 = true then (Zt k a0 fuel (w64 (x3 + 1))) else ((Qbq k (bat a0 x3)).bind fun r12558 => (if r12558 = true then (Zt k a0 fuel (w64 (x3 + 1))) else (if (bat a0 x3) = 45 then (Zt k a0 fuel (w64 (x3 + 1))) else (some (.inl ()))))))) else none) else (some (.inr ()))
theorem Qh6 (k : Nat) (a0 : ByteArray) : ∀ (fuel : Nat) (x3 : Int) (r : Sum Unit Unit), Zt k a0 fuel x3 = some r -> (match r with | .inl r => Jb none Try.prog (szF Try.f67) (Zy Try.f67 0) (Xr a0 x3) .ret (Qcs a0 r) | .inr r => Jb none Try.prog (szF Try.f67) (Zy Try.f67 0) (Xr a0 x3) (.exit 0) (Qct a0 r)) := by
 intro fuel
 induction fuel with
 | zero => intro x3 r h; rw [Zt.eq_1] at h; cases h
 | succ fuel ih =>
  intro x3 r h
  rw [Zt.eq_2] at h
  rcases ifs h with ⟨h12551, h⟩ | ⟨h12551, h⟩
  ·obtain ⟨h12552, h⟩ := ifn h
   obtain ⟨r12553, h12554, h⟩ := bs h
   have e12555 := (Qfy k (bat a0 x3) _ h12554)
   rcases ifs h with ⟨h12556, h⟩ | ⟨h12556, h⟩
   ·have e12557 := (t2 (an h12552 (an e12555 (t2 (w6 (Qh h12556) (ti (an rf (an rf (an rf (an rf (an rf tt)))))))))))
    have h2 := ih _ _ h
    obtain ⟨q, hv, hq⟩ := pK none Try.prog Try.f67 0 (Xr a0 x3) [.reg (nN 4 []), .br true, .reg (nN 3 (.call (vb r12553) :: .n :: .n :: nS 5 (.b false :: .n :: nS 4 (.b false :: [])))), .br false, .reg (nN 3 [])] ⟨(tn [0, 3]), [], []⟩ .normal (Xr a0 (w64 (x3 + 1))) (an (an (an (t4 tt) (te h12551)) (an (an e12557 (an rf tt)) (t3 tt))) (ti tt)) (by kernel_rfl)
    cases r <;> exact Qd pm pn hv hq h2
   ·obtain ⟨r12558, h12559, h⟩ := bs h
    have e12560 := (an (Qr (Qn h12556)) (Qjw k (bat a0 x3) _ h12559))
    rcases ifs h with ⟨h12561, h⟩ | ⟨h12561, h⟩
    ·have e12562 := (t2 (an h12552 (an e12555 (t2 (w2 (an (Qr (Qn h12556)) tt) (an (an (Qr (Qn h12556)) h12552) (an e12560 (an (an (Qr (Qn h12556)) tt) (an (Qr (Qn h12556)) (ti (w5 (Qh h12561) tt)))))))))))
     have h2 := ih _ _ h
     obtain ⟨q, hv, hq⟩ := pK none Try.prog Try.f67 0 (Xr a0 x3) [.reg (nN 4 []), .br true, .reg (Q48 r12553 r12558), .br false, .reg (nN 3 [])] ⟨(tn [0, 3]), [], []⟩ .normal (Xr a0 (w64 (x3 + 1))) (an (an (an (t4 tt) (te h12551)) (an (an e12562 (an rf tt)) (t3 tt))) (ti tt)) (by kernel_rfl)
     cases r <;> exact Qd pm pn hv hq h2
    ·have e12563 := (t2 (an h12552 (an e12555 (t2 (w2 (an (Qr (Qn h12556)) tt) (an (an (Qr (Qn h12556)) h12552) (an e12560 (an (an (Qr (Qn h12556)) tt) (an (Qr (Qn h12556)) (ti (w2 (an (Qr (Qn h12561)) tt) (an (an (Qr (Qn h12561)) h12552) (an (an (Qr (Qn h12561)) tt) (an (Qr (Qn h12561)) tt))))))))))))))
     rcases ifs h with ⟨h12564, h⟩ | ⟨h12564, h⟩
     ·have h2 := ih _ _ h
      obtain ⟨q, hv, hq⟩ := pK none Try.prog Try.f67 0 (Xr a0 x3) [.reg (nN 4 []), .br true, .reg (Q1c r12553 r12558), .br false, .reg (nN 3 [])] ⟨(tn [0, 3]), [], []⟩ .normal (Xr a0 (w64 (x3 + 1))) (an (an (an (t4 tt) (te h12551)) (an (an e12563 (ta h12564)) (t3 tt))) (ti tt)) (by kernel_rfl)
      cases r <;> exact Qd pm pn hv hq h2
     ·obtain rfl := si h
      exact Qk (c := ⟨[(2, none)], [], []⟩) (s1 := (Qcs a0 ())) pm pn (ans := [.reg (nN 4 []), .br true, .reg (Q1c r12553 r12558), .br true, .reg (.n :: [])]) (by kernel_rfl) nofun (an (an (an (t4 tt) (te h12551)) (an e12563 (an (td h12564) (an (ti tt) tt)))) (ti tt))
  ·obtain rfl := si h
   exact Qk (c := ⟨[], [], []⟩) (s1 := (Qct a0 ())) pm pn (ans := [.reg (nN 4 []), .br false]) (by kernel_rfl) nofun (an (an (t4 tt) (tf h12551)) (ti tt))
def Qcc (k : Nat) (a0 : ByteArray) : Option Bool :=
 if (a0.size : Int) = 0 then (some false) else (if 12 < (a0.size : Int) then (some false) else (if (0 : Int) <= 0 /\ 0 < (a0.size : Int) then ((Qd7 k (bat a0 0)).bind fun r12518 => (if r12518 = true then ((Zt k a0 k 0).bind fun r12566 => (match r12566 with | .inl r12567 => (some false) | .inr r12568 => (some true))) else (some false))) else none))
theorem Qkd (k : Nat) (a0 : ByteArray) (r : Bool) (h : Qcc k a0 = some r) : VC Try.prog 67 [vs a0] (vb r) := by
 unfold Qcc at h
 rcases ifs h with ⟨h12513, h⟩ | ⟨h12513, h⟩
 ·have e12514 := (t4 (w4 (dt h12513) (ti (an rt (an rt (an rt (an rt (an rt tt))))))))
  obtain rfl := si h
  exact Qi pm pn Try.func67 (r0 := vb false) (ans := [.reg (.n :: []), .reg (nN 4 (nS 3 (.b true :: .n :: nS 4 (.b true :: [])))), .br true, .reg (.n :: [])]) (fr := true) (by kernel_rfl) (an (an (ti tt) (an e12514 (an rt (an (ti tt) tt)))) (ti tt)) (Wv.refl _)
 ·rcases ifs h with ⟨h12515, h⟩ | ⟨h12515, h⟩
  ·have e12516 := (t4 (w3 (tf h12513) (an (df h12513) (ti (w4 (dt h12515) (te h12515))))))
   obtain rfl := si h
   exact Qi pm pn Try.func67 (r0 := vb false) (ans := [.reg (.n :: []), .reg (nN 7 (.b false :: .n :: nS 4 (.b true :: []))), .br true, .reg (.n :: [])]) (fr := true) (by kernel_rfl) (an (an (ti tt) (an e12516 (an rt (an (ti tt) tt)))) (ti tt)) (Wv.refl _)
  ·obtain ⟨h12517, h⟩ := ifn h
   obtain ⟨r12518, h12519, h⟩ := bs h
   have e12520 := (an (df h12515) (Qfy k (bat a0 0) _ h12519))
   have e12521 := (t4 (w3 (tf h12513) (an (df h12513) (ti (an (tf h12515) (an (an (df h12515) h12517) (an e12520 (an (tf h12515) (tf h12515)))))))))
   rcases ifs h with ⟨h12522, h⟩ | ⟨h12522, h⟩
   ·obtain ⟨r12566, h12565, h⟩ := bs h
    have hph12565 := Qh6 k a0 _ _ _ h12565
    cases r12566 with
    | inl r12567 =>
     dsimp only at h
     have e12569 := (an (ti tt) (VRun.loop hph12565))
     obtain rfl := si h
     exact Qi pm pn Try.func67 (r0 := vb false) (ans := [.reg (.n :: []), .reg (nN 7 (.b false :: nN 3 (.call (vb r12518) :: .n :: .b false :: []))), .br false, .reg (.n :: []), .sub ⟨(tn [0, 3]), [], []⟩ .ret (Qcs a0 r12567)]) (fr := true) (by kernel_rfl) (an (an (ti tt) (an (an e12521 (an (Qh h12522) tt)) (an (ti tt) e12569))) (ti tt)) (Wv.refl _)
    | inr r12568 =>
     dsimp only at h
     have e12570 := (an (ti tt) (VRun.loop hph12565))
     obtain rfl := si h
     exact Qi pm pn Try.func67 (r0 := vb true) (ans := [.reg (.n :: []), .reg (nN 7 (.b false :: nN 3 (.call (vb r12518) :: .n :: .b false :: []))), .br false, .reg (.n :: []), .sub ⟨(tn [0, 3]), [], []⟩ (.exit 0) (Qct a0 r12568), .reg (.n :: [])]) (fr := true) (by kernel_rfl) (an (an (ti tt) (an (an e12521 (an (Qh h12522) tt)) (an (an (ti tt) e12570) (an (ti tt) tt)))) (ti tt)) (Wv.refl _)
   ·obtain rfl := si h
    exact Qi pm pn Try.func67 (r0 := vb false) (ans := [.reg (.n :: []), .reg (nN 7 (.b false :: nN 3 (.call (vb r12518) :: .n :: .b false :: []))), .br true, .reg (.n :: [])]) (fr := true) (by kernel_rfl) (an (an (ti tt) (an e12521 (an (Qr (Qn h12522)) (an (ti tt) tt)))) (ti tt)) (Wv.refl _)
def Y4 (k : Nat) (a0 : Int) : Option Bool :=
 (Q7 k a0 0 10000000).bind fun r12586 => (some r12586)
theorem Qfl (k : Nat) (a0 : Int) (r : Bool) (h : Y4 k a0 = some r) : VC Try.prog 68 [vi a0] (vb r) := by
 unfold Y4 at h
 obtain ⟨r12586, h12587, h⟩ := bs h
 have e12588 := (Zb k a0 0 10000000 _ h12587)
 obtain rfl := si h
 exact Qi pm pn Try.func68 (r0 := vb r12586) (ans := [.reg (.n :: []), .reg (.n :: .call (vb r12586) :: .n :: [])]) (fr := true) (by kernel_rfl) (an (an (ti tt) (an (ti (an e12588 (ti tt))) tt)) (ti tt)) (Wv.refl _)
def Y9 (k : Nat) (a0 : Qa) : Option Int :=
 (Qcc k a0.Name).bind fun r12607 => (if r12607 = true then ((Q7 k a0.Azimuth 0 1295999).bind fun r12611 => (if r12611 = true then ((J6 k a0.Height).bind fun r12615 => (if r12615 = true then ((Y4 k a0.From).bind fun r12619 => (if r12619 = true then ((Y4 k a0.To).bind fun r12623 => (if r12623 = true then ((Q7 k a0.Dwell 1 10000).bind fun r12627 => (if r12627 = true then (if a0.To <= a0.From then (some 9) else (some 0)) else (some 2))) else (some 2))) else (some 2))) else (some 2))) else (some 2))) else (some 4))
theorem Qhp (k : Nat) (a0 : Qa) (r : Int) (h : Y9 k a0 = some r) : VC Try.prog 33 [VV.ag (Qb a0)] (vi r) := by
 unfold Y9 at h
 obtain ⟨r12607, h12608, h⟩ := bs h
 have e12609 := (Qkd k a0.Name _ h12608)
 rcases ifs h with ⟨h12610, h⟩ | ⟨h12610, h⟩
 ·obtain ⟨r12611, h12612, h⟩ := bs h
  have e12613 := (Zb k a0.Azimuth 0 1295999 _ h12612)
  rcases ifs h with ⟨h12614, h⟩ | ⟨h12614, h⟩
  ·obtain ⟨r12615, h12616, h⟩ := bs h
   have e12617 := (an (Qh h12614) (Qdf k a0.Height _ h12616))
   rcases ifs h with ⟨h12618, h⟩ | ⟨h12618, h⟩
   ·obtain ⟨r12619, h12620, h⟩ := bs h
    have e12621 := (an (Qh h12618) (Qfl k a0.From _ h12620))
    rcases ifs h with ⟨h12622, h⟩ | ⟨h12622, h⟩
    ·obtain ⟨r12623, h12624, h⟩ := bs h
     have e12625 := (an (Qh h12622) (Qfl k a0.To _ h12624))
     rcases ifs h with ⟨h12626, h⟩ | ⟨h12626, h⟩
     ·obtain ⟨r12627, h12628, h⟩ := bs h
      have e12629 := (an (Qh h12626) (Zb k a0.Dwell 1 10000 _ h12628))
      have e12630 := (t2 (an e12613 (t2 (w2 (an (Qh h12614) tt) (an e12617 (an (an (Qh h12614) tt) (an (Qh h12614) (ti (w2 (an (Qh h12618) tt) (an e12621 (an (an (Qh h12618) tt) (an (Qh h12618) (ti (w2 (an (Qh h12622) tt) (an e12625 (an (an (Qh h12622) tt) (an (Qh h12622) (ti (w2 (an (Qh h12626) tt) (an e12629 (an (an (Qh h12626) tt) (an (Qh h12626) tt))))))))))))))))))))))
      rcases ifs h with ⟨h12631, h⟩ | ⟨h12631, h⟩
      ·rcases ifs h with ⟨h12632, h⟩ | ⟨h12632, h⟩
       ·obtain rfl := si h
        exact Qi pm pn Try.func33 (r0 := vi 9) (ans := [.reg (.n :: .n :: []), .reg (.n :: .n :: .call (vb r12607) :: .n :: []), .br false, .reg (Qlk r12611 r12615 r12619 r12623 r12627), .br false, .reg (nN 5 []), .br true, .reg (.n :: [])]) (fr := true) (by kernel_rfl) (an (an (t2 tt) (an (an (t2 (an e12609 (ti tt))) (an (Qh h12610) tt)) (an (an e12630 (an (Qh h12631) tt)) (an (t5 tt) (an (dt h12632) (an (ti tt) tt)))))) (ti tt)) (Wv.refl _)
       ·obtain rfl := si h
        exact Qi pm pn Try.func33 (r0 := vi 0) (ans := [.reg (.n :: .n :: []), .reg (.n :: .n :: .call (vb r12607) :: .n :: []), .br false, .reg (Qlk r12611 r12615 r12619 r12623 r12627), .br false, .reg (nN 5 []), .br false, .reg (.n :: [])]) (fr := true) (by kernel_rfl) (an (an (t2 tt) (an (an (t2 (an e12609 (ti tt))) (an (Qh h12610) tt)) (an (an e12630 (an (Qh h12631) tt)) (an (an (t5 tt) (tf h12632)) (an (ti tt) tt))))) (ti tt)) (Wv.refl _)
      ·obtain rfl := si h
       exact Qi pm pn Try.func33 (r0 := vi 2) (ans := [.reg (.n :: .n :: []), .reg (.n :: .n :: .call (vb r12607) :: .n :: []), .br false, .reg (Qlk r12611 r12615 r12619 r12623 r12627), .br true, .reg (.n :: [])]) (fr := true) (by kernel_rfl) (an (an (t2 tt) (an (an (t2 (an e12609 (ti tt))) (an (Qh h12610) tt)) (an e12630 (an (Qr (Qn h12631)) (an (ti tt) tt))))) (ti tt)) (Wv.refl _)
     ·have e12633 := (t2 (an e12613 (t2 (w2 (an (Qh h12614) tt) (an e12617 (an (an (Qh h12614) tt) (an (Qh h12614) (ti (w2 (an (Qh h12618) tt) (an e12621 (an (an (Qh h12618) tt) (an (Qh h12618) (ti (w2 (an (Qh h12622) tt) (an e12625 (an (an (Qh h12622) tt) (an (Qh h12622) (ti (w5 (Qr (Qn h12626)) tt)))))))))))))))))))
      obtain rfl := si h
      exact Qi pm pn Try.func33 (r0 := vi 2) (ans := [.reg (.n :: .n :: []), .reg (.n :: .n :: .call (vb r12607) :: .n :: []), .br false, .reg (Q07 r12611 r12615 r12619 r12623), .br true, .reg (.n :: [])]) (fr := true) (by kernel_rfl) (an (an (t2 tt) (an (an (t2 (an e12609 (ti tt))) (an (Qh h12610) tt)) (an e12633 (an rt (an (ti tt) tt))))) (ti tt)) (Wv.refl _)
    ·have e12634 := (t2 (an e12613 (t2 (w2 (an (Qh h12614) tt) (an e12617 (an (an (Qh h12614) tt) (an (Qh h12614) (ti (w2 (an (Qh h12618) tt) (an e12621 (an (an (Qh h12618) tt) (an (Qh h12618) (ti (w5 (Qr (Qn h12622)) (ti (an rt (an rt (an rt (an rt (an rt tt))))))))))))))))))))
     obtain rfl := si h
     exact Qi pm pn Try.func33 (r0 := vi 2) (ans := [.reg (.n :: .n :: []), .reg (.n :: .n :: .call (vb r12607) :: .n :: []), .br false, .reg (Q08 r12611 r12615 r12619), .br true, .reg (.n :: [])]) (fr := true) (by kernel_rfl) (an (an (t2 tt) (an (an (t2 (an e12609 (ti tt))) (an (Qh h12610) tt)) (an e12634 (an rt (an (ti tt) tt))))) (ti tt)) (Wv.refl _)
   ·have e12635 := (t2 (an e12613 (t2 (w2 (an (Qh h12614) tt) (an e12617 (an (an (Qh h12614) tt) (an (Qh h12614) (ti (w5 (Qr (Qn h12618)) (ti (an rt (an rt (an rt (an rt (an rt (ti (an rt (an rt (an rt (an rt (an rt tt)))))))))))))))))))))
    obtain rfl := si h
    exact Qi pm pn Try.func33 (r0 := vi 2) (ans := [.reg (.n :: .n :: []), .reg (.n :: .n :: .call (vb r12607) :: .n :: []), .br false, .reg (Q09 r12611 r12615), .br true, .reg (.n :: [])]) (fr := true) (by kernel_rfl) (an (an (t2 tt) (an (an (t2 (an e12609 (ti tt))) (an (Qh h12610) tt)) (an e12635 (an rt (an (ti tt) tt))))) (ti tt)) (Wv.refl _)
  ·have e12636 := (t2 (an e12613 (t2 (w5 (Qr (Qn h12614)) (ti (an rt (an rt (an rt (an rt (an rt (ti (an rt (an rt (an rt (an rt (an rt (ti (an rt (an rt (an rt (an rt (an rt tt))))))))))))))))))))))
   obtain rfl := si h
   exact Qi pm pn Try.func33 (r0 := vi 2) (ans := [.reg (.n :: .n :: []), .reg (.n :: .n :: .call (vb r12607) :: .n :: []), .br false, .reg (Q1b r12611), .br true, .reg (.n :: [])]) (fr := true) (by kernel_rfl) (an (an (t2 tt) (an (an (t2 (an e12609 (ti tt))) (an (Qh h12610) tt)) (an e12636 (an rt (an (ti tt) tt))))) (ti tt)) (Wv.refl _)
 ·obtain rfl := si h
  exact Qi pm pn Try.func33 (r0 := vi 4) (ans := [.reg (.n :: .n :: []), .reg (.n :: .n :: .call (vb r12607) :: .n :: []), .br true, .reg (.n :: [])]) (fr := true) (by kernel_rfl) (an (an (t2 tt) (an (t2 (an e12609 (ti tt))) (an (Qr (Qn h12610)) (an (ti tt) tt)))) (ti tt)) (Wv.refl _)
def Qd9 (k : Nat) (a0 : Int) (a1 : Int) : Option Int :=
 if a1 ≠ 0 then (if (a0.tmod a1) < 0 then (some (w64 ((a0.tmod a1) + a1))) else (some (a0.tmod a1))) else none
theorem Ql2 (k : Nat) (a0 : Int) (a1 : Int) (r : Int) (h : Qd9 k a0 a1 = some r) : VC Try.prog 83 [vi a0, vi a1] (vi r) := by
 unfold Qd9 at h
 obtain ⟨h12642, h⟩ := ifn h
 rcases ifs h with ⟨h12643, h⟩ | ⟨h12643, h⟩
 ·obtain rfl := si h
  exact Qi pm pn Try.func83 (r0 := vi (w64 ((a0.tmod a1) + a1))) (ans := [.reg (.n :: []), .reg (nN 4 []), .reg (.n :: .n :: []), .br true, .reg (nN 4 [])]) (fr := true) (by kernel_rfl) (an (an (ti tt) (an (t2 (an h12642 (ti tt))) (an (t2 tt) (an (dt h12643) (an (t4 tt) tt))))) (ti tt)) (Wv.refl _)
 ·obtain rfl := si h
  exact Qi pm pn Try.func83 (r0 := vi (a0.tmod a1)) (ans := [.reg (.n :: []), .reg (nN 4 []), .reg (.n :: .n :: []), .br false, .reg (.n :: .n :: [])]) (fr := true) (by kernel_rfl) (an (an (ti tt) (an (t2 (an h12642 (ti tt))) (an (an (t2 tt) (tf h12643)) (an (t2 tt) tt)))) (ti tt)) (Wv.refl _)
def Q49 (z0 : Int) (z1 : Int) (z2 : Int) : List Ans := (nN 5 (.call (vi z0) :: .n :: .call (vi z1) :: nN 6 (.call (vi z2) :: nN 3 [])))
theorem Q5a (z0 : Int) (z1 : Qa) (z2 : Int) : VV.ag [vi z0, vi (w64 (z1.Height + z2))] = VV.ag (Qch (⟨z0, w64 (z1.Height + z2)⟩ : A26)) := by first | rfl | (simp only [Qj, map_cons, map_nil, un_i, Yd]; done) | (simp only [Qj, map_cons, map_nil, un_i, Yd]; rfl) | (simp only [Qj, map_cons, map_nil, un_i, Yd, length_cons, length_nil, length_append]; done)
def Y5 (k : Nat) (a0 : Qc) (a1 : Qa) (a2 : Int) : Option A26 :=
 (Wq k a0.Drift a2).bind fun r12651 => ((Qd9 k (w64 (a1.Azimuth + r12651)) 1296000).bind fun r12654 => ((Wq k a0.Refraction a1.Height).bind fun r12657 => (some (⟨r12654, w64 (a1.Height + r12657)⟩ : A26))))
theorem Qfk (k : Nat) (a0 : Qc) (a1 : Qa) (a2 : Int) (r : A26) (h : Y5 k a0 a1 a2 = some r) : VC Try.prog 69 [VV.ag (Qp a0), VV.ag (Qb a1), vi a2] (VV.ag (Qch r)) := by
 unfold Y5 at h
 obtain ⟨r12651, h12652, h⟩ := bs h
 have e12653 := (Qfv k a0.Drift a2 _ h12652)
 obtain ⟨r12654, h12655, h⟩ := bs h
 have e12656 := (Ql2 k (w64 (a1.Azimuth + r12651)) 1296000 _ h12655)
 obtain ⟨r12657, h12658, h⟩ := bs h
 have e12659 := (Qfv k a0.Refraction a1.Height _ h12658)
 have e12660 := (t5 (an e12653 (ti (an e12656 (t6 (an e12659 (t3 tt)))))))
 obtain rfl := si h
 exact Qi pm pn Try.func69 (r0 := VV.ag [vi r12654, vi (w64 (a1.Height + r12657))]) (ans := [.reg (nN 3 []), .reg (Q49 r12651 r12654 r12657)]) (fr := true) (by kernel_rfl) (an (an (t3 tt) (an e12660 tt)) (an (t3 tt) tt)) (Wv.of_eq (Q5a r12654 a1 r12657))
def Y3 (a0 : Qc) (a1 : Qa) (r12709 : A26) (y3 : List Int) (x10 : Int) : VS := ⟨mkA [(3, VV.pt 0 0), (8, VV.pt 2 0), (9, VV.rf 3 0 y3.length), (10, vi x10)], [some ⟨true, 1, Qp a0⟩, some ⟨true, 1, Qb a1⟩, some ⟨true, 1, Qch r12709⟩, some ⟨false, 1, List.map vi y3⟩], .nil⟩
def Qaj (a0 : Qc) (a1 : Qa) (r12709 : A26) (r : (List Int)) : VS := ⟨mkA [(9, VV.rf 3 0 r.length)], [some ⟨true, 1, Qp a0⟩, some ⟨true, 1, Qb a1⟩, some ⟨true, 1, Qch r12709⟩, some ⟨false, 1, List.map vi r⟩], .nil⟩
def Xl (k : Nat) (a0 : Qc) (a1 : Qa) (r12709 : A26) : Nat -> (List Int) -> Int -> Option ((List Int))
 | 0, _, _ => none
 | fuel + 1, y3, x10 => if x10 <= 21 then ((Q7 k (w64 (r12709.e0 + (w64 (x10 * 1296000)))) a0.Least a0.Most).bind fun r12746 => (if r12746 = true then (if y3.length + ([x10] : List Int).length <= 1000000000 then (Xl k a0 a1 r12709 fuel (y3 ++ ([x10] : List Int)) (w64 (x10 + 1))) else none) else (Xl k a0 a1 r12709 fuel y3 (w64 (x10 + 1))))) else (some y3)
theorem Qh7 (k : Nat) (a0 : Qc) (a1 : Qa) (r12709 : A26) : ∀ (fuel : Nat) (y3 : List Int) (x10 : Int) (r : (List Int)), Xl k a0 a1 r12709 fuel y3 x10 = some r -> (Jb none Try.prog (szF Try.f34) (Zy Try.f34 0) (Y3 a0 a1 r12709 y3 x10) (.exit 0) (Qaj a0 a1 r12709 r)) := by
 intro fuel
 induction fuel with
 | zero => intro y3 x10 r h; rw [Xl.eq_1] at h; cases h
 | succ fuel ih =>
  intro y3 x10 r h
  rw [Xl.eq_2] at h
  rcases ifs h with ⟨h12744, h⟩ | ⟨h12744, h⟩
  ·have e12745 := (show (0:Int) <= 0 /\ (0:Int) < ((2 : Nat) : Int) from ⟨by decide, by decide⟩)
   obtain ⟨r12746, h12747, h⟩ := bs h
   have e12748 := (Zb k (w64 (r12709.e0 + (w64 (x10 * 1296000)))) a0.Least a0.Most _ h12747)
   have e12749 := (an e12745 (t8 (an e12748 tt)))
   rcases ifs h with ⟨h12750, h⟩ | ⟨h12750, h⟩
   ·obtain ⟨h12751, h⟩ := ifn h
    have e12752 := (show List.length (List.map vi y3) = y3.length * 1 /\ List.length [vi x10] = 1 * 1 /\ (y3.length + 1) * 8 <= 140737488355328 /\ y3.length + 1 < 1099511627776 /\ List.all [vi x10] VV.still = true from ⟨(by simp), (by rw [show [vi x10] = List.map vi ([x10] : List Int) from rfl]; simp), (by first | omega | (simp at h12751 ⊢; omega)), (by first | omega | (simp at h12751 ⊢; omega)), (by rw [show [vi x10] = List.map vi ([x10] : List Int) from rfl]; exact Qit _)⟩)
    have h2 := ih _ _ _ h
    obtain ⟨q, hv, hq⟩ := pK none Try.prog Try.f34 0 (Y3 a0 a1 r12709 y3 x10) [.reg (.n :: .n :: []), .br true, .reg (nN 9 (.call (vb r12746) :: [])), .br true, .reg (nN 5 []), .reg (nN 3 [])] ⟨[(3, none), (8, none), (9, some (VV.rf 3 0 ((y3 ++ ([x10] : List Int)).length))), (10, none)], [none, none, none, some (List.map vi (y3 ++ ([x10] : List Int)))], []⟩ .normal (Y3 a0 a1 r12709 (y3 ++ ([x10] : List Int)) (w64 (x10 + 1))) (an (an (an (t2 tt) (te h12744)) (an (an e12749 (an h12750 (t3 (an e12752 (ti tt))))) (t3 tt))) (an (an (show Wv (VV.rf 3 0 (y3.length + 1)) (VV.rf 3 0 ((y3 ++ ([x10] : List Int)).length)) from (Wv.of_eq (by simp))) tt) (an (show (List.map vi y3) ++ [vi x10] = List.map vi (y3 ++ ([x10] : List Int)) from (by rw [show [vi x10] = List.map vi ([x10] : List Int) from rfl]; exact List.map_append.symm)) tt))) (by kernel_rfl)
    exact Qd pm pn hv hq h2
   ·have h2 := ih _ _ _ h
    obtain ⟨q, hv, hq⟩ := pK none Try.prog Try.f34 0 (Y3 a0 a1 r12709 y3 x10) [.reg (.n :: .n :: []), .br true, .reg (nN 9 (.call (vb r12746) :: [])), .br false, .reg (nN 3 [])] ⟨(tn [3, 8, 9, 10]), [none, none, none, none], []⟩ .normal (Y3 a0 a1 r12709 y3 (w64 (x10 + 1))) (an (an (an (t2 tt) (te h12744)) (an (an e12749 (an (Qn h12750) tt)) (t3 tt))) (ti tt)) (by kernel_rfl)
    exact Qd pm pn hv hq h2
  ·obtain rfl := si h
   exact Qk (c := ⟨[(9, none)], [none, none, none, none], []⟩) (s1 := (Qaj a0 a1 r12709 y3)) pm pn (ans := [.reg (.n :: .n :: []), .br false]) (by kernel_rfl) nofun (an (an (t2 tt) (tf h12744)) (ti tt))
theorem Q5b (z0 : (List Int)) : VV.tu [VV.fw 1 (List.drop 0 (List.map unfr (List.map vi z0))) z0.length, vi 0] = VV.tu [VV.fw 1 (List.map vi z0) z0.length, vi 0] := by first | rfl | (simp only [Qdb, Qj, map_cons, map_nil, un_i, length_map, length_cons, length_nil]; done) | (simp only [Qdb, Qj, map_cons, map_nil, un_i, length_map, length_cons, length_nil]; rfl) | (simp only [Qdb, Qj, map_cons, map_nil, un_i, length_map, length_cons, length_nil, length_cons, length_nil, length_append]; done)
def Jv (k : Nat) (a0 : Qc) (a1 : Qa) (a2 : Int) : Option ((List Int) × Int) :=
 (Y5 k a0 a1 a2).bind fun r12709 => ((Q7 k r12709.e1 a0.Low a0.High).bind fun r12713 => (if r12713 = true then ((Xl k a0 a1 r12709 k ([] : List Int) (-21)).bind fun r12754 => (if ((r12754.length : Nat) : Int) = 0 then (some ([], 12)) else (some (r12754, 0)))) else (some ([], 26))))
theorem Qao (k : Nat) (a0 : Qc) (a1 : Qa) (a2 : Int) (r : ((List Int) × Int)) (h : Jv k a0 a1 a2 = some r) : VC Try.prog 34 [VV.ag (Qp a0), VV.ag (Qb a1), vi a2] (VV.tu [VV.fw 1 (List.map vi r.1) r.1.length, vi r.2]) := by
 unfold Jv at h
 obtain ⟨r12709, h12710, h⟩ := bs h
 have e12711 := (Qfk k a0 a1 a2 _ h12710)
 have e12712 := (show (0:Int) <= 1 /\ (1:Int) < ((2 : Nat) : Int) from ⟨by decide, by decide⟩)
 obtain ⟨r12713, h12714, h⟩ := bs h
 have e12715 := (Zb k r12709.e1 a0.Low a0.High _ h12714)
 have e12716 := (an e12712 (t5 (an e12715 (ti tt))))
 rcases ifs h with ⟨h12717, h⟩ | ⟨h12717, h⟩
 ·obtain ⟨r12754, h12753, h⟩ := bs h
  have hph12753 := Qh7 k a0 a1 r12709 _ _ _ _ h12753
  have e12755 := (an (ti tt) (VRun.loop hph12753))
  rcases ifs h with ⟨h12756, h⟩ | ⟨h12756, h⟩
  ·obtain rfl := si h
   exact Qi pm pn Try.func34 (r0 := VV.tu [VV.c (.slice none 0 0), vi 12]) (ans := [.reg (nN 4 []), .reg (nN 3 (.call (VV.ag (Qch r12709)) :: .n :: .n :: [])), .reg (nN 6 (.call (vb r12713) :: .n :: [])), .br false, .reg (.n :: []), .reg (.n :: []), .sub ⟨(tn [3, 8, 9, 10]), [none, none, none], [.t 9 1]⟩ (.exit 0) (Qaj a0 a1 r12709 r12754), .reg (nN 3 []), .br true, .reg (.n :: .n :: [])]) (fr := true) (by kernel_rfl) (an (an (t4 tt) (an (t3 (an e12711 (t2 tt))) (an (an e12716 (an (Qh h12717) tt)) (an (ti tt) (an (an (ti tt) e12755) (an (t3 tt) (an (dt h12756) (an (t2 tt) tt)))))))) (t2 tt)) (Wv.tuL (.cons Wv.Qmv (.cons (Wv.refl _) .nil)))
  ·obtain rfl := si h
   exact Qi pm pn Try.func34 (r0 := VV.tu [VV.fw 1 (List.drop 0 (List.map unfr (List.map vi r12754))) r12754.length, vi 0]) (ans := [.reg (nN 4 []), .reg (nN 3 (.call (VV.ag (Qch r12709)) :: .n :: .n :: [])), .reg (nN 6 (.call (vb r12713) :: .n :: [])), .br false, .reg (.n :: []), .reg (.n :: []), .sub ⟨(tn [3, 8, 9, 10]), [none, none, none], [.t 9 1]⟩ (.exit 0) (Qaj a0 a1 r12709 r12754), .reg (nN 3 []), .br false, .reg (nN 3 [])]) (fr := true) (by kernel_rfl) (an (an (t4 tt) (an (t3 (an e12711 (t2 tt))) (an (an e12716 (an (Qh h12717) tt)) (an (ti tt) (an (an (ti tt) e12755) (an (an (t3 tt) (tf h12756)) (an (t3 tt) tt))))))) (an (show List.all (List.map vi r12754) new0 = true from (by exact Qj1 _)) (ti tt))) (Wv.of_eq (Q5b r12754))
 ·obtain rfl := si h
  exact Qi pm pn Try.func34 (r0 := VV.tu [VV.c (.slice none 0 0), vi 26]) (ans := [.reg (nN 4 []), .reg (nN 3 (.call (VV.ag (Qch r12709)) :: .n :: .n :: [])), .reg (nN 6 (.call (vb r12713) :: .n :: [])), .br true, .reg (.n :: .n :: [])]) (fr := true) (by kernel_rfl) (an (an (t4 tt) (an (t3 (an e12711 (t2 tt))) (an e12716 (an (Qr (Qn h12717)) (an (t2 tt) tt))))) (t2 tt)) (Wv.tuL (.cons Wv.Qmv (.cons (Wv.refl _) .nil)))
def Qcd (k : Nat) (a0 : Int) : Option Bool :=
 (Q7 k a0 0 100000).bind fun r12760 => (some r12760)
theorem Qkb (k : Nat) (a0 : Int) (r : Bool) (h : Qcd k a0 = some r) : VC Try.prog 32 [vi a0] (vb r) := by
 unfold Qcd at h
 obtain ⟨r12760, h12761, h⟩ := bs h
 have e12762 := (Zb k a0 0 100000 _ h12761)
 obtain rfl := si h
 exact Qi pm pn Try.func32 (r0 := vb r12760) (ans := [.reg (.n :: []), .reg (.n :: .call (vb r12760) :: .n :: [])]) (fr := true) (by kernel_rfl) (an (an (ti tt) (an (ti (an e12762 (ti tt))) tt)) (ti tt)) (Wv.refl _)
def Qbp (a0 : (List Int)) (a1 : (List Int)) (x5 : Int) : VS := ⟨mkA [(0, VV.tr (List.map vi a0) a0.length), (1, VV.tr (List.map vi a1) a1.length), (5, vi x5)], [], .nil⟩
def Qdg (a0 : (List Int)) (a1 : (List Int)) (r : Unit) : VS := ⟨mkA [(4, vb false)], [], .nil⟩
def Qdh (a0 : (List Int)) (a1 : (List Int)) (r : Unit) : VS := ⟨mkA [], [], .nil⟩
def Qa1 (k : Nat) (a0 : (List Int)) (a1 : (List Int)) : Nat -> Int -> Option (Sum Unit Unit)
 | 0, _ => none
 | fuel + 1, x5 => if x5 < (a0.length : Int) then (if 0 <= x5 /\ x5 < (a0.length : Int) then (if 0 <= x5 /\ x5 < (a1.length : Int) then (if (a0.getD x5.toNat 0) = (a1.getD x5.toNat 0) then (Qa1 k a0 a1 fuel (w64 (x5 + 1))) else (some (.inl ()))) else none) else none) else (some (.inr ()))
theorem Qin (k : Nat) (a0 : (List Int)) (a1 : (List Int)) : ∀ (fuel : Nat) (x5 : Int) (r : Sum Unit Unit), Qa1 k a0 a1 fuel x5 = some r -> (match r with | .inl r => Jb none Try.prog (szF Try.f24) (Zy Try.f24 0) (Qbp a0 a1 x5) .ret (Qdg a0 a1 r) | .inr r => Jb none Try.prog (szF Try.f24) (Zy Try.f24 0) (Qbp a0 a1 x5) (.exit 0) (Qdh a0 a1 r)) := by
 intro fuel
 induction fuel with
 | zero => intro x5 r h; rw [Qa1.eq_1] at h; cases h
 | succ fuel ih =>
  intro x5 r h
  rw [Qa1.eq_2] at h
  rcases ifs h with ⟨h12806, h⟩ | ⟨h12806, h⟩
  ·obtain ⟨h12807, h⟩ := ifn h
   have e12808 := (X8 ag3 vi a0 0 h12807 rfl)
   obtain ⟨h12809, h⟩ := ifn h
   have e12810 := (X8 ag3 vi a1 0 h12809 rfl)
   have e12811 := (t2 (an h12807 (an e12808 (t2 (an h12809 (an e12810 (ti tt)))))))
   rcases ifs h with ⟨h12812, h⟩ | ⟨h12812, h⟩
   ·have h2 := ih _ _ h
    obtain ⟨q, hv, hq⟩ := pK none Try.prog Try.f24 0 (Qbp a0 a1 x5) [.reg (nN 4 []), .br true, .reg (nN 3 (.v (vi (a0.getD x5.toNat 0)) :: nN 3 (.v (vi (a1.getD x5.toNat 0)) :: .n :: []))), .br false, .reg (nN 3 [])] ⟨(tn [0, 1, 5]), [], []⟩ .normal (Qbp a0 a1 (w64 (x5 + 1))) (an (an (an (t4 tt) (te h12806)) (an (an e12811 (ta h12812)) (t3 tt))) (ti tt)) (by kernel_rfl)
    cases r <;> exact Qd pm pn hv hq h2
   ·obtain rfl := si h
    exact Qk (c := ⟨[(4, none)], [], []⟩) (s1 := (Qdg a0 a1 ())) pm pn (ans := [.reg (nN 4 []), .br true, .reg (nN 3 (.v (vi (a0.getD x5.toNat 0)) :: nN 3 (.v (vi (a1.getD x5.toNat 0)) :: .n :: []))), .br true, .reg (.n :: [])]) (by kernel_rfl) nofun (an (an (an (t4 tt) (te h12806)) (an e12811 (an (td h12812) (an (ti tt) tt)))) (ti tt))
  ·obtain rfl := si h
   exact Qk (c := ⟨[], [], []⟩) (s1 := (Qdh a0 a1 ())) pm pn (ans := [.reg (nN 4 []), .br false]) (by kernel_rfl) nofun (an (an (t4 tt) (tf h12806)) (ti tt))
def Qgf (k : Nat) (a0 : (List Int)) (a1 : (List Int)) : Option Bool :=
 if (a0.length : Int) = (a1.length : Int) then ((Qa1 k a0 a1 k 0).bind fun r12814 => (match r12814 with | .inl r12815 => (some false) | .inr r12816 => (some true))) else (some false)
theorem Qkv (k : Nat) (a0 : (List Int)) (a1 : (List Int)) (r : Bool) (h : Qgf k a0 a1 = some r) : VC Try.prog 24 [VV.tr (List.map vi a0) a0.length, VV.tr (List.map vi a1) a1.length] (vb r) := by
 unfold Qgf at h
 rcases ifs h with ⟨h12791, h⟩ | ⟨h12791, h⟩
 ·obtain ⟨r12814, h12813, h⟩ := bs h
  have hph12813 := Qin k a0 a1 _ _ _ h12813
  cases r12814 with
  | inl r12815 =>
   dsimp only at h
   have e12817 := (an (ti tt) (VRun.loop hph12813))
   obtain rfl := si h
   exact Qi pm pn Try.func24 (r0 := vb false) (ans := [.reg (.n :: []), .reg (nN 5 []), .br false, .reg (.n :: []), .sub ⟨(tn [0, 1, 5]), [], []⟩ .ret (Qdg a0 a1 r12815)]) (fr := true) (by kernel_rfl) (an (an (ti tt) (an (an (t5 tt) (ta h12791)) (an (ti tt) e12817))) (ti tt)) (Wv.refl _)
  | inr r12816 =>
   dsimp only at h
   have e12818 := (an (ti tt) (VRun.loop hph12813))
   obtain rfl := si h
   exact Qi pm pn Try.func24 (r0 := vb true) (ans := [.reg (.n :: []), .reg (nN 5 []), .br false, .reg (.n :: []), .sub ⟨(tn [0, 1, 5]), [], []⟩ (.exit 0) (Qdh a0 a1 r12816), .reg (.n :: [])]) (fr := true) (by kernel_rfl) (an (an (ti tt) (an (an (t5 tt) (ta h12791)) (an (an (ti tt) e12818) (an (ti tt) tt)))) (ti tt)) (Wv.refl _)
 ·obtain rfl := si h
  exact Qi pm pn Try.func24 (r0 := vb false) (ans := [.reg (.n :: []), .reg (nN 5 []), .br true, .reg (.n :: [])]) (fr := true) (by kernel_rfl) (an (an (ti tt) (an (t5 tt) (an (td h12791) (an (ti tt) tt)))) (ti tt)) (Wv.refl _)
end Go.Proofs.Ytjomicmhnbmhoaa.Vg

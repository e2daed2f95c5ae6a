import Derived.Test.YtjomicmhnbmhoaaWa
namespace Go.Proofs.Ytjomicmhnbmhoaa.Vg
set_option maxRecDepth 100000
set_option maxHeartbeats 4000000
set_option linter.unusedVariables false
set_option linter.unusedSimpArgs false
open Go Go.Proofs.Ytjomicmhnbmhoaa.Ev Go.Proofs.Ytjomicmhnbmhoaa.Vv
open List (flatMap length_cons length_nil length_map length_append map_cons map_nil length_replicate)
structure Zk where
 Shapes : (List Int)
 Error : Int
 deriving Inhabited
def Zj (x : Zk) : List VV := [VV.tr (List.map vi x.Shapes) x.Shapes.length, vi x.Error]
theorem Qi1 (x : Zk) : (Zj x).length = 2 := rfl
def Qw7 (x : Zk) : List VV := [VV.fr (List.map vi x.Shapes) x.Shapes.length, vi x.Error]
theorem Xf (xs : List Zk) : (xs.flatMap Zj).map unfr = xs.flatMap Zj := Qbg (fun _ => rfl) xs
theorem X0 (xs : List Zk) : (xs.flatMap Qw7).map unfr = xs.flatMap Zj := Qbg (fun _ => rfl) xs
structure Xy where
 e0 : Int
 e1 : Int
 e2 : Int
 deriving Inhabited
def Qft (x : Xy) : List VV := [vi x.e0, vi x.e1, vi x.e2]
theorem Xm (xs : List Xy) : (xs.flatMap Qft).map unfr = xs.flatMap Qft := Qk0 (fun _ => rfl) xs
structure A100 where
 e0 : Xy
 e1 : Xy
 e2 : Xy
 deriving Inhabited
def Qmz (x : A100) : List VV := [vi x.e0.e0, vi x.e0.e1, vi x.e0.e2, vi x.e1.e0, vi x.e1.e1, vi x.e1.e2, vi x.e2.e0, vi x.e2.e1, vi x.e2.e2]
theorem Wj (xs : List A100) : (xs.flatMap Qmz).map unfr = xs.flatMap Qmz := Qk0 (fun _ => rfl) xs
structure Qdk where
 Terms : (List Int)
 Den : Int
 deriving Inhabited
def Qmb (x : Qdk) : List VV := [VV.tr (List.map vi x.Terms) x.Terms.length, vi x.Den]
def Qid (x : Qdk) : List VV := [VV.fr (List.map vi x.Terms) x.Terms.length, vi x.Den]
theorem X7 (xs : List Qdk) : (xs.flatMap Qmb).map unfr = xs.flatMap Qmb := Qbg (fun _ => rfl) xs
theorem Xh (xs : List Qdk) : (xs.flatMap Qid).map unfr = xs.flatMap Qmb := Qbg (fun _ => rfl) xs
theorem ag3 : Qgw Try.prog 3 = some false := by kernel_rfl
theorem ag31 : Qgw Try.prog 31 = some false := by kernel_rfl
theorem ag62 : Qgw Try.prog 62 = some true := by kernel_rfl
theorem sz62 : szOf Try.prog 62 = some 2 := by kernel_rfl
def Qck (a0 : Int) (a1 : Int) (a2 : (List Int)) (x11 : Int) : VS := ⟨mkA [(0, vi a0), (1, vi a1), (9, VV.tr (List.map vi a2) a2.length), (10, vi (a2.length : Int)), (11, vi x11)], [], .nil⟩
def Qb4 (a0 : Int) (a1 : Int) (a2 : (List Int)) (r : Unit) : VS := ⟨mkA [(6, vb false)], [], .nil⟩
def Qed (a0 : Int) (a1 : Int) (a2 : (List Int)) (r : Unit) : VS := ⟨mkA [], [], .nil⟩
def Jl (k : Nat) (a0 : Int) (a1 : Int) (a2 : (List Int)) : Nat -> Int -> Option (Sum Unit Unit)
 | 0, _ => none
 | fuel + 1, x11 => if x11 < (a2.length : Int) then (if 0 <= x11 /\ x11 < (a2.length : Int) then (if (a2.getD x11.toNat 0) < a0 then (some (.inl ())) else (if a1 < (a2.getD x11.toNat 0) then (some (.inl ())) else (Jl k a0 a1 a2 fuel (w64 (x11 + 1))))) else none) else (some (.inr ()))
theorem Qjj (k : Nat) (a0 : Int) (a1 : Int) (a2 : (List Int)) : ∀ (fuel : Nat) (x11 : Int) (r : Sum Unit Unit), Jl k a0 a1 a2 fuel x11 = some r -> (match r with | .inl r => Jb none Try.prog (szF Try.f58) (Zy Try.f58 0) (Qck a0 a1 a2 x11) .ret (Qb4 a0 a1 a2 r) | .inr r => Jb none Try.prog (szF Try.f58) (Zy Try.f58 0) (Qck a0 a1 a2 x11) (.exit 0) (Qed a0 a1 a2 r)) := by
 intro fuel
 induction fuel with
 | zero => intro x11 r h; rw [Jl.eq_1] at h; cases h
 | succ fuel ih =>
  intro x11 r h
  rw [Jl.eq_2] at h
  rcases ifs h with ⟨h152, h⟩ | ⟨h152, h⟩
  ·obtain ⟨h153, h⟩ := ifn h
   have e154 := (X8 ag3 vi a2 0 h153 rfl)
   rcases ifs h with ⟨h155, h⟩ | ⟨h155, h⟩
   ·have e156 := (t4 (w3 (dt h155) (te h155)))
    obtain rfl := si h
    exact Qk (c := ⟨[(6, none)], [], []⟩) (s1 := (Qb4 a0 a1 a2 ())) pm pn (ans := [.reg (.n :: []), .br true, .reg (.n :: .v (vi (a2.getD x11.toNat 0)) :: .n :: []), .reg (nN 4 (nS 3 (.b true :: []))), .br true, .reg (.n :: [])]) (by kernel_rfl) nofun (an (an (ti tt) (an (te h152) (an (an h153 (an e154 (ti tt))) (an e156 (an rt (an (ti tt) tt)))))) (ti tt))
   ·have e157 := (t4 (w3 (tf h155) (tf h155)))
    rcases ifs h with ⟨h158, h⟩ | ⟨h158, h⟩
    ·obtain rfl := si h
     exact Qk (c := ⟨[(6, none)], [], []⟩) (s1 := (Qb4 a0 a1 a2 ())) pm pn (ans := [.reg (.n :: []), .br true, .reg (.n :: .v (vi (a2.getD x11.toNat 0)) :: .n :: []), .reg (nN 7 (.b false :: [])), .br true, .reg (.n :: [])]) (by kernel_rfl) nofun (an (an (ti tt) (an (te h152) (an (an h153 (an e154 (ti tt))) (an e157 (an (dt h158) (an (ti tt) tt)))))) (ti tt))
    ·have h2 := ih _ _ h
     obtain ⟨q, hv, hq⟩ := pK none Try.prog Try.f58 0 (Qck a0 a1 a2 x11) [.reg (.n :: []), .br true, .reg (.n :: .v (vi (a2.getD x11.toNat 0)) :: .n :: []), .reg (nN 7 (.b false :: [])), .br false, .reg (.n :: .n :: [])] ⟨(tn [0, 1, 9, 10, 11]), [], []⟩ .normal (Qck a0 a1 a2 (w64 (x11 + 1))) (an (an (ti tt) (an (te h152) (an (an (an h153 (an e154 (ti tt))) (an e157 (tf h158))) (t2 tt)))) (ti tt)) (by kernel_rfl)
     cases r <;> exact Qd pm pn hv hq h2
  ·obtain rfl := si h
   exact Qk (c := ⟨[], [], []⟩) (s1 := (Qed a0 a1 a2 ())) pm pn (ans := [.reg (.n :: []), .br false]) (by kernel_rfl) nofun (an (an (ti tt) (tf h152)) (ti tt))
def Zv (k : Nat) (a0 : Int) (a1 : Int) (a2 : (List Int)) : Option Bool :=
 (Jl k a0 a1 a2 k 0).bind fun r160 => (match r160 with | .inl r161 => (some false) | .inr r162 => (some true))
theorem Xk (k : Nat) (a0 : Int) (a1 : Int) (a2 : (List Int)) (r : Bool) (h : Zv k a0 a1 a2 = some r) : VC Try.prog 58 [vi a0, vi a1, VV.tr (List.map vi a2) a2.length] (vb r) := by
 unfold Zv at h
 obtain ⟨r160, h159, h⟩ := bs h
 have hph159 := Qjj k a0 a1 a2 _ _ _ h159
 cases r160 with
 | inl r161 =>
  dsimp only at h
  have e163 := (an (ti tt) (VRun.loop hph159))
  obtain rfl := si h
  exact Qi pm pn Try.func58 (r0 := vb false) (ans := [.reg (.n :: []), .reg (nN 3 []), .sub ⟨(tn [0, 1, 9, 10, 11]), [], []⟩ .ret (Qb4 a0 a1 a2 r161)]) (fr := true) (by kernel_rfl) (an (an (ti tt) (an (t3 tt) e163)) (ti tt)) (Wv.refl _)
 | inr r162 =>
  dsimp only at h
  have e164 := (an (ti tt) (VRun.loop hph159))
  obtain rfl := si h
  exact Qi pm pn Try.func58 (r0 := vb true) (ans := [.reg (.n :: []), .reg (nN 3 []), .sub ⟨(tn [0, 1, 9, 10, 11]), [], []⟩ (.exit 0) (Qed a0 a1 a2 r162), .reg (.n :: [])]) (fr := true) (by kernel_rfl) (an (an (ti tt) (an (an (t3 tt) e164) (an (ti tt) tt))) (ti tt)) (Wv.refl _)
theorem Q53 (z0 : (List Zk)) : [vi 1, vi 3, VV.tr (List.map vi ([(((z0.getD ((0 : Int)).toNat default).Shapes).length : Int)] : List Int)) (([(((z0.getD ((0 : Int)).toNat default).Shapes).length : Int)] : List Int).length)] = [vi 1, vi 3, VV.tr [vi (((z0.getD ((0 : Int)).toNat default).Shapes).length : Int)] 1] := by first | rfl | (simp only [Qj, map_cons, map_nil, un_i, Jg, length_map, length_cons, length_nil]; done) | (simp only [Qj, map_cons, map_nil, un_i, Jg, length_map, length_cons, length_nil]; rfl) | (simp only [Qj, map_cons, map_nil, un_i, Jg, length_map, length_cons, length_nil, length_cons, length_nil, length_append]; done)
def Yc (k : Nat) (a0 : Int) (a1 : (List Int)) : Option Bool :=
 (Zv k (w64 (0 - a0)) a0 a1).bind fun r174 => (some r174)
theorem Qap (k : Nat) (a0 : Int) (a1 : (List Int)) (r : Bool) (h : Yc k a0 a1 = some r) : VC Try.prog 45 [vi a0, VV.tr (List.map vi a1) a1.length] (vb r) := by
 unfold Yc at h
 obtain ⟨r174, h175, h⟩ := bs h
 have e176 := (Xk k (w64 (0 - a0)) a0 a1 _ h175)
 obtain rfl := si h
 exact Qi pm pn Try.func45 (r0 := vb r174) (ans := [.reg (.n :: []), .reg (nN 4 (.call (vb r174) :: .n :: []))]) (fr := true) (by kernel_rfl) (an (an (ti tt) (an (t4 (an e176 (ti tt))) tt)) (ti tt)) (Wv.refl _)
theorem Q54 (z0 : (List Zk)) (z1 : Int) : [vi 1000, VV.tr (List.map vi ([(z0.getD z1.toNat default).Error] : List Int)) (([(z0.getD z1.toNat default).Error] : List Int).length)] = [vi 1000, VV.tr [vi ((z0.getD z1.toNat default).Error)] 1] := by first | rfl | (simp only [Qj, map_cons, map_nil, un_i, Jg, length_map, length_cons, length_nil]; done) | (simp only [Qj, map_cons, map_nil, un_i, Jg, length_map, length_cons, length_nil]; rfl) | (simp only [Qj, map_cons, map_nil, un_i, Jg, length_map, length_cons, length_nil, length_cons, length_nil, length_append]; done)
def Q2o (z0 : Bool) (z1 : Bool) : List Ans := (.n :: .n :: .call (vb z0) :: nN 4 (.v VV.any :: .call (vb z1) :: .n :: .b false :: .n :: []))
def Qb5 (a0 : (List Zk)) (x20 : Int) : VS := ⟨mkA [(4, vi (((a0.getD ((0 : Int)).toNat default).Shapes).length : Int)), (18, VV.tr (flatMap Zj a0) a0.length), (19, vi (a0.length : Int)), (20, vi x20)], [], .nil⟩
def Ye (a0 : (List Zk)) (r : Int) : VS := ⟨mkA [(2, vi 0), (3, vi r)], [], .nil⟩
def Qdv (a0 : (List Zk)) (r : Unit) : VS := ⟨mkA [(4, vi (((a0.getD ((0 : Int)).toNat default).Shapes).length : Int))], [], .nil⟩
def Qbc (k : Nat) (a0 : (List Zk)) : Nat -> Int -> Option (Sum Int Unit)
 | 0, _ => none
 | fuel + 1, x20 => if x20 < (a0.length : Int) then (if 0 <= x20 /\ x20 < (a0.length : Int) then (if (((a0.getD x20.toNat default).Shapes).length : Int) = (((a0.getD ((0 : Int)).toNat default).Shapes).length : Int) then ((Zv k 1 3 ([(((a0.getD ((0 : Int)).toNat default).Shapes).length : Int)] : List Int)).bind fun r296 => (if r296 = true then ((Yc k 100 ((a0.getD x20.toNat default).Shapes)).bind fun r302 => (if r302 = true then ((Yc k 1000 ([(a0.getD x20.toNat default).Error] : List Int)).bind fun r306 => (if r306 = true then (Qbc k a0 fuel (w64 (x20 + 1))) else (some (.inl 2)))) else (some (.inl 2)))) else (some (.inl 10)))) else (some (.inl 10))) else none) else (some (.inr ()))
theorem Qi2 (k : Nat) (a0 : (List Zk)) : ∀ (fuel : Nat) (x20 : Int) (r : Sum Int Unit), Qbc k a0 fuel x20 = some r -> (match r with | .inl r => Jb none Try.prog (szF Try.f47) (Zy Try.f47 0) (Qb5 a0 x20) .ret (Ye a0 r) | .inr r => Jb none Try.prog (szF Try.f47) (Zy Try.f47 0) (Qb5 a0 x20) (.exit 0) (Qdv a0 r)) := by
 intro fuel
 induction fuel with
 | zero => intro x20 r h; rw [Qbc.eq_1] at h; cases h
 | succ fuel ih =>
  intro x20 r h
  rw [Qbc.eq_2] at h
  rcases ifs h with ⟨h290, h⟩ | ⟨h290, h⟩
  ·obtain ⟨h291, h⟩ := ifn h
   have e292 := (Qbm ag62 Zj 2 sz62 Qi1 a0 default h291 rfl)
   rcases ifs h with ⟨h293, h⟩ | ⟨h293, h⟩
   ·have e294 := (ta h293)
    obtain ⟨r296, h297, h⟩ := bs h
    have e298 := (an (tc h293) (VC.args (Xk k 1 3 ([(((a0.getD ((0 : Int)).toNat default).Shapes).length : Int)] : List Int) _ h297) (Q53 a0)))
    have e300 := (t6 (w2 e294 (an e298 (an e294 (an (tc h293) (ti tt))))))
    rcases ifs h with ⟨h301, h⟩ | ⟨h301, h⟩
    ·obtain ⟨r302, h303, h⟩ := bs h
     have e304 := (Qap k 100 ((a0.getD x20.toNat default).Shapes) _ h303)
     rcases ifs h with ⟨h305, h⟩ | ⟨h305, h⟩
     ·obtain ⟨r306, h307, h⟩ := bs h
      have e308 := (an (Qh h305) (VC.args (Qap k 1000 ([(a0.getD x20.toNat default).Error] : List Int) _ h307) (Q54 a0 x20)))
      have e309 := (t2 (an e304 (t2 (w3 (an (Qh h305) tt) (an e308 (an (an (Qh h305) tt) (an (Qh h305) (ti tt))))))))
      rcases ifs h with ⟨h310, h⟩ | ⟨h310, h⟩
      ·have h2 := ih _ _ h
       obtain ⟨q, hv, hq⟩ := pK none Try.prog Try.f47 0 (Qb5 a0 x20) [.reg (.n :: []), .br true, .reg (.n :: .v (VV.ag (Zj (a0.getD x20.toNat default))) :: .n :: .n :: []), .reg (nN 7 (.v VV.any :: .call (vb r296) :: .n :: .b false :: .n :: [])), .br false, .reg (Q2o r302 r306), .br false, .reg (.n :: .n :: [])] ⟨(tn [4, 18, 19, 20]), [], []⟩ .normal (Qb5 a0 (w64 (x20 + 1))) (an (an (ti tt) (an (te h290) (an (an (an h291 (an e292 (t2 tt))) (an e300 (an (Qh h301) (an e309 (an (Qh h310) tt))))) (t2 tt)))) (ti tt)) (by kernel_rfl)
       cases r <;> exact Qd pm pn hv hq h2
      ·obtain rfl := si h
       exact Qk (c := ⟨(tn [2, 3]), [], []⟩) (s1 := (Ye a0 2)) pm pn (ans := [.reg (.n :: []), .br true, .reg (.n :: .v (VV.ag (Zj (a0.getD x20.toNat default))) :: .n :: .n :: []), .reg (nN 7 (.v VV.any :: .call (vb r296) :: .n :: .b false :: .n :: [])), .br false, .reg (Q2o r302 r306), .br true, .reg (.n :: .n :: [])]) (by kernel_rfl) nofun (an (an (ti tt) (an (te h290) (an (an h291 (an e292 (t2 tt))) (an e300 (an (Qh h301) (an e309 (an (Qr (Qn h310)) (an (t2 tt) tt)))))))) (ti tt))
     ·have e311 := (t2 (an e304 (t2 (w6 (Qr (Qn h305)) (ti tt)))))
      obtain rfl := si h
      exact Qk (c := ⟨(tn [2, 3]), [], []⟩) (s1 := (Ye a0 2)) pm pn (ans := [.reg (.n :: []), .br true, .reg (.n :: .v (VV.ag (Zj (a0.getD x20.toNat default))) :: .n :: .n :: []), .reg (nN 7 (.v VV.any :: .call (vb r296) :: .n :: .b false :: .n :: [])), .br false, .reg (.n :: .n :: .call (vb r302) :: .n :: .n :: nS 5 (.b true :: .n :: [])), .br true, .reg (.n :: .n :: [])]) (by kernel_rfl) nofun (an (an (ti tt) (an (te h290) (an (an h291 (an e292 (t2 tt))) (an e300 (an (Qh h301) (an e311 (an rt (an (t2 tt) tt)))))))) (ti tt))
    ·obtain rfl := si h
     exact Qk (c := ⟨(tn [2, 3]), [], []⟩) (s1 := (Ye a0 10)) pm pn (ans := [.reg (.n :: []), .br true, .reg (.n :: .v (VV.ag (Zj (a0.getD x20.toNat default))) :: .n :: .n :: []), .reg (nN 7 (.v VV.any :: .call (vb r296) :: .n :: .b false :: .n :: [])), .br true, .reg (.n :: .n :: [])]) (by kernel_rfl) nofun (an (an (ti tt) (an (te h290) (an (an h291 (an e292 (t2 tt))) (an e300 (an (Qr (Qn h301)) (an (t2 tt) tt)))))) (ti tt))
   ·have e312 := (t6 (w5 (td h293) (ti tt)))
    obtain rfl := si h
    exact Qk (c := ⟨(tn [2, 3]), [], []⟩) (s1 := (Ye a0 10)) pm pn (ans := [.reg (.n :: []), .br true, .reg (.n :: .v (VV.ag (Zj (a0.getD x20.toNat default))) :: .n :: .n :: []), .reg (nN 6 (nS 4 (.b true :: .n :: []))), .br true, .reg (.n :: .n :: [])]) (by kernel_rfl) nofun (an (an (ti tt) (an (te h290) (an (an h291 (an e292 (t2 tt))) (an e312 (an rt (an (t2 tt) tt)))))) (ti tt))
  ·obtain rfl := si h
   exact Qk (c := ⟨[(4, none)], [], []⟩) (s1 := (Qdv a0 ())) pm pn (ans := [.reg (.n :: []), .br false]) (by kernel_rfl) nofun (an (an (ti tt) (tf h290)) (ti tt))
def Q2p (z0 : (List Zk)) : List Ans := (nN 3 (.v (VV.tr (List.map vi ((z0.getD ((0 : Int)).toNat default).Shapes)) (((z0.getD ((0 : Int)).toNat default).Shapes).length)) :: .n :: .n :: []))
def Qg2 (k : Nat) (a0 : (List Zk)) : Option (Int × Int) :=
 if (a0.length : Int) = 0 then (some (0, 10)) else (if 20 < (a0.length : Int) then (some (0, 8)) else (if (0 : Int) <= 0 /\ 0 < (a0.length : Int) then ((Qbc k a0 k 0).bind fun r314 => (match r314 with | .inl r315 => (some (0, r315)) | .inr r316 => (some ((((a0.getD ((0 : Int)).toNat default).Shapes).length : Int), 0)))) else none))
theorem Qlz (k : Nat) (a0 : (List Zk)) (r : (Int × Int)) (h : Qg2 k a0 = some r) : VC Try.prog 47 [VV.tr (flatMap Zj a0) a0.length] (VV.tu [vi r.1, vi r.2]) := by
 unfold Qg2 at h
 rcases ifs h with ⟨h240, h⟩ | ⟨h240, h⟩
 ·obtain rfl := si h
  exact Qi pm pn Try.func47 (r0 := VV.tu [vi 0, vi 10]) (ans := [.reg (.n :: .n :: []), .reg (nN 3 []), .br true, .reg (.n :: .n :: [])]) (fr := true) (by kernel_rfl) (an (an (t2 tt) (an (t3 tt) (an (dt h240) (an (t2 tt) tt)))) (t2 tt)) (Wv.refl _)
 ·rcases ifs h with ⟨h241, h⟩ | ⟨h241, h⟩
  ·obtain rfl := si h
   exact Qi pm pn Try.func47 (r0 := VV.tu [vi 0, vi 8]) (ans := [.reg (.n :: .n :: []), .reg (nN 3 []), .br false, .reg (nN 3 []), .br true, .reg (.n :: .n :: [])]) (fr := true) (by kernel_rfl) (an (an (t2 tt) (an (an (t3 tt) (tf h240)) (an (t3 tt) (an (dt h241) (an (t2 tt) tt))))) (t2 tt)) (Wv.refl _)
  ·obtain ⟨h242, h⟩ := ifn h
   have e243 := (show Zg Try.prog 31 (((0 : Int)).toNat * 2 + 0) (flatMap Zj a0) = some (VV.tr (List.map vi ((a0.getD ((0 : Int)).toNat default).Shapes)) (((a0.getD ((0 : Int)).toNat default).Shapes).length)) from (Qdr ag31 Zj 2 0 Qi1 (by omega) a0 default h242 (by omega)).trans rfl)
   obtain ⟨r314, h313, h⟩ := bs h
   have hph313 := Qi2 k a0 _ _ _ h313
   cases r314 with
   | inl r315 =>
    dsimp only at h
    have e317 := (an (ti tt) (VRun.loop hph313))
    obtain rfl := si h
    exact Qi pm pn Try.func47 (r0 := VV.tu [vi 0, vi r315]) (ans := [.reg (.n :: .n :: []), .reg (nN 3 []), .br false, .reg (nN 3 []), .br false, .reg (Q2p a0), .reg (nN 3 []), .sub ⟨(tn [4, 18, 19, 20]), [], []⟩ .ret (Ye a0 r315)]) (fr := true) (by kernel_rfl) (an (an (t2 tt) (an (an (t3 tt) (tf h240)) (an (an (t3 tt) (tf h241)) (an (ti (an h242 (ti (an e243 (t2 tt))))) (an (t3 tt) e317))))) (t2 tt)) (Wv.refl _)
   | inr r316 =>
    dsimp only at h
    have e318 := (an (ti tt) (VRun.loop hph313))
    obtain rfl := si h
    exact Qi pm pn Try.func47 (r0 := VV.tu [vi (((a0.getD ((0 : Int)).toNat default).Shapes).length : Int), vi 0]) (ans := [.reg (.n :: .n :: []), .reg (nN 3 []), .br false, .reg (nN 3 []), .br false, .reg (Q2p a0), .reg (nN 3 []), .sub ⟨(tn [4, 18, 19, 20]), [], []⟩ (.exit 0) (Qdv a0 r316), .reg (nN 3 [])]) (fr := true) (by kernel_rfl) (an (an (t2 tt) (an (an (t3 tt) (tf h240)) (an (an (t3 tt) (tf h241)) (an (ti (an h242 (ti (an e243 (t2 tt))))) (an (an (t3 tt) e318) (an (t3 tt) tt)))))) (t2 tt)) (Wv.refl _)
def Qym  : List Ans := (.n :: .n :: .v (VV.pt 2 0) :: .v (VV.pt 2 0) :: nN 5 (.v (VV.pt 2 0) :: .v (VV.pt 2 0) :: .n :: []))
def Qyn  : List Ans := (.n :: .n :: .v (VV.pt 2 0) :: .v (VV.pt 2 1) :: nN 5 (.v (VV.pt 2 0) :: .v (VV.pt 2 1) :: .n :: []))
def Qyo  : List Ans := (.n :: .n :: .v (VV.pt 2 0) :: .v (VV.pt 2 2) :: nN 5 (.v (VV.pt 2 0) :: .v (VV.pt 2 2) :: .n :: []))
def Qyp  : List Ans := (.n :: .n :: .v (VV.pt 2 3) :: .v (VV.pt 2 3) :: nN 5 (.v (VV.pt 2 3) :: .v (VV.pt 2 3) :: .n :: []))
def Qyq  : List Ans := (.n :: .n :: .v (VV.pt 2 3) :: .v (VV.pt 2 4) :: nN 5 (.v (VV.pt 2 3) :: .v (VV.pt 2 4) :: .n :: []))
def Qyr  : List Ans := (.n :: .n :: .v (VV.pt 2 3) :: .v (VV.pt 2 5) :: nN 5 (.v (VV.pt 2 3) :: .v (VV.pt 2 5) :: .n :: []))
def Qys  : List Ans := (.n :: .n :: .v (VV.pt 2 6) :: .v (VV.pt 2 6) :: nN 5 (.v (VV.pt 2 6) :: .v (VV.pt 2 6) :: .n :: []))
def Qtv  : List Ans := (.n :: .n :: .v (VV.pt 2 6) :: .v (VV.pt 2 7) :: nN 5 (.v (VV.pt 2 6) :: .v (VV.pt 2 7) :: .n :: []))
def Qtw  : List Ans := (.n :: .n :: .v (VV.pt 2 6) :: .v (VV.pt 2 8) :: nN 5 (.v (VV.pt 2 6) :: .v (VV.pt 2 8) :: .n :: []))
def Qam (z0 : (List Zk)) (z1 : Int) (z2 : Int) : List Ans := (.n :: .n :: .v (vi (((z0.getD z1.toNat default).Shapes).getD z2.toNat 0)) :: .n :: .n :: [])
def Qs (a0 : (List Zk)) (a1 : Int) (x17 : Int) (b3_0z : Int) (b3_1z : Int) (b3_2z : Int) (x24 : Int) (b2_0zz : Int) (b2_1zz : Int) (b2_2zz : Int) (b2_3zz : Int) (b2_4zz : Int) (b2_5zz : Int) (b2_6zz : Int) (b2_7zz : Int) (b2_8zz : Int) (x41 : Int) : VS := ⟨mkA [(1, vi a1), (4, VV.pt 0 0), (5, VV.pt 1 0), (6, VV.pt 2 0), (7, VV.pt 3 0), (9, VV.pt 4 0), (10, vi x24), (11, vi (((a0.getD x17.toNat default).Shapes).getD x24.toNat 0)), (15, VV.tr (flatMap Zj a0) a0.length), (16, vi (a0.length : Int)), (17, vi x17), (22, VV.tr (List.map vi ((a0.getD x17.toNat default).Shapes)) (((a0.getD x17.toNat default).Shapes).length)), (23, vi (((a0.getD x17.toNat default).Shapes).length : Int)), (24, vi x24), (39, VV.tr (List.map vi ((a0.getD x17.toNat default).Shapes)) (((a0.getD x17.toNat default).Shapes).length)), (40, vi (((a0.getD x17.toNat default).Shapes).length : Int)), (41, vi x41)], [some ⟨true, 1, [vi 0, vi 0, vi 0, vi 0, vi 0, vi 0, vi 0, vi 0, vi 0]⟩, some ⟨true, 1, [vi 0, vi 0, vi 0]⟩, some ⟨true, 1, [vi b2_0zz, vi b2_1zz, vi b2_2zz, vi b2_3zz, vi b2_4zz, vi b2_5zz, vi b2_6zz, vi b2_7zz, vi b2_8zz]⟩, some ⟨true, 1, [vi (w64 (b3_0z + (w64 ((((a0.getD x17.toNat default).Shapes).getD x24.toNat 0) * ((a0.getD x17.toNat default).Error))))), vi b3_1z, vi b3_2z]⟩, some ⟨true, 1, Zj (a0.getD x17.toNat default)⟩], .nil⟩
def Qee (a0 : (List Zk)) (a1 : Int) (x17 : Int) (b3_0z : Int) (b3_1z : Int) (b3_2z : Int) (x24 : Int) (r : Int × Int × Int × Int × Int × Int × Int × Int × Int) : VS := ⟨mkA [(1, vi a1), (4, VV.pt 0 0), (5, VV.pt 1 0), (6, VV.pt 2 0), (7, VV.pt 3 0), (9, VV.pt 4 0), (15, VV.tr (flatMap Zj a0) a0.length), (16, vi (a0.length : Int)), (17, vi x17), (22, VV.tr (List.map vi ((a0.getD x17.toNat default).Shapes)) (((a0.getD x17.toNat default).Shapes).length)), (23, vi (((a0.getD x17.toNat default).Shapes).length : Int)), (24, vi x24)], [some ⟨true, 1, [vi 0, vi 0, vi 0, vi 0, vi 0, vi 0, vi 0, vi 0, vi 0]⟩, some ⟨true, 1, [vi 0, vi 0, vi 0]⟩, some ⟨true, 1, [vi r.1, vi r.2.1, vi r.2.2.1, vi r.2.2.2.1, vi r.2.2.2.2.1, vi r.2.2.2.2.2.1, vi r.2.2.2.2.2.2.1, vi r.2.2.2.2.2.2.2.1, vi r.2.2.2.2.2.2.2.2]⟩, some ⟨true, 1, [vi (w64 (b3_0z + (w64 ((((a0.getD x17.toNat default).Shapes).getD x24.toNat 0) * ((a0.getD x17.toNat default).Error))))), vi b3_1z, vi b3_2z]⟩, some ⟨true, 1, Zj (a0.getD x17.toNat default)⟩], .nil⟩
def Z5 (k : Nat) (a0 : (List Zk)) (a1 : Int) (x17 : Int) (b3_0z : Int) (b3_1z : Int) (b3_2z : Int) (x24 : Int) : Nat -> Int -> Int -> Int -> Int -> Int -> Int -> Int -> Int -> Int -> Int -> Option (Int × Int × Int × Int × Int × Int × Int × Int × Int)
 | 0, _, _, _, _, _, _, _, _, _, _ => none
 | fuel + 1, b2_0zz, b2_1zz, b2_2zz, b2_3zz, b2_4zz, b2_5zz, b2_6zz, b2_7zz, b2_8zz, x41 => if x41 < (((a0.getD x17.toNat default).Shapes).length : Int) then (if 0 <= x41 /\ x41 < (((a0.getD x17.toNat default).Shapes).length : Int) then (if x41 = 0 then (if x24 = 0 then (Z5 k a0 a1 x17 b3_0z b3_1z b3_2z x24 fuel (w64 (b2_0zz + (w64 ((((a0.getD x17.toNat default).Shapes).getD x24.toNat 0) * (((a0.getD x17.toNat default).Shapes).getD x41.toNat 0))))) b2_1zz b2_2zz b2_3zz b2_4zz b2_5zz b2_6zz b2_7zz b2_8zz (w64 (x41 + 1))) else (if x24 = 1 then (Z5 k a0 a1 x17 b3_0z b3_1z b3_2z x24 fuel b2_0zz (w64 (b2_1zz + (w64 ((((a0.getD x17.toNat default).Shapes).getD x24.toNat 0) * (((a0.getD x17.toNat default).Shapes).getD x41.toNat 0))))) b2_2zz b2_3zz b2_4zz b2_5zz b2_6zz b2_7zz b2_8zz (w64 (x41 + 1))) else (if x24 = 2 then (Z5 k a0 a1 x17 b3_0z b3_1z b3_2z x24 fuel b2_0zz b2_1zz (w64 (b2_2zz + (w64 ((((a0.getD x17.toNat default).Shapes).getD x24.toNat 0) * (((a0.getD x17.toNat default).Shapes).getD x41.toNat 0))))) b2_3zz b2_4zz b2_5zz b2_6zz b2_7zz b2_8zz (w64 (x41 + 1))) else none))) else (if x41 = 1 then (if x24 = 0 then (Z5 k a0 a1 x17 b3_0z b3_1z b3_2z x24 fuel b2_0zz b2_1zz b2_2zz (w64 (b2_3zz + (w64 ((((a0.getD x17.toNat default).Shapes).getD x24.toNat 0) * (((a0.getD x17.toNat default).Shapes).getD x41.toNat 0))))) b2_4zz b2_5zz b2_6zz b2_7zz b2_8zz (w64 (x41 + 1))) else (if x24 = 1 then (Z5 k a0 a1 x17 b3_0z b3_1z b3_2z x24 fuel b2_0zz b2_1zz b2_2zz b2_3zz (w64 (b2_4zz + (w64 ((((a0.getD x17.toNat default).Shapes).getD x24.toNat 0) * (((a0.getD x17.toNat default).Shapes).getD x41.toNat 0))))) b2_5zz b2_6zz b2_7zz b2_8zz (w64 (x41 + 1))) else (if x24 = 2 then (Z5 k a0 a1 x17 b3_0z b3_1z b3_2z x24 fuel b2_0zz b2_1zz b2_2zz b2_3zz b2_4zz (w64 (b2_5zz + (w64 ((((a0.getD x17.toNat default).Shapes).getD x24.toNat 0) * (((a0.getD x17.toNat default).Shapes).getD x41.toNat 0))))) b2_6zz b2_7zz b2_8zz (w64 (x41 + 1))) else none))) else (if x41 = 2 then (if x24 = 0 then (Z5 k a0 a1 x17 b3_0z b3_1z b3_2z x24 fuel b2_0zz b2_1zz b2_2zz b2_3zz b2_4zz b2_5zz (w64 (b2_6zz + (w64 ((((a0.getD x17.toNat default).Shapes).getD x24.toNat 0) * (((a0.getD x17.toNat default).Shapes).getD x41.toNat 0))))) b2_7zz b2_8zz (w64 (x41 + 1))) else (if x24 = 1 then (Z5 k a0 a1 x17 b3_0z b3_1z b3_2z x24 fuel b2_0zz b2_1zz b2_2zz b2_3zz b2_4zz b2_5zz b2_6zz (w64 (b2_7zz + (w64 ((((a0.getD x17.toNat default).Shapes).getD x24.toNat 0) * (((a0.getD x17.toNat default).Shapes).getD x41.toNat 0))))) b2_8zz (w64 (x41 + 1))) else (if x24 = 2 then (Z5 k a0 a1 x17 b3_0z b3_1z b3_2z x24 fuel b2_0zz b2_1zz b2_2zz b2_3zz b2_4zz b2_5zz b2_6zz b2_7zz (w64 (b2_8zz + (w64 ((((a0.getD x17.toNat default).Shapes).getD x24.toNat 0) * (((a0.getD x17.toNat default).Shapes).getD x41.toNat 0))))) (w64 (x41 + 1))) else none))) else none))) else none) else (some (b2_0zz, b2_1zz, b2_2zz, b2_3zz, b2_4zz, b2_5zz, b2_6zz, b2_7zz, b2_8zz))
theorem Qjk (k : Nat) (a0 : (List Zk)) (a1 : Int) (x17 : Int) (b3_0z : Int) (b3_1z : Int) (b3_2z : Int) (x24 : Int) : ∀ (fuel : Nat) (b2_0zz : Int) (b2_1zz : Int) (b2_2zz : Int) (b2_3zz : Int) (b2_4zz : Int) (b2_5zz : Int) (b2_6zz : Int) (b2_7zz : Int) (b2_8zz : Int) (x41 : Int) (r : Int × Int × Int × Int × Int × Int × Int × Int × Int), Z5 k a0 a1 x17 b3_0z b3_1z b3_2z x24 fuel b2_0zz b2_1zz b2_2zz b2_3zz b2_4zz b2_5zz b2_6zz b2_7zz b2_8zz x41 = some r -> (Jb none Try.prog (szF Try.f48) (Zy Try.f48 2) (Qs a0 a1 x17 b3_0z b3_1z b3_2z x24 b2_0zz b2_1zz b2_2zz b2_3zz b2_4zz b2_5zz b2_6zz b2_7zz b2_8zz x41) (.exit 4) (Qee a0 a1 x17 b3_0z b3_1z b3_2z x24 r)) := by
 intro fuel
 induction fuel with
 | zero => intro b2_0zz b2_1zz b2_2zz b2_3zz b2_4zz b2_5zz b2_6zz b2_7zz b2_8zz x41 r h; rw [Z5.eq_1] at h; cases h
 | succ fuel ih =>
  intro b2_0zz b2_1zz b2_2zz b2_3zz b2_4zz b2_5zz b2_6zz b2_7zz b2_8zz x41 r h
  rw [Z5.eq_2] at h
  rcases ifs h with ⟨h10645, h⟩ | ⟨h10645, h⟩
  ·obtain ⟨h10646, h⟩ := ifn h
   have e10647 := (X8 ag3 vi ((a0.getD x17.toNat default).Shapes) 0 h10646 rfl)
   rcases ifs h with ⟨h10648, h⟩ | ⟨h10648, h⟩
   ·have e10649 := (show (0 <= x41 /\ x41 < ((3 : Nat) : Int)) /\ VV.pt 2 (0 + x41.toNat * 3) = VV.pt 2 0 from ⟨⟨by have := (of_decide_eq_true (dt h10648)); omega, by have := (of_decide_eq_true (dt h10648)); omega⟩, by rw [show x41 = (0 : Int) from (of_decide_eq_true (dt h10648))]; rfl⟩)
    rcases ifs h with ⟨h10650, h⟩ | ⟨h10650, h⟩
    ·have e10651 := (show (0 <= x24 /\ x24 < ((3 : Nat) : Int)) /\ VV.pt 2 (0 + x24.toNat * 1) = VV.pt 2 0 from ⟨⟨by have := (of_decide_eq_true (dt h10650)); omega, by have := (of_decide_eq_true (dt h10650)); omega⟩, by rw [show x24 = (0 : Int) from (of_decide_eq_true (dt h10650))]; rfl⟩)
     have e10654 := (t2 (an e10649 (an e10651 (t5 (an e10649 (an e10651 (ti tt)))))))
     have h2 := ih _ _ _ _ _ _ _ _ _ _ _ h
     obtain ⟨q, hv, hq⟩ := pK none Try.prog Try.f48 2 (Qs a0 a1 x17 b3_0z b3_1z b3_2z x24 b2_0zz b2_1zz b2_2zz b2_3zz b2_4zz b2_5zz b2_6zz b2_7zz b2_8zz x41) [.reg (.n :: []), .br true, .reg (Qam a0 x17 x41), .reg Qym, .reg (.n :: .n :: [])] ⟨(tn [1, 4, 5, 6, 7, 9, 10, 11, 15, 16, 17, 22, 23, 24, 39, 40, 41]), [none, none, none, none, none], []⟩ .normal (Qs a0 a1 x17 b3_0z b3_1z b3_2z x24 (w64 (b2_0zz + (w64 ((((a0.getD x17.toNat default).Shapes).getD x24.toNat 0) * (((a0.getD x17.toNat default).Shapes).getD x41.toNat 0))))) b2_1zz b2_2zz b2_3zz b2_4zz b2_5zz b2_6zz b2_7zz b2_8zz (w64 (x41 + 1))) (an (an (ti tt) (an (te h10645) (an (an (ti (an h10646 (an e10647 (t2 tt)))) e10654) (t2 tt)))) (ti tt)) (by kernel_rfl)
     exact Qd pm pn hv hq h2
    ·rcases ifs h with ⟨h10655, h⟩ | ⟨h10655, h⟩
     ·have e10656 := (show (0 <= x24 /\ x24 < ((3 : Nat) : Int)) /\ VV.pt 2 (0 + x24.toNat * 1) = VV.pt 2 1 from ⟨⟨by have := (of_decide_eq_true (dt h10655)); omega, by have := (of_decide_eq_true (dt h10655)); omega⟩, by rw [show x24 = (1 : Int) from (of_decide_eq_true (dt h10655))]; rfl⟩)
      have e10659 := (t2 (an e10649 (an e10656 (t5 (an e10649 (an e10656 (ti tt)))))))
      have h2 := ih _ _ _ _ _ _ _ _ _ _ _ h
      obtain ⟨q, hv, hq⟩ := pK none Try.prog Try.f48 2 (Qs a0 a1 x17 b3_0z b3_1z b3_2z x24 b2_0zz b2_1zz b2_2zz b2_3zz b2_4zz b2_5zz b2_6zz b2_7zz b2_8zz x41) [.reg (.n :: []), .br true, .reg (Qam a0 x17 x41), .reg Qyn, .reg (.n :: .n :: [])] ⟨(tn [1, 4, 5, 6, 7, 9, 10, 11, 15, 16, 17, 22, 23, 24, 39, 40, 41]), [none, none, none, none, none], []⟩ .normal (Qs a0 a1 x17 b3_0z b3_1z b3_2z x24 b2_0zz (w64 (b2_1zz + (w64 ((((a0.getD x17.toNat default).Shapes).getD x24.toNat 0) * (((a0.getD x17.toNat default).Shapes).getD x41.toNat 0))))) b2_2zz b2_3zz b2_4zz b2_5zz b2_6zz b2_7zz b2_8zz (w64 (x41 + 1))) (an (an (ti tt) (an (te h10645) (an (an (ti (an h10646 (an e10647 (t2 tt)))) e10659) (t2 tt)))) (ti tt)) (by kernel_rfl)
      exact Qd pm pn hv hq h2
     ·rcases ifs h with ⟨h10660, h⟩ | ⟨h10660, h⟩
      ·have e10661 := (show (0 <= x24 /\ x24 < ((3 : Nat) : Int)) /\ VV.pt 2 (0 + x24.toNat * 1) = VV.pt 2 2 from ⟨⟨by have := (of_decide_eq_true (dt h10660)); omega, by have := (of_decide_eq_true (dt h10660)); omega⟩, by rw [show x24 = (2 : Int) from (of_decide_eq_true (dt h10660))]; rfl⟩)
       have e10664 := (t2 (an e10649 (an e10661 (t5 (an e10649 (an e10661 (ti tt)))))))
       have h2 := ih _ _ _ _ _ _ _ _ _ _ _ h
       obtain ⟨q, hv, hq⟩ := pK none Try.prog Try.f48 2 (Qs a0 a1 x17 b3_0z b3_1z b3_2z x24 b2_0zz b2_1zz b2_2zz b2_3zz b2_4zz b2_5zz b2_6zz b2_7zz b2_8zz x41) [.reg (.n :: []), .br true, .reg (Qam a0 x17 x41), .reg Qyo, .reg (.n :: .n :: [])] ⟨(tn [1, 4, 5, 6, 7, 9, 10, 11, 15, 16, 17, 22, 23, 24, 39, 40, 41]), [none, none, none, none, none], []⟩ .normal (Qs a0 a1 x17 b3_0z b3_1z b3_2z x24 b2_0zz b2_1zz (w64 (b2_2zz + (w64 ((((a0.getD x17.toNat default).Shapes).getD x24.toNat 0) * (((a0.getD x17.toNat default).Shapes).getD x41.toNat 0))))) b2_3zz b2_4zz b2_5zz b2_6zz b2_7zz b2_8zz (w64 (x41 + 1))) (an (an (ti tt) (an (te h10645) (an (an (ti (an h10646 (an e10647 (t2 tt)))) e10664) (t2 tt)))) (ti tt)) (by kernel_rfl)
       exact Qd pm pn hv hq h2
      ·cases h
   ·rcases ifs h with ⟨h10665, h⟩ | ⟨h10665, h⟩
    ·have e10666 := (show (0 <= x41 /\ x41 < ((3 : Nat) : Int)) /\ VV.pt 2 (0 + x41.toNat * 3) = VV.pt 2 3 from ⟨⟨by have := (of_decide_eq_true (dt h10665)); omega, by have := (of_decide_eq_true (dt h10665)); omega⟩, by rw [show x41 = (1 : Int) from (of_decide_eq_true (dt h10665))]; rfl⟩)
     rcases ifs h with ⟨h10667, h⟩ | ⟨h10667, h⟩
     ·have e10668 := (show (0 <= x24 /\ x24 < ((3 : Nat) : Int)) /\ VV.pt 2 (3 + x24.toNat * 1) = VV.pt 2 3 from ⟨⟨by have := (of_decide_eq_true (dt h10667)); omega, by have := (of_decide_eq_true (dt h10667)); omega⟩, by rw [show x24 = (0 : Int) from (of_decide_eq_true (dt h10667))]; rfl⟩)
      have e10671 := (t2 (an e10666 (an e10668 (t5 (an e10666 (an e10668 (ti tt)))))))
      have h2 := ih _ _ _ _ _ _ _ _ _ _ _ h
      obtain ⟨q, hv, hq⟩ := pK none Try.prog Try.f48 2 (Qs a0 a1 x17 b3_0z b3_1z b3_2z x24 b2_0zz b2_1zz b2_2zz b2_3zz b2_4zz b2_5zz b2_6zz b2_7zz b2_8zz x41) [.reg (.n :: []), .br true, .reg (Qam a0 x17 x41), .reg Qyp, .reg (.n :: .n :: [])] ⟨(tn [1, 4, 5, 6, 7, 9, 10, 11, 15, 16, 17, 22, 23, 24, 39, 40, 41]), [none, none, none, none, none], []⟩ .normal (Qs a0 a1 x17 b3_0z b3_1z b3_2z x24 b2_0zz b2_1zz b2_2zz (w64 (b2_3zz + (w64 ((((a0.getD x17.toNat default).Shapes).getD x24.toNat 0) * (((a0.getD x17.toNat default).Shapes).getD x41.toNat 0))))) b2_4zz b2_5zz b2_6zz b2_7zz b2_8zz (w64 (x41 + 1))) (an (an (ti tt) (an (te h10645) (an (an (ti (an h10646 (an e10647 (t2 tt)))) e10671) (t2 tt)))) (ti tt)) (by kernel_rfl)
      exact Qd pm pn hv hq h2
     ·rcases ifs h with ⟨h10672, h⟩ | ⟨h10672, h⟩
      ·have e10673 := (show (0 <= x24 /\ x24 < ((3 : Nat) : Int)) /\ VV.pt 2 (3 + x24.toNat * 1) = VV.pt 2 4 from ⟨⟨by have := (of_decide_eq_true (dt h10672)); omega, by have := (of_decide_eq_true (dt h10672)); omega⟩, by rw [show x24 = (1 : Int) from (of_decide_eq_true (dt h10672))]; rfl⟩)
       have e10676 := (t2 (an e10666 (an e10673 (t5 (an e10666 (an e10673 (ti tt)))))))
       have h2 := ih _ _ _ _ _ _ _ _ _ _ _ h
       obtain ⟨q, hv, hq⟩ := pK none Try.prog Try.f48 2 (Qs a0 a1 x17 b3_0z b3_1z b3_2z x24 b2_0zz b2_1zz b2_2zz b2_3zz b2_4zz b2_5zz b2_6zz b2_7zz b2_8zz x41) [.reg (.n :: []), .br true, .reg (Qam a0 x17 x41), .reg Qyq, .reg (.n :: .n :: [])] ⟨(tn [1, 4, 5, 6, 7, 9, 10, 11, 15, 16, 17, 22, 23, 24, 39, 40, 41]), [none, none, none, none, none], []⟩ .normal (Qs a0 a1 x17 b3_0z b3_1z b3_2z x24 b2_0zz b2_1zz b2_2zz b2_3zz (w64 (b2_4zz + (w64 ((((a0.getD x17.toNat default).Shapes).getD x24.toNat 0) * (((a0.getD x17.toNat default).Shapes).getD x41.toNat 0))))) b2_5zz b2_6zz b2_7zz b2_8zz (w64 (x41 + 1))) (an (an (ti tt) (an (te h10645) (an (an (ti (an h10646 (an e10647 (t2 tt)))) e10676) (t2 tt)))) (ti tt)) (by kernel_rfl)
       exact Qd pm pn hv hq h2
      ·rcases ifs h with ⟨h10677, h⟩ | ⟨h10677, h⟩
       ·have e10678 := (show (0 <= x24 /\ x24 < ((3 : Nat) : Int)) /\ VV.pt 2 (3 + x24.toNat * 1) = VV.pt 2 5 from ⟨⟨by have := (of_decide_eq_true (dt h10677)); omega, by have := (of_decide_eq_true (dt h10677)); omega⟩, by rw [show x24 = (2 : Int) from (of_decide_eq_true (dt h10677))]; rfl⟩)
        have e10681 := (t2 (an e10666 (an e10678 (t5 (an e10666 (an e10678 (ti tt)))))))
        have h2 := ih _ _ _ _ _ _ _ _ _ _ _ h
        obtain ⟨q, hv, hq⟩ := pK none Try.prog Try.f48 2 (Qs a0 a1 x17 b3_0z b3_1z b3_2z x24 b2_0zz b2_1zz b2_2zz b2_3zz b2_4zz b2_5zz b2_6zz b2_7zz b2_8zz x41) [.reg (.n :: []), .br true, .reg (Qam a0 x17 x41), .reg Qyr, .reg (.n :: .n :: [])] ⟨(tn [1, 4, 5, 6, 7, 9, 10, 11, 15, 16, 17, 22, 23, 24, 39, 40, 41]), [none, none, none, none, none], []⟩ .normal (Qs a0 a1 x17 b3_0z b3_1z b3_2z x24 b2_0zz b2_1zz b2_2zz b2_3zz b2_4zz (w64 (b2_5zz + (w64 ((((a0.getD x17.toNat default).Shapes).getD x24.toNat 0) * (((a0.getD x17.toNat default).Shapes).getD x41.toNat 0))))) b2_6zz b2_7zz b2_8zz (w64 (x41 + 1))) (an (an (ti tt) (an (te h10645) (an (an (ti (an h10646 (an e10647 (t2 tt)))) e10681) (t2 tt)))) (ti tt)) (by kernel_rfl)
        exact Qd pm pn hv hq h2
       ·cases h
    ·rcases ifs h with ⟨h10682, h⟩ | ⟨h10682, h⟩
     ·have e10683 := (show (0 <= x41 /\ x41 < ((3 : Nat) : Int)) /\ VV.pt 2 (0 + x41.toNat * 3) = VV.pt 2 6 from ⟨⟨by have := (of_decide_eq_true (dt h10682)); omega, by have := (of_decide_eq_true (dt h10682)); omega⟩, by rw [show x41 = (2 : Int) from (of_decide_eq_true (dt h10682))]; rfl⟩)
      rcases ifs h with ⟨h10684, h⟩ | ⟨h10684, h⟩
      ·have e10685 := (show (0 <= x24 /\ x24 < ((3 : Nat) : Int)) /\ VV.pt 2 (6 + x24.toNat * 1) = VV.pt 2 6 from ⟨⟨by have := (of_decide_eq_true (dt h10684)); omega, by have := (of_decide_eq_true (dt h10684)); omega⟩, by rw [show x24 = (0 : Int) from (of_decide_eq_true (dt h10684))]; rfl⟩)
       have e10688 := (t2 (an e10683 (an e10685 (t5 (an e10683 (an e10685 (ti tt)))))))
       have h2 := ih _ _ _ _ _ _ _ _ _ _ _ h
       obtain ⟨q, hv, hq⟩ := pK none Try.prog Try.f48 2 (Qs a0 a1 x17 b3_0z b3_1z b3_2z x24 b2_0zz b2_1zz b2_2zz b2_3zz b2_4zz b2_5zz b2_6zz b2_7zz b2_8zz x41) [.reg (.n :: []), .br true, .reg (Qam a0 x17 x41), .reg Qys, .reg (.n :: .n :: [])] ⟨(tn [1, 4, 5, 6, 7, 9, 10, 11, 15, 16, 17, 22, 23, 24, 39, 40, 41]), [none, none, none, none, none], []⟩ .normal (Qs a0 a1 x17 b3_0z b3_1z b3_2z x24 b2_0zz b2_1zz b2_2zz b2_3zz b2_4zz b2_5zz (w64 (b2_6zz + (w64 ((((a0.getD x17.toNat default).Shapes).getD x24.toNat 0) * (((a0.getD x17.toNat default).Shapes).getD x41.toNat 0))))) b2_7zz b2_8zz (w64 (x41 + 1))) (an (an (ti tt) (an (te h10645) (an (an (ti (an h10646 (an e10647 (t2 tt)))) e10688) (t2 tt)))) (ti tt)) (by kernel_rfl)
       exact Qd pm pn hv hq h2
      ·rcases ifs h with ⟨h10689, h⟩ | ⟨h10689, h⟩
       ·have e10690 := (show (0 <= x24 /\ x24 < ((3 : Nat) : Int)) /\ VV.pt 2 (6 + x24.toNat * 1) = VV.pt 2 7 from ⟨⟨by have := (of_decide_eq_true (dt h10689)); omega, by have := (of_decide_eq_true (dt h10689)); omega⟩, by rw [show x24 = (1 : Int) from (of_decide_eq_true (dt h10689))]; rfl⟩)
        have e10693 := (t2 (an e10683 (an e10690 (t5 (an e10683 (an e10690 (ti tt)))))))
        have h2 := ih _ _ _ _ _ _ _ _ _ _ _ h
        obtain ⟨q, hv, hq⟩ := pK none Try.prog Try.f48 2 (Qs a0 a1 x17 b3_0z b3_1z b3_2z x24 b2_0zz b2_1zz b2_2zz b2_3zz b2_4zz b2_5zz b2_6zz b2_7zz b2_8zz x41) [.reg (.n :: []), .br true, .reg (Qam a0 x17 x41), .reg Qtv, .reg (.n :: .n :: [])] ⟨(tn [1, 4, 5, 6, 7, 9, 10, 11, 15, 16, 17, 22, 23, 24, 39, 40, 41]), [none, none, none, none, none], []⟩ .normal (Qs a0 a1 x17 b3_0z b3_1z b3_2z x24 b2_0zz b2_1zz b2_2zz b2_3zz b2_4zz b2_5zz b2_6zz (w64 (b2_7zz + (w64 ((((a0.getD x17.toNat default).Shapes).getD x24.toNat 0) * (((a0.getD x17.toNat default).Shapes).getD x41.toNat 0))))) b2_8zz (w64 (x41 + 1))) (an (an (ti tt) (an (te h10645) (an (an (ti (an h10646 (an e10647 (t2 tt)))) e10693) (t2 tt)))) (ti tt)) (by kernel_rfl)
        exact Qd pm pn hv hq h2
       ·rcases ifs h with ⟨h10694, h⟩ | ⟨h10694, h⟩
        ·have e10695 := (show (0 <= x24 /\ x24 < ((3 : Nat) : Int)) /\ VV.pt 2 (6 + x24.toNat * 1) = VV.pt 2 8 from ⟨⟨by have := (of_decide_eq_true (dt h10694)); omega, by have := (of_decide_eq_true (dt h10694)); omega⟩, by rw [show x24 = (2 : Int) from (of_decide_eq_true (dt h10694))]; rfl⟩)
         have e10698 := (t2 (an e10683 (an e10695 (t5 (an e10683 (an e10695 (ti tt)))))))
         have h2 := ih _ _ _ _ _ _ _ _ _ _ _ h
         obtain ⟨q, hv, hq⟩ := pK none Try.prog Try.f48 2 (Qs a0 a1 x17 b3_0z b3_1z b3_2z x24 b2_0zz b2_1zz b2_2zz b2_3zz b2_4zz b2_5zz b2_6zz b2_7zz b2_8zz x41) [.reg (.n :: []), .br true, .reg (Qam a0 x17 x41), .reg Qtw, .reg (.n :: .n :: [])] ⟨(tn [1, 4, 5, 6, 7, 9, 10, 11, 15, 16, 17, 22, 23, 24, 39, 40, 41]), [none, none, none, none, none], []⟩ .normal (Qs a0 a1 x17 b3_0z b3_1z b3_2z x24 b2_0zz b2_1zz b2_2zz b2_3zz b2_4zz b2_5zz b2_6zz b2_7zz (w64 (b2_8zz + (w64 ((((a0.getD x17.toNat default).Shapes).getD x24.toNat 0) * (((a0.getD x17.toNat default).Shapes).getD x41.toNat 0))))) (w64 (x41 + 1))) (an (an (ti tt) (an (te h10645) (an (an (ti (an h10646 (an e10647 (t2 tt)))) e10698) (t2 tt)))) (ti tt)) (by kernel_rfl)
         exact Qd pm pn hv hq h2
        ·cases h
     ·cases h
  ·obtain rfl := si h
   exact Qk (c := ⟨(tn [1, 4, 5, 6, 7, 9, 15, 16, 17, 22, 23, 24]), [none, none, none, none, none], []⟩) (s1 := (Qee a0 a1 x17 b3_0z b3_1z b3_2z x24 (b2_0zz, b2_1zz, b2_2zz, b2_3zz, b2_4zz, b2_5zz, b2_6zz, b2_7zz, b2_8zz))) pm pn (ans := [.reg (.n :: []), .br false]) (by kernel_rfl) nofun (an (an (ti tt) (tf h10645)) (ti tt))
def Qu (a0 : (List Zk)) (a1 : Int) (x17 : Int) (b3_0z : Int) (b3_1z : Int) (b3_2z : Int) (x24 : Int) (b2_0zz : Int) (b2_1zz : Int) (b2_2zz : Int) (b2_3zz : Int) (b2_4zz : Int) (b2_5zz : Int) (b2_6zz : Int) (b2_7zz : Int) (b2_8zz : Int) (x41 : Int) : VS := ⟨mkA [(1, vi a1), (4, VV.pt 0 0), (5, VV.pt 1 0), (6, VV.pt 2 0), (7, VV.pt 3 0), (9, VV.pt 4 0), (10, vi x24), (11, vi (((a0.getD x17.toNat default).Shapes).getD x24.toNat 0)), (15, VV.tr (flatMap Zj a0) a0.length), (16, vi (a0.length : Int)), (17, vi x17), (22, VV.tr (List.map vi ((a0.getD x17.toNat default).Shapes)) (((a0.getD x17.toNat default).Shapes).length)), (23, vi (((a0.getD x17.toNat default).Shapes).length : Int)), (24, vi x24), (39, VV.tr (List.map vi ((a0.getD x17.toNat default).Shapes)) (((a0.getD x17.toNat default).Shapes).length)), (40, vi (((a0.getD x17.toNat default).Shapes).length : Int)), (41, vi x41)], [some ⟨true, 1, [vi 0, vi 0, vi 0, vi 0, vi 0, vi 0, vi 0, vi 0, vi 0]⟩, some ⟨true, 1, [vi 0, vi 0, vi 0]⟩, some ⟨true, 1, [vi b2_0zz, vi b2_1zz, vi b2_2zz, vi b2_3zz, vi b2_4zz, vi b2_5zz, vi b2_6zz, vi b2_7zz, vi b2_8zz]⟩, some ⟨true, 1, [vi b3_0z, vi (w64 (b3_1z + (w64 ((((a0.getD x17.toNat default).Shapes).getD x24.toNat 0) * ((a0.getD x17.toNat default).Error))))), vi b3_2z]⟩, some ⟨true, 1, Zj (a0.getD x17.toNat default)⟩], .nil⟩
def Qef (a0 : (List Zk)) (a1 : Int) (x17 : Int) (b3_0z : Int) (b3_1z : Int) (b3_2z : Int) (x24 : Int) (r : Int × Int × Int × Int × Int × Int × Int × Int × Int) : VS := ⟨mkA [(1, vi a1), (4, VV.pt 0 0), (5, VV.pt 1 0), (6, VV.pt 2 0), (7, VV.pt 3 0), (9, VV.pt 4 0), (15, VV.tr (flatMap Zj a0) a0.length), (16, vi (a0.length : Int)), (17, vi x17), (22, VV.tr (List.map vi ((a0.getD x17.toNat default).Shapes)) (((a0.getD x17.toNat default).Shapes).length)), (23, vi (((a0.getD x17.toNat default).Shapes).length : Int)), (24, vi x24)], [some ⟨true, 1, [vi 0, vi 0, vi 0, vi 0, vi 0, vi 0, vi 0, vi 0, vi 0]⟩, some ⟨true, 1, [vi 0, vi 0, vi 0]⟩, some ⟨true, 1, [vi r.1, vi r.2.1, vi r.2.2.1, vi r.2.2.2.1, vi r.2.2.2.2.1, vi r.2.2.2.2.2.1, vi r.2.2.2.2.2.2.1, vi r.2.2.2.2.2.2.2.1, vi r.2.2.2.2.2.2.2.2]⟩, some ⟨true, 1, [vi b3_0z, vi (w64 (b3_1z + (w64 ((((a0.getD x17.toNat default).Shapes).getD x24.toNat 0) * ((a0.getD x17.toNat default).Error))))), vi b3_2z]⟩, some ⟨true, 1, Zj (a0.getD x17.toNat default)⟩], .nil⟩
theorem Qjl (k : Nat) (a0 : (List Zk)) (a1 : Int) (x17 : Int) (b3_0z : Int) (b3_1z : Int) (b3_2z : Int) (x24 : Int) : ∀ (fuel : Nat) (b2_0zz : Int) (b2_1zz : Int) (b2_2zz : Int) (b2_3zz : Int) (b2_4zz : Int) (b2_5zz : Int) (b2_6zz : Int) (b2_7zz : Int) (b2_8zz : Int) (x41 : Int) (r : Int × Int × Int × Int × Int × Int × Int × Int × Int), Z5 k a0 a1 x17 b3_0z b3_1z b3_2z x24 fuel b2_0zz b2_1zz b2_2zz b2_3zz b2_4zz b2_5zz b2_6zz b2_7zz b2_8zz x41 = some r -> (Jb none Try.prog (szF Try.f48) (Zy Try.f48 2) (Qu a0 a1 x17 b3_0z b3_1z b3_2z x24 b2_0zz b2_1zz b2_2zz b2_3zz b2_4zz b2_5zz b2_6zz b2_7zz b2_8zz x41) (.exit 4) (Qef a0 a1 x17 b3_0z b3_1z b3_2z x24 r)) := by
 intro fuel
 induction fuel with
 | zero => intro b2_0zz b2_1zz b2_2zz b2_3zz b2_4zz b2_5zz b2_6zz b2_7zz b2_8zz x41 r h; rw [Z5.eq_1] at h; cases h
 | succ fuel ih =>
  intro b2_0zz b2_1zz b2_2zz b2_3zz b2_4zz b2_5zz b2_6zz b2_7zz b2_8zz x41 r h
  rw [Z5.eq_2] at h
  rcases ifs h with ⟨h10833, h⟩ | ⟨h10833, h⟩
  ·obtain ⟨h10834, h⟩ := ifn h
   have e10835 := (X8 ag3 vi ((a0.getD x17.toNat default).Shapes) 0 h10834 rfl)
   rcases ifs h with ⟨h10836, h⟩ | ⟨h10836, h⟩
   ·have e10837 := (show (0 <= x41 /\ x41 < ((3 : Nat) : Int)) /\ VV.pt 2 (0 + x41.toNat * 3) = VV.pt 2 0 from ⟨⟨by have := (of_decide_eq_true (dt h10836)); omega, by have := (of_decide_eq_true (dt h10836)); omega⟩, by rw [show x41 = (0 : Int) from (of_decide_eq_true (dt h10836))]; rfl⟩)
    rcases ifs h with ⟨h10838, h⟩ | ⟨h10838, h⟩
    ·have e10839 := (show (0 <= x24 /\ x24 < ((3 : Nat) : Int)) /\ VV.pt 2 (0 + x24.toNat * 1) = VV.pt 2 0 from ⟨⟨by have := (of_decide_eq_true (dt h10838)); omega, by have := (of_decide_eq_true (dt h10838)); omega⟩, by rw [show x24 = (0 : Int) from (of_decide_eq_true (dt h10838))]; rfl⟩)
     have e10842 := (t2 (an e10837 (an e10839 (t5 (an e10837 (an e10839 (ti tt)))))))
     have h2 := ih _ _ _ _ _ _ _ _ _ _ _ h
     obtain ⟨q, hv, hq⟩ := pK none Try.prog Try.f48 2 (Qu a0 a1 x17 b3_0z b3_1z b3_2z x24 b2_0zz b2_1zz b2_2zz b2_3zz b2_4zz b2_5zz b2_6zz b2_7zz b2_8zz x41) [.reg (.n :: []), .br true, .reg (Qam a0 x17 x41), .reg Qym, .reg (.n :: .n :: [])] ⟨(tn [1, 4, 5, 6, 7, 9, 10, 11, 15, 16, 17, 22, 23, 24, 39, 40, 41]), [none, none, none, none, none], []⟩ .normal (Qu a0 a1 x17 b3_0z b3_1z b3_2z x24 (w64 (b2_0zz + (w64 ((((a0.getD x17.toNat default).Shapes).getD x24.toNat 0) * (((a0.getD x17.toNat default).Shapes).getD x41.toNat 0))))) b2_1zz b2_2zz b2_3zz b2_4zz b2_5zz b2_6zz b2_7zz b2_8zz (w64 (x41 + 1))) (an (an (ti tt) (an (te h10833) (an (an (ti (an h10834 (an e10835 (t2 tt)))) e10842) (t2 tt)))) (ti tt)) (by kernel_rfl)
     exact Qd pm pn hv hq h2
    ·rcases ifs h with ⟨h10843, h⟩ | ⟨h10843, h⟩
     ·have e10844 := (show (0 <= x24 /\ x24 < ((3 : Nat) : Int)) /\ VV.pt 2 (0 + x24.toNat * 1) = VV.pt 2 1 from ⟨⟨by have := (of_decide_eq_true (dt h10843)); omega, by have := (of_decide_eq_true (dt h10843)); omega⟩, by rw [show x24 = (1 : Int) from (of_decide_eq_true (dt h10843))]; rfl⟩)
      have e10847 := (t2 (an e10837 (an e10844 (t5 (an e10837 (an e10844 (ti tt)))))))
      have h2 := ih _ _ _ _ _ _ _ _ _ _ _ h
      obtain ⟨q, hv, hq⟩ := pK none Try.prog Try.f48 2 (Qu a0 a1 x17 b3_0z b3_1z b3_2z x24 b2_0zz b2_1zz b2_2zz b2_3zz b2_4zz b2_5zz b2_6zz b2_7zz b2_8zz x41) [.reg (.n :: []), .br true, .reg (Qam a0 x17 x41), .reg Qyn, .reg (.n :: .n :: [])] ⟨(tn [1, 4, 5, 6, 7, 9, 10, 11, 15, 16, 17, 22, 23, 24, 39, 40, 41]), [none, none, none, none, none], []⟩ .normal (Qu a0 a1 x17 b3_0z b3_1z b3_2z x24 b2_0zz (w64 (b2_1zz + (w64 ((((a0.getD x17.toNat default).Shapes).getD x24.toNat 0) * (((a0.getD x17.toNat default).Shapes).getD x41.toNat 0))))) b2_2zz b2_3zz b2_4zz b2_5zz b2_6zz b2_7zz b2_8zz (w64 (x41 + 1))) (an (an (ti tt) (an (te h10833) (an (an (ti (an h10834 (an e10835 (t2 tt)))) e10847) (t2 tt)))) (ti tt)) (by kernel_rfl)
      exact Qd pm pn hv hq h2
     ·rcases ifs h with ⟨h10848, h⟩ | ⟨h10848, h⟩
      ·have e10849 := (show (0 <= x24 /\ x24 < ((3 : Nat) : Int)) /\ VV.pt 2 (0 + x24.toNat * 1) = VV.pt 2 2 from ⟨⟨by have := (of_decide_eq_true (dt h10848)); omega, by have := (of_decide_eq_true (dt h10848)); omega⟩, by rw [show x24 = (2 : Int) from (of_decide_eq_true (dt h10848))]; rfl⟩)
       have e10852 := (t2 (an e10837 (an e10849 (t5 (an e10837 (an e10849 (ti tt)))))))
       have h2 := ih _ _ _ _ _ _ _ _ _ _ _ h
       obtain ⟨q, hv, hq⟩ := pK none Try.prog Try.f48 2 (Qu a0 a1 x17 b3_0z b3_1z b3_2z x24 b2_0zz b2_1zz b2_2zz b2_3zz b2_4zz b2_5zz b2_6zz b2_7zz b2_8zz x41) [.reg (.n :: []), .br true, .reg (Qam a0 x17 x41), .reg Qyo, .reg (.n :: .n :: [])] ⟨(tn [1, 4, 5, 6, 7, 9, 10, 11, 15, 16, 17, 22, 23, 24, 39, 40, 41]), [none, none, none, none, none], []⟩ .normal (Qu a0 a1 x17 b3_0z b3_1z b3_2z x24 b2_0zz b2_1zz (w64 (b2_2zz + (w64 ((((a0.getD x17.toNat default).Shapes).getD x24.toNat 0) * (((a0.getD x17.toNat default).Shapes).getD x41.toNat 0))))) b2_3zz b2_4zz b2_5zz b2_6zz b2_7zz b2_8zz (w64 (x41 + 1))) (an (an (ti tt) (an (te h10833) (an (an (ti (an h10834 (an e10835 (t2 tt)))) e10852) (t2 tt)))) (ti tt)) (by kernel_rfl)
       exact Qd pm pn hv hq h2
      ·cases h
   ·rcases ifs h with ⟨h10853, h⟩ | ⟨h10853, h⟩
    ·have e10854 := (show (0 <= x41 /\ x41 < ((3 : Nat) : Int)) /\ VV.pt 2 (0 + x41.toNat * 3) = VV.pt 2 3 from ⟨⟨by have := (of_decide_eq_true (dt h10853)); omega, by have := (of_decide_eq_true (dt h10853)); omega⟩, by rw [show x41 = (1 : Int) from (of_decide_eq_true (dt h10853))]; rfl⟩)
     rcases ifs h with ⟨h10855, h⟩ | ⟨h10855, h⟩
     ·have e10856 := (show (0 <= x24 /\ x24 < ((3 : Nat) : Int)) /\ VV.pt 2 (3 + x24.toNat * 1) = VV.pt 2 3 from ⟨⟨by have := (of_decide_eq_true (dt h10855)); omega, by have := (of_decide_eq_true (dt h10855)); omega⟩, by rw [show x24 = (0 : Int) from (of_decide_eq_true (dt h10855))]; rfl⟩)
      have e10859 := (t2 (an e10854 (an e10856 (t5 (an e10854 (an e10856 (ti tt)))))))
      have h2 := ih _ _ _ _ _ _ _ _ _ _ _ h
      obtain ⟨q, hv, hq⟩ := pK none Try.prog Try.f48 2 (Qu a0 a1 x17 b3_0z b3_1z b3_2z x24 b2_0zz b2_1zz b2_2zz b2_3zz b2_4zz b2_5zz b2_6zz b2_7zz b2_8zz x41) [.reg (.n :: []), .br true, .reg (Qam a0 x17 x41), .reg Qyp, .reg (.n :: .n :: [])] ⟨(tn [1, 4, 5, 6, 7, 9, 10, 11, 15, 16, 17, 22, 23, 24, 39, 40, 41]), [none, none, none, none, none], []⟩ .normal (Qu a0 a1 x17 b3_0z b3_1z b3_2z x24 b2_0zz b2_1zz b2_2zz (w64 (b2_3zz + (w64 ((((a0.getD x17.toNat default).Shapes).getD x24.toNat 0) * (((a0.getD x17.toNat default).Shapes).getD x41.toNat 0))))) b2_4zz b2_5zz b2_6zz b2_7zz b2_8zz (w64 (x41 + 1))) (an (an (ti tt) (an (te h10833) (an (an (ti (an h10834 (an e10835 (t2 tt)))) e10859) (t2 tt)))) (ti tt)) (by kernel_rfl)
      exact Qd pm pn hv hq h2
     ·rcases ifs h with ⟨h10860, h⟩ | ⟨h10860, h⟩
      ·have e10861 := (show (0 <= x24 /\ x24 < ((3 : Nat) : Int)) /\ VV.pt 2 (3 + x24.toNat * 1) = VV.pt 2 4 from ⟨⟨by have := (of_decide_eq_true (dt h10860)); omega, by have := (of_decide_eq_true (dt h10860)); omega⟩, by rw [show x24 = (1 : Int) from (of_decide_eq_true (dt h10860))]; rfl⟩)
       have e10864 := (t2 (an e10854 (an e10861 (t5 (an e10854 (an e10861 (ti tt)))))))
       have h2 := ih _ _ _ _ _ _ _ _ _ _ _ h
       obtain ⟨q, hv, hq⟩ := pK none Try.prog Try.f48 2 (Qu a0 a1 x17 b3_0z b3_1z b3_2z x24 b2_0zz b2_1zz b2_2zz b2_3zz b2_4zz b2_5zz b2_6zz b2_7zz b2_8zz x41) [.reg (.n :: []), .br true, .reg (Qam a0 x17 x41), .reg Qyq, .reg (.n :: .n :: [])] ⟨(tn [1, 4, 5, 6, 7, 9, 10, 11, 15, 16, 17, 22, 23, 24, 39, 40, 41]), [none, none, none, none, none], []⟩ .normal (Qu a0 a1 x17 b3_0z b3_1z b3_2z x24 b2_0zz b2_1zz b2_2zz b2_3zz (w64 (b2_4zz + (w64 ((((a0.getD x17.toNat default).Shapes).getD x24.toNat 0) * (((a0.getD x17.toNat default).Shapes).getD x41.toNat 0))))) b2_5zz b2_6zz b2_7zz b2_8zz (w64 (x41 + 1))) (an (an (ti tt) (an (te h10833) (an (an (ti (an h10834 (an e10835 (t2 tt)))) e10864) (t2 tt)))) (ti tt)) (by kernel_rfl)
       exact Qd pm pn hv hq h2
      ·rcases ifs h with ⟨h10865, h⟩ | ⟨h10865, h⟩
       ·have e10866 := (show (0 <= x24 /\ x24 < ((3 : Nat) : Int)) /\ VV.pt 2 (3 + x24.toNat * 1) = VV.pt 2 5 from ⟨⟨by have := (of_decide_eq_true (dt h10865)); omega, by have := (of_decide_eq_true (dt h10865)); omega⟩, by rw [show x24 = (2 : Int) from (of_decide_eq_true (dt h10865))]; rfl⟩)
        have e10869 := (t2 (an e10854 (an e10866 (t5 (an e10854 (an e10866 (ti tt)))))))
        have h2 := ih _ _ _ _ _ _ _ _ _ _ _ h
        obtain ⟨q, hv, hq⟩ := pK none Try.prog Try.f48 2 (Qu a0 a1 x17 b3_0z b3_1z b3_2z x24 b2_0zz b2_1zz b2_2zz b2_3zz b2_4zz b2_5zz b2_6zz b2_7zz b2_8zz x41) [.reg (.n :: []), .br true, .reg (Qam a0 x17 x41), .reg Qyr, .reg (.n :: .n :: [])] ⟨(tn [1, 4, 5, 6, 7, 9, 10, 11, 15, 16, 17, 22, 23, 24, 39, 40, 41]), [none, none, none, none, none], []⟩ .normal (Qu a0 a1 x17 b3_0z b3_1z b3_2z x24 b2_0zz b2_1zz b2_2zz b2_3zz b2_4zz (w64 (b2_5zz + (w64 ((((a0.getD x17.toNat default).Shapes).getD x24.toNat 0) * (((a0.getD x17.toNat default).Shapes).getD x41.toNat 0))))) b2_6zz b2_7zz b2_8zz (w64 (x41 + 1))) (an (an (ti tt) (an (te h10833) (an (an (ti (an h10834 (an e10835 (t2 tt)))) e10869) (t2 tt)))) (ti tt)) (by kernel_rfl)
        exact Qd pm pn hv hq h2
       ·cases h
    ·rcases ifs h with ⟨h10870, h⟩ | ⟨h10870, h⟩
     ·have e10871 := (show (0 <= x41 /\ x41 < ((3 : Nat) : Int)) /\ VV.pt 2 (0 + x41.toNat * 3) = VV.pt 2 6 from ⟨⟨by have := (of_decide_eq_true (dt h10870)); omega, by have := (of_decide_eq_true (dt h10870)); omega⟩, by rw [show x41 = (2 : Int) from (of_decide_eq_true (dt h10870))]; rfl⟩)
      rcases ifs h with ⟨h10872, h⟩ | ⟨h10872, h⟩
      ·have e10873 := (show (0 <= x24 /\ x24 < ((3 : Nat) : Int)) /\ VV.pt 2 (6 + x24.toNat * 1) = VV.pt 2 6 from ⟨⟨by have := (of_decide_eq_true (dt h10872)); omega, by have := (of_decide_eq_true (dt h10872)); omega⟩, by rw [show x24 = (0 : Int) from (of_decide_eq_true (dt h10872))]; rfl⟩)
       have e10876 := (t2 (an e10871 (an e10873 (t5 (an e10871 (an e10873 (ti tt)))))))
       have h2 := ih _ _ _ _ _ _ _ _ _ _ _ h
       obtain ⟨q, hv, hq⟩ := pK none Try.prog Try.f48 2 (Qu a0 a1 x17 b3_0z b3_1z b3_2z x24 b2_0zz b2_1zz b2_2zz b2_3zz b2_4zz b2_5zz b2_6zz b2_7zz b2_8zz x41) [.reg (.n :: []), .br true, .reg (Qam a0 x17 x41), .reg Qys, .reg (.n :: .n :: [])] ⟨(tn [1, 4, 5, 6, 7, 9, 10, 11, 15, 16, 17, 22, 23, 24, 39, 40, 41]), [none, none, none, none, none], []⟩ .normal (Qu a0 a1 x17 b3_0z b3_1z b3_2z x24 b2_0zz b2_1zz b2_2zz b2_3zz b2_4zz b2_5zz (w64 (b2_6zz + (w64 ((((a0.getD x17.toNat default).Shapes).getD x24.toNat 0) * (((a0.getD x17.toNat default).Shapes).getD x41.toNat 0))))) b2_7zz b2_8zz (w64 (x41 + 1))) (an (an (ti tt) (an (te h10833) (an (an (ti (an h10834 (an e10835 (t2 tt)))) e10876) (t2 tt)))) (ti tt)) (by kernel_rfl)
       exact Qd pm pn hv hq h2
      ·rcases ifs h with ⟨h10877, h⟩ | ⟨h10877, h⟩
       ·have e10878 := (show (0 <= x24 /\ x24 < ((3 : Nat) : Int)) /\ VV.pt 2 (6 + x24.toNat * 1) = VV.pt 2 7 from ⟨⟨by have := (of_decide_eq_true (dt h10877)); omega, by have := (of_decide_eq_true (dt h10877)); omega⟩, by rw [show x24 = (1 : Int) from (of_decide_eq_true (dt h10877))]; rfl⟩)
        have e10881 := (t2 (an e10871 (an e10878 (t5 (an e10871 (an e10878 (ti tt)))))))
        have h2 := ih _ _ _ _ _ _ _ _ _ _ _ h
        obtain ⟨q, hv, hq⟩ := pK none Try.prog Try.f48 2 (Qu a0 a1 x17 b3_0z b3_1z b3_2z x24 b2_0zz b2_1zz b2_2zz b2_3zz b2_4zz b2_5zz b2_6zz b2_7zz b2_8zz x41) [.reg (.n :: []), .br true, .reg (Qam a0 x17 x41), .reg Qtv, .reg (.n :: .n :: [])] ⟨(tn [1, 4, 5, 6, 7, 9, 10, 11, 15, 16, 17, 22, 23, 24, 39, 40, 41]), [none, none, none, none, none], []⟩ .normal (Qu a0 a1 x17 b3_0z b3_1z b3_2z x24 b2_0zz b2_1zz b2_2zz b2_3zz b2_4zz b2_5zz b2_6zz (w64 (b2_7zz + (w64 ((((a0.getD x17.toNat default).Shapes).getD x24.toNat 0) * (((a0.getD x17.toNat default).Shapes).getD x41.toNat 0))))) b2_8zz (w64 (x41 + 1))) (an (an (ti tt) (an (te h10833) (an (an (ti (an h10834 (an e10835 (t2 tt)))) e10881) (t2 tt)))) (ti tt)) (by kernel_rfl)
        exact Qd pm pn hv hq h2
       ·rcases ifs h with ⟨h10882, h⟩ | ⟨h10882, h⟩
        ·have e10883 := (show (0 <= x24 /\ x24 < ((3 : Nat) : Int)) /\ VV.pt 2 (6 + x24.toNat * 1) = VV.pt 2 8 from ⟨⟨by have := (of_decide_eq_true (dt h10882)); omega, by have := (of_decide_eq_true (dt h10882)); omega⟩, by rw [show x24 = (2 : Int) from (of_decide_eq_true (dt h10882))]; rfl⟩)
         have e10886 := (t2 (an e10871 (an e10883 (t5 (an e10871 (an e10883 (ti tt)))))))
         have h2 := ih _ _ _ _ _ _ _ _ _ _ _ h
         obtain ⟨q, hv, hq⟩ := pK none Try.prog Try.f48 2 (Qu a0 a1 x17 b3_0z b3_1z b3_2z x24 b2_0zz b2_1zz b2_2zz b2_3zz b2_4zz b2_5zz b2_6zz b2_7zz b2_8zz x41) [.reg (.n :: []), .br true, .reg (Qam a0 x17 x41), .reg Qtw, .reg (.n :: .n :: [])] ⟨(tn [1, 4, 5, 6, 7, 9, 10, 11, 15, 16, 17, 22, 23, 24, 39, 40, 41]), [none, none, none, none, none], []⟩ .normal (Qu a0 a1 x17 b3_0z b3_1z b3_2z x24 b2_0zz b2_1zz b2_2zz b2_3zz b2_4zz b2_5zz b2_6zz b2_7zz (w64 (b2_8zz + (w64 ((((a0.getD x17.toNat default).Shapes).getD x24.toNat 0) * (((a0.getD x17.toNat default).Shapes).getD x41.toNat 0))))) (w64 (x41 + 1))) (an (an (ti tt) (an (te h10833) (an (an (ti (an h10834 (an e10835 (t2 tt)))) e10886) (t2 tt)))) (ti tt)) (by kernel_rfl)
         exact Qd pm pn hv hq h2
        ·cases h
     ·cases h
  ·obtain rfl := si h
   exact Qk (c := ⟨(tn [1, 4, 5, 6, 7, 9, 15, 16, 17, 22, 23, 24]), [none, none, none, none, none], []⟩) (s1 := (Qef a0 a1 x17 b3_0z b3_1z b3_2z x24 (b2_0zz, b2_1zz, b2_2zz, b2_3zz, b2_4zz, b2_5zz, b2_6zz, b2_7zz, b2_8zz))) pm pn (ans := [.reg (.n :: []), .br false]) (by kernel_rfl) nofun (an (an (ti tt) (tf h10833)) (ti tt))
def Qv (a0 : (List Zk)) (a1 : Int) (x17 : Int) (b3_0z : Int) (b3_1z : Int) (b3_2z : Int) (x24 : Int) (b2_0zz : Int) (b2_1zz : Int) (b2_2zz : Int) (b2_3zz : Int) (b2_4zz : Int) (b2_5zz : Int) (b2_6zz : Int) (b2_7zz : Int) (b2_8zz : Int) (x41 : Int) : VS := ⟨mkA [(1, vi a1), (4, VV.pt 0 0), (5, VV.pt 1 0), (6, VV.pt 2 0), (7, VV.pt 3 0), (9, VV.pt 4 0), (10, vi x24), (11, vi (((a0.getD x17.toNat default).Shapes).getD x24.toNat 0)), (15, VV.tr (flatMap Zj a0) a0.length), (16, vi (a0.length : Int)), (17, vi x17), (22, VV.tr (List.map vi ((a0.getD x17.toNat default).Shapes)) (((a0.getD x17.toNat default).Shapes).length)), (23, vi (((a0.getD x17.toNat default).Shapes).length : Int)), (24, vi x24), (39, VV.tr (List.map vi ((a0.getD x17.toNat default).Shapes)) (((a0.getD x17.toNat default).Shapes).length)), (40, vi (((a0.getD x17.toNat default).Shapes).length : Int)), (41, vi x41)], [some ⟨true, 1, [vi 0, vi 0, vi 0, vi 0, vi 0, vi 0, vi 0, vi 0, vi 0]⟩, some ⟨true, 1, [vi 0, vi 0, vi 0]⟩, some ⟨true, 1, [vi b2_0zz, vi b2_1zz, vi b2_2zz, vi b2_3zz, vi b2_4zz, vi b2_5zz, vi b2_6zz, vi b2_7zz, vi b2_8zz]⟩, some ⟨true, 1, [vi b3_0z, vi b3_1z, vi (w64 (b3_2z + (w64 ((((a0.getD x17.toNat default).Shapes).getD x24.toNat 0) * ((a0.getD x17.toNat default).Error)))))]⟩, some ⟨true, 1, Zj (a0.getD x17.toNat default)⟩], .nil⟩
def Qeg (a0 : (List Zk)) (a1 : Int) (x17 : Int) (b3_0z : Int) (b3_1z : Int) (b3_2z : Int) (x24 : Int) (r : Int × Int × Int × Int × Int × Int × Int × Int × Int) : VS := ⟨mkA [(1, vi a1), (4, VV.pt 0 0), (5, VV.pt 1 0), (6, VV.pt 2 0), (7, VV.pt 3 0), (9, VV.pt 4 0), (15, VV.tr (flatMap Zj a0) a0.length), (16, vi (a0.length : Int)), (17, vi x17), (22, VV.tr (List.map vi ((a0.getD x17.toNat default).Shapes)) (((a0.getD x17.toNat default).Shapes).length)), (23, vi (((a0.getD x17.toNat default).Shapes).length : Int)), (24, vi x24)], [some ⟨true, 1, [vi 0, vi 0, vi 0, vi 0, vi 0, vi 0, vi 0, vi 0, vi 0]⟩, some ⟨true, 1, [vi 0, vi 0, vi 0]⟩, some ⟨true, 1, [vi r.1, vi r.2.1, vi r.2.2.1, vi r.2.2.2.1, vi r.2.2.2.2.1, vi r.2.2.2.2.2.1, vi r.2.2.2.2.2.2.1, vi r.2.2.2.2.2.2.2.1, vi r.2.2.2.2.2.2.2.2]⟩, some ⟨true, 1, [vi b3_0z, vi b3_1z, vi (w64 (b3_2z + (w64 ((((a0.getD x17.toNat default).Shapes).getD x24.toNat 0) * ((a0.getD x17.toNat default).Error)))))]⟩, some ⟨true, 1, Zj (a0.getD x17.toNat default)⟩], .nil⟩
theorem Qjm (k : Nat) (a0 : (List Zk)) (a1 : Int) (x17 : Int) (b3_0z : Int) (b3_1z : Int) (b3_2z : Int) (x24 : Int) : ∀ (fuel : Nat) (b2_0zz : Int) (b2_1zz : Int) (b2_2zz : Int) (b2_3zz : Int) (b2_4zz : Int) (b2_5zz : Int) (b2_6zz : Int) (b2_7zz : Int) (b2_8zz : Int) (x41 : Int) (r : Int × Int × Int × Int × Int × Int × Int × Int × Int), Z5 k a0 a1 x17 b3_0z b3_1z b3_2z x24 fuel b2_0zz b2_1zz b2_2zz b2_3zz b2_4zz b2_5zz b2_6zz b2_7zz b2_8zz x41 = some r -> (Jb none Try.prog (szF Try.f48) (Zy Try.f48 2) (Qv a0 a1 x17 b3_0z b3_1z b3_2z x24 b2_0zz b2_1zz b2_2zz b2_3zz b2_4zz b2_5zz b2_6zz b2_7zz b2_8zz x41) (.exit 4) (Qeg a0 a1 x17 b3_0z b3_1z b3_2z x24 r)) := by
 intro fuel
 induction fuel with
 | zero => intro b2_0zz b2_1zz b2_2zz b2_3zz b2_4zz b2_5zz b2_6zz b2_7zz b2_8zz x41 r h; rw [Z5.eq_1] at h; cases h
 | succ fuel ih =>
  intro b2_0zz b2_1zz b2_2zz b2_3zz b2_4zz b2_5zz b2_6zz b2_7zz b2_8zz x41 r h
  rw [Z5.eq_2] at h
  rcases ifs h with ⟨h11021, h⟩ | ⟨h11021, h⟩
  ·obtain ⟨h11022, h⟩ := ifn h
   have e11023 := (X8 ag3 vi ((a0.getD x17.toNat default).Shapes) 0 h11022 rfl)
   rcases ifs h with ⟨h11024, h⟩ | ⟨h11024, h⟩
   ·have e11025 := (show (0 <= x41 /\ x41 < ((3 : Nat) : Int)) /\ VV.pt 2 (0 + x41.toNat * 3) = VV.pt 2 0 from ⟨⟨by have := (of_decide_eq_true (dt h11024)); omega, by have := (of_decide_eq_true (dt h11024)); omega⟩, by rw [show x41 = (0 : Int) from (of_decide_eq_true (dt h11024))]; rfl⟩)
    rcases ifs h with ⟨h11026, h⟩ | ⟨h11026, h⟩
    ·have e11027 := (show (0 <= x24 /\ x24 < ((3 : Nat) : Int)) /\ VV.pt 2 (0 + x24.toNat * 1) = VV.pt 2 0 from ⟨⟨by have := (of_decide_eq_true (dt h11026)); omega, by have := (of_decide_eq_true (dt h11026)); omega⟩, by rw [show x24 = (0 : Int) from (of_decide_eq_true (dt h11026))]; rfl⟩)
     have e11030 := (t2 (an e11025 (an e11027 (t5 (an e11025 (an e11027 (ti tt)))))))
     have h2 := ih _ _ _ _ _ _ _ _ _ _ _ h
     obtain ⟨q, hv, hq⟩ := pK none Try.prog Try.f48 2 (Qv a0 a1 x17 b3_0z b3_1z b3_2z x24 b2_0zz b2_1zz b2_2zz b2_3zz b2_4zz b2_5zz b2_6zz b2_7zz b2_8zz x41) [.reg (.n :: []), .br true, .reg (Qam a0 x17 x41), .reg Qym, .reg (.n :: .n :: [])] ⟨(tn [1, 4, 5, 6, 7, 9, 10, 11, 15, 16, 17, 22, 23, 24, 39, 40, 41]), [none, none, none, none, none], []⟩ .normal (Qv a0 a1 x17 b3_0z b3_1z b3_2z x24 (w64 (b2_0zz + (w64 ((((a0.getD x17.toNat default).Shapes).getD x24.toNat 0) * (((a0.getD x17.toNat default).Shapes).getD x41.toNat 0))))) b2_1zz b2_2zz b2_3zz b2_4zz b2_5zz b2_6zz b2_7zz b2_8zz (w64 (x41 + 1))) (an (an (ti tt) (an (te h11021) (an (an (ti (an h11022 (an e11023 (t2 tt)))) e11030) (t2 tt)))) (ti tt)) (by kernel_rfl)
     exact Qd pm pn hv hq h2
    ·rcases ifs h with ⟨h11031, h⟩ | ⟨h11031, h⟩
     ·have e11032 := (show (0 <= x24 /\ x24 < ((3 : Nat) : Int)) /\ VV.pt 2 (0 + x24.toNat * 1) = VV.pt 2 1 from ⟨⟨by have := (of_decide_eq_true (dt h11031)); omega, by have := (of_decide_eq_true (dt h11031)); omega⟩, by rw [show x24 = (1 : Int) from (of_decide_eq_true (dt h11031))]; rfl⟩)
      have e11035 := (t2 (an e11025 (an e11032 (t5 (an e11025 (an e11032 (ti tt)))))))
      have h2 := ih _ _ _ _ _ _ _ _ _ _ _ h
      obtain ⟨q, hv, hq⟩ := pK none Try.prog Try.f48 2 (Qv a0 a1 x17 b3_0z b3_1z b3_2z x24 b2_0zz b2_1zz b2_2zz b2_3zz b2_4zz b2_5zz b2_6zz b2_7zz b2_8zz x41) [.reg (.n :: []), .br true, .reg (Qam a0 x17 x41), .reg Qyn, .reg (.n :: .n :: [])] ⟨(tn [1, 4, 5, 6, 7, 9, 10, 11, 15, 16, 17, 22, 23, 24, 39, 40, 41]), [none, none, none, none, none], []⟩ .normal (Qv a0 a1 x17 b3_0z b3_1z b3_2z x24 b2_0zz (w64 (b2_1zz + (w64 ((((a0.getD x17.toNat default).Shapes).getD x24.toNat 0) * (((a0.getD x17.toNat default).Shapes).getD x41.toNat 0))))) b2_2zz b2_3zz b2_4zz b2_5zz b2_6zz b2_7zz b2_8zz (w64 (x41 + 1))) (an (an (ti tt) (an (te h11021) (an (an (ti (an h11022 (an e11023 (t2 tt)))) e11035) (t2 tt)))) (ti tt)) (by kernel_rfl)
      exact Qd pm pn hv hq h2
     ·rcases ifs h with ⟨h11036, h⟩ | ⟨h11036, h⟩
      ·have e11037 := (show (0 <= x24 /\ x24 < ((3 : Nat) : Int)) /\ VV.pt 2 (0 + x24.toNat * 1) = VV.pt 2 2 from ⟨⟨by have := (of_decide_eq_true (dt h11036)); omega, by have := (of_decide_eq_true (dt h11036)); omega⟩, by rw [show x24 = (2 : Int) from (of_decide_eq_true (dt h11036))]; rfl⟩)
       have e11040 := (t2 (an e11025 (an e11037 (t5 (an e11025 (an e11037 (ti tt)))))))
       have h2 := ih _ _ _ _ _ _ _ _ _ _ _ h
       obtain ⟨q, hv, hq⟩ := pK none Try.prog Try.f48 2 (Qv a0 a1 x17 b3_0z b3_1z b3_2z x24 b2_0zz b2_1zz b2_2zz b2_3zz b2_4zz b2_5zz b2_6zz b2_7zz b2_8zz x41) [.reg (.n :: []), .br true, .reg (Qam a0 x17 x41), .reg Qyo, .reg (.n :: .n :: [])] ⟨(tn [1, 4, 5, 6, 7, 9, 10, 11, 15, 16, 17, 22, 23, 24, 39, 40, 41]), [none, none, none, none, none], []⟩ .normal (Qv a0 a1 x17 b3_0z b3_1z b3_2z x24 b2_0zz b2_1zz (w64 (b2_2zz + (w64 ((((a0.getD x17.toNat default).Shapes).getD x24.toNat 0) * (((a0.getD x17.toNat default).Shapes).getD x41.toNat 0))))) b2_3zz b2_4zz b2_5zz b2_6zz b2_7zz b2_8zz (w64 (x41 + 1))) (an (an (ti tt) (an (te h11021) (an (an (ti (an h11022 (an e11023 (t2 tt)))) e11040) (t2 tt)))) (ti tt)) (by kernel_rfl)
       exact Qd pm pn hv hq h2
      ·cases h
   ·rcases ifs h with ⟨h11041, h⟩ | ⟨h11041, h⟩
    ·have e11042 := (show (0 <= x41 /\ x41 < ((3 : Nat) : Int)) /\ VV.pt 2 (0 + x41.toNat * 3) = VV.pt 2 3 from ⟨⟨by have := (of_decide_eq_true (dt h11041)); omega, by have := (of_decide_eq_true (dt h11041)); omega⟩, by rw [show x41 = (1 : Int) from (of_decide_eq_true (dt h11041))]; rfl⟩)
     rcases ifs h with ⟨h11043, h⟩ | ⟨h11043, h⟩
     ·have e11044 := (show (0 <= x24 /\ x24 < ((3 : Nat) : Int)) /\ VV.pt 2 (3 + x24.toNat * 1) = VV.pt 2 3 from ⟨⟨by have := (of_decide_eq_true (dt h11043)); omega, by have := (of_decide_eq_true (dt h11043)); omega⟩, by rw [show x24 = (0 : Int) from (of_decide_eq_true (dt h11043))]; rfl⟩)
      have e11047 := (t2 (an e11042 (an e11044 (t5 (an e11042 (an e11044 (ti tt)))))))
      have h2 := ih _ _ _ _ _ _ _ _ _ _ _ h
      obtain ⟨q, hv, hq⟩ := pK none Try.prog Try.f48 2 (Qv a0 a1 x17 b3_0z b3_1z b3_2z x24 b2_0zz b2_1zz b2_2zz b2_3zz b2_4zz b2_5zz b2_6zz b2_7zz b2_8zz x41) [.reg (.n :: []), .br true, .reg (Qam a0 x17 x41), .reg Qyp, .reg (.n :: .n :: [])] ⟨(tn [1, 4, 5, 6, 7, 9, 10, 11, 15, 16, 17, 22, 23, 24, 39, 40, 41]), [none, none, none, none, none], []⟩ .normal (Qv a0 a1 x17 b3_0z b3_1z b3_2z x24 b2_0zz b2_1zz b2_2zz (w64 (b2_3zz + (w64 ((((a0.getD x17.toNat default).Shapes).getD x24.toNat 0) * (((a0.getD x17.toNat default).Shapes).getD x41.toNat 0))))) b2_4zz b2_5zz b2_6zz b2_7zz b2_8zz (w64 (x41 + 1))) (an (an (ti tt) (an (te h11021) (an (an (ti (an h11022 (an e11023 (t2 tt)))) e11047) (t2 tt)))) (ti tt)) (by kernel_rfl)
      exact Qd pm pn hv hq h2
     ·rcases ifs h with ⟨h11048, h⟩ | ⟨h11048, h⟩
      ·have e11049 := (show (0 <= x24 /\ x24 < ((3 : Nat) : Int)) /\ VV.pt 2 (3 + x24.toNat * 1) = VV.pt 2 4 from ⟨⟨by have := (of_decide_eq_true (dt h11048)); omega, by have := (of_decide_eq_true (dt h11048)); omega⟩, by rw [show x24 = (1 : Int) from (of_decide_eq_true (dt h11048))]; rfl⟩)
       have e11052 := (t2 (an e11042 (an e11049 (t5 (an e11042 (an e11049 (ti tt)))))))
       have h2 := ih _ _ _ _ _ _ _ _ _ _ _ h
       obtain ⟨q, hv, hq⟩ := pK none Try.prog Try.f48 2 (Qv a0 a1 x17 b3_0z b3_1z b3_2z x24 b2_0zz b2_1zz b2_2zz b2_3zz b2_4zz b2_5zz b2_6zz b2_7zz b2_8zz x41) [.reg (.n :: []), .br true, .reg (Qam a0 x17 x41), .reg Qyq, .reg (.n :: .n :: [])] ⟨(tn [1, 4, 5, 6, 7, 9, 10, 11, 15, 16, 17, 22, 23, 24, 39, 40, 41]), [none, none, none, none, none], []⟩ .normal (Qv a0 a1 x17 b3_0z b3_1z b3_2z x24 b2_0zz b2_1zz b2_2zz b2_3zz (w64 (b2_4zz + (w64 ((((a0.getD x17.toNat default).Shapes).getD x24.toNat 0) * (((a0.getD x17.toNat default).Shapes).getD x41.toNat 0))))) b2_5zz b2_6zz b2_7zz b2_8zz (w64 (x41 + 1))) (an (an (ti tt) (an (te h11021) (an (an (ti (an h11022 (an e11023 (t2 tt)))) e11052) (t2 tt)))) (ti tt)) (by kernel_rfl)
       exact Qd pm pn hv hq h2
      ·rcases ifs h with ⟨h11053, h⟩ | ⟨h11053, h⟩
       ·have e11054 := (show (0 <= x24 /\ x24 < ((3 : Nat) : Int)) /\ VV.pt 2 (3 + x24.toNat * 1) = VV.pt 2 5 from ⟨⟨by have := (of_decide_eq_true (dt h11053)); omega, by have := (of_decide_eq_true (dt h11053)); omega⟩, by rw [show x24 = (2 : Int) from (of_decide_eq_true (dt h11053))]; rfl⟩)
        have e11057 := (t2 (an e11042 (an e11054 (t5 (an e11042 (an e11054 (ti tt)))))))
        have h2 := ih _ _ _ _ _ _ _ _ _ _ _ h
        obtain ⟨q, hv, hq⟩ := pK none Try.prog Try.f48 2 (Qv a0 a1 x17 b3_0z b3_1z b3_2z x24 b2_0zz b2_1zz b2_2zz b2_3zz b2_4zz b2_5zz b2_6zz b2_7zz b2_8zz x41) [.reg (.n :: []), .br true, .reg (Qam a0 x17 x41), .reg Qyr, .reg (.n :: .n :: [])] ⟨(tn [1, 4, 5, 6, 7, 9, 10, 11, 15, 16, 17, 22, 23, 24, 39, 40, 41]), [none, none, none, none, none], []⟩ .normal (Qv a0 a1 x17 b3_0z b3_1z b3_2z x24 b2_0zz b2_1zz b2_2zz b2_3zz b2_4zz (w64 (b2_5zz + (w64 ((((a0.getD x17.toNat default).Shapes).getD x24.toNat 0) * (((a0.getD x17.toNat default).Shapes).getD x41.toNat 0))))) b2_6zz b2_7zz b2_8zz (w64 (x41 + 1))) (an (an (ti tt) (an (te h11021) (an (an (ti (an h11022 (an e11023 (t2 tt)))) e11057) (t2 tt)))) (ti tt)) (by kernel_rfl)
        exact Qd pm pn hv hq h2
       ·cases h
    ·rcases ifs h with ⟨h11058, h⟩ | ⟨h11058, h⟩
     ·have e11059 := (show (0 <= x41 /\ x41 < ((3 : Nat) : Int)) /\ VV.pt 2 (0 + x41.toNat * 3) = VV.pt 2 6 from ⟨⟨by have := (of_decide_eq_true (dt h11058)); omega, by have := (of_decide_eq_true (dt h11058)); omega⟩, by rw [show x41 = (2 : Int) from (of_decide_eq_true (dt h11058))]; rfl⟩)
      rcases ifs h with ⟨h11060, h⟩ | ⟨h11060, h⟩
      ·have e11061 := (show (0 <= x24 /\ x24 < ((3 : Nat) : Int)) /\ VV.pt 2 (6 + x24.toNat * 1) = VV.pt 2 6 from ⟨⟨by have := (of_decide_eq_true (dt h11060)); omega, by have := (of_decide_eq_true (dt h11060)); omega⟩, by rw [show x24 = (0 : Int) from (of_decide_eq_true (dt h11060))]; rfl⟩)
       have e11064 := (t2 (an e11059 (an e11061 (t5 (an e11059 (an e11061 (ti tt)))))))
       have h2 := ih _ _ _ _ _ _ _ _ _ _ _ h
       obtain ⟨q, hv, hq⟩ := pK none Try.prog Try.f48 2 (Qv a0 a1 x17 b3_0z b3_1z b3_2z x24 b2_0zz b2_1zz b2_2zz b2_3zz b2_4zz b2_5zz b2_6zz b2_7zz b2_8zz x41) [.reg (.n :: []), .br true, .reg (Qam a0 x17 x41), .reg Qys, .reg (.n :: .n :: [])] ⟨(tn [1, 4, 5, 6, 7, 9, 10, 11, 15, 16, 17, 22, 23, 24, 39, 40, 41]), [none, none, none, none, none], []⟩ .normal (Qv a0 a1 x17 b3_0z b3_1z b3_2z x24 b2_0zz b2_1zz b2_2zz b2_3zz b2_4zz b2_5zz (w64 (b2_6zz + (w64 ((((a0.getD x17.toNat default).Shapes).getD x24.toNat 0) * (((a0.getD x17.toNat default).Shapes).getD x41.toNat 0))))) b2_7zz b2_8zz (w64 (x41 + 1))) (an (an (ti tt) (an (te h11021) (an (an (ti (an h11022 (an e11023 (t2 tt)))) e11064) (t2 tt)))) (ti tt)) (by kernel_rfl)
       exact Qd pm pn hv hq h2
      ·rcases ifs h with ⟨h11065, h⟩ | ⟨h11065, h⟩
       ·have e11066 := (show (0 <= x24 /\ x24 < ((3 : Nat) : Int)) /\ VV.pt 2 (6 + x24.toNat * 1) = VV.pt 2 7 from ⟨⟨by have := (of_decide_eq_true (dt h11065)); omega, by have := (of_decide_eq_true (dt h11065)); omega⟩, by rw [show x24 = (1 : Int) from (of_decide_eq_true (dt h11065))]; rfl⟩)
        have e11069 := (t2 (an e11059 (an e11066 (t5 (an e11059 (an e11066 (ti tt)))))))
        have h2 := ih _ _ _ _ _ _ _ _ _ _ _ h
        obtain ⟨q, hv, hq⟩ := pK none Try.prog Try.f48 2 (Qv a0 a1 x17 b3_0z b3_1z b3_2z x24 b2_0zz b2_1zz b2_2zz b2_3zz b2_4zz b2_5zz b2_6zz b2_7zz b2_8zz x41) [.reg (.n :: []), .br true, .reg (Qam a0 x17 x41), .reg Qtv, .reg (.n :: .n :: [])] ⟨(tn [1, 4, 5, 6, 7, 9, 10, 11, 15, 16, 17, 22, 23, 24, 39, 40, 41]), [none, none, none, none, none], []⟩ .normal (Qv a0 a1 x17 b3_0z b3_1z b3_2z x24 b2_0zz b2_1zz b2_2zz b2_3zz b2_4zz b2_5zz b2_6zz (w64 (b2_7zz + (w64 ((((a0.getD x17.toNat default).Shapes).getD x24.toNat 0) * (((a0.getD x17.toNat default).Shapes).getD x41.toNat 0))))) b2_8zz (w64 (x41 + 1))) (an (an (ti tt) (an (te h11021) (an (an (ti (an h11022 (an e11023 (t2 tt)))) e11069) (t2 tt)))) (ti tt)) (by kernel_rfl)
        exact Qd pm pn hv hq h2
       ·rcases ifs h with ⟨h11070, h⟩ | ⟨h11070, h⟩
        ·have e11071 := (show (0 <= x24 /\ x24 < ((3 : Nat) : Int)) /\ VV.pt 2 (6 + x24.toNat * 1) = VV.pt 2 8 from ⟨⟨by have := (of_decide_eq_true (dt h11070)); omega, by have := (of_decide_eq_true (dt h11070)); omega⟩, by rw [show x24 = (2 : Int) from (of_decide_eq_true (dt h11070))]; rfl⟩)
         have e11074 := (t2 (an e11059 (an e11071 (t5 (an e11059 (an e11071 (ti tt)))))))
         have h2 := ih _ _ _ _ _ _ _ _ _ _ _ h
         obtain ⟨q, hv, hq⟩ := pK none Try.prog Try.f48 2 (Qv a0 a1 x17 b3_0z b3_1z b3_2z x24 b2_0zz b2_1zz b2_2zz b2_3zz b2_4zz b2_5zz b2_6zz b2_7zz b2_8zz x41) [.reg (.n :: []), .br true, .reg (Qam a0 x17 x41), .reg Qtw, .reg (.n :: .n :: [])] ⟨(tn [1, 4, 5, 6, 7, 9, 10, 11, 15, 16, 17, 22, 23, 24, 39, 40, 41]), [none, none, none, none, none], []⟩ .normal (Qv a0 a1 x17 b3_0z b3_1z b3_2z x24 b2_0zz b2_1zz b2_2zz b2_3zz b2_4zz b2_5zz b2_6zz b2_7zz (w64 (b2_8zz + (w64 ((((a0.getD x17.toNat default).Shapes).getD x24.toNat 0) * (((a0.getD x17.toNat default).Shapes).getD x41.toNat 0))))) (w64 (x41 + 1))) (an (an (ti tt) (an (te h11021) (an (an (ti (an h11022 (an e11023 (t2 tt)))) e11074) (t2 tt)))) (ti tt)) (by kernel_rfl)
         exact Qd pm pn hv hq h2
        ·cases h
     ·cases h
  ·obtain rfl := si h
   exact Qk (c := ⟨(tn [1, 4, 5, 6, 7, 9, 15, 16, 17, 22, 23, 24]), [none, none, none, none, none], []⟩) (s1 := (Qeg a0 a1 x17 b3_0z b3_1z b3_2z x24 (b2_0zz, b2_1zz, b2_2zz, b2_3zz, b2_4zz, b2_5zz, b2_6zz, b2_7zz, b2_8zz))) pm pn (ans := [.reg (.n :: []), .br false]) (by kernel_rfl) nofun (an (an (ti tt) (tf h11021)) (ti tt))
def J8 (a0 : (List Zk)) (a1 : Int) (x17 : Int) (b2_0z : Int) (b2_1z : Int) (b2_2z : Int) (b2_3z : Int) (b2_4z : Int) (b2_5z : Int) (b2_6z : Int) (b2_7z : Int) (b2_8z : Int) (b3_0z : Int) (b3_1z : Int) (b3_2z : Int) (x24 : Int) : VS := ⟨mkA [(1, vi a1), (4, VV.pt 0 0), (5, VV.pt 1 0), (6, VV.pt 2 0), (7, VV.pt 3 0), (9, VV.pt 4 0), (15, VV.tr (flatMap Zj a0) a0.length), (16, vi (a0.length : Int)), (17, vi x17), (22, VV.tr (List.map vi ((a0.getD x17.toNat default).Shapes)) (((a0.getD x17.toNat default).Shapes).length)), (23, vi (((a0.getD x17.toNat default).Shapes).length : Int)), (24, vi x24)], [some ⟨true, 1, [vi 0, vi 0, vi 0, vi 0, vi 0, vi 0, vi 0, vi 0, vi 0]⟩, some ⟨true, 1, [vi 0, vi 0, vi 0]⟩, some ⟨true, 1, [vi b2_0z, vi b2_1z, vi b2_2z, vi b2_3z, vi b2_4z, vi b2_5z, vi b2_6z, vi b2_7z, vi b2_8z]⟩, some ⟨true, 1, [vi b3_0z, vi b3_1z, vi b3_2z]⟩, some ⟨true, 1, Zj (a0.getD x17.toNat default)⟩], .nil⟩
def Qeh (a0 : (List Zk)) (a1 : Int) (x17 : Int) (r : Int × Int × Int × Int × Int × Int × Int × Int × Int × Int × Int × Int) : VS := ⟨mkA [(1, vi a1), (4, VV.pt 0 0), (5, VV.pt 1 0), (6, VV.pt 2 0), (7, VV.pt 3 0), (15, VV.tr (flatMap Zj a0) a0.length), (16, vi (a0.length : Int)), (17, vi x17)], [some ⟨true, 1, [vi 0, vi 0, vi 0, vi 0, vi 0, vi 0, vi 0, vi 0, vi 0]⟩, some ⟨true, 1, [vi 0, vi 0, vi 0]⟩, some ⟨true, 1, [vi r.1, vi r.2.1, vi r.2.2.1, vi r.2.2.2.1, vi r.2.2.2.2.1, vi r.2.2.2.2.2.1, vi r.2.2.2.2.2.2.1, vi r.2.2.2.2.2.2.2.1, vi r.2.2.2.2.2.2.2.2.1]⟩, some ⟨true, 1, [vi r.2.2.2.2.2.2.2.2.2.1, vi r.2.2.2.2.2.2.2.2.2.2.1, vi r.2.2.2.2.2.2.2.2.2.2.2]⟩], .nil⟩
def Yy (k : Nat) (a0 : (List Zk)) (a1 : Int) (x17 : Int) : Nat -> Int -> Int -> Int -> Int -> Int -> Int -> Int -> Int -> Int -> Int -> Int -> Int -> Int -> Option (Int × Int × Int × Int × Int × Int × Int × Int × Int × Int × Int × Int)
 | 0, _, _, _, _, _, _, _, _, _, _, _, _, _ => none
 | fuel + 1, b2_0z, b2_1z, b2_2z, b2_3z, b2_4z, b2_5z, b2_6z, b2_7z, b2_8z, b3_0z, b3_1z, b3_2z, x24 => if x24 < (((a0.getD x17.toNat default).Shapes).length : Int) then (if 0 <= x24 /\ x24 < (((a0.getD x17.toNat default).Shapes).length : Int) then (if x24 = 0 then ((Z5 k a0 a1 x17 b3_0z b3_1z b3_2z x24 k b2_0z b2_1z b2_2z b2_3z b2_4z b2_5z b2_6z b2_7z b2_8z 0).bind fun r10700 => (Yy k a0 a1 x17 fuel r10700.1 r10700.2.1 r10700.2.2.1 r10700.2.2.2.1 r10700.2.2.2.2.1 r10700.2.2.2.2.2.1 r10700.2.2.2.2.2.2.1 r10700.2.2.2.2.2.2.2.1 r10700.2.2.2.2.2.2.2.2 (w64 (b3_0z + (w64 ((((a0.getD x17.toNat default).Shapes).getD x24.toNat 0) * ((a0.getD x17.toNat default).Error))))) b3_1z b3_2z (w64 (x24 + 1)))) else (if x24 = 1 then ((Z5 k a0 a1 x17 b3_0z b3_1z b3_2z x24 k b2_0z b2_1z b2_2z b2_3z b2_4z b2_5z b2_6z b2_7z b2_8z 0).bind fun r10888 => (Yy k a0 a1 x17 fuel r10888.1 r10888.2.1 r10888.2.2.1 r10888.2.2.2.1 r10888.2.2.2.2.1 r10888.2.2.2.2.2.1 r10888.2.2.2.2.2.2.1 r10888.2.2.2.2.2.2.2.1 r10888.2.2.2.2.2.2.2.2 b3_0z (w64 (b3_1z + (w64 ((((a0.getD x17.toNat default).Shapes).getD x24.toNat 0) * ((a0.getD x17.toNat default).Error))))) b3_2z (w64 (x24 + 1)))) else (if x24 = 2 then ((Z5 k a0 a1 x17 b3_0z b3_1z b3_2z x24 k b2_0z b2_1z b2_2z b2_3z b2_4z b2_5z b2_6z b2_7z b2_8z 0).bind fun r11076 => (Yy k a0 a1 x17 fuel r11076.1 r11076.2.1 r11076.2.2.1 r11076.2.2.2.1 r11076.2.2.2.2.1 r11076.2.2.2.2.2.1 r11076.2.2.2.2.2.2.1 r11076.2.2.2.2.2.2.2.1 r11076.2.2.2.2.2.2.2.2 b3_0z b3_1z (w64 (b3_2z + (w64 ((((a0.getD x17.toNat default).Shapes).getD x24.toNat 0) * ((a0.getD x17.toNat default).Error))))) (w64 (x24 + 1)))) else none))) else none) else (some (b2_0z, b2_1z, b2_2z, b2_3z, b2_4z, b2_5z, b2_6z, b2_7z, b2_8z, b3_0z, b3_1z, b3_2z))
theorem Qjn (k : Nat) (a0 : (List Zk)) (a1 : Int) (x17 : Int) : ∀ (fuel : Nat) (b2_0z : Int) (b2_1z : Int) (b2_2z : Int) (b2_3z : Int) (b2_4z : Int) (b2_5z : Int) (b2_6z : Int) (b2_7z : Int) (b2_8z : Int) (b3_0z : Int) (b3_1z : Int) (b3_2z : Int) (x24 : Int) (r : Int × Int × Int × Int × Int × Int × Int × Int × Int × Int × Int × Int), Yy k a0 a1 x17 fuel b2_0z b2_1z b2_2z b2_3z b2_4z b2_5z b2_6z b2_7z b2_8z b3_0z b3_1z b3_2z x24 = some r -> (Jb none Try.prog (szF Try.f48) (Zy Try.f48 1) (J8 a0 a1 x17 b2_0z b2_1z b2_2z b2_3z b2_4z b2_5z b2_6z b2_7z b2_8z b3_0z b3_1z b3_2z x24) (.exit 2) (Qeh a0 a1 x17 r)) := by
 intro fuel
 induction fuel with
 | zero => intro b2_0z b2_1z b2_2z b2_3z b2_4z b2_5z b2_6z b2_7z b2_8z b3_0z b3_1z b3_2z x24 r h; rw [Yy.eq_1] at h; cases h
 | succ fuel ih =>
  intro b2_0z b2_1z b2_2z b2_3z b2_4z b2_5z b2_6z b2_7z b2_8z b3_0z b3_1z b3_2z x24 r h
  rw [Yy.eq_2] at h
  rcases ifs h with ⟨h10511, h⟩ | ⟨h10511, h⟩
  ·obtain ⟨h10512, h⟩ := ifn h
   have e10513 := (X8 ag3 vi ((a0.getD x17.toNat default).Shapes) 0 h10512 rfl)
   rcases ifs h with ⟨h10514, h⟩ | ⟨h10514, h⟩
   ·have e10515 := (show (0 <= x24 /\ x24 < ((3 : Nat) : Int)) /\ VV.pt 3 (0 + x24.toNat * 1) = VV.pt 3 0 from ⟨⟨by have := (of_decide_eq_true (dt h10514)); omega, by have := (of_decide_eq_true (dt h10514)); omega⟩, by rw [show x24 = (0 : Int) from (of_decide_eq_true (dt h10514))]; rfl⟩)
    have e10517 := (ti (an e10515 (t6 (an e10515 (ti tt)))))
    obtain ⟨r10700, h10699, h⟩ := bs h
    have hph10699 := Qjk k a0 a1 x17 b3_0z b3_1z b3_2z x24 _ _ _ _ _ _ _ _ _ _ _ _ h10699
    have e10701 := (an (ti tt) (VRun.loop hph10699))
    have h2 := ih _ _ _ _ _ _ _ _ _ _ _ _ _ _ h
    obtain ⟨q, hv, hq⟩ := pK none Try.prog Try.f48 1 (J8 a0 a1 x17 b2_0z b2_1z b2_2z b2_3z b2_4z b2_5z b2_6z b2_7z b2_8z b3_0z b3_1z b3_2z x24) [.reg (.n :: []), .br true, .reg (Qam a0 x17 x24), .reg (.n :: .v (VV.pt 3 0) :: nN 6 (.v (VV.pt 3 0) :: .n :: [])), .reg (nN 4 []), .sub ⟨(tn [1, 4, 5, 6, 7, 9, 10, 11, 15, 16, 17, 22, 23, 24, 39, 40, 41]), [none, none, none, none, none], []⟩ (.exit 4) (Qee a0 a1 x17 b3_0z b3_1z b3_2z x24 r10700), .reg (.n :: .n :: [])] ⟨(tn [1, 4, 5, 6, 7, 9, 15, 16, 17, 22, 23, 24]), [none, none, none, none, none], []⟩ .normal (J8 a0 a1 x17 r10700.1 r10700.2.1 r10700.2.2.1 r10700.2.2.2.1 r10700.2.2.2.2.1 r10700.2.2.2.2.2.1 r10700.2.2.2.2.2.2.1 r10700.2.2.2.2.2.2.2.1 r10700.2.2.2.2.2.2.2.2 (w64 (b3_0z + (w64 ((((a0.getD x17.toNat default).Shapes).getD x24.toNat 0) * ((a0.getD x17.toNat default).Error))))) b3_1z b3_2z (w64 (x24 + 1))) (an (an (ti tt) (an (te h10511) (an (an (ti (an h10512 (an e10513 (t2 tt)))) (an e10517 (an (t4 tt) e10701))) (t2 tt)))) (ti tt)) (by kernel_rfl)
    exact Qd pm pn hv hq h2
   ·rcases ifs h with ⟨h10702, h⟩ | ⟨h10702, h⟩
    ·have e10703 := (show (0 <= x24 /\ x24 < ((3 : Nat) : Int)) /\ VV.pt 3 (0 + x24.toNat * 1) = VV.pt 3 1 from ⟨⟨by have := (of_decide_eq_true (dt h10702)); omega, by have := (of_decide_eq_true (dt h10702)); omega⟩, by rw [show x24 = (1 : Int) from (of_decide_eq_true (dt h10702))]; rfl⟩)
     have e10705 := (ti (an e10703 (t6 (an e10703 (ti tt)))))
     obtain ⟨r10888, h10887, h⟩ := bs h
     have hph10887 := Qjl k a0 a1 x17 b3_0z b3_1z b3_2z x24 _ _ _ _ _ _ _ _ _ _ _ _ h10887
     have e10889 := (an (ti tt) (VRun.loop hph10887))
     have h2 := ih _ _ _ _ _ _ _ _ _ _ _ _ _ _ h
     obtain ⟨q, hv, hq⟩ := pK none Try.prog Try.f48 1 (J8 a0 a1 x17 b2_0z b2_1z b2_2z b2_3z b2_4z b2_5z b2_6z b2_7z b2_8z b3_0z b3_1z b3_2z x24) [.reg (.n :: []), .br true, .reg (Qam a0 x17 x24), .reg (.n :: .v (VV.pt 3 1) :: nN 6 (.v (VV.pt 3 1) :: .n :: [])), .reg (nN 4 []), .sub ⟨(tn [1, 4, 5, 6, 7, 9, 10, 11, 15, 16, 17, 22, 23, 24, 39, 40, 41]), [none, none, none, none, none], []⟩ (.exit 4) (Qef a0 a1 x17 b3_0z b3_1z b3_2z x24 r10888), .reg (.n :: .n :: [])] ⟨(tn [1, 4, 5, 6, 7, 9, 15, 16, 17, 22, 23, 24]), [none, none, none, none, none], []⟩ .normal (J8 a0 a1 x17 r10888.1 r10888.2.1 r10888.2.2.1 r10888.2.2.2.1 r10888.2.2.2.2.1 r10888.2.2.2.2.2.1 r10888.2.2.2.2.2.2.1 r10888.2.2.2.2.2.2.2.1 r10888.2.2.2.2.2.2.2.2 b3_0z (w64 (b3_1z + (w64 ((((a0.getD x17.toNat default).Shapes).getD x24.toNat 0) * ((a0.getD x17.toNat default).Error))))) b3_2z (w64 (x24 + 1))) (an (an (ti tt) (an (te h10511) (an (an (ti (an h10512 (an e10513 (t2 tt)))) (an e10705 (an (t4 tt) e10889))) (t2 tt)))) (ti tt)) (by kernel_rfl)
     exact Qd pm pn hv hq h2
    ·rcases ifs h with ⟨h10890, h⟩ | ⟨h10890, h⟩
     ·have e10891 := (show (0 <= x24 /\ x24 < ((3 : Nat) : Int)) /\ VV.pt 3 (0 + x24.toNat * 1) = VV.pt 3 2 from ⟨⟨by have := (of_decide_eq_true (dt h10890)); omega, by have := (of_decide_eq_true (dt h10890)); omega⟩, by rw [show x24 = (2 : Int) from (of_decide_eq_true (dt h10890))]; rfl⟩)
      have e10893 := (ti (an e10891 (t6 (an e10891 (ti tt)))))
      obtain ⟨r11076, h11075, h⟩ := bs h
      have hph11075 := Qjm k a0 a1 x17 b3_0z b3_1z b3_2z x24 _ _ _ _ _ _ _ _ _ _ _ _ h11075
      have e11077 := (an (ti tt) (VRun.loop hph11075))
      have h2 := ih _ _ _ _ _ _ _ _ _ _ _ _ _ _ h
      obtain ⟨q, hv, hq⟩ := pK none Try.prog Try.f48 1 (J8 a0 a1 x17 b2_0z b2_1z b2_2z b2_3z b2_4z b2_5z b2_6z b2_7z b2_8z b3_0z b3_1z b3_2z x24) [.reg (.n :: []), .br true, .reg (Qam a0 x17 x24), .reg (.n :: .v (VV.pt 3 2) :: nN 6 (.v (VV.pt 3 2) :: .n :: [])), .reg (nN 4 []), .sub ⟨(tn [1, 4, 5, 6, 7, 9, 10, 11, 15, 16, 17, 22, 23, 24, 39, 40, 41]), [none, none, none, none, none], []⟩ (.exit 4) (Qeg a0 a1 x17 b3_0z b3_1z b3_2z x24 r11076), .reg (.n :: .n :: [])] ⟨(tn [1, 4, 5, 6, 7, 9, 15, 16, 17, 22, 23, 24]), [none, none, none, none, none], []⟩ .normal (J8 a0 a1 x17 r11076.1 r11076.2.1 r11076.2.2.1 r11076.2.2.2.1 r11076.2.2.2.2.1 r11076.2.2.2.2.2.1 r11076.2.2.2.2.2.2.1 r11076.2.2.2.2.2.2.2.1 r11076.2.2.2.2.2.2.2.2 b3_0z b3_1z (w64 (b3_2z + (w64 ((((a0.getD x17.toNat default).Shapes).getD x24.toNat 0) * ((a0.getD x17.toNat default).Error))))) (w64 (x24 + 1))) (an (an (ti tt) (an (te h10511) (an (an (ti (an h10512 (an e10513 (t2 tt)))) (an e10893 (an (t4 tt) e11077))) (t2 tt)))) (ti tt)) (by kernel_rfl)
      exact Qd pm pn hv hq h2
     ·cases h
  ·obtain rfl := si h
   exact Qk (c := ⟨(tn [1, 4, 5, 6, 7, 15, 16, 17]), [none, none, none, none], []⟩) (s1 := (Qeh a0 a1 x17 (b2_0z, b2_1z, b2_2z, b2_3z, b2_4z, b2_5z, b2_6z, b2_7z, b2_8z, b3_0z, b3_1z, b3_2z))) pm pn (ans := [.reg (.n :: []), .br false]) (by kernel_rfl) nofun (an (an (ti tt) (tf h10511)) (ti tt))
def Qer (a0 : (List Zk)) (a1 : Int) (b2_0 : Int) (b2_1 : Int) (b2_2 : Int) (b2_3 : Int) (b2_4 : Int) (b2_5 : Int) (b2_6 : Int) (b2_7 : Int) (b2_8 : Int) (b3_0 : Int) (b3_1 : Int) (b3_2 : Int) (x17 : Int) : VS := ⟨mkA [(1, vi a1), (4, VV.pt 0 0), (5, VV.pt 1 0), (6, VV.pt 2 0), (7, VV.pt 3 0), (15, VV.tr (flatMap Zj a0) a0.length), (16, vi (a0.length : Int)), (17, vi x17)], [some ⟨true, 1, [vi 0, vi 0, vi 0, vi 0, vi 0, vi 0, vi 0, vi 0, vi 0]⟩, some ⟨true, 1, [vi 0, vi 0, vi 0]⟩, some ⟨true, 1, [vi b2_0, vi b2_1, vi b2_2, vi b2_3, vi b2_4, vi b2_5, vi b2_6, vi b2_7, vi b2_8]⟩, some ⟨true, 1, [vi b3_0, vi b3_1, vi b3_2]⟩], .nil⟩
def Qei (a0 : (List Zk)) (a1 : Int) (r : Int × Int × Int × Int × Int × Int × Int × Int × Int × Int × Int × Int) : VS := ⟨mkA [(1, vi a1), (4, VV.pt 0 0), (5, VV.pt 1 0), (6, VV.pt 2 0), (7, VV.pt 3 0)], [some ⟨true, 1, [vi 0, vi 0, vi 0, vi 0, vi 0, vi 0, vi 0, vi 0, vi 0]⟩, some ⟨true, 1, [vi 0, vi 0, vi 0]⟩, some ⟨true, 1, [vi r.1, vi r.2.1, vi r.2.2.1, vi r.2.2.2.1, vi r.2.2.2.2.1, vi r.2.2.2.2.2.1, vi r.2.2.2.2.2.2.1, vi r.2.2.2.2.2.2.2.1, vi r.2.2.2.2.2.2.2.2.1]⟩, some ⟨true, 1, [vi r.2.2.2.2.2.2.2.2.2.1, vi r.2.2.2.2.2.2.2.2.2.2.1, vi r.2.2.2.2.2.2.2.2.2.2.2]⟩], .nil⟩
def Qbv (k : Nat) (a0 : (List Zk)) (a1 : Int) : Nat -> Int -> Int -> Int -> Int -> Int -> Int -> Int -> Int -> Int -> Int -> Int -> Int -> Int -> Option (Int × Int × Int × Int × Int × Int × Int × Int × Int × Int × Int × Int)
 | 0, _, _, _, _, _, _, _, _, _, _, _, _, _ => none
 | fuel + 1, b2_0, b2_1, b2_2, b2_3, b2_4, b2_5, b2_6, b2_7, b2_8, b3_0, b3_1, b3_2, x17 => if x17 < (a0.length : Int) then (if 0 <= x17 /\ x17 < (a0.length : Int) then ((Yy k a0 a1 x17 k b2_0 b2_1 b2_2 b2_3 b2_4 b2_5 b2_6 b2_7 b2_8 b3_0 b3_1 b3_2 0).bind fun r11079 => (Qbv k a0 a1 fuel r11079.1 r11079.2.1 r11079.2.2.1 r11079.2.2.2.1 r11079.2.2.2.2.1 r11079.2.2.2.2.2.1 r11079.2.2.2.2.2.2.1 r11079.2.2.2.2.2.2.2.1 r11079.2.2.2.2.2.2.2.2.1 r11079.2.2.2.2.2.2.2.2.2.1 r11079.2.2.2.2.2.2.2.2.2.2.1 r11079.2.2.2.2.2.2.2.2.2.2.2 (w64 (x17 + 1)))) else none) else (some (b2_0, b2_1, b2_2, b2_3, b2_4, b2_5, b2_6, b2_7, b2_8, b3_0, b3_1, b3_2))
theorem Qjo (k : Nat) (a0 : (List Zk)) (a1 : Int) : ∀ (fuel : Nat) (b2_0 : Int) (b2_1 : Int) (b2_2 : Int) (b2_3 : Int) (b2_4 : Int) (b2_5 : Int) (b2_6 : Int) (b2_7 : Int) (b2_8 : Int) (b3_0 : Int) (b3_1 : Int) (b3_2 : Int) (x17 : Int) (r : Int × Int × Int × Int × Int × Int × Int × Int × Int × Int × Int × Int), Qbv k a0 a1 fuel b2_0 b2_1 b2_2 b2_3 b2_4 b2_5 b2_6 b2_7 b2_8 b3_0 b3_1 b3_2 x17 = some r -> (Jb none Try.prog (szF Try.f48) (Zy Try.f48 0) (Qer a0 a1 b2_0 b2_1 b2_2 b2_3 b2_4 b2_5 b2_6 b2_7 b2_8 b3_0 b3_1 b3_2 x17) (.exit 0) (Qei a0 a1 r)) := by
 intro fuel
 induction fuel with
 | zero => intro b2_0 b2_1 b2_2 b2_3 b2_4 b2_5 b2_6 b2_7 b2_8 b3_0 b3_1 b3_2 x17 r h; rw [Qbv.eq_1] at h; cases h
 | succ fuel ih =>
  intro b2_0 b2_1 b2_2 b2_3 b2_4 b2_5 b2_6 b2_7 b2_8 b3_0 b3_1 b3_2 x17 r h
  rw [Qbv.eq_2] at h
  rcases ifs h with ⟨h9294, h⟩ | ⟨h9294, h⟩
  ·obtain ⟨h9295, h⟩ := ifn h
   have e9296 := (Qbm ag62 Zj 2 sz62 Qi1 a0 default h9295 rfl)
   obtain ⟨r11079, h11078, h⟩ := bs h
   have hph11078 := Qjn k a0 a1 x17 _ _ _ _ _ _ _ _ _ _ _ _ _ _ _ h11078
   have e11080 := (an (ti tt) (VRun.loop hph11078))
   have h2 := ih _ _ _ _ _ _ _ _ _ _ _ _ _ _ h
   obtain ⟨q, hv, hq⟩ := pK none Try.prog Try.f48 0 (Qer a0 a1 b2_0 b2_1 b2_2 b2_3 b2_4 b2_5 b2_6 b2_7 b2_8 b3_0 b3_1 b3_2 x17) [.reg (.n :: []), .br true, .reg (.n :: .v (VV.ag (Zj (a0.getD x17.toNat default))) :: .n :: .n :: []), .reg (nN 4 []), .sub ⟨(tn [1, 4, 5, 6, 7, 9, 15, 16, 17, 22, 23, 24]), [none, none, none, none, none], []⟩ (.exit 2) (Qeh a0 a1 x17 r11079), .reg (.n :: .n :: [])] ⟨(tn [1, 4, 5, 6, 7, 15, 16, 17]), [none, none, none, none], []⟩ .normal (Qer a0 a1 r11079.1 r11079.2.1 r11079.2.2.1 r11079.2.2.2.1 r11079.2.2.2.2.1 r11079.2.2.2.2.2.1 r11079.2.2.2.2.2.2.1 r11079.2.2.2.2.2.2.2.1 r11079.2.2.2.2.2.2.2.2.1 r11079.2.2.2.2.2.2.2.2.2.1 r11079.2.2.2.2.2.2.2.2.2.2.1 r11079.2.2.2.2.2.2.2.2.2.2.2 (w64 (x17 + 1))) (an (an (ti tt) (an (te h9294) (an (an (an h9295 (an e9296 (t2 tt))) (an (t4 tt) e11080)) (t2 tt)))) (ti tt)) (by kernel_rfl)
   exact Qd pm pn hv hq h2
  ·obtain rfl := si h
   exact Qk (c := ⟨(tn [1, 4, 5, 6, 7]), [none, none, none, none], []⟩) (s1 := (Qei a0 a1 (b2_0, b2_1, b2_2, b2_3, b2_4, b2_5, b2_6, b2_7, b2_8, b3_0, b3_1, b3_2))) pm pn (ans := [.reg (.n :: []), .br false]) (by kernel_rfl) nofun (an (an (ti tt) (tf h9294)) (ti tt))
def J9 (r11082 : Int × Int × Int × Int × Int × Int × Int × Int × Int × Int × Int × Int) (b2_0 : Int) (b2_4 : Int) (b2_8 : Int) (x14 : Int) : VS := ⟨mkA [(4, VV.pt 0 0), (5, VV.pt 1 0), (6, VV.pt 2 0), (7, VV.pt 3 0), (14, vi x14)], [some ⟨true, 1, [vi 0, vi 0, vi 0, vi 0, vi 0, vi 0, vi 0, vi 0, vi 0]⟩, some ⟨true, 1, [vi 0, vi 0, vi 0]⟩, some ⟨true, 1, [vi b2_0, vi r11082.2.1, vi r11082.2.2.1, vi r11082.2.2.2.1, vi b2_4, vi r11082.2.2.2.2.2.1, vi r11082.2.2.2.2.2.2.1, vi r11082.2.2.2.2.2.2.2.1, vi b2_8]⟩, some ⟨true, 1, [vi r11082.2.2.2.2.2.2.2.2.2.1, vi r11082.2.2.2.2.2.2.2.2.2.2.1, vi r11082.2.2.2.2.2.2.2.2.2.2.2]⟩], .nil⟩
def Qej (r11082 : Int × Int × Int × Int × Int × Int × Int × Int × Int × Int × Int × Int) (r : Int × Int × Int) : VS := ⟨mkA [(4, VV.pt 0 0), (5, VV.pt 1 0), (6, VV.pt 2 0), (7, VV.pt 3 0)], [some ⟨true, 1, [vi 0, vi 0, vi 0, vi 0, vi 0, vi 0, vi 0, vi 0, vi 0]⟩, some ⟨true, 1, [vi 0, vi 0, vi 0]⟩, some ⟨true, 1, [vi r.1, vi r11082.2.1, vi r11082.2.2.1, vi r11082.2.2.2.1, vi r.2.1, vi r11082.2.2.2.2.2.1, vi r11082.2.2.2.2.2.2.1, vi r11082.2.2.2.2.2.2.2.1, vi r.2.2]⟩, some ⟨true, 1, [vi r11082.2.2.2.2.2.2.2.2.2.1, vi r11082.2.2.2.2.2.2.2.2.2.2.1, vi r11082.2.2.2.2.2.2.2.2.2.2.2]⟩], .nil⟩
def Yz (k : Nat) (r11082 : Int × Int × Int × Int × Int × Int × Int × Int × Int × Int × Int × Int) : Nat -> Int -> Int -> Int -> Int -> Option (Int × Int × Int)
 | 0, _, _, _, _ => none
 | fuel + 1, b2_0, b2_4, b2_8, x14 => if x14 < 3 then (if x14 = 0 then (Yz k r11082 fuel 1 b2_4 b2_8 (w64 (x14 + 1))) else (if x14 = 1 then (Yz k r11082 fuel b2_0 1 b2_8 (w64 (x14 + 1))) else (if x14 = 2 then (Yz k r11082 fuel b2_0 b2_4 1 (w64 (x14 + 1))) else none))) else (some (b2_0, b2_4, b2_8))
theorem Qjp (k : Nat) (r11082 : Int × Int × Int × Int × Int × Int × Int × Int × Int × Int × Int × Int) : ∀ (fuel : Nat) (b2_0 : Int) (b2_4 : Int) (b2_8 : Int) (x14 : Int) (r : Int × Int × Int), Yz k r11082 fuel b2_0 b2_4 b2_8 x14 = some r -> (Jb none Try.prog (szF Try.f48) (Zy Try.f48 3) (J9 r11082 b2_0 b2_4 b2_8 x14) (.exit 6) (Qej r11082 r)) := by
 intro fuel
 induction fuel with
 | zero => intro b2_0 b2_4 b2_8 x14 r h; rw [Yz.eq_1] at h; cases h
 | succ fuel ih =>
  intro b2_0 b2_4 b2_8 x14 r h
  rw [Yz.eq_2] at h
  rcases ifs h with ⟨h11104, h⟩ | ⟨h11104, h⟩
  ·rcases ifs h with ⟨h11105, h⟩ | ⟨h11105, h⟩
   ·have e11106 := (show (0 <= x14 /\ x14 < ((3 : Nat) : Int)) /\ VV.pt 2 (0 + x14.toNat * 3) = VV.pt 2 0 from ⟨⟨by have := (of_decide_eq_true (dt h11105)); omega, by have := (of_decide_eq_true (dt h11105)); omega⟩, by rw [show x14 = (0 : Int) from (of_decide_eq_true (dt h11105))]; rfl⟩)
    have e11107 := (show (0 <= x14 /\ x14 < ((3 : Nat) : Int)) /\ VV.pt 2 (0 + x14.toNat * 1) = VV.pt 2 0 from ⟨⟨by have := (of_decide_eq_true (dt h11105)); omega, by have := (of_decide_eq_true (dt h11105)); omega⟩, by rw [show x14 = (0 : Int) from (of_decide_eq_true (dt h11105))]; rfl⟩)
    have h2 := ih _ _ _ _ _ h
    obtain ⟨q, hv, hq⟩ := pK none Try.prog Try.f48 3 (J9 r11082 b2_0 b2_4 b2_8 x14) [.reg (.n :: .n :: []), .br true, .reg (.n :: .n :: .v (VV.pt 2 0) :: .v (VV.pt 2 0) :: .n :: []), .reg (nN 3 [])] ⟨(tn [4, 5, 6, 7, 14]), [none, none, none, none], []⟩ .normal (J9 r11082 1 b2_4 b2_8 (w64 (x14 + 1))) (an (an (an (t2 tt) (te h11104)) (an (t2 (an e11106 (an e11107 (ti tt)))) (t3 tt))) (ti tt)) (by kernel_rfl)
    exact Qd pm pn hv hq h2
   ·rcases ifs h with ⟨h11108, h⟩ | ⟨h11108, h⟩
    ·have e11109 := (show (0 <= x14 /\ x14 < ((3 : Nat) : Int)) /\ VV.pt 2 (0 + x14.toNat * 3) = VV.pt 2 3 from ⟨⟨by have := (of_decide_eq_true (dt h11108)); omega, by have := (of_decide_eq_true (dt h11108)); omega⟩, by rw [show x14 = (1 : Int) from (of_decide_eq_true (dt h11108))]; rfl⟩)
     have e11110 := (show (0 <= x14 /\ x14 < ((3 : Nat) : Int)) /\ VV.pt 2 (3 + x14.toNat * 1) = VV.pt 2 4 from ⟨⟨by have := (of_decide_eq_true (dt h11108)); omega, by have := (of_decide_eq_true (dt h11108)); omega⟩, by rw [show x14 = (1 : Int) from (of_decide_eq_true (dt h11108))]; rfl⟩)
     have h2 := ih _ _ _ _ _ h
     obtain ⟨q, hv, hq⟩ := pK none Try.prog Try.f48 3 (J9 r11082 b2_0 b2_4 b2_8 x14) [.reg (.n :: .n :: []), .br true, .reg (.n :: .n :: .v (VV.pt 2 3) :: .v (VV.pt 2 4) :: .n :: []), .reg (nN 3 [])] ⟨(tn [4, 5, 6, 7, 14]), [none, none, none, none], []⟩ .normal (J9 r11082 b2_0 1 b2_8 (w64 (x14 + 1))) (an (an (an (t2 tt) (te h11104)) (an (t2 (an e11109 (an e11110 (ti tt)))) (t3 tt))) (ti tt)) (by kernel_rfl)
     exact Qd pm pn hv hq h2
    ·rcases ifs h with ⟨h11111, h⟩ | ⟨h11111, h⟩
     ·have e11112 := (show (0 <= x14 /\ x14 < ((3 : Nat) : Int)) /\ VV.pt 2 (0 + x14.toNat * 3) = VV.pt 2 6 from ⟨⟨by have := (of_decide_eq_true (dt h11111)); omega, by have := (of_decide_eq_true (dt h11111)); omega⟩, by rw [show x14 = (2 : Int) from (of_decide_eq_true (dt h11111))]; rfl⟩)
      have e11113 := (show (0 <= x14 /\ x14 < ((3 : Nat) : Int)) /\ VV.pt 2 (6 + x14.toNat * 1) = VV.pt 2 8 from ⟨⟨by have := (of_decide_eq_true (dt h11111)); omega, by have := (of_decide_eq_true (dt h11111)); omega⟩, by rw [show x14 = (2 : Int) from (of_decide_eq_true (dt h11111))]; rfl⟩)
      have h2 := ih _ _ _ _ _ h
      obtain ⟨q, hv, hq⟩ := pK none Try.prog Try.f48 3 (J9 r11082 b2_0 b2_4 b2_8 x14) [.reg (.n :: .n :: []), .br true, .reg (.n :: .n :: .v (VV.pt 2 6) :: .v (VV.pt 2 8) :: .n :: []), .reg (nN 3 [])] ⟨(tn [4, 5, 6, 7, 14]), [none, none, none, none], []⟩ .normal (J9 r11082 b2_0 b2_4 1 (w64 (x14 + 1))) (an (an (an (t2 tt) (te h11104)) (an (t2 (an e11112 (an e11113 (ti tt)))) (t3 tt))) (ti tt)) (by kernel_rfl)
      exact Qd pm pn hv hq h2
     ·cases h
  ·obtain rfl := si h
   exact Qk (c := ⟨(tn [4, 5, 6, 7]), [none, none, none, none], []⟩) (s1 := (Qej r11082 (b2_0, b2_4, b2_8))) pm pn (ans := [.reg (.n :: .n :: []), .br false]) (by kernel_rfl) nofun (an (an (t2 tt) (tf h11104)) (ti tt))
theorem Q55 (z0 : Int × Int × Int) (z1 : Int × Int × Int × Int × Int × Int × Int × Int × Int × Int × Int × Int) : VV.tu [VV.ag [vi z0.1, vi z1.2.1, vi z1.2.2.1, vi z1.2.2.2.1, vi z0.2.1, vi z1.2.2.2.2.2.1, vi z1.2.2.2.2.2.2.1, vi z1.2.2.2.2.2.2.2.1, vi z0.2.2], VV.ag [vi z1.2.2.2.2.2.2.2.2.2.1, vi z1.2.2.2.2.2.2.2.2.2.2.1, vi z1.2.2.2.2.2.2.2.2.2.2.2]] = VV.tu [VV.ag [vi (((⟨(⟨z0.1, z1.2.1, z1.2.2.1⟩ : Xy), (⟨z1.2.2.2.1, z0.2.1, z1.2.2.2.2.2.1⟩ : Xy), (⟨z1.2.2.2.2.2.2.1, z1.2.2.2.2.2.2.2.1, z0.2.2⟩ : Xy)⟩ : A100).e0).e0), vi (((⟨(⟨z0.1, z1.2.1, z1.2.2.1⟩ : Xy), (⟨z1.2.2.2.1, z0.2.1, z1.2.2.2.2.2.1⟩ : Xy), (⟨z1.2.2.2.2.2.2.1, z1.2.2.2.2.2.2.2.1, z0.2.2⟩ : Xy)⟩ : A100).e0).e1), vi (((⟨(⟨z0.1, z1.2.1, z1.2.2.1⟩ : Xy), (⟨z1.2.2.2.1, z0.2.1, z1.2.2.2.2.2.1⟩ : Xy), (⟨z1.2.2.2.2.2.2.1, z1.2.2.2.2.2.2.2.1, z0.2.2⟩ : Xy)⟩ : A100).e0).e2), vi (((⟨(⟨z0.1, z1.2.1, z1.2.2.1⟩ : Xy), (⟨z1.2.2.2.1, z0.2.1, z1.2.2.2.2.2.1⟩ : Xy), (⟨z1.2.2.2.2.2.2.1, z1.2.2.2.2.2.2.2.1, z0.2.2⟩ : Xy)⟩ : A100).e1).e0), vi (((⟨(⟨z0.1, z1.2.1, z1.2.2.1⟩ : Xy), (⟨z1.2.2.2.1, z0.2.1, z1.2.2.2.2.2.1⟩ : Xy), (⟨z1.2.2.2.2.2.2.1, z1.2.2.2.2.2.2.2.1, z0.2.2⟩ : Xy)⟩ : A100).e1).e1), vi (((⟨(⟨z0.1, z1.2.1, z1.2.2.1⟩ : Xy), (⟨z1.2.2.2.1, z0.2.1, z1.2.2.2.2.2.1⟩ : Xy), (⟨z1.2.2.2.2.2.2.1, z1.2.2.2.2.2.2.2.1, z0.2.2⟩ : Xy)⟩ : A100).e1).e2), vi (((⟨(⟨z0.1, z1.2.1, z1.2.2.1⟩ : Xy), (⟨z1.2.2.2.1, z0.2.1, z1.2.2.2.2.2.1⟩ : Xy), (⟨z1.2.2.2.2.2.2.1, z1.2.2.2.2.2.2.2.1, z0.2.2⟩ : Xy)⟩ : A100).e2).e0), vi (((⟨(⟨z0.1, z1.2.1, z1.2.2.1⟩ : Xy), (⟨z1.2.2.2.1, z0.2.1, z1.2.2.2.2.2.1⟩ : Xy), (⟨z1.2.2.2.2.2.2.1, z1.2.2.2.2.2.2.2.1, z0.2.2⟩ : Xy)⟩ : A100).e2).e1), vi (((⟨(⟨z0.1, z1.2.1, z1.2.2.1⟩ : Xy), (⟨z1.2.2.2.1, z0.2.1, z1.2.2.2.2.2.1⟩ : Xy), (⟨z1.2.2.2.2.2.2.1, z1.2.2.2.2.2.2.2.1, z0.2.2⟩ : Xy)⟩ : A100).e2).e2)], VV.ag (Qft (⟨z1.2.2.2.2.2.2.2.2.2.1, z1.2.2.2.2.2.2.2.2.2.2.1, z1.2.2.2.2.2.2.2.2.2.2.2⟩ : Xy))] := by first | rfl | (simp only [Qj, map_cons, map_nil, un_i, Xm]; done) | (simp only [Qj, map_cons, map_nil, un_i, Xm]; rfl) | (simp only [Qj, map_cons, map_nil, un_i, Xm, Qft, length_cons, length_nil, length_append]; done)
def Qhn (k : Nat) (a0 : (List Zk)) (a1 : Int) : Option (A100 × Xy) :=
 (Qbv k a0 a1 k 0 0 0 0 0 0 0 0 0 0 0 0 0).bind fun r11082 => ((Yz k r11082 k r11082.1 r11082.2.2.2.2.1 r11082.2.2.2.2.2.2.2.2.1 a1).bind fun r11115 => (some ((⟨(⟨r11115.1, r11082.2.1, r11082.2.2.1⟩ : Xy), (⟨r11082.2.2.2.1, r11115.2.1, r11082.2.2.2.2.2.1⟩ : Xy), (⟨r11082.2.2.2.2.2.2.1, r11082.2.2.2.2.2.2.2.1, r11115.2.2⟩ : Xy)⟩ : A100), (⟨r11082.2.2.2.2.2.2.2.2.2.1, r11082.2.2.2.2.2.2.2.2.2.2.1, r11082.2.2.2.2.2.2.2.2.2.2.2⟩ : Xy))))
theorem Qmc (k : Nat) (a0 : (List Zk)) (a1 : Int) (r : (A100 × Xy)) (h : Qhn k a0 a1 = some r) : VC Try.prog 48 [VV.tr (flatMap Zj a0) a0.length, vi a1] (VV.tu [VV.ag (Qmz r.1), VV.ag (Qft r.2)]) := by
 unfold Qhn at h
 obtain ⟨r11082, h11081, h⟩ := bs h
 have hph11081 := Qjo k a0 a1 _ _ _ _ _ _ _ _ _ _ _ _ _ _ _ h11081
 have e11083 := (an (ti tt) (VRun.loop hph11081))
 obtain ⟨r11115, h11114, h⟩ := bs h
 have hph11114 := Qjp k r11082 _ _ _ _ _ _ h11114
 have e11116 := (an (ti tt) (VRun.loop hph11114))
 obtain rfl := si h
 exact Qi pm pn Try.func48 (r0 := VV.tu [VV.ag [vi r11115.1, vi r11082.2.1, vi r11082.2.2.1, vi r11082.2.2.2.1, vi r11115.2.1, vi r11082.2.2.2.2.2.1, vi r11082.2.2.2.2.2.2.1, vi r11082.2.2.2.2.2.2.2.1, vi r11115.2.2], VV.ag [vi r11082.2.2.2.2.2.2.2.2.2.1, vi r11082.2.2.2.2.2.2.2.2.2.2.1, vi r11082.2.2.2.2.2.2.2.2.2.2.2]]) (ans := [.reg (.n :: .n :: []), .reg (.n :: []), .reg (.n :: []), .reg (nN 3 []), .sub ⟨(tn [1, 4, 5, 6, 7, 15, 16, 17]), [none, none, none, none], []⟩ (.exit 0) (Qei a0 a1 r11082), .reg (.n :: .n :: []), .sub ⟨(tn [4, 5, 6, 7, 14]), [none, none, none, none], []⟩ (.exit 6) (Qej r11082 r11115), .reg (nN 4 [])]) (fr := true) (by kernel_rfl) (an (an (t2 tt) (w2 (ti tt) (an (an (t3 tt) e11083) (an (an (t2 tt) e11116) (an (t4 tt) tt))))) (an (t9 (ti tt)) (an (t4 tt) tt))) (Wv.of_eq (Q55 r11115 r11082))
def Qb6 (k : Nat) (a0 : A100) : Option Int :=
 some (w64 ((w64 ((w64 (a0.e0.e0 * (w64 ((w64 (a0.e1.e1 * a0.e2.e2)) - (w64 (a0.e1.e2 * a0.e2.e1)))))) + (w64 (a0.e0.e1 * (w64 ((w64 (a0.e1.e2 * a0.e2.e0)) - (w64 (a0.e1.e0 * a0.e2.e2)))))))) + (w64 (a0.e0.e2 * (w64 ((w64 (a0.e1.e0 * a0.e2.e1)) - (w64 (a0.e1.e1 * a0.e2.e0))))))))
theorem Qdm (k : Nat) (a0 : A100) (r : Int) (h : Qb6 k a0 = some r) : VC Try.prog 49 [VV.ag (Qmz a0)] (vi r) := by
 unfold Qb6 at h
 have e11141 := (show (0:Int) <= 0 /\ (0:Int) < ((3 : Nat) : Int) from ⟨by decide, by decide⟩)
 have e11142 := (show (0:Int) <= 1 /\ (1:Int) < ((3 : Nat) : Int) from ⟨by decide, by decide⟩)
 have e11143 := (show (0:Int) <= 2 /\ (2:Int) < ((3 : Nat) : Int) from ⟨by decide, by decide⟩)
 have e11144 := (an e11141 (ti (an e11142 (ti (an e11143 (t7 tt))))))
 have e11160 := (an e11141 (ti (an e11142 (ti (an e11143 (t2 (an e11143 (ti (an e11142 (t4 (an e11142 (ti (an e11143 (ti (an e11141 (t2 (an e11141 (ti (an e11143 (t5 (an e11143 (ti (an e11141 (ti (an e11142 (t2 (an e11142 (ti (an e11141 (t6 tt))))))))))))))))))))))))))))))
 obtain rfl := si h
 exact Qi pm pn Try.func49 (r0 := vi (w64 ((w64 ((w64 (a0.e0.e0 * (w64 ((w64 (a0.e1.e1 * a0.e2.e2)) - (w64 (a0.e1.e2 * a0.e2.e1)))))) + (w64 (a0.e0.e1 * (w64 ((w64 (a0.e1.e2 * a0.e2.e0)) - (w64 (a0.e1.e0 * a0.e2.e2)))))))) + (w64 (a0.e0.e2 * (w64 ((w64 (a0.e1.e0 * a0.e2.e1)) - (w64 (a0.e1.e1 * a0.e2.e0))))))))) (ans := [.reg (.n :: .n :: []), .reg (nN 12 []), .reg (nN 45 [])]) (fr := true) (by kernel_rfl) (an (an (t2 tt) (an e11144 (an e11160 tt))) (ti tt)) (Wv.refl _)
theorem Q56 (z0 : (A100 × Xy)) : [VV.ag [vi (((⟨z0.2, z0.1.e1, z0.1.e2⟩ : A100).e0).e0), vi (((⟨z0.2, z0.1.e1, z0.1.e2⟩ : A100).e0).e1), vi (((⟨z0.2, z0.1.e1, z0.1.e2⟩ : A100).e0).e2), vi (((⟨z0.2, z0.1.e1, z0.1.e2⟩ : A100).e1).e0), vi (((⟨z0.2, z0.1.e1, z0.1.e2⟩ : A100).e1).e1), vi (((⟨z0.2, z0.1.e1, z0.1.e2⟩ : A100).e1).e2), vi (((⟨z0.2, z0.1.e1, z0.1.e2⟩ : A100).e2).e0), vi (((⟨z0.2, z0.1.e1, z0.1.e2⟩ : A100).e2).e1), vi (((⟨z0.2, z0.1.e1, z0.1.e2⟩ : A100).e2).e2)]] = [VV.ag [vi z0.2.e0, vi z0.2.e1, vi z0.2.e2, vi z0.1.e1.e0, vi z0.1.e1.e1, vi z0.1.e1.e2, vi z0.1.e2.e0, vi z0.1.e2.e1, vi z0.1.e2.e2]] := by first | rfl | (simp only [Qj, map_cons, map_nil, un_i]; done) | (simp only [Qj, map_cons, map_nil, un_i]; rfl) | (simp only [Qj, map_cons, map_nil, un_i, length_cons, length_nil, length_append]; done)
theorem Q57 (z0 : (A100 × Xy)) : [VV.ag [vi (((⟨z0.1.e0, z0.2, z0.1.e2⟩ : A100).e0).e0), vi (((⟨z0.1.e0, z0.2, z0.1.e2⟩ : A100).e0).e1), vi (((⟨z0.1.e0, z0.2, z0.1.e2⟩ : A100).e0).e2), vi (((⟨z0.1.e0, z0.2, z0.1.e2⟩ : A100).e1).e0), vi (((⟨z0.1.e0, z0.2, z0.1.e2⟩ : A100).e1).e1), vi (((⟨z0.1.e0, z0.2, z0.1.e2⟩ : A100).e1).e2), vi (((⟨z0.1.e0, z0.2, z0.1.e2⟩ : A100).e2).e0), vi (((⟨z0.1.e0, z0.2, z0.1.e2⟩ : A100).e2).e1), vi (((⟨z0.1.e0, z0.2, z0.1.e2⟩ : A100).e2).e2)]] = [VV.ag [vi z0.1.e0.e0, vi z0.1.e0.e1, vi z0.1.e0.e2, vi z0.2.e0, vi z0.2.e1, vi z0.2.e2, vi z0.1.e2.e0, vi z0.1.e2.e1, vi z0.1.e2.e2]] := by first | rfl | (simp only [Qj, map_cons, map_nil, un_i]; done) | (simp only [Qj, map_cons, map_nil, un_i]; rfl) | (simp only [Qj, map_cons, map_nil, un_i, length_cons, length_nil, length_append]; done)
theorem Q58 (z0 : (A100 × Xy)) : [VV.ag [vi (((⟨z0.1.e0, z0.1.e1, z0.2⟩ : A100).e0).e0), vi (((⟨z0.1.e0, z0.1.e1, z0.2⟩ : A100).e0).e1), vi (((⟨z0.1.e0, z0.1.e1, z0.2⟩ : A100).e0).e2), vi (((⟨z0.1.e0, z0.1.e1, z0.2⟩ : A100).e1).e0), vi (((⟨z0.1.e0, z0.1.e1, z0.2⟩ : A100).e1).e1), vi (((⟨z0.1.e0, z0.1.e1, z0.2⟩ : A100).e1).e2), vi (((⟨z0.1.e0, z0.1.e1, z0.2⟩ : A100).e2).e0), vi (((⟨z0.1.e0, z0.1.e1, z0.2⟩ : A100).e2).e1), vi (((⟨z0.1.e0, z0.1.e1, z0.2⟩ : A100).e2).e2)]] = [VV.ag [vi z0.1.e0.e0, vi z0.1.e0.e1, vi z0.1.e0.e2, vi z0.1.e1.e0, vi z0.1.e1.e1, vi z0.1.e1.e2, vi z0.2.e0, vi z0.2.e1, vi z0.2.e2]] := by first | rfl | (simp only [Qj, map_cons, map_nil, un_i]; done) | (simp only [Qj, map_cons, map_nil, un_i]; rfl) | (simp only [Qj, map_cons, map_nil, un_i, length_cons, length_nil, length_append]; done)
def Qfd (a0 : (List Int)) (x8 : Int) (x3z : Int) (x5 : Int) : VS := ⟨mkA [(3, vi x3z), (5, vi x5), (6, VV.tr (List.map vi a0) a0.length), (7, vi (a0.length : Int)), (8, vi x8)], [], .nil⟩
def Qe3 (a0 : (List Int)) (x8 : Int) (r : Int) : VS := ⟨mkA [(3, vi r), (6, VV.tr (List.map vi a0) a0.length), (7, vi (a0.length : Int)), (8, vi x8)], [], .nil⟩
def Qc0 (k : Nat) (a0 : (List Int)) (x8 : Int) : Nat -> Int -> Int -> Option (Int)
 | 0, _, _ => none
 | fuel + 1, x3z, x5 => if x5 = 0 then (some x3z) else (if x5 ≠ 0 then (Qc0 k a0 x8 fuel x5 (x3z.tmod x5)) else none)
theorem Qki (k : Nat) (a0 : (List Int)) (x8 : Int) : ∀ (fuel : Nat) (x3z : Int) (x5 : Int) (r : Int), Qc0 k a0 x8 fuel x3z x5 = some r -> (Jb none Try.prog (szF Try.f50) (Zy Try.f50 1) (Qfd a0 x8 x3z x5) (.exit 2) (Qe3 a0 x8 r)) := by
 intro fuel
 induction fuel with
 | zero => intro x3z x5 r h; rw [Qc0.eq_1] at h; cases h
 | succ fuel ih =>
  intro x3z x5 r h
  rw [Qc0.eq_2] at h
  rcases ifs h with ⟨h11296, h⟩ | ⟨h11296, h⟩
  ·obtain rfl := si h
   exact Qk (c := ⟨(tn [3, 6, 7, 8]), [], []⟩) (s1 := (Qe3 a0 x8 x3z)) pm pn (ans := [.reg (.n :: .n :: []), .br false]) (by kernel_rfl) nofun (an (an (t2 tt) (ta h11296)) (ti tt))
  ·obtain ⟨h11297, h⟩ := ifn h
   have h2 := ih _ _ _ h
   obtain ⟨q, hv, hq⟩ := pK none Try.prog Try.f50 1 (Qfd a0 x8 x3z x5) [.reg (.n :: .n :: []), .br true, .reg (nN 6 [])] ⟨(tn [3, 5, 6, 7, 8]), [], []⟩ .normal (Qfd a0 x8 x5 (x3z.tmod x5)) (an (an (an (t2 tt) (tb h11296)) (t3 (an h11297 (t2 tt)))) (ti tt)) (by kernel_rfl)
   exact Qd pm pn hv hq h2
def Qfe (a0 : (List Int)) (x3 : Int) (x8 : Int) : VS := ⟨mkA [(3, vi x3), (6, VV.tr (List.map vi a0) a0.length), (7, vi (a0.length : Int)), (8, vi x8)], [], .nil⟩
def Qe4 (a0 : (List Int)) (r : Int) : VS := ⟨mkA [(3, vi r)], [], .nil⟩
def Qc1 (k : Nat) (a0 : (List Int)) : Nat -> Int -> Int -> Option (Int)
 | 0, _, _ => none
 | fuel + 1, x3, x8 => if x8 < (a0.length : Int) then (if 0 <= x8 /\ x8 < (a0.length : Int) then ((Qc0 k a0 x8 k x3 (a0.getD x8.toNat 0)).bind fun r11299 => (Qc1 k a0 fuel r11299 (w64 (x8 + 1)))) else none) else (some x3)
theorem Qkj (k : Nat) (a0 : (List Int)) : ∀ (fuel : Nat) (x3 : Int) (x8 : Int) (r : Int), Qc1 k a0 fuel x3 x8 = some r -> (Jb none Try.prog (szF Try.f50) (Zy Try.f50 0) (Qfe a0 x3 x8) (.exit 0) (Qe4 a0 r)) := by
 intro fuel
 induction fuel with
 | zero => intro x3 x8 r h; rw [Qc1.eq_1] at h; cases h
 | succ fuel ih =>
  intro x3 x8 r h
  rw [Qc1.eq_2] at h
  rcases ifs h with ⟨h11289, h⟩ | ⟨h11289, h⟩
  ·obtain ⟨h11290, h⟩ := ifn h
   have e11291 := (X8 ag3 vi a0 0 h11290 rfl)
   obtain ⟨r11299, h11298, h⟩ := bs h
   have hph11298 := Qki k a0 x8 _ _ _ _ h11298
   have e11300 := (an (ti tt) (VRun.loop hph11298))
   have h2 := ih _ _ _ h
   obtain ⟨q, hv, hq⟩ := pK none Try.prog Try.f50 0 (Qfe a0 x3 x8) [.reg (.n :: []), .br true, .reg (.n :: .v (vi (a0.getD x8.toNat 0)) :: .n :: []), .sub ⟨(tn [3, 5, 6, 7, 8]), [], []⟩ (.exit 2) (Qe3 a0 x8 r11299), .reg (.n :: .n :: [])] ⟨(tn [3, 6, 7, 8]), [], []⟩ .normal (Qfe a0 r11299 (w64 (x8 + 1))) (an (an (ti tt) (an (te h11289) (an (an (an h11290 (an e11291 (ti tt))) e11300) (t2 tt)))) (ti tt)) (by kernel_rfl)
   exact Qd pm pn hv hq h2
  ·obtain rfl := si h
   exact Qk (c := ⟨[(3, none)], [], []⟩) (s1 := (Qe4 a0 x3)) pm pn (ans := [.reg (.n :: []), .br false]) (by kernel_rfl) nofun (an (an (ti tt) (tf h11289)) (ti tt))
def Qi3 (k : Nat) (a0 : (List Int)) : Option Int :=
 (Qc1 k a0 k 0 0).bind fun r11302 => (some (maxI r11302 (w64 (0 - r11302))))
theorem Qnp (k : Nat) (a0 : (List Int)) (r : Int) (h : Qi3 k a0 = some r) : VC Try.prog 50 [VV.tr (List.map vi a0) a0.length] (vi r) := by
 unfold Qi3 at h
 obtain ⟨r11302, h11301, h⟩ := bs h
 have hph11301 := Qkj k a0 _ _ _ _ h11301
 have e11303 := (an (ti tt) (VRun.loop hph11301))
 obtain rfl := si h
 exact Qi pm pn Try.func50 (r0 := vi (maxI r11302 (w64 (0 - r11302)))) (ans := [.reg (.n :: []), .reg (.n :: []), .reg (nN 3 []), .sub ⟨(tn [3, 6, 7, 8]), [], []⟩ (.exit 0) (Qe4 a0 r11302), .reg (nN 5 [])]) (fr := true) (by kernel_rfl) (an (w2 (ti tt) (an (an (t3 tt) e11303) (an (t5 tt) tt))) (ti tt)) (Wv.refl _)
theorem Q59 (z0 : (List Int)) : [VV.tr (List.map vi z0) z0.length] = [VV.tr (List.drop 0 (List.map unfr (List.map vi z0))) z0.length] := by first | rfl | (simp only [Qdb, Qj, map_cons, map_nil, un_i, Jg, length_map, length_cons, length_nil]; done) | (simp only [Qdb, Qj, map_cons, map_nil, un_i, Jg, length_map, length_cons, length_nil]; rfl) | (simp only [Qdb, Qj, map_cons, map_nil, un_i, Jg, length_map, length_cons, length_nil, length_cons, length_nil, length_append]; done)
theorem Q6a (z0 : (List Int)) : [vi 1000000000000, VV.tr (List.map vi z0) z0.length] = [vi 1000000000000, VV.tr (List.drop 0 (List.map unfr (List.map vi z0))) z0.length] := by first | rfl | (simp only [Qdb, Qj, map_cons, map_nil, un_i, Jg, length_map, length_cons, length_nil]; done) | (simp only [Qdb, Qj, map_cons, map_nil, un_i, Jg, length_map, length_cons, length_nil]; rfl) | (simp only [Qdb, Qj, map_cons, map_nil, un_i, Jg, length_map, length_cons, length_nil, length_cons, length_nil, length_append]; done)
def Qe5 (k : Nat) (a0 : (List Int)) : Option (List Int) :=
 if ([] : List Int).length + a0.length <= 1000000000 then (some (([] : List Int) ++ a0)) else none
theorem Qi4 (k : Nat) (a0 : (List Int)) (r : (List Int)) (h : Qe5 k a0 = some r) : VC Try.prog 51 [VV.tr (List.map vi a0) a0.length] (VV.fw 1 (List.map vi r) r.length) := by
 unfold Qe5 at h
 rcases Nat.eq_zero_or_pos a0.length with hz0 | h11337
 ·obtain rfl := List.length_eq_zero_iff.1 hz0
  obtain ⟨hz1, h⟩ := ifn h
  obtain rfl := si h
  exact (show VC Try.prog 51 [VV.tr [] 0] (VV.fw 1 [] 0) from VC.Q6b (pre := []) (post := []) (Qi pm pn Try.func51 (r0 := VV.c (.slice none 0 0)) (ans := [.reg (.n :: []), .reg (.n :: .n :: []), .br true, .reg (.n :: [])]) (fr := true) (by kernel_rfl) (an (an (ti tt) (an (t2 tt) (an rt (an (ti tt) tt)))) (ti tt)) Wv.Qmv) (Qi pm pn Try.func51 (r0 := VV.fw 1 (List.drop 0 (List.map unfr ([] ++ []))) (0 + 0)) (ans := [.reg (.n :: []), .reg (.n :: .n :: []), .br false, .reg (nN 4 [])]) (fr := true) (by kernel_rfl) (an (an (ti tt) (an (an (t2 tt) (an rf tt)) (an (t2 (an (show List.length ([] : List VV) = 0 * 1 /\ List.length ([] : List VV) = 0 * 1 /\ (0 + 0) * 8 <= 140737488355328 /\ 0 + 0 < 1099511627776 /\ List.all ([] : List VV) VV.still = true from by decide) (ti tt))) tt))) (an (show List.all (([] : List VV) ++ []) new0 = true from rfl) tt)) (Wv.refl _)))
 ·obtain ⟨h11338, h⟩ := ifn h
  have e11339 := (show List.length [] = 0 * 1 /\ List.length (List.map vi a0) = a0.length * 1 /\ (0 + a0.length) * 8 <= 140737488355328 /\ 0 + a0.length < 1099511627776 /\ List.all (List.map vi a0) VV.still = true from ⟨(by rw [show [] = List.map vi ([] : List Int) from rfl]; simp), (by simp), (by first | omega | (simp at h11338 ⊢; omega)), (by first | omega | (simp at h11338 ⊢; omega)), (by exact Qit _)⟩)
  obtain rfl := si h
  exact Qi pm pn Try.func51 (r0 := VV.fw 1 (List.drop 0 (List.map unfr ([] ++ (List.map vi a0)))) (0 + a0.length)) (ans := [.reg (.n :: []), .reg (.n :: .n :: []), .br false, .reg (nN 4 [])]) (fr := true) (by kernel_rfl) (an (an (ti tt) (an (an (ti (an h11337 tt)) (an rf tt)) (an (t2 (an e11339 (ti tt))) tt))) (an (show List.all ([] ++ (List.map vi a0)) new0 = true from (by rw [show [] ++ (List.map vi a0) = List.map vi (([] : List Int) ++ a0) from (by rw [show [] = List.map vi ([] : List Int) from rfl]; exact List.map_append.symm)]; exact Qj1 _)) tt)) (Wv.of_eq (by first | (simp only [show [] ++ (List.map vi a0) = List.map vi (([] : List Int) ++ a0) from (by rw [show [] = List.map vi ([] : List Int) from rfl]; exact List.map_append.symm), Nat.zero_add, Nat.mul_one, List.map_drop, List.length_drop, Qdb, Qj, Qfn, Qcb, map_cons, map_nil, un_i, un_k, un_b, un_s, Jg, Qf0, length_map, length_replicate, length_append, List.length_set, length_cons, length_nil, Nat.zero_add, Xf, X0, Wj, Xm]; done) | (simp only [show [] ++ (List.map vi a0) = List.map vi (([] : List Int) ++ a0) from (by rw [show [] = List.map vi ([] : List Int) from rfl]; exact List.map_append.symm), Nat.zero_add, Nat.mul_one, List.map_drop, List.length_drop, Qdb, Qj, Qfn, Qcb, map_cons, map_nil, un_i, un_k, un_b, un_s, Jg, Qf0, length_map, length_replicate, length_append, List.length_set, length_cons, length_nil, Nat.zero_add, Xf, X0, Wj, Xm]; rfl)))
theorem Q6c (z0 : (List Int)) : [VV.tr (List.map vi (z0.drop (((1 : Int)).toNat))) ((z0.drop (((1 : Int)).toNat)).length)] = [VV.tr (List.drop (0 + ((1 : Int)).toNat * 1) (List.map unfr (List.map vi z0))) (z0.length - ((1 : Int)).toNat)] := by first | rfl | (simp only [Nat.zero_add, Nat.mul_one, List.map_drop, List.length_drop, Qj, map_cons, map_nil, un_i, Jg, length_map, length_cons, length_nil, Nat.zero_add]; done) | (simp only [Nat.zero_add, Nat.mul_one, List.map_drop, List.length_drop, Qj, map_cons, map_nil, un_i, Jg, length_map, length_cons, length_nil, Nat.zero_add]; rfl) | (simp only [Nat.zero_add, Nat.mul_one, List.map_drop, List.length_drop, Qj, map_cons, map_nil, un_i, Jg, length_map, length_cons, length_nil, Nat.zero_add, length_cons, length_nil, length_append]; done)
def Qtx (z0 : (A100 × Xy)) : List Ans := (.n :: .n :: .call (VV.tu [VV.ag (Qmz z0.1), VV.ag (Qft z0.2)]) :: nN 7 [])
theorem Qtz  : vi 0 = vi ((⟨[], 0⟩ : Qdk).Den) := by first | rfl | (simp only [Qj, map_cons, map_nil, un_i]; done) | (simp only [Qj, map_cons, map_nil, un_i]; rfl) | (simp only [Qj, map_cons, map_nil, un_i, length_cons, length_nil, length_append]; done)
def Qbh (r11346 : (Int × Int)) (r11350 : (A100 × Xy)) (y3 : List Int) (x37 : Int) : VS := ⟨mkA [(2, VV.pt 0 0), (6, VV.pt 1 0), (7, VV.pt 2 0), (9, VV.rf 3 0 y3.length), (36, vi r11346.1), (37, vi x37)], [some ⟨true, 1, [VV.c (.slice none 0 0), vi 0]⟩, some ⟨true, 1, Qmz r11350.1⟩, some ⟨true, 1, Qft r11350.2⟩, some ⟨false, 1, List.map vi y3⟩], .nil⟩
def Qe7 (r11346 : (Int × Int)) (r11350 : (A100 × Xy)) (r : (List Int)) : VS := ⟨mkA [(2, VV.pt 0 0), (9, VV.rf 3 0 r.length)], [some ⟨true, 1, [VV.c (.slice none 0 0), vi 0]⟩, some ⟨true, 1, Qmz r11350.1⟩, some ⟨true, 1, Qft r11350.2⟩, some ⟨false, 1, List.map vi r⟩], .nil⟩
def Qc2 (k : Nat) (r11346 : (Int × Int)) (r11350 : (A100 × Xy)) : Nat -> (List Int) -> Int -> Option ((List Int))
 | 0, _, _ => none
 | fuel + 1, y3, x37 => if x37 < r11346.1 then (if x37 = 0 then ((Qb6 k (⟨r11350.2, r11350.1.e1, r11350.1.e2⟩ : A100)).bind fun r11394 => (if y3.length + ([r11394] : List Int).length <= 1000000000 then (Qc2 k r11346 r11350 fuel (y3 ++ ([r11394] : List Int)) (w64 (x37 + 1))) else none)) else (if x37 = 1 then ((Qb6 k (⟨r11350.1.e0, r11350.2, r11350.1.e2⟩ : A100)).bind fun r11402 => (if y3.length + ([r11402] : List Int).length <= 1000000000 then (Qc2 k r11346 r11350 fuel (y3 ++ ([r11402] : List Int)) (w64 (x37 + 1))) else none)) else (if x37 = 2 then ((Qb6 k (⟨r11350.1.e0, r11350.1.e1, r11350.2⟩ : A100)).bind fun r11410 => (if y3.length + ([r11410] : List Int).length <= 1000000000 then (Qc2 k r11346 r11350 fuel (y3 ++ ([r11410] : List Int)) (w64 (x37 + 1))) else none)) else none))) else (some y3)
theorem Qm0 (k : Nat) (r11346 : (Int × Int)) (r11350 : (A100 × Xy)) : ∀ (fuel : Nat) (y3 : List Int) (x37 : Int) (r : (List Int)), Qc2 k r11346 r11350 fuel y3 x37 = some r -> (Jb none Try.prog (szF Try.f20) (Zy Try.f20 0) (Qbh r11346 r11350 y3 x37) (.exit 0) (Qe7 r11346 r11350 r)) := by
 intro fuel
 induction fuel with
 | zero => intro y3 x37 r h; rw [Qc2.eq_1] at h; cases h
 | succ fuel ih =>
  intro y3 x37 r h
  rw [Qc2.eq_2] at h
  rcases ifs h with ⟨h11391, h⟩ | ⟨h11391, h⟩
  ·rcases ifs h with ⟨h11392, h⟩ | ⟨h11392, h⟩
   ·have e11393 := (show (0 <= x37 /\ x37 < ((3 : Nat) : Int)) /\ VV.pt 4 (0 + x37.toNat * 3) = VV.pt 4 0 from ⟨⟨by have := (of_decide_eq_true (dt h11392)); omega, by have := (of_decide_eq_true (dt h11392)); omega⟩, by rw [show x37 = (0 : Int) from (of_decide_eq_true (dt h11392))]; rfl⟩)
    obtain ⟨r11394, h11395, h⟩ := bs h
    have e11396 := (VC.args (Qdm k (⟨r11350.2, r11350.1.e1, r11350.1.e2⟩ : A100) _ h11395) (Q56 r11350))
    obtain ⟨h11397, h⟩ := ifn h
    have e11398 := (show List.length (List.map vi y3) = y3.length * 1 /\ List.length [vi r11394] = 1 * 1 /\ (y3.length + 1) * 8 <= 140737488355328 /\ y3.length + 1 < 1099511627776 /\ List.all [vi r11394] VV.still = true from ⟨(by simp), (by rw [show [vi r11394] = List.map vi ([r11394] : List Int) from rfl]; simp), (by first | omega | (simp at h11397 ⊢; omega)), (by first | omega | (simp at h11397 ⊢; omega)), (by rw [show [vi r11394] = List.map vi ([r11394] : List Int) from rfl]; exact Qit _)⟩)
    have e11399 := (t2 (an e11396 (ti (an e11398 (ti tt)))))
    have h2 := ih _ _ _ h
    obtain ⟨q, hv, hq⟩ := pK none Try.prog Try.f20 0 (Qbh r11346 r11350 y3 x37) [.reg (.n :: []), .br true, .reg (.n :: .n :: []), .reg (nN 3 []), .reg (.n :: .n :: .v (VV.pt 4 0) :: .n :: []), .reg (.n :: .n :: .call (vi r11394) :: nN 3 []), .reg (.n :: .n :: [])] ⟨[(2, none), (6, none), (7, none), (9, some (VV.rf 3 0 ((y3 ++ ([r11394] : List Int)).length))), (36, none), (37, none)], [none, none, none, some (List.map vi (y3 ++ ([r11394] : List Int)))], []⟩ .normal (Qbh r11346 r11350 (y3 ++ ([r11394] : List Int)) (w64 (x37 + 1))) (an (an (ti tt) (an (te h11391) (an (an (t2 tt) (an (t3 tt) (an (t2 (an e11393 (ti tt))) e11399))) (t2 tt)))) (an (an (show Wv (VV.rf 3 0 (y3.length + 1)) (VV.rf 3 0 ((y3 ++ ([r11394] : List Int)).length)) from (Wv.of_eq (by simp))) tt) (an (show (List.map vi y3) ++ [vi r11394] = List.map vi (y3 ++ ([r11394] : List Int)) from (by rw [show [vi r11394] = List.map vi ([r11394] : List Int) from rfl]; exact List.map_append.symm)) tt))) (by kernel_rfl)
    exact Qd pm pn hv hq h2
   ·rcases ifs h with ⟨h11400, h⟩ | ⟨h11400, h⟩
    ·have e11401 := (show (0 <= x37 /\ x37 < ((3 : Nat) : Int)) /\ VV.pt 4 (0 + x37.toNat * 3) = VV.pt 4 3 from ⟨⟨by have := (of_decide_eq_true (dt h11400)); omega, by have := (of_decide_eq_true (dt h11400)); omega⟩, by rw [show x37 = (1 : Int) from (of_decide_eq_true (dt h11400))]; rfl⟩)
     obtain ⟨r11402, h11403, h⟩ := bs h
     have e11404 := (VC.args (Qdm k (⟨r11350.1.e0, r11350.2, r11350.1.e2⟩ : A100) _ h11403) (Q57 r11350))
     obtain ⟨h11405, h⟩ := ifn h
     have e11406 := (show List.length (List.map vi y3) = y3.length * 1 /\ List.length [vi r11402] = 1 * 1 /\ (y3.length + 1) * 8 <= 140737488355328 /\ y3.length + 1 < 1099511627776 /\ List.all [vi r11402] VV.still = true from ⟨(by simp), (by rw [show [vi r11402] = List.map vi ([r11402] : List Int) from rfl]; simp), (by first | omega | (simp at h11405 ⊢; omega)), (by first | omega | (simp at h11405 ⊢; omega)), (by rw [show [vi r11402] = List.map vi ([r11402] : List Int) from rfl]; exact Qit _)⟩)
     have e11407 := (t2 (an e11404 (ti (an e11406 (ti tt)))))
     have h2 := ih _ _ _ h
     obtain ⟨q, hv, hq⟩ := pK none Try.prog Try.f20 0 (Qbh r11346 r11350 y3 x37) [.reg (.n :: []), .br true, .reg (.n :: .n :: []), .reg (nN 3 []), .reg (.n :: .n :: .v (VV.pt 4 3) :: .n :: []), .reg (.n :: .n :: .call (vi r11402) :: nN 3 []), .reg (.n :: .n :: [])] ⟨[(2, none), (6, none), (7, none), (9, some (VV.rf 3 0 ((y3 ++ ([r11402] : List Int)).length))), (36, none), (37, none)], [none, none, none, some (List.map vi (y3 ++ ([r11402] : List Int)))], []⟩ .normal (Qbh r11346 r11350 (y3 ++ ([r11402] : List Int)) (w64 (x37 + 1))) (an (an (ti tt) (an (te h11391) (an (an (t2 tt) (an (t3 tt) (an (t2 (an e11401 (ti tt))) e11407))) (t2 tt)))) (an (an (show Wv (VV.rf 3 0 (y3.length + 1)) (VV.rf 3 0 ((y3 ++ ([r11402] : List Int)).length)) from (Wv.of_eq (by simp))) tt) (an (show (List.map vi y3) ++ [vi r11402] = List.map vi (y3 ++ ([r11402] : List Int)) from (by rw [show [vi r11402] = List.map vi ([r11402] : List Int) from rfl]; exact List.map_append.symm)) tt))) (by kernel_rfl)
     exact Qd pm pn hv hq h2
    ·rcases ifs h with ⟨h11408, h⟩ | ⟨h11408, h⟩
     ·have e11409 := (show (0 <= x37 /\ x37 < ((3 : Nat) : Int)) /\ VV.pt 4 (0 + x37.toNat * 3) = VV.pt 4 6 from ⟨⟨by have := (of_decide_eq_true (dt h11408)); omega, by have := (of_decide_eq_true (dt h11408)); omega⟩, by rw [show x37 = (2 : Int) from (of_decide_eq_true (dt h11408))]; rfl⟩)
      obtain ⟨r11410, h11411, h⟩ := bs h
      have e11412 := (VC.args (Qdm k (⟨r11350.1.e0, r11350.1.e1, r11350.2⟩ : A100) _ h11411) (Q58 r11350))
      obtain ⟨h11413, h⟩ := ifn h
      have e11414 := (show List.length (List.map vi y3) = y3.length * 1 /\ List.length [vi r11410] = 1 * 1 /\ (y3.length + 1) * 8 <= 140737488355328 /\ y3.length + 1 < 1099511627776 /\ List.all [vi r11410] VV.still = true from ⟨(by simp), (by rw [show [vi r11410] = List.map vi ([r11410] : List Int) from rfl]; simp), (by first | omega | (simp at h11413 ⊢; omega)), (by first | omega | (simp at h11413 ⊢; omega)), (by rw [show [vi r11410] = List.map vi ([r11410] : List Int) from rfl]; exact Qit _)⟩)
      have e11415 := (t2 (an e11412 (ti (an e11414 (ti tt)))))
      have h2 := ih _ _ _ h
      obtain ⟨q, hv, hq⟩ := pK none Try.prog Try.f20 0 (Qbh r11346 r11350 y3 x37) [.reg (.n :: []), .br true, .reg (.n :: .n :: []), .reg (nN 3 []), .reg (.n :: .n :: .v (VV.pt 4 6) :: .n :: []), .reg (.n :: .n :: .call (vi r11410) :: nN 3 []), .reg (.n :: .n :: [])] ⟨[(2, none), (6, none), (7, none), (9, some (VV.rf 3 0 ((y3 ++ ([r11410] : List Int)).length))), (36, none), (37, none)], [none, none, none, some (List.map vi (y3 ++ ([r11410] : List Int)))], []⟩ .normal (Qbh r11346 r11350 (y3 ++ ([r11410] : List Int)) (w64 (x37 + 1))) (an (an (ti tt) (an (te h11391) (an (an (t2 tt) (an (t3 tt) (an (t2 (an e11409 (ti tt))) e11415))) (t2 tt)))) (an (an (show Wv (VV.rf 3 0 (y3.length + 1)) (VV.rf 3 0 ((y3 ++ ([r11410] : List Int)).length)) from (Wv.of_eq (by simp))) tt) (an (show (List.map vi y3) ++ [vi r11410] = List.map vi (y3 ++ ([r11410] : List Int)) from (by rw [show [vi r11410] = List.map vi ([r11410] : List Int) from rfl]; exact List.map_append.symm)) tt))) (by kernel_rfl)
      exact Qd pm pn hv hq h2
     ·cases h
  ·obtain rfl := si h
   exact Qk (c := ⟨(tn [2, 9]), [none, none, none, none], []⟩) (s1 := (Qe7 r11346 r11350 y3)) pm pn (ans := [.reg (.n :: []), .br false]) (by kernel_rfl) nofun (an (an (ti tt) (tf h11391)) (ti tt))
def Qg3 (r11350 : (A100 × Xy)) (r11417 : (List Int)) (r11419 : Int) (y3 : List Int) (x54 : Int) : VS := ⟨mkA [(2, VV.pt 0 0), (9, VV.rf 3 0 y3.length), (12, vi r11419), (53, vi ((r11417.length : Nat) : Int)), (54, vi x54)], [some ⟨true, 1, [VV.c (.slice none 0 0), vi 0]⟩, some ⟨true, 1, Qmz r11350.1⟩, some ⟨true, 1, Qft r11350.2⟩, some ⟨false, 1, List.map vi y3⟩], .nil⟩
def Qe8 (r11350 : (A100 × Xy)) (r11417 : (List Int)) (r11419 : Int) (r : (List Int)) : VS := ⟨mkA [(2, VV.pt 0 0), (9, VV.rf 3 0 r.length)], [some ⟨true, 1, [VV.c (.slice none 0 0), vi 0]⟩, some ⟨true, 1, Qmz r11350.1⟩, some ⟨true, 1, Qft r11350.2⟩, some ⟨false, 1, List.map vi r⟩], .nil⟩
def Qff (k : Nat) (r11350 : (A100 × Xy)) (r11417 : (List Int)) (r11419 : Int) : Nat -> (List Int) -> Int -> Option ((List Int))
 | 0, _, _ => none
 | fuel + 1, y3, x54 => if x54 < ((r11417.length : Nat) : Int) then (if 0 <= x54 /\ x54 < (y3.length : Int) then (if r11419 ≠ 0 then (Qff k r11350 r11417 r11419 fuel (y3.set x54.toNat (w64 ((y3.getD x54.toNat 0).tdiv r11419))) (w64 (x54 + 1))) else none) else none) else (some y3)
theorem Qm1 (k : Nat) (r11350 : (A100 × Xy)) (r11417 : (List Int)) (r11419 : Int) : ∀ (fuel : Nat) (y3 : List Int) (x54 : Int) (r : (List Int)), Qff k r11350 r11417 r11419 fuel y3 x54 = some r -> (Jb none Try.prog (szF Try.f20) (Zy Try.f20 1) (Qg3 r11350 r11417 r11419 y3 x54) (.exit 2) (Qe8 r11350 r11417 r11419 r)) := by
 intro fuel
 induction fuel with
 | zero => intro y3 x54 r h; rw [Qff.eq_1] at h; cases h
 | succ fuel ih =>
  intro y3 x54 r h
  rw [Qff.eq_2] at h
  rcases ifs h with ⟨h11434, h⟩ | ⟨h11434, h⟩
  ·obtain ⟨h11435, h⟩ := ifn h
   have e11436 := (show Zg Try.prog 3 (0 + x54.toNat * 1) (List.map vi y3) = some (vi (y3.getD x54.toNat 0)) from X8 ag3 vi y3 0 h11435 (by omega))
   obtain ⟨h11437, h⟩ := ifn h
   have e11438 := (show (0 + x54.toNat * 1) + 1 <= List.length (List.map vi y3) from (by simp only [length_map]; omega))
   have e11439 := (t2 (an h11435 (an e11436 (ti (an h11437 (an h11435 (an e11438 tt)))))))
   have h2 := ih _ _ _ h
   obtain ⟨q, hv, hq⟩ := pK none Try.prog Try.f20 1 (Qg3 r11350 r11417 r11419 y3 x54) [.reg (.n :: []), .br true, .reg (.n :: .n :: []), .reg (nN 3 (.v (vi (y3.getD x54.toNat 0)) :: nN 4 [])), .reg (.n :: .n :: [])] ⟨[(2, none), (9, some (VV.rf 3 0 ((y3.set x54.toNat (w64 ((y3.getD x54.toNat 0).tdiv r11419))).length))), (12, none), (53, none), (54, none)], [none, none, none, some (List.map vi (y3.set x54.toNat (w64 ((y3.getD x54.toNat 0).tdiv r11419))))], []⟩ .normal (Qg3 r11350 r11417 r11419 (y3.set x54.toNat (w64 ((y3.getD x54.toNat 0).tdiv r11419))) (w64 (x54 + 1))) (an (an (ti tt) (an (te h11434) (an (an (t2 tt) e11439) (t2 tt)))) (an (an (show Wv (VV.rf 3 0 y3.length) (VV.rf 3 0 ((y3.set x54.toNat (w64 ((y3.getD x54.toNat 0).tdiv r11419))).length)) from (Wv.of_eq (by simp))) tt) (an (show putT (0 + x54.toNat * 1) (List.map vi y3) [vi (w64 ((y3.getD x54.toNat 0).tdiv r11419))] = List.map vi (y3.set x54.toNat (w64 ((y3.getD x54.toNat 0).tdiv r11419))) from (by exact Qkx y3 h11435 (w64 ((y3.getD x54.toNat 0).tdiv r11419)) (by omega))) tt))) (by kernel_rfl)
   exact Qd pm pn hv hq h2
  ·obtain rfl := si h
   exact Qk (c := ⟨(tn [2, 9]), [none, none, none, none], []⟩) (s1 := (Qe8 r11350 r11417 r11419 y3)) pm pn (ans := [.reg (.n :: []), .br false]) (by kernel_rfl) nofun (an (an (ti tt) (tf h11434)) (ti tt))
def Q3w (z0 : (List Int)) (z1 : (List Int)) : List Ans := (.n :: .n :: .call (VV.fr (List.map vi z0) z0.length) :: .n :: .n :: .v (vi (z1.getD ((0 : Int)).toNat 0)) :: nN 3 [])
theorem Q3x (z0 : (List Int)) (z1 : (List Int)) : VV.tu [VV.ag [VV.fr (List.map vi z0) z0.length, vi (z1.getD ((0 : Int)).toNat 0)], vi 0] = VV.tu [VV.ag (Qid (⟨z0, (z1.getD ((0 : Int)).toNat 0)⟩ : Qdk)), vi 0] := by first | rfl | (simp only [Qj, map_cons, map_nil, un_i, Qf0, length_map, length_cons, length_nil, Xh]; done) | (simp only [Qj, map_cons, map_nil, un_i, Qf0, length_map, length_cons, length_nil, Xh]; rfl) | (simp only [Qj, map_cons, map_nil, un_i, Qf0, length_map, length_cons, length_nil, Xh, Qid, length_cons, length_nil, length_append]; done)
def Qnn (k : Nat) (a0 : (List Zk)) : Option (Qdk × Int) :=
 (Qg2 k a0).bind fun r11346 => (if r11346.2 = 0 then ((Qhn k a0 r11346.1).bind fun r11350 => ((Qb6 k r11350.1).bind fun r11354 => (if r11354 = 0 then (some ((⟨[], 0⟩ : Qdk), 11)) else ((Qc2 k r11346 r11350 k ([r11354] : List Int) 0).bind fun r11417 => ((Qi3 k r11417).bind fun r11419 => ((Qff k r11350 r11417 r11419 k r11417 0).bind fun r11441 => ((Yc k 1000000000000 r11441).bind fun r11443 => (if r11443 = true then (if 0 <= (1 : Int) /\ ((1 : Int)).toNat <= r11441.length then ((Qe5 k (r11441.drop (((1 : Int)).toNat))).bind fun r11449 => (if (0 : Int) <= 0 /\ 0 < (r11441.length : Int) then (some ((⟨r11449, (r11441.getD ((0 : Int)).toNat 0)⟩ : Qdk), 0)) else none)) else none) else (some ((⟨[], 0⟩ : Qdk), 8)))))))))) else (some ((⟨[], 0⟩ : Qdk), r11346.2)))
theorem Qq7 (k : Nat) (a0 : (List Zk)) (r : (Qdk × Int)) (h : Qnn k a0 = some r) : VC Try.prog 20 [VV.tr (flatMap Zj a0) a0.length] (VV.tu [VV.ag (Qid r.1), vi r.2]) := by
 unfold Qnn at h
 obtain ⟨r11346, h11347, h⟩ := bs h
 have e11348 := (ti (an (Qlz k a0 _ h11347) (t5 tt)))
 rcases ifs h with ⟨h11349, h⟩ | ⟨h11349, h⟩
 ·obtain ⟨r11350, h11351, h⟩ := bs h
  have e11352 := (Qmc k a0 r11346.1 _ h11351)
  have e11353 := (t2 (an e11352 (t7 tt)))
  obtain ⟨r11354, h11355, h⟩ := bs h
  have e11356 := (Qdm k r11350.1 _ h11355)
  rcases ifs h with ⟨h11357, h⟩ | ⟨h11357, h⟩
  ·obtain rfl := si h
   exact Qi pm pn Try.func20 (r0 := VV.tu [VV.ag [VV.c (.slice none 0 0), vi 0], vi 11]) (ans := [.reg (.n :: .n :: []), .reg (.n :: .call (VV.tu [vi r11346.1, vi r11346.2]) :: nN 5 []), .reg (.n :: .n :: []), .br false, .reg (Qtx r11350), .reg (.n :: .call (vi r11354) :: .n :: []), .reg (.n :: .n :: []), .br true, .reg (nN 3 [])]) (fr := true) (by kernel_rfl) (an (an (t2 tt) (an e11348 (an (an (t2 tt) (ta h11349)) (an e11353 (an (ti (an e11356 (ti tt))) (an (t2 tt) (an (dt h11357) (an (t3 tt) tt)))))))) (an (t3 tt) (ti tt))) (Wv.tuL (.cons (Wv.agL (.cons Wv.Qyt (.cons (Wv.of_eq Qtz) .nil))) (.cons (Wv.refl _) .nil)))
  ·obtain ⟨r11417, h11416, h⟩ := bs h
   have hph11416 := Qm0 k r11346 r11350 _ _ _ _ h11416
   have e11418 := (an (an (an (show Wv (VV.rf 3 0 1) (VV.rf 3 0 (([r11354] : List Int).length)) from (Wv.of_eq (by simp))) tt) (an (show [vi r11354] = List.map vi ([r11354] : List Int) from rfl) tt)) (VRun.loop hph11416))
   obtain ⟨r11419, h11420, h⟩ := bs h
   have e11421 := (VC.args (Qnp k r11417 _ h11420) (Q59 r11417))
   obtain ⟨r11441, h11440, h⟩ := bs h
   have hph11440 := Qm1 k r11350 r11417 r11419 _ _ _ _ h11440
   have e11442 := (an (ti tt) (VRun.loop hph11440))
   obtain ⟨r11443, h11444, h⟩ := bs h
   have e11445 := (VC.args (Qap k 1000000000000 r11441 _ h11444) (Q6a r11441))
   rcases ifs h with ⟨h11446, h⟩ | ⟨h11446, h⟩
   ·obtain ⟨h11447, h⟩ := ifn h
    have e11448 := (show 0 <= (1 : Int) /\ True /\ ((1 : Int)).toNat <= r11441.length /\ r11441.length <= r11441.length from ⟨h11447.1, tt, by have := h11447; omega, Nat.le_refl _⟩)
    obtain ⟨r11449, h11450, h⟩ := bs h
    have e11451 := (VC.args (VC.weak (Qi4 k (r11441.drop (((1 : Int)).toNat)) _ h11450) (Wv.fw rfl rfl)) (Q6c r11441))
    obtain ⟨h11452, h⟩ := ifn h
    have e11453 := (show Zg Try.prog 3 (0 + ((0 : Int)).toNat * 1) (List.map vi r11441) = some (vi (r11441.getD ((0 : Int)).toNat 0)) from X8 ag3 vi r11441 0 h11452 (by omega))
    have e11454 := (ti (an e11448 (an e11451 (ti (an h11452 (an e11453 (t3 tt)))))))
    obtain rfl := si h
    exact Qi pm pn Try.func20 (r0 := VV.tu [VV.ag [VV.fr (List.map vi r11449) r11449.length, vi (r11441.getD ((0 : Int)).toNat 0)], vi 0]) (ans := [.reg (.n :: .n :: []), .reg (.n :: .call (VV.tu [vi r11346.1, vi r11346.2]) :: nN 5 []), .reg (.n :: .n :: []), .br false, .reg (Qtx r11350), .reg (.n :: .call (vi r11354) :: .n :: []), .reg (.n :: .n :: []), .br false, .reg (nN 3 []), .reg (.n :: .n :: []), .sub ⟨[(2, none), (6, none), (7, none), (9, some (VV.rf 3 0 (([r11354] : List Int).length))), (36, none), (37, none)], [none, none, none, some (List.map vi ([r11354] : List Int))], []⟩ (.exit 0) (Qe7 r11346 r11350 r11417), .reg (.n :: .call (vi r11419) :: .n :: []), .reg (nN 3 []), .sub ⟨(tn [2, 9, 12, 53, 54]), [none, none, none, none], []⟩ (.exit 2) (Qe8 r11350 r11417 r11419 r11441), .reg (.n :: .call (vb r11443) :: .n :: []), .br false, .reg (Q3w r11449 r11441)]) (fr := true) (by kernel_rfl) (an (an (t2 tt) (an e11348 (an (an (t2 tt) (ta h11349)) (an e11353 (an (ti (an e11356 (ti tt))) (an (an (t2 tt) (tf h11357)) (an (t3 tt) (an (an (t2 tt) e11418) (an (ti (an e11421 (ti tt))) (an (an (t3 tt) e11442) (an (an (ti (an e11445 (ti tt))) (an (Qh h11446) tt)) (an e11454 tt)))))))))))) (an (t3 tt) (ti tt))) (Wv.of_eq (Q3x r11449 r11441))
   ·obtain rfl := si h
    exact Qi pm pn Try.func20 (r0 := VV.tu [VV.ag [VV.c (.slice none 0 0), vi 0], vi 8]) (ans := [.reg (.n :: .n :: []), .reg (.n :: .call (VV.tu [vi r11346.1, vi r11346.2]) :: nN 5 []), .reg (.n :: .n :: []), .br false, .reg (Qtx r11350), .reg (.n :: .call (vi r11354) :: .n :: []), .reg (.n :: .n :: []), .br false, .reg (nN 3 []), .reg (.n :: .n :: []), .sub ⟨[(2, none), (6, none), (7, none), (9, some (VV.rf 3 0 (([r11354] : List Int).length))), (36, none), (37, none)], [none, none, none, some (List.map vi ([r11354] : List Int))], []⟩ (.exit 0) (Qe7 r11346 r11350 r11417), .reg (.n :: .call (vi r11419) :: .n :: []), .reg (nN 3 []), .sub ⟨(tn [2, 9, 12, 53, 54]), [none, none, none, none], []⟩ (.exit 2) (Qe8 r11350 r11417 r11419 r11441), .reg (.n :: .call (vb r11443) :: .n :: []), .br true, .reg (nN 3 [])]) (fr := true) (by kernel_rfl) (an (an (t2 tt) (an e11348 (an (an (t2 tt) (ta h11349)) (an e11353 (an (ti (an e11356 (ti tt))) (an (an (t2 tt) (tf h11357)) (an (t3 tt) (an (an (t2 tt) e11418) (an (ti (an e11421 (ti tt))) (an (an (t3 tt) e11442) (an (ti (an e11445 (ti tt))) (an (Qr (Qn h11446)) (an (t3 tt) tt))))))))))))) (an (t3 tt) (ti tt))) (Wv.tuL (.cons (Wv.agL (.cons Wv.Qyt (.cons (Wv.of_eq Qtz) .nil))) (.cons (Wv.refl _) .nil)))
 ·obtain rfl := si h
  exact Qi pm pn Try.func20 (r0 := VV.tu [VV.ag [VV.c (.slice none 0 0), vi 0], vi r11346.2]) (ans := [.reg (.n :: .n :: []), .reg (.n :: .call (VV.tu [vi r11346.1, vi r11346.2]) :: nN 5 []), .reg (.n :: .n :: []), .br true, .reg (nN 4 [])]) (fr := true) (by kernel_rfl) (an (an (t2 tt) (an e11348 (an (t2 tt) (an (td h11349) (an (t4 tt) tt))))) (an (t3 tt) (ti tt))) (Wv.tuL (.cons (Wv.agL (.cons Wv.Qyt (.cons (Wv.of_eq Qtz) .nil))) (.cons (Wv.refl _) .nil)))
end Go.Proofs.Ytjomicmhnbmhoaa.Vg

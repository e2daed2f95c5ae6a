import Derived.Test.YtjomicmhnbmhoaaB2
namespace Go.Proofs.Ytjomicmhnbmhoaa.Vg
set_option maxRecDepth 100000
set_option maxHeartbeats 4000000
set_option linter.unusedVariables false
set_option linter.unusedSimpArgs false
open Go Go.Proofs.Ytjomicmhnbmhoaa.Ev Go.Proofs.Ytjomicmhnbmhoaa.Vv
open List (flatMap length_cons length_nil length_map length_append map_cons map_nil length_replicate)
structure Qbs where
 Mount : Qc
 Targets : (List Qa)
 At : A26
 deriving Inhabited
def Qdw (x : Qbs) : List VV := [vi x.Mount.Least, vi x.Mount.Most, vi x.Mount.Low, vi x.Mount.High, vi x.Mount.Speed, VV.tr (flatMap Qi x.Mount.Refraction) x.Mount.Refraction.length, VV.tr (flatMap Qi x.Mount.Drift) x.Mount.Drift.length, VV.tr (flatMap Qe x.Targets) x.Targets.length, vi x.At.e0, vi x.At.e1]
def Qz7 (x : Qbs) : List VV := [vi x.Mount.Least, vi x.Mount.Most, vi x.Mount.Low, vi x.Mount.High, vi x.Mount.Speed, VV.fr (flatMap Qi x.Mount.Refraction) x.Mount.Refraction.length, VV.fr (flatMap Qi x.Mount.Drift) x.Mount.Drift.length, VV.fr (flatMap Qe x.Targets) x.Targets.length, vi x.At.e0, vi x.At.e1]
theorem Qfq (xs : List Qbs) : (xs.flatMap Qdw).map unfr = xs.flatMap Qdw := Qae (fun _ => rfl) xs
theorem Qfr (xs : List Qbs) : (xs.flatMap Qz7).map unfr = xs.flatMap Qdw := Qae (fun _ => rfl) xs
structure Xt where
 begin : Int
 stops : (List Zv)
 deriving Inhabited
def Xd (x : Xt) : List VV := [vi x.begin, VV.tr (flatMap Qy x.stops) x.stops.length]
def Qm5 (x : Xt) : List VV := [vi x.begin, VV.fr (flatMap Qy x.stops) x.stops.length]
theorem Qci (xs : List Xt) : (xs.flatMap Xd).map unfr = xs.flatMap Xd := Qae (fun _ => rfl) xs
theorem Qii (xs : List Xt) : (xs.flatMap Qm5).map unfr = xs.flatMap Xd := Qae (fun _ => rfl) xs
theorem ag9 : Qch Try.prog 9 = some false := by kernel_rfl
theorem ag52 : Qch Try.prog 52 = some true := by kernel_rfl
theorem sz52 : szOf Try.prog 52 = some 6 := by kernel_rfl
def X5 (a0 : Qbs) (x3 : Int) : VS := ⟨mkA [(1, VV.pt 0 0), (3, vi x3)], [some ⟨true, 1, Qdw a0⟩], .nil⟩
def Ya (a0 : Qbs) (r : Unit) : VS := ⟨mkA [(2, vb false)], [], .nil⟩
def Zz (a0 : Qbs) (r : Unit) : VS := ⟨mkA [(1, VV.pt 0 0)], [some ⟨true, 1, Qdw a0⟩], .nil⟩
def Zh (k : Nat) (a0 : Qbs) : Nat -> Int -> Option (Sum Unit Unit)
 | 0, _ => none
 | fuel + 1, x3 => if x3 < (a0.Targets.length : Int) then (if 0 <= x3 /\ x3 < (a0.Targets.length : Int) then (if 30 < (((a0.Targets.getD x3.toNat default).Name).size : Int) then (some (.inl ())) else (Zh k a0 fuel (w64 (x3 + 1)))) else none) else (some (.inr ()))
theorem Qc7 (k : Nat) (a0 : Qbs) : ∀ (fuel : Nat) (x3 : Int) (r : Sum Unit Unit), Zh k a0 fuel x3 = some r -> (match r with | .inl r => Y9 none Try.prog (szF Try.f6) (Yb Try.f6 0) (X5 a0 x3) .ret (Ya a0 r) | .inr r => Y9 none Try.prog (szF Try.f6) (Yb Try.f6 0) (X5 a0 x3) (.exit 0) (Zz a0 r)) := by
 intro fuel
 induction fuel with
 | zero => intro x3 r h; rw [Zh.eq_1] at h; cases h
 | succ fuel ih =>
  intro x3 r h
  rw [Zh.eq_2] at h
  rcases ifs h with ⟨h1558, h⟩ | ⟨h1558, h⟩
  ·obtain ⟨h1559, h⟩ := ifn h
   have e1560 := (show Z4 Try.prog 9 (x3.toNat * 6 + 0) (flatMap Qe a0.Targets) = some (vs ((a0.Targets.getD x3.toNat default).Name)) from (Qes ag9 Qe 6 0 X9 (by omega) a0.Targets default h1559 (by omega)).trans rfl)
   have e1561 := (ti (ti (ti (an h1559 (ti (an e1560 (ti (ti tt))))))))
   rcases ifs h with ⟨h1562, h⟩ | ⟨h1562, h⟩
   ·injection h with h; subst h
    exact Zi (c := ⟨[(2, none)], [], []⟩) (s1 := (Ya a0 ())) pm pn (ans := [.reg (nN 5 []), .br true, .reg (nN 5 (.v (vs ((a0.Targets.getD x3.toNat default).Name)) :: .n :: .n :: [])), .br true, .reg (.n :: [])]) (by kernel_rfl) (by intro e; cases e) (an (an (an (ti (ti (ti (ti (ti tt))))) (an (dt h1558) tt)) (an e1561 (an (dt h1562) (an (ti tt) tt)))) (ti tt))
   ·have h2 := ih _ _ h
    obtain ⟨q, hv, hq⟩ := pkR (rd := none) (P := Try.prog) (fn := Try.f6) (k := 0) (s := (X5 a0 x3)) (ans := [.reg (nN 5 []), .br true, .reg (nN 5 (.v (vs ((a0.Targets.getD x3.toNat default).Name)) :: .n :: .n :: [])), .br false, .reg (nN 3 [])]) (c := ⟨[(1, none), (3, none)], [none], []⟩) (e := .normal) (s1 := (X5 a0 (w64 (x3 + 1)))) (an (an (an (ti (ti (ti (ti (ti tt))))) (an (dt h1558) tt)) (an (an e1561 (an (df h1562) tt)) (ti (ti (ti tt))))) (ti tt)) (by kernel_rfl)
    cases r with
    | inl r => exact Zc pm pn hv hq h2
    | inr r =>
     exact Zc pm pn hv hq h2
  ·injection h with h; subst h
   exact Zi (c := ⟨[(1, none)], [none], []⟩) (s1 := (Zz a0 ())) pm pn (ans := [.reg (nN 5 []), .br false]) (by kernel_rfl) (by intro e; cases e) (an (an (ti (ti (ti (ti (ti tt))))) (an (df h1558) tt)) (ti tt))
def Q17 (z0 : Bool) : List Ans := (.n :: .n :: .call (vb z0) :: nN 7 (.skip :: .skip :: .b false :: .b false :: .b true :: .n :: []))
def Jv (k : Nat) (a0 : Qbs) : Option Bool :=
 (Zh k a0 k 0).bind fun r1564 => (match r1564 with | .inl r1565 => (some false) | .inr r1566 => ((Ju k a0.Mount).bind fun r1569 => (if r1569 = true then (if (a0.Targets.length : Int) <= 5 then (some true) else (if 20 < (a0.Targets.length : Int) then (some (decide ((a0.Targets.length : Int) <= 23))) else (some false))) else (some false))))
theorem Ws (k : Nat) (a0 : Qbs) (r : Bool) (h : Jv k a0 = some r) : VC Try.prog 6 [VV.ag (Qdw a0)] (vb r) := by
 unfold Jv at h
 obtain ⟨r1564, h1563, h⟩ := bs h
 have hph1563 := Qc7 k a0 _ _ _ h1563
 cases r1564 with
 | inl r1565 =>
  dsimp only at h
  have e1567 := (an (ti tt) (VRun.loop hph1563))
  injection h with h; subst h
  exact Qn pm pn Try.func6 (r0 := vb false) (ans := [.reg (.n :: .n :: []), .reg (.n :: []), .sub ⟨[(1, none), (3, none)], [none], []⟩ .ret (Ya a0 r1565)]) (fr := true) (by kernel_rfl) (an (an (ti (ti tt)) (an (ti tt) e1567)) (ti tt)) (Wv.refl _)
 | inr r1566 =>
  dsimp only at h
  have e1568 := (an (ti tt) (VRun.loop hph1563))
  obtain ⟨r1569, h1570, h⟩ := bs h
  have e1571 := (Qex k a0.Mount _ h1570)
  rcases ifs h with ⟨h1572, h⟩ | ⟨h1572, h⟩
  ·rcases ifs h with ⟨h1573, h⟩ | ⟨h1573, h⟩
   ·have e1574 := (ti (ti (an e1571 (ti (an (an h1572 tt) (an (an h1572 tt) (an (an h1572 tt) (an (dt h1573) (an (dt h1573) (an (dt h1573) (ti (ti (an (dt h1573) (an (an h1572 (dt h1573)) (an h1572 (ti tt))))))))))))))))
    injection h with h; subst h
    exact Qn pm pn Try.func6 (r0 := vb true) (ans := [.reg (.n :: .n :: []), .reg (.n :: []), .sub ⟨[(1, none), (3, none)], [none], []⟩ (.exit 0) (Zz a0 r1566), .reg (nN 4 []), .reg (.n :: .n :: .call (vb r1569) :: nN 4 (nS 6 (.b true :: .b true :: .n :: [])))]) (fr := true) (by kernel_rfl) (an (an (ti (ti tt)) (an (an (ti tt) e1568) (an (ti (ti (ti (ti tt)))) (an e1574 tt)))) (ti tt)) (Wv.refl _)
   ·rcases ifs h with ⟨h1575, h⟩ | ⟨h1575, h⟩
    ·have e1576 := (an (df h1573) (dt h1575))
     have e1577 := (ti (ti (an e1571 (ti (an (an h1572 tt) (an (an h1572 tt) (an (an h1572 tt) (an (an (df h1573) tt) (an (an (df h1573) tt) (an (an (df h1573) tt) (an (an (dt h1575) tt) (an (an (dt h1575) tt) (an e1576 (an (an h1572 (df h1573)) (an h1572 (ti tt))))))))))))))))
     injection h with h; subst h
     exact Qn pm pn Try.func6 (r0 := vb (decide ((a0.Targets.length : Int) <= 23))) (ans := [.reg (.n :: .n :: []), .reg (.n :: []), .sub ⟨[(1, none), (3, none)], [none], []⟩ (.exit 0) (Zz a0 r1566), .reg (nN 4 []), .reg (.n :: .n :: .call (vb r1569) :: nN 9 (.b true :: .b false :: .b true :: .n :: []))]) (fr := true) (by kernel_rfl) (an (an (ti (ti tt)) (an (an (ti tt) e1568) (an (ti (ti (ti (ti tt)))) (an e1577 tt)))) (ti tt)) (Wv.refl _)
    ·have e1578 := (an (df h1573) (df h1575))
     have e1579 := (ti (ti (an e1571 (ti (an (an h1572 tt) (an (an h1572 tt) (an (an h1572 tt) (an (an (df h1573) tt) (an (an (df h1573) tt) (an (an (df h1573) tt) (an (df h1575) (an (df h1575) (an e1578 (an (an h1572 (df h1573)) (an h1572 (ti tt))))))))))))))))
     injection h with h; subst h
     exact Qn pm pn Try.func6 (r0 := vb false) (ans := [.reg (.n :: .n :: []), .reg (.n :: []), .sub ⟨[(1, none), (3, none)], [none], []⟩ (.exit 0) (Zz a0 r1566), .reg (nN 4 []), .reg (Q17 r1569)]) (fr := true) (by kernel_rfl) (an (an (ti (ti tt)) (an (an (ti tt) e1568) (an (ti (ti (ti (ti tt)))) (an e1579 tt)))) (ti tt)) (Wv.refl _)
  ·have e1580 := (ti (ti (an e1571 (ti (an (Qx h1572) (an (Qx h1572) (an (Qx h1572) (ti (ti (ti (ti (ti (ti (an (Qx h1572) (an (Qx h1572) (ti tt))))))))))))))))
   injection h with h; subst h
   exact Qn pm pn Try.func6 (r0 := vb false) (ans := [.reg (.n :: .n :: []), .reg (.n :: []), .sub ⟨[(1, none), (3, none)], [none], []⟩ (.exit 0) (Zz a0 r1566), .reg (nN 4 []), .reg (.n :: .n :: .call (vb r1569) :: .n :: nS 10 (.b false :: .n :: []))]) (fr := true) (by kernel_rfl) (an (an (ti (ti tt)) (an (an (ti tt) e1568) (an (ti (ti (ti (ti tt)))) (an e1580 tt)))) (ti tt)) (Wv.refl _)
def Jb (k : Nat) (a0 : (List Qa)) : Option (List Qa) :=
 if ([] : List Qa).length + a0.length <= 1000000000 then (some (([] : List Qa) ++ a0)) else none
theorem Qaz (k : Nat) (a0 : (List Qa)) (r : (List Qa)) (h : Jb k a0 = some r) : VC Try.prog 9 [VV.tr (flatMap Qe a0) a0.length] (VV.fw 6 (flatMap Qe r) r.length) := by
 unfold Jb at h
 obtain ⟨h1583, h⟩ := ifn h
 have e1584 := (show List.length [] = 0 * 6 /\ List.length (flatMap Qe a0) = a0.length * 6 /\ (0 + a0.length) * 56 <= 140737488355328 /\ 0 + a0.length < 1099511627776 /\ List.all (flatMap Qe a0) VV.still = true from ⟨(by rw [show [] = flatMap Qe ([] : List Qa) from rfl]; rw [Qao X9] <;> simp), (by rw [Qao X9] <;> simp), (by first | omega | (simp at h1583 ⊢; omega)), (by first | omega | (simp at h1583 ⊢; omega)), (by exact Qhl _)⟩)
 injection h with h; subst h
 exact Qn pm pn Try.func9 (r0 := VV.fw 6 (List.drop 0 (List.map unfr ([] ++ (flatMap Qe a0)))) (0 + a0.length)) (ans := [.reg (.n :: []), .reg (nN 4 [])]) (fr := true) (by kernel_rfl) (an (an (ti tt) (an (ti (ti (an e1584 (ti tt)))) tt)) (an (show List.all ([] ++ (flatMap Qe a0)) new0 = true from (by rw [show [] ++ (flatMap Qe a0) = flatMap Qe (([] : List Qa) ++ a0) from (by rw [show [] = flatMap Qe ([] : List Qa) from rfl]; exact List.flatMap_append.symm)]; exact Qh4 _)) tt)) (Wv.of_eq (by simp only [show [] ++ (flatMap Qe a0) = flatMap Qe (([] : List Qa) ++ a0) from (by rw [show [] = flatMap Qe ([] : List Qa) from rfl]; exact List.flatMap_append.symm), Qer, Qk, Qmh, Qby, map_cons, map_nil, un_i, un_k, un_b, un_s, Jd, Qk0, length_map, length_replicate, length_append, List.length_set, length_cons, length_nil, Nat.zero_add, X0, Yt, Yv, Xm, Yu, Qbd, Qbe, Qfq, Qfr]))
theorem Q18 (z0 : Int) : [vi 0, vi 100000, VV.tr (List.map vi ([z0] : List Int)) (([z0] : List Int).length)] = [vi 0, vi 100000, VV.tr [vi z0] 1] := by first | rfl | (simp only [Qk, map_cons, map_nil, un_i, Jd, length_map, length_cons, length_nil]; done) | (simp only [Qk, map_cons, map_nil, un_i, Jd, length_map, length_cons, length_nil]; rfl) | (simp only [Qk, map_cons, map_nil, un_i, Jd, length_map, length_cons, length_nil, length_cons, length_nil, length_append]; done)
def Yi (k : Nat) (a0 : Int) : Option Int :=
 (Q8 k 0 100000 ([a0] : List Int)).bind fun r1595 => (if r1595 = true then (some 0) else (some 2))
theorem Qdn (k : Nat) (a0 : Int) (r : Int) (h : Yi k a0 = some r) : VC Try.prog 57 [vi a0] (vi r) := by
 unfold Yi at h
 obtain ⟨r1595, h1596, h⟩ := bs h
 have e1597 := (VC.args (Zm k 0 100000 ([a0] : List Int) _ h1596) (Q18 a0))
 rcases ifs h with ⟨h1598, h⟩ | ⟨h1598, h⟩
 ·injection h with h; subst h
  exact Qn pm pn Try.func57 (r0 := vi 0) (ans := [.reg (.n :: []), .reg (.n :: .v VV.any :: .call (vb r1595) :: .n :: []), .br false, .reg (.n :: [])]) (fr := true) (by kernel_rfl) (an (an (ti tt) (an (an (ti (ti (an e1597 (ti tt)))) (an (Qu h1598) tt)) (an (ti tt) tt))) (ti tt)) (Wv.refl _)
 ·injection h with h; subst h
  exact Qn pm pn Try.func57 (r0 := vi 2) (ans := [.reg (.n :: []), .reg (.n :: .v VV.any :: .call (vb r1595) :: .n :: []), .br true, .reg (.n :: [])]) (fr := true) (by kernel_rfl) (an (an (ti tt) (an (ti (ti (an e1597 (ti tt)))) (an (Zj (Qx h1598)) (an (ti tt) tt)))) (ti tt)) (Wv.refl _)
theorem Q19 (z0 : Qc) (z1 : A26) : [vi z0.Least, vi z0.Most, VV.tr (List.map vi ([z1.e1] : List Int)) (([z1.e1] : List Int).length)] = [vi z0.Least, vi z0.Most, VV.tr [vi z1.e1] 1] := by first | rfl | (simp only [Qk, map_cons, map_nil, un_i, Jd, length_map, length_cons, length_nil]; done) | (simp only [Qk, map_cons, map_nil, un_i, Jd, length_map, length_cons, length_nil]; rfl) | (simp only [Qk, map_cons, map_nil, un_i, Jd, length_map, length_cons, length_nil, length_cons, length_nil, length_append]; done)
def Qax (k : Nat) (a0 : Qa) (q0_0 : ByteArray) (q0_1 : Int) (q0_2 : Int) (q0_3 : Int) (q0_4 : Int) (q0_5 : Int) : Option Bool :=
 some (decide (a0.Name = q0_0))
theorem Qey (k : Nat) (a0 : Qa) (q0_0 : ByteArray) (q0_1 : Int) (q0_2 : Int) (q0_3 : Int) (q0_4 : Int) (q0_5 : Int) (r : Bool) (h : Qax k a0 q0_0 q0_1 q0_2 q0_3 q0_4 q0_5 = some r) : VC Try.prog 77 [VV.ag (Qe a0), VV.tp [vs q0_0, vi q0_1, vi q0_2, vi q0_3, vi q0_4, vi q0_5] 0] (vb r) := by
 unfold Qax at h
 have e1623 := (show Z4 Try.prog 9 0 [vs q0_0, vi q0_1, vi q0_2, vi q0_3, vi q0_4, vi q0_5] = some (vs q0_0) from (Qd9 ag9 rfl))
 injection h with h; subst h
 exact Qn pm pn Try.func77 (r0 := vb (decide (a0.Name = q0_0))) (ans := [.reg (.n :: .n :: []), .reg (nN 3 (.v (vs q0_0) :: .n :: .n :: []))]) (fr := true) (by kernel_rfl) (an (an (ti (ti tt)) (an (ti (ti (ti (an e1623 (ti (ti tt)))))) tt)) (ti tt)) (Wv.refl _)
def Ql (a0 : (List Qa)) (a1 : (ByteArray × Int × Int × Int × Int × Int)) (x8 : Int) : VS := ⟨mkA [(0, VV.tr (flatMap Qe a0) a0.length), (1, VV.fn 77 [VV.tp [vs a1.1, vi a1.2.1, vi a1.2.2.1, vi a1.2.2.2.1, vi a1.2.2.2.2.1, vi a1.2.2.2.2.2] 0]), (7, vi (a0.length : Int)), (8, vi x8)], [], .nil⟩
def Qv (a0 : (List Qa)) (a1 : (ByteArray × Int × Int × Int × Int × Int)) (r : Int) : VS := ⟨mkA [(4, vi r)], [], .nil⟩
def Qw (a0 : (List Qa)) (a1 : (ByteArray × Int × Int × Int × Int × Int)) (r : Unit) : VS := ⟨mkA [], [], .nil⟩
def Qd (k : Nat) (a0 : (List Qa)) (a1 : (ByteArray × Int × Int × Int × Int × Int)) : Nat -> Int -> Option (Sum Int Unit)
 | 0, _ => none
 | fuel + 1, x8 => if x8 < (a0.length : Int) then (if 0 <= x8 /\ x8 < (a0.length : Int) then ((Qax k (a0.getD x8.toNat default) a1.1 a1.2.1 a1.2.2.1 a1.2.2.2.1 a1.2.2.2.2.1 a1.2.2.2.2.2).bind fun r1670 => (if r1670 = true then (some (.inl x8)) else (Qd k a0 a1 fuel (w64 (x8 + 1))))) else none) else (some (.inr ()))
theorem Xf (k : Nat) (a0 : (List Qa)) (a1 : (ByteArray × Int × Int × Int × Int × Int)) : ∀ (fuel : Nat) (x8 : Int) (r : Sum Int Unit), Qd k a0 a1 fuel x8 = some r -> (match r with | .inl r => Y9 none Try.prog (szF Try.f87) (Yb Try.f87 0) (Ql a0 a1 x8) .ret (Qv a0 a1 r) | .inr r => Y9 none Try.prog (szF Try.f87) (Yb Try.f87 0) (Ql a0 a1 x8) (.exit 0) (Qw a0 a1 r)) := by
 intro fuel
 induction fuel with
 | zero => intro x8 r h; rw [Qd.eq_1] at h; cases h
 | succ fuel ih =>
  intro x8 r h
  rw [Qd.eq_2] at h
  rcases ifs h with ⟨h1667, h⟩ | ⟨h1667, h⟩
  ·obtain ⟨h1668, h⟩ := ifn h
   have e1669 := (show Z4 Try.prog 52 (x8.toNat * 6) (flatMap Qe a0) = some (VV.ag (Qe (a0.getD x8.toNat default))) from Qdp ag52 Qe 6 sz52 X9 a0 default h1668 (by omega))
   obtain ⟨r1670, h1671, h⟩ := bs h
   have e1672 := (Qey k (a0.getD x8.toNat default) a1.1 a1.2.1 a1.2.2.1 a1.2.2.2.1 a1.2.2.2.2.1 a1.2.2.2.2.2 _ h1671)
   have e1673 := (ti (ti (ti (an h1668 (an e1669 (an e1672 tt))))))
   rcases ifs h with ⟨h1674, h⟩ | ⟨h1674, h⟩
   ·injection h with h; subst h
    exact Zi (c := ⟨[(4, none)], [], []⟩) (s1 := (Qv a0 a1 x8)) pm pn (ans := [.reg (.n :: []), .br true, .reg (.n :: .n :: []), .reg (nN 4 (.v (VV.ag (Qe (a0.getD x8.toNat default))) :: .call (vb r1670) :: [])), .br true, .reg (.n :: .n :: [])]) (by kernel_rfl) (by intro e; cases e) (an (an (ti tt) (an (an (dt h1667) tt) (an (ti (ti tt)) (an e1673 (an h1674 (an (ti (ti tt)) tt)))))) (ti tt))
   ·have h2 := ih _ _ h
    obtain ⟨q, hv, hq⟩ := pkR (rd := none) (P := Try.prog) (fn := Try.f87) (k := 0) (s := (Ql a0 a1 x8)) (ans := [.reg (.n :: []), .br true, .reg (.n :: .n :: []), .reg (nN 4 (.v (VV.ag (Qe (a0.getD x8.toNat default))) :: .call (vb r1670) :: [])), .br false, .reg (.n :: .n :: [])]) (c := ⟨[(0, none), (1, none), (7, none), (8, none)], [], []⟩) (e := .normal) (s1 := (Ql a0 a1 (w64 (x8 + 1)))) (an (an (ti tt) (an (an (dt h1667) tt) (an (an (ti (ti tt)) (an e1673 (an (Qx h1674) tt))) (ti (ti tt))))) (ti tt)) (by kernel_rfl)
    cases r with
    | inl r => exact Zc pm pn hv hq h2
    | inr r =>
     exact Zc pm pn hv hq h2
  ·injection h with h; subst h
   exact Zi (c := ⟨[], [], []⟩) (s1 := (Qw a0 a1 ())) pm pn (ans := [.reg (.n :: []), .br false]) (by kernel_rfl) (by intro e; cases e) (an (an (ti tt) (an (df h1667) tt)) (ti tt))
def Qq (k : Nat) (a0 : (List Qa)) (a1 : (ByteArray × Int × Int × Int × Int × Int)) : Option Int :=
 (Qd k a0 a1 k 0).bind fun r1676 => (match r1676 with | .inl r1677 => (some r1677) | .inr r1678 => (some (-1)))
theorem Xn (k : Nat) (a0 : (List Qa)) (a1 : (ByteArray × Int × Int × Int × Int × Int)) (r : Int) (h : Qq k a0 a1 = some r) : VC Try.prog 87 [VV.tr (flatMap Qe a0) a0.length, VV.fn 77 [VV.tp [vs a1.1, vi a1.2.1, vi a1.2.2.1, vi a1.2.2.2.1, vi a1.2.2.2.2.1, vi a1.2.2.2.2.2] 0]] (vi r) := by
 unfold Qq at h
 obtain ⟨r1676, h1675, h⟩ := bs h
 have hph1675 := Xf k a0 a1 _ _ _ h1675
 cases r1676 with
 | inl r1677 =>
  dsimp only at h
  have e1679 := (an (ti tt) (VRun.loop hph1675))
  injection h with h; subst h
  exact Qn pm pn Try.func87 (r0 := vi r1677) (ans := [.reg (.n :: []), .reg (nN 3 []), .sub ⟨[(0, none), (1, none), (7, none), (8, none)], [], []⟩ .ret (Qv a0 a1 r1677)]) (fr := true) (by kernel_rfl) (an (an (ti tt) (an (ti (ti (ti tt))) e1679)) (ti tt)) (Wv.refl _)
 | inr r1678 =>
  dsimp only at h
  have e1680 := (an (ti tt) (VRun.loop hph1675))
  injection h with h; subst h
  exact Qn pm pn Try.func87 (r0 := vi (-1)) (ans := [.reg (.n :: []), .reg (nN 3 []), .sub ⟨[(0, none), (1, none), (7, none), (8, none)], [], []⟩ (.exit 0) (Qw a0 a1 r1678), .reg (.n :: [])]) (fr := true) (by kernel_rfl) (an (an (ti tt) (an (an (ti (ti (ti tt))) e1680) (an (ti tt) tt))) (ti tt)) (Wv.refl _)
def Qm (k : Nat) (a0 : (List Qa)) (a1 : (ByteArray × Int × Int × Int × Int × Int)) : Option Bool :=
 (Qq k a0 a1).bind fun r1684 => (some (decide (0 <= r1684)))
theorem Xj (k : Nat) (a0 : (List Qa)) (a1 : (ByteArray × Int × Int × Int × Int × Int)) (r : Bool) (h : Qm k a0 a1 = some r) : VC Try.prog 76 [VV.tr (flatMap Qe a0) a0.length, VV.fn 77 [VV.tp [vs a1.1, vi a1.2.1, vi a1.2.2.1, vi a1.2.2.2.1, vi a1.2.2.2.2.1, vi a1.2.2.2.2.2] 0]] (vb r) := by
 unfold Qm at h
 obtain ⟨r1684, h1685, h⟩ := bs h
 have e1686 := (Xn k a0 a1 _ h1685)
 injection h with h; subst h
 exact Qn pm pn Try.func76 (r0 := vb (decide (0 <= r1684))) (ans := [.reg (.n :: []), .reg (.n :: .n :: .call (vi r1684) :: .n :: .n :: [])]) (fr := true) (by kernel_rfl) (an (an (ti tt) (an (ti (ti (an e1686 (ti (ti tt))))) tt)) (ti tt)) (Wv.refl _)
theorem Q2a (z0 : (List Qa)) (z1 : Qa) : [VV.tr (flatMap Qe z0) z0.length, VV.fn 77 [VV.tp [vs ((z1.Name, z1.Azimuth, z1.Height, z1.From, z1.To, z1.Dwell).1), vi ((z1.Name, z1.Azimuth, z1.Height, z1.From, z1.To, z1.Dwell).2.1), vi ((z1.Name, z1.Azimuth, z1.Height, z1.From, z1.To, z1.Dwell).2.2.1), vi ((z1.Name, z1.Azimuth, z1.Height, z1.From, z1.To, z1.Dwell).2.2.2.1), vi ((z1.Name, z1.Azimuth, z1.Height, z1.From, z1.To, z1.Dwell).2.2.2.2.1), vi ((z1.Name, z1.Azimuth, z1.Height, z1.From, z1.To, z1.Dwell).2.2.2.2.2)] 0]] = [VV.tr (flatMap Qe z0) z0.length, VV.fn 77 [VV.tp [vs z1.Name, vi z1.Azimuth, vi z1.Height, vi z1.From, vi z1.To, vi z1.Dwell] 0]] := by first | rfl | (simp only [Qk, Qby, map_cons, map_nil, un_i, un_s, Jd, length_cons, length_nil, Xm]; done) | (simp only [Qk, Qby, map_cons, map_nil, un_i, un_s, Jd, length_cons, length_nil, Xm]; rfl) | (simp only [Qk, Qby, map_cons, map_nil, un_i, un_s, Jd, length_cons, length_nil, Xm, Qe, length_cons, length_nil, length_append]; done)
def Yw (k : Nat) (a0 : (List Qa)) (a1 : Qa) : Option Int :=
 (Jq k a1).bind fun r1692 => (if r1692 = 0 then ((Qm k a0 (a1.Name, a1.Azimuth, a1.Height, a1.From, a1.To, a1.Dwell)).bind fun r1696 => (if r1696 = true then (some 5) else (some 0))) else (some r1692))
theorem Qfx (k : Nat) (a0 : (List Qa)) (a1 : Qa) (r : Int) (h : Yw k a0 a1 = some r) : VC Try.prog 59 [VV.tr (flatMap Qe a0) a0.length, VV.ag (Qe a1)] (vi r) := by
 unfold Yw at h
 have e1691 := (show Z4 Try.prog 52 0 [vs a1.Name, vi a1.Azimuth, vi a1.Height, vi a1.From, vi a1.To, vi a1.Dwell] = some (VV.ag (Qe a1)) from (Q0y ag52 sz52 rfl))
 obtain ⟨r1692, h1693, h⟩ := bs h
 have e1694 := (an e1691 (an (Qce k a1 _ h1693) (ti tt)))
 rcases ifs h with ⟨h1695, h⟩ | ⟨h1695, h⟩
 ·obtain ⟨r1696, h1697, h⟩ := bs h
  have e1698 := (VC.args (Xj k a0 (a1.Name, a1.Azimuth, a1.Height, a1.From, a1.To, a1.Dwell) _ h1697) (Q2a a0 a1))
  rcases ifs h with ⟨h1699, h⟩ | ⟨h1699, h⟩
  ·injection h with h; subst h
   exact Qn pm pn Try.func59 (r0 := vi 5) (ans := [.reg (.n :: .n :: []), .frz 0, .reg (.v (VV.ag (Qe a1)) :: .call (vi r1692) :: .n :: []), .reg (.n :: .n :: []), .br false, .reg (.n :: .n :: .call (vb r1696) :: []), .br true, .reg (.n :: [])]) (fr := true) (by kernel_rfl) (an (an (ti (ti tt)) (an (an e1694 (an (ti (ti tt)) (an (Qu (dt h1695)) tt))) (an (ti (ti (an e1698 tt))) (an h1699 (an (ti tt) tt))))) (ti tt)) (Wv.refl _)
  ·injection h with h; subst h
   exact Qn pm pn Try.func59 (r0 := vi 0) (ans := [.reg (.n :: .n :: []), .frz 0, .reg (.v (VV.ag (Qe a1)) :: .call (vi r1692) :: .n :: []), .reg (.n :: .n :: []), .br false, .reg (.n :: .n :: .call (vb r1696) :: []), .br false, .reg (.n :: [])]) (fr := true) (by kernel_rfl) (an (an (ti (ti tt)) (an (an e1694 (an (ti (ti tt)) (an (Qu (dt h1695)) tt))) (an (an (ti (ti (an e1698 tt))) (an (Qx h1699) tt)) (an (ti tt) tt)))) (ti tt)) (Wv.refl _)
 ·injection h with h; subst h
  exact Qn pm pn Try.func59 (r0 := vi r1692) (ans := [.reg (.n :: .n :: []), .frz 0, .reg (.v (VV.ag (Qe a1)) :: .call (vi r1692) :: .n :: []), .reg (.n :: .n :: []), .br true, .reg (.n :: .n :: [])]) (fr := true) (by kernel_rfl) (an (an (ti (ti tt)) (an e1694 (an (ti (ti tt)) (an (Zj (df h1695)) (an (ti (ti tt)) tt))))) (ti tt)) (Wv.refl _)
def Qwb (z0 : (List Qa)) (z1 : Int) (z2 : Int) : List Ans := (.n :: .n :: .v (VV.tr (flatMap Qe (sl z0 0 ((z1).toNat))) ((sl z0 0 ((z1).toNat)).length)) :: .n :: .call (vi z2) :: .n :: [])
theorem Qo8  : vi 0 = vi ((⟨0, []⟩ : Xt).begin) := by first | rfl | (simp only [Qk, map_cons, map_nil, un_i]; done) | (simp only [Qk, map_cons, map_nil, un_i]; rfl) | (simp only [Qk, map_cons, map_nil, un_i, length_cons, length_nil, length_append]; done)
def Y5 (a0 : Qc) (a1 : (List Qa)) (a2 : A26) (y4 : List Zv) (x52 : Int) : VS := ⟨mkA [(1, VV.tr (flatMap Qe a1) a1.length), (3, VV.pt 0 0), (6, VV.pt 2 0), (10, vi a2.e0), (13, VV.pt 3 0), (50, VV.tr (flatMap Qe a1) a1.length), (51, vi (a1.length : Int)), (52, vi x52)], [some ⟨true, 1, Zt a0⟩, some ⟨true, 1, Qbv a2⟩, some ⟨true, 1, [vi 0, VV.c (.slice none 0 0)]⟩, some ⟨true, 1, [vi a2.e1, VV.rf 4 0 y4.length]⟩, some ⟨false, 8, flatMap Wi y4⟩], .nil⟩
def Yx (a0 : Qc) (a1 : (List Qa)) (a2 : A26) (r : Int × Int) : VS := ⟨mkA [(6, VV.pt 2 0), (7, vi r.1), (8, vi r.2)], [some ⟨true, 1, Zt a0⟩, some ⟨true, 1, Qbv a2⟩, some ⟨true, 1, [vi 0, VV.c (.slice none 0 0)]⟩], .nil⟩
def Qar (a0 : Qc) (a1 : (List Qa)) (a2 : A26) (r : (List Zv)) : VS := ⟨mkA [(6, VV.pt 2 0), (13, VV.pt 3 0)], [some ⟨true, 1, Zt a0⟩, some ⟨true, 1, Qbv a2⟩, some ⟨true, 1, [vi 0, VV.c (.slice none 0 0)]⟩, some ⟨true, 1, [vi a2.e1, VV.rf 4 0 r.length]⟩, some ⟨false, 8, flatMap Wi r⟩], .nil⟩
def Xe (k : Nat) (a0 : Qc) (a1 : (List Qa)) (a2 : A26) : Nat -> (List Zv) -> Int -> Option (Sum (Int × Int) (List Zv))
 | 0, _, _ => none
 | fuel + 1, y4, x52 => if x52 < (a1.length : Int) then (if 0 <= x52 /\ x52 < (a1.length : Int) then (if 0 <= (0 : Int) /\ (0 : Int) <= x52 /\ x52 <= (a1.length : Int) then ((Yw k (sl a1 0 ((x52).toNat)) (a1.getD x52.toNat default)).bind fun r1834 => (if r1834 = 0 then ((Qbg k a0 (a1.getD x52.toNat default) a2.e0).bind fun r1838 => (if r1838.2 = 0 then (if y4.length + ([r1838.1] : List Zv).length <= 1000000000 then (Xe k a0 a1 a2 fuel (y4 ++ ([r1838.1] : List Zv)) (w64 (x52 + 1))) else none) else (some (.inl (x52, r1838.2))))) else (some (.inl (x52, r1834))))) else none) else none) else (some (.inr y4))
theorem Qfy (k : Nat) (a0 : Qc) (a1 : (List Qa)) (a2 : A26) : ∀ (fuel : Nat) (y4 : List Zv) (x52 : Int) (r : Sum (Int × Int) (List Zv)), Xe k a0 a1 a2 fuel y4 x52 = some r -> (match r with | .inl r => Y9 none Try.prog (szF Try.f26) (Yb Try.f26 0) (Y5 a0 a1 a2 y4 x52) .ret (Yx a0 a1 a2 r) | .inr r => Y9 none Try.prog (szF Try.f26) (Yb Try.f26 0) (Y5 a0 a1 a2 y4 x52) (.exit 0) (Qar a0 a1 a2 r)) := by
 intro fuel
 induction fuel with
 | zero => intro y4 x52 r h; rw [Xe.eq_1] at h; cases h
 | succ fuel ih =>
  intro y4 x52 r h
  rw [Xe.eq_2] at h
  rcases ifs h with ⟨h1829, h⟩ | ⟨h1829, h⟩
  ·obtain ⟨h1830, h⟩ := ifn h
   have e1831 := (show Z4 Try.prog 52 (x52.toNat * 6) (flatMap Qe a1) = some (VV.ag (Qe (a1.getD x52.toNat default))) from Qdp ag52 Qe 6 sz52 X9 a1 default h1830 (by omega))
   obtain ⟨h1832, h⟩ := ifn h
   have e1833 := (show (True /\ 0 <= x52 /\ 0 <= (x52).toNat /\ (x52).toNat <= a1.length /\ (x52).toNat * 6 <= List.length (flatMap Qe a1)) /\ VV.tr (List.take (((x52).toNat - 0) * 6) (List.drop (0 * 6) (flatMap Qe a1))) ((x52).toNat - 0) = VV.tr (flatMap Qe (sl a1 0 ((x52).toNat))) ((sl a1 0 ((x52).toNat)).length) from ⟨⟨tt, (by have := h1832; omega), (by have := h1832; omega), (by have := h1832; omega), (by rw [Qao X9]; have := h1832; omega)⟩, (by exact Qy7 X9 a1 0 ((x52).toNat) (by have := h1832; omega) (by have := h1832; omega))⟩)
   obtain ⟨r1834, h1835, h⟩ := bs h
   have e1836 := (Qfx k (sl a1 0 ((x52).toNat)) (a1.getD x52.toNat default) _ h1835)
   rcases ifs h with ⟨h1837, h⟩ | ⟨h1837, h⟩
   ·obtain ⟨r1838, h1839, h⟩ := bs h
    have e1840 := (show VC Try.prog 60 [VV.ag (Zt a0), VV.ag (Qe (a1.getD x52.toNat default)), vi a2.e0] (VV.tu [VV.ag (Wi r1838.1), vi r1838.2]) from (VC.weak (Qiu k a0 (a1.getD x52.toNat default) a2.e0 _ h1839) (Wv.tuL (.cons (Wv.agL (.cons (Wv.refl _) (.cons (Wv.refl _) (.cons (Wv.refl _) (.cons (Wv.refl _) (.cons (Wv.refl _) (.cons (Wv.refl _) (.cons (Wv.fw rfl rfl) (.cons (Wv.fw rfl rfl) .nil))))))))) (.cons (Wv.refl _) .nil)))))
    have e1841 := (ti (ti (ti (an e1840 (ti (ti (ti (ti (ti (ti tt))))))))))
    rcases ifs h with ⟨h1842, h⟩ | ⟨h1842, h⟩
    ·obtain ⟨h1843, h⟩ := ifn h
     have e1844 := (show List.length (flatMap Wi y4) = y4.length * 8 /\ List.length [vs r1838.1.SkyTarget.Name, vi r1838.1.SkyTarget.Azimuth, vi r1838.1.SkyTarget.Height, vi r1838.1.SkyTarget.From, vi r1838.1.SkyTarget.To, vi r1838.1.SkyTarget.Dwell, VV.fr (List.map vi r1838.1.turns) r1838.1.turns.length, VV.fr (List.map vi r1838.1.positions) r1838.1.positions.length] = 1 * 8 /\ (y4.length + 1) * 104 <= 140737488355328 /\ y4.length + 1 < 1099511627776 /\ List.all [vs r1838.1.SkyTarget.Name, vi r1838.1.SkyTarget.Azimuth, vi r1838.1.SkyTarget.Height, vi r1838.1.SkyTarget.From, vi r1838.1.SkyTarget.To, vi r1838.1.SkyTarget.Dwell, VV.fr (List.map vi r1838.1.turns) r1838.1.turns.length, VV.fr (List.map vi r1838.1.positions) r1838.1.positions.length] VV.still = true from ⟨(by rw [Qao Qks] <;> simp), (by rw [show [vs r1838.1.SkyTarget.Name, vi r1838.1.SkyTarget.Azimuth, vi r1838.1.SkyTarget.Height, vi r1838.1.SkyTarget.From, vi r1838.1.SkyTarget.To, vi r1838.1.SkyTarget.Dwell, VV.fr (List.map vi r1838.1.turns) r1838.1.turns.length, VV.fr (List.map vi r1838.1.positions) r1838.1.positions.length] = flatMap Wi ([r1838.1] : List Zv) from rfl]; rw [Qao Qks] <;> simp), (by first | omega | (simp at h1843 ⊢; omega)), (by first | omega | (simp at h1843 ⊢; omega)), (by rw [show [vs r1838.1.SkyTarget.Name, vi r1838.1.SkyTarget.Azimuth, vi r1838.1.SkyTarget.Height, vi r1838.1.SkyTarget.From, vi r1838.1.SkyTarget.To, vi r1838.1.SkyTarget.Dwell, VV.fr (List.map vi r1838.1.turns) r1838.1.turns.length, VV.fr (List.map vi r1838.1.positions) r1838.1.positions.length] = flatMap Wi ([r1838.1] : List Zv) from rfl]; exact Qnl _)⟩)
     have h2 := ih _ _ _ h
     obtain ⟨q, hv, hq⟩ := pkR (rd := none) (P := Try.prog) (fn := Try.f26) (k := 0) (s := (Y5 a0 a1 a2 y4 x52)) (ans := [.reg (.n :: []), .br true, .reg (.n :: .n :: .v (VV.ag (Qe (a1.getD x52.toNat default))) :: nN 3 []), .reg (Qwb a1 x52 r1834), .reg (.n :: .n :: []), .br false, .reg (nN 3 (.call (VV.tu [VV.ag (Wi r1838.1), vi r1838.2]) :: nN 6 [])), .reg (.n :: .n :: []), .br false, .reg (nN 7 []), .reg (.n :: .n :: [])]) (c := ⟨[(1, none), (3, none), (6, none), (10, none), (13, none), (50, none), (51, none), (52, none)], [none, none, none, some [vi a2.e1, VV.rf 4 0 ((y4 ++ ([r1838.1] : List Zv)).length)], some (flatMap Wi (y4 ++ ([r1838.1] : List Zv)))], []⟩) (e := .normal) (s1 := (Y5 a0 a1 a2 (y4 ++ ([r1838.1] : List Zv)) (w64 (x52 + 1)))) (an (an (ti tt) (an (an (dt h1829) tt) (an (an (ti (an h1830 (an e1831 (ti (ti (ti tt)))))) (an (an (ti (ti (an e1833 (ti (an e1836 (ti tt)))))) (an (ti (ti tt)) (an (Qu (dt h1837)) tt))) (an e1841 (an (an (ti (ti tt)) (an (Qu (dt h1842)) tt)) (ti (ti (ti (ti (an e1844 (ti (ti tt))))))))))) (ti (ti tt))))) (ti (an (show [vi a2.e1, VV.rf 4 0 (y4.length + 1)] = [vi a2.e1, VV.rf 4 0 ((y4 ++ ([r1838.1] : List Zv)).length)] from (by first | rfl | simp)) (an (show (flatMap Wi y4) ++ [vs r1838.1.SkyTarget.Name, vi r1838.1.SkyTarget.Azimuth, vi r1838.1.SkyTarget.Height, vi r1838.1.SkyTarget.From, vi r1838.1.SkyTarget.To, vi r1838.1.SkyTarget.Dwell, VV.fr (List.map vi r1838.1.turns) r1838.1.turns.length, VV.fr (List.map vi r1838.1.positions) r1838.1.positions.length] = flatMap Wi (y4 ++ ([r1838.1] : List Zv)) from (by rw [show [vs r1838.1.SkyTarget.Name, vi r1838.1.SkyTarget.Azimuth, vi r1838.1.SkyTarget.Height, vi r1838.1.SkyTarget.From, vi r1838.1.SkyTarget.To, vi r1838.1.SkyTarget.Dwell, VV.fr (List.map vi r1838.1.turns) r1838.1.turns.length, VV.fr (List.map vi r1838.1.positions) r1838.1.positions.length] = flatMap Wi ([r1838.1] : List Zv) from rfl]; exact List.flatMap_append.symm)) tt)))) (by kernel_rfl)
     cases r with
     | inl r => exact Zc pm pn hv hq h2
     | inr r =>
      exact Zc pm pn hv hq h2
    ·injection h with h; subst h
     exact Zi (c := ⟨[(6, none), (7, none), (8, none)], [none, none, none], []⟩) (s1 := (Yx a0 a1 a2 (x52, r1838.2))) pm pn (ans := [.reg (.n :: []), .br true, .reg (.n :: .n :: .v (VV.ag (Qe (a1.getD x52.toNat default))) :: nN 3 []), .reg (Qwb a1 x52 r1834), .reg (.n :: .n :: []), .br false, .reg (nN 3 (.call (VV.tu [VV.ag (Wi r1838.1), vi r1838.2]) :: nN 6 [])), .reg (.n :: .n :: []), .br true, .reg (nN 6 [])]) (by kernel_rfl) (by intro e; cases e) (an (an (ti tt) (an (an (dt h1829) tt) (an (ti (an h1830 (an e1831 (ti (ti (ti tt)))))) (an (an (ti (ti (an e1833 (ti (an e1836 (ti tt)))))) (an (ti (ti tt)) (an (Qu (dt h1837)) tt))) (an e1841 (an (ti (ti tt)) (an (Zj (df h1842)) (an (ti (ti (ti (ti (ti (ti tt)))))) tt)))))))) (ti tt))
   ·injection h with h; subst h
    exact Zi (c := ⟨[(6, none), (7, none), (8, none)], [none, none, none], []⟩) (s1 := (Yx a0 a1 a2 (x52, r1834))) pm pn (ans := [.reg (.n :: []), .br true, .reg (.n :: .n :: .v (VV.ag (Qe (a1.getD x52.toNat default))) :: nN 3 []), .reg (Qwb a1 x52 r1834), .reg (.n :: .n :: []), .br true, .reg (nN 6 [])]) (by kernel_rfl) (by intro e; cases e) (an (an (ti tt) (an (an (dt h1829) tt) (an (ti (an h1830 (an e1831 (ti (ti (ti tt)))))) (an (ti (ti (an e1833 (ti (an e1836 (ti tt)))))) (an (ti (ti tt)) (an (Zj (df h1837)) (an (ti (ti (ti (ti (ti (ti tt)))))) tt))))))) (ti tt))
  ·injection h with h; subst h
   exact Zi (c := ⟨[(6, none), (13, none)], [none, none, none, none, none], []⟩) (s1 := (Qar a0 a1 a2 y4)) pm pn (ans := [.reg (.n :: []), .br false]) (by kernel_rfl) (by intro e; cases e) (an (an (ti tt) (an (df h1829) tt)) (ti tt))
theorem Q2b (z0 : A26) (z1 : (List Zv)) : VV.tu [VV.ag [vi z0.e1, VV.fw 8 (List.drop 0 (List.map unfr (flatMap Wi z1))) z1.length], vi 0, vi 0] = VV.tu [VV.ag [vi ((⟨z0.e1, z1⟩ : Xt).begin), VV.fw 8 (flatMap Qy ((⟨z0.e1, z1⟩ : Xt).stops)) (((⟨z0.e1, z1⟩ : Xt).stops).length)], vi 0, vi 0] := by first | rfl | (simp only [Qer, Qk, map_cons, map_nil, un_i, length_map, length_cons, length_nil, Qbd, Qbe]; done) | (simp only [Qer, Qk, map_cons, map_nil, un_i, length_map, length_cons, length_nil, Qbd, Qbe]; rfl) | (simp only [Qer, Qk, map_cons, map_nil, un_i, length_map, length_cons, length_nil, Qbd, Qbe, Wi, Qy, length_cons, length_nil, length_append]; done)
def Qbp (k : Nat) (a0 : Qc) (a1 : (List Qa)) (a2 : A26) : Option (Xt × Int × Int) :=
 (Yd k a0).bind fun r1765 => (if r1765 = 0 then ((Yi k a2.e0).bind fun r1771 => (if r1771 = 0 then ((Q8 k a0.Least a0.Most ([a2.e1] : List Int)).bind fun r1775 => (if r1775 = true then (if 20 < (a1.length : Int) then (some ((⟨0, []⟩ : Xt), 0, 8)) else ((Xe k a0 a1 a2 k ([] : List Zv) 0).bind fun r1846 => (match r1846 with | .inl r1847 => (some ((⟨0, []⟩ : Xt), r1847.1, r1847.2)) | .inr r1848 => (some ((⟨a2.e1, r1848⟩ : Xt), 0, 0))))) else (some ((⟨0, []⟩ : Xt), 0, 2)))) else (some ((⟨0, []⟩ : Xt), 0, r1771)))) else (some ((⟨0, []⟩ : Xt), 0, r1765)))
theorem Qis (k : Nat) (a0 : Qc) (a1 : (List Qa)) (a2 : A26) (r : (Xt × Int × Int)) (h : Qbp k a0 a1 a2 = some r) : VC Try.prog 26 [VV.ag (Zt a0), VV.tr (flatMap Qe a1) a1.length, VV.ag (Qbv a2)] (VV.tu [VV.ag [vi r.1.begin, VV.fw 8 (flatMap Qy r.1.stops) r.1.stops.length], vi r.2.1, vi r.2.2]) := by
 unfold Qbp at h
 obtain ⟨r1765, h1766, h⟩ := bs h
 have e1767 := (ti (an (Qcr k a0 _ h1766) (ti tt)))
 rcases ifs h with ⟨h1768, h⟩ | ⟨h1768, h⟩
 ·have e1769 := (show (0:Int) <= 0 /\ (0:Int) < ((2 : Nat) : Int) from ⟨by decide, by decide⟩)
  have e1770 := (show (0:Int) <= 1 /\ (1:Int) < ((2 : Nat) : Int) from ⟨by decide, by decide⟩)
  obtain ⟨r1771, h1772, h⟩ := bs h
  have e1773 := (ti (an (Qdn k a2.e0 _ h1772) (ti tt)))
  rcases ifs h with ⟨h1774, h⟩ | ⟨h1774, h⟩
  ·obtain ⟨r1775, h1776, h⟩ := bs h
   have e1777 := (VC.args (Zm k a0.Least a0.Most ([a2.e1] : List Int) _ h1776) (Q19 a0 a2))
   have e1778 := (ti (ti (ti (ti (ti (ti (an e1777 (ti tt))))))))
   rcases ifs h with ⟨h1779, h⟩ | ⟨h1779, h⟩
   ·rcases ifs h with ⟨h1780, h⟩ | ⟨h1780, h⟩
    ·injection h with h; subst h
     exact Qn pm pn Try.func26 (r0 := VV.tu [VV.ag [vi 0, VV.c (.slice none 0 0)], vi 0, vi 8]) (ans := [.reg (nN 5 []), .reg (.n :: .call (vi r1765) :: .n :: []), .reg (.n :: .n :: []), .br false, .reg (nN 6 []), .reg (.n :: .call (vi r1771) :: .n :: []), .reg (.n :: .n :: []), .br false, .reg (nN 5 (.v VV.any :: .call (vb r1775) :: .n :: [])), .br false, .reg (nN 3 []), .br true, .reg (nN 4 [])]) (fr := true) (by kernel_rfl) (an (an (ti (ti (ti (ti (ti tt))))) (an (an e1767 (an (ti (ti tt)) (an (Qu (dt h1768)) tt))) (an (an e1769 (ti (an e1770 (ti (ti (ti tt)))))) (an (an e1773 (an (ti (ti tt)) (an (Qu (dt h1774)) tt))) (an (an e1778 (an (Qu h1779) tt)) (an (ti (ti (ti tt))) (an (dt h1780) (an (ti (ti (ti (ti tt)))) tt)))))))) (an (ti (ti (ti tt))) (ti (ti tt)))) (Wv.tuL (.cons (Wv.agL (.cons (Wv.of_eq Qo8) (.cons Wv.Qnm .nil))) (.cons (Wv.refl _) (.cons (Wv.refl _) .nil))))
    ·obtain ⟨r1846, h1845, h⟩ := bs h
     have hph1845 := Qfy k a0 a1 a2 _ _ _ _ h1845
     cases r1846 with
     | inl r1847 =>
      dsimp only at h
      have e1849 := (an (ti tt) (VRun.loop hph1845))
      injection h with h; subst h
      exact Qn pm pn Try.func26 (r0 := VV.tu [VV.ag [vi 0, VV.c (.slice none 0 0)], vi r1847.1, vi r1847.2]) (ans := [.reg (nN 5 []), .reg (.n :: .call (vi r1765) :: .n :: []), .reg (.n :: .n :: []), .br false, .reg (nN 6 []), .reg (.n :: .call (vi r1771) :: .n :: []), .reg (.n :: .n :: []), .br false, .reg (nN 5 (.v VV.any :: .call (vb r1775) :: .n :: [])), .br false, .reg (nN 3 []), .br false, .reg (nN 4 []), .reg (nN 3 []), .sub ⟨[(1, none), (3, none), (6, none), (10, none), (13, none), (50, none), (51, none), (52, none)], [none, none, none, none], [.b 3 1 8]⟩ .ret (Yx a0 a1 a2 r1847)]) (fr := true) (by kernel_rfl) (an (an (ti (ti (ti (ti (ti tt))))) (an (an e1767 (an (ti (ti tt)) (an (Qu (dt h1768)) tt))) (an (an e1769 (ti (an e1770 (ti (ti (ti tt)))))) (an (an e1773 (an (ti (ti tt)) (an (Qu (dt h1774)) tt))) (an (an e1778 (an (Qu h1779) tt)) (an (an (ti (ti (ti tt))) (an (df h1780) tt)) (an (ti (ti (ti (ti tt)))) (an (ti (ti (ti tt))) e1849)))))))) (an (ti (ti (ti tt))) (ti (ti tt)))) (Wv.tuL (.cons (Wv.agL (.cons (Wv.of_eq Qo8) (.cons Wv.Qnm .nil))) (.cons (Wv.refl _) (.cons (Wv.refl _) .nil))))
     | inr r1848 =>
      dsimp only at h
      have e1850 := (an (ti tt) (VRun.loop hph1845))
      injection h with h; subst h
      exact Qn pm pn Try.func26 (r0 := VV.tu [VV.ag [vi a2.e1, VV.fw 8 (List.drop 0 (List.map unfr (flatMap Wi r1848))) r1848.length], vi 0, vi 0]) (ans := [.reg (nN 5 []), .reg (.n :: .call (vi r1765) :: .n :: []), .reg (.n :: .n :: []), .br false, .reg (nN 6 []), .reg (.n :: .call (vi r1771) :: .n :: []), .reg (.n :: .n :: []), .br false, .reg (nN 5 (.v VV.any :: .call (vb r1775) :: .n :: [])), .br false, .reg (nN 3 []), .br false, .reg (nN 4 []), .reg (nN 3 []), .sub ⟨[(1, none), (3, none), (6, none), (10, none), (13, none), (50, none), (51, none), (52, none)], [none, none, none, none], [.b 3 1 8]⟩ (.exit 0) (Qar a0 a1 a2 r1848), .reg (nN 4 [])]) (fr := true) (by kernel_rfl) (an (an (ti (ti (ti (ti (ti tt))))) (an (an e1767 (an (ti (ti tt)) (an (Qu (dt h1768)) tt))) (an (an e1769 (ti (an e1770 (ti (ti (ti tt)))))) (an (an e1773 (an (ti (ti tt)) (an (Qu (dt h1774)) tt))) (an (an e1778 (an (Qu h1779) tt)) (an (an (ti (ti (ti tt))) (an (df h1780) tt)) (an (ti (ti (ti (ti tt)))) (an (an (ti (ti (ti tt))) e1850) (an (ti (ti (ti (ti tt)))) tt))))))))) (an (ti (ti (an (show List.all (flatMap Wi r1848) new0 = true from (by exact Qo9 _)) tt))) (ti (ti tt)))) (Wv.of_eq (Q2b a2 r1848))
   ·injection h with h; subst h
    exact Qn pm pn Try.func26 (r0 := VV.tu [VV.ag [vi 0, VV.c (.slice none 0 0)], vi 0, vi 2]) (ans := [.reg (nN 5 []), .reg (.n :: .call (vi r1765) :: .n :: []), .reg (.n :: .n :: []), .br false, .reg (nN 6 []), .reg (.n :: .call (vi r1771) :: .n :: []), .reg (.n :: .n :: []), .br false, .reg (nN 5 (.v VV.any :: .call (vb r1775) :: .n :: [])), .br true, .reg (nN 4 [])]) (fr := true) (by kernel_rfl) (an (an (ti (ti (ti (ti (ti tt))))) (an (an e1767 (an (ti (ti tt)) (an (Qu (dt h1768)) tt))) (an (an e1769 (ti (an e1770 (ti (ti (ti tt)))))) (an (an e1773 (an (ti (ti tt)) (an (Qu (dt h1774)) tt))) (an e1778 (an (Zj (Qx h1779)) (an (ti (ti (ti (ti tt)))) tt))))))) (an (ti (ti (ti tt))) (ti (ti tt)))) (Wv.tuL (.cons (Wv.agL (.cons (Wv.of_eq Qo8) (.cons Wv.Qnm .nil))) (.cons (Wv.refl _) (.cons (Wv.refl _) .nil))))
  ·injection h with h; subst h
   exact Qn pm pn Try.func26 (r0 := VV.tu [VV.ag [vi 0, VV.c (.slice none 0 0)], vi 0, vi r1771]) (ans := [.reg (nN 5 []), .reg (.n :: .call (vi r1765) :: .n :: []), .reg (.n :: .n :: []), .br false, .reg (nN 6 []), .reg (.n :: .call (vi r1771) :: .n :: []), .reg (.n :: .n :: []), .br true, .reg (nN 5 [])]) (fr := true) (by kernel_rfl) (an (an (ti (ti (ti (ti (ti tt))))) (an (an e1767 (an (ti (ti tt)) (an (Qu (dt h1768)) tt))) (an (an e1769 (ti (an e1770 (ti (ti (ti tt)))))) (an e1773 (an (ti (ti tt)) (an (Zj (df h1774)) (an (ti (ti (ti (ti (ti tt))))) tt))))))) (an (ti (ti (ti tt))) (ti (ti tt)))) (Wv.tuL (.cons (Wv.agL (.cons (Wv.of_eq Qo8) (.cons Wv.Qnm .nil))) (.cons (Wv.refl _) (.cons (Wv.refl _) .nil))))
 ·injection h with h; subst h
  exact Qn pm pn Try.func26 (r0 := VV.tu [VV.ag [vi 0, VV.c (.slice none 0 0)], vi 0, vi r1765]) (ans := [.reg (nN 5 []), .reg (.n :: .call (vi r1765) :: .n :: []), .reg (.n :: .n :: []), .br true, .reg (nN 5 [])]) (fr := true) (by kernel_rfl) (an (an (ti (ti (ti (ti (ti tt))))) (an e1767 (an (ti (ti tt)) (an (Zj (df h1768)) (an (ti (ti (ti (ti (ti tt))))) tt))))) (an (ti (ti (ti tt))) (ti (ti tt)))) (Wv.tuL (.cons (Wv.agL (.cons (Wv.of_eq Qo8) (.cons Wv.Qnm .nil))) (.cons (Wv.refl _) (.cons (Wv.refl _) .nil))))
end Go.Proofs.Ytjomicmhnbmhoaa.Vg

import Derived.Test.YtbgajdbpdhipiaaB6
namespace Go.Proofs.Ytbgajdbpdhipiaa.Vg
set_option maxRecDepth 100000
set_option maxHeartbeats 4000000
set_option linter.unusedVariables false
set_option linter.unusedSimpArgs false
open Go Go.Proofs.Ytbgajdbpdhipiaa.Ev Go.Proofs.Ytbgajdbpdhipiaa.Vv
open List (flatMap length_cons length_nil length_map length_append map_cons map_nil length_replicate)
def v_29 (x : List Int) : VV := VV.tr (List.map vi x) x.length
def f_29 (x : List Int) : VV := VV.fr (List.map vi x) x.length
theorem Qab (xs : List (List Int)) : (xs.map v_29).map unfr = xs.map v_29 := Qrj (fun _ => rfl) xs
theorem Qti (xs : List (List Int)) : (xs.map f_29).all VV.still = true := all_map (fun _ => rfl) xs
theorem Qbj (xs : List (List Int)) : (xs.map f_29).map unfr = xs.map v_29 := Qrj (fun _ => rfl) xs
theorem Qut (xs : List (List Int)) : (xs.map f_29).all new0 = true := all_map (fun _ => rfl) xs
theorem ag74 : Qce Try.prog 74 = some true := by kernel_rfl
theorem sz74 : szOf Try.prog 74 = some 8 := by kernel_rfl
def Qy3 (z0 : Zy) (z1 : Int) : List Ans := (.n :: .n :: .v (VV.ag [vs (((z0.stops.getD z1.toNat default).SkyTarget).Name), vi (((z0.stops.getD z1.toNat default).SkyTarget).Azimuth), vi (((z0.stops.getD z1.toNat default).SkyTarget).Height), vi (((z0.stops.getD z1.toNat default).SkyTarget).From), vi (((z0.stops.getD z1.toNat default).SkyTarget).To), vi (((z0.stops.getD z1.toNat default).SkyTarget).Dwell), VV.tr (List.map vi ((z0.stops.getD z1.toNat default).turns)) (((z0.stops.getD z1.toNat default).turns).length), VV.tr (List.map vi ((z0.stops.getD z1.toNat default).positions)) (((z0.stops.getD z1.toNat default).positions).length)]) :: nN 3 [])
def Qy4 (z0 : (List (List Int))) (z1 : Int) : List Ans := (nN 3 (.v (VV.tr (List.map vi (z0.getD z1.toNat default)) ((z0.getD z1.toNat default).length)) :: nN 5 []))
def Qy5 (z0 : (List (List Int))) (z1 : Int) : List Ans := (.n :: .v (VV.tr (List.map vi (z0.getD z1.toNat default)) ((z0.getD z1.toNat default).length)) :: .n :: [])
def Xk (a0 : Zy) (a1 : (List (List Int))) (x18 : Int) : VS := ⟨mkA [(1, VV.tr (List.map v_29 a1) a1.length), (16, VV.tr (flatMap Qw a0.stops) a0.stops.length), (17, vi (a0.stops.length : Int)), (18, vi x18)], [], .nil⟩
def X4 (a0 : Zy) (a1 : (List (List Int))) (r : Unit) : VS := ⟨mkA [(4, vi 10)], [], .nil⟩
def Xh (a0 : Zy) (a1 : (List (List Int))) (r : Unit) : VS := ⟨mkA [(1, VV.tr (List.map v_29 a1) a1.length)], [], .nil⟩
def Qq (k : Nat) (a0 : Zy) (a1 : (List (List Int))) : Nat -> Int -> Option (Sum Unit Unit)
 | 0, _ => none
 | fuel + 1, x18 => if x18 < (a0.stops.length : Int) then (if 0 <= x18 /\ x18 < (a0.stops.length : Int) then (if 0 <= x18 /\ x18 < (a1.length : Int) then (if ((a1.getD x18.toNat default).length : Int) = (((a0.stops.getD x18.toNat default).turns).length : Int) then (Qq k a0 a1 fuel (w64 (x18 + 1))) else (some (.inl ()))) else none) else none) else (some (.inr ()))
theorem Qbk (k : Nat) (a0 : Zy) (a1 : (List (List Int))) : ∀ (fuel : Nat) (x18 : Int) (r : Sum Unit Unit), Qq k a0 a1 fuel x18 = some r -> (match r with | .inl r => J6 none Try.prog (szF Try.f28) (X5 Try.f28 0) (Xk a0 a1 x18) .ret (X4 a0 a1 r) | .inr r => J6 none Try.prog (szF Try.f28) (X5 Try.f28 0) (Xk a0 a1 x18) (.exit 0) (Xh a0 a1 r)) := by
 intro fuel
 induction fuel with
 | zero => intro x18 r h; rw [Qq.eq_1] at h; cases h
 | succ fuel ih =>
  intro x18 r h
  rw [Qq.eq_2] at h
  rcases ifs h with ⟨h1410, h⟩ | ⟨h1410, h⟩
  ·obtain ⟨h1411, h⟩ := ifn h
   have e1412 := (show Zv Try.prog 74 (x18.toNat * 8) (flatMap Qw a0.stops) = some (VV.ag [vs (((a0.stops.getD x18.toNat default).SkyTarget).Name), vi (((a0.stops.getD x18.toNat default).SkyTarget).Azimuth), vi (((a0.stops.getD x18.toNat default).SkyTarget).Height), vi (((a0.stops.getD x18.toNat default).SkyTarget).From), vi (((a0.stops.getD x18.toNat default).SkyTarget).To), vi (((a0.stops.getD x18.toNat default).SkyTarget).Dwell), VV.tr (List.map vi ((a0.stops.getD x18.toNat default).turns)) (((a0.stops.getD x18.toNat default).turns).length), VV.tr (List.map vi ((a0.stops.getD x18.toNat default).positions)) (((a0.stops.getD x18.toNat default).positions).length)]) from Qed ag74 Qw 8 sz74 Qam a0.stops default h1411 (by omega))
   obtain ⟨h1413, h⟩ := ifn h
   have e1414 := (show Zv Try.prog 29 (x18.toNat * 1) (List.map v_29 a1) = some (VV.tr (List.map vi (a1.getD x18.toNat default)) ((a1.getD x18.toNat default).length)) from Jk ag29 v_29 a1 default h1413 (by omega))
   have e1415 := (ti (ti (an h1413 (an e1414 (ti (ti (ti (ti (ti tt)))))))))
   rcases ifs h with ⟨h1416, h⟩ | ⟨h1416, h⟩
   ·have h2 := ih _ _ h
    obtain ⟨q, hv, hq⟩ := pkR (rd := none) (P := Try.prog) (fn := Try.f28) (k := 0) (s := (Xk a0 a1 x18)) (ans := [.reg (.n :: []), .br true, .reg (Qy3 a0 x18), .reg (Qy4 a1 x18), .br false, .reg (.n :: .n :: [])]) (c := ⟨[(1, none), (16, none), (17, none), (18, none)], [], []⟩) (e := .normal) (s1 := (Xk a0 a1 (w64 (x18 + 1)))) (an (an (ti tt) (an (an (dt h1410) tt) (an (an (ti (an h1411 (an e1412 (ti (ti (ti tt)))))) (an e1415 (an (Q5 (dt h1416)) tt))) (ti (ti tt))))) (ti tt)) (by kernel_rfl)
    cases r with
    | inl r => exact Qy pm pn hv hq h2
    | inr r =>
     exact Qy pm pn hv hq h2
   ·injection h with h; subst h
    exact Qz (c := ⟨[(4, none)], [], []⟩) (s1 := (X4 a0 a1 ())) pm pn (ans := [.reg (.n :: []), .br true, .reg (Qy3 a0 x18), .reg (Qy4 a1 x18), .br true, .reg (.n :: [])]) (by kernel_rfl) (by intro e; cases e) (an (an (ti tt) (an (an (dt h1410) tt) (an (ti (an h1411 (an e1412 (ti (ti (ti tt)))))) (an e1415 (an (Z5 (df h1416)) (an (ti tt) tt)))))) (ti tt))
  ·injection h with h; subst h
   exact Qz (c := ⟨[(1, none)], [], []⟩) (s1 := (Xh a0 a1 ())) pm pn (ans := [.reg (.n :: []), .br false]) (by kernel_rfl) (by intro e; cases e) (an (an (ti tt) (an (df h1410) tt)) (ti tt))
def Xl (a1 : (List (List Int))) (x35 : Int) : VS := ⟨mkA [(33, VV.tr (List.map v_29 a1) a1.length), (34, vi (a1.length : Int)), (35, vi x35)], [], .nil⟩
def X6 (a1 : (List (List Int))) (r : Unit) : VS := ⟨mkA [(4, vi 2)], [], .nil⟩
def X7 (a1 : (List (List Int))) (r : Unit) : VS := ⟨mkA [], [], .nil⟩
def Qr (k : Nat) (a1 : (List (List Int))) : Nat -> Int -> Option (Sum Unit Unit)
 | 0, _ => none
 | fuel + 1, x35 => if x35 < (a1.length : Int) then (if 0 <= x35 /\ x35 < (a1.length : Int) then ((Jv k 1000000000000 (a1.getD x35.toNat default)).bind fun r1440 => (if r1440 = true then (Qr k a1 fuel (w64 (x35 + 1))) else (some (.inl ())))) else none) else (some (.inr ()))
theorem Qbl (k : Nat) (a1 : (List (List Int))) : ∀ (fuel : Nat) (x35 : Int) (r : Sum Unit Unit), Qr k a1 fuel x35 = some r -> (match r with | .inl r => J6 none Try.prog (szF Try.f28) (X5 Try.f28 1) (Xl a1 x35) .ret (X6 a1 r) | .inr r => J6 none Try.prog (szF Try.f28) (X5 Try.f28 1) (Xl a1 x35) (.exit 2) (X7 a1 r)) := by
 intro fuel
 induction fuel with
 | zero => intro x35 r h; rw [Qr.eq_1] at h; cases h
 | succ fuel ih =>
  intro x35 r h
  rw [Qr.eq_2] at h
  rcases ifs h with ⟨h1437, h⟩ | ⟨h1437, h⟩
  ·obtain ⟨h1438, h⟩ := ifn h
   have e1439 := (show Zv Try.prog 29 (x35.toNat * 1) (List.map v_29 a1) = some (VV.tr (List.map vi (a1.getD x35.toNat default)) ((a1.getD x35.toNat default).length)) from Jk ag29 v_29 a1 default h1438 (by omega))
   obtain ⟨r1440, h1441, h⟩ := bs h
   have e1442 := (Qb2 k 1000000000000 (a1.getD x35.toNat default) _ h1441)
   rcases ifs h with ⟨h1443, h⟩ | ⟨h1443, h⟩
   ·have h2 := ih _ _ h
    obtain ⟨q, hv, hq⟩ := pkR (rd := none) (P := Try.prog) (fn := Try.f28) (k := 1) (s := (Xl a1 x35)) (ans := [.reg (.n :: []), .br true, .reg (Qy5 a1 x35), .reg (.n :: .call (vb r1440) :: .n :: []), .br false, .reg (.n :: .n :: [])]) (c := ⟨[(33, none), (34, none), (35, none)], [], []⟩) (e := .normal) (s1 := (Xl a1 (w64 (x35 + 1)))) (an (an (ti tt) (an (an (dt h1437) tt) (an (an (an h1438 (an e1439 (ti tt))) (an (ti (an e1442 (ti tt))) (an (Q5 h1443) tt))) (ti (ti tt))))) (ti tt)) (by kernel_rfl)
    cases r with
    | inl r => exact Qy pm pn hv hq h2
    | inr r =>
     exact Qy pm pn hv hq h2
   ·injection h with h; subst h
    exact Qz (c := ⟨[(4, none)], [], []⟩) (s1 := (X6 a1 ())) pm pn (ans := [.reg (.n :: []), .br true, .reg (Qy5 a1 x35), .reg (.n :: .call (vb r1440) :: .n :: []), .br true, .reg (.n :: [])]) (by kernel_rfl) (by intro e; cases e) (an (an (ti tt) (an (an (dt h1437) tt) (an (an h1438 (an e1439 (ti tt))) (an (ti (an e1442 (ti tt))) (an (Z5 (Zb h1443)) (an (ti tt) tt)))))) (ti tt))
  ·injection h with h; subst h
   exact Qz (c := ⟨[], [], []⟩) (s1 := (X7 a1 ())) pm pn (ans := [.reg (.n :: []), .br false]) (by kernel_rfl) (by intro e; cases e) (an (an (ti tt) (an (df h1437) tt)) (ti tt))
def Xn (k : Nat) (a0 : Zy) (a1 : (List (List Int))) : Option Int :=
 if (a1.length : Int) = (a0.stops.length : Int) then ((Qq k a0 a1 k 0).bind fun r1418 => (match r1418 with | .inl r1419 => (some 10) | .inr r1420 => ((Qr k a1 k 0).bind fun r1445 => (match r1445 with | .inl r1446 => (some 2) | .inr r1447 => (some 0))))) else (some 10)
theorem Qci (k : Nat) (a0 : Zy) (a1 : (List (List Int))) (r : Int) (h : Xn k a0 a1 = some r) : VC Try.prog 28 [VV.ag (Z7 a0), VV.tr (List.map v_29 a1) a1.length] (vi r) := by
 unfold Xn at h
 rcases ifs h with ⟨h1395, h⟩ | ⟨h1395, h⟩
 ·obtain ⟨r1418, h1417, h⟩ := bs h
  have hph1417 := Qbk k a0 a1 _ _ _ h1417
  cases r1418 with
  | inl r1419 =>
   dsimp only at h
   have e1421 := (an (ti tt) (VRun.loop hph1417))
   injection h with h; subst h
   exact Qk pm pn Try.func28 (r0 := vi 10) (ans := [.reg (.n :: .n :: []), .reg (nN 6 []), .br false, .reg (nN 4 []), .sub ⟨[(1, none), (16, none), (17, none), (18, none)], [], []⟩ .ret (X4 a0 a1 r1419)]) (fr := true) (by kernel_rfl) (an (an (ti (ti tt)) (an (an (ti (ti (ti (ti (ti (ti tt)))))) (an (Q5 (dt h1395)) tt)) (an (ti (ti (ti (ti tt)))) e1421))) (ti tt)) (Wv.refl _)
  | inr r1420 =>
   dsimp only at h
   have e1422 := (an (ti tt) (VRun.loop hph1417))
   obtain ⟨r1445, h1444, h⟩ := bs h
   have hph1444 := Qbl k a1 _ _ _ h1444
   cases r1445 with
   | inl r1446 =>
    dsimp only at h
    have e1448 := (an (ti tt) (VRun.loop hph1444))
    injection h with h; subst h
    exact Qk pm pn Try.func28 (r0 := vi 2) (ans := [.reg (.n :: .n :: []), .reg (nN 6 []), .br false, .reg (nN 4 []), .sub ⟨[(1, none), (16, none), (17, none), (18, none)], [], []⟩ (.exit 0) (Xh a0 a1 r1420), .reg (nN 3 []), .sub ⟨[(33, none), (34, none), (35, none)], [], []⟩ .ret (X6 a1 r1446)]) (fr := true) (by kernel_rfl) (an (an (ti (ti tt)) (an (an (ti (ti (ti (ti (ti (ti tt)))))) (an (Q5 (dt h1395)) tt)) (an (an (ti (ti (ti (ti tt)))) e1422) (an (ti (ti (ti tt))) e1448)))) (ti tt)) (Wv.refl _)
   | inr r1447 =>
    dsimp only at h
    have e1449 := (an (ti tt) (VRun.loop hph1444))
    injection h with h; subst h
    exact Qk pm pn Try.func28 (r0 := vi 0) (ans := [.reg (.n :: .n :: []), .reg (nN 6 []), .br false, .reg (nN 4 []), .sub ⟨[(1, none), (16, none), (17, none), (18, none)], [], []⟩ (.exit 0) (Xh a0 a1 r1420), .reg (nN 3 []), .sub ⟨[(33, none), (34, none), (35, none)], [], []⟩ (.exit 2) (X7 a1 r1447), .reg (.n :: [])]) (fr := true) (by kernel_rfl) (an (an (ti (ti tt)) (an (an (ti (ti (ti (ti (ti (ti tt)))))) (an (Q5 (dt h1395)) tt)) (an (an (ti (ti (ti (ti tt)))) e1422) (an (an (ti (ti (ti tt))) e1449) (an (ti tt) tt))))) (ti tt)) (Wv.refl _)
 ·injection h with h; subst h
  exact Qk pm pn Try.func28 (r0 := vi 10) (ans := [.reg (.n :: .n :: []), .reg (nN 6 []), .br true, .reg (.n :: [])]) (fr := true) (by kernel_rfl) (an (an (ti (ti tt)) (an (ti (ti (ti (ti (ti (ti tt)))))) (an (Z5 (df h1395)) (an (ti tt) tt)))) (ti tt)) (Wv.refl _)
def Q1l (z0 : (List (List Int))) (z1 : Int) (z2 : Int) : List Ans := (.n :: .n :: .v (vi ((z0.getD (w64 (z1 - 1)).toNat default).getD z2.toNat 0)) :: .n :: .n :: [])
def Q1m (z0 : List Int) (z1 : Int) (z2 : Zy) (z3 : Int) (z4 : Int) (z5 : Int) : List Ans := (nN 5 (.v (vi (z0.getD z1.toNat 0)) :: nN 4 (.v (vi (((z2.stops.getD (w64 (z3 - 1)).toNat default).positions).getD z4.toNat 0)) :: .n :: .call (vi z5) :: nN 4 [])))
def Qy6 (z0 : Zy) (z1 : Int) (z2 : Int) : List Ans := (.n :: .n :: .v (vi (((z0.stops.getD z1.toNat default).positions).getD z2.toNat 0)) :: .n :: .n :: [])
def Q1n (z0 : List Int) (z1 : Int) (z2 : Zy) (z3 : Int) (z4 : Int) : List Ans := (nN 5 (.v (vi (z0.getD z1.toNat 0)) :: nN 4 (.v (vi (([z2.begin] : List Int).getD z3.toNat 0)) :: .n :: .call (vi z4) :: nN 4 [])))
def Yu (a0 : Zy) (a1 : Int) (a2 : (List (List Int))) (x47 : Int) (y3z : List Int) (x57 : Int) : VS := ⟨mkA [(7, VV.tr (List.map vi ((a0.stops.getD (w64 (a1 - 1)).toNat default).positions)) (((a0.stops.getD (w64 (a1 - 1)).toNat default).positions).length)), (8, VV.tr (List.map vi (a2.getD (w64 (a1 - 1)).toNat default)) ((a2.getD (w64 (a1 - 1)).toNat default).length)), (9, VV.rf 3 0 y3z.length), (10, vi x47), (11, vi (((a0.stops.getD a1.toNat default).positions).getD x47.toNat 0)), (45, VV.tr (List.map vi ((a0.stops.getD a1.toNat default).positions)) (((a0.stops.getD a1.toNat default).positions).length)), (46, vi (((a0.stops.getD a1.toNat default).positions).length : Int)), (47, vi x47), (55, VV.tr (List.map vi (a2.getD (w64 (a1 - 1)).toNat default)) ((a2.getD (w64 (a1 - 1)).toNat default).length)), (56, vi ((a2.getD (w64 (a1 - 1)).toNat default).length : Int)), (57, vi x57)], [some ⟨true, 1, Z7 a0⟩, some ⟨false, 1, [vi a0.begin]⟩, some ⟨false, 1, [vi 0]⟩, some ⟨false, 1, List.map vi y3z⟩], .nil⟩
def Ye (a0 : Zy) (a1 : Int) (a2 : (List (List Int))) (x47 : Int) (r : (List Int)) : VS := ⟨mkA [(7, VV.tr (List.map vi ((a0.stops.getD (w64 (a1 - 1)).toNat default).positions)) (((a0.stops.getD (w64 (a1 - 1)).toNat default).positions).length)), (8, VV.tr (List.map vi (a2.getD (w64 (a1 - 1)).toNat default)) ((a2.getD (w64 (a1 - 1)).toNat default).length)), (9, VV.rf 3 0 r.length), (45, VV.tr (List.map vi ((a0.stops.getD a1.toNat default).positions)) (((a0.stops.getD a1.toNat default).positions).length)), (46, vi (((a0.stops.getD a1.toNat default).positions).length : Int)), (47, vi x47)], [some ⟨true, 1, Z7 a0⟩, some ⟨false, 1, [vi a0.begin]⟩, some ⟨false, 1, [vi 0]⟩, some ⟨false, 1, List.map vi r⟩], .nil⟩
def Zi (k : Nat) (a0 : Zy) (a1 : Int) (a2 : (List (List Int))) (x47 : Int) : Nat -> (List Int) -> Int -> Option ((List Int))
 | 0, _, _ => none
 | fuel + 1, y3z, x57 => if x57 < ((a2.getD (w64 (a1 - 1)).toNat default).length : Int) then (if 0 <= x57 /\ x57 < ((a2.getD (w64 (a1 - 1)).toNat default).length : Int) then (if 0 <= x47 /\ x47 < (y3z.length : Int) then (if 0 <= x57 /\ x57 < (((a0.stops.getD (w64 (a1 - 1)).toNat default).positions).length : Int) then ((Xo k (((a0.stops.getD (w64 (a1 - 1)).toNat default).positions).getD x57.toNat 0) (((a0.stops.getD a1.toNat default).positions).getD x47.toNat 0)).bind fun r1939 => (Zi k a0 a1 a2 x47 fuel (y3z.set x47.toNat (minI (y3z.getD x47.toNat 0) (w64 (((a2.getD (w64 (a1 - 1)).toNat default).getD x57.toNat 0) + r1939)))) (w64 (x57 + 1)))) else none) else none) else none) else (some y3z)
theorem Qdj (k : Nat) (a0 : Zy) (a1 : Int) (a2 : (List (List Int))) (x47 : Int) : ∀ (fuel : Nat) (y3z : List Int) (x57 : Int) (r : (List Int)), Zi k a0 a1 a2 x47 fuel y3z x57 = some r -> (J6 none Try.prog (szF Try.f29) (X5 Try.f29 1) (Yu a0 a1 a2 x47 y3z x57) (.exit 2) (Ye a0 a1 a2 x47 r)) := by
 intro fuel
 induction fuel with
 | zero => intro y3z x57 r h; rw [Zi.eq_1] at h; cases h
 | succ fuel ih =>
  intro y3z x57 r h
  rw [Zi.eq_2] at h
  rcases ifs h with ⟨h1932, h⟩ | ⟨h1932, h⟩
  ·obtain ⟨h1933, h⟩ := ifn h
   have e1934 := (show Zv Try.prog 3 (x57.toNat * 1) (List.map vi (a2.getD (w64 (a1 - 1)).toNat default)) = some (vi ((a2.getD (w64 (a1 - 1)).toNat default).getD x57.toNat 0)) from Jk ag3 vi (a2.getD (w64 (a1 - 1)).toNat default) 0 h1933 (by omega))
   obtain ⟨h1935, h⟩ := ifn h
   have e1936 := (show Zv Try.prog 3 (0 + x47.toNat * 1) (List.map vi y3z) = some (vi (y3z.getD x47.toNat 0)) from Jk ag3 vi y3z 0 h1935 (by omega))
   obtain ⟨h1937, h⟩ := ifn h
   have e1938 := (show Zv Try.prog 3 (x57.toNat * 1) (List.map vi ((a0.stops.getD (w64 (a1 - 1)).toNat default).positions)) = some (vi (((a0.stops.getD (w64 (a1 - 1)).toNat default).positions).getD x57.toNat 0)) from Jk ag3 vi ((a0.stops.getD (w64 (a1 - 1)).toNat default).positions) 0 h1937 (by omega))
   obtain ⟨r1939, h1940, h⟩ := bs h
   have e1941 := (Y7 k (((a0.stops.getD (w64 (a1 - 1)).toNat default).positions).getD x57.toNat 0) (((a0.stops.getD a1.toNat default).positions).getD x47.toNat 0) _ h1940)
   have e1942 := (show (0 + x47.toNat * 1) + 1 <= List.length (List.map vi y3z) from (by simp only [length_map]; omega))
   have e1943 := (ti (ti (ti (ti (an h1935 (an e1936 (ti (ti (ti (an h1937 (an e1938 (ti (an e1941 (ti (ti (an h1935 (an e1942 tt)))))))))))))))))
   have h2 := ih _ _ _ h
   obtain ⟨q, hv, hq⟩ := pkR (rd := none) (P := Try.prog) (fn := Try.f29) (k := 1) (s := (Yu a0 a1 a2 x47 y3z x57)) (ans := [.reg (.n :: []), .br true, .reg (Q1l a2 a1 x57), .reg (Q1m y3z x47 a0 a1 x57 r1939), .reg (.n :: .n :: [])]) (c := ⟨[(7, none), (8, none), (9, some (VV.rf 3 0 ((y3z.set x47.toNat (minI (y3z.getD x47.toNat 0) (w64 (((a2.getD (w64 (a1 - 1)).toNat default).getD x57.toNat 0) + r1939)))).length))), (10, none), (11, none), (45, none), (46, none), (47, none), (55, none), (56, none), (57, none)], [none, none, none, some (List.map vi (y3z.set x47.toNat (minI (y3z.getD x47.toNat 0) (w64 (((a2.getD (w64 (a1 - 1)).toNat default).getD x57.toNat 0) + r1939)))))], []⟩) (e := .normal) (s1 := (Yu a0 a1 a2 x47 (y3z.set x47.toNat (minI (y3z.getD x47.toNat 0) (w64 (((a2.getD (w64 (a1 - 1)).toNat default).getD x57.toNat 0) + r1939)))) (w64 (x57 + 1)))) (an (an (ti tt) (an (an (dt h1932) tt) (an (an (ti (an h1933 (an e1934 (ti (ti tt))))) e1943) (ti (ti tt))))) (an (an (show Wv (VV.rf 3 0 y3z.length) (VV.rf 3 0 ((y3z.set x47.toNat (minI (y3z.getD x47.toNat 0) (w64 (((a2.getD (w64 (a1 - 1)).toNat default).getD x57.toNat 0) + r1939)))).length)) from (Wv.of_eq (by simp))) tt) (an (show putT (0 + x47.toNat * 1) (List.map vi y3z) [vi (minI (y3z.getD x47.toNat 0) (w64 (((a2.getD (w64 (a1 - 1)).toNat default).getD x57.toNat 0) + r1939)))] = List.map vi (y3z.set x47.toNat (minI (y3z.getD x47.toNat 0) (w64 (((a2.getD (w64 (a1 - 1)).toNat default).getD x57.toNat 0) + r1939)))) from (by exact Qha y3z h1935 (minI (y3z.getD x47.toNat 0) (w64 (((a2.getD (w64 (a1 - 1)).toNat default).getD x57.toNat 0) + r1939))) (by omega))) tt))) (by kernel_rfl)
   exact Qy pm pn hv hq h2
  ·injection h with h; subst h
   exact Qz (c := ⟨[(7, none), (8, none), (9, none), (45, none), (46, none), (47, none)], [none, none, none, none], []⟩) (s1 := (Ye a0 a1 a2 x47 y3z)) pm pn (ans := [.reg (.n :: []), .br false]) (by kernel_rfl) (by intro e; cases e) (an (an (ti tt) (an (df h1932) tt)) (ti tt))
def Yv (a0 : Zy) (a1 : Int) (a2 : (List (List Int))) (y3 : List Int) (x47 : Int) : VS := ⟨mkA [(7, VV.tr (List.map vi ((a0.stops.getD (w64 (a1 - 1)).toNat default).positions)) (((a0.stops.getD (w64 (a1 - 1)).toNat default).positions).length)), (8, VV.tr (List.map vi (a2.getD (w64 (a1 - 1)).toNat default)) ((a2.getD (w64 (a1 - 1)).toNat default).length)), (9, VV.rf 3 0 y3.length), (45, VV.tr (List.map vi ((a0.stops.getD a1.toNat default).positions)) (((a0.stops.getD a1.toNat default).positions).length)), (46, vi (((a0.stops.getD a1.toNat default).positions).length : Int)), (47, vi x47)], [some ⟨true, 1, Z7 a0⟩, some ⟨false, 1, [vi a0.begin]⟩, some ⟨false, 1, [vi 0]⟩, some ⟨false, 1, List.map vi y3⟩], .nil⟩
def Yf (a0 : Zy) (a1 : Int) (a2 : (List (List Int))) (r : (List Int)) : VS := ⟨mkA [(9, VV.rf 3 0 r.length)], [some ⟨true, 1, Z7 a0⟩, some ⟨false, 1, [vi a0.begin]⟩, some ⟨false, 1, [vi 0]⟩, some ⟨false, 1, List.map vi r⟩], .nil⟩
def Ze (k : Nat) (a0 : Zy) (a1 : Int) (a2 : (List (List Int))) : Nat -> (List Int) -> Int -> Option ((List Int))
 | 0, _, _ => none
 | fuel + 1, y3, x47 => if x47 < (((a0.stops.getD a1.toNat default).positions).length : Int) then (if 0 <= x47 /\ x47 < (((a0.stops.getD a1.toNat default).positions).length : Int) then (if 0 <= x47 /\ x47 < (y3.length : Int) then ((Zi k a0 a1 a2 x47 k (y3.set x47.toNat 9223372036854775807) 0).bind fun r1945 => (Ze k a0 a1 a2 fuel r1945 (w64 (x47 + 1)))) else none) else none) else (some y3)
theorem Qdk (k : Nat) (a0 : Zy) (a1 : Int) (a2 : (List (List Int))) : ∀ (fuel : Nat) (y3 : List Int) (x47 : Int) (r : (List Int)), Ze k a0 a1 a2 fuel y3 x47 = some r -> (J6 none Try.prog (szF Try.f29) (X5 Try.f29 0) (Yv a0 a1 a2 y3 x47) (.exit 0) (Yf a0 a1 a2 r)) := by
 intro fuel
 induction fuel with
 | zero => intro y3 x47 r h; rw [Ze.eq_1] at h; cases h
 | succ fuel ih =>
  intro y3 x47 r h
  rw [Ze.eq_2] at h
  rcases ifs h with ⟨h1900, h⟩ | ⟨h1900, h⟩
  ·obtain ⟨h1901, h⟩ := ifn h
   have e1902 := (show Zv Try.prog 3 (x47.toNat * 1) (List.map vi ((a0.stops.getD a1.toNat default).positions)) = some (vi (((a0.stops.getD a1.toNat default).positions).getD x47.toNat 0)) from Jk ag3 vi ((a0.stops.getD a1.toNat default).positions) 0 h1901 (by omega))
   obtain ⟨h1903, h⟩ := ifn h
   have e1904 := (show (0 + x47.toNat * 1) + 1 <= List.length (List.map vi y3) from (by simp only [length_map]; omega))
   obtain ⟨r1945, h1944, h⟩ := bs h
   have hph1944 := Qdj k a0 a1 a2 x47 _ _ _ _ h1944
   have e1946 := (an (an (an (show Wv (VV.rf 3 0 y3.length) (VV.rf 3 0 ((y3.set x47.toNat 9223372036854775807).length)) from (Wv.of_eq (by simp))) tt) (an (show putT (0 + x47.toNat * 1) (List.map vi y3) [vi 9223372036854775807] = List.map vi (y3.set x47.toNat 9223372036854775807) from (by exact Qha y3 h1903 9223372036854775807 (by omega))) tt)) (VRun.loop hph1944))
   have h2 := ih _ _ _ h
   obtain ⟨q, hv, hq⟩ := pkR (rd := none) (P := Try.prog) (fn := Try.f29) (k := 0) (s := (Yv a0 a1 a2 y3 x47)) (ans := [.reg (.n :: []), .br true, .reg (Qy6 a0 a1 x47), .reg (nN 4 []), .reg (nN 3 []), .sub ⟨[(7, none), (8, none), (9, some (VV.rf 3 0 ((y3.set x47.toNat 9223372036854775807).length))), (10, none), (11, none), (45, none), (46, none), (47, none), (55, none), (56, none), (57, none)], [none, none, none, some (List.map vi (y3.set x47.toNat 9223372036854775807))], []⟩ (.exit 2) (Ye a0 a1 a2 x47 r1945), .reg (.n :: .n :: [])]) (c := ⟨[(7, none), (8, none), (9, none), (45, none), (46, none), (47, none)], [none, none, none, none], []⟩) (e := .normal) (s1 := (Yv a0 a1 a2 r1945 (w64 (x47 + 1)))) (an (an (ti tt) (an (an (dt h1900) tt) (an (an (ti (an h1901 (an e1902 (ti (ti tt))))) (an (ti (ti (an h1903 (an e1904 tt)))) (an (ti (ti (ti tt))) e1946))) (ti (ti tt))))) (ti tt)) (by kernel_rfl)
   exact Qy pm pn hv hq h2
  ·injection h with h; subst h
   exact Qz (c := ⟨[(9, none)], [none, none, none, none], []⟩) (s1 := (Yf a0 a1 a2 y3)) pm pn (ans := [.reg (.n :: []), .br false]) (by kernel_rfl) (by intro e; cases e) (an (an (ti tt) (an (df h1900) tt)) (ti tt))
def Q1o (z0 : Zy) (z1 : Int) (z2 : (List (List Int))) : List Ans := (nN 6 (.v (VV.tr (List.map vi ((z0.stops.getD (w64 (z1 - 1)).toNat default).positions)) (((z0.stops.getD (w64 (z1 - 1)).toNat default).positions).length)) :: nN 4 (.v (VV.tr (List.map vi (z2.getD (w64 (z1 - 1)).toNat default)) ((z2.getD (w64 (z1 - 1)).toNat default).length)) :: .n :: .n :: [])))
def Quu (z0 : Zy) (z1 : Int) : List Ans := (nN 5 (.v (VV.tr (List.map vi ((z0.stops.getD z1.toNat default).positions)) (((z0.stops.getD z1.toNat default).positions).length)) :: nN 3 []))
def Quv (z0 : Zy) (z1 : Int) : List Ans := (nN 5 (.v (VV.tr (List.map vi ((z0.stops.getD z1.toNat default).positions)) (((z0.stops.getD z1.toNat default).positions).length)) :: .n :: .n :: []))
theorem Qy7 (z0 : (List Int)) : VV.fw 1 (List.drop 0 (List.map unfr (List.map vi z0))) z0.length = VV.fw 1 (List.map vi z0) z0.length := by first | rfl | (simp only [Qea, Qm, map_cons, map_nil, un_i, length_map]; done) | (simp only [Qea, Qm, map_cons, map_nil, un_i, length_map]; rfl) | (simp only [Qea, Qm, map_cons, map_nil, un_i, length_map, length_cons, length_nil, length_append]; done)
def Yw (a0 : Zy) (a1 : Int) (x47 : Int) (y3z : List Int) (x57 : Int) : VS := ⟨mkA [(7, VV.rf 1 0 1), (8, VV.rf 2 0 1), (9, VV.rf 3 0 y3z.length), (10, vi x47), (11, vi (((a0.stops.getD a1.toNat default).positions).getD x47.toNat 0)), (45, VV.tr (List.map vi ((a0.stops.getD a1.toNat default).positions)) (((a0.stops.getD a1.toNat default).positions).length)), (46, vi (((a0.stops.getD a1.toNat default).positions).length : Int)), (47, vi x47), (55, VV.rf 2 0 1), (56, vi 1), (57, vi x57)], [some ⟨true, 1, Z7 a0⟩, some ⟨false, 1, [vi a0.begin]⟩, some ⟨false, 1, [vi 0]⟩, some ⟨false, 1, List.map vi y3z⟩], .nil⟩
def Yg (a0 : Zy) (a1 : Int) (x47 : Int) (r : (List Int)) : VS := ⟨mkA [(7, VV.rf 1 0 1), (8, VV.rf 2 0 1), (9, VV.rf 3 0 r.length), (45, VV.tr (List.map vi ((a0.stops.getD a1.toNat default).positions)) (((a0.stops.getD a1.toNat default).positions).length)), (46, vi (((a0.stops.getD a1.toNat default).positions).length : Int)), (47, vi x47)], [some ⟨true, 1, Z7 a0⟩, some ⟨false, 1, [vi a0.begin]⟩, some ⟨false, 1, [vi 0]⟩, some ⟨false, 1, List.map vi r⟩], .nil⟩
def Zt (k : Nat) (a0 : Zy) (a1 : Int) (x47 : Int) : Nat -> (List Int) -> Int -> Option ((List Int))
 | 0, _, _ => none
 | fuel + 1, y3z, x57 => if x57 < 1 then (if 0 <= x57 /\ x57 < (([0] : List Int).length : Int) then (if x57 < ((1 : Nat) : Int) then (if 0 <= x47 /\ x47 < (y3z.length : Int) then (if 0 <= x57 /\ x57 < (([a0.begin] : List Int).length : Int) then ((Xo k (([a0.begin] : List Int).getD x57.toNat 0) (((a0.stops.getD a1.toNat default).positions).getD x47.toNat 0)).bind fun r2116 => (Zt k a0 a1 x47 fuel (y3z.set x47.toNat (minI (y3z.getD x47.toNat 0) (w64 ((([0] : List Int).getD x57.toNat 0) + r2116)))) (w64 (x57 + 1)))) else none) else none) else none) else none) else (some y3z)
theorem Qdl (k : Nat) (a0 : Zy) (a1 : Int) (x47 : Int) : ∀ (fuel : Nat) (y3z : List Int) (x57 : Int) (r : (List Int)), Zt k a0 a1 x47 fuel y3z x57 = some r -> (J6 none Try.prog (szF Try.f29) (X5 Try.f29 1) (Yw a0 a1 x47 y3z x57) (.exit 2) (Yg a0 a1 x47 r)) := by
 intro fuel
 induction fuel with
 | zero => intro y3z x57 r h; rw [Zt.eq_1] at h; cases h
 | succ fuel ih =>
  intro y3z x57 r h
  rw [Zt.eq_2] at h
  rcases ifs h with ⟨h2106, h⟩ | ⟨h2106, h⟩
  ·obtain ⟨h2107, h⟩ := ifn h
   obtain ⟨h2108, h⟩ := ifn h
   have e2109 := (show 0 <= x57 /\ x57 < ((1 : Nat) : Int) from ⟨h2107.1, h2108⟩)
   have e2110 := (show Zv Try.prog 3 (0 + x57.toNat * 1) [vi 0] = some (vi (([0] : List Int).getD x57.toNat 0)) from (by rw [show [vi 0] = List.map vi ([0] : List Int) from rfl]; exact Jk ag3 vi ([0] : List Int) 0 h2107 (by omega)))
   obtain ⟨h2111, h⟩ := ifn h
   have e2112 := (show Zv Try.prog 3 (0 + x47.toNat * 1) (List.map vi y3z) = some (vi (y3z.getD x47.toNat 0)) from Jk ag3 vi y3z 0 h2111 (by omega))
   obtain ⟨h2113, h⟩ := ifn h
   have e2114 := (show 0 <= x57 /\ x57 < ((1 : Nat) : Int) from ⟨h2113.1, h2108⟩)
   have e2115 := (show Zv Try.prog 3 (0 + x57.toNat * 1) [vi a0.begin] = some (vi (([a0.begin] : List Int).getD x57.toNat 0)) from (by rw [show [vi a0.begin] = List.map vi ([a0.begin] : List Int) from rfl]; exact Jk ag3 vi ([a0.begin] : List Int) 0 h2113 (by omega)))
   obtain ⟨r2116, h2117, h⟩ := bs h
   have e2118 := (Y7 k (([a0.begin] : List Int).getD x57.toNat 0) (((a0.stops.getD a1.toNat default).positions).getD x47.toNat 0) _ h2117)
   have e2119 := (show (0 + x47.toNat * 1) + 1 <= List.length (List.map vi y3z) from (by simp only [length_map]; omega))
   have e2120 := (ti (ti (ti (ti (an h2111 (an e2112 (ti (ti (ti (an e2114 (an e2115 (ti (an e2118 (ti (ti (an h2111 (an e2119 tt)))))))))))))))))
   have h2 := ih _ _ _ h
   obtain ⟨q, hv, hq⟩ := pkR (rd := none) (P := Try.prog) (fn := Try.f29) (k := 1) (s := (Yw a0 a1 x47 y3z x57)) (ans := [.reg (.n :: []), .br true, .reg (.n :: .n :: .v (vi (([0] : List Int).getD x57.toNat 0)) :: .n :: .n :: []), .reg (Q1n y3z x47 a0 x57 r2116), .reg (.n :: .n :: [])]) (c := ⟨[(7, none), (8, none), (9, some (VV.rf 3 0 ((y3z.set x47.toNat (minI (y3z.getD x47.toNat 0) (w64 ((([0] : List Int).getD x57.toNat 0) + r2116)))).length))), (10, none), (11, none), (45, none), (46, none), (47, none), (55, none), (56, none), (57, none)], [none, none, none, some (List.map vi (y3z.set x47.toNat (minI (y3z.getD x47.toNat 0) (w64 ((([0] : List Int).getD x57.toNat 0) + r2116)))))], []⟩) (e := .normal) (s1 := (Yw a0 a1 x47 (y3z.set x47.toNat (minI (y3z.getD x47.toNat 0) (w64 ((([0] : List Int).getD x57.toNat 0) + r2116)))) (w64 (x57 + 1)))) (an (an (ti tt) (an (an (dt h2106) tt) (an (an (ti (an e2109 (an e2110 (ti (ti tt))))) e2120) (ti (ti tt))))) (an (an (show Wv (VV.rf 3 0 y3z.length) (VV.rf 3 0 ((y3z.set x47.toNat (minI (y3z.getD x47.toNat 0) (w64 ((([0] : List Int).getD x57.toNat 0) + r2116)))).length)) from (Wv.of_eq (by simp))) tt) (an (show putT (0 + x47.toNat * 1) (List.map vi y3z) [vi (minI (y3z.getD x47.toNat 0) (w64 ((([0] : List Int).getD x57.toNat 0) + r2116)))] = List.map vi (y3z.set x47.toNat (minI (y3z.getD x47.toNat 0) (w64 ((([0] : List Int).getD x57.toNat 0) + r2116)))) from (by exact Qha y3z h2111 (minI (y3z.getD x47.toNat 0) (w64 ((([0] : List Int).getD x57.toNat 0) + r2116))) (by omega))) tt))) (by kernel_rfl)
   exact Qy pm pn hv hq h2
  ·injection h with h; subst h
   exact Qz (c := ⟨[(7, none), (8, none), (9, none), (45, none), (46, none), (47, none)], [none, none, none, none], []⟩) (s1 := (Yg a0 a1 x47 y3z)) pm pn (ans := [.reg (.n :: []), .br false]) (by kernel_rfl) (by intro e; cases e) (an (an (ti tt) (an (df h2106) tt)) (ti tt))
def Yx (a0 : Zy) (a1 : Int) (y3 : List Int) (x47 : Int) : VS := ⟨mkA [(7, VV.rf 1 0 1), (8, VV.rf 2 0 1), (9, VV.rf 3 0 y3.length), (45, VV.tr (List.map vi ((a0.stops.getD a1.toNat default).positions)) (((a0.stops.getD a1.toNat default).positions).length)), (46, vi (((a0.stops.getD a1.toNat default).positions).length : Int)), (47, vi x47)], [some ⟨true, 1, Z7 a0⟩, some ⟨false, 1, [vi a0.begin]⟩, some ⟨false, 1, [vi 0]⟩, some ⟨false, 1, List.map vi y3⟩], .nil⟩
def Yh (a0 : Zy) (a1 : Int) (r : (List Int)) : VS := ⟨mkA [(9, VV.rf 3 0 r.length)], [some ⟨true, 1, Z7 a0⟩, some ⟨false, 1, [vi a0.begin]⟩, some ⟨false, 1, [vi 0]⟩, some ⟨false, 1, List.map vi r⟩], .nil⟩
def Zf (k : Nat) (a0 : Zy) (a1 : Int) : Nat -> (List Int) -> Int -> Option ((List Int))
 | 0, _, _ => none
 | fuel + 1, y3, x47 => if x47 < (((a0.stops.getD a1.toNat default).positions).length : Int) then (if 0 <= x47 /\ x47 < (((a0.stops.getD a1.toNat default).positions).length : Int) then (if 0 <= x47 /\ x47 < (y3.length : Int) then ((Zt k a0 a1 x47 k (y3.set x47.toNat 9223372036854775807) 0).bind fun r2122 => (Zf k a0 a1 fuel r2122 (w64 (x47 + 1)))) else none) else none) else (some y3)
theorem Qdm (k : Nat) (a0 : Zy) (a1 : Int) : ∀ (fuel : Nat) (y3 : List Int) (x47 : Int) (r : (List Int)), Zf k a0 a1 fuel y3 x47 = some r -> (J6 none Try.prog (szF Try.f29) (X5 Try.f29 0) (Yx a0 a1 y3 x47) (.exit 0) (Yh a0 a1 r)) := by
 intro fuel
 induction fuel with
 | zero => intro y3 x47 r h; rw [Zf.eq_1] at h; cases h
 | succ fuel ih =>
  intro y3 x47 r h
  rw [Zf.eq_2] at h
  rcases ifs h with ⟨h2069, h⟩ | ⟨h2069, h⟩
  ·obtain ⟨h2070, h⟩ := ifn h
   have e2071 := (show Zv Try.prog 3 (x47.toNat * 1) (List.map vi ((a0.stops.getD a1.toNat default).positions)) = some (vi (((a0.stops.getD a1.toNat default).positions).getD x47.toNat 0)) from Jk ag3 vi ((a0.stops.getD a1.toNat default).positions) 0 h2070 (by omega))
   obtain ⟨h2072, h⟩ := ifn h
   have e2073 := (show (0 + x47.toNat * 1) + 1 <= List.length (List.map vi y3) from (by simp only [length_map]; omega))
   obtain ⟨r2122, h2121, h⟩ := bs h
   have hph2121 := Qdl k a0 a1 x47 _ _ _ _ h2121
   have e2123 := (an (an (an (show Wv (VV.rf 3 0 y3.length) (VV.rf 3 0 ((y3.set x47.toNat 9223372036854775807).length)) from (Wv.of_eq (by simp))) tt) (an (show putT (0 + x47.toNat * 1) (List.map vi y3) [vi 9223372036854775807] = List.map vi (y3.set x47.toNat 9223372036854775807) from (by exact Qha y3 h2072 9223372036854775807 (by omega))) tt)) (VRun.loop hph2121))
   have h2 := ih _ _ _ h
   obtain ⟨q, hv, hq⟩ := pkR (rd := none) (P := Try.prog) (fn := Try.f29) (k := 0) (s := (Yx a0 a1 y3 x47)) (ans := [.reg (.n :: []), .br true, .reg (Qy6 a0 a1 x47), .reg (nN 4 []), .reg (nN 3 []), .sub ⟨[(7, none), (8, none), (9, some (VV.rf 3 0 ((y3.set x47.toNat 9223372036854775807).length))), (10, none), (11, none), (45, none), (46, none), (47, none), (55, none), (56, none), (57, none)], [none, none, none, some (List.map vi (y3.set x47.toNat 9223372036854775807))], []⟩ (.exit 2) (Yg a0 a1 x47 r2122), .reg (.n :: .n :: [])]) (c := ⟨[(7, none), (8, none), (9, none), (45, none), (46, none), (47, none)], [none, none, none, none], []⟩) (e := .normal) (s1 := (Yx a0 a1 r2122 (w64 (x47 + 1)))) (an (an (ti tt) (an (an (dt h2069) tt) (an (an (ti (an h2070 (an e2071 (ti (ti tt))))) (an (ti (ti (an h2072 (an e2073 tt)))) (an (ti (ti (ti tt))) e2123))) (ti (ti tt))))) (ti tt)) (by kernel_rfl)
   exact Qy pm pn hv hq h2
  ·injection h with h; subst h
   exact Qz (c := ⟨[(9, none)], [none, none, none, none], []⟩) (s1 := (Yh a0 a1 y3)) pm pn (ans := [.reg (.n :: []), .br false]) (by kernel_rfl) (by intro e; cases e) (an (an (ti tt) (an (df h2069) tt)) (ti tt))
def Xm (k : Nat) (a0 : Zy) (a1 : Int) (a2 : (List (List Int))) : Option (List Int) :=
 if 0 < a1 then (if 0 <= w64 (a1 - 1) /\ w64 (a1 - 1) < (a0.stops.length : Int) then (if 0 <= w64 (a1 - 1) /\ w64 (a1 - 1) < (a2.length : Int) then (if 0 <= a1 /\ a1 < (a0.stops.length : Int) then (if 0 <= (((a0.stops.getD a1.toNat default).positions).length : Int) /\ (((a0.stops.getD a1.toNat default).positions).length : Int) <= 1000000000 then ((Ze k a0 a1 a2 k (List.replicate (((a0.stops.getD a1.toNat default).positions).length : Int).toNat (0 : Int)) 0).bind fun r1948 => (some r1948)) else none) else none) else none) else none) else (if 0 <= a1 /\ a1 < (a0.stops.length : Int) then (if 0 <= (((a0.stops.getD a1.toNat default).positions).length : Int) /\ (((a0.stops.getD a1.toNat default).positions).length : Int) <= 1000000000 then ((Zf k a0 a1 k (List.replicate (((a0.stops.getD a1.toNat default).positions).length : Int).toNat (0 : Int)) 0).bind fun r2125 => (some r2125)) else none) else none)
theorem Qb3 (k : Nat) (a0 : Zy) (a1 : Int) (a2 : (List (List Int))) (r : (List Int)) (h : Xm k a0 a1 a2 = some r) : VC Try.prog 29 [VV.ag (Z7 a0), vi a1, VV.tr (List.map v_29 a2) a2.length] (VV.fw 1 (List.map vi r) r.length) := by
 unfold Xm at h
 rcases ifs h with ⟨h1791, h⟩ | ⟨h1791, h⟩
 ·obtain ⟨h1792, h⟩ := ifn h
  have e1793 := (show Zv Try.prog 29 ((w64 (a1 - 1)).toNat * 8 + 7) (flatMap Qw a0.stops) = some (VV.tr (List.map vi ((a0.stops.getD (w64 (a1 - 1)).toNat default).positions)) (((a0.stops.getD (w64 (a1 - 1)).toNat default).positions).length)) from (Qdx ag29 Qw 8 7 Qam (by omega) a0.stops default h1792 (by omega)).trans rfl)
  obtain ⟨h1794, h⟩ := ifn h
  have e1795 := (show Zv Try.prog 29 ((w64 (a1 - 1)).toNat * 1) (List.map v_29 a2) = some (VV.tr (List.map vi (a2.getD (w64 (a1 - 1)).toNat default)) ((a2.getD (w64 (a1 - 1)).toNat default).length)) from Jk ag29 v_29 a2 default h1794 (by omega))
  have e1796 := (ti (ti (ti (ti (an h1792 (ti (an e1793 (ti (ti (ti (an h1794 (an e1795 (ti (ti tt))))))))))))))
  obtain ⟨h1797, h⟩ := ifn h
  have e1798 := (show Zv Try.prog 29 (a1.toNat * 8 + 7) (flatMap Qw a0.stops) = some (VV.tr (List.map vi ((a0.stops.getD a1.toNat default).positions)) (((a0.stops.getD a1.toNat default).positions).length)) from (Qdx ag29 Qw 8 7 Qam (by omega) a0.stops default h1797 (by omega)).trans rfl)
  obtain ⟨h1799, h⟩ := ifn h
  have e1800 := (show 0 <= (((a0.stops.getD a1.toNat default).positions).length : Int) /\ (((a0.stops.getD a1.toNat default).positions).length : Int) = (((a0.stops.getD a1.toNat default).positions).length : Int) /\ (8 * (((a0.stops.getD a1.toNat default).positions).length : Int).toNat) <= 281474976710656 /\ (((a0.stops.getD a1.toNat default).positions).length : Int) < 1099511627776 from ⟨by omega, rfl, by omega, by omega⟩)
  have e1801 := (ti (ti (ti (an h1797 (ti (an e1798 (ti (an e1800 (ti tt)))))))))
  have e1802 := (show Zv Try.prog 29 (a1.toNat * 8 + 7) (flatMap Qw a0.stops) = some (VV.tr (List.map vi ((a0.stops.getD a1.toNat default).positions)) (((a0.stops.getD a1.toNat default).positions).length)) from (Qdx ag29 Qw 8 7 Qam (by omega) a0.stops default h1797 (by omega)).trans rfl)
  have e1803 := (ti (ti (ti (an h1797 (ti (an e1802 (ti (ti tt))))))))
  obtain ⟨r1948, h1947, h⟩ := bs h
  have hph1947 := Qdk k a0 a1 a2 _ _ _ _ h1947
  have e1949 := (an (an (an (show Wv (VV.rf 3 0 ((((a0.stops.getD a1.toNat default).positions).length : Int).toNat)) (VV.rf 3 0 ((List.replicate (((a0.stops.getD a1.toNat default).positions).length : Int).toNat (0 : Int)).length)) from (Wv.of_eq (by simp))) tt) (an (show List.replicate (((a0.stops.getD a1.toNat default).positions).length : Int).toNat (VV.c (.int .i64 0)) = List.map vi (List.replicate (((a0.stops.getD a1.toNat default).positions).length : Int).toNat (0 : Int)) from Qc3 _) tt)) (VRun.loop hph1947))
  injection h with h; subst h
  exact Qk pm pn Try.func29 (r0 := VV.fw 1 (List.drop 0 (List.map unfr (List.map vi r1948))) r1948.length) (ans := [.reg (.n :: .n :: []), .reg (nN 6 []), .reg (.n :: .n :: []), .br true, .reg (Q1o a0 a1 a2), .reg (Quu a0 a1), .reg (Quv a0 a1), .sub ⟨[(7, none), (8, none), (9, some (VV.rf 3 0 ((List.replicate (((a0.stops.getD a1.toNat default).positions).length : Int).toNat (0 : Int)).length))), (45, none), (46, none), (47, none)], [none, none, none, some (List.map vi (List.replicate (((a0.stops.getD a1.toNat default).positions).length : Int).toNat (0 : Int)))], []⟩ (.exit 0) (Yf a0 a1 a2 r1948), .reg (.n :: .n :: [])]) (fr := true) (by kernel_rfl) (an (an (ti (ti tt)) (an (ti (ti (ti (ti (ti (ti tt)))))) (an (an (ti (ti tt)) (an (dt h1791) e1796)) (an e1801 (an (an e1803 e1949) (an (ti (ti tt)) tt)))))) (an (show List.all (List.map vi r1948) new0 = true from (by exact Qhb _)) tt)) (Wv.of_eq (Qy7 r1948))
 ·obtain ⟨h1950, h⟩ := ifn h
  have e1951 := (show Zv Try.prog 29 (a1.toNat * 8 + 7) (flatMap Qw a0.stops) = some (VV.tr (List.map vi ((a0.stops.getD a1.toNat default).positions)) (((a0.stops.getD a1.toNat default).positions).length)) from (Qdx ag29 Qw 8 7 Qam (by omega) a0.stops default h1950 (by omega)).trans rfl)
  obtain ⟨h1952, h⟩ := ifn h
  have e1953 := (show 0 <= (((a0.stops.getD a1.toNat default).positions).length : Int) /\ (((a0.stops.getD a1.toNat default).positions).length : Int) = (((a0.stops.getD a1.toNat default).positions).length : Int) /\ (8 * (((a0.stops.getD a1.toNat default).positions).length : Int).toNat) <= 281474976710656 /\ (((a0.stops.getD a1.toNat default).positions).length : Int) < 1099511627776 from ⟨by omega, rfl, by omega, by omega⟩)
  have e1954 := (ti (ti (ti (an h1950 (ti (an e1951 (ti (an e1953 (ti tt)))))))))
  have e1955 := (show Zv Try.prog 29 (a1.toNat * 8 + 7) (flatMap Qw a0.stops) = some (VV.tr (List.map vi ((a0.stops.getD a1.toNat default).positions)) (((a0.stops.getD a1.toNat default).positions).length)) from (Qdx ag29 Qw 8 7 Qam (by omega) a0.stops default h1950 (by omega)).trans rfl)
  have e1956 := (ti (ti (ti (an h1950 (ti (an e1955 (ti (ti tt))))))))
  obtain ⟨r2125, h2124, h⟩ := bs h
  have hph2124 := Qdm k a0 a1 _ _ _ _ h2124
  have e2126 := (an (an (an (show Wv (VV.rf 3 0 ((((a0.stops.getD a1.toNat default).positions).length : Int).toNat)) (VV.rf 3 0 ((List.replicate (((a0.stops.getD a1.toNat default).positions).length : Int).toNat (0 : Int)).length)) from (Wv.of_eq (by simp))) tt) (an (show List.replicate (((a0.stops.getD a1.toNat default).positions).length : Int).toNat (VV.c (.int .i64 0)) = List.map vi (List.replicate (((a0.stops.getD a1.toNat default).positions).length : Int).toNat (0 : Int)) from Qc3 _) tt)) (VRun.loop hph2124))
  injection h with h; subst h
  exact Qk pm pn Try.func29 (r0 := VV.fw 1 (List.drop 0 (List.map unfr (List.map vi r2125))) r2125.length) (ans := [.reg (.n :: .n :: []), .reg (nN 6 []), .reg (.n :: .n :: []), .br false, .reg (Quu a0 a1), .reg (Quv a0 a1), .sub ⟨[(7, none), (8, none), (9, some (VV.rf 3 0 ((List.replicate (((a0.stops.getD a1.toNat default).positions).length : Int).toNat (0 : Int)).length))), (45, none), (46, none), (47, none)], [none, none, none, some (List.map vi (List.replicate (((a0.stops.getD a1.toNat default).positions).length : Int).toNat (0 : Int)))], []⟩ (.exit 0) (Yh a0 a1 r2125), .reg (.n :: .n :: [])]) (fr := true) (by kernel_rfl) (an (an (ti (ti tt)) (an (ti (ti (ti (ti (ti (ti tt)))))) (an (an (ti (ti tt)) (an (df h1791) tt)) (an e1954 (an (an e1956 e2126) (an (ti (ti tt)) tt)))))) (an (show List.all (List.map vi r2125) new0 = true from (by exact Qhb _)) tt)) (Wv.of_eq (Qy7 r2125))
def Quw (z0 : (List (List Int))) (z1 : Int) (z2 : Int) : List Ans := (nN 3 (.v (VV.tr (List.map vi (z0.getD z1.toNat default)) ((z0.getD z1.toNat default).length)) :: .n :: .n :: .v (vi ((z0.getD z1.toNat default).getD z2.toNat 0)) :: .n :: .n :: []))
def Yy (a0 : (List Int)) (x3 : Int) (x4 : Int) : VS := ⟨mkA [(0, VV.tr (List.map vi a0) a0.length), (3, vi x3), (4, vi x4)], [], .nil⟩
def Yi (a0 : (List Int)) (r : Int) : VS := ⟨mkA [(3, vi r)], [], .nil⟩
def Zj (k : Nat) (a0 : (List Int)) : Nat -> Int -> Int -> Option (Int)
 | 0, _, _ => none
 | fuel + 1, x3, x4 => if x4 < (a0.length : Int) then (if 0 <= x4 /\ x4 < (a0.length : Int) then (Zj k a0 fuel (minI x3 (a0.getD x4.toNat 0)) (w64 (x4 + 1))) else none) else (some x3)
theorem Qdn (k : Nat) (a0 : (List Int)) : ∀ (fuel : Nat) (x3 : Int) (x4 : Int) (r : Int), Zj k a0 fuel x3 x4 = some r -> (J6 none Try.prog (szF Try.f46) (X5 Try.f46 0) (Yy a0 x3 x4) (.exit 0) (Yi a0 r)) := by
 intro fuel
 induction fuel with
 | zero => intro x3 x4 r h; rw [Zj.eq_1] at h; cases h
 | succ fuel ih =>
  intro x3 x4 r h
  rw [Zj.eq_2] at h
  rcases ifs h with ⟨h2275, h⟩ | ⟨h2275, h⟩
  ·obtain ⟨h2276, h⟩ := ifn h
   have e2277 := (show Zv Try.prog 3 (x4.toNat * 1) (List.map vi a0) = some (vi (a0.getD x4.toNat 0)) from Jk ag3 vi a0 0 h2276 (by omega))
   have e2278 := (ti (ti (ti (an h2276 (an e2277 (ti (ti tt)))))))
   have h2 := ih _ _ _ h
   obtain ⟨q, hv, hq⟩ := pkR (rd := none) (P := Try.prog) (fn := Try.f46) (k := 0) (s := (Yy a0 x3 x4)) (ans := [.reg (nN 4 []), .br true, .reg (nN 4 (.v (vi (a0.getD x4.toNat 0)) :: .n :: .n :: [])), .reg (nN 3 [])]) (c := ⟨[(0, none), (3, none), (4, none)], [], []⟩) (e := .normal) (s1 := (Yy a0 (minI x3 (a0.getD x4.toNat 0)) (w64 (x4 + 1)))) (an (an (an (ti (ti (ti (ti tt)))) (an (dt h2275) tt)) (an e2278 (ti (ti (ti tt))))) (ti tt)) (by kernel_rfl)
   exact Qy pm pn hv hq h2
  ·injection h with h; subst h
   exact Qz (c := ⟨[(3, none)], [], []⟩) (s1 := (Yi a0 x3)) pm pn (ans := [.reg (nN 4 []), .br false]) (by kernel_rfl) (by intro e; cases e) (an (an (ti (ti (ti (ti tt)))) (an (df h2275) tt)) (ti tt))
def W9 (k : Nat) (a0 : (List Int)) : Option Int :=
 if (a0.length : Int) < 1 then none else (if (0 : Int) <= 0 /\ 0 < (a0.length : Int) then ((Zj k a0 k (a0.getD ((0 : Int)).toNat 0) 1).bind fun r2280 => (some r2280)) else none)
theorem Qfk (k : Nat) (a0 : (List Int)) (r : Int) (h : W9 k a0 = some r) : VC Try.prog 46 [VV.tr (List.map vi a0) a0.length] (vi r) := by
 unfold W9 at h
 rcases ifs h with ⟨h2264, h⟩ | ⟨h2264, h⟩
 ·cases h
 ·obtain ⟨h2265, h⟩ := ifn h
  have e2266 := (show Zv Try.prog 3 (((0 : Int)).toNat * 1) (List.map vi a0) = some (vi (a0.getD ((0 : Int)).toNat 0)) from Jk ag3 vi a0 0 h2265 (by omega))
  obtain ⟨r2280, h2279, h⟩ := bs h
  have hph2279 := Qdn k a0 _ _ _ _ h2279
  have e2281 := (an (ti tt) (VRun.loop hph2279))
  injection h with h; subst h
  exact Qk pm pn Try.func46 (r0 := vi r2280) (ans := [.reg (.n :: []), .reg (nN 3 []), .br false, .reg (.n :: .n :: .v (vi (a0.getD ((0 : Int)).toNat 0)) :: .n :: []), .reg (.n :: []), .sub ⟨[(0, none), (3, none), (4, none)], [], []⟩ (.exit 0) (Yi a0 r2280), .reg (.n :: .n :: [])]) (fr := true) (by kernel_rfl) (an (an (ti tt) (an (an (ti (ti (ti tt))) (an (df h2264) tt)) (an (ti (an h2265 (an e2266 (ti tt)))) (an (an (ti tt) e2281) (an (ti (ti tt)) tt))))) (ti tt)) (Wv.refl _)
def Qz1 (z0 : (List (List Int))) (z1 : Int) : List Ans := (nN 5 (.v (VV.tr (List.map vi (z0.getD (w64 ((z0.length : Int) - 1)).toNat default)) ((z0.getD (w64 ((z0.length : Int) - 1)).toNat default).length)) :: .call (vi z1) :: .n :: []))
def Qay (k : Nat) (a0 : (List (List Int))) : Option Int :=
 if (a0.length : Int) = 0 then (some 0) else (if 0 <= w64 ((a0.length : Int) - 1) /\ w64 ((a0.length : Int) - 1) < (a0.length : Int) then ((W9 k (a0.getD (w64 ((a0.length : Int) - 1)).toNat default)).bind fun r2289 => (some r2289)) else none)
theorem Qey (k : Nat) (a0 : (List (List Int))) (r : Int) (h : Qay k a0 = some r) : VC Try.prog 27 [VV.tr (List.map v_29 a0) a0.length] (vi r) := by
 unfold Qay at h
 rcases ifs h with ⟨h2286, h⟩ | ⟨h2286, h⟩
 ·injection h with h; subst h
  exact Qk pm pn Try.func27 (r0 := vi 0) (ans := [.reg (.n :: []), .reg (nN 3 []), .br true, .reg (.n :: [])]) (fr := true) (by kernel_rfl) (an (an (ti tt) (an (ti (ti (ti tt))) (an (dt h2286) (an (ti tt) tt)))) (ti tt)) (Wv.refl _)
 ·obtain ⟨h2287, h⟩ := ifn h
  have e2288 := (show Zv Try.prog 29 ((w64 ((a0.length : Int) - 1)).toNat * 1) (List.map v_29 a0) = some (VV.tr (List.map vi (a0.getD (w64 ((a0.length : Int) - 1)).toNat default)) ((a0.getD (w64 ((a0.length : Int) - 1)).toNat default).length)) from Jk ag29 v_29 a0 default h2287 (by omega))
  obtain ⟨r2289, h2290, h⟩ := bs h
  have e2291 := (Qfk k (a0.getD (w64 ((a0.length : Int) - 1)).toNat default) _ h2290)
  have e2292 := (ti (ti (ti (ti (an h2287 (an e2288 (an e2291 (ti tt))))))))
  injection h with h; subst h
  exact Qk pm pn Try.func27 (r0 := vi r2289) (ans := [.reg (.n :: []), .reg (nN 3 []), .br false, .reg (Qz1 a0 r2289)]) (fr := true) (by kernel_rfl) (an (an (ti tt) (an (an (ti (ti (ti tt))) (an (df h2286) tt)) (an e2292 tt))) (ti tt)) (Wv.refl _)
def J7 (a0 : Qc) (a2 : A26) (a3 : (List (List Int))) (r2296 : (Zy × Int × Int)) (x37 : Int) (r2380 : (List Int)) (x45 : Int) : VS := ⟨mkA [(3, VV.tr (List.map v_29 a3) a3.length), (10, VV.pt 2 0), (14, vi x37), (36, vi (r2296.1.stops.length : Int)), (37, vi x37), (43, VV.fr (List.map vi r2380) r2380.length), (44, vi (r2380.length : Int)), (45, vi x45)], [some ⟨true, 1, Zq a0⟩, some ⟨true, 1, Qdw a2⟩, some ⟨true, 1, Qbg r2296.1⟩], .nil⟩
def Wn (a0 : Qc) (a2 : A26) (a3 : (List (List Int))) (r2296 : (Zy × Int × Int)) (x37 : Int) (r2380 : (List Int)) (r : Unit) : VS := ⟨mkA [(8, vi 0), (9, vi 22)], [], .nil⟩
def Wp (a0 : Qc) (a2 : A26) (a3 : (List (List Int))) (r2296 : (Zy × Int × Int)) (x37 : Int) (r2380 : (List Int)) (r : Unit) : VS := ⟨mkA [(3, VV.tr (List.map v_29 a3) a3.length), (10, VV.pt 2 0), (36, vi (r2296.1.stops.length : Int)), (37, vi x37)], [some ⟨true, 1, Zq a0⟩, some ⟨true, 1, Qdw a2⟩, some ⟨true, 1, Qbg r2296.1⟩], .nil⟩
def Zw (k : Nat) (a0 : Qc) (a2 : A26) (a3 : (List (List Int))) (r2296 : (Zy × Int × Int)) (x37 : Int) (r2380 : (List Int)) : Nat -> Int -> Option (Sum Unit Unit)
 | 0, _ => none
 | fuel + 1, x45 => if x45 < (r2380.length : Int) then (if 0 <= x45 /\ x45 < (r2380.length : Int) then (if 0 <= x37 /\ x37 < (a3.length : Int) then (if 0 <= x45 /\ x45 < ((a3.getD x37.toNat default).length : Int) then (if (r2380.getD x45.toNat 0) < ((a3.getD x37.toNat default).getD x45.toNat 0) then (some (.inl ())) else (Zw k a0 a2 a3 r2296 x37 r2380 fuel (w64 (x45 + 1)))) else none) else none) else none) else (some (.inr ()))
theorem Qen (k : Nat) (a0 : Qc) (a2 : A26) (a3 : (List (List Int))) (r2296 : (Zy × Int × Int)) (x37 : Int) (r2380 : (List Int)) : ∀ (fuel : Nat) (x45 : Int) (r : Sum Unit Unit), Zw k a0 a2 a3 r2296 x37 r2380 fuel x45 = some r -> (match r with | .inl r => J6 none Try.prog (szF Try.f10) (X5 Try.f10 1) (J7 a0 a2 a3 r2296 x37 r2380 x45) .ret (Wn a0 a2 a3 r2296 x37 r2380 r) | .inr r => J6 none Try.prog (szF Try.f10) (X5 Try.f10 1) (J7 a0 a2 a3 r2296 x37 r2380 x45) (.exit 2) (Wp a0 a2 a3 r2296 x37 r2380 r)) := by
 intro fuel
 induction fuel with
 | zero => intro x45 r h; rw [Zw.eq_1] at h; cases h
 | succ fuel ih =>
  intro x45 r h
  rw [Zw.eq_2] at h
  rcases ifs h with ⟨h2401, h⟩ | ⟨h2401, h⟩
  ·obtain ⟨h2402, h⟩ := ifn h
   have e2403 := (show Zv Try.prog 3 (x45.toNat * 1) (List.map vi r2380) = some (vi (r2380.getD x45.toNat 0)) from Jk ag3 vi r2380 0 h2402 (by omega))
   obtain ⟨h2404, h⟩ := ifn h
   have e2405 := (show Zv Try.prog 29 (x37.toNat * 1) (List.map v_29 a3) = some (VV.tr (List.map vi (a3.getD x37.toNat default)) ((a3.getD x37.toNat default).length)) from Jk ag29 v_29 a3 default h2404 (by omega))
   obtain ⟨h2406, h⟩ := ifn h
   have e2407 := (show Zv Try.prog 3 (x45.toNat * 1) (List.map vi (a3.getD x37.toNat default)) = some (vi ((a3.getD x37.toNat default).getD x45.toNat 0)) from Jk ag3 vi (a3.getD x37.toNat default) 0 h2406 (by omega))
   have e2408 := (ti (ti (an h2404 (an e2405 (ti (an h2406 (an e2407 (ti (ti tt)))))))))
   rcases ifs h with ⟨h2409, h⟩ | ⟨h2409, h⟩
   ·injection h with h; subst h
    exact Qz (c := ⟨[(8, none), (9, none)], [], []⟩) (s1 := (Wn a0 a2 a3 r2296 x37 r2380 ())) pm pn (ans := [.reg (.n :: []), .br true, .reg (.n :: .n :: .v (vi (r2380.getD x45.toNat 0)) :: .n :: .n :: []), .reg (Quw a3 x37 x45), .br true, .reg (.n :: .n :: [])]) (by kernel_rfl) (by intro e; cases e) (an (an (ti tt) (an (an (dt h2401) tt) (an (ti (an h2402 (an e2403 (ti (ti tt))))) (an e2408 (an (dt h2409) (an (ti (ti tt)) tt)))))) (ti tt))
   ·have h2 := ih _ _ h
    obtain ⟨q, hv, hq⟩ := pkR (rd := none) (P := Try.prog) (fn := Try.f10) (k := 1) (s := (J7 a0 a2 a3 r2296 x37 r2380 x45)) (ans := [.reg (.n :: []), .br true, .reg (.n :: .n :: .v (vi (r2380.getD x45.toNat 0)) :: .n :: .n :: []), .reg (Quw a3 x37 x45), .br false, .reg (.n :: .n :: [])]) (c := ⟨[(3, none), (10, none), (14, none), (36, none), (37, none), (43, none), (44, none), (45, none)], [none, none, none], []⟩) (e := .normal) (s1 := (J7 a0 a2 a3 r2296 x37 r2380 (w64 (x45 + 1)))) (an (an (ti tt) (an (an (dt h2401) tt) (an (an (ti (an h2402 (an e2403 (ti (ti tt))))) (an e2408 (an (df h2409) tt))) (ti (ti tt))))) (ti tt)) (by kernel_rfl)
    cases r with
    | inl r => exact Qy pm pn hv hq h2
    | inr r =>
     exact Qy pm pn hv hq h2
  ·injection h with h; subst h
   exact Qz (c := ⟨[(3, none), (10, none), (36, none), (37, none)], [none, none, none], []⟩) (s1 := (Wp a0 a2 a3 r2296 x37 r2380 ())) pm pn (ans := [.reg (.n :: []), .br false]) (by kernel_rfl) (by intro e; cases e) (an (an (ti tt) (an (df h2401) tt)) (ti tt))
def J8 (a0 : Qc) (a2 : A26) (a3 : (List (List Int))) (r2296 : (Zy × Int × Int)) (x37 : Int) : VS := ⟨mkA [(3, VV.tr (List.map v_29 a3) a3.length), (10, VV.pt 2 0), (36, vi (r2296.1.stops.length : Int)), (37, vi x37)], [some ⟨true, 1, Zq a0⟩, some ⟨true, 1, Qdw a2⟩, some ⟨true, 1, Qbg r2296.1⟩], .nil⟩
def Wq (a0 : Qc) (a2 : A26) (a3 : (List (List Int))) (r2296 : (Zy × Int × Int)) (r : Unit) : VS := ⟨mkA [(8, vi 0), (9, vi 22)], [], .nil⟩
def Ws (a0 : Qc) (a2 : A26) (a3 : (List (List Int))) (r2296 : (Zy × Int × Int)) (r : Unit) : VS := ⟨mkA [(3, VV.tr (List.map v_29 a3) a3.length)], [], .nil⟩
def Zx (k : Nat) (a0 : Qc) (a2 : A26) (a3 : (List (List Int))) (r2296 : (Zy × Int × Int)) : Nat -> Int -> Option (Sum Unit Unit)
 | 0, _ => none
 | fuel + 1, x37 => if x37 < (r2296.1.stops.length : Int) then ((Xm k r2296.1 x37 a3).bind fun r2380 => ((Zw k a0 a2 a3 r2296 x37 r2380 k 0).bind fun r2411 => (match r2411 with | .inl r2412 => (some (.inl ())) | .inr r2413 => (Zx k a0 a2 a3 r2296 fuel (w64 (x37 + 1)))))) else (some (.inr ()))
theorem Qeo (k : Nat) (a0 : Qc) (a2 : A26) (a3 : (List (List Int))) (r2296 : (Zy × Int × Int)) : ∀ (fuel : Nat) (x37 : Int) (r : Sum Unit Unit), Zx k a0 a2 a3 r2296 fuel x37 = some r -> (match r with | .inl r => J6 none Try.prog (szF Try.f10) (X5 Try.f10 0) (J8 a0 a2 a3 r2296 x37) .ret (Wq a0 a2 a3 r2296 r) | .inr r => J6 none Try.prog (szF Try.f10) (X5 Try.f10 0) (J8 a0 a2 a3 r2296 x37) (.exit 0) (Ws a0 a2 a3 r2296 r)) := by
 intro fuel
 induction fuel with
 | zero => intro x37 r h; rw [Zx.eq_1] at h; cases h
 | succ fuel ih =>
  intro x37 r h
  rw [Zx.eq_2] at h
  rcases ifs h with ⟨h2379, h⟩ | ⟨h2379, h⟩
  ·obtain ⟨r2380, h2381, h⟩ := bs h
   have e2382 := (show VC Try.prog 29 [VV.ag (Z7 r2296.1), vi x37, VV.tr (List.map v_29 a3) a3.length] (VV.fr (List.map vi r2380) r2380.length) from (VC.weak (Qb3 k r2296.1 x37 a3 _ h2381) (Wv.fw rfl rfl)))
   obtain ⟨r2411, h2410, h⟩ := bs h
   have hph2410 := Qen k a0 a2 a3 r2296 x37 r2380 _ _ _ h2410
   cases r2411 with
   | inl r2412 =>
    dsimp only at h
    have e2414 := (an (ti tt) (VRun.loop hph2410))
    injection h with h; subst h
    exact Qz (c := ⟨[(8, none), (9, none)], [], []⟩) (s1 := (Wq a0 a2 a3 r2296 ())) pm pn (ans := [.reg (.n :: []), .br true, .reg (.n :: .n :: []), .reg (nN 3 (.call (VV.fr (List.map vi r2380) r2380.length) :: .n :: .n :: [])), .sub ⟨[(3, none), (10, none), (14, none), (36, none), (37, none), (43, none), (44, none), (45, none)], [none, none, none], []⟩ .ret (Wn a0 a2 a3 r2296 x37 r2380 r2412)]) (by kernel_rfl) (by intro e; cases e) (an (an (ti tt) (an (an (dt h2379) tt) (an (ti (ti tt)) (an (ti (ti (ti (an e2382 (ti (ti tt)))))) e2414)))) (ti tt))
   | inr r2413 =>
    dsimp only at h
    have e2415 := (an (ti tt) (VRun.loop hph2410))
    have h2 := ih _ _ h
    obtain ⟨q, hv, hq⟩ := pkR (rd := none) (P := Try.prog) (fn := Try.f10) (k := 0) (s := (J8 a0 a2 a3 r2296 x37)) (ans := [.reg (.n :: []), .br true, .reg (.n :: .n :: []), .reg (nN 3 (.call (VV.fr (List.map vi r2380) r2380.length) :: .n :: .n :: [])), .sub ⟨[(3, none), (10, none), (14, none), (36, none), (37, none), (43, none), (44, none), (45, none)], [none, none, none], []⟩ (.exit 2) (Wp a0 a2 a3 r2296 x37 r2380 r2413), .reg (.n :: .n :: [])]) (c := ⟨[(3, none), (10, none), (36, none), (37, none)], [none, none, none], []⟩) (e := .normal) (s1 := (J8 a0 a2 a3 r2296 (w64 (x37 + 1)))) (an (an (ti tt) (an (an (dt h2379) tt) (an (an (ti (ti tt)) (an (ti (ti (ti (an e2382 (ti (ti tt)))))) e2415)) (ti (ti tt))))) (ti tt)) (by kernel_rfl)
    cases r with
    | inl r => exact Qy pm pn hv hq h2
    | inr r =>
     exact Qy pm pn hv hq h2
  ·injection h with h; subst h
   exact Qz (c := ⟨[(3, none)], [], []⟩) (s1 := (Ws a0 a2 a3 r2296 ())) pm pn (ans := [.reg (.n :: []), .br false]) (by kernel_rfl) (by intro e; cases e) (an (an (ti tt) (an (df h2379) tt)) (ti tt))
def Qac (k : Nat) (a0 : Qc) (a1 : (List Qa)) (a2 : A26) (a3 : (List (List Int))) : Option (Int × Int) :=
 (Qan k a0 a1 a2).bind fun r2296 => (if r2296.2.2 = 0 then ((Xn k r2296.1 a3).bind fun r2301 => (if r2301 = 0 then ((Zx k a0 a2 a3 r2296 k 0).bind fun r2417 => (match r2417 with | .inl r2418 => (some (0, 22)) | .inr r2419 => ((Qay k a3).bind fun r2422 => (some (r2422, 0))))) else (some (0, r2301)))) else (some (0, r2296.2.2)))
theorem Qgz (k : Nat) (a0 : Qc) (a1 : (List Qa)) (a2 : A26) (a3 : (List (List Int))) (r : (Int × Int)) (h : Qac k a0 a1 a2 a3 = some r) : VC Try.prog 10 [VV.ag (Zq a0), VV.tr (flatMap Qh a1) a1.length, VV.ag (Qdw a2), VV.tr (List.map v_29 a3) a3.length] (VV.tu [vi r.1, vi r.2]) := by
 unfold Qac at h
 obtain ⟨r2296, h2297, h⟩ := bs h
 have e2298 := (show VC Try.prog 22 [VV.ag (Zq a0), VV.tr (flatMap Qh a1) a1.length, VV.ag (Qdw a2)] (VV.tu [VV.ag (Qbg r2296.1), vi r2296.2.1, vi r2296.2.2]) from (VC.weak (Qda k a0 a1 a2 _ h2297) (Wv.tuL (.cons (Wv.agL (.cons (Wv.refl _) (.cons (Wv.fw rfl rfl) .nil))) (.cons (Wv.refl _) (.cons (Wv.refl _) .nil))))))
 have e2299 := (ti (ti (ti (an e2298 (ti (ti (ti (ti (ti (ti (ti (ti tt))))))))))))
 rcases ifs h with ⟨h2300, h⟩ | ⟨h2300, h⟩
 ·obtain ⟨r2301, h2302, h⟩ := bs h
  have e2303 := (Qci k r2296.1 a3 _ h2302)
  rcases ifs h with ⟨h2304, h⟩ | ⟨h2304, h⟩
  ·obtain ⟨r2417, h2416, h⟩ := bs h
   have hph2416 := Qeo k a0 a2 a3 r2296 _ _ _ h2416
   cases r2417 with
   | inl r2418 =>
    dsimp only at h
    have e2420 := (an (ti tt) (VRun.loop hph2416))
    injection h with h; subst h
    exact Qk pm pn Try.func10 (r0 := VV.tu [vi 0, vi 22]) (ans := [.reg (nN 4 []), .reg (nN 3 (.call (VV.tu [VV.ag (Qbg r2296.1), vi r2296.2.1, vi r2296.2.2]) :: nN 8 [])), .reg (.n :: .n :: []), .br false, .reg (.n :: .n :: .call (vi r2301) :: .n :: []), .reg (.n :: .n :: []), .br false, .reg (nN 4 []), .sub ⟨[(3, none), (10, none), (36, none), (37, none)], [none, none, none], []⟩ .ret (Wq a0 a2 a3 r2296 r2418)]) (fr := true) (by kernel_rfl) (an (an (ti (ti (ti (ti tt)))) (an e2299 (an (an (ti (ti tt)) (an (Q5 (dt h2300)) tt)) (an (an (ti (ti (an e2303 (ti tt)))) (an (ti (ti tt)) (an (Q5 (dt h2304)) tt))) (an (ti (ti (ti (ti tt)))) e2420))))) (ti (ti tt))) (Wv.refl _)
   | inr r2419 =>
    dsimp only at h
    have e2421 := (an (ti tt) (VRun.loop hph2416))
    obtain ⟨r2422, h2423, h⟩ := bs h
    have e2424 := (ti (an (Qey k a3 _ h2423) (ti (ti tt))))
    injection h with h; subst h
    exact Qk pm pn Try.func10 (r0 := VV.tu [vi r2422, vi 0]) (ans := [.reg (nN 4 []), .reg (nN 3 (.call (VV.tu [VV.ag (Qbg r2296.1), vi r2296.2.1, vi r2296.2.2]) :: nN 8 [])), .reg (.n :: .n :: []), .br false, .reg (.n :: .n :: .call (vi r2301) :: .n :: []), .reg (.n :: .n :: []), .br false, .reg (nN 4 []), .sub ⟨[(3, none), (10, none), (36, none), (37, none)], [none, none, none], []⟩ (.exit 0) (Ws a0 a2 a3 r2296 r2419), .reg (.n :: .call (vi r2422) :: .n :: .n :: [])]) (fr := true) (by kernel_rfl) (an (an (ti (ti (ti (ti tt)))) (an e2299 (an (an (ti (ti tt)) (an (Q5 (dt h2300)) tt)) (an (an (ti (ti (an e2303 (ti tt)))) (an (ti (ti tt)) (an (Q5 (dt h2304)) tt))) (an (an (ti (ti (ti (ti tt)))) e2421) (an e2424 tt)))))) (ti (ti tt))) (Wv.refl _)
  ·injection h with h; subst h
   exact Qk pm pn Try.func10 (r0 := VV.tu [vi 0, vi r2301]) (ans := [.reg (nN 4 []), .reg (nN 3 (.call (VV.tu [VV.ag (Qbg r2296.1), vi r2296.2.1, vi r2296.2.2]) :: nN 8 [])), .reg (.n :: .n :: []), .br false, .reg (.n :: .n :: .call (vi r2301) :: .n :: []), .reg (.n :: .n :: []), .br true, .reg (nN 3 [])]) (fr := true) (by kernel_rfl) (an (an (ti (ti (ti (ti tt)))) (an e2299 (an (an (ti (ti tt)) (an (Q5 (dt h2300)) tt)) (an (ti (ti (an e2303 (ti tt)))) (an (ti (ti tt)) (an (Z5 (df h2304)) (an (ti (ti (ti tt))) tt))))))) (ti (ti tt))) (Wv.refl _)
 ·injection h with h; subst h
  exact Qk pm pn Try.func10 (r0 := VV.tu [vi 0, vi r2296.2.2]) (ans := [.reg (nN 4 []), .reg (nN 3 (.call (VV.tu [VV.ag (Qbg r2296.1), vi r2296.2.1, vi r2296.2.2]) :: nN 8 [])), .reg (.n :: .n :: []), .br true, .reg (nN 3 [])]) (fr := true) (by kernel_rfl) (an (an (ti (ti (ti (ti tt)))) (an e2299 (an (ti (ti tt)) (an (Z5 (df h2300)) (an (ti (ti (ti tt))) tt))))) (ti (ti tt))) (Wv.refl _)
def Jl (k : Nat) (a0 : (List Int)) : Option (List Int) :=
 if ([] : List Int).length + a0.length <= 1000000000 then (some (([] : List Int) ++ a0)) else none
theorem Qep (k : Nat) (a0 : (List Int)) (r : (List Int)) (h : Jl k a0 = some r) : VC Try.prog 8 [VV.tr (List.map vi a0) a0.length] (VV.fw 1 (List.map vi r) r.length) := by
 unfold Jl at h
 obtain ⟨h2427, h⟩ := ifn h
 have e2428 := (show List.length [] = 0 * 1 /\ List.length (List.map vi a0) = a0.length * 1 /\ (0 + a0.length) * 8 <= 140737488355328 /\ 0 + a0.length < 1099511627776 /\ List.all (List.map vi a0) VV.still = true from ⟨(by rw [show [] = List.map vi ([] : List Int) from rfl]; simp), (by simp), (by first | omega | (simp at h2427 ⊢; omega)), (by first | omega | (simp at h2427 ⊢; omega)), (by exact Qmv _)⟩)
 injection h with h; subst h
 exact Qk pm pn Try.func8 (r0 := VV.fw 1 (List.drop 0 (List.map unfr ([] ++ (List.map vi a0)))) (0 + a0.length)) (ans := [.reg (.n :: []), .reg (nN 4 [])]) (fr := true) (by kernel_rfl) (an (an (ti tt) (an (ti (ti (an e2428 (ti tt)))) tt)) (an (show List.all ([] ++ (List.map vi a0)) new0 = true from (by rw [show [] ++ (List.map vi a0) = List.map vi (([] : List Int) ++ a0) from (by rw [show [] = List.map vi ([] : List Int) from rfl]; exact List.map_append.symm)]; exact Qhb _)) tt)) (Wv.of_eq (by first | (simp only [show [] ++ (List.map vi a0) = List.map vi (([] : List Int) ++ a0) from (by rw [show [] = List.map vi ([] : List Int) from rfl]; exact List.map_append.symm), Qea, Qm, Qmw, Qcj, map_cons, map_nil, un_i, un_k, un_b, un_s, Yj, Qp3, length_map, length_replicate, length_append, List.length_set, length_cons, length_nil, Nat.zero_add, Qct, Qbq, Qbr, Jq, Qck, Qa4, Qa5, Qee, Qef, Qa6, Qeg, Qab, Qbj]; done) | (simp only [show [] ++ (List.map vi a0) = List.map vi (([] : List Int) ++ a0) from (by rw [show [] = List.map vi ([] : List Int) from rfl]; exact List.map_append.symm), Qea, Qm, Qmw, Qcj, map_cons, map_nil, un_i, un_k, un_b, un_s, Yj, Qp3, length_map, length_replicate, length_append, List.length_set, length_cons, length_nil, Nat.zero_add, Qct, Qbq, Qbr, Jq, Qck, Qa4, Qa5, Qee, Qef, Qa6, Qeg, Qab, Qbj]; rfl)))
end Go.Proofs.Ytbgajdbpdhipiaa.Vg

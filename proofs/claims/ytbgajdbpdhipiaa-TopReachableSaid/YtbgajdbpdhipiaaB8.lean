import Derived.Test.YtbgajdbpdhipiaaB6
namespace Go.Proofs.Ytbgajdbpdhipiaa.Vg
set_option maxRecDepth 100000
set_option maxHeartbeats 4000000
set_option linter.unusedVariables false
set_option linter.unusedSimpArgs false
open Go Go.Proofs.Ytbgajdbpdhipiaa.Ev Go.Proofs.Ytbgajdbpdhipiaa.Vv
open List (flatMap length_cons length_nil length_map length_append map_cons map_nil length_replicate)
def v_29 (x : List Int) : VV := VV.tr (List.map vi x) x.length
def f_29 (x : List Int) : VV := VV.fr (List.map vi x) x.length
theorem Qaq (xs : List (List Int)) : (xs.map v_29).map unfr = xs.map v_29 := Qr2 (fun _ => rfl) xs
theorem Qt1 (xs : List (List Int)) : (xs.map f_29).all VV.still = true := all_map (fun _ => rfl) xs
theorem Qbz (xs : List (List Int)) : (xs.map f_29).map unfr = xs.map v_29 := Qr2 (fun _ => rfl) xs
theorem Qvd (xs : List (List Int)) : (xs.map f_29).all new0 = true := all_map (fun _ => rfl) xs
theorem ag74 : Qct Try.prog 74 = some true := by kernel_rfl
theorem sz74 : szOf Try.prog 74 = some 8 := by kernel_rfl
def Q2g (z0 : (List (List Int))) (z1 : Int) (z2 : Int) : List Ans := (.n :: .n :: .v (vi ((z0.getD (w64 (z1 - 1)).toNat default).getD z2.toNat 0)) :: .n :: .n :: [])
def Q2h (z0 : List Int) (z1 : Int) (z2 : Xp) (z3 : Int) (z4 : Int) (z5 : Int) : List Ans := (nN 5 (.v (vi (z0.getD z1.toNat 0)) :: nN 4 (.v (vi (((z2.stops.getD (w64 (z3 - 1)).toNat default).positions).getD z4.toNat 0)) :: .n :: .call (vi z5) :: nN 4 [])))
def Qzv (z0 : Xp) (z1 : Int) (z2 : Int) : List Ans := (.n :: .n :: .v (vi (((z0.stops.getD z1.toNat default).positions).getD z2.toNat 0)) :: .n :: .n :: [])
def Q2i (z0 : List Int) (z1 : Int) (z2 : Xp) (z3 : Int) (z4 : Int) : List Ans := (nN 5 (.v (vi (z0.getD z1.toNat 0)) :: nN 4 (.v (vi (([z2.begin] : List Int).getD z3.toNat 0)) :: .n :: .call (vi z4) :: nN 4 [])))
def Wj (a0 : Xp) (a1 : Int) (a2 : (List (List Int))) (x47 : Int) (y3z : List Int) (x57 : Int) : VS := ⟨mkA [(7, VV.tr (List.map vi ((a0.stops.getD (w64 (a1 - 1)).toNat default).positions)) (((a0.stops.getD (w64 (a1 - 1)).toNat default).positions).length)), (8, VV.tr (List.map vi (a2.getD (w64 (a1 - 1)).toNat default)) ((a2.getD (w64 (a1 - 1)).toNat default).length)), (9, VV.rf 3 0 y3z.length), (10, vi x47), (11, vi (((a0.stops.getD a1.toNat default).positions).getD x47.toNat 0)), (45, VV.tr (List.map vi ((a0.stops.getD a1.toNat default).positions)) (((a0.stops.getD a1.toNat default).positions).length)), (46, vi (((a0.stops.getD a1.toNat default).positions).length : Int)), (47, vi x47), (55, VV.tr (List.map vi (a2.getD (w64 (a1 - 1)).toNat default)) ((a2.getD (w64 (a1 - 1)).toNat default).length)), (56, vi ((a2.getD (w64 (a1 - 1)).toNat default).length : Int)), (57, vi x57)], [some ⟨true, 1, Xi a0⟩, some ⟨false, 1, [vi a0.begin]⟩, some ⟨false, 1, [vi 0]⟩, some ⟨false, 1, List.map vi y3z⟩], .nil⟩
def Yt (a0 : Xp) (a1 : Int) (a2 : (List (List Int))) (x47 : Int) (r : (List Int)) : VS := ⟨mkA [(7, VV.tr (List.map vi ((a0.stops.getD (w64 (a1 - 1)).toNat default).positions)) (((a0.stops.getD (w64 (a1 - 1)).toNat default).positions).length)), (8, VV.tr (List.map vi (a2.getD (w64 (a1 - 1)).toNat default)) ((a2.getD (w64 (a1 - 1)).toNat default).length)), (9, VV.rf 3 0 r.length), (45, VV.tr (List.map vi ((a0.stops.getD a1.toNat default).positions)) (((a0.stops.getD a1.toNat default).positions).length)), (46, vi (((a0.stops.getD a1.toNat default).positions).length : Int)), (47, vi x47)], [some ⟨true, 1, Xi a0⟩, some ⟨false, 1, [vi a0.begin]⟩, some ⟨false, 1, [vi 0]⟩, some ⟨false, 1, List.map vi r⟩], .nil⟩
def Zp (k : Nat) (a0 : Xp) (a1 : Int) (a2 : (List (List Int))) (x47 : Int) : Nat -> (List Int) -> Int -> Option ((List Int))
 | 0, _, _ => none
 | fuel + 1, y3z, x57 => if x57 < ((a2.getD (w64 (a1 - 1)).toNat default).length : Int) then (if 0 <= x57 /\ x57 < ((a2.getD (w64 (a1 - 1)).toNat default).length : Int) then (if 0 <= x47 /\ x47 < (y3z.length : Int) then (if 0 <= x57 /\ x57 < (((a0.stops.getD (w64 (a1 - 1)).toNat default).positions).length : Int) then ((Ja k (((a0.stops.getD (w64 (a1 - 1)).toNat default).positions).getD x57.toNat 0) (((a0.stops.getD a1.toNat default).positions).getD x47.toNat 0)).bind fun r1939 => (Zp k a0 a1 a2 x47 fuel (y3z.set x47.toNat (minI (y3z.getD x47.toNat 0) (w64 (((a2.getD (w64 (a1 - 1)).toNat default).getD x57.toNat 0) + r1939)))) (w64 (x57 + 1)))) else none) else none) else none) else (some y3z)
theorem Qdz (k : Nat) (a0 : Xp) (a1 : Int) (a2 : (List (List Int))) (x47 : Int) : ∀ (fuel : Nat) (y3z : List Int) (x57 : Int) (r : (List Int)), Zp k a0 a1 a2 x47 fuel y3z x57 = some r -> (J9 none Try.prog (szF Try.f29) (X9 Try.f29 1) (Wj a0 a1 a2 x47 y3z x57) (.exit 2) (Yt a0 a1 a2 x47 r)) := by
 intro fuel
 induction fuel with
 | zero => intro y3z x57 r h; rw [Zp.eq_1] at h; cases h
 | succ fuel ih =>
  intro y3z x57 r h
  rw [Zp.eq_2] at h
  rcases ifs h with ⟨h1932, h⟩ | ⟨h1932, h⟩
  ·obtain ⟨h1933, h⟩ := ifn h
   have e1934 := (show Ze Try.prog 3 (x57.toNat * 1) (List.map vi (a2.getD (w64 (a1 - 1)).toNat default)) = some (vi ((a2.getD (w64 (a1 - 1)).toNat default).getD x57.toNat 0)) from Xj ag3 vi (a2.getD (w64 (a1 - 1)).toNat default) 0 h1933 (by omega))
   obtain ⟨h1935, h⟩ := ifn h
   have e1936 := (show Ze Try.prog 3 (0 + x47.toNat * 1) (List.map vi y3z) = some (vi (y3z.getD x47.toNat 0)) from Xj ag3 vi y3z 0 h1935 (by omega))
   obtain ⟨h1937, h⟩ := ifn h
   have e1938 := (show Ze Try.prog 3 (x57.toNat * 1) (List.map vi ((a0.stops.getD (w64 (a1 - 1)).toNat default).positions)) = some (vi (((a0.stops.getD (w64 (a1 - 1)).toNat default).positions).getD x57.toNat 0)) from Xj ag3 vi ((a0.stops.getD (w64 (a1 - 1)).toNat default).positions) 0 h1937 (by omega))
   obtain ⟨r1939, h1940, h⟩ := bs h
   have e1941 := (Qbh k (((a0.stops.getD (w64 (a1 - 1)).toNat default).positions).getD x57.toNat 0) (((a0.stops.getD a1.toNat default).positions).getD x47.toNat 0) _ h1940)
   have e1942 := (show (0 + x47.toNat * 1) + 1 <= List.length (List.map vi y3z) from (by simp only [length_map]; omega))
   have e1943 := (t4 (an h1935 (an e1936 (t3 (an h1937 (an e1938 (ti (an e1941 (t2 (an h1935 (an e1942 tt)))))))))))
   have h2 := ih _ _ _ h
   obtain ⟨q, hv, hq⟩ := pkR (rd := none) (P := Try.prog) (fn := Try.f29) (k := 1) (s := (Wj a0 a1 a2 x47 y3z x57)) (ans := [.reg (.n :: []), .br true, .reg (Q2g a2 a1 x57), .reg (Q2h y3z x47 a0 a1 x57 r1939), .reg (.n :: .n :: [])]) (c := ⟨[(7, none), (8, none), (9, some (VV.rf 3 0 ((y3z.set x47.toNat (minI (y3z.getD x47.toNat 0) (w64 (((a2.getD (w64 (a1 - 1)).toNat default).getD x57.toNat 0) + r1939)))).length))), (10, none), (11, none), (45, none), (46, none), (47, none), (55, none), (56, none), (57, none)], [none, none, none, some (List.map vi (y3z.set x47.toNat (minI (y3z.getD x47.toNat 0) (w64 (((a2.getD (w64 (a1 - 1)).toNat default).getD x57.toNat 0) + r1939)))))], []⟩) (e := .normal) (s1 := (Wj a0 a1 a2 x47 (y3z.set x47.toNat (minI (y3z.getD x47.toNat 0) (w64 (((a2.getD (w64 (a1 - 1)).toNat default).getD x57.toNat 0) + r1939)))) (w64 (x57 + 1)))) (an (an (ti tt) (an (te h1932) (an (an (ti (an h1933 (an e1934 (t2 tt)))) e1943) (t2 tt)))) (an (an (show Wv (VV.rf 3 0 y3z.length) (VV.rf 3 0 ((y3z.set x47.toNat (minI (y3z.getD x47.toNat 0) (w64 (((a2.getD (w64 (a1 - 1)).toNat default).getD x57.toNat 0) + r1939)))).length)) from (Wv.of_eq (by simp))) tt) (an (show putT (0 + x47.toNat * 1) (List.map vi y3z) [vi (minI (y3z.getD x47.toNat 0) (w64 (((a2.getD (w64 (a1 - 1)).toNat default).getD x57.toNat 0) + r1939)))] = List.map vi (y3z.set x47.toNat (minI (y3z.getD x47.toNat 0) (w64 (((a2.getD (w64 (a1 - 1)).toNat default).getD x57.toNat 0) + r1939)))) from (by exact Qfx y3z h1935 (minI (y3z.getD x47.toNat 0) (w64 (((a2.getD (w64 (a1 - 1)).toNat default).getD x57.toNat 0) + r1939))) (by omega))) tt))) (by kernel_rfl)
   exact Qv pm pn hv hq h2
  ·injection h with h; subst h
   exact Qj (c := ⟨[(7, none), (8, none), (9, none), (45, none), (46, none), (47, none)], [none, none, none, none], []⟩) (s1 := (Yt a0 a1 a2 x47 y3z)) pm pn (ans := [.reg (.n :: []), .br false]) (by kernel_rfl) (by intro e; cases e) (an (an (ti tt) (tf h1932)) (ti tt))
def Wl (a0 : Xp) (a1 : Int) (a2 : (List (List Int))) (y3 : List Int) (x47 : Int) : VS := ⟨mkA [(7, VV.tr (List.map vi ((a0.stops.getD (w64 (a1 - 1)).toNat default).positions)) (((a0.stops.getD (w64 (a1 - 1)).toNat default).positions).length)), (8, VV.tr (List.map vi (a2.getD (w64 (a1 - 1)).toNat default)) ((a2.getD (w64 (a1 - 1)).toNat default).length)), (9, VV.rf 3 0 y3.length), (45, VV.tr (List.map vi ((a0.stops.getD a1.toNat default).positions)) (((a0.stops.getD a1.toNat default).positions).length)), (46, vi (((a0.stops.getD a1.toNat default).positions).length : Int)), (47, vi x47)], [some ⟨true, 1, Xi a0⟩, some ⟨false, 1, [vi a0.begin]⟩, some ⟨false, 1, [vi 0]⟩, some ⟨false, 1, List.map vi y3⟩], .nil⟩
def Yu (a0 : Xp) (a1 : Int) (a2 : (List (List Int))) (r : (List Int)) : VS := ⟨mkA [(9, VV.rf 3 0 r.length)], [some ⟨true, 1, Xi a0⟩, some ⟨false, 1, [vi a0.begin]⟩, some ⟨false, 1, [vi 0]⟩, some ⟨false, 1, List.map vi r⟩], .nil⟩
def Zq (k : Nat) (a0 : Xp) (a1 : Int) (a2 : (List (List Int))) : Nat -> (List Int) -> Int -> Option ((List Int))
 | 0, _, _ => none
 | fuel + 1, y3, x47 => if x47 < (((a0.stops.getD a1.toNat default).positions).length : Int) then (if 0 <= x47 /\ x47 < (((a0.stops.getD a1.toNat default).positions).length : Int) then (if 0 <= x47 /\ x47 < (y3.length : Int) then ((Zp k a0 a1 a2 x47 k (y3.set x47.toNat 9223372036854775807) 0).bind fun r1945 => (Zq k a0 a1 a2 fuel r1945 (w64 (x47 + 1)))) else none) else none) else (some y3)
theorem Qd0 (k : Nat) (a0 : Xp) (a1 : Int) (a2 : (List (List Int))) : ∀ (fuel : Nat) (y3 : List Int) (x47 : Int) (r : (List Int)), Zq k a0 a1 a2 fuel y3 x47 = some r -> (J9 none Try.prog (szF Try.f29) (X9 Try.f29 0) (Wl a0 a1 a2 y3 x47) (.exit 0) (Yu a0 a1 a2 r)) := by
 intro fuel
 induction fuel with
 | zero => intro y3 x47 r h; rw [Zq.eq_1] at h; cases h
 | succ fuel ih =>
  intro y3 x47 r h
  rw [Zq.eq_2] at h
  rcases ifs h with ⟨h1900, h⟩ | ⟨h1900, h⟩
  ·obtain ⟨h1901, h⟩ := ifn h
   have e1902 := (show Ze Try.prog 3 (x47.toNat * 1) (List.map vi ((a0.stops.getD a1.toNat default).positions)) = some (vi (((a0.stops.getD a1.toNat default).positions).getD x47.toNat 0)) from Xj ag3 vi ((a0.stops.getD a1.toNat default).positions) 0 h1901 (by omega))
   obtain ⟨h1903, h⟩ := ifn h
   have e1904 := (show (0 + x47.toNat * 1) + 1 <= List.length (List.map vi y3) from (by simp only [length_map]; omega))
   obtain ⟨r1945, h1944, h⟩ := bs h
   have hph1944 := Qdz k a0 a1 a2 x47 _ _ _ _ h1944
   have e1946 := (an (an (an (show Wv (VV.rf 3 0 y3.length) (VV.rf 3 0 ((y3.set x47.toNat 9223372036854775807).length)) from (Wv.of_eq (by simp))) tt) (an (show putT (0 + x47.toNat * 1) (List.map vi y3) [vi 9223372036854775807] = List.map vi (y3.set x47.toNat 9223372036854775807) from (by exact Qfx y3 h1903 9223372036854775807 (by omega))) tt)) (VRun.loop hph1944))
   have h2 := ih _ _ _ h
   obtain ⟨q, hv, hq⟩ := pkR (rd := none) (P := Try.prog) (fn := Try.f29) (k := 0) (s := (Wl a0 a1 a2 y3 x47)) (ans := [.reg (.n :: []), .br true, .reg (Qzv a0 a1 x47), .reg (nN 4 []), .reg (nN 3 []), .sub ⟨[(7, none), (8, none), (9, some (VV.rf 3 0 ((y3.set x47.toNat 9223372036854775807).length))), (10, none), (11, none), (45, none), (46, none), (47, none), (55, none), (56, none), (57, none)], [none, none, none, some (List.map vi (y3.set x47.toNat 9223372036854775807))], []⟩ (.exit 2) (Yt a0 a1 a2 x47 r1945), .reg (.n :: .n :: [])]) (c := ⟨[(7, none), (8, none), (9, none), (45, none), (46, none), (47, none)], [none, none, none, none], []⟩) (e := .normal) (s1 := (Wl a0 a1 a2 r1945 (w64 (x47 + 1)))) (an (an (ti tt) (an (te h1900) (an (an (ti (an h1901 (an e1902 (t2 tt)))) (an (t2 (an h1903 (an e1904 tt))) (an (t3 tt) e1946))) (t2 tt)))) (ti tt)) (by kernel_rfl)
   exact Qv pm pn hv hq h2
  ·injection h with h; subst h
   exact Qj (c := ⟨[(9, none)], [none, none, none, none], []⟩) (s1 := (Yu a0 a1 a2 y3)) pm pn (ans := [.reg (.n :: []), .br false]) (by kernel_rfl) (by intro e; cases e) (an (an (ti tt) (tf h1900)) (ti tt))
def Q2j (z0 : Xp) (z1 : Int) (z2 : (List (List Int))) : List Ans := (nN 6 (.v (VV.tr (List.map vi ((z0.stops.getD (w64 (z1 - 1)).toNat default).positions)) (((z0.stops.getD (w64 (z1 - 1)).toNat default).positions).length)) :: nN 4 (.v (VV.tr (List.map vi (z2.getD (w64 (z1 - 1)).toNat default)) ((z2.getD (w64 (z1 - 1)).toNat default).length)) :: .n :: .n :: [])))
def Qve (z0 : Xp) (z1 : Int) : List Ans := (nN 5 (.v (VV.tr (List.map vi ((z0.stops.getD z1.toNat default).positions)) (((z0.stops.getD z1.toNat default).positions).length)) :: nN 3 []))
def Qvf (z0 : Xp) (z1 : Int) : List Ans := (nN 5 (.v (VV.tr (List.map vi ((z0.stops.getD z1.toNat default).positions)) (((z0.stops.getD z1.toNat default).positions).length)) :: .n :: .n :: []))
theorem Qzw (z0 : (List Int)) : VV.fw 1 (List.drop 0 (List.map unfr (List.map vi z0))) z0.length = VV.fw 1 (List.map vi z0) z0.length := by first | rfl | (simp only [Qdl, Qn, map_cons, map_nil, un_i, length_map]; done) | (simp only [Qdl, Qn, map_cons, map_nil, un_i, length_map]; rfl) | (simp only [Qdl, Qn, map_cons, map_nil, un_i, length_map, length_cons, length_nil, length_append]; done)
def Wn (a0 : Xp) (a1 : Int) (x47 : Int) (y3z : List Int) (x57 : Int) : VS := ⟨mkA [(7, VV.rf 1 0 1), (8, VV.rf 2 0 1), (9, VV.rf 3 0 y3z.length), (10, vi x47), (11, vi (((a0.stops.getD a1.toNat default).positions).getD x47.toNat 0)), (45, VV.tr (List.map vi ((a0.stops.getD a1.toNat default).positions)) (((a0.stops.getD a1.toNat default).positions).length)), (46, vi (((a0.stops.getD a1.toNat default).positions).length : Int)), (47, vi x47), (55, VV.rf 2 0 1), (56, vi 1), (57, vi x57)], [some ⟨true, 1, Xi a0⟩, some ⟨false, 1, [vi a0.begin]⟩, some ⟨false, 1, [vi 0]⟩, some ⟨false, 1, List.map vi y3z⟩], .nil⟩
def Yv (a0 : Xp) (a1 : Int) (x47 : Int) (r : (List Int)) : VS := ⟨mkA [(7, VV.rf 1 0 1), (8, VV.rf 2 0 1), (9, VV.rf 3 0 r.length), (45, VV.tr (List.map vi ((a0.stops.getD a1.toNat default).positions)) (((a0.stops.getD a1.toNat default).positions).length)), (46, vi (((a0.stops.getD a1.toNat default).positions).length : Int)), (47, vi x47)], [some ⟨true, 1, Xi a0⟩, some ⟨false, 1, [vi a0.begin]⟩, some ⟨false, 1, [vi 0]⟩, some ⟨false, 1, List.map vi r⟩], .nil⟩
def Z8 (k : Nat) (a0 : Xp) (a1 : Int) (x47 : Int) : Nat -> (List Int) -> Int -> Option ((List Int))
 | 0, _, _ => none
 | fuel + 1, y3z, x57 => if x57 < 1 then (if 0 <= x57 /\ x57 < (([0] : List Int).length : Int) then (if x57 < ((1 : Nat) : Int) then (if 0 <= x47 /\ x47 < (y3z.length : Int) then (if 0 <= x57 /\ x57 < (([a0.begin] : List Int).length : Int) then ((Ja k (([a0.begin] : List Int).getD x57.toNat 0) (((a0.stops.getD a1.toNat default).positions).getD x47.toNat 0)).bind fun r2116 => (Z8 k a0 a1 x47 fuel (y3z.set x47.toNat (minI (y3z.getD x47.toNat 0) (w64 ((([0] : List Int).getD x57.toNat 0) + r2116)))) (w64 (x57 + 1)))) else none) else none) else none) else none) else (some y3z)
theorem Qd1 (k : Nat) (a0 : Xp) (a1 : Int) (x47 : Int) : ∀ (fuel : Nat) (y3z : List Int) (x57 : Int) (r : (List Int)), Z8 k a0 a1 x47 fuel y3z x57 = some r -> (J9 none Try.prog (szF Try.f29) (X9 Try.f29 1) (Wn a0 a1 x47 y3z x57) (.exit 2) (Yv a0 a1 x47 r)) := by
 intro fuel
 induction fuel with
 | zero => intro y3z x57 r h; rw [Z8.eq_1] at h; cases h
 | succ fuel ih =>
  intro y3z x57 r h
  rw [Z8.eq_2] at h
  rcases ifs h with ⟨h2106, h⟩ | ⟨h2106, h⟩
  ·obtain ⟨h2107, h⟩ := ifn h
   obtain ⟨h2108, h⟩ := ifn h
   have e2109 := (show 0 <= x57 /\ x57 < ((1 : Nat) : Int) from ⟨h2107.1, h2108⟩)
   have e2110 := (show Ze Try.prog 3 (0 + x57.toNat * 1) [vi 0] = some (vi (([0] : List Int).getD x57.toNat 0)) from (by rw [show [vi 0] = List.map vi ([0] : List Int) from rfl]; exact Xj ag3 vi ([0] : List Int) 0 h2107 (by omega)))
   obtain ⟨h2111, h⟩ := ifn h
   have e2112 := (show Ze Try.prog 3 (0 + x47.toNat * 1) (List.map vi y3z) = some (vi (y3z.getD x47.toNat 0)) from Xj ag3 vi y3z 0 h2111 (by omega))
   obtain ⟨h2113, h⟩ := ifn h
   have e2114 := (show 0 <= x57 /\ x57 < ((1 : Nat) : Int) from ⟨h2113.1, h2108⟩)
   have e2115 := (show Ze Try.prog 3 (0 + x57.toNat * 1) [vi a0.begin] = some (vi (([a0.begin] : List Int).getD x57.toNat 0)) from (by rw [show [vi a0.begin] = List.map vi ([a0.begin] : List Int) from rfl]; exact Xj ag3 vi ([a0.begin] : List Int) 0 h2113 (by omega)))
   obtain ⟨r2116, h2117, h⟩ := bs h
   have e2118 := (Qbh k (([a0.begin] : List Int).getD x57.toNat 0) (((a0.stops.getD a1.toNat default).positions).getD x47.toNat 0) _ h2117)
   have e2119 := (show (0 + x47.toNat * 1) + 1 <= List.length (List.map vi y3z) from (by simp only [length_map]; omega))
   have e2120 := (t4 (an h2111 (an e2112 (t3 (an e2114 (an e2115 (ti (an e2118 (t2 (an h2111 (an e2119 tt)))))))))))
   have h2 := ih _ _ _ h
   obtain ⟨q, hv, hq⟩ := pkR (rd := none) (P := Try.prog) (fn := Try.f29) (k := 1) (s := (Wn a0 a1 x47 y3z x57)) (ans := [.reg (.n :: []), .br true, .reg (.n :: .n :: .v (vi (([0] : List Int).getD x57.toNat 0)) :: .n :: .n :: []), .reg (Q2i y3z x47 a0 x57 r2116), .reg (.n :: .n :: [])]) (c := ⟨[(7, none), (8, none), (9, some (VV.rf 3 0 ((y3z.set x47.toNat (minI (y3z.getD x47.toNat 0) (w64 ((([0] : List Int).getD x57.toNat 0) + r2116)))).length))), (10, none), (11, none), (45, none), (46, none), (47, none), (55, none), (56, none), (57, none)], [none, none, none, some (List.map vi (y3z.set x47.toNat (minI (y3z.getD x47.toNat 0) (w64 ((([0] : List Int).getD x57.toNat 0) + r2116)))))], []⟩) (e := .normal) (s1 := (Wn a0 a1 x47 (y3z.set x47.toNat (minI (y3z.getD x47.toNat 0) (w64 ((([0] : List Int).getD x57.toNat 0) + r2116)))) (w64 (x57 + 1)))) (an (an (ti tt) (an (te h2106) (an (an (ti (an e2109 (an e2110 (t2 tt)))) e2120) (t2 tt)))) (an (an (show Wv (VV.rf 3 0 y3z.length) (VV.rf 3 0 ((y3z.set x47.toNat (minI (y3z.getD x47.toNat 0) (w64 ((([0] : List Int).getD x57.toNat 0) + r2116)))).length)) from (Wv.of_eq (by simp))) tt) (an (show putT (0 + x47.toNat * 1) (List.map vi y3z) [vi (minI (y3z.getD x47.toNat 0) (w64 ((([0] : List Int).getD x57.toNat 0) + r2116)))] = List.map vi (y3z.set x47.toNat (minI (y3z.getD x47.toNat 0) (w64 ((([0] : List Int).getD x57.toNat 0) + r2116)))) from (by exact Qfx y3z h2111 (minI (y3z.getD x47.toNat 0) (w64 ((([0] : List Int).getD x57.toNat 0) + r2116))) (by omega))) tt))) (by kernel_rfl)
   exact Qv pm pn hv hq h2
  ·injection h with h; subst h
   exact Qj (c := ⟨[(7, none), (8, none), (9, none), (45, none), (46, none), (47, none)], [none, none, none, none], []⟩) (s1 := (Yv a0 a1 x47 y3z)) pm pn (ans := [.reg (.n :: []), .br false]) (by kernel_rfl) (by intro e; cases e) (an (an (ti tt) (tf h2106)) (ti tt))
def Wp (a0 : Xp) (a1 : Int) (y3 : List Int) (x47 : Int) : VS := ⟨mkA [(7, VV.rf 1 0 1), (8, VV.rf 2 0 1), (9, VV.rf 3 0 y3.length), (45, VV.tr (List.map vi ((a0.stops.getD a1.toNat default).positions)) (((a0.stops.getD a1.toNat default).positions).length)), (46, vi (((a0.stops.getD a1.toNat default).positions).length : Int)), (47, vi x47)], [some ⟨true, 1, Xi a0⟩, some ⟨false, 1, [vi a0.begin]⟩, some ⟨false, 1, [vi 0]⟩, some ⟨false, 1, List.map vi y3⟩], .nil⟩
def Yw (a0 : Xp) (a1 : Int) (r : (List Int)) : VS := ⟨mkA [(9, VV.rf 3 0 r.length)], [some ⟨true, 1, Xi a0⟩, some ⟨false, 1, [vi a0.begin]⟩, some ⟨false, 1, [vi 0]⟩, some ⟨false, 1, List.map vi r⟩], .nil⟩
def Zr (k : Nat) (a0 : Xp) (a1 : Int) : Nat -> (List Int) -> Int -> Option ((List Int))
 | 0, _, _ => none
 | fuel + 1, y3, x47 => if x47 < (((a0.stops.getD a1.toNat default).positions).length : Int) then (if 0 <= x47 /\ x47 < (((a0.stops.getD a1.toNat default).positions).length : Int) then (if 0 <= x47 /\ x47 < (y3.length : Int) then ((Z8 k a0 a1 x47 k (y3.set x47.toNat 9223372036854775807) 0).bind fun r2122 => (Zr k a0 a1 fuel r2122 (w64 (x47 + 1)))) else none) else none) else (some y3)
theorem Qd2 (k : Nat) (a0 : Xp) (a1 : Int) : ∀ (fuel : Nat) (y3 : List Int) (x47 : Int) (r : (List Int)), Zr k a0 a1 fuel y3 x47 = some r -> (J9 none Try.prog (szF Try.f29) (X9 Try.f29 0) (Wp a0 a1 y3 x47) (.exit 0) (Yw a0 a1 r)) := by
 intro fuel
 induction fuel with
 | zero => intro y3 x47 r h; rw [Zr.eq_1] at h; cases h
 | succ fuel ih =>
  intro y3 x47 r h
  rw [Zr.eq_2] at h
  rcases ifs h with ⟨h2069, h⟩ | ⟨h2069, h⟩
  ·obtain ⟨h2070, h⟩ := ifn h
   have e2071 := (show Ze Try.prog 3 (x47.toNat * 1) (List.map vi ((a0.stops.getD a1.toNat default).positions)) = some (vi (((a0.stops.getD a1.toNat default).positions).getD x47.toNat 0)) from Xj ag3 vi ((a0.stops.getD a1.toNat default).positions) 0 h2070 (by omega))
   obtain ⟨h2072, h⟩ := ifn h
   have e2073 := (show (0 + x47.toNat * 1) + 1 <= List.length (List.map vi y3) from (by simp only [length_map]; omega))
   obtain ⟨r2122, h2121, h⟩ := bs h
   have hph2121 := Qd1 k a0 a1 x47 _ _ _ _ h2121
   have e2123 := (an (an (an (show Wv (VV.rf 3 0 y3.length) (VV.rf 3 0 ((y3.set x47.toNat 9223372036854775807).length)) from (Wv.of_eq (by simp))) tt) (an (show putT (0 + x47.toNat * 1) (List.map vi y3) [vi 9223372036854775807] = List.map vi (y3.set x47.toNat 9223372036854775807) from (by exact Qfx y3 h2072 9223372036854775807 (by omega))) tt)) (VRun.loop hph2121))
   have h2 := ih _ _ _ h
   obtain ⟨q, hv, hq⟩ := pkR (rd := none) (P := Try.prog) (fn := Try.f29) (k := 0) (s := (Wp a0 a1 y3 x47)) (ans := [.reg (.n :: []), .br true, .reg (Qzv a0 a1 x47), .reg (nN 4 []), .reg (nN 3 []), .sub ⟨[(7, none), (8, none), (9, some (VV.rf 3 0 ((y3.set x47.toNat 9223372036854775807).length))), (10, none), (11, none), (45, none), (46, none), (47, none), (55, none), (56, none), (57, none)], [none, none, none, some (List.map vi (y3.set x47.toNat 9223372036854775807))], []⟩ (.exit 2) (Yv a0 a1 x47 r2122), .reg (.n :: .n :: [])]) (c := ⟨[(7, none), (8, none), (9, none), (45, none), (46, none), (47, none)], [none, none, none, none], []⟩) (e := .normal) (s1 := (Wp a0 a1 r2122 (w64 (x47 + 1)))) (an (an (ti tt) (an (te h2069) (an (an (ti (an h2070 (an e2071 (t2 tt)))) (an (t2 (an h2072 (an e2073 tt))) (an (t3 tt) e2123))) (t2 tt)))) (ti tt)) (by kernel_rfl)
   exact Qv pm pn hv hq h2
  ·injection h with h; subst h
   exact Qj (c := ⟨[(9, none)], [none, none, none, none], []⟩) (s1 := (Yw a0 a1 y3)) pm pn (ans := [.reg (.n :: []), .br false]) (by kernel_rfl) (by intro e; cases e) (an (an (ti tt) (tf h2069)) (ti tt))
def Yo (k : Nat) (a0 : Xp) (a1 : Int) (a2 : (List (List Int))) : Option (List Int) :=
 if 0 < a1 then (if 0 <= w64 (a1 - 1) /\ w64 (a1 - 1) < (a0.stops.length : Int) then (if 0 <= w64 (a1 - 1) /\ w64 (a1 - 1) < (a2.length : Int) then (if 0 <= a1 /\ a1 < (a0.stops.length : Int) then (if 0 <= (((a0.stops.getD a1.toNat default).positions).length : Int) /\ (((a0.stops.getD a1.toNat default).positions).length : Int) <= 1000000000 then ((Zq k a0 a1 a2 k (List.replicate (((a0.stops.getD a1.toNat default).positions).length : Int).toNat (0 : Int)) 0).bind fun r1948 => (some r1948)) else none) else none) else none) else none) else (if 0 <= a1 /\ a1 < (a0.stops.length : Int) then (if 0 <= (((a0.stops.getD a1.toNat default).positions).length : Int) /\ (((a0.stops.getD a1.toNat default).positions).length : Int) <= 1000000000 then ((Zr k a0 a1 k (List.replicate (((a0.stops.getD a1.toNat default).positions).length : Int).toNat (0 : Int)) 0).bind fun r2125 => (some r2125)) else none) else none)
theorem Qf0 (k : Nat) (a0 : Xp) (a1 : Int) (a2 : (List (List Int))) (r : (List Int)) (h : Yo k a0 a1 a2 = some r) : VC Try.prog 29 [VV.ag (Xi a0), vi a1, VV.tr (List.map v_29 a2) a2.length] (VV.fw 1 (List.map vi r) r.length) := by
 unfold Yo at h
 rcases ifs h with ⟨h1791, h⟩ | ⟨h1791, h⟩
 ·obtain ⟨h1792, h⟩ := ifn h
  have e1793 := (show Ze Try.prog 29 ((w64 (a1 - 1)).toNat * 8 + 7) (flatMap Zb a0.stops) = some (VV.tr (List.map vi ((a0.stops.getD (w64 (a1 - 1)).toNat default).positions)) (((a0.stops.getD (w64 (a1 - 1)).toNat default).positions).length)) from (Ya ag29 Zb 8 7 Qay (by omega) a0.stops default h1792 (by omega)).trans rfl)
  obtain ⟨h1794, h⟩ := ifn h
  have e1795 := (show Ze Try.prog 29 ((w64 (a1 - 1)).toNat * 1) (List.map v_29 a2) = some (VV.tr (List.map vi (a2.getD (w64 (a1 - 1)).toNat default)) ((a2.getD (w64 (a1 - 1)).toNat default).length)) from Xj ag29 v_29 a2 default h1794 (by omega))
  have e1796 := (t4 (an h1792 (ti (an e1793 (t3 (an h1794 (an e1795 (t2 tt))))))))
  obtain ⟨h1797, h⟩ := ifn h
  have e1798 := (show Ze Try.prog 29 (a1.toNat * 8 + 7) (flatMap Zb a0.stops) = some (VV.tr (List.map vi ((a0.stops.getD a1.toNat default).positions)) (((a0.stops.getD a1.toNat default).positions).length)) from (Ya ag29 Zb 8 7 Qay (by omega) a0.stops default h1797 (by omega)).trans rfl)
  obtain ⟨h1799, h⟩ := ifn h
  have e1800 := (show 0 <= (((a0.stops.getD a1.toNat default).positions).length : Int) /\ (((a0.stops.getD a1.toNat default).positions).length : Int) = (((a0.stops.getD a1.toNat default).positions).length : Int) /\ (8 * (((a0.stops.getD a1.toNat default).positions).length : Int).toNat) <= 281474976710656 /\ (((a0.stops.getD a1.toNat default).positions).length : Int) < 1099511627776 from ⟨by omega, rfl, by omega, by omega⟩)
  have e1801 := (t3 (an h1797 (ti (an e1798 (ti (an e1800 (ti tt)))))))
  have e1803 := (t3 (an h1797 (ti (an e1798 (t2 tt)))))
  obtain ⟨r1948, h1947, h⟩ := bs h
  have hph1947 := Qd0 k a0 a1 a2 _ _ _ _ h1947
  have e1949 := (an (an (an (show Wv (VV.rf 3 0 ((((a0.stops.getD a1.toNat default).positions).length : Int).toNat)) (VV.rf 3 0 ((List.replicate (((a0.stops.getD a1.toNat default).positions).length : Int).toNat (0 : Int)).length)) from (Wv.of_eq (by simp))) tt) (an (show List.replicate (((a0.stops.getD a1.toNat default).positions).length : Int).toNat (VV.c (.int .i64 0)) = List.map vi (List.replicate (((a0.stops.getD a1.toNat default).positions).length : Int).toNat (0 : Int)) from Qbe _) tt)) (VRun.loop hph1947))
  injection h with h; subst h
  exact Qo pm pn Try.func29 (r0 := VV.fw 1 (List.drop 0 (List.map unfr (List.map vi r1948))) r1948.length) (ans := [.reg (.n :: .n :: []), .reg (nN 6 []), .reg (.n :: .n :: []), .br true, .reg (Q2j a0 a1 a2), .reg (Qve a0 a1), .reg (Qvf a0 a1), .sub ⟨[(7, none), (8, none), (9, some (VV.rf 3 0 ((List.replicate (((a0.stops.getD a1.toNat default).positions).length : Int).toNat (0 : Int)).length))), (45, none), (46, none), (47, none)], [none, none, none, some (List.map vi (List.replicate (((a0.stops.getD a1.toNat default).positions).length : Int).toNat (0 : Int)))], []⟩ (.exit 0) (Yu a0 a1 a2 r1948), .reg (.n :: .n :: [])]) (fr := true) (by kernel_rfl) (an (an (t2 tt) (an (t6 tt) (an (an (t2 tt) (an (dt h1791) e1796)) (an e1801 (an (an e1803 e1949) (an (t2 tt) tt)))))) (an (show List.all (List.map vi r1948) new0 = true from (by exact Qgm _)) tt)) (Wv.of_eq (Qzw r1948))
 ·obtain ⟨h1950, h⟩ := ifn h
  have e1951 := (show Ze Try.prog 29 (a1.toNat * 8 + 7) (flatMap Zb a0.stops) = some (VV.tr (List.map vi ((a0.stops.getD a1.toNat default).positions)) (((a0.stops.getD a1.toNat default).positions).length)) from (Ya ag29 Zb 8 7 Qay (by omega) a0.stops default h1950 (by omega)).trans rfl)
  obtain ⟨h1952, h⟩ := ifn h
  have e1953 := (show 0 <= (((a0.stops.getD a1.toNat default).positions).length : Int) /\ (((a0.stops.getD a1.toNat default).positions).length : Int) = (((a0.stops.getD a1.toNat default).positions).length : Int) /\ (8 * (((a0.stops.getD a1.toNat default).positions).length : Int).toNat) <= 281474976710656 /\ (((a0.stops.getD a1.toNat default).positions).length : Int) < 1099511627776 from ⟨by omega, rfl, by omega, by omega⟩)
  have e1954 := (t3 (an h1950 (ti (an e1951 (ti (an e1953 (ti tt)))))))
  have e1956 := (t3 (an h1950 (ti (an e1951 (t2 tt)))))
  obtain ⟨r2125, h2124, h⟩ := bs h
  have hph2124 := Qd2 k a0 a1 _ _ _ _ h2124
  have e2126 := (an (an (an (show Wv (VV.rf 3 0 ((((a0.stops.getD a1.toNat default).positions).length : Int).toNat)) (VV.rf 3 0 ((List.replicate (((a0.stops.getD a1.toNat default).positions).length : Int).toNat (0 : Int)).length)) from (Wv.of_eq (by simp))) tt) (an (show List.replicate (((a0.stops.getD a1.toNat default).positions).length : Int).toNat (VV.c (.int .i64 0)) = List.map vi (List.replicate (((a0.stops.getD a1.toNat default).positions).length : Int).toNat (0 : Int)) from Qbe _) tt)) (VRun.loop hph2124))
  injection h with h; subst h
  exact Qo pm pn Try.func29 (r0 := VV.fw 1 (List.drop 0 (List.map unfr (List.map vi r2125))) r2125.length) (ans := [.reg (.n :: .n :: []), .reg (nN 6 []), .reg (.n :: .n :: []), .br false, .reg (Qve a0 a1), .reg (Qvf a0 a1), .sub ⟨[(7, none), (8, none), (9, some (VV.rf 3 0 ((List.replicate (((a0.stops.getD a1.toNat default).positions).length : Int).toNat (0 : Int)).length))), (45, none), (46, none), (47, none)], [none, none, none, some (List.map vi (List.replicate (((a0.stops.getD a1.toNat default).positions).length : Int).toNat (0 : Int)))], []⟩ (.exit 0) (Yw a0 a1 r2125), .reg (.n :: .n :: [])]) (fr := true) (by kernel_rfl) (an (an (t2 tt) (an (t6 tt) (an (an (t2 tt) (tf h1791)) (an e1954 (an (an e1956 e2126) (an (t2 tt) tt)))))) (an (show List.all (List.map vi r2125) new0 = true from (by exact Qgm _)) tt)) (Wv.of_eq (Qzw r2125))
def Wq (a0 : (List Int)) (x3 : Int) (x4 : Int) : VS := ⟨mkA [(0, VV.tr (List.map vi a0) a0.length), (3, vi x3), (4, vi x4)], [], .nil⟩
def Yx (a0 : (List Int)) (r : Int) : VS := ⟨mkA [(3, vi r)], [], .nil⟩
def Zt (k : Nat) (a0 : (List Int)) : Nat -> Int -> Int -> Option (Int)
 | 0, _, _ => none
 | fuel + 1, x3, x4 => if x4 < (a0.length : Int) then (if 0 <= x4 /\ x4 < (a0.length : Int) then (Zt k a0 fuel (minI x3 (a0.getD x4.toNat 0)) (w64 (x4 + 1))) else none) else (some x3)
theorem Qd3 (k : Nat) (a0 : (List Int)) : ∀ (fuel : Nat) (x3 : Int) (x4 : Int) (r : Int), Zt k a0 fuel x3 x4 = some r -> (J9 none Try.prog (szF Try.f46) (X9 Try.f46 0) (Wq a0 x3 x4) (.exit 0) (Yx a0 r)) := by
 intro fuel
 induction fuel with
 | zero => intro x3 x4 r h; rw [Zt.eq_1] at h; cases h
 | succ fuel ih =>
  intro x3 x4 r h
  rw [Zt.eq_2] at h
  rcases ifs h with ⟨h2275, h⟩ | ⟨h2275, h⟩
  ·obtain ⟨h2276, h⟩ := ifn h
   have e2277 := (show Ze Try.prog 3 (x4.toNat * 1) (List.map vi a0) = some (vi (a0.getD x4.toNat 0)) from Xj ag3 vi a0 0 h2276 (by omega))
   have e2278 := (t3 (an h2276 (an e2277 (t2 tt))))
   have h2 := ih _ _ _ h
   obtain ⟨q, hv, hq⟩ := pkR (rd := none) (P := Try.prog) (fn := Try.f46) (k := 0) (s := (Wq a0 x3 x4)) (ans := [.reg (nN 4 []), .br true, .reg (nN 4 (.v (vi (a0.getD x4.toNat 0)) :: .n :: .n :: [])), .reg (nN 3 [])]) (c := ⟨[(0, none), (3, none), (4, none)], [], []⟩) (e := .normal) (s1 := (Wq a0 (minI x3 (a0.getD x4.toNat 0)) (w64 (x4 + 1)))) (an (an (an (t4 tt) (te h2275)) (an e2278 (t3 tt))) (ti tt)) (by kernel_rfl)
   exact Qv pm pn hv hq h2
  ·injection h with h; subst h
   exact Qj (c := ⟨[(3, none)], [], []⟩) (s1 := (Yx a0 x3)) pm pn (ans := [.reg (nN 4 []), .br false]) (by kernel_rfl) (by intro e; cases e) (an (an (t4 tt) (tf h2275)) (ti tt))
def Qan (k : Nat) (a0 : (List Int)) : Option Int :=
 if (a0.length : Int) < 1 then none else (if (0 : Int) <= 0 /\ 0 < (a0.length : Int) then ((Zt k a0 k (a0.getD ((0 : Int)).toNat 0) 1).bind fun r2280 => (some r2280)) else none)
theorem Qf1 (k : Nat) (a0 : (List Int)) (r : Int) (h : Qan k a0 = some r) : VC Try.prog 46 [VV.tr (List.map vi a0) a0.length] (vi r) := by
 unfold Qan at h
 rcases ifs h with ⟨h2264, h⟩ | ⟨h2264, h⟩
 ·cases h
 ·obtain ⟨h2265, h⟩ := ifn h
  have e2266 := (show Ze Try.prog 3 (((0 : Int)).toNat * 1) (List.map vi a0) = some (vi (a0.getD ((0 : Int)).toNat 0)) from Xj ag3 vi a0 0 h2265 (by omega))
  obtain ⟨r2280, h2279, h⟩ := bs h
  have hph2279 := Qd3 k a0 _ _ _ _ h2279
  have e2281 := (an (ti tt) (VRun.loop hph2279))
  injection h with h; subst h
  exact Qo pm pn Try.func46 (r0 := vi r2280) (ans := [.reg (.n :: []), .reg (nN 3 []), .br false, .reg (.n :: .n :: .v (vi (a0.getD ((0 : Int)).toNat 0)) :: .n :: []), .reg (.n :: []), .sub ⟨[(0, none), (3, none), (4, none)], [], []⟩ (.exit 0) (Yx a0 r2280), .reg (.n :: .n :: [])]) (fr := true) (by kernel_rfl) (an (an (ti tt) (an (an (t3 tt) (tf h2264)) (an (ti (an h2265 (an e2266 (ti tt)))) (an (an (ti tt) e2281) (an (t2 tt) tt))))) (ti tt)) (Wv.refl _)
def Q0s (z0 : (List (List Int))) (z1 : Int) : List Ans := (nN 5 (.v (VV.tr (List.map vi (z0.getD (w64 ((z0.length : Int) - 1)).toNat default)) ((z0.getD (w64 ((z0.length : Int) - 1)).toNat default).length)) :: .call (vi z1) :: .n :: []))
def Qb0 (k : Nat) (a0 : (List (List Int))) : Option Int :=
 if (a0.length : Int) = 0 then (some 0) else (if 0 <= w64 ((a0.length : Int) - 1) /\ w64 ((a0.length : Int) - 1) < (a0.length : Int) then ((Qan k (a0.getD (w64 ((a0.length : Int) - 1)).toNat default)).bind fun r2289 => (some r2289)) else none)
theorem Qi4 (k : Nat) (a0 : (List (List Int))) (r : Int) (h : Qb0 k a0 = some r) : VC Try.prog 27 [VV.tr (List.map v_29 a0) a0.length] (vi r) := by
 unfold Qb0 at h
 rcases ifs h with ⟨h2286, h⟩ | ⟨h2286, h⟩
 ·injection h with h; subst h
  exact Qo pm pn Try.func27 (r0 := vi 0) (ans := [.reg (.n :: []), .reg (nN 3 []), .br true, .reg (.n :: [])]) (fr := true) (by kernel_rfl) (an (an (ti tt) (an (t3 tt) (an (dt h2286) (an (ti tt) tt)))) (ti tt)) (Wv.refl _)
 ·obtain ⟨h2287, h⟩ := ifn h
  have e2288 := (show Ze Try.prog 29 ((w64 ((a0.length : Int) - 1)).toNat * 1) (List.map v_29 a0) = some (VV.tr (List.map vi (a0.getD (w64 ((a0.length : Int) - 1)).toNat default)) ((a0.getD (w64 ((a0.length : Int) - 1)).toNat default).length)) from Xj ag29 v_29 a0 default h2287 (by omega))
  obtain ⟨r2289, h2290, h⟩ := bs h
  have e2291 := (Qf1 k (a0.getD (w64 ((a0.length : Int) - 1)).toNat default) _ h2290)
  have e2292 := (t4 (an h2287 (an e2288 (an e2291 (ti tt)))))
  injection h with h; subst h
  exact Qo pm pn Try.func27 (r0 := vi r2289) (ans := [.reg (.n :: []), .reg (nN 3 []), .br false, .reg (Q0s a0 r2289)]) (fr := true) (by kernel_rfl) (an (an (ti tt) (an (an (t3 tt) (tf h2286)) (an e2292 tt))) (ti tt)) (Wv.refl _)
def Ju (k : Nat) (a0 : (List Int)) : Option (List Int) :=
 if ([] : List Int).length + a0.length <= 1000000000 then (some (([] : List Int) ++ a0)) else none
theorem Qe5 (k : Nat) (a0 : (List Int)) (r : (List Int)) (h : Ju k a0 = some r) : VC Try.prog 8 [VV.tr (List.map vi a0) a0.length] (VV.fw 1 (List.map vi r) r.length) := by
 unfold Ju at h
 obtain ⟨h2427, h⟩ := ifn h
 have e2428 := (show List.length [] = 0 * 1 /\ List.length (List.map vi a0) = a0.length * 1 /\ (0 + a0.length) * 8 <= 140737488355328 /\ 0 + a0.length < 1099511627776 /\ List.all (List.map vi a0) VV.still = true from ⟨(by rw [show [] = List.map vi ([] : List Int) from rfl]; simp), (by simp), (by first | omega | (simp at h2427 ⊢; omega)), (by first | omega | (simp at h2427 ⊢; omega)), (by exact Qnf _)⟩)
 injection h with h; subst h
 exact Qo pm pn Try.func8 (r0 := VV.fw 1 (List.drop 0 (List.map unfr ([] ++ (List.map vi a0)))) (0 + a0.length)) (ans := [.reg (.n :: []), .reg (nN 4 [])]) (fr := true) (by kernel_rfl) (an (an (ti tt) (an (t2 (an e2428 (ti tt))) tt)) (an (show List.all ([] ++ (List.map vi a0)) new0 = true from (by rw [show [] ++ (List.map vi a0) = List.map vi (([] : List Int) ++ a0) from (by rw [show [] = List.map vi ([] : List Int) from rfl]; exact List.map_append.symm)]; exact Qgm _)) tt)) (Wv.of_eq (by first | (simp only [show [] ++ (List.map vi a0) = List.map vi (([] : List Int) ++ a0) from (by rw [show [] = List.map vi ([] : List Int) from rfl]; exact List.map_append.symm), Qdl, Qn, Qng, Qcx, map_cons, map_nil, un_i, un_k, un_b, un_s, Ji, Qqi, length_map, length_replicate, length_append, List.length_set, length_cons, length_nil, Nat.zero_add, Qc7, X0, Qb4, Z9, Y2, Qbi, Qbj, Qew, Qex, Qbk, Qey, Qaq, Qbz]; done) | (simp only [show [] ++ (List.map vi a0) = List.map vi (([] : List Int) ++ a0) from (by rw [show [] = List.map vi ([] : List Int) from rfl]; exact List.map_append.symm), Qdl, Qn, Qng, Qcx, map_cons, map_nil, un_i, un_k, un_b, un_s, Ji, Qqi, length_map, length_replicate, length_append, List.length_set, length_cons, length_nil, Nat.zero_add, Qc7, X0, Qb4, Z9, Y2, Qbi, Qbj, Qew, Qex, Qbk, Qey, Qaq, Qbz]; rfl)))
end Go.Proofs.Ytbgajdbpdhipiaa.Vg

import Derived.Test.YtjomicmhnbmhoaaB6
namespace Go.Proofs.Ytjomicmhnbmhoaa.Vg
set_option maxRecDepth 100000
set_option maxHeartbeats 4000000
set_option linter.unusedVariables false
set_option linter.unusedSimpArgs false
open Go Go.Proofs.Ytjomicmhnbmhoaa.Ev Go.Proofs.Ytjomicmhnbmhoaa.Vv
open List (flatMap length_cons length_nil length_map length_append map_cons map_nil length_replicate)
def v_31 (x : List Int) : VV := VV.tr (List.map vi x) x.length
def f_31 (x : List Int) : VV := VV.fr (List.map vi x) x.length
theorem Qaq (xs : List (List Int)) : (xs.map v_31).map unfr = xs.map v_31 := Qrv (fun _ => rfl) xs
theorem Qtb (xs : List (List Int)) : (xs.map f_31).all VV.still = true := all_map (fun _ => rfl) xs
theorem Qcj (xs : List (List Int)) : (xs.map f_31).map unfr = xs.map v_31 := Qrv (fun _ => rfl) xs
theorem Qu7 (xs : List (List Int)) : (xs.map f_31).all new0 = true := all_map (fun _ => rfl) xs
def Q1z (z0 : (List (List Int))) (z1 : Int) (z2 : Int) : List Ans := (.n :: .n :: .v (vi ((z0.getD (w64 (z1 - 1)).toNat default).getD z2.toNat 0)) :: .n :: .n :: [])
def Q10 (z0 : List Int) (z1 : Int) (z2 : Xt) (z3 : Int) (z4 : Int) (z5 : Int) : List Ans := (nN 5 (.v (vi (z0.getD z1.toNat 0)) :: nN 4 (.v (vi (((z2.stops.getD (w64 (z3 - 1)).toNat default).positions).getD z4.toNat 0)) :: .n :: .call (vi z5) :: nN 4 [])))
def Qyv (z0 : Xt) (z1 : Int) (z2 : Int) : List Ans := (.n :: .n :: .v (vi (((z0.stops.getD z1.toNat default).positions).getD z2.toNat 0)) :: .n :: .n :: [])
def Q11 (z0 : List Int) (z1 : Int) (z2 : Xt) (z3 : Int) (z4 : Int) : List Ans := (nN 5 (.v (vi (z0.getD z1.toNat 0)) :: nN 4 (.v (vi (([z2.begin] : List Int).getD z3.toNat 0)) :: .n :: .call (vi z4) :: nN 4 [])))
def Yk (a0 : Xt) (a1 : Int) (a2 : (List (List Int))) (x47 : Int) (y3z : List Int) (x57 : Int) : VS := ⟨mkA [(7, VV.tr (List.map vi ((a0.stops.getD (w64 (a1 - 1)).toNat default).positions)) (((a0.stops.getD (w64 (a1 - 1)).toNat default).positions).length)), (8, VV.tr (List.map vi (a2.getD (w64 (a1 - 1)).toNat default)) ((a2.getD (w64 (a1 - 1)).toNat default).length)), (9, VV.rf 3 0 y3z.length), (10, vi x47), (11, vi (((a0.stops.getD a1.toNat default).positions).getD x47.toNat 0)), (45, VV.tr (List.map vi ((a0.stops.getD a1.toNat default).positions)) (((a0.stops.getD a1.toNat default).positions).length)), (46, vi (((a0.stops.getD a1.toNat default).positions).length : Int)), (47, vi x47), (55, VV.tr (List.map vi (a2.getD (w64 (a1 - 1)).toNat default)) ((a2.getD (w64 (a1 - 1)).toNat default).length)), (56, vi ((a2.getD (w64 (a1 - 1)).toNat default).length : Int)), (57, vi x57)], [some ⟨true, 1, Xd a0⟩, some ⟨false, 1, [vi a0.begin]⟩, some ⟨false, 1, [vi 0]⟩, some ⟨false, 1, List.map vi y3z⟩], .nil⟩
def J5 (a0 : Xt) (a1 : Int) (a2 : (List (List Int))) (x47 : Int) (r : (List Int)) : VS := ⟨mkA [(7, VV.tr (List.map vi ((a0.stops.getD (w64 (a1 - 1)).toNat default).positions)) (((a0.stops.getD (w64 (a1 - 1)).toNat default).positions).length)), (8, VV.tr (List.map vi (a2.getD (w64 (a1 - 1)).toNat default)) ((a2.getD (w64 (a1 - 1)).toNat default).length)), (9, VV.rf 3 0 r.length), (45, VV.tr (List.map vi ((a0.stops.getD a1.toNat default).positions)) (((a0.stops.getD a1.toNat default).positions).length)), (46, vi (((a0.stops.getD a1.toNat default).positions).length : Int)), (47, vi x47)], [some ⟨true, 1, Xd a0⟩, some ⟨false, 1, [vi a0.begin]⟩, some ⟨false, 1, [vi 0]⟩, some ⟨false, 1, List.map vi r⟩], .nil⟩
def Zd (k : Nat) (a0 : Xt) (a1 : Int) (a2 : (List (List Int))) (x47 : Int) : Nat -> (List Int) -> Int -> Option ((List Int))
 | 0, _, _ => none
 | fuel + 1, y3z, x57 => if x57 < ((a2.getD (w64 (a1 - 1)).toNat default).length : Int) then (if 0 <= x57 /\ x57 < ((a2.getD (w64 (a1 - 1)).toNat default).length : Int) then (if 0 <= x47 /\ x47 < (y3z.length : Int) then (if 0 <= x57 /\ x57 < (((a0.stops.getD (w64 (a1 - 1)).toNat default).positions).length : Int) then ((Xr k (((a0.stops.getD (w64 (a1 - 1)).toNat default).positions).getD x57.toNat 0) (((a0.stops.getD a1.toNat default).positions).getD x47.toNat 0)).bind fun r3177 => (Zd k a0 a1 a2 x47 fuel (y3z.set x47.toNat (minI (y3z.getD x47.toNat 0) (w64 (((a2.getD (w64 (a1 - 1)).toNat default).getD x57.toNat 0) + r3177)))) (w64 (x57 + 1)))) else none) else none) else none) else (some y3z)
theorem Qc2 (k : Nat) (a0 : Xt) (a1 : Int) (a2 : (List (List Int))) (x47 : Int) : ∀ (fuel : Nat) (y3z : List Int) (x57 : Int) (r : (List Int)), Zd k a0 a1 a2 x47 fuel y3z x57 = some r -> (Y9 none Try.prog (szF Try.f42) (Yb Try.f42 1) (Yk a0 a1 a2 x47 y3z x57) (.exit 2) (J5 a0 a1 a2 x47 r)) := by
 intro fuel
 induction fuel with
 | zero => intro y3z x57 r h; rw [Zd.eq_1] at h; cases h
 | succ fuel ih =>
  intro y3z x57 r h
  rw [Zd.eq_2] at h
  rcases ifs h with ⟨h3170, h⟩ | ⟨h3170, h⟩
  ·obtain ⟨h3171, h⟩ := ifn h
   have e3172 := (show Z4 Try.prog 3 (x57.toNat * 1) (List.map vi (a2.getD (w64 (a1 - 1)).toNat default)) = some (vi ((a2.getD (w64 (a1 - 1)).toNat default).getD x57.toNat 0)) from Yr ag3 vi (a2.getD (w64 (a1 - 1)).toNat default) 0 h3171 (by omega))
   obtain ⟨h3173, h⟩ := ifn h
   have e3174 := (show Z4 Try.prog 3 (0 + x47.toNat * 1) (List.map vi y3z) = some (vi (y3z.getD x47.toNat 0)) from Yr ag3 vi y3z 0 h3173 (by omega))
   obtain ⟨h3175, h⟩ := ifn h
   have e3176 := (show Z4 Try.prog 3 (x57.toNat * 1) (List.map vi ((a0.stops.getD (w64 (a1 - 1)).toNat default).positions)) = some (vi (((a0.stops.getD (w64 (a1 - 1)).toNat default).positions).getD x57.toNat 0)) from Yr ag3 vi ((a0.stops.getD (w64 (a1 - 1)).toNat default).positions) 0 h3175 (by omega))
   obtain ⟨r3177, h3178, h⟩ := bs h
   have e3179 := (Qam k (((a0.stops.getD (w64 (a1 - 1)).toNat default).positions).getD x57.toNat 0) (((a0.stops.getD a1.toNat default).positions).getD x47.toNat 0) _ h3178)
   have e3180 := (show (0 + x47.toNat * 1) + 1 <= List.length (List.map vi y3z) from (by simp only [length_map]; omega))
   have e3181 := (ti (ti (ti (ti (an h3173 (an e3174 (ti (ti (ti (an h3175 (an e3176 (ti (an e3179 (ti (ti (an h3173 (an e3180 tt)))))))))))))))))
   have h2 := ih _ _ _ h
   obtain ⟨q, hv, hq⟩ := pkR (rd := none) (P := Try.prog) (fn := Try.f42) (k := 1) (s := (Yk a0 a1 a2 x47 y3z x57)) (ans := [.reg (.n :: []), .br true, .reg (Q1z a2 a1 x57), .reg (Q10 y3z x47 a0 a1 x57 r3177), .reg (.n :: .n :: [])]) (c := ⟨[(7, none), (8, none), (9, some (VV.rf 3 0 ((y3z.set x47.toNat (minI (y3z.getD x47.toNat 0) (w64 (((a2.getD (w64 (a1 - 1)).toNat default).getD x57.toNat 0) + r3177)))).length))), (10, none), (11, none), (45, none), (46, none), (47, none), (55, none), (56, none), (57, none)], [none, none, none, some (List.map vi (y3z.set x47.toNat (minI (y3z.getD x47.toNat 0) (w64 (((a2.getD (w64 (a1 - 1)).toNat default).getD x57.toNat 0) + r3177)))))], []⟩) (e := .normal) (s1 := (Yk a0 a1 a2 x47 (y3z.set x47.toNat (minI (y3z.getD x47.toNat 0) (w64 (((a2.getD (w64 (a1 - 1)).toNat default).getD x57.toNat 0) + r3177)))) (w64 (x57 + 1)))) (an (an (ti tt) (an (an (dt h3170) tt) (an (an (ti (an h3171 (an e3172 (ti (ti tt))))) e3181) (ti (ti tt))))) (an (an (show Wv (VV.rf 3 0 y3z.length) (VV.rf 3 0 ((y3z.set x47.toNat (minI (y3z.getD x47.toNat 0) (w64 (((a2.getD (w64 (a1 - 1)).toNat default).getD x57.toNat 0) + r3177)))).length)) from (Wv.of_eq (by simp))) tt) (an (show putT (0 + x47.toNat * 1) (List.map vi y3z) [vi (minI (y3z.getD x47.toNat 0) (w64 (((a2.getD (w64 (a1 - 1)).toNat default).getD x57.toNat 0) + r3177)))] = List.map vi (y3z.set x47.toNat (minI (y3z.getD x47.toNat 0) (w64 (((a2.getD (w64 (a1 - 1)).toNat default).getD x57.toNat 0) + r3177)))) from (by exact Qhy y3z h3173 (minI (y3z.getD x47.toNat 0) (w64 (((a2.getD (w64 (a1 - 1)).toNat default).getD x57.toNat 0) + r3177))) (by omega))) tt))) (by kernel_rfl)
   exact Zc pm pn hv hq h2
  ·injection h with h; subst h
   exact Zi (c := ⟨[(7, none), (8, none), (9, none), (45, none), (46, none), (47, none)], [none, none, none, none], []⟩) (s1 := (J5 a0 a1 a2 x47 y3z)) pm pn (ans := [.reg (.n :: []), .br false]) (by kernel_rfl) (by intro e; cases e) (an (an (ti tt) (an (df h3170) tt)) (ti tt))
def Yl (a0 : Xt) (a1 : Int) (a2 : (List (List Int))) (y3 : List Int) (x47 : Int) : VS := ⟨mkA [(7, VV.tr (List.map vi ((a0.stops.getD (w64 (a1 - 1)).toNat default).positions)) (((a0.stops.getD (w64 (a1 - 1)).toNat default).positions).length)), (8, VV.tr (List.map vi (a2.getD (w64 (a1 - 1)).toNat default)) ((a2.getD (w64 (a1 - 1)).toNat default).length)), (9, VV.rf 3 0 y3.length), (45, VV.tr (List.map vi ((a0.stops.getD a1.toNat default).positions)) (((a0.stops.getD a1.toNat default).positions).length)), (46, vi (((a0.stops.getD a1.toNat default).positions).length : Int)), (47, vi x47)], [some ⟨true, 1, Xd a0⟩, some ⟨false, 1, [vi a0.begin]⟩, some ⟨false, 1, [vi 0]⟩, some ⟨false, 1, List.map vi y3⟩], .nil⟩
def J6 (a0 : Xt) (a1 : Int) (a2 : (List (List Int))) (r : (List Int)) : VS := ⟨mkA [(9, VV.rf 3 0 r.length)], [some ⟨true, 1, Xd a0⟩, some ⟨false, 1, [vi a0.begin]⟩, some ⟨false, 1, [vi 0]⟩, some ⟨false, 1, List.map vi r⟩], .nil⟩
def Ze (k : Nat) (a0 : Xt) (a1 : Int) (a2 : (List (List Int))) : Nat -> (List Int) -> Int -> Option ((List Int))
 | 0, _, _ => none
 | fuel + 1, y3, x47 => if x47 < (((a0.stops.getD a1.toNat default).positions).length : Int) then (if 0 <= x47 /\ x47 < (((a0.stops.getD a1.toNat default).positions).length : Int) then (if 0 <= x47 /\ x47 < (y3.length : Int) then ((Zd k a0 a1 a2 x47 k (y3.set x47.toNat 9223372036854775807) 0).bind fun r3183 => (Ze k a0 a1 a2 fuel r3183 (w64 (x47 + 1)))) else none) else none) else (some y3)
theorem Qc3 (k : Nat) (a0 : Xt) (a1 : Int) (a2 : (List (List Int))) : ∀ (fuel : Nat) (y3 : List Int) (x47 : Int) (r : (List Int)), Ze k a0 a1 a2 fuel y3 x47 = some r -> (Y9 none Try.prog (szF Try.f42) (Yb Try.f42 0) (Yl a0 a1 a2 y3 x47) (.exit 0) (J6 a0 a1 a2 r)) := by
 intro fuel
 induction fuel with
 | zero => intro y3 x47 r h; rw [Ze.eq_1] at h; cases h
 | succ fuel ih =>
  intro y3 x47 r h
  rw [Ze.eq_2] at h
  rcases ifs h with ⟨h3138, h⟩ | ⟨h3138, h⟩
  ·obtain ⟨h3139, h⟩ := ifn h
   have e3140 := (show Z4 Try.prog 3 (x47.toNat * 1) (List.map vi ((a0.stops.getD a1.toNat default).positions)) = some (vi (((a0.stops.getD a1.toNat default).positions).getD x47.toNat 0)) from Yr ag3 vi ((a0.stops.getD a1.toNat default).positions) 0 h3139 (by omega))
   obtain ⟨h3141, h⟩ := ifn h
   have e3142 := (show (0 + x47.toNat * 1) + 1 <= List.length (List.map vi y3) from (by simp only [length_map]; omega))
   obtain ⟨r3183, h3182, h⟩ := bs h
   have hph3182 := Qc2 k a0 a1 a2 x47 _ _ _ _ h3182
   have e3184 := (an (an (an (show Wv (VV.rf 3 0 y3.length) (VV.rf 3 0 ((y3.set x47.toNat 9223372036854775807).length)) from (Wv.of_eq (by simp))) tt) (an (show putT (0 + x47.toNat * 1) (List.map vi y3) [vi 9223372036854775807] = List.map vi (y3.set x47.toNat 9223372036854775807) from (by exact Qhy y3 h3141 9223372036854775807 (by omega))) tt)) (VRun.loop hph3182))
   have h2 := ih _ _ _ h
   obtain ⟨q, hv, hq⟩ := pkR (rd := none) (P := Try.prog) (fn := Try.f42) (k := 0) (s := (Yl a0 a1 a2 y3 x47)) (ans := [.reg (.n :: []), .br true, .reg (Qyv a0 a1 x47), .reg (nN 4 []), .reg (nN 3 []), .sub ⟨[(7, none), (8, none), (9, some (VV.rf 3 0 ((y3.set x47.toNat 9223372036854775807).length))), (10, none), (11, none), (45, none), (46, none), (47, none), (55, none), (56, none), (57, none)], [none, none, none, some (List.map vi (y3.set x47.toNat 9223372036854775807))], []⟩ (.exit 2) (J5 a0 a1 a2 x47 r3183), .reg (.n :: .n :: [])]) (c := ⟨[(7, none), (8, none), (9, none), (45, none), (46, none), (47, none)], [none, none, none, none], []⟩) (e := .normal) (s1 := (Yl a0 a1 a2 r3183 (w64 (x47 + 1)))) (an (an (ti tt) (an (an (dt h3138) tt) (an (an (ti (an h3139 (an e3140 (ti (ti tt))))) (an (ti (ti (an h3141 (an e3142 tt)))) (an (ti (ti (ti tt))) e3184))) (ti (ti tt))))) (ti tt)) (by kernel_rfl)
   exact Zc pm pn hv hq h2
  ·injection h with h; subst h
   exact Zi (c := ⟨[(9, none)], [none, none, none, none], []⟩) (s1 := (J6 a0 a1 a2 y3)) pm pn (ans := [.reg (.n :: []), .br false]) (by kernel_rfl) (by intro e; cases e) (an (an (ti tt) (an (df h3138) tt)) (ti tt))
def Q12 (z0 : Xt) (z1 : Int) (z2 : (List (List Int))) : List Ans := (nN 6 (.v (VV.tr (List.map vi ((z0.stops.getD (w64 (z1 - 1)).toNat default).positions)) (((z0.stops.getD (w64 (z1 - 1)).toNat default).positions).length)) :: nN 4 (.v (VV.tr (List.map vi (z2.getD (w64 (z1 - 1)).toNat default)) ((z2.getD (w64 (z1 - 1)).toNat default).length)) :: .n :: .n :: [])))
def Qvy (z0 : Xt) (z1 : Int) : List Ans := (nN 5 (.v (VV.tr (List.map vi ((z0.stops.getD z1.toNat default).positions)) (((z0.stops.getD z1.toNat default).positions).length)) :: nN 3 []))
def Qvz (z0 : Xt) (z1 : Int) : List Ans := (nN 5 (.v (VV.tr (List.map vi ((z0.stops.getD z1.toNat default).positions)) (((z0.stops.getD z1.toNat default).positions).length)) :: .n :: .n :: []))
theorem Qyw (z0 : (List Int)) : VV.fw 1 (List.drop 0 (List.map unfr (List.map vi z0))) z0.length = VV.fw 1 (List.map vi z0) z0.length := by first | rfl | (simp only [Qer, Qk, map_cons, map_nil, un_i, length_map]; done) | (simp only [Qer, Qk, map_cons, map_nil, un_i, length_map]; rfl) | (simp only [Qer, Qk, map_cons, map_nil, un_i, length_map, length_cons, length_nil, length_append]; done)
def Ym (a0 : Xt) (a1 : Int) (x47 : Int) (y3z : List Int) (x57 : Int) : VS := ⟨mkA [(7, VV.rf 1 0 1), (8, VV.rf 2 0 1), (9, VV.rf 3 0 y3z.length), (10, vi x47), (11, vi (((a0.stops.getD a1.toNat default).positions).getD x47.toNat 0)), (45, VV.tr (List.map vi ((a0.stops.getD a1.toNat default).positions)) (((a0.stops.getD a1.toNat default).positions).length)), (46, vi (((a0.stops.getD a1.toNat default).positions).length : Int)), (47, vi x47), (55, VV.rf 2 0 1), (56, vi 1), (57, vi x57)], [some ⟨true, 1, Xd a0⟩, some ⟨false, 1, [vi a0.begin]⟩, some ⟨false, 1, [vi 0]⟩, some ⟨false, 1, List.map vi y3z⟩], .nil⟩
def J7 (a0 : Xt) (a1 : Int) (x47 : Int) (r : (List Int)) : VS := ⟨mkA [(7, VV.rf 1 0 1), (8, VV.rf 2 0 1), (9, VV.rf 3 0 r.length), (45, VV.tr (List.map vi ((a0.stops.getD a1.toNat default).positions)) (((a0.stops.getD a1.toNat default).positions).length)), (46, vi (((a0.stops.getD a1.toNat default).positions).length : Int)), (47, vi x47)], [some ⟨true, 1, Xd a0⟩, some ⟨false, 1, [vi a0.begin]⟩, some ⟨false, 1, [vi 0]⟩, some ⟨false, 1, List.map vi r⟩], .nil⟩
def Zp (k : Nat) (a0 : Xt) (a1 : Int) (x47 : Int) : Nat -> (List Int) -> Int -> Option ((List Int))
 | 0, _, _ => none
 | fuel + 1, y3z, x57 => if x57 < 1 then (if 0 <= x57 /\ x57 < (([0] : List Int).length : Int) then (if x57 < ((1 : Nat) : Int) then (if 0 <= x47 /\ x47 < (y3z.length : Int) then (if 0 <= x57 /\ x57 < (([a0.begin] : List Int).length : Int) then ((Xr k (([a0.begin] : List Int).getD x57.toNat 0) (((a0.stops.getD a1.toNat default).positions).getD x47.toNat 0)).bind fun r3354 => (Zp k a0 a1 x47 fuel (y3z.set x47.toNat (minI (y3z.getD x47.toNat 0) (w64 ((([0] : List Int).getD x57.toNat 0) + r3354)))) (w64 (x57 + 1)))) else none) else none) else none) else none) else (some y3z)
theorem Qc4 (k : Nat) (a0 : Xt) (a1 : Int) (x47 : Int) : ∀ (fuel : Nat) (y3z : List Int) (x57 : Int) (r : (List Int)), Zp k a0 a1 x47 fuel y3z x57 = some r -> (Y9 none Try.prog (szF Try.f42) (Yb Try.f42 1) (Ym a0 a1 x47 y3z x57) (.exit 2) (J7 a0 a1 x47 r)) := by
 intro fuel
 induction fuel with
 | zero => intro y3z x57 r h; rw [Zp.eq_1] at h; cases h
 | succ fuel ih =>
  intro y3z x57 r h
  rw [Zp.eq_2] at h
  rcases ifs h with ⟨h3344, h⟩ | ⟨h3344, h⟩
  ·obtain ⟨h3345, h⟩ := ifn h
   obtain ⟨h3346, h⟩ := ifn h
   have e3347 := (show 0 <= x57 /\ x57 < ((1 : Nat) : Int) from ⟨h3345.1, h3346⟩)
   have e3348 := (show Z4 Try.prog 3 (0 + x57.toNat * 1) [vi 0] = some (vi (([0] : List Int).getD x57.toNat 0)) from (by rw [show [vi 0] = List.map vi ([0] : List Int) from rfl]; exact Yr ag3 vi ([0] : List Int) 0 h3345 (by omega)))
   obtain ⟨h3349, h⟩ := ifn h
   have e3350 := (show Z4 Try.prog 3 (0 + x47.toNat * 1) (List.map vi y3z) = some (vi (y3z.getD x47.toNat 0)) from Yr ag3 vi y3z 0 h3349 (by omega))
   obtain ⟨h3351, h⟩ := ifn h
   have e3352 := (show 0 <= x57 /\ x57 < ((1 : Nat) : Int) from ⟨h3351.1, h3346⟩)
   have e3353 := (show Z4 Try.prog 3 (0 + x57.toNat * 1) [vi a0.begin] = some (vi (([a0.begin] : List Int).getD x57.toNat 0)) from (by rw [show [vi a0.begin] = List.map vi ([a0.begin] : List Int) from rfl]; exact Yr ag3 vi ([a0.begin] : List Int) 0 h3351 (by omega)))
   obtain ⟨r3354, h3355, h⟩ := bs h
   have e3356 := (Qam k (([a0.begin] : List Int).getD x57.toNat 0) (((a0.stops.getD a1.toNat default).positions).getD x47.toNat 0) _ h3355)
   have e3357 := (show (0 + x47.toNat * 1) + 1 <= List.length (List.map vi y3z) from (by simp only [length_map]; omega))
   have e3358 := (ti (ti (ti (ti (an h3349 (an e3350 (ti (ti (ti (an e3352 (an e3353 (ti (an e3356 (ti (ti (an h3349 (an e3357 tt)))))))))))))))))
   have h2 := ih _ _ _ h
   obtain ⟨q, hv, hq⟩ := pkR (rd := none) (P := Try.prog) (fn := Try.f42) (k := 1) (s := (Ym a0 a1 x47 y3z x57)) (ans := [.reg (.n :: []), .br true, .reg (.n :: .n :: .v (vi (([0] : List Int).getD x57.toNat 0)) :: .n :: .n :: []), .reg (Q11 y3z x47 a0 x57 r3354), .reg (.n :: .n :: [])]) (c := ⟨[(7, none), (8, none), (9, some (VV.rf 3 0 ((y3z.set x47.toNat (minI (y3z.getD x47.toNat 0) (w64 ((([0] : List Int).getD x57.toNat 0) + r3354)))).length))), (10, none), (11, none), (45, none), (46, none), (47, none), (55, none), (56, none), (57, none)], [none, none, none, some (List.map vi (y3z.set x47.toNat (minI (y3z.getD x47.toNat 0) (w64 ((([0] : List Int).getD x57.toNat 0) + r3354)))))], []⟩) (e := .normal) (s1 := (Ym a0 a1 x47 (y3z.set x47.toNat (minI (y3z.getD x47.toNat 0) (w64 ((([0] : List Int).getD x57.toNat 0) + r3354)))) (w64 (x57 + 1)))) (an (an (ti tt) (an (an (dt h3344) tt) (an (an (ti (an e3347 (an e3348 (ti (ti tt))))) e3358) (ti (ti tt))))) (an (an (show Wv (VV.rf 3 0 y3z.length) (VV.rf 3 0 ((y3z.set x47.toNat (minI (y3z.getD x47.toNat 0) (w64 ((([0] : List Int).getD x57.toNat 0) + r3354)))).length)) from (Wv.of_eq (by simp))) tt) (an (show putT (0 + x47.toNat * 1) (List.map vi y3z) [vi (minI (y3z.getD x47.toNat 0) (w64 ((([0] : List Int).getD x57.toNat 0) + r3354)))] = List.map vi (y3z.set x47.toNat (minI (y3z.getD x47.toNat 0) (w64 ((([0] : List Int).getD x57.toNat 0) + r3354)))) from (by exact Qhy y3z h3349 (minI (y3z.getD x47.toNat 0) (w64 ((([0] : List Int).getD x57.toNat 0) + r3354))) (by omega))) tt))) (by kernel_rfl)
   exact Zc pm pn hv hq h2
  ·injection h with h; subst h
   exact Zi (c := ⟨[(7, none), (8, none), (9, none), (45, none), (46, none), (47, none)], [none, none, none, none], []⟩) (s1 := (J7 a0 a1 x47 y3z)) pm pn (ans := [.reg (.n :: []), .br false]) (by kernel_rfl) (by intro e; cases e) (an (an (ti tt) (an (df h3344) tt)) (ti tt))
def Yn (a0 : Xt) (a1 : Int) (y3 : List Int) (x47 : Int) : VS := ⟨mkA [(7, VV.rf 1 0 1), (8, VV.rf 2 0 1), (9, VV.rf 3 0 y3.length), (45, VV.tr (List.map vi ((a0.stops.getD a1.toNat default).positions)) (((a0.stops.getD a1.toNat default).positions).length)), (46, vi (((a0.stops.getD a1.toNat default).positions).length : Int)), (47, vi x47)], [some ⟨true, 1, Xd a0⟩, some ⟨false, 1, [vi a0.begin]⟩, some ⟨false, 1, [vi 0]⟩, some ⟨false, 1, List.map vi y3⟩], .nil⟩
def J8 (a0 : Xt) (a1 : Int) (r : (List Int)) : VS := ⟨mkA [(9, VV.rf 3 0 r.length)], [some ⟨true, 1, Xd a0⟩, some ⟨false, 1, [vi a0.begin]⟩, some ⟨false, 1, [vi 0]⟩, some ⟨false, 1, List.map vi r⟩], .nil⟩
def Zf (k : Nat) (a0 : Xt) (a1 : Int) : Nat -> (List Int) -> Int -> Option ((List Int))
 | 0, _, _ => none
 | fuel + 1, y3, x47 => if x47 < (((a0.stops.getD a1.toNat default).positions).length : Int) then (if 0 <= x47 /\ x47 < (((a0.stops.getD a1.toNat default).positions).length : Int) then (if 0 <= x47 /\ x47 < (y3.length : Int) then ((Zp k a0 a1 x47 k (y3.set x47.toNat 9223372036854775807) 0).bind fun r3360 => (Zf k a0 a1 fuel r3360 (w64 (x47 + 1)))) else none) else none) else (some y3)
theorem Qc5 (k : Nat) (a0 : Xt) (a1 : Int) : ∀ (fuel : Nat) (y3 : List Int) (x47 : Int) (r : (List Int)), Zf k a0 a1 fuel y3 x47 = some r -> (Y9 none Try.prog (szF Try.f42) (Yb Try.f42 0) (Yn a0 a1 y3 x47) (.exit 0) (J8 a0 a1 r)) := by
 intro fuel
 induction fuel with
 | zero => intro y3 x47 r h; rw [Zf.eq_1] at h; cases h
 | succ fuel ih =>
  intro y3 x47 r h
  rw [Zf.eq_2] at h
  rcases ifs h with ⟨h3307, h⟩ | ⟨h3307, h⟩
  ·obtain ⟨h3308, h⟩ := ifn h
   have e3309 := (show Z4 Try.prog 3 (x47.toNat * 1) (List.map vi ((a0.stops.getD a1.toNat default).positions)) = some (vi (((a0.stops.getD a1.toNat default).positions).getD x47.toNat 0)) from Yr ag3 vi ((a0.stops.getD a1.toNat default).positions) 0 h3308 (by omega))
   obtain ⟨h3310, h⟩ := ifn h
   have e3311 := (show (0 + x47.toNat * 1) + 1 <= List.length (List.map vi y3) from (by simp only [length_map]; omega))
   obtain ⟨r3360, h3359, h⟩ := bs h
   have hph3359 := Qc4 k a0 a1 x47 _ _ _ _ h3359
   have e3361 := (an (an (an (show Wv (VV.rf 3 0 y3.length) (VV.rf 3 0 ((y3.set x47.toNat 9223372036854775807).length)) from (Wv.of_eq (by simp))) tt) (an (show putT (0 + x47.toNat * 1) (List.map vi y3) [vi 9223372036854775807] = List.map vi (y3.set x47.toNat 9223372036854775807) from (by exact Qhy y3 h3310 9223372036854775807 (by omega))) tt)) (VRun.loop hph3359))
   have h2 := ih _ _ _ h
   obtain ⟨q, hv, hq⟩ := pkR (rd := none) (P := Try.prog) (fn := Try.f42) (k := 0) (s := (Yn a0 a1 y3 x47)) (ans := [.reg (.n :: []), .br true, .reg (Qyv a0 a1 x47), .reg (nN 4 []), .reg (nN 3 []), .sub ⟨[(7, none), (8, none), (9, some (VV.rf 3 0 ((y3.set x47.toNat 9223372036854775807).length))), (10, none), (11, none), (45, none), (46, none), (47, none), (55, none), (56, none), (57, none)], [none, none, none, some (List.map vi (y3.set x47.toNat 9223372036854775807))], []⟩ (.exit 2) (J7 a0 a1 x47 r3360), .reg (.n :: .n :: [])]) (c := ⟨[(7, none), (8, none), (9, none), (45, none), (46, none), (47, none)], [none, none, none, none], []⟩) (e := .normal) (s1 := (Yn a0 a1 r3360 (w64 (x47 + 1)))) (an (an (ti tt) (an (an (dt h3307) tt) (an (an (ti (an h3308 (an e3309 (ti (ti tt))))) (an (ti (ti (an h3310 (an e3311 tt)))) (an (ti (ti (ti tt))) e3361))) (ti (ti tt))))) (ti tt)) (by kernel_rfl)
   exact Zc pm pn hv hq h2
  ·injection h with h; subst h
   exact Zi (c := ⟨[(9, none)], [none, none, none, none], []⟩) (s1 := (J8 a0 a1 y3)) pm pn (ans := [.reg (.n :: []), .br false]) (by kernel_rfl) (by intro e; cases e) (an (an (ti tt) (an (df h3307) tt)) (ti tt))
def Jw (k : Nat) (a0 : Xt) (a1 : Int) (a2 : (List (List Int))) : Option (List Int) :=
 if 0 < a1 then (if 0 <= w64 (a1 - 1) /\ w64 (a1 - 1) < (a0.stops.length : Int) then (if 0 <= w64 (a1 - 1) /\ w64 (a1 - 1) < (a2.length : Int) then (if 0 <= a1 /\ a1 < (a0.stops.length : Int) then (if 0 <= (((a0.stops.getD a1.toNat default).positions).length : Int) /\ (((a0.stops.getD a1.toNat default).positions).length : Int) <= 1000000000 then ((Ze k a0 a1 a2 k (List.replicate (((a0.stops.getD a1.toNat default).positions).length : Int).toNat (0 : Int)) 0).bind fun r3186 => (some r3186)) else none) else none) else none) else none) else (if 0 <= a1 /\ a1 < (a0.stops.length : Int) then (if 0 <= (((a0.stops.getD a1.toNat default).positions).length : Int) /\ (((a0.stops.getD a1.toNat default).positions).length : Int) <= 1000000000 then ((Zf k a0 a1 k (List.replicate (((a0.stops.getD a1.toNat default).positions).length : Int).toNat (0 : Int)) 0).bind fun r3363 => (some r3363)) else none) else none)
theorem Qet (k : Nat) (a0 : Xt) (a1 : Int) (a2 : (List (List Int))) (r : (List Int)) (h : Jw k a0 a1 a2 = some r) : VC Try.prog 42 [VV.ag (Xd a0), vi a1, VV.tr (List.map v_31 a2) a2.length] (VV.fw 1 (List.map vi r) r.length) := by
 unfold Jw at h
 rcases ifs h with ⟨h3029, h⟩ | ⟨h3029, h⟩
 ·obtain ⟨h3030, h⟩ := ifn h
  have e3031 := (show Z4 Try.prog 31 ((w64 (a1 - 1)).toNat * 8 + 7) (flatMap Qy a0.stops) = some (VV.tr (List.map vi ((a0.stops.getD (w64 (a1 - 1)).toNat default).positions)) (((a0.stops.getD (w64 (a1 - 1)).toNat default).positions).length)) from (Qes ag31 Qy 8 7 Qb1 (by omega) a0.stops default h3030 (by omega)).trans rfl)
  obtain ⟨h3032, h⟩ := ifn h
  have e3033 := (show Z4 Try.prog 31 ((w64 (a1 - 1)).toNat * 1) (List.map v_31 a2) = some (VV.tr (List.map vi (a2.getD (w64 (a1 - 1)).toNat default)) ((a2.getD (w64 (a1 - 1)).toNat default).length)) from Yr ag31 v_31 a2 default h3032 (by omega))
  have e3034 := (ti (ti (ti (ti (an h3030 (ti (an e3031 (ti (ti (ti (an h3032 (an e3033 (ti (ti tt))))))))))))))
  obtain ⟨h3035, h⟩ := ifn h
  have e3036 := (show Z4 Try.prog 31 (a1.toNat * 8 + 7) (flatMap Qy a0.stops) = some (VV.tr (List.map vi ((a0.stops.getD a1.toNat default).positions)) (((a0.stops.getD a1.toNat default).positions).length)) from (Qes ag31 Qy 8 7 Qb1 (by omega) a0.stops default h3035 (by omega)).trans rfl)
  obtain ⟨h3037, h⟩ := ifn h
  have e3038 := (show 0 <= (((a0.stops.getD a1.toNat default).positions).length : Int) /\ (((a0.stops.getD a1.toNat default).positions).length : Int) = (((a0.stops.getD a1.toNat default).positions).length : Int) /\ (8 * (((a0.stops.getD a1.toNat default).positions).length : Int).toNat) <= 281474976710656 /\ (((a0.stops.getD a1.toNat default).positions).length : Int) < 1099511627776 from ⟨by omega, rfl, by omega, by omega⟩)
  have e3039 := (ti (ti (ti (an h3035 (ti (an e3036 (ti (an e3038 (ti tt)))))))))
  have e3040 := (show Z4 Try.prog 31 (a1.toNat * 8 + 7) (flatMap Qy a0.stops) = some (VV.tr (List.map vi ((a0.stops.getD a1.toNat default).positions)) (((a0.stops.getD a1.toNat default).positions).length)) from (Qes ag31 Qy 8 7 Qb1 (by omega) a0.stops default h3035 (by omega)).trans rfl)
  have e3041 := (ti (ti (ti (an h3035 (ti (an e3040 (ti (ti tt))))))))
  obtain ⟨r3186, h3185, h⟩ := bs h
  have hph3185 := Qc3 k a0 a1 a2 _ _ _ _ h3185
  have e3187 := (an (an (an (show Wv (VV.rf 3 0 ((((a0.stops.getD a1.toNat default).positions).length : Int).toNat)) (VV.rf 3 0 ((List.replicate (((a0.stops.getD a1.toNat default).positions).length : Int).toNat (0 : Int)).length)) from (Wv.of_eq (by simp))) tt) (an (show List.replicate (((a0.stops.getD a1.toNat default).positions).length : Int).toNat (VV.c (.int .i64 0)) = List.map vi (List.replicate (((a0.stops.getD a1.toNat default).positions).length : Int).toNat (0 : Int)) from Qfp _) tt)) (VRun.loop hph3185))
  injection h with h; subst h
  exact Qn pm pn Try.func42 (r0 := VV.fw 1 (List.drop 0 (List.map unfr (List.map vi r3186))) r3186.length) (ans := [.reg (.n :: .n :: []), .reg (nN 6 []), .reg (.n :: .n :: []), .br true, .reg (Q12 a0 a1 a2), .reg (Qvy a0 a1), .reg (Qvz a0 a1), .sub ⟨[(7, none), (8, none), (9, some (VV.rf 3 0 ((List.replicate (((a0.stops.getD a1.toNat default).positions).length : Int).toNat (0 : Int)).length))), (45, none), (46, none), (47, none)], [none, none, none, some (List.map vi (List.replicate (((a0.stops.getD a1.toNat default).positions).length : Int).toNat (0 : Int)))], []⟩ (.exit 0) (J6 a0 a1 a2 r3186), .reg (.n :: .n :: [])]) (fr := true) (by kernel_rfl) (an (an (ti (ti tt)) (an (ti (ti (ti (ti (ti (ti tt)))))) (an (an (ti (ti tt)) (an (dt h3029) e3034)) (an e3039 (an (an e3041 e3187) (an (ti (ti tt)) tt)))))) (an (show List.all (List.map vi r3186) new0 = true from (by exact Qj7 _)) tt)) (Wv.of_eq (Qyw r3186))
 ·obtain ⟨h3188, h⟩ := ifn h
  have e3189 := (show Z4 Try.prog 31 (a1.toNat * 8 + 7) (flatMap Qy a0.stops) = some (VV.tr (List.map vi ((a0.stops.getD a1.toNat default).positions)) (((a0.stops.getD a1.toNat default).positions).length)) from (Qes ag31 Qy 8 7 Qb1 (by omega) a0.stops default h3188 (by omega)).trans rfl)
  obtain ⟨h3190, h⟩ := ifn h
  have e3191 := (show 0 <= (((a0.stops.getD a1.toNat default).positions).length : Int) /\ (((a0.stops.getD a1.toNat default).positions).length : Int) = (((a0.stops.getD a1.toNat default).positions).length : Int) /\ (8 * (((a0.stops.getD a1.toNat default).positions).length : Int).toNat) <= 281474976710656 /\ (((a0.stops.getD a1.toNat default).positions).length : Int) < 1099511627776 from ⟨by omega, rfl, by omega, by omega⟩)
  have e3192 := (ti (ti (ti (an h3188 (ti (an e3189 (ti (an e3191 (ti tt)))))))))
  have e3193 := (show Z4 Try.prog 31 (a1.toNat * 8 + 7) (flatMap Qy a0.stops) = some (VV.tr (List.map vi ((a0.stops.getD a1.toNat default).positions)) (((a0.stops.getD a1.toNat default).positions).length)) from (Qes ag31 Qy 8 7 Qb1 (by omega) a0.stops default h3188 (by omega)).trans rfl)
  have e3194 := (ti (ti (ti (an h3188 (ti (an e3193 (ti (ti tt))))))))
  obtain ⟨r3363, h3362, h⟩ := bs h
  have hph3362 := Qc5 k a0 a1 _ _ _ _ h3362
  have e3364 := (an (an (an (show Wv (VV.rf 3 0 ((((a0.stops.getD a1.toNat default).positions).length : Int).toNat)) (VV.rf 3 0 ((List.replicate (((a0.stops.getD a1.toNat default).positions).length : Int).toNat (0 : Int)).length)) from (Wv.of_eq (by simp))) tt) (an (show List.replicate (((a0.stops.getD a1.toNat default).positions).length : Int).toNat (VV.c (.int .i64 0)) = List.map vi (List.replicate (((a0.stops.getD a1.toNat default).positions).length : Int).toNat (0 : Int)) from Qfp _) tt)) (VRun.loop hph3362))
  injection h with h; subst h
  exact Qn pm pn Try.func42 (r0 := VV.fw 1 (List.drop 0 (List.map unfr (List.map vi r3363))) r3363.length) (ans := [.reg (.n :: .n :: []), .reg (nN 6 []), .reg (.n :: .n :: []), .br false, .reg (Qvy a0 a1), .reg (Qvz a0 a1), .sub ⟨[(7, none), (8, none), (9, some (VV.rf 3 0 ((List.replicate (((a0.stops.getD a1.toNat default).positions).length : Int).toNat (0 : Int)).length))), (45, none), (46, none), (47, none)], [none, none, none, some (List.map vi (List.replicate (((a0.stops.getD a1.toNat default).positions).length : Int).toNat (0 : Int)))], []⟩ (.exit 0) (J8 a0 a1 r3363), .reg (.n :: .n :: [])]) (fr := true) (by kernel_rfl) (an (an (ti (ti tt)) (an (ti (ti (ti (ti (ti (ti tt)))))) (an (an (ti (ti tt)) (an (df h3029) tt)) (an e3192 (an (an e3194 e3364) (an (ti (ti tt)) tt)))))) (an (show List.all (List.map vi r3363) new0 = true from (by exact Qj7 _)) tt)) (Wv.of_eq (Qyw r3363))
def Yo (a0 : (List Int)) (x3 : Int) (x4 : Int) : VS := ⟨mkA [(0, VV.tr (List.map vi a0) a0.length), (3, vi x3), (4, vi x4)], [], .nil⟩
def J9 (a0 : (List Int)) (r : Int) : VS := ⟨mkA [(3, vi r)], [], .nil⟩
def Zg (k : Nat) (a0 : (List Int)) : Nat -> Int -> Int -> Option (Int)
 | 0, _, _ => none
 | fuel + 1, x3, x4 => if x4 < (a0.length : Int) then (if 0 <= x4 /\ x4 < (a0.length : Int) then (Zg k a0 fuel (minI x3 (a0.getD x4.toNat 0)) (w64 (x4 + 1))) else none) else (some x3)
theorem Qc6 (k : Nat) (a0 : (List Int)) : ∀ (fuel : Nat) (x3 : Int) (x4 : Int) (r : Int), Zg k a0 fuel x3 x4 = some r -> (Y9 none Try.prog (szF Try.f64) (Yb Try.f64 0) (Yo a0 x3 x4) (.exit 0) (J9 a0 r)) := by
 intro fuel
 induction fuel with
 | zero => intro x3 x4 r h; rw [Zg.eq_1] at h; cases h
 | succ fuel ih =>
  intro x3 x4 r h
  rw [Zg.eq_2] at h
  rcases ifs h with ⟨h3513, h⟩ | ⟨h3513, h⟩
  ·obtain ⟨h3514, h⟩ := ifn h
   have e3515 := (show Z4 Try.prog 3 (x4.toNat * 1) (List.map vi a0) = some (vi (a0.getD x4.toNat 0)) from Yr ag3 vi a0 0 h3514 (by omega))
   have e3516 := (ti (ti (ti (an h3514 (an e3515 (ti (ti tt)))))))
   have h2 := ih _ _ _ h
   obtain ⟨q, hv, hq⟩ := pkR (rd := none) (P := Try.prog) (fn := Try.f64) (k := 0) (s := (Yo a0 x3 x4)) (ans := [.reg (nN 4 []), .br true, .reg (nN 4 (.v (vi (a0.getD x4.toNat 0)) :: .n :: .n :: [])), .reg (nN 3 [])]) (c := ⟨[(0, none), (3, none), (4, none)], [], []⟩) (e := .normal) (s1 := (Yo a0 (minI x3 (a0.getD x4.toNat 0)) (w64 (x4 + 1)))) (an (an (an (ti (ti (ti (ti tt)))) (an (dt h3513) tt)) (an e3516 (ti (ti (ti tt))))) (ti tt)) (by kernel_rfl)
   exact Zc pm pn hv hq h2
  ·injection h with h; subst h
   exact Zi (c := ⟨[(3, none)], [], []⟩) (s1 := (J9 a0 x3)) pm pn (ans := [.reg (nN 4 []), .br false]) (by kernel_rfl) (by intro e; cases e) (an (an (ti (ti (ti (ti tt)))) (an (df h3513) tt)) (ti tt))
def Y4 (k : Nat) (a0 : (List Int)) : Option Int :=
 if (a0.length : Int) < 1 then none else (if (0 : Int) <= 0 /\ 0 < (a0.length : Int) then ((Zg k a0 k (a0.getD ((0 : Int)).toNat 0) 1).bind fun r3518 => (some r3518)) else none)
theorem Qew (k : Nat) (a0 : (List Int)) (r : Int) (h : Y4 k a0 = some r) : VC Try.prog 64 [VV.tr (List.map vi a0) a0.length] (vi r) := by
 unfold Y4 at h
 rcases ifs h with ⟨h3502, h⟩ | ⟨h3502, h⟩
 ·cases h
 ·obtain ⟨h3503, h⟩ := ifn h
  have e3504 := (show Z4 Try.prog 3 (((0 : Int)).toNat * 1) (List.map vi a0) = some (vi (a0.getD ((0 : Int)).toNat 0)) from Yr ag3 vi a0 0 h3503 (by omega))
  obtain ⟨r3518, h3517, h⟩ := bs h
  have hph3517 := Qc6 k a0 _ _ _ _ h3517
  have e3519 := (an (ti tt) (VRun.loop hph3517))
  injection h with h; subst h
  exact Qn pm pn Try.func64 (r0 := vi r3518) (ans := [.reg (.n :: []), .reg (nN 3 []), .br false, .reg (.n :: .n :: .v (vi (a0.getD ((0 : Int)).toNat 0)) :: .n :: []), .reg (.n :: []), .sub ⟨[(0, none), (3, none), (4, none)], [], []⟩ (.exit 0) (J9 a0 r3518), .reg (.n :: .n :: [])]) (fr := true) (by kernel_rfl) (an (an (ti tt) (an (an (ti (ti (ti tt))) (an (df h3502) tt)) (an (ti (an h3503 (an e3504 (ti tt)))) (an (an (ti tt) e3519) (an (ti (ti tt)) tt))))) (ti tt)) (Wv.refl _)
def Qz1 (z0 : (List (List Int))) (z1 : Int) : List Ans := (nN 5 (.v (VV.tr (List.map vi (z0.getD (w64 ((z0.length : Int) - 1)).toNat default)) ((z0.getD (w64 ((z0.length : Int) - 1)).toNat default).length)) :: .call (vi z1) :: .n :: []))
def Qa3 (k : Nat) (a0 : (List (List Int))) : Option Int :=
 if (a0.length : Int) = 0 then (some 0) else (if 0 <= w64 ((a0.length : Int) - 1) /\ w64 ((a0.length : Int) - 1) < (a0.length : Int) then ((Y4 k (a0.getD (w64 ((a0.length : Int) - 1)).toNat default)).bind fun r3527 => (some r3527)) else none)
theorem Qhz (k : Nat) (a0 : (List (List Int))) (r : Int) (h : Qa3 k a0 = some r) : VC Try.prog 29 [VV.tr (List.map v_31 a0) a0.length] (vi r) := by
 unfold Qa3 at h
 rcases ifs h with ⟨h3524, h⟩ | ⟨h3524, h⟩
 ·injection h with h; subst h
  exact Qn pm pn Try.func29 (r0 := vi 0) (ans := [.reg (.n :: []), .reg (nN 3 []), .br true, .reg (.n :: [])]) (fr := true) (by kernel_rfl) (an (an (ti tt) (an (ti (ti (ti tt))) (an (dt h3524) (an (ti tt) tt)))) (ti tt)) (Wv.refl _)
 ·obtain ⟨h3525, h⟩ := ifn h
  have e3526 := (show Z4 Try.prog 31 ((w64 ((a0.length : Int) - 1)).toNat * 1) (List.map v_31 a0) = some (VV.tr (List.map vi (a0.getD (w64 ((a0.length : Int) - 1)).toNat default)) ((a0.getD (w64 ((a0.length : Int) - 1)).toNat default).length)) from Yr ag31 v_31 a0 default h3525 (by omega))
  obtain ⟨r3527, h3528, h⟩ := bs h
  have e3529 := (Qew k (a0.getD (w64 ((a0.length : Int) - 1)).toNat default) _ h3528)
  have e3530 := (ti (ti (ti (ti (an h3525 (an e3526 (an e3529 (ti tt))))))))
  injection h with h; subst h
  exact Qn pm pn Try.func29 (r0 := vi r3527) (ans := [.reg (.n :: []), .reg (nN 3 []), .br false, .reg (Qz1 a0 r3527)]) (fr := true) (by kernel_rfl) (an (an (ti tt) (an (an (ti (ti (ti tt))) (an (df h3524) tt)) (an e3530 tt))) (ti tt)) (Wv.refl _)
end Go.Proofs.Ytjomicmhnbmhoaa.Vg

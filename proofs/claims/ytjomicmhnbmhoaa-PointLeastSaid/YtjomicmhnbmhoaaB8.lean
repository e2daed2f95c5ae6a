import Derived.Test.YtjomicmhnbmhoaaB6
namespace Go.Proofs.Ytjomicmhnbmhoaa.Vg
set_option maxRecDepth 100000
set_option maxHeartbeats 4000000
set_option linter.unusedVariables false
set_option linter.unusedSimpArgs false
open Go Go.Proofs.Ytjomicmhnbmhoaa.Ev Go.Proofs.Ytjomicmhnbmhoaa.Vv
open List (flatMap length_cons length_nil length_map length_append map_cons map_nil length_replicate)
def v_31 (x : List Int) : VV := VV.tr (List.map vi x) x.length
def f_31 (x : List Int) : VV := VV.fr (List.map vi x) x.length
theorem Qan (xs : List (List Int)) : (xs.map v_31).map unfr = xs.map v_31 := Qvw (fun _ => rfl) xs
theorem Qxf (xs : List (List Int)) : (xs.map f_31).all VV.still = true := all_map (fun _ => rfl) xs
theorem Qcg (xs : List (List Int)) : (xs.map f_31).map unfr = xs.map v_31 := Qvw (fun _ => rfl) xs
theorem Qzh (xs : List (List Int)) : (xs.map f_31).all new0 = true := all_map (fun _ => rfl) xs
theorem Q8k : Qgw Try.prog 114 = some true := by kernel_rfl
theorem Q8l : szOf Try.prog 114 = some 8 := by kernel_rfl
def Q26 (z0 : X9) (z1 : Int) : List Ans := (.n :: .n :: .v (VV.ag [vs (((z0.stops.getD z1.toNat default).SkyTarget).Name), vi (((z0.stops.getD z1.toNat default).SkyTarget).Azimuth), vi (((z0.stops.getD z1.toNat default).SkyTarget).Height), vi (((z0.stops.getD z1.toNat default).SkyTarget).From), vi (((z0.stops.getD z1.toNat default).SkyTarget).To), vi (((z0.stops.getD z1.toNat default).SkyTarget).Dwell), VV.tr (List.map vi ((z0.stops.getD z1.toNat default).turns)) (((z0.stops.getD z1.toNat default).turns).length), VV.tr (List.map vi ((z0.stops.getD z1.toNat default).positions)) (((z0.stops.getD z1.toNat default).positions).length)]) :: nN 3 [])
def Q27 (z0 : (List (List Int))) (z1 : Int) : List Ans := (nN 3 (.v (VV.tr (List.map vi (z0.getD z1.toNat default)) ((z0.getD z1.toNat default).length)) :: nN 5 []))
def Q28 (z0 : (List (List Int))) (z1 : Int) : List Ans := (.n :: .v (VV.tr (List.map vi (z0.getD z1.toNat default)) ((z0.getD z1.toNat default).length)) :: .n :: [])
def Ya (a0 : X9) (a1 : (List (List Int))) (x18 : Int) : VS := ⟨mkA [(1, VV.tr (List.map v_31 a1) a1.length), (16, VV.tr (flatMap Zi a0.stops) a0.stops.length), (17, vi (a0.stops.length : Int)), (18, vi x18)], [], .nil⟩
def Wx (a0 : X9) (a1 : (List (List Int))) (r : Unit) : VS := ⟨mkA [(4, vi 10)], [], .nil⟩
def J3 (a0 : X9) (a1 : (List (List Int))) (r : Unit) : VS := ⟨mkA [(1, VV.tr (List.map v_31 a1) a1.length)], [], .nil⟩
def Q9 (k : Nat) (a0 : X9) (a1 : (List (List Int))) : Nat -> Int -> Option (Sum Unit Unit)
 | 0, _ => none
 | fuel + 1, x18 => if x18 < (a0.stops.length : Int) then (if 0 <= x18 /\ x18 < (a0.stops.length : Int) then (if 0 <= x18 /\ x18 < (a1.length : Int) then (if ((a1.getD x18.toNat default).length : Int) = (((a0.stops.getD x18.toNat default).turns).length : Int) then (Q9 k a0 a1 fuel (w64 (x18 + 1))) else (some (.inl ()))) else none) else none) else (some (.inr ()))
theorem Qfw (k : Nat) (a0 : X9) (a1 : (List (List Int))) : ∀ (fuel : Nat) (x18 : Int) (r : Sum Unit Unit), Q9 k a0 a1 fuel x18 = some r -> (match r with | .inl r => Jb none Try.prog (szF Try.f41) (Zy Try.f41 0) (Ya a0 a1 x18) .ret (Wx a0 a1 r) | .inr r => Jb none Try.prog (szF Try.f41) (Zy Try.f41 0) (Ya a0 a1 x18) (.exit 0) (J3 a0 a1 r)) := by
 intro fuel
 induction fuel with
 | zero => intro x18 r h; rw [Q9.eq_1] at h; cases h
 | succ fuel ih =>
  intro x18 r h
  rw [Q9.eq_2] at h
  rcases ifs h with ⟨h13989, h⟩ | ⟨h13989, h⟩
  ·obtain ⟨h13990, h⟩ := ifn h
   have e13991 := (Qbm Q8k Zi 8 Q8l Qep a0.stops default h13990 rfl)
   have e13992 := (ti (an h13990 (an e13991 (t3 tt))))
   obtain ⟨h13993, h⟩ := ifn h
   have e13994 := (X8 ag31 v_31 a1 default h13993 rfl)
   have e13995 := (t2 (an h13993 (an e13994 (t5 tt))))
   rcases ifs h with ⟨h13996, h⟩ | ⟨h13996, h⟩
   ·have h2 := ih _ _ h
    obtain ⟨q, hv, hq⟩ := pK none Try.prog Try.f41 0 (Ya a0 a1 x18) [.reg (.n :: []), .br true, .reg (Q26 a0 x18), .reg (Q27 a1 x18), .br false, .reg (.n :: .n :: [])] ⟨(tn [1, 16, 17, 18]), [], []⟩ .normal (Ya a0 a1 (w64 (x18 + 1))) (an (an (ti tt) (an (te h13989) (an (an e13992 (an e13995 (ta h13996))) (t2 tt)))) (ti tt)) (by kernel_rfl)
    cases r <;> exact Qd pm pn hv hq h2
   ·obtain rfl := si h
    exact Qk (c := ⟨[(4, none)], [], []⟩) (s1 := (Wx a0 a1 ())) pm pn (ans := [.reg (.n :: []), .br true, .reg (Q26 a0 x18), .reg (Q27 a1 x18), .br true, .reg (.n :: [])]) (by kernel_rfl) nofun (an (an (ti tt) (an (te h13989) (an e13992 (an e13995 (an (td h13996) (an (ti tt) tt)))))) (ti tt))
  ·obtain rfl := si h
   exact Qk (c := ⟨[(1, none)], [], []⟩) (s1 := (J3 a0 a1 ())) pm pn (ans := [.reg (.n :: []), .br false]) (by kernel_rfl) nofun (an (an (ti tt) (tf h13989)) (ti tt))
def Yb (a1 : (List (List Int))) (x35 : Int) : VS := ⟨mkA [(33, VV.tr (List.map v_31 a1) a1.length), (34, vi (a1.length : Int)), (35, vi x35)], [], .nil⟩
def Wy (a1 : (List (List Int))) (r : Unit) : VS := ⟨mkA [(4, vi 2)], [], .nil⟩
def W9 (a1 : (List (List Int))) (r : Unit) : VS := ⟨mkA [], [], .nil⟩
def Za (k : Nat) (a1 : (List (List Int))) : Nat -> Int -> Option (Sum Unit Unit)
 | 0, _ => none
 | fuel + 1, x35 => if x35 < (a1.length : Int) then (if 0 <= x35 /\ x35 < (a1.length : Int) then ((Yc k 1000000000000 (a1.getD x35.toNat default)).bind fun r14020 => (if r14020 = true then (Za k a1 fuel (w64 (x35 + 1))) else (some (.inl ())))) else none) else (some (.inr ()))
theorem Qfx (k : Nat) (a1 : (List (List Int))) : ∀ (fuel : Nat) (x35 : Int) (r : Sum Unit Unit), Za k a1 fuel x35 = some r -> (match r with | .inl r => Jb none Try.prog (szF Try.f41) (Zy Try.f41 1) (Yb a1 x35) .ret (Wy a1 r) | .inr r => Jb none Try.prog (szF Try.f41) (Zy Try.f41 1) (Yb a1 x35) (.exit 2) (W9 a1 r)) := by
 intro fuel
 induction fuel with
 | zero => intro x35 r h; rw [Za.eq_1] at h; cases h
 | succ fuel ih =>
  intro x35 r h
  rw [Za.eq_2] at h
  rcases ifs h with ⟨h14017, h⟩ | ⟨h14017, h⟩
  ·obtain ⟨h14018, h⟩ := ifn h
   have e14019 := (X8 ag31 v_31 a1 default h14018 rfl)
   obtain ⟨r14020, h14021, h⟩ := bs h
   have e14022 := (Qap k 1000000000000 (a1.getD x35.toNat default) _ h14021)
   rcases ifs h with ⟨h14023, h⟩ | ⟨h14023, h⟩
   ·have h2 := ih _ _ h
    obtain ⟨q, hv, hq⟩ := pK none Try.prog Try.f41 1 (Yb a1 x35) [.reg (.n :: []), .br true, .reg (Q28 a1 x35), .reg (.n :: .call (vb r14020) :: .n :: []), .br false, .reg (.n :: .n :: [])] ⟨(tn [33, 34, 35]), [], []⟩ .normal (Yb a1 (w64 (x35 + 1))) (an (an (ti tt) (an (te h14017) (an (an (an h14018 (an e14019 (ti tt))) (an (ti (an e14022 (ti tt))) (an (Qh h14023) tt))) (t2 tt)))) (ti tt)) (by kernel_rfl)
    cases r <;> exact Qd pm pn hv hq h2
   ·obtain rfl := si h
    exact Qk (c := ⟨[(4, none)], [], []⟩) (s1 := (Wy a1 ())) pm pn (ans := [.reg (.n :: []), .br true, .reg (Q28 a1 x35), .reg (.n :: .call (vb r14020) :: .n :: []), .br true, .reg (.n :: [])]) (by kernel_rfl) nofun (an (an (ti tt) (an (te h14017) (an (an h14018 (an e14019 (ti tt))) (an (ti (an e14022 (ti tt))) (an (Qr (Qn h14023)) (an (ti tt) tt)))))) (ti tt))
  ·obtain rfl := si h
   exact Qk (c := ⟨[], [], []⟩) (s1 := (W9 a1 ())) pm pn (ans := [.reg (.n :: []), .br false]) (by kernel_rfl) nofun (an (an (ti tt) (tf h14017)) (ti tt))
def Yj (k : Nat) (a0 : X9) (a1 : (List (List Int))) : Option Int :=
 if (a1.length : Int) = (a0.stops.length : Int) then ((Q9 k a0 a1 k 0).bind fun r13998 => (match r13998 with | .inl r13999 => (some 10) | .inr r14000 => ((Za k a1 k 0).bind fun r14025 => (match r14025 with | .inl r14026 => (some 2) | .inr r14027 => (some 0))))) else (some 10)
theorem Qg7 (k : Nat) (a0 : X9) (a1 : (List (List Int))) (r : Int) (h : Yj k a0 a1 = some r) : VC Try.prog 41 [VV.ag (Jk a0), VV.tr (List.map v_31 a1) a1.length] (vi r) := by
 unfold Yj at h
 rcases ifs h with ⟨h13972, h⟩ | ⟨h13972, h⟩
 ·obtain ⟨r13998, h13997, h⟩ := bs h
  have hph13997 := Qfw k a0 a1 _ _ _ h13997
  cases r13998 with
  | inl r13999 =>
   dsimp only at h
   have e14001 := (an (ti tt) (VRun.loop hph13997))
   obtain rfl := si h
   exact Qi pm pn Try.func41 (r0 := vi 10) (ans := [.reg (.n :: .n :: []), .reg (nN 6 []), .br false, .reg (nN 4 []), .sub ⟨(tn [1, 16, 17, 18]), [], []⟩ .ret (Wx a0 a1 r13999)]) (fr := true) (by kernel_rfl) (an (an (t2 tt) (an (an (t6 tt) (ta h13972)) (an (t4 tt) e14001))) (ti tt)) (Wv.refl _)
  | inr r14000 =>
   dsimp only at h
   have e14002 := (an (ti tt) (VRun.loop hph13997))
   obtain ⟨r14025, h14024, h⟩ := bs h
   have hph14024 := Qfx k a1 _ _ _ h14024
   cases r14025 with
   | inl r14026 =>
    dsimp only at h
    have e14028 := (an (ti tt) (VRun.loop hph14024))
    obtain rfl := si h
    exact Qi pm pn Try.func41 (r0 := vi 2) (ans := [.reg (.n :: .n :: []), .reg (nN 6 []), .br false, .reg (nN 4 []), .sub ⟨(tn [1, 16, 17, 18]), [], []⟩ (.exit 0) (J3 a0 a1 r14000), .reg (nN 3 []), .sub ⟨(tn [33, 34, 35]), [], []⟩ .ret (Wy a1 r14026)]) (fr := true) (by kernel_rfl) (an (an (t2 tt) (an (an (t6 tt) (ta h13972)) (an (an (t4 tt) e14002) (an (t3 tt) e14028)))) (ti tt)) (Wv.refl _)
   | inr r14027 =>
    dsimp only at h
    have e14029 := (an (ti tt) (VRun.loop hph14024))
    obtain rfl := si h
    exact Qi pm pn Try.func41 (r0 := vi 0) (ans := [.reg (.n :: .n :: []), .reg (nN 6 []), .br false, .reg (nN 4 []), .sub ⟨(tn [1, 16, 17, 18]), [], []⟩ (.exit 0) (J3 a0 a1 r14000), .reg (nN 3 []), .sub ⟨(tn [33, 34, 35]), [], []⟩ (.exit 2) (W9 a1 r14027), .reg (.n :: [])]) (fr := true) (by kernel_rfl) (an (an (t2 tt) (an (an (t6 tt) (ta h13972)) (an (an (t4 tt) e14002) (an (an (t3 tt) e14029) (an (ti tt) tt))))) (ti tt)) (Wv.refl _)
 ·obtain rfl := si h
  exact Qi pm pn Try.func41 (r0 := vi 10) (ans := [.reg (.n :: .n :: []), .reg (nN 6 []), .br true, .reg (.n :: [])]) (fr := true) (by kernel_rfl) (an (an (t2 tt) (an (t6 tt) (an (td h13972) (an (ti tt) tt)))) (ti tt)) (Wv.refl _)
def Q68 (z0 : (List (List Int))) (z1 : Int) (z2 : Int) : List Ans := (.n :: .n :: .v (vi ((z0.getD (w64 (z1 - 1)).toNat default).getD z2.toNat 0)) :: .n :: .n :: [])
def Q69 (z0 : List Int) (z1 : Int) (z2 : X9) (z3 : Int) (z4 : Int) (z5 : Int) : List Ans := (nN 5 (.v (vi (z0.getD z1.toNat 0)) :: nN 4 (.v (vi (((z2.stops.getD (w64 (z3 - 1)).toNat default).positions).getD z4.toNat 0)) :: .n :: .call (vi z5) :: nN 4 [])))
def Q29 (z0 : X9) (z1 : Int) (z2 : Int) : List Ans := (.n :: .n :: .v (vi (((z0.stops.getD z1.toNat default).positions).getD z2.toNat 0)) :: .n :: .n :: [])
def Q7a (z0 : List Int) (z1 : Int) (z2 : X9) (z3 : Int) (z4 : Int) : List Ans := (nN 5 (.v (vi (z0.getD z1.toNat 0)) :: nN 4 (.v (vi (([z2.begin] : List Int).getD z3.toNat 0)) :: .n :: .call (vi z4) :: nN 4 [])))
def Qc5 (a0 : X9) (a1 : Int) (a2 : (List (List Int))) (x47 : Int) (y3z : List Int) (x57 : Int) : VS := ⟨mkA [(7, VV.tr (List.map vi ((a0.stops.getD (w64 (a1 - 1)).toNat default).positions)) (((a0.stops.getD (w64 (a1 - 1)).toNat default).positions).length)), (8, VV.tr (List.map vi (a2.getD (w64 (a1 - 1)).toNat default)) ((a2.getD (w64 (a1 - 1)).toNat default).length)), (9, VV.rf 3 0 y3z.length), (10, vi x47), (11, vi (((a0.stops.getD a1.toNat default).positions).getD x47.toNat 0)), (45, VV.tr (List.map vi ((a0.stops.getD a1.toNat default).positions)) (((a0.stops.getD a1.toNat default).positions).length)), (46, vi (((a0.stops.getD a1.toNat default).positions).length : Int)), (47, vi x47), (55, VV.tr (List.map vi (a2.getD (w64 (a1 - 1)).toNat default)) ((a2.getD (w64 (a1 - 1)).toNat default).length)), (56, vi ((a2.getD (w64 (a1 - 1)).toNat default).length : Int)), (57, vi x57)], [some ⟨true, 1, Jk a0⟩, some ⟨false, 1, [vi a0.begin]⟩, some ⟨false, 1, [vi 0]⟩, some ⟨false, 1, List.map vi y3z⟩], .nil⟩
def Qcl (a0 : X9) (a1 : Int) (a2 : (List (List Int))) (x47 : Int) (r : (List Int)) : VS := ⟨mkA [(7, VV.tr (List.map vi ((a0.stops.getD (w64 (a1 - 1)).toNat default).positions)) (((a0.stops.getD (w64 (a1 - 1)).toNat default).positions).length)), (8, VV.tr (List.map vi (a2.getD (w64 (a1 - 1)).toNat default)) ((a2.getD (w64 (a1 - 1)).toNat default).length)), (9, VV.rf 3 0 r.length), (45, VV.tr (List.map vi ((a0.stops.getD a1.toNat default).positions)) (((a0.stops.getD a1.toNat default).positions).length)), (46, vi (((a0.stops.getD a1.toNat default).positions).length : Int)), (47, vi x47)], [some ⟨true, 1, Jk a0⟩, some ⟨false, 1, [vi a0.begin]⟩, some ⟨false, 1, [vi 0]⟩, some ⟨false, 1, List.map vi r⟩], .nil⟩
def Xn (k : Nat) (a0 : X9) (a1 : Int) (a2 : (List (List Int))) (x47 : Int) : Nat -> (List Int) -> Int -> Option ((List Int))
 | 0, _, _ => none
 | fuel + 1, y3z, x57 => if x57 < ((a2.getD (w64 (a1 - 1)).toNat default).length : Int) then (if 0 <= x57 /\ x57 < ((a2.getD (w64 (a1 - 1)).toNat default).length : Int) then (if 0 <= x47 /\ x47 < (y3z.length : Int) then (if 0 <= x57 /\ x57 < (((a0.stops.getD (w64 (a1 - 1)).toNat default).positions).length : Int) then ((Yh k (((a0.stops.getD (w64 (a1 - 1)).toNat default).positions).getD x57.toNat 0) (((a0.stops.getD a1.toNat default).positions).getD x47.toNat 0)).bind fun r14519 => (Xn k a0 a1 a2 x47 fuel (y3z.set x47.toNat (minI (y3z.getD x47.toNat 0) (w64 (((a2.getD (w64 (a1 - 1)).toNat default).getD x57.toNat 0) + r14519)))) (w64 (x57 + 1)))) else none) else none) else none) else (some y3z)
theorem Qhx (k : Nat) (a0 : X9) (a1 : Int) (a2 : (List (List Int))) (x47 : Int) : ∀ (fuel : Nat) (y3z : List Int) (x57 : Int) (r : (List Int)), Xn k a0 a1 a2 x47 fuel y3z x57 = some r -> (Jb none Try.prog (szF Try.f42) (Zy Try.f42 1) (Qc5 a0 a1 a2 x47 y3z x57) (.exit 2) (Qcl a0 a1 a2 x47 r)) := by
 intro fuel
 induction fuel with
 | zero => intro y3z x57 r h; rw [Xn.eq_1] at h; cases h
 | succ fuel ih =>
  intro y3z x57 r h
  rw [Xn.eq_2] at h
  rcases ifs h with ⟨h14512, h⟩ | ⟨h14512, h⟩
  ·obtain ⟨h14513, h⟩ := ifn h
   have e14514 := (X8 ag3 vi (a2.getD (w64 (a1 - 1)).toNat default) 0 h14513 rfl)
   obtain ⟨h14515, h⟩ := ifn h
   have e14516 := (show Zg Try.prog 3 (0 + x47.toNat * 1) (List.map vi y3z) = some (vi (y3z.getD x47.toNat 0)) from X8 ag3 vi y3z 0 h14515 (by omega))
   obtain ⟨h14517, h⟩ := ifn h
   have e14518 := (X8 ag3 vi ((a0.stops.getD (w64 (a1 - 1)).toNat default).positions) 0 h14517 rfl)
   obtain ⟨r14519, h14520, h⟩ := bs h
   have e14521 := (Qdl k (((a0.stops.getD (w64 (a1 - 1)).toNat default).positions).getD x57.toNat 0) (((a0.stops.getD a1.toNat default).positions).getD x47.toNat 0) _ h14520)
   have e14522 := (show (0 + x47.toNat * 1) + 1 <= List.length (List.map vi y3z) from (by simp only [length_map]; omega))
   have e14523 := (t4 (an h14515 (an e14516 (t3 (an h14517 (an e14518 (ti (an e14521 (t2 (an h14515 (an e14522 tt)))))))))))
   have h2 := ih _ _ _ h
   obtain ⟨q, hv, hq⟩ := pK none Try.prog Try.f42 1 (Qc5 a0 a1 a2 x47 y3z x57) [.reg (.n :: []), .br true, .reg (Q68 a2 a1 x57), .reg (Q69 y3z x47 a0 a1 x57 r14519), .reg (.n :: .n :: [])] ⟨[(7, none), (8, none), (9, some (VV.rf 3 0 ((y3z.set x47.toNat (minI (y3z.getD x47.toNat 0) (w64 (((a2.getD (w64 (a1 - 1)).toNat default).getD x57.toNat 0) + r14519)))).length))), (10, none), (11, none), (45, none), (46, none), (47, none), (55, none), (56, none), (57, none)], [none, none, none, some (List.map vi (y3z.set x47.toNat (minI (y3z.getD x47.toNat 0) (w64 (((a2.getD (w64 (a1 - 1)).toNat default).getD x57.toNat 0) + r14519)))))], []⟩ .normal (Qc5 a0 a1 a2 x47 (y3z.set x47.toNat (minI (y3z.getD x47.toNat 0) (w64 (((a2.getD (w64 (a1 - 1)).toNat default).getD x57.toNat 0) + r14519)))) (w64 (x57 + 1))) (an (an (ti tt) (an (te h14512) (an (an (ti (an h14513 (an e14514 (t2 tt)))) e14523) (t2 tt)))) (an (an (show Wv (VV.rf 3 0 y3z.length) (VV.rf 3 0 ((y3z.set x47.toNat (minI (y3z.getD x47.toNat 0) (w64 (((a2.getD (w64 (a1 - 1)).toNat default).getD x57.toNat 0) + r14519)))).length)) from (Wv.of_eq (by simp))) tt) (an (show putT (0 + x47.toNat * 1) (List.map vi y3z) [vi (minI (y3z.getD x47.toNat 0) (w64 (((a2.getD (w64 (a1 - 1)).toNat default).getD x57.toNat 0) + r14519)))] = List.map vi (y3z.set x47.toNat (minI (y3z.getD x47.toNat 0) (w64 (((a2.getD (w64 (a1 - 1)).toNat default).getD x57.toNat 0) + r14519)))) from (by exact Qkx y3z h14515 (minI (y3z.getD x47.toNat 0) (w64 (((a2.getD (w64 (a1 - 1)).toNat default).getD x57.toNat 0) + r14519))) (by omega))) tt))) (by kernel_rfl)
   exact Qd pm pn hv hq h2
  ·obtain rfl := si h
   exact Qk (c := ⟨(tn [7, 8, 9, 45, 46, 47]), [none, none, none, none], []⟩) (s1 := (Qcl a0 a1 a2 x47 y3z)) pm pn (ans := [.reg (.n :: []), .br false]) (by kernel_rfl) nofun (an (an (ti tt) (tf h14512)) (ti tt))
def Qc6 (a0 : X9) (a1 : Int) (a2 : (List (List Int))) (y3 : List Int) (x47 : Int) : VS := ⟨mkA [(7, VV.tr (List.map vi ((a0.stops.getD (w64 (a1 - 1)).toNat default).positions)) (((a0.stops.getD (w64 (a1 - 1)).toNat default).positions).length)), (8, VV.tr (List.map vi (a2.getD (w64 (a1 - 1)).toNat default)) ((a2.getD (w64 (a1 - 1)).toNat default).length)), (9, VV.rf 3 0 y3.length), (45, VV.tr (List.map vi ((a0.stops.getD a1.toNat default).positions)) (((a0.stops.getD a1.toNat default).positions).length)), (46, vi (((a0.stops.getD a1.toNat default).positions).length : Int)), (47, vi x47)], [some ⟨true, 1, Jk a0⟩, some ⟨false, 1, [vi a0.begin]⟩, some ⟨false, 1, [vi 0]⟩, some ⟨false, 1, List.map vi y3⟩], .nil⟩
def Qcm (a0 : X9) (a1 : Int) (a2 : (List (List Int))) (r : (List Int)) : VS := ⟨mkA [(9, VV.rf 3 0 r.length)], [some ⟨true, 1, Jk a0⟩, some ⟨false, 1, [vi a0.begin]⟩, some ⟨false, 1, [vi 0]⟩, some ⟨false, 1, List.map vi r⟩], .nil⟩
def Xd (k : Nat) (a0 : X9) (a1 : Int) (a2 : (List (List Int))) : Nat -> (List Int) -> Int -> Option ((List Int))
 | 0, _, _ => none
 | fuel + 1, y3, x47 => if x47 < (((a0.stops.getD a1.toNat default).positions).length : Int) then (if 0 <= x47 /\ x47 < (((a0.stops.getD a1.toNat default).positions).length : Int) then (if 0 <= x47 /\ x47 < (y3.length : Int) then ((Xn k a0 a1 a2 x47 k (y3.set x47.toNat 9223372036854775807) 0).bind fun r14525 => (Xd k a0 a1 a2 fuel r14525 (w64 (x47 + 1)))) else none) else none) else (some y3)
theorem Qhy (k : Nat) (a0 : X9) (a1 : Int) (a2 : (List (List Int))) : ∀ (fuel : Nat) (y3 : List Int) (x47 : Int) (r : (List Int)), Xd k a0 a1 a2 fuel y3 x47 = some r -> (Jb none Try.prog (szF Try.f42) (Zy Try.f42 0) (Qc6 a0 a1 a2 y3 x47) (.exit 0) (Qcm a0 a1 a2 r)) := by
 intro fuel
 induction fuel with
 | zero => intro y3 x47 r h; rw [Xd.eq_1] at h; cases h
 | succ fuel ih =>
  intro y3 x47 r h
  rw [Xd.eq_2] at h
  rcases ifs h with ⟨h14480, h⟩ | ⟨h14480, h⟩
  ·obtain ⟨h14481, h⟩ := ifn h
   have e14482 := (X8 ag3 vi ((a0.stops.getD a1.toNat default).positions) 0 h14481 rfl)
   obtain ⟨h14483, h⟩ := ifn h
   have e14484 := (show (0 + x47.toNat * 1) + 1 <= List.length (List.map vi y3) from (by simp only [length_map]; omega))
   obtain ⟨r14525, h14524, h⟩ := bs h
   have hph14524 := Qhx k a0 a1 a2 x47 _ _ _ _ h14524
   have e14526 := (an (an (an (show Wv (VV.rf 3 0 y3.length) (VV.rf 3 0 ((y3.set x47.toNat 9223372036854775807).length)) from (Wv.of_eq (by simp))) tt) (an (show putT (0 + x47.toNat * 1) (List.map vi y3) [vi 9223372036854775807] = List.map vi (y3.set x47.toNat 9223372036854775807) from (by exact Qkx y3 h14483 9223372036854775807 (by omega))) tt)) (VRun.loop hph14524))
   have h2 := ih _ _ _ h
   obtain ⟨q, hv, hq⟩ := pK none Try.prog Try.f42 0 (Qc6 a0 a1 a2 y3 x47) [.reg (.n :: []), .br true, .reg (Q29 a0 a1 x47), .reg (nN 4 []), .reg (nN 3 []), .sub ⟨[(7, none), (8, none), (9, some (VV.rf 3 0 ((y3.set x47.toNat 9223372036854775807).length))), (10, none), (11, none), (45, none), (46, none), (47, none), (55, none), (56, none), (57, none)], [none, none, none, some (List.map vi (y3.set x47.toNat 9223372036854775807))], []⟩ (.exit 2) (Qcl a0 a1 a2 x47 r14525), .reg (.n :: .n :: [])] ⟨(tn [7, 8, 9, 45, 46, 47]), [none, none, none, none], []⟩ .normal (Qc6 a0 a1 a2 r14525 (w64 (x47 + 1))) (an (an (ti tt) (an (te h14480) (an (an (ti (an h14481 (an e14482 (t2 tt)))) (an (t2 (an h14483 (an e14484 tt))) (an (t3 tt) e14526))) (t2 tt)))) (ti tt)) (by kernel_rfl)
   exact Qd pm pn hv hq h2
  ·obtain rfl := si h
   exact Qk (c := ⟨[(9, none)], [none, none, none, none], []⟩) (s1 := (Qcm a0 a1 a2 y3)) pm pn (ans := [.reg (.n :: []), .br false]) (by kernel_rfl) nofun (an (an (ti tt) (tf h14480)) (ti tt))
def Q7b (z0 : X9) (z1 : Int) (z2 : (List (List Int))) : List Ans := (nN 6 (.v (VV.tr (List.map vi ((z0.stops.getD (w64 (z1 - 1)).toNat default).positions)) (((z0.stops.getD (w64 (z1 - 1)).toNat default).positions).length)) :: nN 4 (.v (VV.tr (List.map vi (z2.getD (w64 (z1 - 1)).toNat default)) ((z2.getD (w64 (z1 - 1)).toNat default).length)) :: .n :: .n :: [])))
def Qz5 (z0 : X9) (z1 : Int) : List Ans := (nN 5 (.v (VV.tr (List.map vi ((z0.stops.getD z1.toNat default).positions)) (((z0.stops.getD z1.toNat default).positions).length)) :: nN 3 []))
def Qz6 (z0 : X9) (z1 : Int) : List Ans := (nN 5 (.v (VV.tr (List.map vi ((z0.stops.getD z1.toNat default).positions)) (((z0.stops.getD z1.toNat default).positions).length)) :: .n :: .n :: []))
theorem Q3a (z0 : (List Int)) : VV.fw 1 (List.drop 0 (List.map unfr (List.map vi z0))) z0.length = VV.fw 1 (List.map vi z0) z0.length := by first | rfl | (simp only [Qdb, Qj, map_cons, map_nil, un_i, length_map]; done) | (simp only [Qdb, Qj, map_cons, map_nil, un_i, length_map]; rfl) | (simp only [Qdb, Qj, map_cons, map_nil, un_i, length_map, length_cons, length_nil, length_append]; done)
def Qc7 (a0 : X9) (a1 : Int) (x47 : Int) (y3z : List Int) (x57 : Int) : VS := ⟨mkA [(7, VV.rf 1 0 1), (8, VV.rf 2 0 1), (9, VV.rf 3 0 y3z.length), (10, vi x47), (11, vi (((a0.stops.getD a1.toNat default).positions).getD x47.toNat 0)), (45, VV.tr (List.map vi ((a0.stops.getD a1.toNat default).positions)) (((a0.stops.getD a1.toNat default).positions).length)), (46, vi (((a0.stops.getD a1.toNat default).positions).length : Int)), (47, vi x47), (55, VV.rf 2 0 1), (56, vi 1), (57, vi x57)], [some ⟨true, 1, Jk a0⟩, some ⟨false, 1, [vi a0.begin]⟩, some ⟨false, 1, [vi 0]⟩, some ⟨false, 1, List.map vi y3z⟩], .nil⟩
def Qcn (a0 : X9) (a1 : Int) (x47 : Int) (r : (List Int)) : VS := ⟨mkA [(7, VV.rf 1 0 1), (8, VV.rf 2 0 1), (9, VV.rf 3 0 r.length), (45, VV.tr (List.map vi ((a0.stops.getD a1.toNat default).positions)) (((a0.stops.getD a1.toNat default).positions).length)), (46, vi (((a0.stops.getD a1.toNat default).positions).length : Int)), (47, vi x47)], [some ⟨true, 1, Jk a0⟩, some ⟨false, 1, [vi a0.begin]⟩, some ⟨false, 1, [vi 0]⟩, some ⟨false, 1, List.map vi r⟩], .nil⟩
def X6 (k : Nat) (a0 : X9) (a1 : Int) (x47 : Int) : Nat -> (List Int) -> Int -> Option ((List Int))
 | 0, _, _ => none
 | fuel + 1, y3z, x57 => if x57 < 1 then (if 0 <= x57 /\ x57 < (([0] : List Int).length : Int) then (if x57 < ((1 : Nat) : Int) then (if 0 <= x47 /\ x47 < (y3z.length : Int) then (if 0 <= x57 /\ x57 < (([a0.begin] : List Int).length : Int) then ((Yh k (([a0.begin] : List Int).getD x57.toNat 0) (((a0.stops.getD a1.toNat default).positions).getD x47.toNat 0)).bind fun r14696 => (X6 k a0 a1 x47 fuel (y3z.set x47.toNat (minI (y3z.getD x47.toNat 0) (w64 ((([0] : List Int).getD x57.toNat 0) + r14696)))) (w64 (x57 + 1)))) else none) else none) else none) else none) else (some y3z)
theorem Qhz (k : Nat) (a0 : X9) (a1 : Int) (x47 : Int) : ∀ (fuel : Nat) (y3z : List Int) (x57 : Int) (r : (List Int)), X6 k a0 a1 x47 fuel y3z x57 = some r -> (Jb none Try.prog (szF Try.f42) (Zy Try.f42 1) (Qc7 a0 a1 x47 y3z x57) (.exit 2) (Qcn a0 a1 x47 r)) := by
 intro fuel
 induction fuel with
 | zero => intro y3z x57 r h; rw [X6.eq_1] at h; cases h
 | succ fuel ih =>
  intro y3z x57 r h
  rw [X6.eq_2] at h
  rcases ifs h with ⟨h14686, h⟩ | ⟨h14686, h⟩
  ·obtain ⟨h14687, h⟩ := ifn h
   obtain ⟨h14688, h⟩ := ifn h
   have e14689 := (show 0 <= x57 /\ x57 < ((1 : Nat) : Int) from ⟨h14687.1, h14688⟩)
   have e14690 := (show Zg Try.prog 3 (0 + x57.toNat * 1) [vi 0] = some (vi (([0] : List Int).getD x57.toNat 0)) from (by rw [show [vi 0] = List.map vi ([0] : List Int) from rfl]; exact X8 ag3 vi ([0] : List Int) 0 h14687 (by omega)))
   obtain ⟨h14691, h⟩ := ifn h
   have e14692 := (show Zg Try.prog 3 (0 + x47.toNat * 1) (List.map vi y3z) = some (vi (y3z.getD x47.toNat 0)) from X8 ag3 vi y3z 0 h14691 (by omega))
   obtain ⟨h14693, h⟩ := ifn h
   have e14694 := (show 0 <= x57 /\ x57 < ((1 : Nat) : Int) from ⟨h14693.1, h14688⟩)
   have e14695 := (show Zg Try.prog 3 (0 + x57.toNat * 1) [vi a0.begin] = some (vi (([a0.begin] : List Int).getD x57.toNat 0)) from (by rw [show [vi a0.begin] = List.map vi ([a0.begin] : List Int) from rfl]; exact X8 ag3 vi ([a0.begin] : List Int) 0 h14693 (by omega)))
   obtain ⟨r14696, h14697, h⟩ := bs h
   have e14698 := (Qdl k (([a0.begin] : List Int).getD x57.toNat 0) (((a0.stops.getD a1.toNat default).positions).getD x47.toNat 0) _ h14697)
   have e14699 := (show (0 + x47.toNat * 1) + 1 <= List.length (List.map vi y3z) from (by simp only [length_map]; omega))
   have e14700 := (t4 (an h14691 (an e14692 (t3 (an e14694 (an e14695 (ti (an e14698 (t2 (an h14691 (an e14699 tt)))))))))))
   have h2 := ih _ _ _ h
   obtain ⟨q, hv, hq⟩ := pK none Try.prog Try.f42 1 (Qc7 a0 a1 x47 y3z x57) [.reg (.n :: []), .br true, .reg (.n :: .n :: .v (vi (([0] : List Int).getD x57.toNat 0)) :: .n :: .n :: []), .reg (Q7a y3z x47 a0 x57 r14696), .reg (.n :: .n :: [])] ⟨[(7, none), (8, none), (9, some (VV.rf 3 0 ((y3z.set x47.toNat (minI (y3z.getD x47.toNat 0) (w64 ((([0] : List Int).getD x57.toNat 0) + r14696)))).length))), (10, none), (11, none), (45, none), (46, none), (47, none), (55, none), (56, none), (57, none)], [none, none, none, some (List.map vi (y3z.set x47.toNat (minI (y3z.getD x47.toNat 0) (w64 ((([0] : List Int).getD x57.toNat 0) + r14696)))))], []⟩ .normal (Qc7 a0 a1 x47 (y3z.set x47.toNat (minI (y3z.getD x47.toNat 0) (w64 ((([0] : List Int).getD x57.toNat 0) + r14696)))) (w64 (x57 + 1))) (an (an (ti tt) (an (te h14686) (an (an (ti (an e14689 (an e14690 (t2 tt)))) e14700) (t2 tt)))) (an (an (show Wv (VV.rf 3 0 y3z.length) (VV.rf 3 0 ((y3z.set x47.toNat (minI (y3z.getD x47.toNat 0) (w64 ((([0] : List Int).getD x57.toNat 0) + r14696)))).length)) from (Wv.of_eq (by simp))) tt) (an (show putT (0 + x47.toNat * 1) (List.map vi y3z) [vi (minI (y3z.getD x47.toNat 0) (w64 ((([0] : List Int).getD x57.toNat 0) + r14696)))] = List.map vi (y3z.set x47.toNat (minI (y3z.getD x47.toNat 0) (w64 ((([0] : List Int).getD x57.toNat 0) + r14696)))) from (by exact Qkx y3z h14691 (minI (y3z.getD x47.toNat 0) (w64 ((([0] : List Int).getD x57.toNat 0) + r14696))) (by omega))) tt))) (by kernel_rfl)
   exact Qd pm pn hv hq h2
  ·obtain rfl := si h
   exact Qk (c := ⟨(tn [7, 8, 9, 45, 46, 47]), [none, none, none, none], []⟩) (s1 := (Qcn a0 a1 x47 y3z)) pm pn (ans := [.reg (.n :: []), .br false]) (by kernel_rfl) nofun (an (an (ti tt) (tf h14686)) (ti tt))
def Qc8 (a0 : X9) (a1 : Int) (y3 : List Int) (x47 : Int) : VS := ⟨mkA [(7, VV.rf 1 0 1), (8, VV.rf 2 0 1), (9, VV.rf 3 0 y3.length), (45, VV.tr (List.map vi ((a0.stops.getD a1.toNat default).positions)) (((a0.stops.getD a1.toNat default).positions).length)), (46, vi (((a0.stops.getD a1.toNat default).positions).length : Int)), (47, vi x47)], [some ⟨true, 1, Jk a0⟩, some ⟨false, 1, [vi a0.begin]⟩, some ⟨false, 1, [vi 0]⟩, some ⟨false, 1, List.map vi y3⟩], .nil⟩
def Qco (a0 : X9) (a1 : Int) (r : (List Int)) : VS := ⟨mkA [(9, VV.rf 3 0 r.length)], [some ⟨true, 1, Jk a0⟩, some ⟨false, 1, [vi a0.begin]⟩, some ⟨false, 1, [vi 0]⟩, some ⟨false, 1, List.map vi r⟩], .nil⟩
def Xe (k : Nat) (a0 : X9) (a1 : Int) : Nat -> (List Int) -> Int -> Option ((List Int))
 | 0, _, _ => none
 | fuel + 1, y3, x47 => if x47 < (((a0.stops.getD a1.toNat default).positions).length : Int) then (if 0 <= x47 /\ x47 < (((a0.stops.getD a1.toNat default).positions).length : Int) then (if 0 <= x47 /\ x47 < (y3.length : Int) then ((X6 k a0 a1 x47 k (y3.set x47.toNat 9223372036854775807) 0).bind fun r14702 => (Xe k a0 a1 fuel r14702 (w64 (x47 + 1)))) else none) else none) else (some y3)
theorem Qh0 (k : Nat) (a0 : X9) (a1 : Int) : ∀ (fuel : Nat) (y3 : List Int) (x47 : Int) (r : (List Int)), Xe k a0 a1 fuel y3 x47 = some r -> (Jb none Try.prog (szF Try.f42) (Zy Try.f42 0) (Qc8 a0 a1 y3 x47) (.exit 0) (Qco a0 a1 r)) := by
 intro fuel
 induction fuel with
 | zero => intro y3 x47 r h; rw [Xe.eq_1] at h; cases h
 | succ fuel ih =>
  intro y3 x47 r h
  rw [Xe.eq_2] at h
  rcases ifs h with ⟨h14649, h⟩ | ⟨h14649, h⟩
  ·obtain ⟨h14650, h⟩ := ifn h
   have e14651 := (X8 ag3 vi ((a0.stops.getD a1.toNat default).positions) 0 h14650 rfl)
   obtain ⟨h14652, h⟩ := ifn h
   have e14653 := (show (0 + x47.toNat * 1) + 1 <= List.length (List.map vi y3) from (by simp only [length_map]; omega))
   obtain ⟨r14702, h14701, h⟩ := bs h
   have hph14701 := Qhz k a0 a1 x47 _ _ _ _ h14701
   have e14703 := (an (an (an (show Wv (VV.rf 3 0 y3.length) (VV.rf 3 0 ((y3.set x47.toNat 9223372036854775807).length)) from (Wv.of_eq (by simp))) tt) (an (show putT (0 + x47.toNat * 1) (List.map vi y3) [vi 9223372036854775807] = List.map vi (y3.set x47.toNat 9223372036854775807) from (by exact Qkx y3 h14652 9223372036854775807 (by omega))) tt)) (VRun.loop hph14701))
   have h2 := ih _ _ _ h
   obtain ⟨q, hv, hq⟩ := pK none Try.prog Try.f42 0 (Qc8 a0 a1 y3 x47) [.reg (.n :: []), .br true, .reg (Q29 a0 a1 x47), .reg (nN 4 []), .reg (nN 3 []), .sub ⟨[(7, none), (8, none), (9, some (VV.rf 3 0 ((y3.set x47.toNat 9223372036854775807).length))), (10, none), (11, none), (45, none), (46, none), (47, none), (55, none), (56, none), (57, none)], [none, none, none, some (List.map vi (y3.set x47.toNat 9223372036854775807))], []⟩ (.exit 2) (Qcn a0 a1 x47 r14702), .reg (.n :: .n :: [])] ⟨(tn [7, 8, 9, 45, 46, 47]), [none, none, none, none], []⟩ .normal (Qc8 a0 a1 r14702 (w64 (x47 + 1))) (an (an (ti tt) (an (te h14649) (an (an (ti (an h14650 (an e14651 (t2 tt)))) (an (t2 (an h14652 (an e14653 tt))) (an (t3 tt) e14703))) (t2 tt)))) (ti tt)) (by kernel_rfl)
   exact Qd pm pn hv hq h2
  ·obtain rfl := si h
   exact Qk (c := ⟨[(9, none)], [none, none, none, none], []⟩) (s1 := (Qco a0 a1 y3)) pm pn (ans := [.reg (.n :: []), .br false]) (by kernel_rfl) nofun (an (an (ti tt) (tf h14649)) (ti tt))
def Yg (k : Nat) (a0 : X9) (a1 : Int) (a2 : (List (List Int))) : Option (List Int) :=
 if 0 < a1 then (if 0 <= w64 (a1 - 1) /\ w64 (a1 - 1) < (a0.stops.length : Int) then (if 0 <= w64 (a1 - 1) /\ w64 (a1 - 1) < (a2.length : Int) then (if 0 <= a1 /\ a1 < (a0.stops.length : Int) then (if 0 <= (((a0.stops.getD a1.toNat default).positions).length : Int) /\ (((a0.stops.getD a1.toNat default).positions).length : Int) <= 1000000000 then ((Xd k a0 a1 a2 k (List.replicate (((a0.stops.getD a1.toNat default).positions).length : Int).toNat (0 : Int)) 0).bind fun r14528 => (some r14528)) else none) else none) else none) else none) else (if 0 <= a1 /\ a1 < (a0.stops.length : Int) then (if 0 <= (((a0.stops.getD a1.toNat default).positions).length : Int) /\ (((a0.stops.getD a1.toNat default).positions).length : Int) <= 1000000000 then ((Xe k a0 a1 k (List.replicate (((a0.stops.getD a1.toNat default).positions).length : Int).toNat (0 : Int)) 0).bind fun r14705 => (some r14705)) else none) else none)
theorem Qgk (k : Nat) (a0 : X9) (a1 : Int) (a2 : (List (List Int))) (r : (List Int)) (h : Yg k a0 a1 a2 = some r) : VC Try.prog 42 [VV.ag (Jk a0), vi a1, VV.tr (List.map v_31 a2) a2.length] (VV.fw 1 (List.map vi r) r.length) := by
 unfold Yg at h
 rcases ifs h with ⟨h14371, h⟩ | ⟨h14371, h⟩
 ·obtain ⟨h14372, h⟩ := ifn h
  have e14373 := (show Zg Try.prog 31 ((w64 (a1 - 1)).toNat * 8 + 7) (flatMap Zi a0.stops) = some (VV.tr (List.map vi ((a0.stops.getD (w64 (a1 - 1)).toNat default).positions)) (((a0.stops.getD (w64 (a1 - 1)).toNat default).positions).length)) from (Qdr ag31 Zi 8 7 Qep (by omega) a0.stops default h14372 (by omega)).trans rfl)
  obtain ⟨h14374, h⟩ := ifn h
  have e14375 := (X8 ag31 v_31 a2 default h14374 rfl)
  have e14376 := (t4 (an h14372 (ti (an e14373 (t3 (an h14374 (an e14375 (t2 tt))))))))
  obtain ⟨h14377, h⟩ := ifn h
  have e14378 := (show Zg Try.prog 31 (a1.toNat * 8 + 7) (flatMap Zi a0.stops) = some (VV.tr (List.map vi ((a0.stops.getD a1.toNat default).positions)) (((a0.stops.getD a1.toNat default).positions).length)) from (Qdr ag31 Zi 8 7 Qep (by omega) a0.stops default h14377 (by omega)).trans rfl)
  obtain ⟨h14379, h⟩ := ifn h
  have e14380 := (show 0 <= (((a0.stops.getD a1.toNat default).positions).length : Int) /\ (((a0.stops.getD a1.toNat default).positions).length : Int) = (((a0.stops.getD a1.toNat default).positions).length : Int) /\ (8 * (((a0.stops.getD a1.toNat default).positions).length : Int).toNat) <= 281474976710656 /\ (((a0.stops.getD a1.toNat default).positions).length : Int) < 1099511627776 from ⟨by omega, rfl, by omega, by omega⟩)
  have e14381 := (t3 (an h14377 (ti (an e14378 (ti (an e14380 (ti tt)))))))
  have e14383 := (t3 (an h14377 (ti (an e14378 (t2 tt)))))
  obtain ⟨r14528, h14527, h⟩ := bs h
  have hph14527 := Qhy k a0 a1 a2 _ _ _ _ h14527
  have e14529 := (an (an (an (show Wv (VV.rf 3 0 ((((a0.stops.getD a1.toNat default).positions).length : Int).toNat)) (VV.rf 3 0 ((List.replicate (((a0.stops.getD a1.toNat default).positions).length : Int).toNat (0 : Int)).length)) from (Wv.of_eq (by simp))) tt) (an (show List.replicate (((a0.stops.getD a1.toNat default).positions).length : Int).toNat (VV.c (.int .i64 0)) = List.map vi (List.replicate (((a0.stops.getD a1.toNat default).positions).length : Int).toNat (0 : Int)) from Qhg _) tt)) (VRun.loop hph14527))
  obtain rfl := si h
  exact Qi pm pn Try.func42 (r0 := VV.fw 1 (List.drop 0 (List.map unfr (List.map vi r14528))) r14528.length) (ans := [.reg (.n :: .n :: []), .reg (nN 6 []), .reg (.n :: .n :: []), .br true, .reg (Q7b a0 a1 a2), .reg (Qz5 a0 a1), .reg (Qz6 a0 a1), .sub ⟨[(7, none), (8, none), (9, some (VV.rf 3 0 ((List.replicate (((a0.stops.getD a1.toNat default).positions).length : Int).toNat (0 : Int)).length))), (45, none), (46, none), (47, none)], [none, none, none, some (List.map vi (List.replicate (((a0.stops.getD a1.toNat default).positions).length : Int).toNat (0 : Int)))], []⟩ (.exit 0) (Qcm a0 a1 a2 r14528), .reg (.n :: .n :: [])]) (fr := true) (by kernel_rfl) (an (an (t2 tt) (an (t6 tt) (an (an (t2 tt) (an (dt h14371) e14376)) (an e14381 (an (an e14383 e14529) (an (t2 tt) tt)))))) (an (show List.all (List.map vi r14528) new0 = true from (by exact Qj1 _)) tt)) (Wv.of_eq (Q3a r14528))
 ·obtain ⟨h14530, h⟩ := ifn h
  have e14531 := (show Zg Try.prog 31 (a1.toNat * 8 + 7) (flatMap Zi a0.stops) = some (VV.tr (List.map vi ((a0.stops.getD a1.toNat default).positions)) (((a0.stops.getD a1.toNat default).positions).length)) from (Qdr ag31 Zi 8 7 Qep (by omega) a0.stops default h14530 (by omega)).trans rfl)
  obtain ⟨h14532, h⟩ := ifn h
  have e14533 := (show 0 <= (((a0.stops.getD a1.toNat default).positions).length : Int) /\ (((a0.stops.getD a1.toNat default).positions).length : Int) = (((a0.stops.getD a1.toNat default).positions).length : Int) /\ (8 * (((a0.stops.getD a1.toNat default).positions).length : Int).toNat) <= 281474976710656 /\ (((a0.stops.getD a1.toNat default).positions).length : Int) < 1099511627776 from ⟨by omega, rfl, by omega, by omega⟩)
  have e14534 := (t3 (an h14530 (ti (an e14531 (ti (an e14533 (ti tt)))))))
  have e14536 := (t3 (an h14530 (ti (an e14531 (t2 tt)))))
  obtain ⟨r14705, h14704, h⟩ := bs h
  have hph14704 := Qh0 k a0 a1 _ _ _ _ h14704
  have e14706 := (an (an (an (show Wv (VV.rf 3 0 ((((a0.stops.getD a1.toNat default).positions).length : Int).toNat)) (VV.rf 3 0 ((List.replicate (((a0.stops.getD a1.toNat default).positions).length : Int).toNat (0 : Int)).length)) from (Wv.of_eq (by simp))) tt) (an (show List.replicate (((a0.stops.getD a1.toNat default).positions).length : Int).toNat (VV.c (.int .i64 0)) = List.map vi (List.replicate (((a0.stops.getD a1.toNat default).positions).length : Int).toNat (0 : Int)) from Qhg _) tt)) (VRun.loop hph14704))
  obtain rfl := si h
  exact Qi pm pn Try.func42 (r0 := VV.fw 1 (List.drop 0 (List.map unfr (List.map vi r14705))) r14705.length) (ans := [.reg (.n :: .n :: []), .reg (nN 6 []), .reg (.n :: .n :: []), .br false, .reg (Qz5 a0 a1), .reg (Qz6 a0 a1), .sub ⟨[(7, none), (8, none), (9, some (VV.rf 3 0 ((List.replicate (((a0.stops.getD a1.toNat default).positions).length : Int).toNat (0 : Int)).length))), (45, none), (46, none), (47, none)], [none, none, none, some (List.map vi (List.replicate (((a0.stops.getD a1.toNat default).positions).length : Int).toNat (0 : Int)))], []⟩ (.exit 0) (Qco a0 a1 r14705), .reg (.n :: .n :: [])]) (fr := true) (by kernel_rfl) (an (an (t2 tt) (an (t6 tt) (an (an (t2 tt) (tf h14371)) (an e14534 (an (an e14536 e14706) (an (t2 tt) tt)))))) (an (show List.all (List.map vi r14705) new0 = true from (by exact Qj1 _)) tt)) (Wv.of_eq (Q3a r14705))
def Qz7 (z0 : (List (List Int))) (z1 : Int) (z2 : Int) : List Ans := (nN 3 (.v (VV.tr (List.map vi (z0.getD z1.toNat default)) ((z0.getD z1.toNat default).length)) :: .n :: .n :: .v (vi ((z0.getD z1.toNat default).getD z2.toNat 0)) :: .n :: .n :: []))
def Qc9 (a0 : (List Int)) (x3 : Int) (x4 : Int) : VS := ⟨mkA [(0, VV.tr (List.map vi a0) a0.length), (3, vi x3), (4, vi x4)], [], .nil⟩
def Xo (k : Nat) (a0 : (List Int)) : Nat -> Int -> Int -> Option (Int)
 | 0, _, _ => none
 | fuel + 1, x3, x4 => if x4 < (a0.length : Int) then (if 0 <= x4 /\ x4 < (a0.length : Int) then (Xo k a0 fuel (minI x3 (a0.getD x4.toNat 0)) (w64 (x4 + 1))) else none) else (some x3)
theorem Qh1 (k : Nat) (a0 : (List Int)) : ∀ (fuel : Nat) (x3 : Int) (x4 : Int) (r : Int), Xo k a0 fuel x3 x4 = some r -> (Jb none Try.prog (szF Try.f64) (Zy Try.f64 0) (Qc9 a0 x3 x4) (.exit 0) (Qe4 a0 r)) := by
 intro fuel
 induction fuel with
 | zero => intro x3 x4 r h; rw [Xo.eq_1] at h; cases h
 | succ fuel ih =>
  intro x3 x4 r h
  rw [Xo.eq_2] at h
  rcases ifs h with ⟨h14855, h⟩ | ⟨h14855, h⟩
  ·obtain ⟨h14856, h⟩ := ifn h
   have e14857 := (X8 ag3 vi a0 0 h14856 rfl)
   have e14858 := (t3 (an h14856 (an e14857 (t2 tt))))
   have h2 := ih _ _ _ h
   obtain ⟨q, hv, hq⟩ := pK none Try.prog Try.f64 0 (Qc9 a0 x3 x4) [.reg (nN 4 []), .br true, .reg (nN 4 (.v (vi (a0.getD x4.toNat 0)) :: .n :: .n :: [])), .reg (nN 3 [])] ⟨(tn [0, 3, 4]), [], []⟩ .normal (Qc9 a0 (minI x3 (a0.getD x4.toNat 0)) (w64 (x4 + 1))) (an (an (an (t4 tt) (te h14855)) (an e14858 (t3 tt))) (ti tt)) (by kernel_rfl)
   exact Qd pm pn hv hq h2
  ·obtain rfl := si h
   exact Qk (c := ⟨[(3, none)], [], []⟩) (s1 := (Qe4 a0 x3)) pm pn (ans := [.reg (nN 4 []), .br false]) (by kernel_rfl) nofun (an (an (t4 tt) (tf h14855)) (ti tt))
def Qd4 (k : Nat) (a0 : (List Int)) : Option Int :=
 if (a0.length : Int) < 1 then none else (if (0 : Int) <= 0 /\ 0 < (a0.length : Int) then ((Xo k a0 k (a0.getD ((0 : Int)).toNat 0) 1).bind fun r14860 => (some r14860)) else none)
theorem Qj7 (k : Nat) (a0 : (List Int)) (r : Int) (h : Qd4 k a0 = some r) : VC Try.prog 64 [VV.tr (List.map vi a0) a0.length] (vi r) := by
 unfold Qd4 at h
 rcases ifs h with ⟨h14844, h⟩ | ⟨h14844, h⟩
 ·cases h
 ·obtain ⟨h14845, h⟩ := ifn h
  have e14846 := (X8 ag3 vi a0 0 h14845 rfl)
  obtain ⟨r14860, h14859, h⟩ := bs h
  have hph14859 := Qh1 k a0 _ _ _ _ h14859
  have e14861 := (an (ti tt) (VRun.loop hph14859))
  obtain rfl := si h
  exact Qi pm pn Try.func64 (r0 := vi r14860) (ans := [.reg (.n :: []), .reg (nN 3 []), .br false, .reg (.n :: .n :: .v (vi (a0.getD ((0 : Int)).toNat 0)) :: .n :: []), .reg (.n :: []), .sub ⟨(tn [0, 3, 4]), [], []⟩ (.exit 0) (Qe4 a0 r14860), .reg (.n :: .n :: [])]) (fr := true) (by kernel_rfl) (an (an (ti tt) (an (an (t3 tt) (tf h14844)) (an (ti (an h14845 (an e14846 (ti tt)))) (an (an (ti tt) e14861) (an (t2 tt) tt))))) (ti tt)) (Wv.refl _)
def Q4m (z0 : (List (List Int))) (z1 : Int) : List Ans := (nN 5 (.v (VV.tr (List.map vi (z0.getD (w64 ((z0.length : Int) - 1)).toNat default)) ((z0.getD (w64 ((z0.length : Int) - 1)).toNat default).length)) :: .call (vi z1) :: .n :: []))
def Qe0 (k : Nat) (a0 : (List (List Int))) : Option Int :=
 if (a0.length : Int) = 0 then (some 0) else (if 0 <= w64 ((a0.length : Int) - 1) /\ w64 ((a0.length : Int) - 1) < (a0.length : Int) then ((Qd4 k (a0.getD (w64 ((a0.length : Int) - 1)).toNat default)).bind fun r14869 => (some r14869)) else none)
theorem Qjs (k : Nat) (a0 : (List (List Int))) (r : Int) (h : Qe0 k a0 = some r) : VC Try.prog 29 [VV.tr (List.map v_31 a0) a0.length] (vi r) := by
 unfold Qe0 at h
 rcases ifs h with ⟨h14866, h⟩ | ⟨h14866, h⟩
 ·obtain rfl := si h
  exact Qi pm pn Try.func29 (r0 := vi 0) (ans := [.reg (.n :: []), .reg (nN 3 []), .br true, .reg (.n :: [])]) (fr := true) (by kernel_rfl) (an (an (ti tt) (an (t3 tt) (an (dt h14866) (an (ti tt) tt)))) (ti tt)) (Wv.refl _)
 ·obtain ⟨h14867, h⟩ := ifn h
  have e14868 := (X8 ag31 v_31 a0 default h14867 rfl)
  obtain ⟨r14869, h14870, h⟩ := bs h
  have e14871 := (Qj7 k (a0.getD (w64 ((a0.length : Int) - 1)).toNat default) _ h14870)
  have e14872 := (t4 (an h14867 (an e14868 (an e14871 (ti tt)))))
  obtain rfl := si h
  exact Qi pm pn Try.func29 (r0 := vi r14869) (ans := [.reg (.n :: []), .reg (nN 3 []), .br false, .reg (Q4m a0 r14869)]) (fr := true) (by kernel_rfl) (an (an (ti tt) (an (an (t3 tt) (tf h14866)) (an e14872 tt))) (ti tt)) (Wv.refl _)
def Qb7 (a0 : Qc) (a2 : A26) (a3 : (List (List Int))) (r14876 : (X9 × Int × Int)) (x37 : Int) (r14960 : (List Int)) (x45 : Int) : VS := ⟨mkA [(3, VV.tr (List.map v_31 a3) a3.length), (10, VV.pt 2 0), (14, vi x37), (36, vi (r14876.1.stops.length : Int)), (37, vi x37), (43, VV.fr (List.map vi r14960) r14960.length), (44, vi (r14960.length : Int)), (45, vi x45)], [some ⟨true, 1, Qp a0⟩, some ⟨true, 1, Qch a2⟩, some ⟨true, 1, Qiz r14876.1⟩], .nil⟩
def Qdz (a0 : Qc) (a2 : A26) (a3 : (List (List Int))) (r14876 : (X9 × Int × Int)) (x37 : Int) (r14960 : (List Int)) (r : Unit) : VS := ⟨mkA [(8, vi 0), (9, vi 22)], [], .nil⟩
def Qd0 (a0 : Qc) (a2 : A26) (a3 : (List (List Int))) (r14876 : (X9 × Int × Int)) (x37 : Int) (r14960 : (List Int)) (r : Unit) : VS := ⟨mkA [(3, VV.tr (List.map v_31 a3) a3.length), (10, VV.pt 2 0), (36, vi (r14876.1.stops.length : Int)), (37, vi x37)], [some ⟨true, 1, Qp a0⟩, some ⟨true, 1, Qch a2⟩, some ⟨true, 1, Qiz r14876.1⟩], .nil⟩
def Jc (k : Nat) (a0 : Qc) (a2 : A26) (a3 : (List (List Int))) (r14876 : (X9 × Int × Int)) (x37 : Int) (r14960 : (List Int)) : Nat -> Int -> Option (Sum Unit Unit)
 | 0, _ => none
 | fuel + 1, x45 => if x45 < (r14960.length : Int) then (if 0 <= x45 /\ x45 < (r14960.length : Int) then (if 0 <= x37 /\ x37 < (a3.length : Int) then (if 0 <= x45 /\ x45 < ((a3.getD x37.toNat default).length : Int) then (if (r14960.getD x45.toNat 0) < ((a3.getD x37.toNat default).getD x45.toNat 0) then (some (.inl ())) else (Jc k a0 a2 a3 r14876 x37 r14960 fuel (w64 (x45 + 1)))) else none) else none) else none) else (some (.inr ()))
theorem Qi9 (k : Nat) (a0 : Qc) (a2 : A26) (a3 : (List (List Int))) (r14876 : (X9 × Int × Int)) (x37 : Int) (r14960 : (List Int)) : ∀ (fuel : Nat) (x45 : Int) (r : Sum Unit Unit), Jc k a0 a2 a3 r14876 x37 r14960 fuel x45 = some r -> (match r with | .inl r => Jb none Try.prog (szF Try.f15) (Zy Try.f15 1) (Qb7 a0 a2 a3 r14876 x37 r14960 x45) .ret (Qdz a0 a2 a3 r14876 x37 r14960 r) | .inr r => Jb none Try.prog (szF Try.f15) (Zy Try.f15 1) (Qb7 a0 a2 a3 r14876 x37 r14960 x45) (.exit 2) (Qd0 a0 a2 a3 r14876 x37 r14960 r)) := by
 intro fuel
 induction fuel with
 | zero => intro x45 r h; rw [Jc.eq_1] at h; cases h
 | succ fuel ih =>
  intro x45 r h
  rw [Jc.eq_2] at h
  rcases ifs h with ⟨h14981, h⟩ | ⟨h14981, h⟩
  ·obtain ⟨h14982, h⟩ := ifn h
   have e14983 := (X8 ag3 vi r14960 0 h14982 rfl)
   obtain ⟨h14984, h⟩ := ifn h
   have e14985 := (X8 ag31 v_31 a3 default h14984 rfl)
   obtain ⟨h14986, h⟩ := ifn h
   have e14987 := (X8 ag3 vi (a3.getD x37.toNat default) 0 h14986 rfl)
   have e14988 := (t2 (an h14984 (an e14985 (ti (an h14986 (an e14987 (t2 tt)))))))
   rcases ifs h with ⟨h14989, h⟩ | ⟨h14989, h⟩
   ·obtain rfl := si h
    exact Qk (c := ⟨(tn [8, 9]), [], []⟩) (s1 := (Qdz a0 a2 a3 r14876 x37 r14960 ())) pm pn (ans := [.reg (.n :: []), .br true, .reg (.n :: .n :: .v (vi (r14960.getD x45.toNat 0)) :: .n :: .n :: []), .reg (Qz7 a3 x37 x45), .br true, .reg (.n :: .n :: [])]) (by kernel_rfl) nofun (an (an (ti tt) (an (te h14981) (an (ti (an h14982 (an e14983 (t2 tt)))) (an e14988 (an (dt h14989) (an (t2 tt) tt)))))) (ti tt))
   ·have h2 := ih _ _ h
    obtain ⟨q, hv, hq⟩ := pK none Try.prog Try.f15 1 (Qb7 a0 a2 a3 r14876 x37 r14960 x45) [.reg (.n :: []), .br true, .reg (.n :: .n :: .v (vi (r14960.getD x45.toNat 0)) :: .n :: .n :: []), .reg (Qz7 a3 x37 x45), .br false, .reg (.n :: .n :: [])] ⟨(tn [3, 10, 14, 36, 37, 43, 44, 45]), [none, none, none], []⟩ .normal (Qb7 a0 a2 a3 r14876 x37 r14960 (w64 (x45 + 1))) (an (an (ti tt) (an (te h14981) (an (an (ti (an h14982 (an e14983 (t2 tt)))) (an e14988 (tf h14989))) (t2 tt)))) (ti tt)) (by kernel_rfl)
    cases r <;> exact Qd pm pn hv hq h2
  ·obtain rfl := si h
   exact Qk (c := ⟨(tn [3, 10, 36, 37]), [none, none, none], []⟩) (s1 := (Qd0 a0 a2 a3 r14876 x37 r14960 ())) pm pn (ans := [.reg (.n :: []), .br false]) (by kernel_rfl) nofun (an (an (ti tt) (tf h14981)) (ti tt))
def Qb8 (a0 : Qc) (a2 : A26) (a3 : (List (List Int))) (r14876 : (X9 × Int × Int)) (x37 : Int) : VS := ⟨mkA [(3, VV.tr (List.map v_31 a3) a3.length), (10, VV.pt 2 0), (36, vi (r14876.1.stops.length : Int)), (37, vi x37)], [some ⟨true, 1, Qp a0⟩, some ⟨true, 1, Qch a2⟩, some ⟨true, 1, Qiz r14876.1⟩], .nil⟩
def Qd1 (a0 : Qc) (a2 : A26) (a3 : (List (List Int))) (r14876 : (X9 × Int × Int)) (r : Unit) : VS := ⟨mkA [(8, vi 0), (9, vi 22)], [], .nil⟩
def Qd2 (a0 : Qc) (a2 : A26) (a3 : (List (List Int))) (r14876 : (X9 × Int × Int)) (r : Unit) : VS := ⟨mkA [(3, VV.tr (List.map v_31 a3) a3.length)], [], .nil⟩
def Jd (k : Nat) (a0 : Qc) (a2 : A26) (a3 : (List (List Int))) (r14876 : (X9 × Int × Int)) : Nat -> Int -> Option (Sum Unit Unit)
 | 0, _ => none
 | fuel + 1, x37 => if x37 < (r14876.1.stops.length : Int) then ((Yg k r14876.1 x37 a3).bind fun r14960 => ((Jc k a0 a2 a3 r14876 x37 r14960 k 0).bind fun r14991 => (match r14991 with | .inl r14992 => (some (.inl ())) | .inr r14993 => (Jd k a0 a2 a3 r14876 fuel (w64 (x37 + 1)))))) else (some (.inr ()))
theorem Qja (k : Nat) (a0 : Qc) (a2 : A26) (a3 : (List (List Int))) (r14876 : (X9 × Int × Int)) : ∀ (fuel : Nat) (x37 : Int) (r : Sum Unit Unit), Jd k a0 a2 a3 r14876 fuel x37 = some r -> (match r with | .inl r => Jb none Try.prog (szF Try.f15) (Zy Try.f15 0) (Qb8 a0 a2 a3 r14876 x37) .ret (Qd1 a0 a2 a3 r14876 r) | .inr r => Jb none Try.prog (szF Try.f15) (Zy Try.f15 0) (Qb8 a0 a2 a3 r14876 x37) (.exit 0) (Qd2 a0 a2 a3 r14876 r)) := by
 intro fuel
 induction fuel with
 | zero => intro x37 r h; rw [Jd.eq_1] at h; cases h
 | succ fuel ih =>
  intro x37 r h
  rw [Jd.eq_2] at h
  rcases ifs h with ⟨h14959, h⟩ | ⟨h14959, h⟩
  ·obtain ⟨r14960, h14961, h⟩ := bs h
   have e14962 := (show VC Try.prog 42 [VV.ag (Jk r14876.1), vi x37, VV.tr (List.map v_31 a3) a3.length] (VV.fr (List.map vi r14960) r14960.length) from (VC.weak (Qgk k r14876.1 x37 a3 _ h14961) (Wv.fw rfl rfl)))
   obtain ⟨r14991, h14990, h⟩ := bs h
   have hph14990 := Qi9 k a0 a2 a3 r14876 x37 r14960 _ _ _ h14990
   cases r14991 with
   | inl r14992 =>
    dsimp only at h
    have e14994 := (an (ti tt) (VRun.loop hph14990))
    obtain rfl := si h
    exact Qk (c := ⟨(tn [8, 9]), [], []⟩) (s1 := (Qd1 a0 a2 a3 r14876 ())) pm pn (ans := [.reg (.n :: []), .br true, .reg (.n :: .n :: []), .reg (nN 3 (.call (VV.fr (List.map vi r14960) r14960.length) :: .n :: .n :: [])), .sub ⟨(tn [3, 10, 14, 36, 37, 43, 44, 45]), [none, none, none], []⟩ .ret (Qdz a0 a2 a3 r14876 x37 r14960 r14992)]) (by kernel_rfl) nofun (an (an (ti tt) (an (te h14959) (an (t2 tt) (an (t3 (an e14962 (t2 tt))) e14994)))) (ti tt))
   | inr r14993 =>
    dsimp only at h
    have e14995 := (an (ti tt) (VRun.loop hph14990))
    have h2 := ih _ _ h
    obtain ⟨q, hv, hq⟩ := pK none Try.prog Try.f15 0 (Qb8 a0 a2 a3 r14876 x37) [.reg (.n :: []), .br true, .reg (.n :: .n :: []), .reg (nN 3 (.call (VV.fr (List.map vi r14960) r14960.length) :: .n :: .n :: [])), .sub ⟨(tn [3, 10, 14, 36, 37, 43, 44, 45]), [none, none, none], []⟩ (.exit 2) (Qd0 a0 a2 a3 r14876 x37 r14960 r14993), .reg (.n :: .n :: [])] ⟨(tn [3, 10, 36, 37]), [none, none, none], []⟩ .normal (Qb8 a0 a2 a3 r14876 (w64 (x37 + 1))) (an (an (ti tt) (an (te h14959) (an (an (t2 tt) (an (t3 (an e14962 (t2 tt))) e14995)) (t2 tt)))) (ti tt)) (by kernel_rfl)
    cases r <;> exact Qd pm pn hv hq h2
  ·obtain rfl := si h
   exact Qk (c := ⟨[(3, none)], [], []⟩) (s1 := (Qd2 a0 a2 a3 r14876 ())) pm pn (ans := [.reg (.n :: []), .br false]) (by kernel_rfl) nofun (an (an (ti tt) (tf h14959)) (ti tt))
def Qek (k : Nat) (a0 : Qc) (a1 : (List Qa)) (a2 : A26) (a3 : (List (List Int))) : Option (Int × Int) :=
 (Qeq k a0 a1 a2).bind fun r14876 => (if r14876.2.2 = 0 then ((Yj k r14876.1 a3).bind fun r14881 => (if r14881 = 0 then ((Jd k a0 a2 a3 r14876 k 0).bind fun r14997 => (match r14997 with | .inl r14998 => (some (0, 22)) | .inr r14999 => ((Qe0 k a3).bind fun r15002 => (some (r15002, 0))))) else (some (0, r14881)))) else (some (0, r14876.2.2)))
theorem Ql0 (k : Nat) (a0 : Qc) (a1 : (List Qa)) (a2 : A26) (a3 : (List (List Int))) (r : (Int × Int)) (h : Qek k a0 a1 a2 a3 = some r) : VC Try.prog 15 [VV.ag (Qp a0), VV.tr (flatMap Qb a1) a1.length, VV.ag (Qch a2), VV.tr (List.map v_31 a3) a3.length] (VV.tu [vi r.1, vi r.2]) := by
 unfold Qek at h
 obtain ⟨r14876, h14877, h⟩ := bs h
 have e14878 := (show VC Try.prog 26 [VV.ag (Qp a0), VV.tr (flatMap Qb a1) a1.length, VV.ag (Qch a2)] (VV.tu [VV.ag (Qiz r14876.1), vi r14876.2.1, vi r14876.2.2]) from (VC.weak (Qhl k a0 a1 a2 _ h14877) (Wv.tuL (.cons (Wv.agL (.cons (Wv.refl _) (.cons (Wv.fw rfl rfl) .nil))) (.cons (Wv.refl _) (.cons (Wv.refl _) .nil))))))
 have e14879 := (t3 (an e14878 (t8 tt)))
 rcases ifs h with ⟨h14880, h⟩ | ⟨h14880, h⟩
 ·obtain ⟨r14881, h14882, h⟩ := bs h
  have e14883 := (Qg7 k r14876.1 a3 _ h14882)
  rcases ifs h with ⟨h14884, h⟩ | ⟨h14884, h⟩
  ·obtain ⟨r14997, h14996, h⟩ := bs h
   have hph14996 := Qja k a0 a2 a3 r14876 _ _ _ h14996
   cases r14997 with
   | inl r14998 =>
    dsimp only at h
    have e15000 := (an (ti tt) (VRun.loop hph14996))
    obtain rfl := si h
    exact Qi pm pn Try.func15 (r0 := VV.tu [vi 0, vi 22]) (ans := [.reg (nN 4 []), .reg (Qyf r14876), .reg (.n :: .n :: []), .br false, .reg (.n :: .n :: .call (vi r14881) :: .n :: []), .reg (.n :: .n :: []), .br false, .reg (nN 4 []), .sub ⟨(tn [3, 10, 36, 37]), [none, none, none], []⟩ .ret (Qd1 a0 a2 a3 r14876 r14998)]) (fr := true) (by kernel_rfl) (an (an (t4 tt) (an e14879 (an (an (t2 tt) (ta h14880)) (an (an (t2 (an e14883 (ti tt))) (an (t2 tt) (ta h14884))) (an (t4 tt) e15000))))) (t2 tt)) (Wv.refl _)
   | inr r14999 =>
    dsimp only at h
    have e15001 := (an (ti tt) (VRun.loop hph14996))
    obtain ⟨r15002, h15003, h⟩ := bs h
    have e15004 := (ti (an (Qjs k a3 _ h15003) (t2 tt)))
    obtain rfl := si h
    exact Qi pm pn Try.func15 (r0 := VV.tu [vi r15002, vi 0]) (ans := [.reg (nN 4 []), .reg (Qyf r14876), .reg (.n :: .n :: []), .br false, .reg (.n :: .n :: .call (vi r14881) :: .n :: []), .reg (.n :: .n :: []), .br false, .reg (nN 4 []), .sub ⟨(tn [3, 10, 36, 37]), [none, none, none], []⟩ (.exit 0) (Qd2 a0 a2 a3 r14876 r14999), .reg (.n :: .call (vi r15002) :: .n :: .n :: [])]) (fr := true) (by kernel_rfl) (an (an (t4 tt) (an e14879 (an (an (t2 tt) (ta h14880)) (an (an (t2 (an e14883 (ti tt))) (an (t2 tt) (ta h14884))) (an (an (t4 tt) e15001) (an e15004 tt)))))) (t2 tt)) (Wv.refl _)
  ·obtain rfl := si h
   exact Qi pm pn Try.func15 (r0 := VV.tu [vi 0, vi r14881]) (ans := [.reg (nN 4 []), .reg (Qyf r14876), .reg (.n :: .n :: []), .br false, .reg (.n :: .n :: .call (vi r14881) :: .n :: []), .reg (.n :: .n :: []), .br true, .reg (nN 3 [])]) (fr := true) (by kernel_rfl) (an (an (t4 tt) (an e14879 (an (an (t2 tt) (ta h14880)) (an (t2 (an e14883 (ti tt))) (an (t2 tt) (an (td h14884) (an (t3 tt) tt))))))) (t2 tt)) (Wv.refl _)
 ·obtain rfl := si h
  exact Qi pm pn Try.func15 (r0 := VV.tu [vi 0, vi r14876.2.2]) (ans := [.reg (nN 4 []), .reg (Qyf r14876), .reg (.n :: .n :: []), .br true, .reg (nN 3 [])]) (fr := true) (by kernel_rfl) (an (an (t4 tt) (an e14879 (an (t2 tt) (an (td h14880) (an (t3 tt) tt))))) (t2 tt)) (Wv.refl _)
def Qz8 (z0 : (List (List Int))) (z1 : Int) : List Ans := (nN 3 (.v (VV.tr (List.map vi (z0.getD z1.toNat default)) ((z0.getD z1.toNat default).length)) :: nN 4 []))
def Qui (z0 : (List (List Int))) (z1 : Int) : List Ans := (nN 4 (.v (VV.tr (List.map vi (z0.getD z1.toNat default)) ((z0.getD z1.toNat default).length)) :: .n :: .n :: []))
def Qz9 (z0 : (List (List Int))) (z1 : Int) (z2 : Int) (z3 : Bool) : List Ans := (nN 3 (.v (VV.tr (List.map vi (z0.getD z1.toNat default)) ((z0.getD z1.toNat default).length)) :: .n :: .n :: .v (vi ((z0.getD z1.toNat default).getD z2.toNat 0)) :: .call (vb z3) :: .n :: []))
def Q0a (z0 : (List (List Int))) (z1 : Int) (z2 : Int) : List Ans := (.n :: .n :: .v (VV.tr (List.map vi (z0.getD ((0 : Int)).toNat default)) ((z0.getD ((0 : Int)).toNat default).length)) :: .n :: .n :: .v (vi ((z0.getD ((0 : Int)).toNat default).getD z1.toNat 0)) :: nN 3 (.call (vi z2) :: .n :: []))
def Q0b (z0 : (List (List Int))) (z1 : Int) (z2 : Int) (z3 : Int) (z4 : (List Qa)) (z5 : ((List Int) × Int)) (z6 : Int) (z7 : Int) : List Ans := (nN 3 (.v (VV.tr (List.map vi (z0.getD z1.toNat default)) ((z0.getD z1.toNat default).length)) :: .n :: .n :: .v (vi ((z0.getD z1.toNat default).getD z2.toNat 0)) :: nN 4 (.v (VV.tr (List.map vi (z0.getD (w64 (z1 - 1)).toNat default)) ((z0.getD (w64 (z1 - 1)).toNat default).length)) :: .n :: .n :: .v (vi ((z0.getD (w64 (z1 - 1)).toNat default).getD z3.toNat 0)) :: nN 5 (.v (VV.ag (Qb (z4.getD (w64 (z1 - 1)).toNat default))) :: nN 5 (.v (vi (z5.1.getD z3.toNat 0)) :: .call (vi z6) :: .n :: .call (vi z7) :: .n :: .n :: [])))))
def Qru (z0 : (List Qa)) (z1 : Int) (z2 : ((List Int) × Int)) (z3 : Int) (z4 : Int) : List Ans := (nN 4 (.v (VV.ag (Qb (z0.getD z1.toNat default))) :: nN 5 (.v (vi (z2.1.getD z3.toNat 0)) :: .call (vi z4) :: .n :: [])))
def Q0c (z0 : (List Qa)) (z1 : Int) (z2 : ((List Int) × Int)) : List Ans := (nN 5 (.v (VV.ag (Qb (z0.getD (w64 (z1 - 1)).toNat default))) :: .n :: .n :: .call (VV.tu [VV.fr (List.map vi z2.1) z2.1.length, vi z2.2]) :: nN 5 []))
theorem Qh2 (k : Nat) (a0 : (List Int)) : ∀ (fuel : Nat) (x3 : Int) (x4 : Int) (r : Int), Xo k a0 fuel x3 x4 = some r -> (Jb none Try.prog (szF Try.f38) (Zy Try.f38 0) (Qc9 a0 x3 x4) (.exit 0) (Qe4 a0 r)) := by
 intro fuel
 induction fuel with
 | zero => intro x3 x4 r h; rw [Xo.eq_1] at h; cases h
 | succ fuel ih =>
  intro x3 x4 r h
  rw [Xo.eq_2] at h
  rcases ifs h with ⟨h15921, h⟩ | ⟨h15921, h⟩
  ·obtain ⟨h15922, h⟩ := ifn h
   have e15923 := (X8 ag3 vi a0 0 h15922 rfl)
   have e15924 := (t3 (an h15922 (an e15923 (t2 tt))))
   have h2 := ih _ _ _ h
   obtain ⟨q, hv, hq⟩ := pK none Try.prog Try.f38 0 (Qc9 a0 x3 x4) [.reg (nN 4 []), .br true, .reg (nN 4 (.v (vi (a0.getD x4.toNat 0)) :: .n :: .n :: [])), .reg (nN 3 [])] ⟨(tn [0, 3, 4]), [], []⟩ .normal (Qc9 a0 (minI x3 (a0.getD x4.toNat 0)) (w64 (x4 + 1))) (an (an (an (t4 tt) (te h15921)) (an e15924 (t3 tt))) (ti tt)) (by kernel_rfl)
   exact Qd pm pn hv hq h2
  ·obtain rfl := si h
   exact Qk (c := ⟨[(3, none)], [], []⟩) (s1 := (Qe4 a0 x3)) pm pn (ans := [.reg (nN 4 []), .br false]) (by kernel_rfl) nofun (an (an (t4 tt) (tf h15921)) (ti tt))
def Qd5 (k : Nat) (a0 : (List Int)) : Option Int :=
 if (0 : Int) <= 0 /\ 0 < (a0.length : Int) then ((Xo k a0 k (a0.getD ((0 : Int)).toNat 0) 1).bind fun r15926 => (some r15926)) else none
theorem Qj8 (k : Nat) (a0 : (List Int)) (r : Int) (h : Qd5 k a0 = some r) : VC Try.prog 38 [VV.tr (List.map vi a0) a0.length] (vi r) := by
 unfold Qd5 at h
 obtain ⟨h15911, h⟩ := ifn h
 have e15912 := (X8 ag3 vi a0 0 h15911 rfl)
 obtain ⟨r15926, h15925, h⟩ := bs h
 have hph15925 := Qh2 k a0 _ _ _ _ h15925
 have e15927 := (an (ti tt) (VRun.loop hph15925))
 obtain rfl := si h
 exact Qi pm pn Try.func38 (r0 := vi r15926) (ans := [.reg (.n :: []), .reg (.n :: .n :: .v (vi (a0.getD ((0 : Int)).toNat 0)) :: .n :: []), .reg (.n :: []), .sub ⟨(tn [0, 3, 4]), [], []⟩ (.exit 0) (Qe4 a0 r15926), .reg (.n :: .n :: [])]) (fr := true) (by kernel_rfl) (an (an (ti tt) (an (ti (an h15911 (an e15912 (ti tt)))) (an (an (ti tt) e15927) (an (t2 tt) tt)))) (ti tt)) (Wv.refl _)
def Yp (a0 : Qc) (a1 : (List Qa)) (a2 : A26) (a3 : (List (List Int))) (x10 : Int) : VS := ⟨mkA [(1, VV.tr (flatMap Qb a1) a1.length), (3, VV.tr (List.map v_31 a3) a3.length), (4, VV.pt 0 0), (6, VV.pt 1 0), (10, vi x10)], [some ⟨true, 1, Qp a0⟩, some ⟨true, 1, Qch a2⟩], .nil⟩
def Qas (a0 : Qc) (a1 : (List Qa)) (a2 : A26) (a3 : (List (List Int))) (r : Unit) : VS := ⟨mkA [(8, vi 0), (9, vi 10)], [], .nil⟩
def Xv (a0 : Qc) (a1 : (List Qa)) (a2 : A26) (a3 : (List (List Int))) (r : Unit) : VS := ⟨mkA [(1, VV.tr (flatMap Qb a1) a1.length), (3, VV.tr (List.map v_31 a3) a3.length), (4, VV.pt 0 0), (6, VV.pt 1 0)], [some ⟨true, 1, Qp a0⟩, some ⟨true, 1, Qch a2⟩], .nil⟩
def Zm (k : Nat) (a0 : Qc) (a1 : (List Qa)) (a2 : A26) (a3 : (List (List Int))) : Nat -> Int -> Option (Sum Unit Unit)
 | 0, _ => none
 | fuel + 1, x10 => if x10 < (a1.length : Int) then (if 0 <= x10 /\ x10 < (a1.length : Int) then ((Jv k a0 (a1.getD x10.toNat default) a2.e0).bind fun r15961 => (if 0 <= x10 /\ x10 < (a3.length : Int) then (if ((a3.getD x10.toNat default).length : Int) = (r15961.1.length : Int) then (Zm k a0 a1 a2 a3 fuel (w64 (x10 + 1))) else (some (.inl ()))) else none)) else none) else (some (.inr ()))
theorem Qgm (k : Nat) (a0 : Qc) (a1 : (List Qa)) (a2 : A26) (a3 : (List (List Int))) : ∀ (fuel : Nat) (x10 : Int) (r : Sum Unit Unit), Zm k a0 a1 a2 a3 fuel x10 = some r -> (match r with | .inl r => Jb none Try.prog (szF Try.f12) (Zy Try.f12 0) (Yp a0 a1 a2 a3 x10) .ret (Qas a0 a1 a2 a3 r) | .inr r => Jb none Try.prog (szF Try.f12) (Zy Try.f12 0) (Yp a0 a1 a2 a3 x10) (.exit 0) (Xv a0 a1 a2 a3 r)) := by
 intro fuel
 induction fuel with
 | zero => intro x10 r h; rw [Zm.eq_1] at h; cases h
 | succ fuel ih =>
  intro x10 r h
  rw [Zm.eq_2] at h
  rcases ifs h with ⟨h15957, h⟩ | ⟨h15957, h⟩
  ·obtain ⟨h15958, h⟩ := ifn h
   have e15959 := (Qbm ag52 Qb 6 sz52 Xb a1 default h15958 rfl)
   have e15960 := (show (0:Int) <= 0 /\ (0:Int) < ((2 : Nat) : Int) from ⟨by decide, by decide⟩)
   obtain ⟨r15961, h15962, h⟩ := bs h
   have e15963 := (show VC Try.prog 34 [VV.ag (Qp a0), VV.ag (Qb (a1.getD x10.toNat default)), vi a2.e0] (VV.tu [VV.fr (List.map vi r15961.1) r15961.1.length, vi r15961.2]) from (VC.weak (Qao k a0 (a1.getD x10.toNat default) a2.e0 _ h15962) (Wv.tuL (.cons (Wv.fw rfl rfl) (.cons (Wv.refl _) .nil)))))
   have e15964 := (t3 (an h15958 (an e15959 (an e15960 (ti (an e15963 (t5 tt)))))))
   obtain ⟨h15965, h⟩ := ifn h
   have e15966 := (X8 ag31 v_31 a3 default h15965 rfl)
   have e15967 := (t2 (an h15965 (an e15966 (t4 tt))))
   rcases ifs h with ⟨h15968, h⟩ | ⟨h15968, h⟩
   ·have h2 := ih _ _ h
    obtain ⟨q, hv, hq⟩ := pK none Try.prog Try.f12 0 (Yp a0 a1 a2 a3 x10) [.reg (nN 4 []), .br true, .reg (Q3d a1 x10 r15961), .reg (Qz8 a3 x10), .br false, .reg (nN 3 [])] ⟨(tn [1, 3, 4, 6, 10]), [none, none], []⟩ .normal (Yp a0 a1 a2 a3 (w64 (x10 + 1))) (an (an (an (t4 tt) (te h15957)) (an (an e15964 (an e15967 (ta h15968))) (t3 tt))) (ti tt)) (by kernel_rfl)
    cases r <;> exact Qd pm pn hv hq h2
   ·obtain rfl := si h
    exact Qk (c := ⟨(tn [8, 9]), [], []⟩) (s1 := (Qas a0 a1 a2 a3 ())) pm pn (ans := [.reg (nN 4 []), .br true, .reg (Q3d a1 x10 r15961), .reg (Qz8 a3 x10), .br true, .reg (.n :: .n :: [])]) (by kernel_rfl) nofun (an (an (an (t4 tt) (te h15957)) (an e15964 (an e15967 (an (td h15968) (an (t2 tt) tt))))) (ti tt))
  ·obtain rfl := si h
   exact Qk (c := ⟨(tn [1, 3, 4, 6]), [none, none], []⟩) (s1 := (Xv a0 a1 a2 a3 ())) pm pn (ans := [.reg (nN 4 []), .br false]) (by kernel_rfl) nofun (an (an (t4 tt) (tf h15957)) (ti tt))
def Yq (a0 : Qc) (a1 : (List Qa)) (a2 : A26) (a3 : (List (List Int))) (x13 : Int) (x14 : Int) : VS := ⟨mkA [(1, VV.tr (flatMap Qb a1) a1.length), (3, VV.tr (List.map v_31 a3) a3.length), (4, VV.pt 0 0), (6, VV.pt 1 0), (13, vi x13), (14, vi x14)], [some ⟨true, 1, Qp a0⟩, some ⟨true, 1, Qch a2⟩], .nil⟩
def Qat (a0 : Qc) (a1 : (List Qa)) (a2 : A26) (a3 : (List (List Int))) (x13 : Int) (r : Unit) : VS := ⟨mkA [(8, vi 0), (9, vi 2)], [], .nil⟩
def Qau (a0 : Qc) (a1 : (List Qa)) (a2 : A26) (a3 : (List (List Int))) (x13 : Int) (r : Unit) : VS := ⟨mkA [(1, VV.tr (flatMap Qb a1) a1.length), (3, VV.tr (List.map v_31 a3) a3.length), (4, VV.pt 0 0), (6, VV.pt 1 0), (13, vi x13)], [some ⟨true, 1, Qp a0⟩, some ⟨true, 1, Qch a2⟩], .nil⟩
def Zn (k : Nat) (a0 : Qc) (a1 : (List Qa)) (a2 : A26) (a3 : (List (List Int))) (x13 : Int) : Nat -> Int -> Option (Sum Unit Unit)
 | 0, _ => none
 | fuel + 1, x14 => if 0 <= x13 /\ x13 < (a3.length : Int) then (if x14 < ((a3.getD x13.toNat default).length : Int) then (if 0 <= x14 /\ x14 < ((a3.getD x13.toNat default).length : Int) then ((Q7 k ((a3.getD x13.toNat default).getD x14.toNat 0) (-1000000000000) 1000000000000).bind fun r16093 => (if r16093 = true then (Zn k a0 a1 a2 a3 x13 fuel (w64 (x14 + 1))) else (some (.inl ())))) else none) else (some (.inr ()))) else none
theorem Qgn (k : Nat) (a0 : Qc) (a1 : (List Qa)) (a2 : A26) (a3 : (List (List Int))) (x13 : Int) : ∀ (fuel : Nat) (x14 : Int) (r : Sum Unit Unit), Zn k a0 a1 a2 a3 x13 fuel x14 = some r -> (match r with | .inl r => Jb none Try.prog (szF Try.f12) (Zy Try.f12 2) (Yq a0 a1 a2 a3 x13 x14) .ret (Qat a0 a1 a2 a3 x13 r) | .inr r => Jb none Try.prog (szF Try.f12) (Zy Try.f12 2) (Yq a0 a1 a2 a3 x13 x14) (.exit 4) (Qau a0 a1 a2 a3 x13 r)) := by
 intro fuel
 induction fuel with
 | zero => intro x14 r h; rw [Zn.eq_1] at h; cases h
 | succ fuel ih =>
  intro x14 r h
  rw [Zn.eq_2] at h
  obtain ⟨h16086, h⟩ := ifn h
  have e16087 := (X8 ag31 v_31 a3 default h16086 rfl)
  have e16088 := (t3 (an h16086 (an e16087 (t2 tt))))
  rcases ifs h with ⟨h16089, h⟩ | ⟨h16089, h⟩
  ·obtain ⟨h16091, h⟩ := ifn h
   have e16092 := (X8 ag3 vi (a3.getD x13.toNat default) 0 h16091 rfl)
   obtain ⟨r16093, h16094, h⟩ := bs h
   have e16095 := (Zb k ((a3.getD x13.toNat default).getD x14.toNat 0) (-1000000000000) 1000000000000 _ h16094)
   have e16096 := (t2 (an h16086 (an e16087 (ti (an h16091 (an e16092 (an e16095 (ti tt))))))))
   rcases ifs h with ⟨h16097, h⟩ | ⟨h16097, h⟩
   ·have h2 := ih _ _ h
    obtain ⟨q, hv, hq⟩ := pK none Try.prog Try.f12 2 (Yq a0 a1 a2 a3 x13 x14) [.reg (Qui a3 x13), .br true, .reg (Qz9 a3 x13 x14 r16093), .br false, .reg (nN 3 [])] ⟨(tn [1, 3, 4, 6, 13, 14]), [none, none], []⟩ .normal (Yq a0 a1 a2 a3 x13 (w64 (x14 + 1))) (an (an (an e16088 (te h16089)) (an (an e16096 (an (Qh h16097) tt)) (t3 tt))) (ti tt)) (by kernel_rfl)
    cases r <;> exact Qd pm pn hv hq h2
   ·obtain rfl := si h
    exact Qk (c := ⟨(tn [8, 9]), [], []⟩) (s1 := (Qat a0 a1 a2 a3 x13 ())) pm pn (ans := [.reg (Qui a3 x13), .br true, .reg (Qz9 a3 x13 x14 r16093), .br true, .reg (.n :: .n :: [])]) (by kernel_rfl) nofun (an (an (an e16088 (te h16089)) (an e16096 (an (Qr (Qn h16097)) (an (t2 tt) tt)))) (ti tt))
  ·obtain rfl := si h
   exact Qk (c := ⟨(tn [1, 3, 4, 6, 13]), [none, none], []⟩) (s1 := (Qau a0 a1 a2 a3 x13 ())) pm pn (ans := [.reg (Qui a3 x13), .br false]) (by kernel_rfl) nofun (an (an e16088 (tf h16089)) (ti tt))
def Yr (a0 : Qc) (a1 : (List Qa)) (a2 : A26) (a3 : (List (List Int))) (x13 : Int) : VS := ⟨mkA [(1, VV.tr (flatMap Qb a1) a1.length), (3, VV.tr (List.map v_31 a3) a3.length), (4, VV.pt 0 0), (6, VV.pt 1 0), (13, vi x13)], [some ⟨true, 1, Qp a0⟩, some ⟨true, 1, Qch a2⟩], .nil⟩
def Qav (a0 : Qc) (a1 : (List Qa)) (a2 : A26) (a3 : (List (List Int))) (r : Unit) : VS := ⟨mkA [(8, vi 0), (9, vi 2)], [], .nil⟩
def Zo (k : Nat) (a0 : Qc) (a1 : (List Qa)) (a2 : A26) (a3 : (List (List Int))) : Nat -> Int -> Option (Sum Unit Unit)
 | 0, _ => none
 | fuel + 1, x13 => if x13 < (a1.length : Int) then ((Zn k a0 a1 a2 a3 x13 k 0).bind fun r16099 => (match r16099 with | .inl r16100 => (some (.inl ())) | .inr r16101 => (Zo k a0 a1 a2 a3 fuel (w64 (x13 + 1))))) else (some (.inr ()))
theorem Qgo (k : Nat) (a0 : Qc) (a1 : (List Qa)) (a2 : A26) (a3 : (List (List Int))) : ∀ (fuel : Nat) (x13 : Int) (r : Sum Unit Unit), Zo k a0 a1 a2 a3 fuel x13 = some r -> (match r with | .inl r => Jb none Try.prog (szF Try.f12) (Zy Try.f12 1) (Yr a0 a1 a2 a3 x13) .ret (Qav a0 a1 a2 a3 r) | .inr r => Jb none Try.prog (szF Try.f12) (Zy Try.f12 1) (Yr a0 a1 a2 a3 x13) (.exit 2) (Xv a0 a1 a2 a3 r)) := by
 intro fuel
 induction fuel with
 | zero => intro x13 r h; rw [Zo.eq_1] at h; cases h
 | succ fuel ih =>
  intro x13 r h
  rw [Zo.eq_2] at h
  rcases ifs h with ⟨h16061, h⟩ | ⟨h16061, h⟩
  ·obtain ⟨r16099, h16098, h⟩ := bs h
   have hph16098 := Qgn k a0 a1 a2 a3 x13 _ _ _ h16098
   cases r16099 with
   | inl r16100 =>
    dsimp only at h
    have e16102 := (an (ti tt) (VRun.loop hph16098))
    obtain rfl := si h
    exact Qk (c := ⟨(tn [8, 9]), [], []⟩) (s1 := (Qav a0 a1 a2 a3 ())) pm pn (ans := [.reg (nN 4 []), .br true, .reg (.n :: []), .sub ⟨(tn [1, 3, 4, 6, 13, 14]), [none, none], []⟩ .ret (Qat a0 a1 a2 a3 x13 r16100)]) (by kernel_rfl) nofun (an (an (an (t4 tt) (te h16061)) (an (ti tt) e16102)) (ti tt))
   | inr r16101 =>
    dsimp only at h
    have e16103 := (an (ti tt) (VRun.loop hph16098))
    have h2 := ih _ _ h
    obtain ⟨q, hv, hq⟩ := pK none Try.prog Try.f12 1 (Yr a0 a1 a2 a3 x13) [.reg (nN 4 []), .br true, .reg (.n :: []), .sub ⟨(tn [1, 3, 4, 6, 13, 14]), [none, none], []⟩ (.exit 4) (Qau a0 a1 a2 a3 x13 r16101), .reg (nN 3 [])] ⟨(tn [1, 3, 4, 6, 13]), [none, none], []⟩ .normal (Yr a0 a1 a2 a3 (w64 (x13 + 1))) (an (an (an (t4 tt) (te h16061)) (an (an (ti tt) e16103) (t3 tt))) (ti tt)) (by kernel_rfl)
    cases r <;> exact Qd pm pn hv hq h2
  ·obtain rfl := si h
   exact Qk (c := ⟨(tn [1, 3, 4, 6]), [none, none], []⟩) (s1 := (Xv a0 a1 a2 a3 ())) pm pn (ans := [.reg (nN 4 []), .br false]) (by kernel_rfl) nofun (an (an (t4 tt) (tf h16061)) (ti tt))
def Yt (a0 : Qc) (a1 : (List Qa)) (a2 : A26) (a3 : (List (List Int))) (x15 : Int) (r16502 : ((List Int) × Int)) (x18 : Int) (r16712 : Int) (r16730 : ((List Int) × Int)) (x22 : Int) : VS := ⟨mkA [(1, VV.tr (flatMap Qb a1) a1.length), (3, VV.tr (List.map v_31 a3) a3.length), (4, VV.pt 0 0), (6, VV.pt 1 0), (15, vi x15), (16, VV.fr (List.map vi r16502.1) r16502.1.length), (18, vi x18), (19, vi r16712), (20, VV.fr (List.map vi r16730.1) r16730.1.length), (22, vi x22)], [some ⟨true, 1, Qp a0⟩, some ⟨true, 1, Qch a2⟩], .nil⟩
def Qaw (a0 : Qc) (a1 : (List Qa)) (a2 : A26) (a3 : (List (List Int))) (x15 : Int) (r16502 : ((List Int) × Int)) (x18 : Int) (r16712 : Int) (r16730 : ((List Int) × Int)) (r : Unit) : VS := ⟨mkA [(8, vi 0), (9, vi 22)], [], .nil⟩
def Qax (a0 : Qc) (a1 : (List Qa)) (a2 : A26) (a3 : (List (List Int))) (x15 : Int) (r16502 : ((List Int) × Int)) (x18 : Int) (r16712 : Int) (r16730 : ((List Int) × Int)) (r : Unit) : VS := ⟨mkA [(1, VV.tr (flatMap Qb a1) a1.length), (3, VV.tr (List.map v_31 a3) a3.length), (4, VV.pt 0 0), (6, VV.pt 1 0), (15, vi x15), (16, VV.fr (List.map vi r16502.1) r16502.1.length), (18, vi x18)], [some ⟨true, 1, Qp a0⟩, some ⟨true, 1, Qch a2⟩], .nil⟩
def Zp (k : Nat) (a0 : Qc) (a1 : (List Qa)) (a2 : A26) (a3 : (List (List Int))) (x15 : Int) (r16502 : ((List Int) × Int)) (x18 : Int) (r16712 : Int) (r16730 : ((List Int) × Int)) : Nat -> Int -> Option (Sum Unit Unit)
 | 0, _ => none
 | fuel + 1, x22 => if x22 < (r16730.1.length : Int) then (if 0 <= x15 /\ x15 < (a3.length : Int) then (if 0 <= x18 /\ x18 < ((a3.getD x15.toNat default).length : Int) then (if 0 <= w64 (x15 - 1) /\ w64 (x15 - 1) < (a3.length : Int) then (if 0 <= x22 /\ x22 < ((a3.getD (w64 (x15 - 1)).toNat default).length : Int) then (if 0 <= w64 (x15 - 1) /\ w64 (x15 - 1) < (a1.length : Int) then (if 0 <= x22 /\ x22 < (r16730.1.length : Int) then ((J7 k a0 (a1.getD (w64 (x15 - 1)).toNat default) a2.e0 (r16730.1.getD x22.toNat 0)).bind fun r16792 => ((Qac k r16792 r16712).bind fun r16795 => (if (w64 (((a3.getD (w64 (x15 - 1)).toNat default).getD x22.toNat 0) + r16795)) < ((a3.getD x15.toNat default).getD x18.toNat 0) then (some (.inl ())) else (Zp k a0 a1 a2 a3 x15 r16502 x18 r16712 r16730 fuel (w64 (x22 + 1)))))) else none) else none) else none) else none) else none) else none) else (some (.inr ()))
theorem Qgp (k : Nat) (a0 : Qc) (a1 : (List Qa)) (a2 : A26) (a3 : (List (List Int))) (x15 : Int) (r16502 : ((List Int) × Int)) (x18 : Int) (r16712 : Int) (r16730 : ((List Int) × Int)) : ∀ (fuel : Nat) (x22 : Int) (r : Sum Unit Unit), Zp k a0 a1 a2 a3 x15 r16502 x18 r16712 r16730 fuel x22 = some r -> (match r with | .inl r => Jb none Try.prog (szF Try.f12) (Zy Try.f12 5) (Yt a0 a1 a2 a3 x15 r16502 x18 r16712 r16730 x22) .ret (Qaw a0 a1 a2 a3 x15 r16502 x18 r16712 r16730 r) | .inr r => Jb none Try.prog (szF Try.f12) (Zy Try.f12 5) (Yt a0 a1 a2 a3 x15 r16502 x18 r16712 r16730 x22) (.exit 10) (Qax a0 a1 a2 a3 x15 r16502 x18 r16712 r16730 r)) := by
 intro fuel
 induction fuel with
 | zero => intro x22 r h; rw [Zp.eq_1] at h; cases h
 | succ fuel ih =>
  intro x22 r h
  rw [Zp.eq_2] at h
  rcases ifs h with ⟨h16778, h⟩ | ⟨h16778, h⟩
  ·obtain ⟨h16779, h⟩ := ifn h
   have e16780 := (X8 ag31 v_31 a3 default h16779 rfl)
   obtain ⟨h16781, h⟩ := ifn h
   have e16782 := (X8 ag3 vi (a3.getD x15.toNat default) 0 h16781 rfl)
   obtain ⟨h16783, h⟩ := ifn h
   have e16784 := (X8 ag31 v_31 a3 default h16783 rfl)
   obtain ⟨h16785, h⟩ := ifn h
   have e16786 := (X8 ag3 vi (a3.getD (w64 (x15 - 1)).toNat default) 0 h16785 rfl)
   obtain ⟨h16787, h⟩ := ifn h
   have e16788 := (Qbm ag52 Qb 6 sz52 Xb a1 default h16787 rfl)
   have e16789 := (show (0:Int) <= 0 /\ (0:Int) < ((2 : Nat) : Int) from ⟨by decide, by decide⟩)
   obtain ⟨h16790, h⟩ := ifn h
   have e16791 := (X8 ag3 vi r16730.1 0 h16790 rfl)
   obtain ⟨r16792, h16793, h⟩ := bs h
   have e16794 := (Qdd k a0 (a1.getD (w64 (x15 - 1)).toNat default) a2.e0 (r16730.1.getD x22.toNat 0) _ h16793)
   obtain ⟨r16795, h16796, h⟩ := bs h
   have e16797 := (Qe2 k r16792 r16712 _ h16796)
   have e16798 := (t2 (an h16779 (an e16780 (ti (an h16781 (an e16782 (t3 (an h16783 (an e16784 (ti (an h16785 (an e16786 (t4 (an h16787 (an e16788 (an e16789 (t3 (an h16790 (an e16791 (an e16794 (ti (an e16797 (t2 tt)))))))))))))))))))))))
   rcases ifs h with ⟨h16799, h⟩ | ⟨h16799, h⟩
   ·obtain rfl := si h
    exact Qk (c := ⟨(tn [8, 9]), [], []⟩) (s1 := (Qaw a0 a1 a2 a3 x15 r16502 x18 r16712 r16730 ())) pm pn (ans := [.reg (nN 4 []), .br true, .reg (Q0b a3 x15 x18 x22 a1 r16730 r16792 r16795), .br true, .reg (.n :: .n :: [])]) (by kernel_rfl) nofun (an (an (an (t4 tt) (te h16778)) (an e16798 (an (dt h16799) (an (t2 tt) tt)))) (ti tt))
   ·have h2 := ih _ _ h
    obtain ⟨q, hv, hq⟩ := pK none Try.prog Try.f12 5 (Yt a0 a1 a2 a3 x15 r16502 x18 r16712 r16730 x22) [.reg (nN 4 []), .br true, .reg (Q0b a3 x15 x18 x22 a1 r16730 r16792 r16795), .br false, .reg (nN 3 [])] ⟨(tn [1, 3, 4, 6, 15, 16, 18, 19, 20, 22]), [none, none], []⟩ .normal (Yt a0 a1 a2 a3 x15 r16502 x18 r16712 r16730 (w64 (x22 + 1))) (an (an (an (t4 tt) (te h16778)) (an (an e16798 (tf h16799)) (t3 tt))) (ti tt)) (by kernel_rfl)
    cases r <;> exact Qd pm pn hv hq h2
  ·obtain rfl := si h
   exact Qk (c := ⟨(tn [1, 3, 4, 6, 15, 16, 18]), [none, none], []⟩) (s1 := (Qax a0 a1 a2 a3 x15 r16502 x18 r16712 r16730 ())) pm pn (ans := [.reg (nN 4 []), .br false]) (by kernel_rfl) nofun (an (an (t4 tt) (tf h16778)) (ti tt))
def X4 (a0 : Qc) (a1 : (List Qa)) (a2 : A26) (a3 : (List (List Int))) (x15 : Int) (r16502 : ((List Int) × Int)) (x18 : Int) : VS := ⟨mkA [(1, VV.tr (flatMap Qb a1) a1.length), (3, VV.tr (List.map v_31 a3) a3.length), (4, VV.pt 0 0), (6, VV.pt 1 0), (15, vi x15), (16, VV.fr (List.map vi r16502.1) r16502.1.length), (18, vi x18)], [some ⟨true, 1, Qp a0⟩, some ⟨true, 1, Qch a2⟩], .nil⟩
def Yl (a0 : Qc) (a1 : (List Qa)) (a2 : A26) (a3 : (List (List Int))) (x15 : Int) (r16502 : ((List Int) × Int)) (r : Unit) : VS := ⟨mkA [(8, vi 0), (9, vi 22)], [], .nil⟩
def Qay (a0 : Qc) (a1 : (List Qa)) (a2 : A26) (a3 : (List (List Int))) (x15 : Int) (r16502 : ((List Int) × Int)) (r : Unit) : VS := ⟨mkA [(1, VV.tr (flatMap Qb a1) a1.length), (3, VV.tr (List.map v_31 a3) a3.length), (4, VV.pt 0 0), (6, VV.pt 1 0), (15, vi x15)], [some ⟨true, 1, Qp a0⟩, some ⟨true, 1, Qch a2⟩], .nil⟩
def Zc (k : Nat) (a0 : Qc) (a1 : (List Qa)) (a2 : A26) (a3 : (List (List Int))) (x15 : Int) (r16502 : ((List Int) × Int)) : Nat -> Int -> Option (Sum Unit Unit)
 | 0, _ => none
 | fuel + 1, x18 => if x18 < (r16502.1.length : Int) then (if 0 <= x15 /\ x15 < (a1.length : Int) then (if 0 <= x18 /\ x18 < (r16502.1.length : Int) then ((J7 k a0 (a1.getD x15.toNat default) a2.e0 (r16502.1.getD x18.toNat 0)).bind fun r16712 => (if x15 = 0 then (if (0 : Int) <= 0 /\ 0 < (a3.length : Int) then (if 0 <= x18 /\ x18 < ((a3.getD ((0 : Int)).toNat default).length : Int) then ((Qac k a2.e1 r16712).bind fun r16722 => (if r16722 < ((a3.getD ((0 : Int)).toNat default).getD x18.toNat 0) then (some (.inl ())) else (Zc k a0 a1 a2 a3 x15 r16502 fuel (w64 (x18 + 1))))) else none) else none) else (if 0 <= w64 (x15 - 1) /\ w64 (x15 - 1) < (a1.length : Int) then ((Jv k a0 (a1.getD (w64 (x15 - 1)).toNat default) a2.e0).bind fun r16730 => ((Zp k a0 a1 a2 a3 x15 r16502 x18 r16712 r16730 k 0).bind fun r16801 => (match r16801 with | .inl r16802 => (some (.inl ())) | .inr r16803 => (Zc k a0 a1 a2 a3 x15 r16502 fuel (w64 (x18 + 1)))))) else none))) else none) else none) else (some (.inr ()))
theorem Qgq (k : Nat) (a0 : Qc) (a1 : (List Qa)) (a2 : A26) (a3 : (List (List Int))) (x15 : Int) (r16502 : ((List Int) × Int)) : ∀ (fuel : Nat) (x18 : Int) (r : Sum Unit Unit), Zc k a0 a1 a2 a3 x15 r16502 fuel x18 = some r -> (match r with | .inl r => Jb none Try.prog (szF Try.f12) (Zy Try.f12 4) (X4 a0 a1 a2 a3 x15 r16502 x18) .ret (Yl a0 a1 a2 a3 x15 r16502 r) | .inr r => Jb none Try.prog (szF Try.f12) (Zy Try.f12 4) (X4 a0 a1 a2 a3 x15 r16502 x18) (.exit 8) (Qay a0 a1 a2 a3 x15 r16502 r)) := by
 intro fuel
 induction fuel with
 | zero => intro x18 r h; rw [Zc.eq_1] at h; cases h
 | succ fuel ih =>
  intro x18 r h
  rw [Zc.eq_2] at h
  rcases ifs h with ⟨h16706, h⟩ | ⟨h16706, h⟩
  ·obtain ⟨h16707, h⟩ := ifn h
   have e16708 := (Qbm ag52 Qb 6 sz52 Xb a1 default h16707 rfl)
   have e16709 := (show (0:Int) <= 0 /\ (0:Int) < ((2 : Nat) : Int) from ⟨by decide, by decide⟩)
   obtain ⟨h16710, h⟩ := ifn h
   have e16711 := (X8 ag3 vi r16502.1 0 h16710 rfl)
   obtain ⟨r16712, h16713, h⟩ := bs h
   have e16714 := (Qdd k a0 (a1.getD x15.toNat default) a2.e0 (r16502.1.getD x18.toNat 0) _ h16713)
   have e16715 := (t3 (an h16707 (an e16708 (an e16709 (t3 (an h16710 (an e16711 (an e16714 (ti tt)))))))))
   rcases ifs h with ⟨h16716, h⟩ | ⟨h16716, h⟩
   ·obtain ⟨h16717, h⟩ := ifn h
    have e16718 := (X8 ag31 v_31 a3 default h16717 rfl)
    obtain ⟨h16719, h⟩ := ifn h
    have e16720 := (X8 ag3 vi (a3.getD ((0 : Int)).toNat default) 0 h16719 rfl)
    have e16721 := (show (0:Int) <= 1 /\ (1:Int) < ((2 : Nat) : Int) from ⟨by decide, by decide⟩)
    obtain ⟨r16722, h16723, h⟩ := bs h
    have e16724 := (Qe2 k a2.e1 r16712 _ h16723)
    have e16725 := (ti (an h16717 (an e16718 (ti (an h16719 (an e16720 (an e16721 (t2 (an e16724 (ti tt))))))))))
    rcases ifs h with ⟨h16726, h⟩ | ⟨h16726, h⟩
    ·obtain rfl := si h
     exact Qk (c := ⟨(tn [8, 9]), [], []⟩) (s1 := (Yl a0 a1 a2 a3 x15 r16502 ())) pm pn (ans := [.reg (nN 4 []), .br true, .reg (Qru a1 x15 r16502 x18 r16712), .reg (.n :: .n :: []), .br true, .reg (Q0a a3 x18 r16722), .br true, .reg (.n :: .n :: [])]) (by kernel_rfl) nofun (an (an (an (t4 tt) (te h16706)) (an e16715 (an (t2 tt) (an (dt h16716) (an e16725 (an (dt h16726) (an (t2 tt) tt))))))) (ti tt))
    ·have h2 := ih _ _ h
     obtain ⟨q, hv, hq⟩ := pK none Try.prog Try.f12 4 (X4 a0 a1 a2 a3 x15 r16502 x18) [.reg (nN 4 []), .br true, .reg (Qru a1 x15 r16502 x18 r16712), .reg (.n :: .n :: []), .br true, .reg (Q0a a3 x18 r16722), .br false, .reg (nN 3 [])] ⟨(tn [1, 3, 4, 6, 15, 16, 18]), [none, none], []⟩ .normal (X4 a0 a1 a2 a3 x15 r16502 (w64 (x18 + 1))) (an (an (an (t4 tt) (te h16706)) (an (an e16715 (an (t2 tt) (an (dt h16716) (an (an e16725 (tf h16726)) tt)))) (t3 tt))) (ti tt)) (by kernel_rfl)
     cases r <;> exact Qd pm pn hv hq h2
   ·obtain ⟨h16727, h⟩ := ifn h
    have e16728 := (Qbm ag52 Qb 6 sz52 Xb a1 default h16727 rfl)
    obtain ⟨r16730, h16731, h⟩ := bs h
    have e16732 := (show VC Try.prog 34 [VV.ag (Qp a0), VV.ag (Qb (a1.getD (w64 (x15 - 1)).toNat default)), vi a2.e0] (VV.tu [VV.fr (List.map vi r16730.1) r16730.1.length, vi r16730.2]) from (VC.weak (Qao k a0 (a1.getD (w64 (x15 - 1)).toNat default) a2.e0 _ h16731) (Wv.tuL (.cons (Wv.fw rfl rfl) (.cons (Wv.refl _) .nil)))))
    have e16733 := (t4 (an h16727 (an e16728 (an e16709 (ti (an e16732 (t5 tt)))))))
    obtain ⟨r16801, h16800, h⟩ := bs h
    have hph16800 := Qgp k a0 a1 a2 a3 x15 r16502 x18 r16712 r16730 _ _ _ h16800
    cases r16801 with
    | inl r16802 =>
     dsimp only at h
     have e16804 := (an (ti tt) (VRun.loop hph16800))
     obtain rfl := si h
     exact Qk (c := ⟨(tn [8, 9]), [], []⟩) (s1 := (Yl a0 a1 a2 a3 x15 r16502 ())) pm pn (ans := [.reg (nN 4 []), .br true, .reg (Qru a1 x15 r16502 x18 r16712), .reg (.n :: .n :: []), .br false, .reg (Q0c a1 x15 r16730), .reg (.n :: []), .sub ⟨(tn [1, 3, 4, 6, 15, 16, 18, 19, 20, 22]), [none, none], []⟩ .ret (Qaw a0 a1 a2 a3 x15 r16502 x18 r16712 r16730 r16802)]) (by kernel_rfl) nofun (an (an (an (t4 tt) (te h16706)) (an e16715 (an (an (t2 tt) (tf h16716)) (an e16733 (an (ti tt) e16804))))) (ti tt))
    | inr r16803 =>
     dsimp only at h
     have e16805 := (an (ti tt) (VRun.loop hph16800))
     have h2 := ih _ _ h
     obtain ⟨q, hv, hq⟩ := pK none Try.prog Try.f12 4 (X4 a0 a1 a2 a3 x15 r16502 x18) [.reg (nN 4 []), .br true, .reg (Qru a1 x15 r16502 x18 r16712), .reg (.n :: .n :: []), .br false, .reg (Q0c a1 x15 r16730), .reg (.n :: []), .sub ⟨(tn [1, 3, 4, 6, 15, 16, 18, 19, 20, 22]), [none, none], []⟩ (.exit 10) (Qax a0 a1 a2 a3 x15 r16502 x18 r16712 r16730 r16803), .reg (nN 3 [])] ⟨(tn [1, 3, 4, 6, 15, 16, 18]), [none, none], []⟩ .normal (X4 a0 a1 a2 a3 x15 r16502 (w64 (x18 + 1))) (an (an (an (t4 tt) (te h16706)) (an (an e16715 (an (an (t2 tt) (tf h16716)) (an e16733 (an (ti tt) e16805)))) (t3 tt))) (ti tt)) (by kernel_rfl)
     cases r <;> exact Qd pm pn hv hq h2
  ·obtain rfl := si h
   exact Qk (c := ⟨(tn [1, 3, 4, 6, 15]), [none, none], []⟩) (s1 := (Qay a0 a1 a2 a3 x15 r16502 ())) pm pn (ans := [.reg (nN 4 []), .br false]) (by kernel_rfl) nofun (an (an (t4 tt) (tf h16706)) (ti tt))
def Yu (a0 : Qc) (a1 : (List Qa)) (a2 : A26) (a3 : (List (List Int))) (x15 : Int) : VS := ⟨mkA [(1, VV.tr (flatMap Qb a1) a1.length), (3, VV.tr (List.map v_31 a3) a3.length), (4, VV.pt 0 0), (6, VV.pt 1 0), (15, vi x15)], [some ⟨true, 1, Qp a0⟩, some ⟨true, 1, Qch a2⟩], .nil⟩
def Qaz (a0 : Qc) (a1 : (List Qa)) (a2 : A26) (a3 : (List (List Int))) (r : Unit) : VS := ⟨mkA [(8, vi 0), (9, vi 22)], [], .nil⟩
def Ym (a0 : Qc) (a1 : (List Qa)) (a2 : A26) (a3 : (List (List Int))) (r : Unit) : VS := ⟨mkA [(1, VV.tr (flatMap Qb a1) a1.length), (3, VV.tr (List.map v_31 a3) a3.length)], [], .nil⟩
def Zq (k : Nat) (a0 : Qc) (a1 : (List Qa)) (a2 : A26) (a3 : (List (List Int))) : Nat -> Int -> Option (Sum Unit Unit)
 | 0, _ => none
 | fuel + 1, x15 => if x15 < (a1.length : Int) then (if 0 <= x15 /\ x15 < (a1.length : Int) then ((Jv k a0 (a1.getD x15.toNat default) a2.e0).bind fun r16502 => ((Zc k a0 a1 a2 a3 x15 r16502 k 0).bind fun r16807 => (match r16807 with | .inl r16808 => (some (.inl ())) | .inr r16809 => (Zq k a0 a1 a2 a3 fuel (w64 (x15 + 1)))))) else none) else (some (.inr ()))
theorem Qgr (k : Nat) (a0 : Qc) (a1 : (List Qa)) (a2 : A26) (a3 : (List (List Int))) : ∀ (fuel : Nat) (x15 : Int) (r : Sum Unit Unit), Zq k a0 a1 a2 a3 fuel x15 = some r -> (match r with | .inl r => Jb none Try.prog (szF Try.f12) (Zy Try.f12 3) (Yu a0 a1 a2 a3 x15) .ret (Qaz a0 a1 a2 a3 r) | .inr r => Jb none Try.prog (szF Try.f12) (Zy Try.f12 3) (Yu a0 a1 a2 a3 x15) (.exit 6) (Ym a0 a1 a2 a3 r)) := by
 intro fuel
 induction fuel with
 | zero => intro x15 r h; rw [Zq.eq_1] at h; cases h
 | succ fuel ih =>
  intro x15 r h
  rw [Zq.eq_2] at h
  rcases ifs h with ⟨h16498, h⟩ | ⟨h16498, h⟩
  ·obtain ⟨h16499, h⟩ := ifn h
   have e16500 := (Qbm ag52 Qb 6 sz52 Xb a1 default h16499 rfl)
   have e16501 := (show (0:Int) <= 0 /\ (0:Int) < ((2 : Nat) : Int) from ⟨by decide, by decide⟩)
   obtain ⟨r16502, h16503, h⟩ := bs h
   have e16504 := (show VC Try.prog 34 [VV.ag (Qp a0), VV.ag (Qb (a1.getD x15.toNat default)), vi a2.e0] (VV.tu [VV.fr (List.map vi r16502.1) r16502.1.length, vi r16502.2]) from (VC.weak (Qao k a0 (a1.getD x15.toNat default) a2.e0 _ h16503) (Wv.tuL (.cons (Wv.fw rfl rfl) (.cons (Wv.refl _) .nil)))))
   have e16505 := (t3 (an h16499 (an e16500 (an e16501 (ti (an e16504 (t5 tt)))))))
   obtain ⟨r16807, h16806, h⟩ := bs h
   have hph16806 := Qgq k a0 a1 a2 a3 x15 r16502 _ _ _ h16806
   cases r16807 with
   | inl r16808 =>
    dsimp only at h
    have e16810 := (an (ti tt) (VRun.loop hph16806))
    obtain rfl := si h
    exact Qk (c := ⟨(tn [8, 9]), [], []⟩) (s1 := (Qaz a0 a1 a2 a3 ())) pm pn (ans := [.reg (nN 4 []), .br true, .reg (Q3d a1 x15 r16502), .reg (.n :: []), .sub ⟨(tn [1, 3, 4, 6, 15, 16, 18]), [none, none], []⟩ .ret (Yl a0 a1 a2 a3 x15 r16502 r16808)]) (by kernel_rfl) nofun (an (an (an (t4 tt) (te h16498)) (an e16505 (an (ti tt) e16810))) (ti tt))
   | inr r16809 =>
    dsimp only at h
    have e16811 := (an (ti tt) (VRun.loop hph16806))
    have h2 := ih _ _ h
    obtain ⟨q, hv, hq⟩ := pK none Try.prog Try.f12 3 (Yu a0 a1 a2 a3 x15) [.reg (nN 4 []), .br true, .reg (Q3d a1 x15 r16502), .reg (.n :: []), .sub ⟨(tn [1, 3, 4, 6, 15, 16, 18]), [none, none], []⟩ (.exit 8) (Qay a0 a1 a2 a3 x15 r16502 r16809), .reg (nN 3 [])] ⟨(tn [1, 3, 4, 6, 15]), [none, none], []⟩ .normal (Yu a0 a1 a2 a3 (w64 (x15 + 1))) (an (an (an (t4 tt) (te h16498)) (an (an e16505 (an (ti tt) e16811)) (t3 tt))) (ti tt)) (by kernel_rfl)
    cases r <;> exact Qd pm pn hv hq h2
  ·obtain rfl := si h
   exact Qk (c := ⟨(tn [1, 3]), [], []⟩) (s1 := (Ym a0 a1 a2 a3 ())) pm pn (ans := [.reg (nN 4 []), .br false]) (by kernel_rfl) nofun (an (an (t4 tt) (tf h16498)) (ti tt))
def Q4n (z0 : (List (List Int))) (z1 : Int) : List Ans := (nN 5 (.v (VV.tr (List.map vi (z0.getD (w64 ((z0.length : Int) - 1)).toNat default)) ((z0.getD (w64 ((z0.length : Int) - 1)).toNat default).length)) :: .call (vi z1) :: .n :: .n :: []))
def Wu (k : Nat) (a0 : Qc) (a1 : (List Qa)) (a2 : A26) (a3 : (List (List Int))) : Option (Int × Int) :=
 if (a3.length : Int) = (a1.length : Int) then ((Zm k a0 a1 a2 a3 k 0).bind fun r15970 => (match r15970 with | .inl r15971 => (some (0, 10)) | .inr r15972 => ((Zo k a0 a1 a2 a3 k 0).bind fun r16105 => (match r16105 with | .inl r16106 => (some (0, 2)) | .inr r16107 => ((Zq k a0 a1 a2 a3 k 0).bind fun r16813 => (match r16813 with | .inl r16814 => (some (0, 22)) | .inr r16815 => (if (a1.length : Int) = 0 then (some (0, 0)) else (if 0 <= w64 ((a3.length : Int) - 1) /\ w64 ((a3.length : Int) - 1) < (a3.length : Int) then ((Qd5 k (a3.getD (w64 ((a3.length : Int) - 1)).toNat default)).bind fun r16821 => (some (r16821, 0))) else none)))))))) else (some (0, 10))
theorem Qhw (k : Nat) (a0 : Qc) (a1 : (List Qa)) (a2 : A26) (a3 : (List (List Int))) (r : (Int × Int)) (h : Wu k a0 a1 a2 a3 = some r) : VC Try.prog 12 [VV.ag (Qp a0), VV.tr (flatMap Qb a1) a1.length, VV.ag (Qch a2), VV.tr (List.map v_31 a3) a3.length] (VV.tu [vi r.1, vi r.2]) := by
 unfold Wu at h
 rcases ifs h with ⟨h15932, h⟩ | ⟨h15932, h⟩
 ·obtain ⟨r15970, h15969, h⟩ := bs h
  have hph15969 := Qgm k a0 a1 a2 a3 _ _ _ h15969
  cases r15970 with
  | inl r15971 =>
   dsimp only at h
   have e15973 := (an (ti tt) (VRun.loop hph15969))
   obtain rfl := si h
   exact Qi pm pn Try.func12 (r0 := VV.tu [vi 0, vi 10]) (ans := [.reg (nN 4 []), .reg (nN 5 []), .br false, .reg (.n :: []), .sub ⟨(tn [1, 3, 4, 6, 10]), [none, none], []⟩ .ret (Qas a0 a1 a2 a3 r15971)]) (fr := true) (by kernel_rfl) (an (an (t4 tt) (an (an (t5 tt) (ta h15932)) (an (ti tt) e15973))) (t2 tt)) (Wv.refl _)
  | inr r15972 =>
   dsimp only at h
   have e15974 := (an (ti tt) (VRun.loop hph15969))
   obtain ⟨r16105, h16104, h⟩ := bs h
   have hph16104 := Qgo k a0 a1 a2 a3 _ _ _ h16104
   cases r16105 with
   | inl r16106 =>
    dsimp only at h
    have e16108 := (an (ti tt) (VRun.loop hph16104))
    obtain rfl := si h
    exact Qi pm pn Try.func12 (r0 := VV.tu [vi 0, vi 2]) (ans := [.reg (nN 4 []), .reg (nN 5 []), .br false, .reg (.n :: []), .sub ⟨(tn [1, 3, 4, 6, 10]), [none, none], []⟩ (.exit 0) (Xv a0 a1 a2 a3 r15972), .reg (.n :: []), .sub ⟨(tn [1, 3, 4, 6, 13]), [none, none], []⟩ .ret (Qav a0 a1 a2 a3 r16106)]) (fr := true) (by kernel_rfl) (an (an (t4 tt) (an (an (t5 tt) (ta h15932)) (an (an (ti tt) e15974) (an (ti tt) e16108)))) (t2 tt)) (Wv.refl _)
   | inr r16107 =>
    dsimp only at h
    have e16109 := (an (ti tt) (VRun.loop hph16104))
    obtain ⟨r16813, h16812, h⟩ := bs h
    have hph16812 := Qgr k a0 a1 a2 a3 _ _ _ h16812
    cases r16813 with
    | inl r16814 =>
     dsimp only at h
     have e16816 := (an (ti tt) (VRun.loop hph16812))
     obtain rfl := si h
     exact Qi pm pn Try.func12 (r0 := VV.tu [vi 0, vi 22]) (ans := [.reg (nN 4 []), .reg (nN 5 []), .br false, .reg (.n :: []), .sub ⟨(tn [1, 3, 4, 6, 10]), [none, none], []⟩ (.exit 0) (Xv a0 a1 a2 a3 r15972), .reg (.n :: []), .sub ⟨(tn [1, 3, 4, 6, 13]), [none, none], []⟩ (.exit 2) (Xv a0 a1 a2 a3 r16107), .reg (.n :: []), .sub ⟨(tn [1, 3, 4, 6, 15]), [none, none], []⟩ .ret (Qaz a0 a1 a2 a3 r16814)]) (fr := true) (by kernel_rfl) (an (an (t4 tt) (an (an (t5 tt) (ta h15932)) (an (an (ti tt) e15974) (an (an (ti tt) e16109) (an (ti tt) e16816))))) (t2 tt)) (Wv.refl _)
    | inr r16815 =>
     dsimp only at h
     have e16817 := (an (ti tt) (VRun.loop hph16812))
     rcases ifs h with ⟨h16818, h⟩ | ⟨h16818, h⟩
     ·obtain rfl := si h
      exact Qi pm pn Try.func12 (r0 := VV.tu [vi 0, vi 0]) (ans := [.reg (nN 4 []), .reg (nN 5 []), .br false, .reg (.n :: []), .sub ⟨(tn [1, 3, 4, 6, 10]), [none, none], []⟩ (.exit 0) (Xv a0 a1 a2 a3 r15972), .reg (.n :: []), .sub ⟨(tn [1, 3, 4, 6, 13]), [none, none], []⟩ (.exit 2) (Xv a0 a1 a2 a3 r16107), .reg (.n :: []), .sub ⟨(tn [1, 3, 4, 6, 15]), [none, none], []⟩ (.exit 6) (Ym a0 a1 a2 a3 r16815), .reg (nN 3 []), .br true, .reg (.n :: .n :: [])]) (fr := true) (by kernel_rfl) (an (an (t4 tt) (an (an (t5 tt) (ta h15932)) (an (an (ti tt) e15974) (an (an (ti tt) e16109) (an (an (ti tt) e16817) (an (t3 tt) (an (dt h16818) (an (t2 tt) tt)))))))) (t2 tt)) (Wv.refl _)
     ·obtain ⟨h16819, h⟩ := ifn h
      have e16820 := (X8 ag31 v_31 a3 default h16819 rfl)
      obtain ⟨r16821, h16822, h⟩ := bs h
      have e16823 := (Qj8 k (a3.getD (w64 ((a3.length : Int) - 1)).toNat default) _ h16822)
      have e16824 := (t4 (an h16819 (an e16820 (an e16823 (t2 tt)))))
      obtain rfl := si h
      exact Qi pm pn Try.func12 (r0 := VV.tu [vi r16821, vi 0]) (ans := [.reg (nN 4 []), .reg (nN 5 []), .br false, .reg (.n :: []), .sub ⟨(tn [1, 3, 4, 6, 10]), [none, none], []⟩ (.exit 0) (Xv a0 a1 a2 a3 r15972), .reg (.n :: []), .sub ⟨(tn [1, 3, 4, 6, 13]), [none, none], []⟩ (.exit 2) (Xv a0 a1 a2 a3 r16107), .reg (.n :: []), .sub ⟨(tn [1, 3, 4, 6, 15]), [none, none], []⟩ (.exit 6) (Ym a0 a1 a2 a3 r16815), .reg (nN 3 []), .br false, .reg (Q4n a3 r16821)]) (fr := true) (by kernel_rfl) (an (an (t4 tt) (an (an (t5 tt) (ta h15932)) (an (an (ti tt) e15974) (an (an (ti tt) e16109) (an (an (ti tt) e16817) (an (an (t3 tt) (tf h16818)) (an e16824 tt))))))) (t2 tt)) (Wv.refl _)
 ·obtain rfl := si h
  exact Qi pm pn Try.func12 (r0 := VV.tu [vi 0, vi 10]) (ans := [.reg (nN 4 []), .reg (nN 5 []), .br true, .reg (.n :: .n :: [])]) (fr := true) (by kernel_rfl) (an (an (t4 tt) (an (t5 tt) (an (td h15932) (an (t2 tt) tt)))) (t2 tt)) (Wv.refl _)
end Go.Proofs.Ytjomicmhnbmhoaa.Vg

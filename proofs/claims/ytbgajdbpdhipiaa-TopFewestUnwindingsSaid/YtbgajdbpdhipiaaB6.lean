import Derived.Test.YtbgajdbpdhipiaaB4
namespace Go.Proofs.Ytbgajdbpdhipiaa.Vg
set_option maxRecDepth 100000
set_option maxHeartbeats 4000000
set_option linter.unusedVariables false
set_option linter.unusedSimpArgs false
open Go Go.Proofs.Ytbgajdbpdhipiaa.Ev Go.Proofs.Ytbgajdbpdhipiaa.Vv
open List (flatMap length_cons length_nil length_map length_append map_cons map_nil length_replicate)
theorem ag29 : Qce Try.prog 29 = some false := by kernel_rfl
def Qae (k : Nat) (a0 : Int) (a1 : Int) : Option (Int × Bool) :=
 some (maxI (w64 (a1 - a0)) (w64 (a0 - a1)), decide (648000 < (maxI (w64 (a1 - a0)) (w64 (a0 - a1)))))
theorem Qg0 (k : Nat) (a0 : Int) (a1 : Int) (r : (Int × Bool)) (h : Qae k a0 a1 = some r) : VC Try.prog 31 [vi a0, vi a1] (VV.tu [vi r.1, vb r.2]) := by
 unfold Qae at h
 injection h with h; subst h
 exact Qk pm pn Try.func31 (r0 := VV.tu [vi (maxI (w64 (a1 - a0)) (w64 (a0 - a1))), vb (decide (648000 < (maxI (w64 (a1 - a0)) (w64 (a0 - a1)))))]) (ans := [.reg (.n :: .n :: []), .reg (nN 8 []), .reg (nN 5 [])]) (fr := true) (by kernel_rfl) (an (an (ti (ti tt)) (an (ti (ti (ti (ti (ti (ti (ti (ti tt)))))))) (an (ti (ti (ti (ti (ti tt))))) tt))) (ti (ti tt))) (Wv.refl _)
def X8 (a0 : (List Int)) (a1 : Int) (x8 : Int) : VS := ⟨mkA [(0, VV.tr (List.map vi a0) a0.length), (1, vi a1), (7, vi (a0.length : Int)), (8, vi x8)], [], .nil⟩
def Jw (a0 : (List Int)) (a1 : Int) (r : Int) : VS := ⟨mkA [(4, vi r)], [], .nil⟩
def Jy (a0 : (List Int)) (a1 : Int) (r : Unit) : VS := ⟨mkA [], [], .nil⟩
def Qx (k : Nat) (a0 : (List Int)) (a1 : Int) : Nat -> Int -> Option (Sum Int Unit)
 | 0, _ => none
 | fuel + 1, x8 => if x8 < (a0.length : Int) then (if 0 <= x8 /\ x8 < (a0.length : Int) then (if a1 = (a0.getD x8.toNat 0) then (some (.inl x8)) else (Qx k a0 a1 fuel (w64 (x8 + 1)))) else none) else (some (.inr ()))
theorem Qc5 (k : Nat) (a0 : (List Int)) (a1 : Int) : ∀ (fuel : Nat) (x8 : Int) (r : Sum Int Unit), Qx k a0 a1 fuel x8 = some r -> (match r with | .inl r => J6 none Try.prog (szF Try.f42) (X5 Try.f42 0) (X8 a0 a1 x8) .ret (Jw a0 a1 r) | .inr r => J6 none Try.prog (szF Try.f42) (X5 Try.f42 0) (X8 a0 a1 x8) (.exit 0) (Jy a0 a1 r)) := by
 intro fuel
 induction fuel with
 | zero => intro x8 r h; rw [Qx.eq_1] at h; cases h
 | succ fuel ih =>
  intro x8 r h
  rw [Qx.eq_2] at h
  rcases ifs h with ⟨h1150, h⟩ | ⟨h1150, h⟩
  ·obtain ⟨h1151, h⟩ := ifn h
   have e1152 := (show Zv Try.prog 3 (x8.toNat * 1) (List.map vi a0) = some (vi (a0.getD x8.toNat 0)) from Jk ag3 vi a0 0 h1151 (by omega))
   rcases ifs h with ⟨h1153, h⟩ | ⟨h1153, h⟩
   ·injection h with h; subst h
    exact Qz (c := ⟨[(4, none)], [], []⟩) (s1 := (Jw a0 a1 x8)) pm pn (ans := [.reg (.n :: []), .br true, .reg (.n :: .n :: []), .reg (nN 4 (.v (vi (a0.getD x8.toNat 0)) :: .n :: [])), .br true, .reg (.n :: .n :: [])]) (by kernel_rfl) (by intro e; cases e) (an (an (ti tt) (an (an (dt h1150) tt) (an (ti (ti tt)) (an (ti (ti (ti (an h1151 (an e1152 (ti tt)))))) (an (dt h1153) (an (ti (ti tt)) tt)))))) (ti tt))
   ·have h2 := ih _ _ h
    obtain ⟨q, hv, hq⟩ := pkR (rd := none) (P := Try.prog) (fn := Try.f42) (k := 0) (s := (X8 a0 a1 x8)) (ans := [.reg (.n :: []), .br true, .reg (.n :: .n :: []), .reg (nN 4 (.v (vi (a0.getD x8.toNat 0)) :: .n :: [])), .br false, .reg (.n :: .n :: [])]) (c := ⟨[(0, none), (1, none), (7, none), (8, none)], [], []⟩) (e := .normal) (s1 := (X8 a0 a1 (w64 (x8 + 1)))) (an (an (ti tt) (an (an (dt h1150) tt) (an (an (ti (ti tt)) (an (ti (ti (ti (an h1151 (an e1152 (ti tt)))))) (an (df h1153) tt))) (ti (ti tt))))) (ti tt)) (by kernel_rfl)
    cases r with
    | inl r => exact Qy pm pn hv hq h2
    | inr r =>
     exact Qy pm pn hv hq h2
  ·injection h with h; subst h
   exact Qz (c := ⟨[], [], []⟩) (s1 := (Jy a0 a1 ())) pm pn (ans := [.reg (.n :: []), .br false]) (by kernel_rfl) (by intro e; cases e) (an (an (ti tt) (an (df h1150) tt)) (ti tt))
def Jm (k : Nat) (a0 : (List Int)) (a1 : Int) : Option Int :=
 (Qx k a0 a1 k 0).bind fun r1155 => (match r1155 with | .inl r1156 => (some r1156) | .inr r1157 => (some (-1)))
theorem Qes (k : Nat) (a0 : (List Int)) (a1 : Int) (r : Int) (h : Jm k a0 a1 = some r) : VC Try.prog 42 [VV.tr (List.map vi a0) a0.length, vi a1] (vi r) := by
 unfold Jm at h
 obtain ⟨r1155, h1154, h⟩ := bs h
 have hph1154 := Qc5 k a0 a1 _ _ _ h1154
 cases r1155 with
 | inl r1156 =>
  dsimp only at h
  have e1158 := (an (ti tt) (VRun.loop hph1154))
  injection h with h; subst h
  exact Qk pm pn Try.func42 (r0 := vi r1156) (ans := [.reg (.n :: []), .reg (nN 3 []), .sub ⟨[(0, none), (1, none), (7, none), (8, none)], [], []⟩ .ret (Jw a0 a1 r1156)]) (fr := true) (by kernel_rfl) (an (an (ti tt) (an (ti (ti (ti tt))) e1158)) (ti tt)) (Wv.refl _)
 | inr r1157 =>
  dsimp only at h
  have e1159 := (an (ti tt) (VRun.loop hph1154))
  injection h with h; subst h
  exact Qk pm pn Try.func42 (r0 := vi (-1)) (ans := [.reg (.n :: []), .reg (nN 3 []), .sub ⟨[(0, none), (1, none), (7, none), (8, none)], [], []⟩ (.exit 0) (Jy a0 a1 r1157), .reg (.n :: [])]) (fr := true) (by kernel_rfl) (an (an (ti tt) (an (an (ti (ti (ti tt))) e1159) (an (ti tt) tt))) (ti tt)) (Wv.refl _)
def Qzb (z0 : Zy) (z1 : Int) (z2 : Int) : List Ans := (nN 5 (.v (VV.tr (List.map vi ((z0.stops.getD z1.toNat default).turns)) (((z0.stops.getD z1.toNat default).turns).length)) :: .n :: .call (vi z2) :: .n :: []))
def Q1r (z0 : Zy) (z1 : Int) (z2 : Int) : List Ans := (nN 7 (.v (VV.tr (List.map vi ((z0.stops.getD z1.toNat default).positions)) (((z0.stops.getD z1.toNat default).positions).length)) :: .n :: .n :: .v (vi (((z0.stops.getD z1.toNat default).positions).getD z2.toNat 0)) :: .n :: .n :: []))
def Jj (a0 : Zy) (a1 : (List Int)) (y1 : List Int) (x21 : Int) : VS := ⟨mkA [(2, VV.pt 0 0), (6, VV.rf 1 0 y1.length), (19, VV.tr (List.map vi a1) a1.length), (20, vi (a1.length : Int)), (21, vi x21)], [some ⟨true, 1, Z7 a0⟩, some ⟨false, 1, List.map vi y1⟩], .nil⟩
def Yz (a0 : Zy) (a1 : (List Int)) (r : Unit) : VS := ⟨mkA [(4, VV.c (.slice none 0 0)), (5, vi 6)], [], .nil⟩
def Y0 (a0 : Zy) (a1 : (List Int)) (r : (List Int)) : VS := ⟨mkA [(6, VV.rf 1 0 r.length)], [some ⟨true, 1, Z7 a0⟩, some ⟨false, 1, List.map vi r⟩], .nil⟩
def Zl (k : Nat) (a0 : Zy) (a1 : (List Int)) : Nat -> (List Int) -> Int -> Option (Sum Unit (List Int))
 | 0, _, _ => none
 | fuel + 1, y1, x21 => if x21 < (a1.length : Int) then (if 0 <= x21 /\ x21 < (a1.length : Int) then (if 0 <= x21 /\ x21 < (a0.stops.length : Int) then ((Jm k ((a0.stops.getD x21.toNat default).turns) (a1.getD x21.toNat 0)).bind fun r1253 => (if r1253 < 0 then (some (.inl ())) else (if 0 <= r1253 /\ r1253 < (((a0.stops.getD x21.toNat default).positions).length : Int) then (if 0 <= x21 /\ x21 < (y1.length : Int) then (Zl k a0 a1 fuel (y1.set x21.toNat (((a0.stops.getD x21.toNat default).positions).getD r1253.toNat 0)) (w64 (x21 + 1))) else none) else none))) else none) else none) else (some (.inr y1))
theorem Qd2 (k : Nat) (a0 : Zy) (a1 : (List Int)) : ∀ (fuel : Nat) (y1 : List Int) (x21 : Int) (r : Sum Unit (List Int)), Zl k a0 a1 fuel y1 x21 = some r -> (match r with | .inl r => J6 none Try.prog (szF Try.f23) (X5 Try.f23 0) (Jj a0 a1 y1 x21) .ret (Yz a0 a1 r) | .inr r => J6 none Try.prog (szF Try.f23) (X5 Try.f23 0) (Jj a0 a1 y1 x21) (.exit 0) (Y0 a0 a1 r)) := by
 intro fuel
 induction fuel with
 | zero => intro y1 x21 r h; rw [Zl.eq_1] at h; cases h
 | succ fuel ih =>
  intro y1 x21 r h
  rw [Zl.eq_2] at h
  rcases ifs h with ⟨h1248, h⟩ | ⟨h1248, h⟩
  ·obtain ⟨h1249, h⟩ := ifn h
   have e1250 := (show Zv Try.prog 3 (x21.toNat * 1) (List.map vi a1) = some (vi (a1.getD x21.toNat 0)) from Jk ag3 vi a1 0 h1249 (by omega))
   obtain ⟨h1251, h⟩ := ifn h
   have e1252 := (show Zv Try.prog 29 (x21.toNat * 8 + 6) (flatMap Qw a0.stops) = some (VV.tr (List.map vi ((a0.stops.getD x21.toNat default).turns)) (((a0.stops.getD x21.toNat default).turns).length)) from (Qdx ag29 Qw 8 6 Qam (by omega) a0.stops default h1251 (by omega)).trans rfl)
   obtain ⟨r1253, h1254, h⟩ := bs h
   have e1255 := (Qes k ((a0.stops.getD x21.toNat default).turns) (a1.getD x21.toNat 0) _ h1254)
   have e1256 := (ti (ti (ti (an h1251 (ti (an e1252 (ti (an e1255 (ti tt)))))))))
   rcases ifs h with ⟨h1257, h⟩ | ⟨h1257, h⟩
   ·injection h with h; subst h
    exact Qz (c := ⟨[(4, none), (5, none)], [], []⟩) (s1 := (Yz a0 a1 ())) pm pn (ans := [.reg (.n :: []), .br true, .reg (.n :: .n :: .v (vi (a1.getD x21.toNat 0)) :: .n :: .n :: []), .reg (Qzb a0 x21 r1253), .reg (.n :: .n :: []), .br true, .reg (.n :: .n :: [])]) (by kernel_rfl) (by intro e; cases e) (an (an (ti tt) (an (an (dt h1248) tt) (an (ti (an h1249 (an e1250 (ti (ti tt))))) (an e1256 (an (ti (ti tt)) (an (dt h1257) (an (ti (ti tt)) tt))))))) (ti tt))
   ·have e1258 := (show Zv Try.prog 29 (x21.toNat * 8 + 7) (flatMap Qw a0.stops) = some (VV.tr (List.map vi ((a0.stops.getD x21.toNat default).positions)) (((a0.stops.getD x21.toNat default).positions).length)) from (Qdx ag29 Qw 8 7 Qam (by omega) a0.stops default h1251 (by omega)).trans rfl)
    obtain ⟨h1259, h⟩ := ifn h
    have e1260 := (show Zv Try.prog 3 (r1253.toNat * 1) (List.map vi ((a0.stops.getD x21.toNat default).positions)) = some (vi (((a0.stops.getD x21.toNat default).positions).getD r1253.toNat 0)) from Jk ag3 vi ((a0.stops.getD x21.toNat default).positions) 0 h1259 (by omega))
    obtain ⟨h1261, h⟩ := ifn h
    have e1262 := (show (0 + x21.toNat * 1) + 1 <= List.length (List.map vi y1) from (by simp only [length_map]; omega))
    have e1263 := (ti (ti (ti (ti (ti (an h1251 (ti (an e1258 (ti (an h1259 (an e1260 (an h1261 (an e1262 tt)))))))))))))
    have h2 := ih _ _ _ h
    obtain ⟨q, hv, hq⟩ := pkR (rd := none) (P := Try.prog) (fn := Try.f23) (k := 0) (s := (Jj a0 a1 y1 x21)) (ans := [.reg (.n :: []), .br true, .reg (.n :: .n :: .v (vi (a1.getD x21.toNat 0)) :: .n :: .n :: []), .reg (Qzb a0 x21 r1253), .reg (.n :: .n :: []), .br false, .reg (Q1r a0 x21 r1253), .reg (.n :: .n :: [])]) (c := ⟨[(2, none), (6, some (VV.rf 1 0 ((y1.set x21.toNat (((a0.stops.getD x21.toNat default).positions).getD r1253.toNat 0)).length))), (19, none), (20, none), (21, none)], [none, some (List.map vi (y1.set x21.toNat (((a0.stops.getD x21.toNat default).positions).getD r1253.toNat 0)))], []⟩) (e := .normal) (s1 := (Jj a0 a1 (y1.set x21.toNat (((a0.stops.getD x21.toNat default).positions).getD r1253.toNat 0)) (w64 (x21 + 1)))) (an (an (ti tt) (an (an (dt h1248) tt) (an (an (ti (an h1249 (an e1250 (ti (ti tt))))) (an e1256 (an (an (ti (ti tt)) (an (df h1257) tt)) e1263))) (ti (ti tt))))) (an (an (show Wv (VV.rf 1 0 y1.length) (VV.rf 1 0 ((y1.set x21.toNat (((a0.stops.getD x21.toNat default).positions).getD r1253.toNat 0)).length)) from (Wv.of_eq (by simp))) tt) (an (show putT (0 + x21.toNat * 1) (List.map vi y1) [vi (((a0.stops.getD x21.toNat default).positions).getD r1253.toNat 0)] = List.map vi (y1.set x21.toNat (((a0.stops.getD x21.toNat default).positions).getD r1253.toNat 0)) from (by exact Qha y1 h1261 (((a0.stops.getD x21.toNat default).positions).getD r1253.toNat 0) (by omega))) tt))) (by kernel_rfl)
    cases r with
    | inl r => exact Qy pm pn hv hq h2
    | inr r =>
     exact Qy pm pn hv hq h2
  ·injection h with h; subst h
   exact Qz (c := ⟨[(6, none)], [none, none], []⟩) (s1 := (Y0 a0 a1 y1)) pm pn (ans := [.reg (.n :: []), .br false]) (by kernel_rfl) (by intro e; cases e) (an (an (ti tt) (an (df h1248) tt)) (ti tt))
theorem Q1s (z0 : (List Int)) : VV.tu [VV.fw 1 (List.drop 0 (List.map unfr (List.map vi z0))) z0.length, vi 0] = VV.tu [VV.fw 1 (List.map vi z0) z0.length, vi 0] := by first | rfl | (simp only [Qea, Qm, map_cons, map_nil, un_i, length_map, length_cons, length_nil]; done) | (simp only [Qea, Qm, map_cons, map_nil, un_i, length_map, length_cons, length_nil]; rfl) | (simp only [Qea, Qm, map_cons, map_nil, un_i, length_map, length_cons, length_nil, length_cons, length_nil, length_append]; done)
def Y1 (k : Nat) (a0 : Zy) (a1 : (List Int)) : Option ((List Int) × Int) :=
 if (a1.length : Int) = (a0.stops.length : Int) then (if 0 <= (a1.length : Int) /\ (a1.length : Int) <= 1000000000 then ((Zl k a0 a1 k (List.replicate (a1.length : Int).toNat (0 : Int)) 0).bind fun r1265 => (match r1265 with | .inl r1266 => (some ([], 6)) | .inr r1267 => (some (r1267, 0)))) else none) else (some ([], 10))
theorem Qfx (k : Nat) (a0 : Zy) (a1 : (List Int)) (r : ((List Int) × Int)) (h : Y1 k a0 a1 = some r) : VC Try.prog 23 [VV.ag (Z7 a0), VV.tr (List.map vi a1) a1.length] (VV.tu [VV.fw 1 (List.map vi r.1) r.1.length, vi r.2]) := by
 unfold Y1 at h
 rcases ifs h with ⟨h1211, h⟩ | ⟨h1211, h⟩
 ·obtain ⟨h1212, h⟩ := ifn h
  have e1213 := (show 0 <= (a1.length : Int) /\ (a1.length : Int) = (a1.length : Int) /\ (8 * (a1.length : Int).toNat) <= 281474976710656 /\ (a1.length : Int) < 1099511627776 from ⟨by omega, rfl, by omega, by omega⟩)
  obtain ⟨r1265, h1264, h⟩ := bs h
  have hph1264 := Qd2 k a0 a1 _ _ _ _ h1264
  cases r1265 with
  | inl r1266 =>
   dsimp only at h
   have e1268 := (an (an (an (show Wv (VV.rf 1 0 ((a1.length : Int).toNat)) (VV.rf 1 0 ((List.replicate (a1.length : Int).toNat (0 : Int)).length)) from (Wv.of_eq (by simp))) tt) (an (show List.replicate (a1.length : Int).toNat (VV.c (.int .i64 0)) = List.map vi (List.replicate (a1.length : Int).toNat (0 : Int)) from Qc3 _) tt)) (VRun.loop hph1264))
   injection h with h; subst h
   exact Qk pm pn Try.func23 (r0 := VV.tu [VV.c (.slice none 0 0), vi 6]) (ans := [.reg (nN 3 []), .reg (nN 6 []), .br false, .reg (nN 4 []), .reg (nN 3 []), .sub ⟨[(2, none), (6, some (VV.rf 1 0 ((List.replicate (a1.length : Int).toNat (0 : Int)).length))), (19, none), (20, none), (21, none)], [none, some (List.map vi (List.replicate (a1.length : Int).toNat (0 : Int)))], []⟩ .ret (Yz a0 a1 r1266)]) (fr := true) (by kernel_rfl) (an (an (ti (ti (ti tt))) (an (an (ti (ti (ti (ti (ti (ti tt)))))) (an (Q5 (dt h1211)) tt)) (an (ti (ti (an e1213 (ti tt)))) (an (ti (ti (ti tt))) e1268)))) (ti (ti tt))) (Wv.tuL (.cons Wv.Qka (.cons (Wv.refl _) .nil)))
  | inr r1267 =>
   dsimp only at h
   have e1269 := (an (an (an (show Wv (VV.rf 1 0 ((a1.length : Int).toNat)) (VV.rf 1 0 ((List.replicate (a1.length : Int).toNat (0 : Int)).length)) from (Wv.of_eq (by simp))) tt) (an (show List.replicate (a1.length : Int).toNat (VV.c (.int .i64 0)) = List.map vi (List.replicate (a1.length : Int).toNat (0 : Int)) from Qc3 _) tt)) (VRun.loop hph1264))
   injection h with h; subst h
   exact Qk pm pn Try.func23 (r0 := VV.tu [VV.fw 1 (List.drop 0 (List.map unfr (List.map vi r1267))) r1267.length, vi 0]) (ans := [.reg (nN 3 []), .reg (nN 6 []), .br false, .reg (nN 4 []), .reg (nN 3 []), .sub ⟨[(2, none), (6, some (VV.rf 1 0 ((List.replicate (a1.length : Int).toNat (0 : Int)).length))), (19, none), (20, none), (21, none)], [none, some (List.map vi (List.replicate (a1.length : Int).toNat (0 : Int)))], []⟩ (.exit 0) (Y0 a0 a1 r1267), .reg (nN 3 [])]) (fr := true) (by kernel_rfl) (an (an (ti (ti (ti tt))) (an (an (ti (ti (ti (ti (ti (ti tt)))))) (an (Q5 (dt h1211)) tt)) (an (ti (ti (an e1213 (ti tt)))) (an (an (ti (ti (ti tt))) e1269) (an (ti (ti (ti tt))) tt))))) (an (show List.all (List.map vi r1267) new0 = true from (by exact Qhb _)) (ti tt))) (Wv.of_eq (Q1s r1267))
 ·injection h with h; subst h
  exact Qk pm pn Try.func23 (r0 := VV.tu [VV.c (.slice none 0 0), vi 10]) (ans := [.reg (nN 3 []), .reg (nN 6 []), .br true, .reg (.n :: .n :: [])]) (fr := true) (by kernel_rfl) (an (an (ti (ti (ti tt))) (an (ti (ti (ti (ti (ti (ti tt)))))) (an (Z5 (df h1211)) (an (ti (ti tt)) tt)))) (ti (ti tt))) (Wv.tuL (.cons Wv.Qka (.cons (Wv.refl _) .nil)))
def Xo (k : Nat) (a0 : Int) (a1 : Int) : Option Int :=
 (Qae k a0 a1).bind fun r1282 => (if r1282.2 = true then (some (w64 (r1282.1 + 10000000000))) else (some r1282.1))
theorem Y7 (k : Nat) (a0 : Int) (a1 : Int) (r : Int) (h : Xo k a0 a1 = some r) : VC Try.prog 24 [vi a0, vi a1] (vi r) := by
 unfold Xo at h
 obtain ⟨r1282, h1283, h⟩ := bs h
 have e1284 := (ti (ti (an (Qg0 k a0 a1 _ h1283) (ti (ti (ti (ti (ti tt))))))))
 rcases ifs h with ⟨h1285, h⟩ | ⟨h1285, h⟩
 ·injection h with h; subst h
  exact Qk pm pn Try.func24 (r0 := vi (w64 (r1282.1 + 10000000000))) (ans := [.reg (.n :: []), .reg (.n :: .n :: .call (VV.tu [vi r1282.1, vb r1282.2]) :: nN 5 []), .reg (.n :: []), .br true, .reg (nN 3 [])]) (fr := true) (by kernel_rfl) (an (an (ti tt) (an e1284 (an (ti tt) (an h1285 (an (ti (ti (ti tt))) tt))))) (ti tt)) (Wv.refl _)
 ·injection h with h; subst h
  exact Qk pm pn Try.func24 (r0 := vi r1282.1) (ans := [.reg (.n :: []), .reg (.n :: .n :: .call (VV.tu [vi r1282.1, vb r1282.2]) :: nN 5 []), .reg (.n :: []), .br false, .reg (.n :: .n :: [])]) (fr := true) (by kernel_rfl) (an (an (ti tt) (an e1284 (an (an (ti tt) (an (Zb h1285) tt)) (an (ti (ti tt)) tt)))) (ti tt)) (Wv.refl _)
def Wu (r1309 : ((List Int) × Int)) (x14 : Int) (x15 : Int) (x42 : Int) : VS := ⟨mkA [(14, vi x14), (15, vi x15), (40, VV.fr (List.map vi r1309.1) r1309.1.length), (41, vi (r1309.1.length : Int)), (42, vi x42)], [], .nil⟩
def Y6 (r1309 : ((List Int) × Int)) (r : Int) : VS := ⟨mkA [(14, vi r)], [], .nil⟩
def Zr (k : Nat) (r1309 : ((List Int) × Int)) : Nat -> Int -> Int -> Int -> Option (Int)
 | 0, _, _, _ => none
 | fuel + 1, x14, x15, x42 => if x42 < (r1309.1.length : Int) then (if 0 <= x42 /\ x42 < (r1309.1.length : Int) then ((Xo k x15 (r1309.1.getD x42.toNat 0)).bind fun r1329 => (Zr k r1309 fuel (w64 (x14 + r1329)) (r1309.1.getD x42.toNat 0) (w64 (x42 + 1)))) else none) else (some x14)
theorem Qeb (k : Nat) (r1309 : ((List Int) × Int)) : ∀ (fuel : Nat) (x14 : Int) (x15 : Int) (x42 : Int) (r : Int), Zr k r1309 fuel x14 x15 x42 = some r -> (J6 none Try.prog (szF Try.f7) (X5 Try.f7 0) (Wu r1309 x14 x15 x42) (.exit 0) (Y6 r1309 r)) := by
 intro fuel
 induction fuel with
 | zero => intro x14 x15 x42 r h; rw [Zr.eq_1] at h; cases h
 | succ fuel ih =>
  intro x14 x15 x42 r h
  rw [Zr.eq_2] at h
  rcases ifs h with ⟨h1326, h⟩ | ⟨h1326, h⟩
  ·obtain ⟨h1327, h⟩ := ifn h
   have e1328 := (show Zv Try.prog 3 (x42.toNat * 1) (List.map vi r1309.1) = some (vi (r1309.1.getD x42.toNat 0)) from Jk ag3 vi r1309.1 0 h1327 (by omega))
   obtain ⟨r1329, h1330, h⟩ := bs h
   have e1331 := (Y7 k x15 (r1309.1.getD x42.toNat 0) _ h1330)
   have h2 := ih _ _ _ _ h
   obtain ⟨q, hv, hq⟩ := pkR (rd := none) (P := Try.prog) (fn := Try.f7) (k := 0) (s := (Wu r1309 x14 x15 x42)) (ans := [.reg (.n :: []), .br true, .reg (.n :: .v (vi (r1309.1.getD x42.toNat 0)) :: .n :: []), .reg (nN 3 (.call (vi r1329) :: .n :: .n :: [])), .reg (.n :: .n :: []), .reg (.n :: .n :: [])]) (c := ⟨[(14, none), (15, none), (40, none), (41, none), (42, none)], [], []⟩) (e := .normal) (s1 := (Wu r1309 (w64 (x14 + r1329)) (r1309.1.getD x42.toNat 0) (w64 (x42 + 1)))) (an (an (ti tt) (an (an (dt h1326) tt) (an (an (an h1327 (an e1328 (ti tt))) (an (ti (ti (ti (an e1331 (ti (ti tt)))))) (ti (ti tt)))) (ti (ti tt))))) (ti tt)) (by kernel_rfl)
   exact Qy pm pn hv hq h2
  ·injection h with h; subst h
   exact Qz (c := ⟨[(14, none)], [], []⟩) (s1 := (Y6 r1309 x14)) pm pn (ans := [.reg (.n :: []), .br false]) (by kernel_rfl) (by intro e; cases e) (an (an (ti tt) (an (df h1326) tt)) (ti tt))
def Qzc (z0 : ((List Int) × Int)) : List Ans := (.n :: .n :: .call (VV.tu [VV.fr (List.map vi z0.1) z0.1.length, vi z0.2]) :: nN 5 [])
def Y8 (k : Nat) (a0 : Qc) (a1 : (List Qa)) (a2 : A26) (a3 : (List Int)) : Option (Int × Int) :=
 (Qan k a0 a1 a2).bind fun r1304 => (if r1304.2.2 = 0 then ((Y1 k r1304.1 a3).bind fun r1309 => (if r1309.2 = 0 then ((Zr k r1309 k 0 r1304.1.begin 0).bind fun r1333 => (some (r1333, 0))) else (some (0, r1309.2)))) else (some (0, r1304.2.2)))
theorem Qga (k : Nat) (a0 : Qc) (a1 : (List Qa)) (a2 : A26) (a3 : (List Int)) (r : (Int × Int)) (h : Y8 k a0 a1 a2 a3 = some r) : VC Try.prog 7 [VV.ag (Zq a0), VV.tr (flatMap Qh a1) a1.length, VV.ag (Qdw a2), VV.tr (List.map vi a3) a3.length] (VV.tu [vi r.1, vi r.2]) := by
 unfold Y8 at h
 obtain ⟨r1304, h1305, h⟩ := bs h
 have e1306 := (show VC Try.prog 22 [VV.ag (Zq a0), VV.tr (flatMap Qh a1) a1.length, VV.ag (Qdw a2)] (VV.tu [VV.ag (Qbg r1304.1), vi r1304.2.1, vi r1304.2.2]) from (VC.weak (Qda k a0 a1 a2 _ h1305) (Wv.tuL (.cons (Wv.agL (.cons (Wv.refl _) (.cons (Wv.fw rfl rfl) .nil))) (.cons (Wv.refl _) (.cons (Wv.refl _) .nil))))))
 have e1307 := (ti (ti (ti (an e1306 (ti (ti (ti (ti (ti (ti (ti (ti tt))))))))))))
 rcases ifs h with ⟨h1308, h⟩ | ⟨h1308, h⟩
 ·obtain ⟨r1309, h1310, h⟩ := bs h
  have e1311 := (show VC Try.prog 23 [VV.ag (Z7 r1304.1), VV.tr (List.map vi a3) a3.length] (VV.tu [VV.fr (List.map vi r1309.1) r1309.1.length, vi r1309.2]) from (VC.weak (Qfx k r1304.1 a3 _ h1310) (Wv.tuL (.cons (Wv.fw rfl rfl) (.cons (Wv.refl _) .nil)))))
  have e1312 := (ti (ti (an e1311 (ti (ti (ti (ti (ti tt))))))))
  rcases ifs h with ⟨h1313, h⟩ | ⟨h1313, h⟩
  ·obtain ⟨r1333, h1332, h⟩ := bs h
   have hph1332 := Qeb k r1309 _ _ _ _ _ h1332
   have e1334 := (an (ti tt) (VRun.loop hph1332))
   injection h with h; subst h
   exact Qk pm pn Try.func7 (r0 := VV.tu [vi r1333, vi 0]) (ans := [.reg (nN 4 []), .reg (nN 3 (.call (VV.tu [VV.ag (Qbg r1304.1), vi r1304.2.1, vi r1304.2.2]) :: nN 8 [])), .reg (.n :: .n :: []), .br false, .reg (Qzc r1309), .reg (.n :: .n :: []), .br false, .reg (nN 4 []), .reg (nN 3 []), .sub ⟨[(14, none), (15, none), (40, none), (41, none), (42, none)], [], []⟩ (.exit 0) (Y6 r1309 r1333), .reg (nN 3 [])]) (fr := true) (by kernel_rfl) (an (an (ti (ti (ti (ti tt)))) (an e1307 (an (an (ti (ti tt)) (an (Q5 (dt h1308)) tt)) (an e1312 (an (an (ti (ti tt)) (an (Q5 (dt h1313)) tt)) (an (ti (ti (ti (ti tt)))) (an (an (ti (ti (ti tt))) e1334) (an (ti (ti (ti tt))) tt)))))))) (ti (ti tt))) (Wv.refl _)
  ·injection h with h; subst h
   exact Qk pm pn Try.func7 (r0 := VV.tu [vi 0, vi r1309.2]) (ans := [.reg (nN 4 []), .reg (nN 3 (.call (VV.tu [VV.ag (Qbg r1304.1), vi r1304.2.1, vi r1304.2.2]) :: nN 8 [])), .reg (.n :: .n :: []), .br false, .reg (Qzc r1309), .reg (.n :: .n :: []), .br true, .reg (nN 3 [])]) (fr := true) (by kernel_rfl) (an (an (ti (ti (ti (ti tt)))) (an e1307 (an (an (ti (ti tt)) (an (Q5 (dt h1308)) tt)) (an e1312 (an (ti (ti tt)) (an (Z5 (df h1313)) (an (ti (ti (ti tt))) tt))))))) (ti (ti tt))) (Wv.refl _)
 ·injection h with h; subst h
  exact Qk pm pn Try.func7 (r0 := VV.tu [vi 0, vi r1304.2.2]) (ans := [.reg (nN 4 []), .reg (nN 3 (.call (VV.tu [VV.ag (Qbg r1304.1), vi r1304.2.1, vi r1304.2.2]) :: nN 8 [])), .reg (.n :: .n :: []), .br true, .reg (nN 3 [])]) (fr := true) (by kernel_rfl) (an (an (ti (ti (ti (ti tt)))) (an e1307 (an (ti (ti tt)) (an (Z5 (df h1308)) (an (ti (ti (ti tt))) tt))))) (ti (ti tt))) (Wv.refl _)
end Go.Proofs.Ytbgajdbpdhipiaa.Vg

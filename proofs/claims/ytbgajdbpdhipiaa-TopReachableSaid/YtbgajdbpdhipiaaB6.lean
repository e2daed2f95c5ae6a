import Derived.Test.YtbgajdbpdhipiaaB4
namespace Go.Proofs.Ytbgajdbpdhipiaa.Vg
set_option maxRecDepth 100000
set_option maxHeartbeats 4000000
set_option linter.unusedVariables false
set_option linter.unusedSimpArgs false
open Go Go.Proofs.Ytbgajdbpdhipiaa.Ev Go.Proofs.Ytbgajdbpdhipiaa.Vv
open List (flatMap length_cons length_nil length_map length_append map_cons map_nil length_replicate)
theorem ag29 : Qct Try.prog 29 = some false := by kernel_rfl
theorem Q2m (z0 : Int) (z1 : Int) : [vi 25920000, VV.tr (List.map vi ([z0, z1] : List Int)) (([z0, z1] : List Int).length)] = [vi 25920000, VV.tr [vi z0, vi z1] 2] := by first | rfl | (simp only [Qn, map_cons, map_nil, un_i, Ji, length_map, length_cons, length_nil]; done) | (simp only [Qn, map_cons, map_nil, un_i, Ji, length_map, length_cons, length_nil]; rfl) | (simp only [Qn, map_cons, map_nil, un_i, Ji, length_map, length_cons, length_nil, length_cons, length_nil, length_append]; done)
def Jw (k : Nat) (a0 : Int) (a1 : Int) : Option (Int × Bool) :=
 some (maxI (w64 (a1 - a0)) (w64 (a0 - a1)), decide (648000 < (maxI (w64 (a1 - a0)) (w64 (a0 - a1)))))
theorem Qbu (k : Nat) (a0 : Int) (a1 : Int) (r : (Int × Bool)) (h : Jw k a0 a1 = some r) : VC Try.prog 31 [vi a0, vi a1] (VV.tu [vi r.1, vb r.2]) := by
 unfold Jw at h
 injection h with h; subst h
 exact Qo pm pn Try.func31 (r0 := VV.tu [vi (maxI (w64 (a1 - a0)) (w64 (a0 - a1))), vb (decide (648000 < (maxI (w64 (a1 - a0)) (w64 (a0 - a1)))))]) (ans := [.reg (.n :: .n :: []), .reg (nN 8 []), .reg (nN 5 [])]) (fr := true) (by kernel_rfl) (an (an (t2 tt) (an (t8 tt) (an (t5 tt) tt))) (t2 tt)) (Wv.refl _)
def Qc0 (k : Nat) (a0 : Int) (a1 : Int) : Option (Int × Bool × Int) :=
 (Yb k 25920000 ([a0, a1] : List Int)).bind fun r1104 => (if r1104 = true then ((Jw k a0 a1).bind fun r1108 => (some (r1108.1, r1108.2, 0))) else (some (0, false, 2)))
theorem Qf3 (k : Nat) (a0 : Int) (a1 : Int) (r : (Int × Bool × Int)) (h : Qc0 k a0 a1 = some r) : VC Try.prog 17 [vi a0, vi a1] (VV.tu [vi r.1, vb r.2.1, vi r.2.2]) := by
 unfold Qc0 at h
 obtain ⟨r1104, h1105, h⟩ := bs h
 have e1106 := (VC.args (Qci k 25920000 ([a0, a1] : List Int) _ h1105) (Q2m a0 a1))
 rcases ifs h with ⟨h1107, h⟩ | ⟨h1107, h⟩
 ·obtain ⟨r1108, h1109, h⟩ := bs h
  have e1110 := (t2 (an (Qbu k a0 a1 _ h1109) (t5 tt)))
  injection h with h; subst h
  exact Qo pm pn Try.func17 (r0 := VV.tu [vi r1108.1, vb r1108.2, vi 0]) (ans := [.reg (nN 3 []), .reg (.n :: .n :: .v VV.any :: .call (vb r1104) :: .n :: []), .br false, .reg (.n :: .n :: .call (VV.tu [vi r1108.1, vb r1108.2]) :: nN 5 []), .reg (nN 5 [])]) (fr := true) (by kernel_rfl) (an (an (t3 tt) (an (an (t3 (an e1106 (ti tt))) (an (Qi h1107) tt)) (an e1110 (an (t5 tt) tt)))) (t3 tt)) (Wv.refl _)
 ·injection h with h; subst h
  exact Qo pm pn Try.func17 (r0 := VV.tu [vi 0, vb false, vi 2]) (ans := [.reg (nN 3 []), .reg (.n :: .n :: .v VV.any :: .call (vb r1104) :: .n :: []), .br true, .reg (nN 3 [])]) (fr := true) (by kernel_rfl) (an (an (t3 tt) (an (t3 (an e1106 (ti tt))) (an (Qq (Qy h1107)) (an (t3 tt) tt)))) (t3 tt)) (Wv.refl _)
def Jc (a0 : (List Int)) (a1 : Int) (x8 : Int) : VS := ⟨mkA [(0, VV.tr (List.map vi a0) a0.length), (1, vi a1), (7, vi (a0.length : Int)), (8, vi x8)], [], .nil⟩
def Yc (a0 : (List Int)) (a1 : Int) (r : Int) : VS := ⟨mkA [(4, vi r)], [], .nil⟩
def Yd (a0 : (List Int)) (a1 : Int) (r : Unit) : VS := ⟨mkA [], [], .nil⟩
def Zc (k : Nat) (a0 : (List Int)) (a1 : Int) : Nat -> Int -> Option (Sum Int Unit)
 | 0, _ => none
 | fuel + 1, x8 => if x8 < (a0.length : Int) then (if 0 <= x8 /\ x8 < (a0.length : Int) then (if a1 = (a0.getD x8.toNat 0) then (some (.inl x8)) else (Zc k a0 a1 fuel (w64 (x8 + 1)))) else none) else (some (.inr ()))
theorem Qdh (k : Nat) (a0 : (List Int)) (a1 : Int) : ∀ (fuel : Nat) (x8 : Int) (r : Sum Int Unit), Zc k a0 a1 fuel x8 = some r -> (match r with | .inl r => J9 none Try.prog (szF Try.f42) (X9 Try.f42 0) (Jc a0 a1 x8) .ret (Yc a0 a1 r) | .inr r => J9 none Try.prog (szF Try.f42) (X9 Try.f42 0) (Jc a0 a1 x8) (.exit 0) (Yd a0 a1 r)) := by
 intro fuel
 induction fuel with
 | zero => intro x8 r h; rw [Zc.eq_1] at h; cases h
 | succ fuel ih =>
  intro x8 r h
  rw [Zc.eq_2] at h
  rcases ifs h with ⟨h1150, h⟩ | ⟨h1150, h⟩
  ·obtain ⟨h1151, h⟩ := ifn h
   have e1152 := (show Ze Try.prog 3 (x8.toNat * 1) (List.map vi a0) = some (vi (a0.getD x8.toNat 0)) from Xj ag3 vi a0 0 h1151 (by omega))
   rcases ifs h with ⟨h1153, h⟩ | ⟨h1153, h⟩
   ·injection h with h; subst h
    exact Qj (c := ⟨[(4, none)], [], []⟩) (s1 := (Yc a0 a1 x8)) pm pn (ans := [.reg (.n :: []), .br true, .reg (.n :: .n :: []), .reg (nN 4 (.v (vi (a0.getD x8.toNat 0)) :: .n :: [])), .br true, .reg (.n :: .n :: [])]) (by kernel_rfl) (by intro e; cases e) (an (an (ti tt) (an (te h1150) (an (t2 tt) (an (t3 (an h1151 (an e1152 (ti tt)))) (an (dt h1153) (an (t2 tt) tt)))))) (ti tt))
   ·have h2 := ih _ _ h
    obtain ⟨q, hv, hq⟩ := pkR (rd := none) (P := Try.prog) (fn := Try.f42) (k := 0) (s := (Jc a0 a1 x8)) (ans := [.reg (.n :: []), .br true, .reg (.n :: .n :: []), .reg (nN 4 (.v (vi (a0.getD x8.toNat 0)) :: .n :: [])), .br false, .reg (.n :: .n :: [])]) (c := ⟨[(0, none), (1, none), (7, none), (8, none)], [], []⟩) (e := .normal) (s1 := (Jc a0 a1 (w64 (x8 + 1)))) (an (an (ti tt) (an (te h1150) (an (an (t2 tt) (an (t3 (an h1151 (an e1152 (ti tt)))) (tf h1153))) (t2 tt)))) (ti tt)) (by kernel_rfl)
    cases r with
    | inl r => exact Qv pm pn hv hq h2
    | inr r =>
     exact Qv pm pn hv hq h2
  ·injection h with h; subst h
   exact Qj (c := ⟨[], [], []⟩) (s1 := (Yd a0 a1 ())) pm pn (ans := [.reg (.n :: []), .br false]) (by kernel_rfl) (by intro e; cases e) (an (an (ti tt) (tf h1150)) (ti tt))
def Jv (k : Nat) (a0 : (List Int)) (a1 : Int) : Option Int :=
 (Zc k a0 a1 k 0).bind fun r1155 => (match r1155 with | .inl r1156 => (some r1156) | .inr r1157 => (some (-1)))
theorem Qe8 (k : Nat) (a0 : (List Int)) (a1 : Int) (r : Int) (h : Jv k a0 a1 = some r) : VC Try.prog 42 [VV.tr (List.map vi a0) a0.length, vi a1] (vi r) := by
 unfold Jv at h
 obtain ⟨r1155, h1154, h⟩ := bs h
 have hph1154 := Qdh k a0 a1 _ _ _ h1154
 cases r1155 with
 | inl r1156 =>
  dsimp only at h
  have e1158 := (an (ti tt) (VRun.loop hph1154))
  injection h with h; subst h
  exact Qo pm pn Try.func42 (r0 := vi r1156) (ans := [.reg (.n :: []), .reg (nN 3 []), .sub ⟨[(0, none), (1, none), (7, none), (8, none)], [], []⟩ .ret (Yc a0 a1 r1156)]) (fr := true) (by kernel_rfl) (an (an (ti tt) (an (t3 tt) e1158)) (ti tt)) (Wv.refl _)
 | inr r1157 =>
  dsimp only at h
  have e1159 := (an (ti tt) (VRun.loop hph1154))
  injection h with h; subst h
  exact Qo pm pn Try.func42 (r0 := vi (-1)) (ans := [.reg (.n :: []), .reg (nN 3 []), .sub ⟨[(0, none), (1, none), (7, none), (8, none)], [], []⟩ (.exit 0) (Yd a0 a1 r1157), .reg (.n :: [])]) (fr := true) (by kernel_rfl) (an (an (ti tt) (an (an (t3 tt) e1159) (an (ti tt) tt))) (ti tt)) (Wv.refl _)
def Qz0 (z0 : Xp) (z1 : Int) (z2 : Int) : List Ans := (nN 5 (.v (VV.tr (List.map vi ((z0.stops.getD z1.toNat default).turns)) (((z0.stops.getD z1.toNat default).turns).length)) :: .n :: .call (vi z2) :: .n :: []))
def Q2n (z0 : Xp) (z1 : Int) (z2 : Int) : List Ans := (nN 7 (.v (VV.tr (List.map vi ((z0.stops.getD z1.toNat default).positions)) (((z0.stops.getD z1.toNat default).positions).length)) :: .n :: .n :: .v (vi (((z0.stops.getD z1.toNat default).positions).getD z2.toNat 0)) :: .n :: .n :: []))
def Jt (a0 : Xp) (a1 : (List Int)) (y1 : List Int) (x21 : Int) : VS := ⟨mkA [(2, VV.pt 0 0), (6, VV.rf 1 0 y1.length), (19, VV.tr (List.map vi a1) a1.length), (20, vi (a1.length : Int)), (21, vi x21)], [some ⟨true, 1, Xi a0⟩, some ⟨false, 1, List.map vi y1⟩], .nil⟩
def Ws (a0 : Xp) (a1 : (List Int)) (r : Unit) : VS := ⟨mkA [(4, VV.c (.slice none 0 0)), (5, vi 6)], [], .nil⟩
def Wu (a0 : Xp) (a1 : (List Int)) (r : (List Int)) : VS := ⟨mkA [(6, VV.rf 1 0 r.length)], [some ⟨true, 1, Xi a0⟩, some ⟨false, 1, List.map vi r⟩], .nil⟩
def Zw (k : Nat) (a0 : Xp) (a1 : (List Int)) : Nat -> (List Int) -> Int -> Option (Sum Unit (List Int))
 | 0, _, _ => none
 | fuel + 1, y1, x21 => if x21 < (a1.length : Int) then (if 0 <= x21 /\ x21 < (a1.length : Int) then (if 0 <= x21 /\ x21 < (a0.stops.length : Int) then ((Jv k ((a0.stops.getD x21.toNat default).turns) (a1.getD x21.toNat 0)).bind fun r1253 => (if r1253 < 0 then (some (.inl ())) else (if 0 <= r1253 /\ r1253 < (((a0.stops.getD x21.toNat default).positions).length : Int) then (if 0 <= x21 /\ x21 < (y1.length : Int) then (Zw k a0 a1 fuel (y1.set x21.toNat (((a0.stops.getD x21.toNat default).positions).getD r1253.toNat 0)) (w64 (x21 + 1))) else none) else none))) else none) else none) else (some (.inr y1))
theorem Qek (k : Nat) (a0 : Xp) (a1 : (List Int)) : ∀ (fuel : Nat) (y1 : List Int) (x21 : Int) (r : Sum Unit (List Int)), Zw k a0 a1 fuel y1 x21 = some r -> (match r with | .inl r => J9 none Try.prog (szF Try.f23) (X9 Try.f23 0) (Jt a0 a1 y1 x21) .ret (Ws a0 a1 r) | .inr r => J9 none Try.prog (szF Try.f23) (X9 Try.f23 0) (Jt a0 a1 y1 x21) (.exit 0) (Wu a0 a1 r)) := by
 intro fuel
 induction fuel with
 | zero => intro y1 x21 r h; rw [Zw.eq_1] at h; cases h
 | succ fuel ih =>
  intro y1 x21 r h
  rw [Zw.eq_2] at h
  rcases ifs h with ⟨h1248, h⟩ | ⟨h1248, h⟩
  ·obtain ⟨h1249, h⟩ := ifn h
   have e1250 := (show Ze Try.prog 3 (x21.toNat * 1) (List.map vi a1) = some (vi (a1.getD x21.toNat 0)) from Xj ag3 vi a1 0 h1249 (by omega))
   obtain ⟨h1251, h⟩ := ifn h
   have e1252 := (show Ze Try.prog 29 (x21.toNat * 8 + 6) (flatMap Zb a0.stops) = some (VV.tr (List.map vi ((a0.stops.getD x21.toNat default).turns)) (((a0.stops.getD x21.toNat default).turns).length)) from (Ya ag29 Zb 8 6 Qay (by omega) a0.stops default h1251 (by omega)).trans rfl)
   obtain ⟨r1253, h1254, h⟩ := bs h
   have e1255 := (Qe8 k ((a0.stops.getD x21.toNat default).turns) (a1.getD x21.toNat 0) _ h1254)
   have e1256 := (t3 (an h1251 (ti (an e1252 (ti (an e1255 (ti tt)))))))
   rcases ifs h with ⟨h1257, h⟩ | ⟨h1257, h⟩
   ·injection h with h; subst h
    exact Qj (c := ⟨[(4, none), (5, none)], [], []⟩) (s1 := (Ws a0 a1 ())) pm pn (ans := [.reg (.n :: []), .br true, .reg (.n :: .n :: .v (vi (a1.getD x21.toNat 0)) :: .n :: .n :: []), .reg (Qz0 a0 x21 r1253), .reg (.n :: .n :: []), .br true, .reg (.n :: .n :: [])]) (by kernel_rfl) (by intro e; cases e) (an (an (ti tt) (an (te h1248) (an (ti (an h1249 (an e1250 (t2 tt)))) (an e1256 (an (t2 tt) (an (dt h1257) (an (t2 tt) tt))))))) (ti tt))
   ·have e1258 := (show Ze Try.prog 29 (x21.toNat * 8 + 7) (flatMap Zb a0.stops) = some (VV.tr (List.map vi ((a0.stops.getD x21.toNat default).positions)) (((a0.stops.getD x21.toNat default).positions).length)) from (Ya ag29 Zb 8 7 Qay (by omega) a0.stops default h1251 (by omega)).trans rfl)
    obtain ⟨h1259, h⟩ := ifn h
    have e1260 := (show Ze Try.prog 3 (r1253.toNat * 1) (List.map vi ((a0.stops.getD x21.toNat default).positions)) = some (vi (((a0.stops.getD x21.toNat default).positions).getD r1253.toNat 0)) from Xj ag3 vi ((a0.stops.getD x21.toNat default).positions) 0 h1259 (by omega))
    obtain ⟨h1261, h⟩ := ifn h
    have e1262 := (show (0 + x21.toNat * 1) + 1 <= List.length (List.map vi y1) from (by simp only [length_map]; omega))
    have e1263 := (t5 (an h1251 (ti (an e1258 (ti (an h1259 (an e1260 (an h1261 (an e1262 tt)))))))))
    have h2 := ih _ _ _ h
    obtain ⟨q, hv, hq⟩ := pkR (rd := none) (P := Try.prog) (fn := Try.f23) (k := 0) (s := (Jt a0 a1 y1 x21)) (ans := [.reg (.n :: []), .br true, .reg (.n :: .n :: .v (vi (a1.getD x21.toNat 0)) :: .n :: .n :: []), .reg (Qz0 a0 x21 r1253), .reg (.n :: .n :: []), .br false, .reg (Q2n a0 x21 r1253), .reg (.n :: .n :: [])]) (c := ⟨[(2, none), (6, some (VV.rf 1 0 ((y1.set x21.toNat (((a0.stops.getD x21.toNat default).positions).getD r1253.toNat 0)).length))), (19, none), (20, none), (21, none)], [none, some (List.map vi (y1.set x21.toNat (((a0.stops.getD x21.toNat default).positions).getD r1253.toNat 0)))], []⟩) (e := .normal) (s1 := (Jt a0 a1 (y1.set x21.toNat (((a0.stops.getD x21.toNat default).positions).getD r1253.toNat 0)) (w64 (x21 + 1)))) (an (an (ti tt) (an (te h1248) (an (an (ti (an h1249 (an e1250 (t2 tt)))) (an e1256 (an (an (t2 tt) (tf h1257)) e1263))) (t2 tt)))) (an (an (show Wv (VV.rf 1 0 y1.length) (VV.rf 1 0 ((y1.set x21.toNat (((a0.stops.getD x21.toNat default).positions).getD r1253.toNat 0)).length)) from (Wv.of_eq (by simp))) tt) (an (show putT (0 + x21.toNat * 1) (List.map vi y1) [vi (((a0.stops.getD x21.toNat default).positions).getD r1253.toNat 0)] = List.map vi (y1.set x21.toNat (((a0.stops.getD x21.toNat default).positions).getD r1253.toNat 0)) from (by exact Qfx y1 h1261 (((a0.stops.getD x21.toNat default).positions).getD r1253.toNat 0) (by omega))) tt))) (by kernel_rfl)
    cases r with
    | inl r => exact Qv pm pn hv hq h2
    | inr r =>
     exact Qv pm pn hv hq h2
  ·injection h with h; subst h
   exact Qj (c := ⟨[(6, none)], [none, none], []⟩) (s1 := (Wu a0 a1 y1)) pm pn (ans := [.reg (.n :: []), .br false]) (by kernel_rfl) (by intro e; cases e) (an (an (ti tt) (tf h1248)) (ti tt))
theorem Q2o (z0 : (List Int)) : VV.tu [VV.fw 1 (List.drop 0 (List.map unfr (List.map vi z0))) z0.length, vi 0] = VV.tu [VV.fw 1 (List.map vi z0) z0.length, vi 0] := by first | rfl | (simp only [Qdl, Qn, map_cons, map_nil, un_i, length_map, length_cons, length_nil]; done) | (simp only [Qdl, Qn, map_cons, map_nil, un_i, length_map, length_cons, length_nil]; rfl) | (simp only [Qdl, Qn, map_cons, map_nil, un_i, length_map, length_cons, length_nil, length_cons, length_nil, length_append]; done)
def Y9 (k : Nat) (a0 : Xp) (a1 : (List Int)) : Option ((List Int) × Int) :=
 if (a1.length : Int) = (a0.stops.length : Int) then (if 0 <= (a1.length : Int) /\ (a1.length : Int) <= 1000000000 then ((Zw k a0 a1 k (List.replicate (a1.length : Int).toNat (0 : Int)) 0).bind fun r1265 => (match r1265 with | .inl r1266 => (some ([], 6)) | .inr r1267 => (some (r1267, 0)))) else none) else (some ([], 10))
theorem Qgh (k : Nat) (a0 : Xp) (a1 : (List Int)) (r : ((List Int) × Int)) (h : Y9 k a0 a1 = some r) : VC Try.prog 23 [VV.ag (Xi a0), VV.tr (List.map vi a1) a1.length] (VV.tu [VV.fw 1 (List.map vi r.1) r.1.length, vi r.2]) := by
 unfold Y9 at h
 rcases ifs h with ⟨h1211, h⟩ | ⟨h1211, h⟩
 ·obtain ⟨h1212, h⟩ := ifn h
  have e1213 := (show 0 <= (a1.length : Int) /\ (a1.length : Int) = (a1.length : Int) /\ (8 * (a1.length : Int).toNat) <= 281474976710656 /\ (a1.length : Int) < 1099511627776 from ⟨by omega, rfl, by omega, by omega⟩)
  obtain ⟨r1265, h1264, h⟩ := bs h
  have hph1264 := Qek k a0 a1 _ _ _ _ h1264
  cases r1265 with
  | inl r1266 =>
   dsimp only at h
   have e1268 := (an (an (an (show Wv (VV.rf 1 0 ((a1.length : Int).toNat)) (VV.rf 1 0 ((List.replicate (a1.length : Int).toNat (0 : Int)).length)) from (Wv.of_eq (by simp))) tt) (an (show List.replicate (a1.length : Int).toNat (VV.c (.int .i64 0)) = List.map vi (List.replicate (a1.length : Int).toNat (0 : Int)) from Qbe _) tt)) (VRun.loop hph1264))
   injection h with h; subst h
   exact Qo pm pn Try.func23 (r0 := VV.tu [VV.c (.slice none 0 0), vi 6]) (ans := [.reg (nN 3 []), .reg (nN 6 []), .br false, .reg (nN 4 []), .reg (nN 3 []), .sub ⟨[(2, none), (6, some (VV.rf 1 0 ((List.replicate (a1.length : Int).toNat (0 : Int)).length))), (19, none), (20, none), (21, none)], [none, some (List.map vi (List.replicate (a1.length : Int).toNat (0 : Int)))], []⟩ .ret (Ws a0 a1 r1266)]) (fr := true) (by kernel_rfl) (an (an (t3 tt) (an (an (t6 tt) (ta h1211)) (an (t2 (an e1213 (ti tt))) (an (t3 tt) e1268)))) (t2 tt)) (Wv.tuL (.cons Wv.Qhu (.cons (Wv.refl _) .nil)))
  | inr r1267 =>
   dsimp only at h
   have e1269 := (an (an (an (show Wv (VV.rf 1 0 ((a1.length : Int).toNat)) (VV.rf 1 0 ((List.replicate (a1.length : Int).toNat (0 : Int)).length)) from (Wv.of_eq (by simp))) tt) (an (show List.replicate (a1.length : Int).toNat (VV.c (.int .i64 0)) = List.map vi (List.replicate (a1.length : Int).toNat (0 : Int)) from Qbe _) tt)) (VRun.loop hph1264))
   injection h with h; subst h
   exact Qo pm pn Try.func23 (r0 := VV.tu [VV.fw 1 (List.drop 0 (List.map unfr (List.map vi r1267))) r1267.length, vi 0]) (ans := [.reg (nN 3 []), .reg (nN 6 []), .br false, .reg (nN 4 []), .reg (nN 3 []), .sub ⟨[(2, none), (6, some (VV.rf 1 0 ((List.replicate (a1.length : Int).toNat (0 : Int)).length))), (19, none), (20, none), (21, none)], [none, some (List.map vi (List.replicate (a1.length : Int).toNat (0 : Int)))], []⟩ (.exit 0) (Wu a0 a1 r1267), .reg (nN 3 [])]) (fr := true) (by kernel_rfl) (an (an (t3 tt) (an (an (t6 tt) (ta h1211)) (an (t2 (an e1213 (ti tt))) (an (an (t3 tt) e1269) (an (t3 tt) tt))))) (an (show List.all (List.map vi r1267) new0 = true from (by exact Qgm _)) (ti tt))) (Wv.of_eq (Q2o r1267))
 ·injection h with h; subst h
  exact Qo pm pn Try.func23 (r0 := VV.tu [VV.c (.slice none 0 0), vi 10]) (ans := [.reg (nN 3 []), .reg (nN 6 []), .br true, .reg (.n :: .n :: [])]) (fr := true) (by kernel_rfl) (an (an (t3 tt) (an (t6 tt) (an (td h1211) (an (t2 tt) tt)))) (t2 tt)) (Wv.tuL (.cons Wv.Qhu (.cons (Wv.refl _) .nil)))
def Ja (k : Nat) (a0 : Int) (a1 : Int) : Option Int :=
 (Jw k a0 a1).bind fun r1282 => (if r1282.2 = true then (some (w64 (r1282.1 + 10000000000))) else (some r1282.1))
theorem Qbh (k : Nat) (a0 : Int) (a1 : Int) (r : Int) (h : Ja k a0 a1 = some r) : VC Try.prog 24 [vi a0, vi a1] (vi r) := by
 unfold Ja at h
 obtain ⟨r1282, h1283, h⟩ := bs h
 have e1284 := (t2 (an (Qbu k a0 a1 _ h1283) (t5 tt)))
 rcases ifs h with ⟨h1285, h⟩ | ⟨h1285, h⟩
 ·injection h with h; subst h
  exact Qo pm pn Try.func24 (r0 := vi (w64 (r1282.1 + 10000000000))) (ans := [.reg (.n :: []), .reg (.n :: .n :: .call (VV.tu [vi r1282.1, vb r1282.2]) :: nN 5 []), .reg (.n :: []), .br true, .reg (nN 3 [])]) (fr := true) (by kernel_rfl) (an (an (ti tt) (an e1284 (an (ti tt) (an h1285 (an (t3 tt) tt))))) (ti tt)) (Wv.refl _)
 ·injection h with h; subst h
  exact Qo pm pn Try.func24 (r0 := vi r1282.1) (ans := [.reg (.n :: []), .reg (.n :: .n :: .call (VV.tu [vi r1282.1, vb r1282.2]) :: nN 5 []), .reg (.n :: []), .br false, .reg (.n :: .n :: [])]) (fr := true) (by kernel_rfl) (an (an (ti tt) (an e1284 (an (an (ti tt) (an (Qy h1285) tt)) (an (t2 tt) tt)))) (ti tt)) (Wv.refl _)
end Go.Proofs.Ytbgajdbpdhipiaa.Vg

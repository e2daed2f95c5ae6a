import Derived.Test.YtenebnfhhhcfaaaG5
namespace Go.Proofs.Ytenebnfhhhcfaaa.Vg
set_option maxRecDepth 100000
set_option maxHeartbeats 4000000
set_option linter.unusedVariables false
set_option linter.unusedSimpArgs false
open Go Go.Proofs.Ytenebnfhhhcfaaa.Ev Go.Proofs.Ytenebnfhhhcfaaa.Vv
open List (flatMap length_cons length_nil length_map length_append map_cons map_nil length_replicate)
theorem ag37 : Y2 Try.prog 37 = some true := by kernel_rfl
theorem sz37 : szOf Try.prog 37 = some 2 := by kernel_rfl
theorem Qux : EqOK Try.prog 37 [some (.i .i64), some (.i .i64)] := Qts (by kernel_rfl) (by kernel_rfl) (Qpr (len := 2) Try.underlying37 (by kernel_rfl) (by kernel_rfl) (Qtt Try.underlying3 (by kernel_rfl) (by kernel_rfl)))
def Qoy (k : Nat) : Option Bool := some true
theorem Jk (k : Nat) (r : Bool) (h : Qoy k = some r) : VC Try.prog 4 [] (vb r) := by
 injection h with h; subst h
 exact Qq3
def Qsr (z0 : ((List A37) × Int)) (z1 : Int) (z2 : (List A37)) : List Ans := (nN 3 (.v (VV.ag (Xt (z0.1.getD z1.toNat default))) :: nN 3 (.v (VV.ag (Xt (z2.getD z1.toNat default))) :: .n :: [])))
def Zg (a0 : Qb) (a1 : Int) (a2 : Int) (r1225 : (Int × Int)) (r1230 : ((List A37) × Int)) (r1244 : (List A37)) (x13 : Int) : VS := ⟨mkA [(1, vi a1), (2, vi a2), (3, VV.pt 0 0), (7, vi r1225.1), (8, vi r1225.2), (9, VV.fr (flatMap Xt r1230.1) r1230.1.length), (12, VV.fr (flatMap Xt r1244) r1244.length), (13, vi x13)], [some ⟨true, 1, Qe a0⟩], .nil⟩
def Zr (a0 : Qb) (a1 : Int) (a2 : Int) (r1225 : (Int × Int)) (r1230 : ((List A37) × Int)) (r1244 : (List A37)) (r : Unit) : VS := ⟨mkA [(6, vb false)], [], .nil⟩
def Qu (a0 : Qb) (a1 : Int) (a2 : Int) (r1225 : (Int × Int)) (r1230 : ((List A37) × Int)) (r1244 : (List A37)) (r : Unit) : VS := ⟨mkA [(1, vi a1), (2, vi a2), (3, VV.pt 0 0), (7, vi r1225.1), (8, vi r1225.2)], [some ⟨true, 1, Qe a0⟩], .nil⟩
def Qi (k : Nat) (a0 : Qb) (a1 : Int) (a2 : Int) (r1225 : (Int × Int)) (r1230 : ((List A37) × Int)) (r1244 : (List A37)) : Nat -> Int -> Option (Sum Unit Unit)
 | 0, _ => none
 | fuel + 1, x13 => if x13 < (r1230.1.length : Int) then (if 0 <= x13 /\ x13 < (r1230.1.length : Int) then (if 0 <= x13 /\ x13 < (r1244.length : Int) then (if (((r1230.1.getD x13.toNat default).e0 : Int) == ((r1244.getD x13.toNat default).e0) && (((r1230.1.getD x13.toNat default).e1 : Int) == ((r1244.getD x13.toNat default).e1) && true)) = true then (Qi k a0 a1 a2 r1225 r1230 r1244 fuel (w64 (x13 + 1))) else (some (.inl ()))) else none) else none) else (some (.inr ()))
theorem J9 (k : Nat) (a0 : Qb) (a1 : Int) (a2 : Int) (r1225 : (Int × Int)) (r1230 : ((List A37) × Int)) (r1244 : (List A37)) : ∀ (fuel : Nat) (x13 : Int) (r : Sum Unit Unit), Qi k a0 a1 a2 r1225 r1230 r1244 fuel x13 = some r -> (match r with | .inl r => Yo none Try.prog (szF Try.f3) (Yr Try.f3 0) (Zg a0 a1 a2 r1225 r1230 r1244 x13) .ret (Zr a0 a1 a2 r1225 r1230 r1244 r) | .inr r => Yo none Try.prog (szF Try.f3) (Yr Try.f3 0) (Zg a0 a1 a2 r1225 r1230 r1244 x13) (.exit 0) (Qu a0 a1 a2 r1225 r1230 r1244 r)) := by
 intro fuel
 induction fuel with
 | zero => intro x13 r h; rw [Qi.eq_1] at h; cases h
 | succ fuel ih =>
  intro x13 r h
  rw [Qi.eq_2] at h
  rcases ifs h with ⟨h1271, h⟩ | ⟨h1271, h⟩
  ·obtain ⟨h1272, h⟩ := ifn h
   have e1273 := (show Jz Try.prog 37 (x13.toNat * 2) (flatMap Xt r1230.1) = some (VV.ag (Xt (r1230.1.getD x13.toNat default))) from Qm1 ag37 Xt 2 sz37 Qbj r1230.1 default h1272 (by omega))
   obtain ⟨h1274, h⟩ := ifn h
   have e1275 := (show Jz Try.prog 37 (x13.toNat * 2) (flatMap Xt r1244) = some (VV.ag (Xt (r1244.getD x13.toNat default))) from Qm1 ag37 Xt 2 sz37 Qbj r1244 default h1274 (by omega))
   have e1276 := (show List.map kdV [Value.int .i64 ((r1230.1.getD x13.toNat default).e0), Value.int .i64 ((r1230.1.getD x13.toNat default).e1)] = List.map kdV [Value.int .i64 ((r1244.getD x13.toNat default).e0), Value.int .i64 ((r1244.getD x13.toNat default).e1)] /\ EqOK Try.prog 37 (List.map kdV [Value.int .i64 ((r1244.getD x13.toNat default).e0), Value.int .i64 ((r1244.getD x13.toNat default).e1)]) from ⟨rfl, Qux⟩)
   have e1277 := (t2 (an h1272 (an e1273 (t2 (an h1274 (an e1275 (an e1276 tt)))))))
   rcases ifs h with ⟨h1278, h⟩ | ⟨h1278, h⟩
   ·have h2 := ih _ _ h
    obtain ⟨q, hv, hq⟩ := pkR (rd := none) (P := Try.prog) (fn := Try.f3) (k := 0) (s := (Zg a0 a1 a2 r1225 r1230 r1244 x13)) (ans := [.reg (nN 4 []), .br true, .reg (Qsr r1230 x13 r1244), .br false, .reg (nN 3 [])]) (c := ⟨[(1, none), (2, none), (3, none), (7, none), (8, none), (9, none), (12, none), (13, none)], [none], []⟩) (e := .normal) (s1 := (Zg a0 a1 a2 r1225 r1230 r1244 (w64 (x13 + 1)))) (an (an (an (t4 tt) (te h1271)) (an (an e1277 (an (Qo h1278) tt)) (t3 tt))) (ti tt)) (by kernel_rfl)
    cases r with
    | inl r => exact Zp pm pn hv hq h2
    | inr r =>
     exact Zp pm pn hv hq h2
   ·injection h with h; subst h
    exact Xz (c := ⟨[(6, none)], [], []⟩) (s1 := (Zr a0 a1 a2 r1225 r1230 r1244 ())) pm pn (ans := [.reg (nN 4 []), .br true, .reg (Qsr r1230 x13 r1244), .br true, .reg (.n :: [])]) (by kernel_rfl) (by intro e; cases e) (an (an (an (t4 tt) (te h1271)) (an e1277 (an (Zl (Zb h1278)) (an (ti tt) tt)))) (ti tt))
  ·injection h with h; subst h
   exact Xz (c := ⟨[(1, none), (2, none), (3, none), (7, none), (8, none)], [none], []⟩) (s1 := (Qu a0 a1 a2 r1225 r1230 r1244 ())) pm pn (ans := [.reg (nN 4 []), .br false]) (by kernel_rfl) (by intro e; cases e) (an (an (t4 tt) (tf h1271)) (ti tt))
def Qa4 (z0 : Qb) (z1 : (Int × Int)) : List Ans := (.n :: .call (VV.ag (Zc z0)) :: .n :: .n :: .call (VV.tu [vi z1.1, vi z1.2]) :: nN 5 [])
def Qb9 (z0 : Qb) (z1 : ((List A37) × Int)) : List Ans := (.n :: .call (VV.ag (Zc z0)) :: .call (VV.tu [VV.fr (flatMap Xt z1.1) z1.1.length, vi z1.2]) :: nN 5 [])
def Quy  : List Ans := (nN 4 (nS 3 (.b false :: .n :: .skip :: .skip :: .b false :: .n :: nS 3 (.b false :: .n :: []))))
def Zz (k : Nat) (a0 : Qb) (a1 : Int) (a2 : Int) : Option Bool :=
 (Qoy k).bind fun r1216 => (if r1216 = true then ((X7 k a0).bind fun r1219 => (if r1219 = true then ((Xv k a0).bind fun r1223 => ((J7 k r1223 a1 a2).bind fun r1225 => ((Jr k r1223).bind fun r1230 => ((Zn k a0).bind fun r1234 => ((Z7 k r1223).bind fun r1238 => (if r1238 = r1234 then (if r1234 = 0 then ((Xd k a0).bind fun r1244 => (if r1230.2 = 0 then (if (r1230.1.length : Int) = (r1244.length : Int) then ((Qi k a0 a1 a2 r1225 r1230 r1244 k 0).bind fun r1280 => (match r1280 with | .inl r1281 => (some false) | .inr r1282 => ((Qg k a0 a1 a2).bind fun r1285 => (if r1225.2 = r1285.2 then (if r1225.1 = r1285.1 then ((J7 k r1223 a2 a1).bind fun r1296 => (if r1296.2 = r1225.2 then (some (decide (r1296.1 = (w64 (0 - r1225.1))))) else (some false))) else (some false)) else (some false))))) else (some false)) else (some false))) else (if r1225.2 = r1234 then (if r1230.2 = r1234 then (if r1225.1 = 0 then (some (decide ((r1230.1.length : Int) = 0))) else (some false)) else (some false)) else (some false))) else (some false))))))) else (some true))) else (some false))
theorem Yz (k : Nat) (a0 : Qb) (a1 : Int) (a2 : Int) (r : Bool) (h : Zz k a0 a1 a2 = some r) : VC Try.prog 3 [VV.ag (Qe a0), vi a1, vi a2] (vb r) := by
 unfold Zz at h
 obtain ⟨r1216, h1217, h⟩ := bs h
 rcases ifs h with ⟨h1218, h⟩ | ⟨h1218, h⟩
 ·obtain ⟨r1219, h1220, h⟩ := bs h
  have e1221 := (ti (an (Qb4 k a0 _ h1220) (ti tt)))
  rcases ifs h with ⟨h1222, h⟩ | ⟨h1222, h⟩
  ·obtain ⟨r1223, h1224, h⟩ := bs h
   obtain ⟨r1225, h1226, h⟩ := bs h
   have e1227 := (Qb8 k r1223 a1 a2 _ h1226)
   have e1228 := (ti (an (X3 k a0 _ h1224) (t2 (an e1227 (t5 tt)))))
   obtain ⟨r1230, h1231, h⟩ := bs h
   have e1232 := (show VC Try.prog 8 [VV.ag (Qe r1223)] (VV.tu [VV.fr (flatMap Xt r1230.1) r1230.1.length, vi r1230.2]) from (VC.weak (Qdh k r1223 _ h1231) (Wv.tuL (.cons (Wv.fw rfl rfl) (.cons (Wv.refl _) .nil)))))
   have e1233 := (ti (an (X3 k a0 _ h1224) (an e1232 (t5 tt))))
   obtain ⟨r1234, h1235, h⟩ := bs h
   have e1236 := (Wy k a0 _ h1235)
   obtain ⟨r1238, h1239, h⟩ := bs h
   have e1240 := (Yl k r1223 _ h1239)
   have e1241 := (ti (an (X3 k a0 _ h1224) (an e1240 (t2 tt))))
   rcases ifs h with ⟨h1242, h⟩ | ⟨h1242, h⟩
   ·rcases ifs h with ⟨h1243, h⟩ | ⟨h1243, h⟩
    ·obtain ⟨r1244, h1245, h⟩ := bs h
     have e1246 := (show VC Try.prog 11 [VV.ag (Qe a0)] (VV.fr (flatMap Xt r1244) r1244.length) from (VC.weak (Qay k a0 _ h1245) (Wv.fw rfl rfl)))
     rcases ifs h with ⟨h1247, h⟩ | ⟨h1247, h⟩
     ·have e1248 := (ta h1247)
      have e1253 := (t3 (u5 e1248 (ta h1247)))
      rcases ifs h with ⟨h1254, h⟩ | ⟨h1254, h⟩
      ·obtain ⟨r1280, h1279, h⟩ := bs h
       have hph1279 := J9 k a0 a1 a2 r1225 r1230 r1244 _ _ _ h1279
       cases r1280 with
       | inl r1281 =>
        dsimp only at h
        have e1283 := (an (ti tt) (VRun.loop hph1279))
        injection h with h; subst h
        exact Qq pm pn Try.func3 (r0 := vb false) (ans := [.reg (.n :: .n :: []), .reg (.call (vb r1216) :: .n :: []), .br false, .reg (.n :: .call (vb r1219) :: .n :: []), .br false, .reg (Qa4 r1223 r1225), .reg (Qb9 r1223 r1230), .reg (.n :: .call (vi r1234) :: .n :: []), .reg (.n :: .call (VV.ag (Zc r1223)) :: .call (vi r1238) :: .n :: .n :: []), .br false, .reg (.n :: .n :: []), .br false, .reg (.n :: .call (VV.fr (flatMap Xt r1244) r1244.length) :: .n :: []), .reg (nN 8 (.b false :: [])), .br false, .reg (.n :: []), .sub ⟨[(1, none), (2, none), (3, none), (7, none), (8, none), (9, none), (12, none), (13, none)], [none], []⟩ .ret (Zr a0 a1 a2 r1225 r1230 r1244 r1281)]) (fr := true) (by kernel_rfl) (an (an (t2 tt) (an (an (an (Jk k _ h1217) (ti tt)) (an (Qo h1218) tt)) (an (an e1221 (an (Qo h1222) tt)) (an e1228 (an e1233 (an (ti (an e1236 (ti tt))) (an (an e1241 (ta h1242)) (an (an (t2 tt) (ta h1243)) (an (ti (an e1246 (ti tt))) (an (an e1253 (ta h1254)) (an (ti tt) e1283))))))))))) (ti tt)) (Wv.refl _)
       | inr r1282 =>
        dsimp only at h
        have e1284 := (an (ti tt) (VRun.loop hph1279))
        obtain ⟨r1285, h1286, h⟩ := bs h
        have e1287 := (Y0 k a0 a1 a2 _ h1286)
        have e1288 := (t3 (an e1287 (t5 tt)))
        rcases ifs h with ⟨h1289, h⟩ | ⟨h1289, h⟩
        ·have e1290 := (ta h1289)
         have e1293 := (t4 (u3 e1290 (ta h1289)))
         rcases ifs h with ⟨h1294, h⟩ | ⟨h1294, h⟩
         ·obtain ⟨r1296, h1297, h⟩ := bs h
          have e1298 := (Qb8 k r1223 a2 a1 _ h1297)
          have e1299 := (ti (an (X3 k a0 _ h1224) (t2 (an e1298 (t5 tt)))))
          rcases ifs h with ⟨h1300, h⟩ | ⟨h1300, h⟩
          ·have e1301 := (t4 (u4 (te h1300) (an (dt h1300) (ti tt))))
           injection h with h; subst h
           exact Qq pm pn Try.func3 (r0 := vb (decide (r1296.1 = (w64 (0 - r1225.1))))) (ans := [.reg (.n :: .n :: []), .reg (.call (vb r1216) :: .n :: []), .br false, .reg (.n :: .call (vb r1219) :: .n :: []), .br false, .reg (Qa4 r1223 r1225), .reg (Qb9 r1223 r1230), .reg (.n :: .call (vi r1234) :: .n :: []), .reg (.n :: .call (VV.ag (Zc r1223)) :: .call (vi r1238) :: .n :: .n :: []), .br false, .reg (.n :: .n :: []), .br false, .reg (.n :: .call (VV.fr (flatMap Xt r1244) r1244.length) :: .n :: []), .reg (nN 8 (.b false :: [])), .br false, .reg (.n :: []), .sub ⟨[(1, none), (2, none), (3, none), (7, none), (8, none), (9, none), (12, none), (13, none)], [none], []⟩ (.exit 0) (Qu a0 a1 a2 r1225 r1230 r1244 r1282), .reg (nN 3 (.call (VV.tu [vi r1285.1, vi r1285.2]) :: nN 5 [])), .reg (nN 7 (.b false :: [])), .br false, .reg (Qa4 r1223 r1296), .reg (nN 8 (.b true :: .n :: []))]) (fr := true) (by kernel_rfl) (an (an (t2 tt) (an (an (an (Jk k _ h1217) (ti tt)) (an (Qo h1218) tt)) (an (an e1221 (an (Qo h1222) tt)) (an e1228 (an e1233 (an (ti (an e1236 (ti tt))) (an (an e1241 (ta h1242)) (an (an (t2 tt) (ta h1243)) (an (ti (an e1246 (ti tt))) (an (an e1253 (ta h1254)) (an (an (ti tt) e1284) (an e1288 (an (an e1293 (ta h1294)) (an e1299 (an e1301 tt))))))))))))))) (ti tt)) (Wv.refl _)
          ·have e1302 := (t4 (u5 (df h1300) (ti tt)))
           injection h with h; subst h
           exact Qq pm pn Try.func3 (r0 := vb false) (ans := [.reg (.n :: .n :: []), .reg (.call (vb r1216) :: .n :: []), .br false, .reg (.n :: .call (vb r1219) :: .n :: []), .br false, .reg (Qa4 r1223 r1225), .reg (Qb9 r1223 r1230), .reg (.n :: .call (vi r1234) :: .n :: []), .reg (.n :: .call (VV.ag (Zc r1223)) :: .call (vi r1238) :: .n :: .n :: []), .br false, .reg (.n :: .n :: []), .br false, .reg (.n :: .call (VV.fr (flatMap Xt r1244) r1244.length) :: .n :: []), .reg (nN 8 (.b false :: [])), .br false, .reg (.n :: []), .sub ⟨[(1, none), (2, none), (3, none), (7, none), (8, none), (9, none), (12, none), (13, none)], [none], []⟩ (.exit 0) (Qu a0 a1 a2 r1225 r1230 r1244 r1282), .reg (nN 3 (.call (VV.tu [vi r1285.1, vi r1285.2]) :: nN 5 [])), .reg (nN 7 (.b false :: [])), .br false, .reg (Qa4 r1223 r1296), .reg (nN 4 (nS 4 (.b false :: .n :: [])))]) (fr := true) (by kernel_rfl) (an (an (t2 tt) (an (an (an (Jk k _ h1217) (ti tt)) (an (Qo h1218) tt)) (an (an e1221 (an (Qo h1222) tt)) (an e1228 (an e1233 (an (ti (an e1236 (ti tt))) (an (an e1241 (ta h1242)) (an (an (t2 tt) (ta h1243)) (an (ti (an e1246 (ti tt))) (an (an e1253 (ta h1254)) (an (an (ti tt) e1284) (an e1288 (an (an e1293 (ta h1294)) (an e1299 (an e1302 tt))))))))))))))) (ti tt)) (Wv.refl _)
         ·injection h with h; subst h
          exact Qq pm pn Try.func3 (r0 := vb false) (ans := [.reg (.n :: .n :: []), .reg (.call (vb r1216) :: .n :: []), .br false, .reg (.n :: .call (vb r1219) :: .n :: []), .br false, .reg (Qa4 r1223 r1225), .reg (Qb9 r1223 r1230), .reg (.n :: .call (vi r1234) :: .n :: []), .reg (.n :: .call (VV.ag (Zc r1223)) :: .call (vi r1238) :: .n :: .n :: []), .br false, .reg (.n :: .n :: []), .br false, .reg (.n :: .call (VV.fr (flatMap Xt r1244) r1244.length) :: .n :: []), .reg (nN 8 (.b false :: [])), .br false, .reg (.n :: []), .sub ⟨[(1, none), (2, none), (3, none), (7, none), (8, none), (9, none), (12, none), (13, none)], [none], []⟩ (.exit 0) (Qu a0 a1 a2 r1225 r1230 r1244 r1282), .reg (nN 3 (.call (VV.tu [vi r1285.1, vi r1285.2]) :: nN 5 [])), .reg (nN 7 (.b false :: [])), .br true, .reg (.n :: [])]) (fr := true) (by kernel_rfl) (an (an (t2 tt) (an (an (an (Jk k _ h1217) (ti tt)) (an (Qo h1218) tt)) (an (an e1221 (an (Qo h1222) tt)) (an e1228 (an e1233 (an (ti (an e1236 (ti tt))) (an (an e1241 (ta h1242)) (an (an (t2 tt) (ta h1243)) (an (ti (an e1246 (ti tt))) (an (an e1253 (ta h1254)) (an (an (ti tt) e1284) (an e1288 (an e1293 (an (td h1294) (an (ti tt) tt))))))))))))))) (ti tt)) (Wv.refl _)
        ·have e1303 := (t4 (u3 (td h1289) (tb h1289)))
         injection h with h; subst h
         exact Qq pm pn Try.func3 (r0 := vb false) (ans := [.reg (.n :: .n :: []), .reg (.call (vb r1216) :: .n :: []), .br false, .reg (.n :: .call (vb r1219) :: .n :: []), .br false, .reg (Qa4 r1223 r1225), .reg (Qb9 r1223 r1230), .reg (.n :: .call (vi r1234) :: .n :: []), .reg (.n :: .call (VV.ag (Zc r1223)) :: .call (vi r1238) :: .n :: .n :: []), .br false, .reg (.n :: .n :: []), .br false, .reg (.n :: .call (VV.fr (flatMap Xt r1244) r1244.length) :: .n :: []), .reg (nN 8 (.b false :: [])), .br false, .reg (.n :: []), .sub ⟨[(1, none), (2, none), (3, none), (7, none), (8, none), (9, none), (12, none), (13, none)], [none], []⟩ (.exit 0) (Qu a0 a1 a2 r1225 r1230 r1244 r1282), .reg (nN 3 (.call (VV.tu [vi r1285.1, vi r1285.2]) :: nN 5 [])), .reg (nN 4 (nS 3 (.b true :: []))), .br true, .reg (.n :: [])]) (fr := true) (by kernel_rfl) (an (an (t2 tt) (an (an (an (Jk k _ h1217) (ti tt)) (an (Qo h1218) tt)) (an (an e1221 (an (Qo h1222) tt)) (an e1228 (an e1233 (an (ti (an e1236 (ti tt))) (an (an e1241 (ta h1242)) (an (an (t2 tt) (ta h1243)) (an (ti (an e1246 (ti tt))) (an (an e1253 (ta h1254)) (an (an (ti tt) e1284) (an e1288 (an e1303 (an rt (an (ti tt) tt))))))))))))))) (ti tt)) (Wv.refl _)
      ·injection h with h; subst h
       exact Qq pm pn Try.func3 (r0 := vb false) (ans := [.reg (.n :: .n :: []), .reg (.call (vb r1216) :: .n :: []), .br false, .reg (.n :: .call (vb r1219) :: .n :: []), .br false, .reg (Qa4 r1223 r1225), .reg (Qb9 r1223 r1230), .reg (.n :: .call (vi r1234) :: .n :: []), .reg (.n :: .call (VV.ag (Zc r1223)) :: .call (vi r1238) :: .n :: .n :: []), .br false, .reg (.n :: .n :: []), .br false, .reg (.n :: .call (VV.fr (flatMap Xt r1244) r1244.length) :: .n :: []), .reg (nN 8 (.b false :: [])), .br true, .reg (.n :: [])]) (fr := true) (by kernel_rfl) (an (an (t2 tt) (an (an (an (Jk k _ h1217) (ti tt)) (an (Qo h1218) tt)) (an (an e1221 (an (Qo h1222) tt)) (an e1228 (an e1233 (an (ti (an e1236 (ti tt))) (an (an e1241 (ta h1242)) (an (an (t2 tt) (ta h1243)) (an (ti (an e1246 (ti tt))) (an e1253 (an (td h1254) (an (ti tt) tt)))))))))))) (ti tt)) (Wv.refl _)
     ·have e1304 := (t3 (u5 (td h1247) (tb h1247)))
      injection h with h; subst h
      exact Qq pm pn Try.func3 (r0 := vb false) (ans := [.reg (.n :: .n :: []), .reg (.call (vb r1216) :: .n :: []), .br false, .reg (.n :: .call (vb r1219) :: .n :: []), .br false, .reg (Qa4 r1223 r1225), .reg (Qb9 r1223 r1230), .reg (.n :: .call (vi r1234) :: .n :: []), .reg (.n :: .call (VV.ag (Zc r1223)) :: .call (vi r1238) :: .n :: .n :: []), .br false, .reg (.n :: .n :: []), .br false, .reg (.n :: .call (VV.fr (flatMap Xt r1244) r1244.length) :: .n :: []), .reg (nN 3 (nS 5 (.b true :: []))), .br true, .reg (.n :: [])]) (fr := true) (by kernel_rfl) (an (an (t2 tt) (an (an (an (Jk k _ h1217) (ti tt)) (an (Qo h1218) tt)) (an (an e1221 (an (Qo h1222) tt)) (an e1228 (an e1233 (an (ti (an e1236 (ti tt))) (an (an e1241 (ta h1242)) (an (an (t2 tt) (ta h1243)) (an (ti (an e1246 (ti tt))) (an e1304 (an rt (an (ti tt) tt)))))))))))) (ti tt)) (Wv.refl _)
    ·rcases ifs h with ⟨h1305, h⟩ | ⟨h1305, h⟩
     ·rcases ifs h with ⟨h1306, h⟩ | ⟨h1306, h⟩
      ·rcases ifs h with ⟨h1307, h⟩ | ⟨h1307, h⟩
       ·have e1308 := (t4 (u3 (te h1305) (an (dt h1305) (ti (u2 (te h1306) (an (dt h1306) (ti (u3 (te h1307) (an (dt h1307) (ti tt))))))))))
        injection h with h; subst h
        exact Qq pm pn Try.func3 (r0 := vb (decide ((r1230.1.length : Int) = 0))) (ans := [.reg (.n :: .n :: []), .reg (.call (vb r1216) :: .n :: []), .br false, .reg (.n :: .call (vb r1219) :: .n :: []), .br false, .reg (Qa4 r1223 r1225), .reg (Qb9 r1223 r1230), .reg (.n :: .call (vi r1234) :: .n :: []), .reg (.n :: .call (VV.ag (Zc r1223)) :: .call (vi r1238) :: .n :: .n :: []), .br false, .reg (.n :: .n :: []), .br true, .reg (nN 7 (.b true :: nN 3 (.b true :: nN 4 (.b true :: .n :: []))))]) (fr := true) (by kernel_rfl) (an (an (t2 tt) (an (an (an (Jk k _ h1217) (ti tt)) (an (Qo h1218) tt)) (an (an e1221 (an (Qo h1222) tt)) (an e1228 (an e1233 (an (ti (an e1236 (ti tt))) (an (an e1241 (ta h1242)) (an (t2 tt) (an (td h1243) (an e1308 tt)))))))))) (ti tt)) (Wv.refl _)
       ·have e1309 := (t4 (u3 (te h1305) (an (dt h1305) (ti (u2 (te h1306) (an (dt h1306) (ti (u4 (df h1307) (ti tt)))))))))
        injection h with h; subst h
        exact Qq pm pn Try.func3 (r0 := vb false) (ans := [.reg (.n :: .n :: []), .reg (.call (vb r1216) :: .n :: []), .br false, .reg (.n :: .call (vb r1219) :: .n :: []), .br false, .reg (Qa4 r1223 r1225), .reg (Qb9 r1223 r1230), .reg (.n :: .call (vi r1234) :: .n :: []), .reg (.n :: .call (VV.ag (Zc r1223)) :: .call (vi r1238) :: .n :: .n :: []), .br false, .reg (.n :: .n :: []), .br true, .reg (nN 7 (.b true :: nN 3 (.b true :: .n :: nS 3 (.b false :: .n :: []))))]) (fr := true) (by kernel_rfl) (an (an (t2 tt) (an (an (an (Jk k _ h1217) (ti tt)) (an (Qo h1218) tt)) (an (an e1221 (an (Qo h1222) tt)) (an e1228 (an e1233 (an (ti (an e1236 (ti tt))) (an (an e1241 (ta h1242)) (an (t2 tt) (an (td h1243) (an e1309 tt)))))))))) (ti tt)) (Wv.refl _)
      ·have e1310 := (t4 (u3 (te h1305) (an (dt h1305) (ti (u3 (df h1306) (ti (an rf (an rf (an rf (an rf (ti tt)))))))))))
       injection h with h; subst h
       exact Qq pm pn Try.func3 (r0 := vb false) (ans := [.reg (.n :: .n :: []), .reg (.call (vb r1216) :: .n :: []), .br false, .reg (.n :: .call (vb r1219) :: .n :: []), .br false, .reg (Qa4 r1223 r1225), .reg (Qb9 r1223 r1230), .reg (.n :: .call (vi r1234) :: .n :: []), .reg (.n :: .call (VV.ag (Zc r1223)) :: .call (vi r1238) :: .n :: .n :: []), .br false, .reg (.n :: .n :: []), .br true, .reg (nN 7 (.b true :: .n :: .skip :: .skip :: .b false :: .n :: nS 3 (.b false :: .n :: [])))]) (fr := true) (by kernel_rfl) (an (an (t2 tt) (an (an (an (Jk k _ h1217) (ti tt)) (an (Qo h1218) tt)) (an (an e1221 (an (Qo h1222) tt)) (an e1228 (an e1233 (an (ti (an e1236 (ti tt))) (an (an e1241 (ta h1242)) (an (t2 tt) (an (td h1243) (an e1310 tt)))))))))) (ti tt)) (Wv.refl _)
     ·have e1311 := (t4 (u4 (df h1305) (ti (an rf (an rf (an rf (ti (an rf (an rf (an rf (an rf (ti tt))))))))))))
      injection h with h; subst h
      exact Qq pm pn Try.func3 (r0 := vb false) (ans := [.reg (.n :: .n :: []), .reg (.call (vb r1216) :: .n :: []), .br false, .reg (.n :: .call (vb r1219) :: .n :: []), .br false, .reg (Qa4 r1223 r1225), .reg (Qb9 r1223 r1230), .reg (.n :: .call (vi r1234) :: .n :: []), .reg (.n :: .call (VV.ag (Zc r1223)) :: .call (vi r1238) :: .n :: .n :: []), .br false, .reg (.n :: .n :: []), .br true, .reg Quy]) (fr := true) (by kernel_rfl) (an (an (t2 tt) (an (an (an (Jk k _ h1217) (ti tt)) (an (Qo h1218) tt)) (an (an e1221 (an (Qo h1222) tt)) (an e1228 (an e1233 (an (ti (an e1236 (ti tt))) (an (an e1241 (ta h1242)) (an (t2 tt) (an (td h1243) (an e1311 tt)))))))))) (ti tt)) (Wv.refl _)
   ·injection h with h; subst h
    exact Qq pm pn Try.func3 (r0 := vb false) (ans := [.reg (.n :: .n :: []), .reg (.call (vb r1216) :: .n :: []), .br false, .reg (.n :: .call (vb r1219) :: .n :: []), .br false, .reg (Qa4 r1223 r1225), .reg (Qb9 r1223 r1230), .reg (.n :: .call (vi r1234) :: .n :: []), .reg (.n :: .call (VV.ag (Zc r1223)) :: .call (vi r1238) :: .n :: .n :: []), .br true, .reg (.n :: [])]) (fr := true) (by kernel_rfl) (an (an (t2 tt) (an (an (an (Jk k _ h1217) (ti tt)) (an (Qo h1218) tt)) (an (an e1221 (an (Qo h1222) tt)) (an e1228 (an e1233 (an (ti (an e1236 (ti tt))) (an e1241 (an (td h1242) (an (ti tt) tt))))))))) (ti tt)) (Wv.refl _)
  ·injection h with h; subst h
   exact Qq pm pn Try.func3 (r0 := vb true) (ans := [.reg (.n :: .n :: []), .reg (.call (vb r1216) :: .n :: []), .br false, .reg (.n :: .call (vb r1219) :: .n :: []), .br true, .reg (.n :: [])]) (fr := true) (by kernel_rfl) (an (an (t2 tt) (an (an (an (Jk k _ h1217) (ti tt)) (an (Qo h1218) tt)) (an e1221 (an (Zl (Zb h1222)) (an (ti tt) tt))))) (ti tt)) (Wv.refl _)
 ·injection h with h; subst h
  exact Qq pm pn Try.func3 (r0 := vb false) (ans := [.reg (.n :: .n :: []), .reg (.call (vb r1216) :: .n :: []), .br true, .reg (.n :: [])]) (fr := true) (by kernel_rfl) (an (an (t2 tt) (an (an (Jk k _ h1217) (ti tt)) (an (Zl (Zb h1218)) (an (ti tt) tt)))) (ti tt)) (Wv.refl _)
end Go.Proofs.Ytenebnfhhhcfaaa.Vg

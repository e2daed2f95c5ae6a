import Derived.Test.YtmaegladkjcmdaaG1
namespace Go.Proofs.Ytmaegladkjcmdaa.Vg
set_option maxRecDepth 100000
set_option maxHeartbeats 4000000
set_option linter.unusedVariables false
set_option linter.unusedSimpArgs false
open Go Go.Proofs.Ytmaegladkjcmdaa.Ev Go.Proofs.Ytmaegladkjcmdaa.Vv
open List (flatMap length_cons length_nil length_map length_append map_cons map_nil length_replicate)
structure Qj where
 Name : ByteArray
 Diameter : Int
 Thick : Int
 Count : Int
 deriving Inhabited
def Qc (x : Qj) : List VV := [vs x.Name, vi x.Diameter, vi x.Thick, vi x.Count]
theorem Jr (x : Qj) : (Qc x).length = 4 := rfl
theorem Yu (xs : List Qj) : (xs.flatMap Qc).map unfr = xs.flatMap Qc := Qec (fun _ => rfl) xs
theorem ag26 : Qa1 Try.prog 26 = some false := by kernel_rfl
theorem ag51 : Qa1 Try.prog 51 = some true := by kernel_rfl
theorem sz51 : szOf Try.prog 51 = some 4 := by kernel_rfl
def Q06  : List Ans := (nN 3 (.skip :: .skip :: .b false :: nN 4 (.skip :: .skip :: .b false :: .b false :: .n :: [])))
def Qch (k : Nat) (a0 : Int) : Option Bool :=
 if 97 <= a0 then (if a0 <= 122 then (some true) else (if 65 <= a0 then (some (decide (a0 <= 90))) else (some false))) else (if 65 <= a0 then (some (decide (a0 <= 90))) else (some false))
theorem Qca (k : Nat) (a0 : Int) (r : Bool) (h : Qch k a0 = some r) : VC Try.prog 67 [VV.c (.int .i32 a0)] (vb r) := by
 unfold Qch at h
 rcases ifs h with ⟨h1380, h⟩ | ⟨h1380, h⟩
 ·rcases ifs h with ⟨h1381, h⟩ | ⟨h1381, h⟩
  ·have e1382 := (ti (ti (ti (an (an (dt h1380) tt) (an (an (dt h1380) tt) (an (dt h1380) (ti (an (dt h1381) (an (dt h1381) (an (dt h1381) (ti (ti (an (dt h1381) (an (dt h1381) (ti tt)))))))))))))))
   injection h with h; subst h
   exact Qw pm pn Try.func67 (r0 := vb true) (ans := [.reg (.n :: []), .reg (nN 5 (.b true :: .n :: nS 6 (.b true :: .n :: [])))]) (fr := true) (by kernel_rfl) (an (an (ti tt) (an e1382 tt)) (ti tt)) (Wv.refl _)
  ·rcases ifs h with ⟨h1383, h⟩ | ⟨h1383, h⟩
   ·have e1384 := (an (df h1381) (dt h1383))
    have e1385 := (ti (ti (ti (an (an (dt h1380) tt) (an (an (dt h1380) tt) (an (dt h1380) (ti (an (an (df h1381) tt) (an (an (df h1381) tt) (an (an (df h1381) tt) (an (an (dt h1383) tt) (an (an (dt h1383) tt) (an e1384 (an (df h1381) (ti tt)))))))))))))))
    injection h with h; subst h
    exact Qw pm pn Try.func67 (r0 := vb (decide (a0 <= 90))) (ans := [.reg (.n :: []), .reg (nN 5 (.b true :: nN 6 (.b true :: .b false :: .n :: [])))]) (fr := true) (by kernel_rfl) (an (an (ti tt) (an e1385 tt)) (ti tt)) (Wv.refl _)
   ·have e1386 := (an (df h1381) (df h1383))
    have e1387 := (ti (ti (ti (an (an (dt h1380) tt) (an (an (dt h1380) tt) (an (dt h1380) (ti (an (an (df h1381) tt) (an (an (df h1381) tt) (an (an (df h1381) tt) (an (df h1383) (an (df h1383) (an e1386 (an (df h1381) (ti tt)))))))))))))))
    injection h with h; subst h
    exact Qw pm pn Try.func67 (r0 := vb false) (ans := [.reg (.n :: []), .reg (nN 5 (.b true :: nN 4 (.skip :: .skip :: .b false :: .b false :: .n :: [])))]) (fr := true) (by kernel_rfl) (an (an (ti tt) (an e1387 tt)) (ti tt)) (Wv.refl _)
 ·rcases ifs h with ⟨h1388, h⟩ | ⟨h1388, h⟩
  ·have e1389 := (ti (ti (ti (an (df h1380) (an (df h1380) (an (df h1380) (ti (an (an rf tt) (an (an rf tt) (an (an rf tt) (an (an (dt h1388) tt) (an (an (dt h1388) tt) (an (an rf (dt h1388)) (an rf (ti tt)))))))))))))))
   injection h with h; subst h
   exact Qw pm pn Try.func67 (r0 := vb (decide (a0 <= 90))) (ans := [.reg (.n :: []), .reg (nN 3 (.skip :: .skip :: .b false :: nN 6 (.b true :: .b false :: .n :: [])))]) (fr := true) (by kernel_rfl) (an (an (ti tt) (an e1389 tt)) (ti tt)) (Wv.refl _)
  ·have e1390 := (ti (ti (ti (an (df h1380) (an (df h1380) (an (df h1380) (ti (an (an rf tt) (an (an rf tt) (an (an rf tt) (an (df h1388) (an (df h1388) (an (an rf (df h1388)) (an rf (ti tt)))))))))))))))
   injection h with h; subst h
   exact Qw pm pn Try.func67 (r0 := vb false) (ans := [.reg (.n :: []), .reg Q06]) (fr := true) (by kernel_rfl) (an (an (ti tt) (an e1390 tt)) (ti tt)) (Wv.refl _)
def Q07 (z0 : Bool) : List Ans := (.n :: .call (vb z0) :: .n :: .n :: nS 7 (.b false :: .n :: .skip :: .skip :: .b false :: .n :: []))
def Q08 (z0 : Bool) : List Ans := (.n :: .call (vb z0) :: nN 7 (.b true :: .n :: .b true :: .n :: .skip :: .skip :: .b false :: .n :: []))
def Q09 (z0 : Bool) : List Ans := (.n :: .call (vb z0) :: nN 5 (.skip :: .skip :: .b false :: .n :: .b true :: nN 3 (.b true :: .n :: [])))
def Qc7 (k : Nat) (a0 : Int) : Option Bool :=
 (Qch k a0).bind fun r1413 => (if r1413 = true then (some false) else (if 48 <= a0 then (if a0 <= 57 then (some false) else (some (!(decide (a0 = 45))))) else (some (!(decide (a0 = 45))))))
theorem Qi0 (k : Nat) (a0 : Int) (r : Bool) (h : Qc7 k a0 = some r) : VC Try.prog 69 [VV.c (.int .i32 a0)] (vb r) := by
 unfold Qc7 at h
 obtain ⟨r1413, h1414, h⟩ := bs h
 rcases ifs h with ⟨h1415, h⟩ | ⟨h1415, h⟩
 ·have e1416 := (ti (an (Qca k a0 _ h1414) (ti (ti (an (Qm h1415) (an (Qm h1415) (an (Qm h1415) (ti (ti (an (Qm h1415) (an (Qm h1415) (an (Qm h1415) (ti (an rf (an rf (an rf (ti tt)))))))))))))))))
  injection h with h; subst h
  exact Qw pm pn Try.func69 (r0 := vb false) (ans := [.reg (.n :: []), .reg (Q07 r1413)]) (fr := true) (by kernel_rfl) (an (an (ti tt) (an e1416 tt)) (ti tt)) (Wv.refl _)
 ·rcases ifs h with ⟨h1417, h⟩ | ⟨h1417, h⟩
  ·have e1418 := (an (Za (Zk h1415)) (dt h1417))
   rcases ifs h with ⟨h1419, h⟩ | ⟨h1419, h⟩
   ·have e1420 := (ti (an (Qca k a0 _ h1414) (ti (ti (an (an (Za (Zk h1415)) tt) (an (an (Za (Zk h1415)) tt) (an (an (Za (Zk h1415)) tt) (an (an (dt h1417) tt) (an (an (dt h1417) tt) (an e1418 (an (an (Za (Zk h1415)) tt) (an (Za (Zk h1415)) (ti (an (Qm (dt h1419)) (an (Qm (dt h1419)) (an (Qm (dt h1419)) (ti tt)))))))))))))))))
    injection h with h; subst h
    exact Qw pm pn Try.func69 (r0 := vb false) (ans := [.reg (.n :: []), .reg (Q08 r1413)]) (fr := true) (by kernel_rfl) (an (an (ti tt) (an e1420 tt)) (ti tt)) (Wv.refl _)
   ·have e1421 := (an (Za (df h1419)) tt)
    have e1422 := (an (Za (df h1419)) tt)
    have e1423 := (ti (an (Qca k a0 _ h1414) (ti (ti (an (an (Za (Zk h1415)) tt) (an (an (Za (Zk h1415)) tt) (an (an (Za (Zk h1415)) tt) (an (an (dt h1417) tt) (an (an (dt h1417) tt) (an e1418 (an (an (Za (Zk h1415)) tt) (an (Za (Zk h1415)) (ti (an e1421 (an e1422 (an (Za (df h1419)) (ti tt)))))))))))))))))
    injection h with h; subst h
    exact Qw pm pn Try.func69 (r0 := vb (!(decide (a0 = 45)))) (ans := [.reg (.n :: []), .reg (.n :: .call (vb r1413) :: nN 7 (.b true :: .n :: .b true :: nN 3 (.b true :: .n :: [])))]) (fr := true) (by kernel_rfl) (an (an (ti tt) (an e1423 tt)) (ti tt)) (Wv.refl _)
  ·have e1424 := (an (Za (Zk h1415)) (df h1417))
   have e1425 := (an (show (!false) = true from (Za rfl)) tt)
   have e1426 := (an (show (!false) = true from (Za rfl)) tt)
   have e1427 := (ti (an (Qca k a0 _ h1414) (ti (ti (an (an (Za (Zk h1415)) tt) (an (an (Za (Zk h1415)) tt) (an (an (Za (Zk h1415)) tt) (an (df h1417) (an (df h1417) (an e1424 (an (an (Za (Zk h1415)) tt) (an (Za (Zk h1415)) (ti (an e1425 (an e1426 (an (show (!false) = true from (Za rfl)) (ti tt)))))))))))))))))
   injection h with h; subst h
   exact Qw pm pn Try.func69 (r0 := vb (!(decide (a0 = 45)))) (ans := [.reg (.n :: []), .reg (Q09 r1413)]) (fr := true) (by kernel_rfl) (an (an (ti tt) (an e1427 tt)) (ti tt)) (Wv.refl _)
def Jg (a0 : ByteArray) (a2 : Bool) (b0_1 : Int) : VS := ⟨mkA [(1, VV.fn 69 []), (2, vb a2), (10, VV.it 0)], [some ⟨true, bigX, [vs a0, vi b0_1]⟩], .nil⟩
def J8 (a0 : ByteArray) (a2 : Bool) (r : Int) : VS := ⟨mkA [(6, vi r)], [], .nil⟩
def J9 (a0 : ByteArray) (a2 : Bool) (r : Unit) : VS := ⟨mkA [], [], .nil⟩
def Ze (k : Nat) (a0 : ByteArray) (a2 : Bool) : Nat -> Int -> Option (Sum Int Unit)
 | 0, _ => none
 | fuel + 1, b0_1 => if b0_1 < (a0.size : Int) then (if 0 <= b0_1 then ((Qc7 k (((Go.Utf8.decode a0 (b0_1).toNat).1 : Nat) : Int)).bind fun r1474 => (if (r1474 == a2) = true then (some (.inl b0_1)) else (Ze k a0 a2 fuel (b0_1 + (((Go.Utf8.decode a0 (b0_1).toNat).2 : Nat) : Int))))) else none) else (some (.inr ()))
theorem Qco (k : Nat) (a0 : ByteArray) (a2 : Bool) : ∀ (fuel : Nat) (b0_1 : Int) (r : Sum Int Unit), Ze k a0 a2 fuel b0_1 = some r -> (match r with | .inl r => Yw none Try.prog (szF Try.f73) (Ya Try.f73 0) (Jg a0 a2 b0_1) .ret (J8 a0 a2 r) | .inr r => Yw none Try.prog (szF Try.f73) (Ya Try.f73 0) (Jg a0 a2 b0_1) (.exit 0) (J9 a0 a2 r)) := by
 intro fuel
 induction fuel with
 | zero => intro b0_1 r h; rw [Ze.eq_1] at h; cases h
 | succ fuel ih =>
  intro b0_1 r h
  rw [Ze.eq_2] at h
  rcases ifs h with ⟨h1471, h⟩ | ⟨h1471, h⟩
  ·obtain ⟨h1472, h⟩ := ifn h
   have e1473 := (show 0 <= b0_1 /\ b0_1 < (a0.size : Int) from ⟨h1472, of_decide_eq_true (dt h1471)⟩)
   obtain ⟨r1474, h1475, h⟩ := bs h
   have e1476 := (Qi0 k (((Go.Utf8.decode a0 (b0_1).toNat).1 : Nat) : Int) _ h1475)
   rcases ifs h with ⟨h1477, h⟩ | ⟨h1477, h⟩
   ·injection h with h; subst h
    exact Q5 (c := ⟨[(6, none)], [], []⟩) (s1 := (J8 a0 a2 b0_1)) pm pn (ans := [.reg (.b true :: .n :: []), .br true, .reg (nN 4 []), .reg (.n :: .n :: .call (vb r1474) :: .n :: .n :: []), .br true, .reg (.n :: .n :: [])]) (by kernel_rfl) (by intro e; cases e) (an (an (an e1473 (ti tt)) (an (an rt tt) (an (ti (ti (ti (ti tt)))) (an (ti (ti (an e1476 (ti (ti tt))))) (an h1477 (an (ti (ti tt)) tt)))))) (ti tt))
   ·have h2 := ih _ _ h
    obtain ⟨q, hv, hq⟩ := pkR (rd := none) (P := Try.prog) (fn := Try.f73) (k := 0) (s := (Jg a0 a2 b0_1)) (ans := [.reg (.b true :: .n :: []), .br true, .reg (nN 4 []), .reg (.n :: .n :: .call (vb r1474) :: .n :: .n :: []), .br false]) (c := ⟨[(1, none), (2, none), (10, none)], [none], []⟩) (e := .normal) (s1 := (Jg a0 a2 (b0_1 + (((Go.Utf8.decode a0 (b0_1).toNat).2 : Nat) : Int)))) (an (an (an e1473 (ti tt)) (an (an rt tt) (an (ti (ti (ti (ti tt)))) (an (ti (ti (an e1476 (ti (ti tt))))) (an (Zk h1477) tt))))) (ti tt)) (by kernel_rfl)
    cases r with
    | inl r => exact Qz pm pn hv hq h2
    | inr r =>
     exact Qz pm pn hv hq h2
  ·have e1478 := (show (a0.size : Int) <= b0_1 from (by have := of_decide_eq_false (df h1471); omega))
   injection h with h; subst h
   exact Q5 (c := ⟨[], [], []⟩) (s1 := (J9 a0 a2 ())) pm pn (ans := [.reg (.b false :: .n :: []), .br false]) (by kernel_rfl) (by intro e; cases e) (an (an (an e1478 (ti tt)) (an rf tt)) (ti tt))
def J3 (k : Nat) (a0 : ByteArray) (a1 : Unit) (a2 : Bool) : Option Int :=
 (Ze k a0 a2 k 0).bind fun r1480 => (match r1480 with | .inl r1481 => (some r1481) | .inr r1482 => (some (-1)))
theorem Qdk (k : Nat) (a0 : ByteArray) (a1 : Unit) (a2 : Bool) (r : Int) (h : J3 k a0 a1 a2 = some r) : VC Try.prog 73 [vs a0, VV.fn 69 [], vb a2] (vi r) := by
 unfold J3 at h
 obtain ⟨r1480, h1479, h⟩ := bs h
 have hph1479 := Qco k a0 a2 _ _ _ h1479
 cases r1480 with
 | inl r1481 =>
  dsimp only at h
  have e1483 := (an (ti tt) (VRun.loop hph1479))
  injection h with h; subst h
  exact Qw pm pn Try.func73 (r0 := vi r1481) (ans := [.reg (.n :: []), .reg (.n :: .n :: []), .sub ⟨[(1, none), (2, none), (10, none)], [none], []⟩ .ret (J8 a0 a2 r1481)]) (fr := true) (by kernel_rfl) (an (an (ti tt) (an (ti (ti tt)) e1483)) (ti tt)) (Wv.refl _)
 | inr r1482 =>
  dsimp only at h
  have e1484 := (an (ti tt) (VRun.loop hph1479))
  injection h with h; subst h
  exact Qw pm pn Try.func73 (r0 := vi (-1)) (ans := [.reg (.n :: []), .reg (.n :: .n :: []), .sub ⟨[(1, none), (2, none), (10, none)], [none], []⟩ (.exit 0) (J9 a0 a2 r1482), .reg (.n :: [])]) (fr := true) (by kernel_rfl) (an (an (ti tt) (an (an (ti (ti tt)) e1484) (an (ti tt) tt))) (ti tt)) (Wv.refl _)
def Jz (k : Nat) (a0 : ByteArray) (a1 : Unit) : Option Int :=
 (J3 k a0 a1 true).bind fun r1488 => (some r1488)
theorem Qdl (k : Nat) (a0 : ByteArray) (a1 : Unit) (r : Int) (h : Jz k a0 a1 = some r) : VC Try.prog 72 [vs a0, VV.fn 69 []] (vi r) := by
 unfold Jz at h
 obtain ⟨r1488, h1489, h⟩ := bs h
 have e1490 := (Qdk k a0 a1 true _ h1489)
 injection h with h; subst h
 exact Qw pm pn Try.func72 (r0 := vi r1488) (ans := [.reg (.n :: []), .reg (.n :: .n :: .call (vi r1488) :: .n :: [])]) (fr := true) (by kernel_rfl) (an (an (ti tt) (an (ti (ti (an e1490 (ti tt)))) tt)) (ti tt)) (Wv.refl _)
def Jq (k : Nat) (a0 : ByteArray) (a1 : Unit) : Option Bool :=
 (Jz k a0 a1).bind fun r1494 => (some (decide (0 <= r1494)))
theorem Qc6 (k : Nat) (a0 : ByteArray) (a1 : Unit) (r : Bool) (h : Jq k a0 a1 = some r) : VC Try.prog 68 [vs a0, VV.fn 69 []] (vb r) := by
 unfold Jq at h
 obtain ⟨r1494, h1495, h⟩ := bs h
 have e1496 := (Qdl k a0 a1 _ h1495)
 injection h with h; subst h
 exact Qw pm pn Try.func68 (r0 := vb (decide (0 <= r1494))) (ans := [.reg (.n :: []), .reg (.n :: .n :: .call (vi r1494) :: .n :: .n :: [])]) (fr := true) (by kernel_rfl) (an (an (ti tt) (an (ti (ti (an e1496 (ti (ti tt))))) tt)) (ti tt)) (Wv.refl _)
def Q1b (z0 : Bool) (z1 : Bool) (z2 : Bool) : List Ans := (.n :: .n :: .call (vb z0) :: nN 4 (.call (vb z1) :: .b true :: .n :: .n :: .call (vb z2) :: .n :: .b true :: .n :: []))
def Q1c (z0 : Bool) (z1 : Bool) : List Ans := (.n :: .n :: .call (vb z0) :: nN 4 (.call (vb z1) :: .b true :: .n :: nS 3 (.b false :: .n :: [])))
def Q1d (z0 : Bool) : List Ans := (.n :: .n :: .call (vb z0) :: .n :: nS 4 (.b false :: .n :: nS 3 (.b false :: .n :: [])))
def Yn (k : Nat) (a0 : ByteArray) : Option Bool :=
 (Jt k (a0.size : Int) 1 12).bind fun r1503 => (if r1503 = true then (if (0 : Int) <= 0 /\ 0 < (a0.size : Int) then ((Qch k (IntKind.i32.wrap (bat a0 0))).bind fun r1508 => (if r1508 = true then ((Jq k a0 ()).bind fun r1512 => (some (!r1512))) else (some false))) else none) else (some false))
theorem W9 (k : Nat) (a0 : ByteArray) (r : Bool) (h : Yn k a0 = some r) : VC Try.prog 60 [vs a0] (vb r) := by
 unfold Yn at h
 obtain ⟨r1503, h1504, h⟩ := bs h
 have e1505 := (Yv k (a0.size : Int) 1 12 _ h1504)
 rcases ifs h with ⟨h1506, h⟩ | ⟨h1506, h⟩
 ·obtain ⟨h1507, h⟩ := ifn h
  obtain ⟨r1508, h1509, h⟩ := bs h
  have e1510 := (an h1506 (Qca k (IntKind.i32.wrap (bat a0 0)) _ h1509))
  rcases ifs h with ⟨h1511, h⟩ | ⟨h1511, h⟩
  ·obtain ⟨r1512, h1513, h⟩ := bs h
   have e1514 := (an h1511 (Qc6 k a0 () _ h1513))
   have e1515 := (ti (ti (an e1505 (ti (an (an h1506 tt) (an (an h1506 h1507) (an (an h1506 tt) (an e1510 (an h1506 (ti (an (an h1511 tt) (an e1514 (an (an h1511 tt) (an h1511 (ti tt)))))))))))))))
   injection h with h; subst h
   exact Qw pm pn Try.func60 (r0 := vb (!r1512)) (ans := [.reg (.n :: []), .reg (Q1b r1503 r1508 r1512)]) (fr := true) (by kernel_rfl) (an (an (ti tt) (an e1515 tt)) (ti tt)) (Wv.refl _)
  ·have e1516 := (ti (ti (an e1505 (ti (an (an h1506 tt) (an (an h1506 h1507) (an (an h1506 tt) (an e1510 (an h1506 (ti (an (Zk h1511) (an (Zk h1511) (an (Zk h1511) (an (Zk h1511) (ti tt)))))))))))))))
   injection h with h; subst h
   exact Qw pm pn Try.func60 (r0 := vb false) (ans := [.reg (.n :: []), .reg (Q1c r1503 r1508)]) (fr := true) (by kernel_rfl) (an (an (ti tt) (an e1516 tt)) (ti tt)) (Wv.refl _)
 ·have e1517 := (ti (ti (an e1505 (ti (an (Zk h1506) (an (Zk h1506) (an (Zk h1506) (an (Zk h1506) (an (Zk h1506) (ti (an rf (an rf (an rf (an rf (ti tt)))))))))))))))
  injection h with h; subst h
  exact Qw pm pn Try.func60 (r0 := vb false) (ans := [.reg (.n :: []), .reg (Q1d r1503)]) (fr := true) (by kernel_rfl) (an (an (ti tt) (an e1517 tt)) (ti tt)) (Wv.refl _)
def Qs (k : Nat) (a0 : ((Bool × Int) × (Bool × Int) × (Bool × Int) × (Bool × Int) × (Bool × Int))) : Option Int :=
 (Zj k a0.1.1 a0.1.2).bind fun r1567 => (if r1567 = 0 then ((Zj k a0.2.1.1 a0.2.1.2).bind fun r1573 => (if r1573 = 0 then ((Zj k a0.2.2.1.1 a0.2.2.1.2).bind fun r1579 => (if r1579 = 0 then ((Zj k a0.2.2.2.1.1 a0.2.2.2.1.2).bind fun r1585 => (if r1585 = 0 then ((Zj k a0.2.2.2.2.1 a0.2.2.2.2.2).bind fun r1591 => (if r1591 = 0 then (some 0) else (some r1591))) else (some r1585))) else (some r1579))) else (some r1573))) else (some r1567))
theorem Xo (k : Nat) (a0 : ((Bool × Int) × (Bool × Int) × (Bool × Int) × (Bool × Int) × (Bool × Int))) (r : Int) (h : Qs k a0 = some r) : VC Try.prog 35 [VV.tr ([VV.fn 53 [VV.tp [vb a0.1.1] 0, VV.tp [vi a0.1.2] 0], VV.fn 53 [VV.tp [vb a0.2.1.1] 0, VV.tp [vi a0.2.1.2] 0], VV.fn 53 [VV.tp [vb a0.2.2.1.1] 0, VV.tp [vi a0.2.2.1.2] 0], VV.fn 53 [VV.tp [vb a0.2.2.2.1.1] 0, VV.tp [vi a0.2.2.2.1.2] 0], VV.fn 53 [VV.tp [vb a0.2.2.2.2.1] 0, VV.tp [vi a0.2.2.2.2.2] 0]]) 5] (vi r) := by
 unfold Qs at h
 have e1565 := (show (0 : Int) <= 0 /\ (0 : Int) < ((5 : Nat) : Int) from ⟨by decide, by decide⟩)
 have e1566 := (show Xt Try.prog 89 ((0 : Int).toNat * 1) ([VV.fn 53 [VV.tp [vb a0.1.1] 0, VV.tp [vi a0.1.2] 0], VV.fn 53 [VV.tp [vb a0.2.1.1] 0, VV.tp [vi a0.2.1.2] 0], VV.fn 53 [VV.tp [vb a0.2.2.1.1] 0, VV.tp [vi a0.2.2.1.2] 0], VV.fn 53 [VV.tp [vb a0.2.2.2.1.1] 0, VV.tp [vi a0.2.2.2.1.2] 0], VV.fn 53 [VV.tp [vb a0.2.2.2.2.1] 0, VV.tp [vi a0.2.2.2.2.2] 0]]) = some (VV.fn 53 [VV.tp [vb a0.1.1] 0, VV.tp [vi a0.1.2] 0]) from (Ju ag89 rfl))
 obtain ⟨r1567, h1568, h⟩ := bs h
 have e1569 := (Zf k a0.1.1 a0.1.2 _ h1568)
 rcases ifs h with ⟨h1570, h⟩ | ⟨h1570, h⟩
 ·have e1571 := (show (0 : Int) <= 1 /\ (1 : Int) < ((5 : Nat) : Int) from ⟨by decide, by decide⟩)
  have e1572 := (show Xt Try.prog 89 ((1 : Int).toNat * 1) ([VV.fn 53 [VV.tp [vb a0.1.1] 0, VV.tp [vi a0.1.2] 0], VV.fn 53 [VV.tp [vb a0.2.1.1] 0, VV.tp [vi a0.2.1.2] 0], VV.fn 53 [VV.tp [vb a0.2.2.1.1] 0, VV.tp [vi a0.2.2.1.2] 0], VV.fn 53 [VV.tp [vb a0.2.2.2.1.1] 0, VV.tp [vi a0.2.2.2.1.2] 0], VV.fn 53 [VV.tp [vb a0.2.2.2.2.1] 0, VV.tp [vi a0.2.2.2.2.2] 0]]) = some (VV.fn 53 [VV.tp [vb a0.2.1.1] 0, VV.tp [vi a0.2.1.2] 0]) from (Ju ag89 rfl))
  obtain ⟨r1573, h1574, h⟩ := bs h
  have e1575 := (Zf k a0.2.1.1 a0.2.1.2 _ h1574)
  rcases ifs h with ⟨h1576, h⟩ | ⟨h1576, h⟩
  ·have e1577 := (show (0 : Int) <= 2 /\ (2 : Int) < ((5 : Nat) : Int) from ⟨by decide, by decide⟩)
   have e1578 := (show Xt Try.prog 89 ((2 : Int).toNat * 1) ([VV.fn 53 [VV.tp [vb a0.1.1] 0, VV.tp [vi a0.1.2] 0], VV.fn 53 [VV.tp [vb a0.2.1.1] 0, VV.tp [vi a0.2.1.2] 0], VV.fn 53 [VV.tp [vb a0.2.2.1.1] 0, VV.tp [vi a0.2.2.1.2] 0], VV.fn 53 [VV.tp [vb a0.2.2.2.1.1] 0, VV.tp [vi a0.2.2.2.1.2] 0], VV.fn 53 [VV.tp [vb a0.2.2.2.2.1] 0, VV.tp [vi a0.2.2.2.2.2] 0]]) = some (VV.fn 53 [VV.tp [vb a0.2.2.1.1] 0, VV.tp [vi a0.2.2.1.2] 0]) from (Ju ag89 rfl))
   obtain ⟨r1579, h1580, h⟩ := bs h
   have e1581 := (Zf k a0.2.2.1.1 a0.2.2.1.2 _ h1580)
   rcases ifs h with ⟨h1582, h⟩ | ⟨h1582, h⟩
   ·have e1583 := (show (0 : Int) <= 3 /\ (3 : Int) < ((5 : Nat) : Int) from ⟨by decide, by decide⟩)
    have e1584 := (show Xt Try.prog 89 ((3 : Int).toNat * 1) ([VV.fn 53 [VV.tp [vb a0.1.1] 0, VV.tp [vi a0.1.2] 0], VV.fn 53 [VV.tp [vb a0.2.1.1] 0, VV.tp [vi a0.2.1.2] 0], VV.fn 53 [VV.tp [vb a0.2.2.1.1] 0, VV.tp [vi a0.2.2.1.2] 0], VV.fn 53 [VV.tp [vb a0.2.2.2.1.1] 0, VV.tp [vi a0.2.2.2.1.2] 0], VV.fn 53 [VV.tp [vb a0.2.2.2.2.1] 0, VV.tp [vi a0.2.2.2.2.2] 0]]) = some (VV.fn 53 [VV.tp [vb a0.2.2.2.1.1] 0, VV.tp [vi a0.2.2.2.1.2] 0]) from (Ju ag89 rfl))
    obtain ⟨r1585, h1586, h⟩ := bs h
    have e1587 := (Zf k a0.2.2.2.1.1 a0.2.2.2.1.2 _ h1586)
    rcases ifs h with ⟨h1588, h⟩ | ⟨h1588, h⟩
    ·have e1589 := (show (0 : Int) <= 4 /\ (4 : Int) < ((5 : Nat) : Int) from ⟨by decide, by decide⟩)
     have e1590 := (show Xt Try.prog 89 ((4 : Int).toNat * 1) ([VV.fn 53 [VV.tp [vb a0.1.1] 0, VV.tp [vi a0.1.2] 0], VV.fn 53 [VV.tp [vb a0.2.1.1] 0, VV.tp [vi a0.2.1.2] 0], VV.fn 53 [VV.tp [vb a0.2.2.1.1] 0, VV.tp [vi a0.2.2.1.2] 0], VV.fn 53 [VV.tp [vb a0.2.2.2.1.1] 0, VV.tp [vi a0.2.2.2.1.2] 0], VV.fn 53 [VV.tp [vb a0.2.2.2.2.1] 0, VV.tp [vi a0.2.2.2.2.2] 0]]) = some (VV.fn 53 [VV.tp [vb a0.2.2.2.2.1] 0, VV.tp [vi a0.2.2.2.2.2] 0]) from (Ju ag89 rfl))
     obtain ⟨r1591, h1592, h⟩ := bs h
     have e1593 := (Zf k a0.2.2.2.2.1 a0.2.2.2.2.2 _ h1592)
     rcases ifs h with ⟨h1594, h⟩ | ⟨h1594, h⟩
     ·injection h with h; subst h
      exact Qw pm pn Try.func35 (r0 := vi 0) (ans := [.reg (.n :: []), .reg (nN 3 []), .unr 7, .reg (.n :: []), .br true, .reg (.n :: .v (VV.fn 53 [VV.tp [vb a0.1.1] 0, VV.tp [vi a0.1.2] 0]) :: .n :: []), .reg (.n :: .call (vi r1567) :: .n :: []), .reg (.n :: .n :: []), .br false, .reg (.n :: .n :: []), .reg (.n :: []), .br true, .reg (.n :: .v (VV.fn 53 [VV.tp [vb a0.2.1.1] 0, VV.tp [vi a0.2.1.2] 0]) :: .n :: []), .reg (.n :: .call (vi r1573) :: .n :: []), .reg (.n :: .n :: []), .br false, .reg (.n :: .n :: []), .reg (.n :: []), .br true, .reg (.n :: .v (VV.fn 53 [VV.tp [vb a0.2.2.1.1] 0, VV.tp [vi a0.2.2.1.2] 0]) :: .n :: []), .reg (.n :: .call (vi r1579) :: .n :: []), .reg (.n :: .n :: []), .br false, .reg (.n :: .n :: []), .reg (.n :: []), .br true, .reg (.n :: .v (VV.fn 53 [VV.tp [vb a0.2.2.2.1.1] 0, VV.tp [vi a0.2.2.2.1.2] 0]) :: .n :: []), .reg (.n :: .call (vi r1585) :: .n :: []), .reg (.n :: .n :: []), .br false, .reg (.n :: .n :: []), .reg (.n :: []), .br true, .reg (.n :: .v (VV.fn 53 [VV.tp [vb a0.2.2.2.2.1] 0, VV.tp [vi a0.2.2.2.2.2] 0]) :: .n :: []), .reg (.n :: .call (vi r1591) :: .n :: []), .reg (.n :: .n :: []), .br false, .reg (.n :: .n :: []), .reg (.n :: []), .br false, .reg (.n :: [])]) (fr := true) (by kernel_rfl) (an (an (ti tt) (an (an (ti (ti (ti tt))) (an (an (ti tt) (an (an (show (decide ((0 : Int) < 5)) = true from (dt (by decide))) tt) (an (an (an e1565 (an e1566 (ti tt))) (an (ti (an e1569 (ti tt))) (an (ti (ti tt)) (an (Qm (dt h1570)) tt)))) (ti (ti tt))))) (an (an (ti tt) (an (an (show (decide ((1 : Int) < 5)) = true from (dt (by decide))) tt) (an (an (an e1571 (an e1572 (ti tt))) (an (ti (an e1575 (ti tt))) (an (ti (ti tt)) (an (Qm (dt h1576)) tt)))) (ti (ti tt))))) (an (an (ti tt) (an (an (show (decide ((2 : Int) < 5)) = true from (dt (by decide))) tt) (an (an (an e1577 (an e1578 (ti tt))) (an (ti (an e1581 (ti tt))) (an (ti (ti tt)) (an (Qm (dt h1582)) tt)))) (ti (ti tt))))) (an (an (ti tt) (an (an (show (decide ((3 : Int) < 5)) = true from (dt (by decide))) tt) (an (an (an e1583 (an e1584 (ti tt))) (an (ti (an e1587 (ti tt))) (an (ti (ti tt)) (an (Qm (dt h1588)) tt)))) (ti (ti tt))))) (an (an (ti tt) (an (an (show (decide ((4 : Int) < 5)) = true from (dt (by decide))) tt) (an (an (an e1589 (an e1590 (ti tt))) (an (ti (an e1593 (ti tt))) (an (ti (ti tt)) (an (Qm (dt h1594)) tt)))) (ti (ti tt))))) (an (ti tt) (an (show (decide ((5 : Int) < 5)) = false from (df (by decide))) tt)))))))) (an (ti tt) tt))) (ti tt)) (Wv.refl _)
     ·injection h with h; subst h
      exact Qw pm pn Try.func35 (r0 := vi r1591) (ans := [.reg (.n :: []), .reg (nN 3 []), .unr 6, .reg (.n :: []), .br true, .reg (.n :: .v (VV.fn 53 [VV.tp [vb a0.1.1] 0, VV.tp [vi a0.1.2] 0]) :: .n :: []), .reg (.n :: .call (vi r1567) :: .n :: []), .reg (.n :: .n :: []), .br false, .reg (.n :: .n :: []), .reg (.n :: []), .br true, .reg (.n :: .v (VV.fn 53 [VV.tp [vb a0.2.1.1] 0, VV.tp [vi a0.2.1.2] 0]) :: .n :: []), .reg (.n :: .call (vi r1573) :: .n :: []), .reg (.n :: .n :: []), .br false, .reg (.n :: .n :: []), .reg (.n :: []), .br true, .reg (.n :: .v (VV.fn 53 [VV.tp [vb a0.2.2.1.1] 0, VV.tp [vi a0.2.2.1.2] 0]) :: .n :: []), .reg (.n :: .call (vi r1579) :: .n :: []), .reg (.n :: .n :: []), .br false, .reg (.n :: .n :: []), .reg (.n :: []), .br true, .reg (.n :: .v (VV.fn 53 [VV.tp [vb a0.2.2.2.1.1] 0, VV.tp [vi a0.2.2.2.1.2] 0]) :: .n :: []), .reg (.n :: .call (vi r1585) :: .n :: []), .reg (.n :: .n :: []), .br false, .reg (.n :: .n :: []), .reg (.n :: []), .br true, .reg (.n :: .v (VV.fn 53 [VV.tp [vb a0.2.2.2.2.1] 0, VV.tp [vi a0.2.2.2.2.2] 0]) :: .n :: []), .reg (.n :: .call (vi r1591) :: .n :: []), .reg (.n :: .n :: []), .br true, .reg (.n :: .n :: [])]) (fr := true) (by kernel_rfl) (an (an (ti tt) (an (ti (ti (ti tt))) (an (an (ti tt) (an (an (show (decide ((0 : Int) < 5)) = true from (dt (by decide))) tt) (an (an (an e1565 (an e1566 (ti tt))) (an (ti (an e1569 (ti tt))) (an (ti (ti tt)) (an (Qm (dt h1570)) tt)))) (ti (ti tt))))) (an (an (ti tt) (an (an (show (decide ((1 : Int) < 5)) = true from (dt (by decide))) tt) (an (an (an e1571 (an e1572 (ti tt))) (an (ti (an e1575 (ti tt))) (an (ti (ti tt)) (an (Qm (dt h1576)) tt)))) (ti (ti tt))))) (an (an (ti tt) (an (an (show (decide ((2 : Int) < 5)) = true from (dt (by decide))) tt) (an (an (an e1577 (an e1578 (ti tt))) (an (ti (an e1581 (ti tt))) (an (ti (ti tt)) (an (Qm (dt h1582)) tt)))) (ti (ti tt))))) (an (an (ti tt) (an (an (show (decide ((3 : Int) < 5)) = true from (dt (by decide))) tt) (an (an (an e1583 (an e1584 (ti tt))) (an (ti (an e1587 (ti tt))) (an (ti (ti tt)) (an (Qm (dt h1588)) tt)))) (ti (ti tt))))) (an (ti tt) (an (an (show (decide ((4 : Int) < 5)) = true from (dt (by decide))) tt) (an (an e1589 (an e1590 (ti tt))) (an (ti (an e1593 (ti tt))) (an (ti (ti tt)) (an (Za (df h1594)) (an (ti (ti tt)) tt))))))))))))) (ti tt)) (Wv.refl _)
    ·injection h with h; subst h
     exact Qw pm pn Try.func35 (r0 := vi r1585) (ans := [.reg (.n :: []), .reg (nN 3 []), .unr 5, .reg (.n :: []), .br true, .reg (.n :: .v (VV.fn 53 [VV.tp [vb a0.1.1] 0, VV.tp [vi a0.1.2] 0]) :: .n :: []), .reg (.n :: .call (vi r1567) :: .n :: []), .reg (.n :: .n :: []), .br false, .reg (.n :: .n :: []), .reg (.n :: []), .br true, .reg (.n :: .v (VV.fn 53 [VV.tp [vb a0.2.1.1] 0, VV.tp [vi a0.2.1.2] 0]) :: .n :: []), .reg (.n :: .call (vi r1573) :: .n :: []), .reg (.n :: .n :: []), .br false, .reg (.n :: .n :: []), .reg (.n :: []), .br true, .reg (.n :: .v (VV.fn 53 [VV.tp [vb a0.2.2.1.1] 0, VV.tp [vi a0.2.2.1.2] 0]) :: .n :: []), .reg (.n :: .call (vi r1579) :: .n :: []), .reg (.n :: .n :: []), .br false, .reg (.n :: .n :: []), .reg (.n :: []), .br true, .reg (.n :: .v (VV.fn 53 [VV.tp [vb a0.2.2.2.1.1] 0, VV.tp [vi a0.2.2.2.1.2] 0]) :: .n :: []), .reg (.n :: .call (vi r1585) :: .n :: []), .reg (.n :: .n :: []), .br true, .reg (.n :: .n :: [])]) (fr := true) (by kernel_rfl) (an (an (ti tt) (an (ti (ti (ti tt))) (an (an (ti tt) (an (an (show (decide ((0 : Int) < 5)) = true from (dt (by decide))) tt) (an (an (an e1565 (an e1566 (ti tt))) (an (ti (an e1569 (ti tt))) (an (ti (ti tt)) (an (Qm (dt h1570)) tt)))) (ti (ti tt))))) (an (an (ti tt) (an (an (show (decide ((1 : Int) < 5)) = true from (dt (by decide))) tt) (an (an (an e1571 (an e1572 (ti tt))) (an (ti (an e1575 (ti tt))) (an (ti (ti tt)) (an (Qm (dt h1576)) tt)))) (ti (ti tt))))) (an (an (ti tt) (an (an (show (decide ((2 : Int) < 5)) = true from (dt (by decide))) tt) (an (an (an e1577 (an e1578 (ti tt))) (an (ti (an e1581 (ti tt))) (an (ti (ti tt)) (an (Qm (dt h1582)) tt)))) (ti (ti tt))))) (an (ti tt) (an (an (show (decide ((3 : Int) < 5)) = true from (dt (by decide))) tt) (an (an e1583 (an e1584 (ti tt))) (an (ti (an e1587 (ti tt))) (an (ti (ti tt)) (an (Za (df h1588)) (an (ti (ti tt)) tt)))))))))))) (ti tt)) (Wv.refl _)
   ·injection h with h; subst h
    exact Qw pm pn Try.func35 (r0 := vi r1579) (ans := [.reg (.n :: []), .reg (nN 3 []), .unr 4, .reg (.n :: []), .br true, .reg (.n :: .v (VV.fn 53 [VV.tp [vb a0.1.1] 0, VV.tp [vi a0.1.2] 0]) :: .n :: []), .reg (.n :: .call (vi r1567) :: .n :: []), .reg (.n :: .n :: []), .br false, .reg (.n :: .n :: []), .reg (.n :: []), .br true, .reg (.n :: .v (VV.fn 53 [VV.tp [vb a0.2.1.1] 0, VV.tp [vi a0.2.1.2] 0]) :: .n :: []), .reg (.n :: .call (vi r1573) :: .n :: []), .reg (.n :: .n :: []), .br false, .reg (.n :: .n :: []), .reg (.n :: []), .br true, .reg (.n :: .v (VV.fn 53 [VV.tp [vb a0.2.2.1.1] 0, VV.tp [vi a0.2.2.1.2] 0]) :: .n :: []), .reg (.n :: .call (vi r1579) :: .n :: []), .reg (.n :: .n :: []), .br true, .reg (.n :: .n :: [])]) (fr := true) (by kernel_rfl) (an (an (ti tt) (an (ti (ti (ti tt))) (an (an (ti tt) (an (an (show (decide ((0 : Int) < 5)) = true from (dt (by decide))) tt) (an (an (an e1565 (an e1566 (ti tt))) (an (ti (an e1569 (ti tt))) (an (ti (ti tt)) (an (Qm (dt h1570)) tt)))) (ti (ti tt))))) (an (an (ti tt) (an (an (show (decide ((1 : Int) < 5)) = true from (dt (by decide))) tt) (an (an (an e1571 (an e1572 (ti tt))) (an (ti (an e1575 (ti tt))) (an (ti (ti tt)) (an (Qm (dt h1576)) tt)))) (ti (ti tt))))) (an (ti tt) (an (an (show (decide ((2 : Int) < 5)) = true from (dt (by decide))) tt) (an (an e1577 (an e1578 (ti tt))) (an (ti (an e1581 (ti tt))) (an (ti (ti tt)) (an (Za (df h1582)) (an (ti (ti tt)) tt))))))))))) (ti tt)) (Wv.refl _)
  ·injection h with h; subst h
   exact Qw pm pn Try.func35 (r0 := vi r1573) (ans := [.reg (.n :: []), .reg (nN 3 []), .unr 3, .reg (.n :: []), .br true, .reg (.n :: .v (VV.fn 53 [VV.tp [vb a0.1.1] 0, VV.tp [vi a0.1.2] 0]) :: .n :: []), .reg (.n :: .call (vi r1567) :: .n :: []), .reg (.n :: .n :: []), .br false, .reg (.n :: .n :: []), .reg (.n :: []), .br true, .reg (.n :: .v (VV.fn 53 [VV.tp [vb a0.2.1.1] 0, VV.tp [vi a0.2.1.2] 0]) :: .n :: []), .reg (.n :: .call (vi r1573) :: .n :: []), .reg (.n :: .n :: []), .br true, .reg (.n :: .n :: [])]) (fr := true) (by kernel_rfl) (an (an (ti tt) (an (ti (ti (ti tt))) (an (an (ti tt) (an (an (show (decide ((0 : Int) < 5)) = true from (dt (by decide))) tt) (an (an (an e1565 (an e1566 (ti tt))) (an (ti (an e1569 (ti tt))) (an (ti (ti tt)) (an (Qm (dt h1570)) tt)))) (ti (ti tt))))) (an (ti tt) (an (an (show (decide ((1 : Int) < 5)) = true from (dt (by decide))) tt) (an (an e1571 (an e1572 (ti tt))) (an (ti (an e1575 (ti tt))) (an (ti (ti tt)) (an (Za (df h1576)) (an (ti (ti tt)) tt)))))))))) (ti tt)) (Wv.refl _)
 ·injection h with h; subst h
  exact Qw pm pn Try.func35 (r0 := vi r1567) (ans := [.reg (.n :: []), .reg (nN 3 []), .unr 2, .reg (.n :: []), .br true, .reg (.n :: .v (VV.fn 53 [VV.tp [vb a0.1.1] 0, VV.tp [vi a0.1.2] 0]) :: .n :: []), .reg (.n :: .call (vi r1567) :: .n :: []), .reg (.n :: .n :: []), .br true, .reg (.n :: .n :: [])]) (fr := true) (by kernel_rfl) (an (an (ti tt) (an (ti (ti (ti tt))) (an (ti tt) (an (an (show (decide ((0 : Int) < 5)) = true from (dt (by decide))) tt) (an (an e1565 (an e1566 (ti tt))) (an (ti (an e1569 (ti tt))) (an (ti (ti tt)) (an (Za (df h1570)) (an (ti (ti tt)) tt))))))))) (ti tt)) (Wv.refl _)
theorem Qxn (z0 : (Bool × Int)) (z1 : (Bool × Int)) (z2 : (Bool × Int)) (z3 : (Bool × Int)) (z4 : (Bool × Int)) : [VV.tr ([VV.fn 53 [VV.tp [vb (((z0, z1, z2, z3, z4).1).1)] 0, VV.tp [vi (((z0, z1, z2, z3, z4).1).2)] 0], VV.fn 53 [VV.tp [vb (((z0, z1, z2, z3, z4).2.1).1)] 0, VV.tp [vi (((z0, z1, z2, z3, z4).2.1).2)] 0], VV.fn 53 [VV.tp [vb (((z0, z1, z2, z3, z4).2.2.1).1)] 0, VV.tp [vi (((z0, z1, z2, z3, z4).2.2.1).2)] 0], VV.fn 53 [VV.tp [vb (((z0, z1, z2, z3, z4).2.2.2.1).1)] 0, VV.tp [vi (((z0, z1, z2, z3, z4).2.2.2.1).2)] 0], VV.fn 53 [VV.tp [vb (((z0, z1, z2, z3, z4).2.2.2.2).1)] 0, VV.tp [vi (((z0, z1, z2, z3, z4).2.2.2.2).2)] 0]]) 5] = [VV.tr (List.drop 0 (List.map unfr [VV.fn 53 [VV.tp [vb z0.1] 0, VV.tp [vi z0.2] 0], VV.fn 53 [VV.tp [vb z1.1] 0, VV.tp [vi z1.2] 0], VV.fn 53 [VV.tp [vb z2.1] 0, VV.tp [vi z2.2] 0], VV.fn 53 [VV.tp [vb z3.1] 0, VV.tp [vi z3.2] 0], VV.fn 53 [VV.tp [vb z4.1] 0, VV.tp [vi z4.2] 0]])) 5] := by first | rfl | (simp only [Qa7, Zi, Yd, map_cons, map_nil, un_i, un_b, Qae]; done) | (simp only [Qa7, Zi, Yd, map_cons, map_nil, un_i, un_b, Qae]; rfl) | (simp only [Qa7, Zi, Yd, map_cons, map_nil, un_i, un_b, Qae, length_cons, length_nil, length_append]; done)
def Qxo (z0 : Bool) (z1 : (Bool × Int)) (z2 : (Bool × Int)) (z3 : (Bool × Int)) (z4 : (Bool × Int)) (z5 : (Bool × Int)) (z6 : Int) : List Ans := (.n :: .n :: .call (vb z0) :: .call (VV.fn 53 [VV.tp [vb z1.1] 0, VV.tp [vi z1.2] 0]) :: .n :: .n :: .call (VV.fn 53 [VV.tp [vb z2.1] 0, VV.tp [vi z2.2] 0]) :: .n :: .n :: .call (VV.fn 53 [VV.tp [vb z3.1] 0, VV.tp [vi z3.2] 0]) :: .n :: .n :: .call (VV.fn 53 [VV.tp [vb z4.1] 0, VV.tp [vi z4.2] 0]) :: .n :: .n :: .call (VV.fn 53 [VV.tp [vb z5.1] 0, VV.tp [vi z5.2] 0]) :: .n :: .call (vi z6) :: .n :: [])
noncomputable def Qxp (z0 : List (ByteArray × Bool)) (z1 : (List Qj)) (z2 : Int) (z3 : Bool) (z4 : (Bool × Int)) (z5 : (Bool × Int)) (z6 : (Bool × Int)) (z7 : (Bool × Int)) (z8 : (Bool × Int)) (z9 : Int) : List Ans := (.n :: .n :: .inl (inlF Try.f59 [.reg (.n :: .n :: []), .reg (nN 3 (.v (vb (mget z0 ((z1.getD z2.toNat default).Name))) :: .n :: [])), .reg (nN 4 []), .reg (Qxo z3 z4 z5 z6 z7 z8 z9)]) :: .n :: [])
noncomputable def Qut (z0 : Bool) (z1 : (Bool × Int)) (z2 : (Bool × Int)) (z3 : (Bool × Int)) (z4 : (Bool × Int)) (z5 : (Bool × Int)) (z6 : Int) : List Ans := (.n :: .n :: .inl (inlF Try.f59 [.reg (.n :: .n :: []), .reg (nN 3 (.b false :: .n :: [])), .reg (nN 4 []), .reg (Qxo z0 z1 z2 z3 z4 z5 z6)]) :: .n :: [])
def X9 (a0 : (List Qj)) (r1748 : (Bool × Int)) (r1753 : Int) (y0 : List (ByteArray × Bool)) (x8 : Int) : VS := ⟨mkA [(1, VV.pt 3 0), (6, VV.tr (flatMap Qc a0) a0.length), (7, vi (a0.length : Int)), (8, vi x8)], [some ⟨true, bigX + 1, flatMap (mpE vb) y0⟩, some ⟨true, 1, [VV.mp 0]⟩, none, some ⟨true, 1, [VV.fn 59 [VV.pt 1 0]]⟩, some ⟨true, 1, [VV.fn 53 [VV.tp [vb r1748.1] 0, VV.tp [vi r1748.2] 0], VV.fn 66 [VV.tp [VV.tr (flatMap Qc a0) a0.length] 0, VV.pt 3 0]]⟩], (.node none (mkA [(0, VV.rf 4 0 2), (2, vi 0), (4, VV.fn 66 [VV.tp [VV.tr (flatMap Qc a0) a0.length] 0, VV.pt 3 0]), (5, vi r1753), (6, VV.rf 4 0 2), (7, vi 2), (8, vi 1), (9, vb (decide ((1 : Int) < 2))), (10, VV.pt 4 1), (11, VV.fn 66 [VV.tp [VV.tr (flatMap Qc a0) a0.length] 0, VV.pt 3 0]), (12, VV.fn 66 [VV.tp [VV.tr (flatMap Qc a0) a0.length] 0, VV.pt 3 0]), (13, vi r1753), (14, vi r1753), (15, vb (!(decide (r1753 = 0)))), (17, vi 1)]) (.node none (mkA [(0, VV.tr (flatMap Qc a0) a0.length), (2, vi 0), (3, VV.pt 1 0), (4, VV.mp 0), (5, VV.tr (flatMap Qc a0) a0.length), (6, vi (a0.length : Int)), (7, vb (decide ((a0.length : Int) <= 40))), (8, VV.fn 53 [VV.tp [vb r1748.1] 0, VV.tp [vi r1748.2] 0]), (9, VV.tr (flatMap Qc a0) a0.length), (10, VV.fn 59 [VV.pt 1 0]), (11, VV.fn 66 [VV.tp [VV.tr (flatMap Qc a0) a0.length] 0, VV.pt 3 0]), (12, VV.rf 4 0 2)]) .nil))⟩
def Jo (a0 : (List Qj)) (r1748 : (Bool × Int)) (r1753 : Int) (r : Int × (List (ByteArray × Bool))) : VS := ⟨mkA [(2, vi r.1)], [some ⟨true, bigX + 1, flatMap (mpE vb) r.2⟩, some ⟨true, 1, [VV.mp 0]⟩, none, some ⟨true, 1, [VV.fn 59 [VV.pt 1 0]]⟩, some ⟨true, 1, [VV.fn 53 [VV.tp [vb r1748.1] 0, VV.tp [vi r1748.2] 0], VV.fn 66 [VV.tp [VV.tr (flatMap Qc a0) a0.length] 0, VV.pt 3 0]]⟩], (.node none (mkA [(0, VV.rf 4 0 2), (2, vi 0), (4, VV.fn 66 [VV.tp [VV.tr (flatMap Qc a0) a0.length] 0, VV.pt 3 0]), (5, vi r1753), (6, VV.rf 4 0 2), (7, vi 2), (8, vi 1), (9, vb (decide ((1 : Int) < 2))), (10, VV.pt 4 1), (11, VV.fn 66 [VV.tp [VV.tr (flatMap Qc a0) a0.length] 0, VV.pt 3 0]), (12, VV.fn 66 [VV.tp [VV.tr (flatMap Qc a0) a0.length] 0, VV.pt 3 0]), (13, vi r1753), (14, vi r1753), (15, vb (!(decide (r1753 = 0)))), (17, vi 1)]) (.node none (mkA [(0, VV.tr (flatMap Qc a0) a0.length), (2, vi 0), (3, VV.pt 1 0), (4, VV.mp 0), (5, VV.tr (flatMap Qc a0) a0.length), (6, vi (a0.length : Int)), (7, vb (decide ((a0.length : Int) <= 40))), (8, VV.fn 53 [VV.tp [vb r1748.1] 0, VV.tp [vi r1748.2] 0]), (9, VV.tr (flatMap Qc a0) a0.length), (10, VV.fn 59 [VV.pt 1 0]), (11, VV.fn 66 [VV.tp [VV.tr (flatMap Qc a0) a0.length] 0, VV.pt 3 0]), (12, VV.rf 4 0 2)]) .nil))⟩
def Y3 (a0 : (List Qj)) (r1748 : (Bool × Int)) (r1753 : Int) (r : (List (ByteArray × Bool))) : VS := ⟨mkA [], [some ⟨true, bigX + 1, flatMap (mpE vb) r⟩, some ⟨true, 1, [VV.mp 0]⟩, none, some ⟨true, 1, [VV.fn 59 [VV.pt 1 0]]⟩, some ⟨true, 1, [VV.fn 53 [VV.tp [vb r1748.1] 0, VV.tp [vi r1748.2] 0], VV.fn 66 [VV.tp [VV.tr (flatMap Qc a0) a0.length] 0, VV.pt 3 0]]⟩], (.node none (mkA [(0, VV.rf 4 0 2), (2, vi 0), (4, VV.fn 66 [VV.tp [VV.tr (flatMap Qc a0) a0.length] 0, VV.pt 3 0]), (5, vi r1753), (6, VV.rf 4 0 2), (7, vi 2), (8, vi 1), (9, vb (decide ((1 : Int) < 2))), (10, VV.pt 4 1), (11, VV.fn 66 [VV.tp [VV.tr (flatMap Qc a0) a0.length] 0, VV.pt 3 0]), (12, VV.fn 66 [VV.tp [VV.tr (flatMap Qc a0) a0.length] 0, VV.pt 3 0]), (13, vi r1753), (14, vi r1753), (15, vb (!(decide (r1753 = 0)))), (17, vi 1)]) (.node none (mkA [(0, VV.tr (flatMap Qc a0) a0.length), (2, vi 0), (3, VV.pt 1 0), (4, VV.mp 0), (5, VV.tr (flatMap Qc a0) a0.length), (6, vi (a0.length : Int)), (7, vb (decide ((a0.length : Int) <= 40))), (8, VV.fn 53 [VV.tp [vb r1748.1] 0, VV.tp [vi r1748.2] 0]), (9, VV.tr (flatMap Qc a0) a0.length), (10, VV.fn 59 [VV.pt 1 0]), (11, VV.fn 66 [VV.tp [VV.tr (flatMap Qc a0) a0.length] 0, VV.pt 3 0]), (12, VV.rf 4 0 2)]) .nil))⟩
def Zw (k : Nat) (a0 : (List Qj)) (r1748 : (Bool × Int)) (r1753 : Int) : Nat -> (List (ByteArray × Bool)) -> Int -> Option (Sum (Int × (List (ByteArray × Bool))) (List (ByteArray × Bool)))
 | 0, _, _ => none
 | fuel + 1, y0, x8 => if x8 < (a0.length : Int) then (if 0 <= x8 /\ x8 < (a0.length : Int) then (if mhas y0 ((a0.getD x8.toNat default).Name) = true then ((Yn k ((a0.getD x8.toNat default).Name)).bind fun r1871 => ((Qy k r1871 4).bind fun r1874 => ((Qy k (!(mget y0 ((a0.getD x8.toNat default).Name))) 5).bind fun r1876 => ((Zl k ((a0.getD x8.toNat default).Diameter) 1 1000).bind fun r1879 => ((Zl k ((a0.getD x8.toNat default).Thick) 1 500).bind fun r1882 => ((Zl k ((a0.getD x8.toNat default).Count) 0 1000).bind fun r1885 => ((Qs k (r1874, r1876, r1879, r1882, r1885)).bind fun r1888 => (if r1888 = 0 then (Zw k a0 r1748 r1753 fuel (mset y0 ((a0.getD x8.toNat default).Name) true) (w64 (x8 + 1))) else (some (.inl (r1888, mset y0 ((a0.getD x8.toNat default).Name) true))))))))))) else ((Yn k ((a0.getD x8.toNat default).Name)).bind fun r1896 => ((Qy k r1896 4).bind fun r1899 => ((Qy k (!false) 5).bind fun r1901 => ((Zl k ((a0.getD x8.toNat default).Diameter) 1 1000).bind fun r1903 => ((Zl k ((a0.getD x8.toNat default).Thick) 1 500).bind fun r1906 => ((Zl k ((a0.getD x8.toNat default).Count) 0 1000).bind fun r1909 => ((Qs k (r1899, r1901, r1903, r1906, r1909)).bind fun r1912 => (if r1912 = 0 then (Zw k a0 r1748 r1753 fuel (mset y0 ((a0.getD x8.toNat default).Name) true) (w64 (x8 + 1))) else (some (.inl (r1912, mset y0 ((a0.getD x8.toNat default).Name) true)))))))))))) else none) else (some (.inr y0))
theorem Qd2 (k : Nat) (a0 : (List Qj)) (r1748 : (Bool × Int)) (r1753 : Int) : ∀ (fuel : Nat) (y0 : List (ByteArray × Bool)) (x8 : Int) (r : Sum (Int × (List (ByteArray × Bool))) (List (ByteArray × Bool))), Zw k a0 r1748 r1753 fuel y0 x8 = some r -> (match r with | .inl r => Yw none Try.prog (szF Try.f66) (Ya Try.f66 0) (X9 a0 r1748 r1753 y0 x8) .ret (Jo a0 r1748 r1753 r) | .inr r => Yw none Try.prog (szF Try.f66) (Ya Try.f66 0) (X9 a0 r1748 r1753 y0 x8) (.exit 0) (Y3 a0 r1748 r1753 r)) := by
 intro fuel
 induction fuel with
 | zero => intro y0 x8 r h; rw [Zw.eq_1] at h; cases h
 | succ fuel ih =>
  intro y0 x8 r h
  rw [Zw.eq_2] at h
  rcases ifs h with ⟨h1865, h⟩ | ⟨h1865, h⟩
  ·obtain ⟨h1866, h⟩ := ifn h
   have e1867 := (show Xt Try.prog 51 (x8.toNat * 4) (flatMap Qc a0) = some (VV.ag (Qc (a0.getD x8.toNat default))) from Yo ag51 Qc 4 sz51 Jr a0 default h1866 (by omega))
   rcases ifs h with ⟨h1868, h⟩ | ⟨h1868, h⟩
   ·have e1869 := (show Wh (kdV (.string ((a0.getD x8.toNat default).Name))) (flatMap (mpE vb) y0) = true /\ lkM (.string ((a0.getD x8.toNat default).Name)) (flatMap (mpE vb) y0) = some (vb (mget y0 ((a0.getD x8.toNat default).Name))) from ⟨(Xc vb ((a0.getD x8.toNat default).Name) y0), (Qer vb ((a0.getD x8.toNat default).Name) y0 h1868)⟩)
    have e1870 := (show Wh (kdV (.string ((a0.getD x8.toNat default).Name))) (flatMap (mpE vb) y0) = true from (Xc vb ((a0.getD x8.toNat default).Name) y0))
    obtain ⟨r1871, h1872, h⟩ := bs h
    have e1873 := (W9 k ((a0.getD x8.toNat default).Name) _ h1872)
    obtain ⟨r1874, h1875, h⟩ := bs h
    obtain ⟨r1876, h1877, h⟩ := bs h
    have e1878 := (Qp k (!(mget y0 ((a0.getD x8.toNat default).Name))) 5 _ h1877)
    obtain ⟨r1879, h1880, h⟩ := bs h
    have e1881 := (Zm k ((a0.getD x8.toNat default).Diameter) 1 1000 _ h1880)
    obtain ⟨r1882, h1883, h⟩ := bs h
    have e1884 := (Zm k ((a0.getD x8.toNat default).Thick) 1 500 _ h1883)
    obtain ⟨r1885, h1886, h⟩ := bs h
    have e1887 := (Zm k ((a0.getD x8.toNat default).Count) 0 1000 _ h1886)
    obtain ⟨r1888, h1889, h⟩ := bs h
    have e1890 := (VC.args (Xo k (r1874, r1876, r1879, r1882, r1885) _ h1889) (Qxn r1874 r1876 r1879 r1882 r1885))
    have e1891 := (ti (ti (an e1873 (an (Qp k r1871 4 _ h1875) (ti (ti (an e1878 (ti (ti (an e1881 (ti (ti (an e1884 (ti (ti (an e1887 (ti (an e1890 (ti tt)))))))))))))))))))
    have e1892 := (an (an Try.func59 (an (ti (ti tt)) (an (ti (ti (ti (an e1869 (ti tt))))) (an (ti (ti (ti (an e1870 tt)))) (an e1891 tt))))) (ti tt))
    rcases ifs h with ⟨h1893, h⟩ | ⟨h1893, h⟩
    ·have h2 := ih _ _ _ h
     obtain ⟨q, hv, hq⟩ := pkR (rd := none) (P := Try.prog) (fn := Try.f66) (k := 0) (s := (X9 a0 r1748 r1753 y0 x8)) (ans := [.reg (.n :: []), .br true, .reg (.n :: .v (VV.ag (Qc (a0.getD x8.toNat default))) :: .n :: .n :: []), .reg (Qxp y0 a0 x8 r1871 r1874 r1876 r1879 r1882 r1885 r1888), .reg (.n :: .n :: []), .br false, .reg (.n :: .n :: [])]) (c := ⟨[(1, none), (6, none), (7, none), (8, none)], [some (flatMap (mpE vb) (mset y0 ((a0.getD x8.toNat default).Name) true)), none, none, none, none], []⟩) (e := .normal) (s1 := (X9 a0 r1748 r1753 (mset y0 ((a0.getD x8.toNat default).Name) true) (w64 (x8 + 1)))) (an (an (ti tt) (an (an (dt h1865) tt) (an (an (an h1866 (an e1867 (ti (ti tt)))) (an (ti (ti (an e1892 (ti tt)))) (an (ti (ti tt)) (an (Qm (dt h1893)) tt)))) (ti (ti tt))))) (ti (an (show upM (.string ((a0.getD x8.toNat default).Name)) (vb true) (flatMap (mpE vb) y0) = flatMap (mpE vb) (mset y0 ((a0.getD x8.toNat default).Name) true) from (by exact Qbf vb ((a0.getD x8.toNat default).Name) true y0)) tt))) (by kernel_rfl)
     cases r with
     | inl r => exact Qz pm pn hv hq h2
     | inr r =>
      exact Qz pm pn hv hq h2
    ·injection h with h; subst h
     exact Q5 (c := ⟨[(2, none)], [some (flatMap (mpE vb) (mset y0 ((a0.getD x8.toNat default).Name) true)), none, none, none, none], []⟩) (s1 := (Jo a0 r1748 r1753 (r1888, mset y0 ((a0.getD x8.toNat default).Name) true))) pm pn (ans := [.reg (.n :: []), .br true, .reg (.n :: .v (VV.ag (Qc (a0.getD x8.toNat default))) :: .n :: .n :: []), .reg (Qxp y0 a0 x8 r1871 r1874 r1876 r1879 r1882 r1885 r1888), .reg (.n :: .n :: []), .br true, .reg (.n :: .n :: [])]) (by kernel_rfl) (by intro e; cases e) (an (an (ti tt) (an (an (dt h1865) tt) (an (an h1866 (an e1867 (ti (ti tt)))) (an (ti (ti (an e1892 (ti tt)))) (an (ti (ti tt)) (an (Za (df h1893)) (an (ti (ti tt)) tt))))))) (ti (an (show upM (.string ((a0.getD x8.toNat default).Name)) (vb true) (flatMap (mpE vb) y0) = flatMap (mpE vb) (mset y0 ((a0.getD x8.toNat default).Name) true) from (by exact Qbf vb ((a0.getD x8.toNat default).Name) true y0)) tt)))
   ·have e1894 := (show Wh (kdV (.string ((a0.getD x8.toNat default).Name))) (flatMap (mpE vb) y0) = true /\ lkM (.string ((a0.getD x8.toNat default).Name)) (flatMap (mpE vb) y0) = none from ⟨(Xc vb ((a0.getD x8.toNat default).Name) y0), (Qgw vb ((a0.getD x8.toNat default).Name) y0 (Zk h1868))⟩)
    have e1895 := (show Wh (kdV (.string ((a0.getD x8.toNat default).Name))) (flatMap (mpE vb) y0) = true from (Xc vb ((a0.getD x8.toNat default).Name) y0))
    obtain ⟨r1896, h1897, h⟩ := bs h
    have e1898 := (W9 k ((a0.getD x8.toNat default).Name) _ h1897)
    obtain ⟨r1899, h1900, h⟩ := bs h
    obtain ⟨r1901, h1902, h⟩ := bs h
    obtain ⟨r1903, h1904, h⟩ := bs h
    have e1905 := (Zm k ((a0.getD x8.toNat default).Diameter) 1 1000 _ h1904)
    obtain ⟨r1906, h1907, h⟩ := bs h
    have e1908 := (Zm k ((a0.getD x8.toNat default).Thick) 1 500 _ h1907)
    obtain ⟨r1909, h1910, h⟩ := bs h
    have e1911 := (Zm k ((a0.getD x8.toNat default).Count) 0 1000 _ h1910)
    obtain ⟨r1912, h1913, h⟩ := bs h
    have e1914 := (VC.args (Xo k (r1899, r1901, r1903, r1906, r1909) _ h1913) (Qxn r1899 r1901 r1903 r1906 r1909))
    have e1915 := (ti (ti (an e1898 (an (Qp k r1896 4 _ h1900) (ti (ti (an (Qp k (!false) 5 _ h1902) (ti (ti (an e1905 (ti (ti (an e1908 (ti (ti (an e1911 (ti (an e1914 (ti tt)))))))))))))))))))
    have e1916 := (an (an Try.func59 (an (ti (ti tt)) (an (ti (ti (ti (an e1894 (ti tt))))) (an (ti (ti (ti (an e1895 tt)))) (an e1915 tt))))) (ti tt))
    rcases ifs h with ⟨h1917, h⟩ | ⟨h1917, h⟩
    ·have h2 := ih _ _ _ h
     obtain ⟨q, hv, hq⟩ := pkR (rd := none) (P := Try.prog) (fn := Try.f66) (k := 0) (s := (X9 a0 r1748 r1753 y0 x8)) (ans := [.reg (.n :: []), .br true, .reg (.n :: .v (VV.ag (Qc (a0.getD x8.toNat default))) :: .n :: .n :: []), .reg (Qut r1896 r1899 r1901 r1903 r1906 r1909 r1912), .reg (.n :: .n :: []), .br false, .reg (.n :: .n :: [])]) (c := ⟨[(1, none), (6, none), (7, none), (8, none)], [some (flatMap (mpE vb) (mset y0 ((a0.getD x8.toNat default).Name) true)), none, none, none, none], []⟩) (e := .normal) (s1 := (X9 a0 r1748 r1753 (mset y0 ((a0.getD x8.toNat default).Name) true) (w64 (x8 + 1)))) (an (an (ti tt) (an (an (dt h1865) tt) (an (an (an h1866 (an e1867 (ti (ti tt)))) (an (ti (ti (an e1916 (ti tt)))) (an (ti (ti tt)) (an (Qm (dt h1917)) tt)))) (ti (ti tt))))) (ti (an (show upM (.string ((a0.getD x8.toNat default).Name)) (vb true) (flatMap (mpE vb) y0) = flatMap (mpE vb) (mset y0 ((a0.getD x8.toNat default).Name) true) from (by exact Qbf vb ((a0.getD x8.toNat default).Name) true y0)) tt))) (by kernel_rfl)
     cases r with
     | inl r => exact Qz pm pn hv hq h2
     | inr r =>
      exact Qz pm pn hv hq h2
    ·injection h with h; subst h
     exact Q5 (c := ⟨[(2, none)], [some (flatMap (mpE vb) (mset y0 ((a0.getD x8.toNat default).Name) true)), none, none, none, none], []⟩) (s1 := (Jo a0 r1748 r1753 (r1912, mset y0 ((a0.getD x8.toNat default).Name) true))) pm pn (ans := [.reg (.n :: []), .br true, .reg (.n :: .v (VV.ag (Qc (a0.getD x8.toNat default))) :: .n :: .n :: []), .reg (Qut r1896 r1899 r1901 r1903 r1906 r1909 r1912), .reg (.n :: .n :: []), .br true, .reg (.n :: .n :: [])]) (by kernel_rfl) (by intro e; cases e) (an (an (ti tt) (an (an (dt h1865) tt) (an (an h1866 (an e1867 (ti (ti tt)))) (an (ti (ti (an e1916 (ti tt)))) (an (ti (ti tt)) (an (Za (df h1917)) (an (ti (ti tt)) tt))))))) (ti (an (show upM (.string ((a0.getD x8.toNat default).Name)) (vb true) (flatMap (mpE vb) y0) = flatMap (mpE vb) (mset y0 ((a0.getD x8.toNat default).Name) true) from (by exact Qbf vb ((a0.getD x8.toNat default).Name) true y0)) tt)))
  ·injection h with h; subst h
   exact Q5 (c := ⟨[], [none, none, none, none, none], []⟩) (s1 := (Y3 a0 r1748 r1753 y0)) pm pn (ans := [.reg (.n :: []), .br false]) (by kernel_rfl) (by intro e; cases e) (an (an (ti tt) (an (df h1865) tt)) (ti tt))
noncomputable def Qy1 (z0 : (Bool × Int)) (z1 : Int) : List Ans := (nN 3 (.call (VV.fn 53 [VV.tp [vb z0.1] 0, VV.tp [vi z0.2] 0]) :: .n :: .n :: .inl (inlF Try.f58 [.reg (nN 3 []), .frz 2, .reg (.n :: .n :: [])]) :: .n :: .inl (inlF Try.f35 [.reg (.n :: []), .reg (nN 3 []), .unr 2, .reg (.n :: []), .br true, .reg (.v (VV.pt 4 0) :: .n :: .n :: []), .reg (.n :: .call (vi z1) :: .n :: []), .reg (.n :: .n :: []), .br true, .reg (.n :: .n :: [])]) :: .n :: []))
def Y4 (k : Nat) (a0 : (List Qj)) : Option Int :=
 (Qy k (decide ((a0.length : Int) <= 40)) 8).bind fun r1748 => ((Zj k r1748.1 r1748.2).bind fun r1753 => (if r1753 = 0 then ((Zw k a0 r1748 r1753 k ([] : List (ByteArray × Bool)) 0).bind fun r1919 => (match r1919 with | .inl r1920 => (if r1920.1 = 0 then (some 0) else (some r1920.1)) | .inr r1921 => (some 0))) else (some r1753)))
theorem Qdg (k : Nat) (a0 : (List Qj)) (r : Int) (h : Y4 k a0 = some r) : VC Try.prog 48 [VV.tr (flatMap Qc a0) a0.length] (vi r) := by
 unfold Y4 at h
 obtain ⟨r1748, h1749, h⟩ := bs h
 have e1750 := (Qp k (decide ((a0.length : Int) <= 40)) 8 _ h1749)
 have e1751 := (an (an Try.func58 (an (ti (ti (ti tt))) (an (ti (ti tt)) tt))) (ti tt))
 have e1752 := (show ((0 : Int) <= 0 /\ (0 : Int) < ((2 : Nat) : Int)) /\ VV.pt 4 (0 + (0 : Int).toNat * 1) = VV.pt 4 0 from ⟨⟨by decide, by decide⟩, rfl⟩)
 obtain ⟨r1753, h1754, h⟩ := bs h
 have e1755 := (Zf k r1748.1 r1748.2 _ h1754)
 rcases ifs h with ⟨h1756, h⟩ | ⟨h1756, h⟩
 ·have e1757 := (show ((0 : Int) <= 1 /\ (1 : Int) < ((2 : Nat) : Int)) /\ VV.pt 4 (0 + (1 : Int).toNat * 1) = VV.pt 4 1 from ⟨⟨by decide, by decide⟩, rfl⟩)
  have e1758 := (show Xt Try.prog 26 0 [VV.tr (flatMap Qc a0) a0.length] = some (VV.tr (flatMap Qc a0) a0.length) from (Ju ag26 rfl))
  obtain ⟨r1919, h1918, h⟩ := bs h
  have hph1918 := Qd2 k a0 r1748 r1753 _ _ _ _ h1918
  cases r1919 with
  | inl r1920 =>
   dsimp only at h
   have e1922 := (an (ti (an (show [] = flatMap (mpE vb) ([] : List (ByteArray × Bool)) from rfl) tt)) (VRun.loop hph1918))
   have e1923 := (an (an Try.func66 (an (ti tt) (an (an e1758 (ti (ti tt))) e1922))) (ti tt))
   rcases ifs h with ⟨h1924, h⟩ | ⟨h1924, h⟩
   ·have e1925 := (an (an Try.func35 (an (ti tt) (an (an (ti (ti (ti tt))) (an (an (ti tt) (an (an (show (decide ((0 : Int) < 2)) = true from (dt (by decide))) tt) (an (an (an e1752 (ti (ti tt))) (an (ti (an e1755 (ti tt))) (an (ti (ti tt)) (an (Qm (dt h1756)) tt)))) (ti (ti tt))))) (an (an (ti tt) (an (an (show (decide ((1 : Int) < 2)) = true from (dt (by decide))) tt) (an (an (an e1757 (ti (ti tt))) (an (ti (an e1923 (ti tt))) (an (ti (ti tt)) (an (Qm (dt h1924)) tt)))) (ti (ti tt))))) (an (ti tt) (an (show (decide ((2 : Int) < 2)) = false from (df (by decide))) tt))))) (an (ti tt) tt)))) (ti tt))
    have e1926 := (ti (ti (ti (an e1750 (ti (ti (an e1751 (ti (an e1925 (ti tt))))))))))
    injection h with h; subst h
    exact Qw pm pn Try.func48 (r0 := vi 0) (ans := [.reg (.n :: []), .reg (nN 3 []), .reg (nN 3 (.call (VV.fn 53 [VV.tp [vb r1748.1] 0, VV.tp [vi r1748.2] 0]) :: .n :: .n :: .inl (inlF Try.f58 [.reg (nN 3 []), .frz 2, .reg (.n :: .n :: [])]) :: .n :: .inl (inlF Try.f35 [.reg (.n :: []), .reg (nN 3 []), .unr 4, .reg (.n :: []), .br true, .reg (.v (VV.pt 4 0) :: .n :: .n :: []), .reg (.n :: .call (vi r1753) :: .n :: []), .reg (.n :: .n :: []), .br false, .reg (.n :: .n :: []), .reg (.n :: []), .br true, .reg (.v (VV.pt 4 1) :: .n :: .n :: []), .reg (.n :: .inl (inlF Try.f66 [.reg (.n :: []), .reg (.v (VV.tr (flatMap Qc a0) a0.length) :: .n :: .n :: []), .sub ⟨[(1, none), (6, none), (7, none), (8, none)], [some (flatMap (mpE vb) ([] : List (ByteArray × Bool))), none, none, none, none], []⟩ .ret (Jo a0 r1748 r1753 r1920)]) :: .n :: []), .reg (.n :: .n :: []), .br false, .reg (.n :: .n :: []), .reg (.n :: []), .br false, .reg (.n :: [])]) :: .n :: []))]) (fr := true) (by kernel_rfl) (an (an (ti tt) (an (ti (ti (ti tt))) (an e1926 tt))) (ti tt)) (Wv.refl _)
   ·have e1927 := (an (an Try.func35 (an (ti tt) (an (ti (ti (ti tt))) (an (an (ti tt) (an (an (show (decide ((0 : Int) < 2)) = true from (dt (by decide))) tt) (an (an (an e1752 (ti (ti tt))) (an (ti (an e1755 (ti tt))) (an (ti (ti tt)) (an (Qm (dt h1756)) tt)))) (ti (ti tt))))) (an (ti tt) (an (an (show (decide ((1 : Int) < 2)) = true from (dt (by decide))) tt) (an (an e1757 (ti (ti tt))) (an (ti (an e1923 (ti tt))) (an (ti (ti tt)) (an (Za (df h1924)) (an (ti (ti tt)) tt))))))))))) (ti tt))
    have e1928 := (ti (ti (ti (an e1750 (ti (ti (an e1751 (ti (an e1927 (ti tt))))))))))
    injection h with h; subst h
    exact Qw pm pn Try.func48 (r0 := vi r1920.1) (ans := [.reg (.n :: []), .reg (nN 3 []), .reg (nN 3 (.call (VV.fn 53 [VV.tp [vb r1748.1] 0, VV.tp [vi r1748.2] 0]) :: .n :: .n :: .inl (inlF Try.f58 [.reg (nN 3 []), .frz 2, .reg (.n :: .n :: [])]) :: .n :: .inl (inlF Try.f35 [.reg (.n :: []), .reg (nN 3 []), .unr 3, .reg (.n :: []), .br true, .reg (.v (VV.pt 4 0) :: .n :: .n :: []), .reg (.n :: .call (vi r1753) :: .n :: []), .reg (.n :: .n :: []), .br false, .reg (.n :: .n :: []), .reg (.n :: []), .br true, .reg (.v (VV.pt 4 1) :: .n :: .n :: []), .reg (.n :: .inl (inlF Try.f66 [.reg (.n :: []), .reg (.v (VV.tr (flatMap Qc a0) a0.length) :: .n :: .n :: []), .sub ⟨[(1, none), (6, none), (7, none), (8, none)], [some (flatMap (mpE vb) ([] : List (ByteArray × Bool))), none, none, none, none], []⟩ .ret (Jo a0 r1748 r1753 r1920)]) :: .n :: []), .reg (.n :: .n :: []), .br true, .reg (.n :: .n :: [])]) :: .n :: []))]) (fr := true) (by kernel_rfl) (an (an (ti tt) (an (ti (ti (ti tt))) (an e1928 tt))) (ti tt)) (Wv.refl _)
  | inr r1921 =>
   dsimp only at h
   have e1929 := (an (ti (an (show [] = flatMap (mpE vb) ([] : List (ByteArray × Bool)) from rfl) tt)) (VRun.loop hph1918))
   have e1930 := (an (an Try.func66 (an (ti tt) (an (an (an e1758 (ti (ti tt))) e1929) (an (ti tt) tt)))) (ti tt))
   have e1931 := (an (an Try.func35 (an (ti tt) (an (an (ti (ti (ti tt))) (an (an (ti tt) (an (an (show (decide ((0 : Int) < 2)) = true from (dt (by decide))) tt) (an (an (an e1752 (ti (ti tt))) (an (ti (an e1755 (ti tt))) (an (ti (ti tt)) (an (Qm (dt h1756)) tt)))) (ti (ti tt))))) (an (an (ti tt) (an (an (show (decide ((1 : Int) < 2)) = true from (dt (by decide))) tt) (an (an (an e1757 (ti (ti tt))) (an (ti (an e1930 (ti tt))) (an (ti (ti tt)) (an (show (!(decide ((0 : Int) = 0))) = false from (Qm (dt (by decide)))) tt)))) (ti (ti tt))))) (an (ti tt) (an (show (decide ((2 : Int) < 2)) = false from (df (by decide))) tt))))) (an (ti tt) tt)))) (ti tt))
   have e1932 := (ti (ti (ti (an e1750 (ti (ti (an e1751 (ti (an e1931 (ti tt))))))))))
   injection h with h; subst h
   exact Qw pm pn Try.func48 (r0 := vi 0) (ans := [.reg (.n :: []), .reg (nN 3 []), .reg (nN 3 (.call (VV.fn 53 [VV.tp [vb r1748.1] 0, VV.tp [vi r1748.2] 0]) :: .n :: .n :: .inl (inlF Try.f58 [.reg (nN 3 []), .frz 2, .reg (.n :: .n :: [])]) :: .n :: .inl (inlF Try.f35 [.reg (.n :: []), .reg (nN 3 []), .unr 4, .reg (.n :: []), .br true, .reg (.v (VV.pt 4 0) :: .n :: .n :: []), .reg (.n :: .call (vi r1753) :: .n :: []), .reg (.n :: .n :: []), .br false, .reg (.n :: .n :: []), .reg (.n :: []), .br true, .reg (.v (VV.pt 4 1) :: .n :: .n :: []), .reg (.n :: .inl (inlF Try.f66 [.reg (.n :: []), .reg (.v (VV.tr (flatMap Qc a0) a0.length) :: .n :: .n :: []), .sub ⟨[(1, none), (6, none), (7, none), (8, none)], [some (flatMap (mpE vb) ([] : List (ByteArray × Bool))), none, none, none, none], []⟩ (.exit 0) (Y3 a0 r1748 r1753 r1921), .reg (.n :: [])]) :: .n :: []), .reg (.n :: .n :: []), .br false, .reg (.n :: .n :: []), .reg (.n :: []), .br false, .reg (.n :: [])]) :: .n :: []))]) (fr := true) (by kernel_rfl) (an (an (ti tt) (an (ti (ti (ti tt))) (an e1932 tt))) (ti tt)) (Wv.refl _)
 ·have e1933 := (an (an Try.func35 (an (ti tt) (an (ti (ti (ti tt))) (an (ti tt) (an (an (show (decide ((0 : Int) < 2)) = true from (dt (by decide))) tt) (an (an e1752 (ti (ti tt))) (an (ti (an e1755 (ti tt))) (an (ti (ti tt)) (an (Za (df h1756)) (an (ti (ti tt)) tt)))))))))) (ti tt))
  have e1934 := (ti (ti (ti (an e1750 (ti (ti (an e1751 (ti (an e1933 (ti tt))))))))))
  injection h with h; subst h
  exact Qw pm pn Try.func48 (r0 := vi r1753) (ans := [.reg (.n :: []), .reg (nN 3 []), .reg (Qy1 r1748 r1753)]) (fr := true) (by kernel_rfl) (an (an (ti tt) (an (ti (ti (ti tt))) (an e1934 tt))) (ti tt)) (Wv.refl _)
end Go.Proofs.Ytmaegladkjcmdaa.Vg

/- Written by a program out of the program: what Go functions do, as plain functions, and their contracts. -/
import Derived.Test.YtclabanknlmneaaG1
namespace Go.Proofs.Ytclabanknlmneaa.Vg
set_option maxRecDepth 100000
set_option maxHeartbeats 4000000
set_option linter.unusedVariables false
set_option linter.unusedSimpArgs false
open Go Go.Proofs.Ytclabanknlmneaa.Ev Go.Proofs.Ytclabanknlmneaa.Vv
theorem eqok33 : EqOK Go.Proofs.Try.prog 33 [some (.i .i64), some (.i .i64)] := eqOK_of (by kernel_rfl) (by kernel_rfl) (eqT_struct Go.Proofs.Try.underlying33 (by kernel_rfl) (by kernel_rfl) (by kernel_rfl) (.cons (by decide +kernel) rfl (eqT_int Go.Proofs.Try.underlying3 (by kernel_rfl) (by kernel_rfl)) (.cons (by decide +kernel) rfl (eqT_int Go.Proofs.Try.underlying3 (by kernel_rfl) (by kernel_rfl)) .nil)))
def nawake (k : Nat) : Option Bool := some true
theorem nawake_ok (k : Nat) (r : Bool) (h : nawake k = some r) : VC Go.Proofs.Try.prog 12 [] (vb r) := by
  injection h with h; subst h
  exact vc_awake
def nspeculumref03_Mass (k : Nat) (a0 : SGlass) : Option SRange :=
  (nspeculumref03_Volume k a0).bind fun r1351 => ((nspeculumref03_Rounded k (w64 (a0.Density * r1351)) 1000000000).bind fun r1353 => (some r1353))
theorem nspeculumref03_Mass_ok (k : Nat) (a0 : SGlass) (r : SRange) (h : nspeculumref03_Mass k a0 = some r) : VC Go.Proofs.Try.prog 21 [VV.ag (c_SGlass a0)] (VV.ag (c_SRange r)) := by
 unfold nspeculumref03_Mass at h
 obtain ⟨r1351, h1352, h⟩ := bs h
 obtain ⟨r1353, h1354, h⟩ := bs h
 have e1355 := (nspeculumref03_Rounded_ok k (w64 (a0.Density * r1351)) 1000000000 _ h1354)
 have e1356 := (ti (ti (ti (an (nspeculumref03_Volume_ok k a0 _ h1352) (ti (an e1355 (ti trivial)))))))
 injection h with h; subst h
 exact fun_ok pm pn Go.Proofs.Try.func21 (r0 := VV.ag (c_SRange r1353)) (ans := [.reg (.n :: .n :: []), .reg (nN 3 (.call (vi r1351) :: .n :: .call (VV.ag (c_SRange r1353)) :: .n :: []))]) (fr := true) (by kernel_rfl) (an (an (ti (ti trivial)) (an e1356 trivial)) (an (ti (ti (ti trivial))) trivial)) (Wv.refl _)
def nspeculumref03_Moment_l0_0_h (a0 : SGlass) (x3 : Int) (x4 : Int) : VS := ⟨mkA [(1, VV.pt 0 0), (3, vi x3), (4, vi x4)], [some ⟨true, 1, c_SGlass a0⟩], .nil⟩
def nspeculumref03_Moment_l0_0_e0 (a0 : SGlass) (r : Int) : VS := ⟨mkA [(1, VV.pt 0 0), (3, vi r)], [some ⟨true, 1, c_SGlass a0⟩], .nil⟩
def nspeculumref03_Moment_l0_0 (k : Nat) (a0 : SGlass) : Nat → Int → Int → Option (Int)
  | 0, _, _ => none
  | fuel + 1, x3, x4 => if x4 < (a0.Parts.length : Int) then (if 0 ≤ x4 ∧ x4 < (a0.Parts.length : Int) then ((nspeculumref03_partVolume k (a0.Parts.getD x4.toNat default)).bind fun r1488 => ((nspeculumref03_signed k (w64 (r1488 * (w64 (((a0.Parts.getD x4.toNat default).From) + ((a0.Parts.getD x4.toNat default).To))))) ((a0.Parts.getD x4.toNat default).Cut)).bind fun r1491 => (nspeculumref03_Moment_l0_0 k a0 fuel (w64 (x3 + r1491)) (w64 (x4 + 1))))) else none) else (some x3)
theorem nspeculumref03_Moment_l0_0_ok (k : Nat) (a0 : SGlass) : ∀ (fuel : Nat) (x3 : Int) (x4 : Int) (r : Int), nspeculumref03_Moment_l0_0 k a0 fuel x3 x4 = some r → (VLoop none Go.Proofs.Try.prog (szF Go.Proofs.Try.f66) (bodyOf Go.Proofs.Try.f66 0) (nspeculumref03_Moment_l0_0_h a0 x3 x4) (.exit 0) (nspeculumref03_Moment_l0_0_e0 a0 r)) := by
 intro fuel
 induction fuel with
 | zero => intro x3 x4 r h; rw [nspeculumref03_Moment_l0_0.eq_1] at h; cases h
 | succ fuel ih =>
  intro x3 x4 r h
  rw [nspeculumref03_Moment_l0_0.eq_2] at h
  rcases ifs h with ⟨h1484, h⟩ | ⟨h1484, h⟩
  ·obtain ⟨h1485, h⟩ := ifn h
   have e1486 := (show loadL Go.Proofs.Try.prog 41 (x4.toNat * 6) (List.flatMap c_SGlassPart a0.Parts) = some (VV.ag (c_SGlassPart (a0.Parts.getD x4.toNat default))) from ld_whole ag41 c_SGlassPart 6 sz41 len_c_SGlassPart a0.Parts default h1485 (by omega))
   have e1487 := (ti (ti (ti (an h1485 (an e1486 (ti (ti trivial)))))))
   obtain ⟨r1488, h1489, h⟩ := bs h
   have e1490 := (nspeculumref03_partVolume_ok k (a0.Parts.getD x4.toNat default) _ h1489)
   obtain ⟨r1491, h1492, h⟩ := bs h
   have e1493 := (nspeculumref03_signed_ok k (w64 (r1488 * (w64 (((a0.Parts.getD x4.toNat default).From) + ((a0.Parts.getD x4.toNat default).To))))) ((a0.Parts.getD x4.toNat default).Cut) _ h1492)
   have e1494 := (ti (ti (an e1490 (ti (ti (ti (ti (ti (ti (ti (ti (an e1493 (ti (ti trivial))))))))))))))
   have h2 := ih _ _ _ h
   obtain ⟨q, hv, hq⟩ := pkR (rd := none) (P := Go.Proofs.Try.prog) (fn := Go.Proofs.Try.f66) (k := 0) (s := (nspeculumref03_Moment_l0_0_h a0 x3 x4)) (ans := [.reg (nN 5 []), .br true, .reg (nN 4 (.v (VV.ag (c_SGlassPart (a0.Parts.getD x4.toNat default))) :: .n :: .n :: [])), .reg (.n :: .n :: .call (vi r1488) :: nN 8 (.call (vi r1491) :: .n :: .n :: [])), .reg (nN 3 [])]) (c := ⟨[(1, none), (3, none), (4, none)], [none], []⟩) (e := .normal) (s1 := (nspeculumref03_Moment_l0_0_h a0 (w64 (x3 + r1491)) (w64 (x4 + 1)))) (an (an (an (ti (ti (ti (ti (ti trivial))))) (an (decide_eq_true h1484) trivial)) (an (an e1487 e1494) (ti (ti (ti trivial))))) (ti trivial)) (by kernel_rfl)
   exact round_next pm pn hv hq h2
  ·injection h with h; subst h
   exact round_stop (c := ⟨[(1, none), (3, none)], [none], []⟩) (s1 := (nspeculumref03_Moment_l0_0_e0 a0 x3)) pm pn (ans := [.reg (nN 5 []), .br false]) (by kernel_rfl) (by intro e; cases e) (an (an (ti (ti (ti (ti (ti trivial))))) (an (decide_eq_false h1484) trivial)) (ti trivial))
def nspeculumref03_Moment_l1_0_h (a0 : SGlass) (x3 : Int) (x6 : Int) : VS := ⟨mkA [(1, VV.pt 0 0), (3, vi x3), (6, vi x6)], [some ⟨true, 1, c_SGlass a0⟩], .nil⟩
def nspeculumref03_Moment_l1_0_e0 (a0 : SGlass) (r : Int) : VS := ⟨mkA [(3, vi r)], [], .nil⟩
def nspeculumref03_Moment_l1_0 (k : Nat) (a0 : SGlass) : Nat → Int → Int → Option (Int)
  | 0, _, _ => none
  | fuel + 1, x3, x6 => if x6 < (a0.Caps.length : Int) then (if 0 ≤ x6 ∧ x6 < (a0.Caps.length : Int) then (if (a0.Caps.getD x6.toNat default).Up = true then ((nspeculumref03_capVolume k (a0.Caps.getD x6.toNat default)).bind fun r1544 => ((nspeculumref03_signed k (w64 ((w64 ((w64 (2 * r1544)) * ((a0.Caps.getD x6.toNat default).At))) + (w64 ((w64 ((w64 ((w64 (2 * ((a0.Caps.getD x6.toNat default).Height))) * ((a0.Caps.getD x6.toNat default).Height))) * ((a0.Caps.getD x6.toNat default).Height))) * (w64 ((w64 (8 * ((a0.Caps.getD x6.toNat default).Radius))) - (w64 (3 * ((a0.Caps.getD x6.toNat default).Height))))))))) ((a0.Caps.getD x6.toNat default).Cut)).bind fun r1547 => (nspeculumref03_Moment_l1_0 k a0 fuel (w64 (x3 + r1547)) (w64 (x6 + 1))))) else ((nspeculumref03_capVolume k (a0.Caps.getD x6.toNat default)).bind fun r1551 => ((nspeculumref03_signed k (w64 ((w64 ((w64 (2 * r1551)) * ((a0.Caps.getD x6.toNat default).At))) + (w64 (0 - (w64 ((w64 ((w64 ((w64 (2 * ((a0.Caps.getD x6.toNat default).Height))) * ((a0.Caps.getD x6.toNat default).Height))) * ((a0.Caps.getD x6.toNat default).Height))) * (w64 ((w64 (8 * ((a0.Caps.getD x6.toNat default).Radius))) - (w64 (3 * ((a0.Caps.getD x6.toNat default).Height))))))))))) ((a0.Caps.getD x6.toNat default).Cut)).bind fun r1554 => (nspeculumref03_Moment_l1_0 k a0 fuel (w64 (x3 + r1554)) (w64 (x6 + 1)))))) else none) else (some x3)
theorem nspeculumref03_Moment_l1_0_ok (k : Nat) (a0 : SGlass) : ∀ (fuel : Nat) (x3 : Int) (x6 : Int) (r : Int), nspeculumref03_Moment_l1_0 k a0 fuel x3 x6 = some r → (VLoop none Go.Proofs.Try.prog (szF Go.Proofs.Try.f66) (bodyOf Go.Proofs.Try.f66 1) (nspeculumref03_Moment_l1_0_h a0 x3 x6) (.exit 2) (nspeculumref03_Moment_l1_0_e0 a0 r)) := by
 intro fuel
 induction fuel with
 | zero => intro x3 x6 r h; rw [nspeculumref03_Moment_l1_0.eq_1] at h; cases h
 | succ fuel ih =>
  intro x3 x6 r h
  rw [nspeculumref03_Moment_l1_0.eq_2] at h
  rcases ifs h with ⟨h1538, h⟩ | ⟨h1538, h⟩
  ·obtain ⟨h1539, h⟩ := ifn h
   have e1540 := (show loadL Go.Proofs.Try.prog 89 (x6.toNat * 5) (List.flatMap c_SGlassCap a0.Caps) = some (VV.ag (c_SGlassCap (a0.Caps.getD x6.toNat default))) from ld_whole ag89 c_SGlassCap 5 sz89 len_c_SGlassCap a0.Caps default h1539 (by omega))
   have e1541 := (ti (ti (ti (an h1539 (an e1540 (ti (ti trivial)))))))
   have e1542 := (ti (ti (ti (ti (ti (ti (ti (ti (ti (ti (ti (ti (ti (ti (ti (ti (ti (ti trivial))))))))))))))))))
   rcases ifs h with ⟨h1543, h⟩ | ⟨h1543, h⟩
   ·obtain ⟨r1544, h1545, h⟩ := bs h
    have e1546 := (nspeculumref03_capVolume_ok k (a0.Caps.getD x6.toNat default) _ h1545)
    obtain ⟨r1547, h1548, h⟩ := bs h
    have e1549 := (nspeculumref03_signed_ok k (w64 ((w64 ((w64 (2 * r1544)) * ((a0.Caps.getD x6.toNat default).At))) + (w64 ((w64 ((w64 ((w64 (2 * ((a0.Caps.getD x6.toNat default).Height))) * ((a0.Caps.getD x6.toNat default).Height))) * ((a0.Caps.getD x6.toNat default).Height))) * (w64 ((w64 (8 * ((a0.Caps.getD x6.toNat default).Radius))) - (w64 (3 * ((a0.Caps.getD x6.toNat default).Height))))))))) ((a0.Caps.getD x6.toNat default).Cut) _ h1548)
    have e1550 := (ti (ti (an e1546 (ti (ti (ti (ti (ti (ti (ti (ti (an e1549 (ti (ti trivial))))))))))))))
    have h2 := ih _ _ _ h
    obtain ⟨q, hv, hq⟩ := pkR (rd := none) (P := Go.Proofs.Try.prog) (fn := Go.Proofs.Try.f66) (k := 1) (s := (nspeculumref03_Moment_l1_0_h a0 x3 x6)) (ans := [.reg (nN 5 []), .br true, .reg (nN 4 (.v (VV.ag (c_SGlassCap (a0.Caps.getD x6.toNat default))) :: .n :: .n :: [])), .reg (nN 18 []), .reg (nN 3 []), .br false, .reg (.n :: .n :: .call (vi r1544) :: nN 8 (.call (vi r1547) :: .n :: .n :: [])), .reg (nN 3 [])]) (c := ⟨[(1, none), (3, none), (6, none)], [none], []⟩) (e := .normal) (s1 := (nspeculumref03_Moment_l1_0_h a0 (w64 (x3 + r1547)) (w64 (x6 + 1)))) (an (an (an (ti (ti (ti (ti (ti trivial))))) (an (decide_eq_true h1538) trivial)) (an (an e1541 (an e1542 (an (an (ti (ti (ti trivial))) (an (not_f h1543) trivial)) e1550))) (ti (ti (ti trivial))))) (ti trivial)) (by kernel_rfl)
    exact round_next pm pn hv hq h2
   ·obtain ⟨r1551, h1552, h⟩ := bs h
    have e1553 := (nspeculumref03_capVolume_ok k (a0.Caps.getD x6.toNat default) _ h1552)
    obtain ⟨r1554, h1555, h⟩ := bs h
    have e1556 := (nspeculumref03_signed_ok k (w64 ((w64 ((w64 (2 * r1551)) * ((a0.Caps.getD x6.toNat default).At))) + (w64 (0 - (w64 ((w64 ((w64 ((w64 (2 * ((a0.Caps.getD x6.toNat default).Height))) * ((a0.Caps.getD x6.toNat default).Height))) * ((a0.Caps.getD x6.toNat default).Height))) * (w64 ((w64 (8 * ((a0.Caps.getD x6.toNat default).Radius))) - (w64 (3 * ((a0.Caps.getD x6.toNat default).Height))))))))))) ((a0.Caps.getD x6.toNat default).Cut) _ h1555)
    have e1557 := (ti (ti (an e1553 (ti (ti (ti (ti (ti (ti (ti (ti (an e1556 (ti (ti trivial))))))))))))))
    have h2 := ih _ _ _ h
    obtain ⟨q, hv, hq⟩ := pkR (rd := none) (P := Go.Proofs.Try.prog) (fn := Go.Proofs.Try.f66) (k := 1) (s := (nspeculumref03_Moment_l1_0_h a0 x3 x6)) (ans := [.reg (nN 5 []), .br true, .reg (nN 4 (.v (VV.ag (c_SGlassCap (a0.Caps.getD x6.toNat default))) :: .n :: .n :: [])), .reg (nN 18 []), .reg (nN 3 []), .br true, .reg (nN 3 []), .reg (.n :: .n :: .call (vi r1551) :: nN 8 (.call (vi r1554) :: .n :: .n :: [])), .reg (nN 3 [])]) (c := ⟨[(1, none), (3, none), (6, none)], [none], []⟩) (e := .normal) (s1 := (nspeculumref03_Moment_l1_0_h a0 (w64 (x3 + r1554)) (w64 (x6 + 1)))) (an (an (an (ti (ti (ti (ti (ti trivial))))) (an (decide_eq_true h1538) trivial)) (an (an e1541 (an e1542 (an (an (ti (ti (ti trivial))) (an (not_t (bool_f h1543)) (ti (ti (ti trivial))))) e1557))) (ti (ti (ti trivial))))) (ti trivial)) (by kernel_rfl)
    exact round_next pm pn hv hq h2
  ·injection h with h; subst h
   exact round_stop (c := ⟨[(3, none)], [], []⟩) (s1 := (nspeculumref03_Moment_l1_0_e0 a0 x3)) pm pn (ans := [.reg (nN 5 []), .br false]) (by kernel_rfl) (by intro e; cases e) (an (an (ti (ti (ti (ti (ti trivial))))) (an (decide_eq_false h1538) trivial)) (ti trivial))
def nspeculumref03_Moment (k : Nat) (a0 : SGlass) : Option Int :=
  (nspeculumref03_Moment_l0_0 k a0 k 0 0).bind fun r1496 => ((nspeculumref03_Moment_l1_0 k a0 k r1496 0).bind fun r1559 => (some r1559))
theorem nspeculumref03_Moment_ok (k : Nat) (a0 : SGlass) (r : Int) (h : nspeculumref03_Moment k a0 = some r) : VC Go.Proofs.Try.prog 66 [VV.ag (c_SGlass a0)] (vi r) := by
 unfold nspeculumref03_Moment at h
 obtain ⟨r1496, h1495, h⟩ := bs h
 have hph1495 := nspeculumref03_Moment_l0_0_ok k a0 _ _ _ _ h1495
 have e1497 := (an (ti trivial) (VRun.loop hph1495))
 obtain ⟨r1559, h1558, h⟩ := bs h
 have hph1558 := nspeculumref03_Moment_l1_0_ok k a0 _ _ _ _ h1558
 have e1560 := (an (ti trivial) (VRun.loop hph1558))
 injection h with h; subst h
 exact fun_ok pm pn Go.Proofs.Try.func66 (r0 := vi r1559) (ans := [.reg (.n :: .n :: []), .reg (.n :: []), .reg (.n :: []), .sub ⟨[(1, none), (3, none), (4, none)], [none], []⟩ (.exit 0) (nspeculumref03_Moment_l0_0_e0 a0 r1496), .reg (.n :: []), .sub ⟨[(1, none), (3, none), (6, none)], [none], []⟩ (.exit 2) (nspeculumref03_Moment_l1_0_e0 a0 r1559), .reg (.n :: .n :: [])]) (fr := true) (by kernel_rfl) (an (an (ti (ti trivial)) (an (ti trivial) (an (an (ti trivial) e1497) (an (an (ti trivial) e1560) (an (ti (ti trivial)) trivial))))) (ti trivial)) (Wv.refl _)
def arG2_0 (z0 : Int) (z1 : Int) (z2 : SRange) : List Ans := (.n :: .call (vi z0) :: .n :: .n :: .call (vi z1) :: .n :: .call (VV.ag (c_SRange z2)) :: .n :: [])
def nspeculumref03_Centre (k : Nat) (a0 : SGlass) : Option SRange :=
  (nspeculumref03_Moment k a0).bind fun r1569 => ((nspeculumref03_Volume k a0).bind fun r1571 => ((nspeculumref03_Rounded k (w64 (1000 * r1569)) (w64 (2 * r1571))).bind fun r1573 => (some r1573)))
theorem nspeculumref03_Centre_ok (k : Nat) (a0 : SGlass) (r : SRange) (h : nspeculumref03_Centre k a0 = some r) : VC Go.Proofs.Try.prog 22 [VV.ag (c_SGlass a0)] (VV.ag (c_SRange r)) := by
 unfold nspeculumref03_Centre at h
 obtain ⟨r1569, h1570, h⟩ := bs h
 obtain ⟨r1571, h1572, h⟩ := bs h
 obtain ⟨r1573, h1574, h⟩ := bs h
 have e1575 := (nspeculumref03_Rounded_ok k (w64 (1000 * r1569)) (w64 (2 * r1571)) _ h1574)
 have e1576 := (ti (an (nspeculumref03_Moment_ok k a0 _ h1570) (ti (ti (an (nspeculumref03_Volume_ok k a0 _ h1572) (ti (an e1575 (ti trivial))))))))
 injection h with h; subst h
 exact fun_ok pm pn Go.Proofs.Try.func22 (r0 := VV.ag (c_SRange r1573)) (ans := [.reg (.n :: .n :: []), .reg (arG2_0 r1569 r1571 r1573)]) (fr := true) (by kernel_rfl) (an (an (ti (ti trivial)) (an e1576 trivial)) (an (ti (ti (ti trivial))) trivial)) (Wv.refl _)
def arG2_1 (z0 : SGlass) (z1 : (Int × Int)) : List Ans := (.n :: .call (VV.ag (g_SGlass z0)) :: .call (VV.tu [vi z1.1, vi z1.2]) :: nN 5 [])
def arG2_2 (z0 : SGlass) (z1 : (SRange × Int)) : List Ans := (.n :: .call (VV.ag (g_SGlass z0)) :: .call (VV.tu [VV.ag (c_SRange z1.1), vi z1.2]) :: nN 6 [])
def arG2_3 (z0 : Int) (z1 : SRange) (z2 : SRange) : List Ans := (nN 5 (.call (vi z0) :: .n :: .b true :: nN 3 (.b true :: nN 3 (.call (VV.ag (c_SRange z1)) :: .n :: .b true :: nN 3 (.b true :: nN 3 (.call (VV.ag (c_SRange z2)) :: .n :: .b true :: .n :: []))))))
def arG2_4 (z0 : Int) (z1 : SRange) : List Ans := (nN 5 (.call (vi z0) :: .n :: .b true :: nN 3 (.b true :: nN 3 (.call (VV.ag (c_SRange z1)) :: .n :: .b true :: nN 3 (.b true :: .n :: nS 4 (.b false :: .n :: []))))))
def arG2_5 (z0 : Int) (z1 : SRange) : List Ans := (nN 5 (.call (vi z0) :: .n :: .b true :: nN 3 (.b true :: nN 3 (.call (VV.ag (c_SRange z1)) :: .n :: .b true :: .n :: .skip :: .skip :: .b false :: .n :: nS 4 (.b false :: .n :: [])))))
def arG2_6 (z0 : Int) : List Ans := (nN 5 (.call (vi z0) :: .n :: .b true :: nN 3 (.b true :: .n :: nS 4 (.b false :: .n :: .skip :: .skip :: .b false :: .n :: nS 4 (.b false :: .n :: [])))))
def arG2_7 (z0 : Int) : List Ans := (nN 5 (.call (vi z0) :: .n :: .b true :: .n :: .skip :: .skip :: .b false :: .n :: nS 4 (.b false :: .n :: .skip :: .skip :: .b false :: .n :: nS 4 (.b false :: .n :: []))))
def arG2_8  : List Ans := (nN 3 (nS 4 (.b false :: .n :: .skip :: .skip :: .b false :: .n :: nS 4 (.b false :: .n :: .skip :: .skip :: .b false :: .n :: nS 4 (.b false :: .n :: [])))))
def arG2_9  : List Ans := (nN 7 (.b true :: nN 4 (.b true :: nN 3 (.b true :: nN 4 (.b true :: nN 4 (.b true :: .n :: []))))))
def arG2_10  : List Ans := (nN 7 (.b true :: nN 4 (.b true :: nN 3 (.b true :: nN 4 (.b true :: .n :: nS 3 (.b false :: .n :: []))))))
def arG2_11  : List Ans := (nN 7 (.b true :: nN 4 (.b true :: nN 3 (.b true :: .n :: nS 3 (.b false :: .n :: nS 3 (.b false :: .n :: []))))))
def arG2_12  : List Ans := (nN 7 (.b true :: nN 4 (.b true :: .n :: .skip :: .skip :: .b false :: .n :: nS 3 (.b false :: .n :: nS 3 (.b false :: .n :: [])))))
def arG2_13  : List Ans := (nN 7 (.b true :: .n :: nS 3 (.b false :: .n :: .skip :: .skip :: .b false :: .n :: nS 3 (.b false :: .n :: nS 3 (.b false :: .n :: [])))))
def arG2_14  : List Ans := (nN 4 (nS 3 (.b false :: .n :: nS 3 (.b false :: .n :: .skip :: .skip :: .b false :: .n :: nS 3 (.b false :: .n :: nS 3 (.b false :: .n :: []))))))
def nspeculumlaw03_BlankGlasses (k : Nat) (a0 : SGlass) : Option Bool :=
  (nawake k).bind fun r1600 => (if r1600 = true then ((nspeculumlaw03_Few k a0).bind fun r1603 => (if r1603 = true then ((nspeculumlaw03_copied k a0).bind fun r1607 => ((nblank_Volume k r1607).bind fun r1610 => ((nblank_Mass k r1607).bind fun r1615 => ((nblank_Centre k r1607).bind fun r1620 => ((nspeculumref03_CheckGlass k a0).bind fun r1623 => ((nblank_CheckGlass k r1607).bind fun r1628 => (if r1628 = r1623 then (if r1623 = 0 then (if r1610.2 = 0 then ((nspeculumref03_Volume k a0).bind fun r1634 => (if r1610.1 = r1634 then (if r1615.2 = 0 then ((nspeculumref03_Mass k a0).bind fun r1639 => (if ((r1615.1.Lo : Int) == r1639.Lo && ((r1615.1.Hi : Int) == r1639.Hi && true)) = true then (if r1620.2 = 0 then ((nspeculumref03_Centre k a0).bind fun r1645 => (some ((r1620.1.Lo : Int) == r1645.Lo && ((r1620.1.Hi : Int) == r1645.Hi && true)))) else (some false)) else (some false))) else (some false)) else (some false))) else (some false)) else (if r1610.2 = r1623 then (if r1615.2 = r1623 then (if r1620.2 = r1623 then (if r1610.1 = 0 then (if ((r1615.1.Lo : Int) == 0 && ((r1615.1.Hi : Int) == 0 && true)) = true then (some ((r1620.1.Lo : Int) == 0 && ((r1620.1.Hi : Int) == 0 && true))) else (some false)) else (some false)) else (some false)) else (some false)) else (some false))) else (some false)))))))) else (some true))) else (some false))
theorem nspeculumlaw03_BlankGlasses_ok (k : Nat) (a0 : SGlass) (r : Bool) (h : nspeculumlaw03_BlankGlasses k a0 = some r) : VC Go.Proofs.Try.prog 3 [VV.ag (c_SGlass a0)] (vb r) := by
 unfold nspeculumlaw03_BlankGlasses at h
 obtain ⟨r1600, h1601, h⟩ := bs h
 rcases ifs h with ⟨h1602, h⟩ | ⟨h1602, h⟩
 ·obtain ⟨r1603, h1604, h⟩ := bs h
  have e1605 := (ti (an (nspeculumlaw03_Few_ok k a0 _ h1604) (ti trivial)))
  rcases ifs h with ⟨h1606, h⟩ | ⟨h1606, h⟩
  ·obtain ⟨r1607, h1608, h⟩ := bs h
   have e1609 := (show VC Go.Proofs.Try.prog 15 [VV.ag (c_SGlass a0)] (VV.ag (g_SGlass r1607)) from (VC.weak (nspeculumlaw03_copied_ok k a0 _ h1608) (Wv.agL (.cons (Wv.refl _) (.cons (Wv.refl _) (.cons (Wv.fw rfl rfl) (.cons (Wv.fw rfl rfl) .nil)))))))
   obtain ⟨r1610, h1611, h⟩ := bs h
   have e1612 := (ti (an e1609 (an (nblank_Volume_ok k r1607 _ h1611) (ti (ti (ti (ti (ti trivial))))))))
   have e1614 := (show VC Go.Proofs.Try.prog 15 [VV.ag (c_SGlass a0)] (VV.ag (g_SGlass r1607)) from (VC.weak (nspeculumlaw03_copied_ok k a0 _ h1608) (Wv.agL (.cons (Wv.refl _) (.cons (Wv.refl _) (.cons (Wv.fw rfl rfl) (.cons (Wv.fw rfl rfl) .nil)))))))
   obtain ⟨r1615, h1616, h⟩ := bs h
   have e1617 := (ti (an e1614 (an (nblank_Mass_ok k r1607 _ h1616) (ti (ti (ti (ti (ti (ti trivial)))))))))
   have e1619 := (show VC Go.Proofs.Try.prog 15 [VV.ag (c_SGlass a0)] (VV.ag (g_SGlass r1607)) from (VC.weak (nspeculumlaw03_copied_ok k a0 _ h1608) (Wv.agL (.cons (Wv.refl _) (.cons (Wv.refl _) (.cons (Wv.fw rfl rfl) (.cons (Wv.fw rfl rfl) .nil)))))))
   obtain ⟨r1620, h1621, h⟩ := bs h
   have e1622 := (ti (an e1619 (an (nblank_Centre_ok k r1607 _ h1621) (ti (ti (ti (ti (ti (ti trivial)))))))))
   obtain ⟨r1623, h1624, h⟩ := bs h
   have e1625 := (nspeculumref03_CheckGlass_ok k a0 _ h1624)
   have e1627 := (show VC Go.Proofs.Try.prog 15 [VV.ag (c_SGlass a0)] (VV.ag (g_SGlass r1607)) from (VC.weak (nspeculumlaw03_copied_ok k a0 _ h1608) (Wv.agL (.cons (Wv.refl _) (.cons (Wv.refl _) (.cons (Wv.fw rfl rfl) (.cons (Wv.fw rfl rfl) .nil)))))))
   obtain ⟨r1628, h1629, h⟩ := bs h
   have e1630 := (ti (an e1627 (an (nblank_CheckGlass_ok k r1607 _ h1629) (ti (ti trivial)))))
   rcases ifs h with ⟨h1631, h⟩ | ⟨h1631, h⟩
   ·rcases ifs h with ⟨h1632, h⟩ | ⟨h1632, h⟩
    ·rcases ifs h with ⟨h1633, h⟩ | ⟨h1633, h⟩
     ·obtain ⟨r1634, h1635, h⟩ := bs h
      have e1636 := (an (decide_eq_true h1633) (nspeculumref03_Volume_ok k a0 _ h1635))
      rcases ifs h with ⟨h1637, h⟩ | ⟨h1637, h⟩
      ·rcases ifs h with ⟨h1638, h⟩ | ⟨h1638, h⟩
       ·obtain ⟨r1639, h1640, h⟩ := bs h
        have e1641 := (an (decide_eq_true h1638) (nspeculumref03_Mass_ok k a0 _ h1640))
        have e1642 := (an (decide_eq_true h1638) (show List.map kdV [Value.int .i64 r1615.1.Lo, Value.int .i64 r1615.1.Hi] = List.map kdV [Value.int .i64 r1639.Lo, Value.int .i64 r1639.Hi] ∧ EqOK Go.Proofs.Try.prog 33 (List.map kdV [Value.int .i64 r1639.Lo, Value.int .i64 r1639.Hi]) from ⟨rfl, eqok33⟩))
        rcases ifs h with ⟨h1643, h⟩ | ⟨h1643, h⟩
        ·rcases ifs h with ⟨h1644, h⟩ | ⟨h1644, h⟩
         ·obtain ⟨r1645, h1646, h⟩ := bs h
          have e1647 := (an (decide_eq_true h1644) (nspeculumref03_Centre_ok k a0 _ h1646))
          have e1648 := (an (decide_eq_true h1644) (show List.map kdV [Value.int .i64 r1620.1.Lo, Value.int .i64 r1620.1.Hi] = List.map kdV [Value.int .i64 r1645.Lo, Value.int .i64 r1645.Hi] ∧ EqOK Go.Proofs.Try.prog 33 (List.map kdV [Value.int .i64 r1645.Lo, Value.int .i64 r1645.Hi]) from ⟨rfl, eqok33⟩))
          have e1649 := (ti (ti (ti (an (an (decide_eq_true h1633) trivial) (an (an (decide_eq_true h1633) trivial) (an e1636 (an (an (decide_eq_true h1633) trivial) (an (decide_eq_true h1633) (ti (an (an (decide_eq_true h1637) trivial) (an (an (decide_eq_true h1637) trivial) (an (decide_eq_true h1637) (ti (an (an (decide_eq_true h1638) trivial) (an (an (decide_eq_true h1638) trivial) (an e1641 (an e1642 (an (decide_eq_true h1638) (ti (an (an h1643 trivial) (an (an h1643 trivial) (an h1643 (ti (an (an (decide_eq_true h1644) trivial) (an (an (decide_eq_true h1644) trivial) (an e1647 (an e1648 (an (decide_eq_true h1644) (ti trivial)))))))))))))))))))))))))))))
          injection h with h; subst h
          exact fun_ok pm pn Go.Proofs.Try.func3 (r0 := vb ((r1620.1.Lo : Int) == r1645.Lo && ((r1620.1.Hi : Int) == r1645.Hi && true))) (ans := [.reg (.n :: .n :: []), .reg (.call (vb r1600) :: .n :: []), .br false, .reg (.n :: .call (vb r1603) :: .n :: []), .br false, .reg (arG2_1 r1607 r1610), .reg (arG2_2 r1607 r1615), .reg (arG2_2 r1607 r1620), .reg (.n :: .call (vi r1623) :: .n :: []), .reg (.n :: .call (VV.ag (g_SGlass r1607)) :: .call (vi r1628) :: .n :: .n :: []), .br false, .reg (.n :: .n :: []), .br false, .reg (arG2_3 r1634 r1639 r1645)]) (fr := true) (by kernel_rfl) (an (an (ti (ti trivial)) (an (an (an (nawake_ok k _ h1601) (ti trivial)) (an (not_f h1602) trivial)) (an (an e1605 (an (not_f h1606) trivial)) (an e1612 (an e1617 (an e1622 (an (ti (an e1625 (ti trivial))) (an (an e1630 (an (not_f (decide_eq_true h1631)) trivial)) (an (an (ti (ti trivial)) (an (not_f (decide_eq_true h1632)) trivial)) (an e1649 trivial)))))))))) (ti trivial)) (Wv.refl _)
         ·have e1650 := (ti (ti (ti (an (an (decide_eq_true h1633) trivial) (an (an (decide_eq_true h1633) trivial) (an e1636 (an (an (decide_eq_true h1633) trivial) (an (decide_eq_true h1633) (ti (an (an (decide_eq_true h1637) trivial) (an (an (decide_eq_true h1637) trivial) (an (decide_eq_true h1637) (ti (an (an (decide_eq_true h1638) trivial) (an (an (decide_eq_true h1638) trivial) (an e1641 (an e1642 (an (decide_eq_true h1638) (ti (an (an h1643 trivial) (an (an h1643 trivial) (an h1643 (ti (an (decide_eq_false h1644) (an (decide_eq_false h1644) (an (decide_eq_false h1644) (an (decide_eq_false h1644) (an (decide_eq_false h1644) (ti trivial)))))))))))))))))))))))))))))
          injection h with h; subst h
          exact fun_ok pm pn Go.Proofs.Try.func3 (r0 := vb false) (ans := [.reg (.n :: .n :: []), .reg (.call (vb r1600) :: .n :: []), .br false, .reg (.n :: .call (vb r1603) :: .n :: []), .br false, .reg (arG2_1 r1607 r1610), .reg (arG2_2 r1607 r1615), .reg (arG2_2 r1607 r1620), .reg (.n :: .call (vi r1623) :: .n :: []), .reg (.n :: .call (VV.ag (g_SGlass r1607)) :: .call (vi r1628) :: .n :: .n :: []), .br false, .reg (.n :: .n :: []), .br false, .reg (arG2_4 r1634 r1639)]) (fr := true) (by kernel_rfl) (an (an (ti (ti trivial)) (an (an (an (nawake_ok k _ h1601) (ti trivial)) (an (not_f h1602) trivial)) (an (an e1605 (an (not_f h1606) trivial)) (an e1612 (an e1617 (an e1622 (an (ti (an e1625 (ti trivial))) (an (an e1630 (an (not_f (decide_eq_true h1631)) trivial)) (an (an (ti (ti trivial)) (an (not_f (decide_eq_true h1632)) trivial)) (an e1650 trivial)))))))))) (ti trivial)) (Wv.refl _)
        ·have e1651 := (ti (ti (ti (an (an (decide_eq_true h1633) trivial) (an (an (decide_eq_true h1633) trivial) (an e1636 (an (an (decide_eq_true h1633) trivial) (an (decide_eq_true h1633) (ti (an (an (decide_eq_true h1637) trivial) (an (an (decide_eq_true h1637) trivial) (an (decide_eq_true h1637) (ti (an (an (decide_eq_true h1638) trivial) (an (an (decide_eq_true h1638) trivial) (an e1641 (an e1642 (an (decide_eq_true h1638) (ti (an (bool_f h1643) (an (bool_f h1643) (an (bool_f h1643) (ti (an rf (an rf (an rf (an rf (an rf (ti trivial)))))))))))))))))))))))))))))
         injection h with h; subst h
         exact fun_ok pm pn Go.Proofs.Try.func3 (r0 := vb false) (ans := [.reg (.n :: .n :: []), .reg (.call (vb r1600) :: .n :: []), .br false, .reg (.n :: .call (vb r1603) :: .n :: []), .br false, .reg (arG2_1 r1607 r1610), .reg (arG2_2 r1607 r1615), .reg (arG2_2 r1607 r1620), .reg (.n :: .call (vi r1623) :: .n :: []), .reg (.n :: .call (VV.ag (g_SGlass r1607)) :: .call (vi r1628) :: .n :: .n :: []), .br false, .reg (.n :: .n :: []), .br false, .reg (arG2_5 r1634 r1639)]) (fr := true) (by kernel_rfl) (an (an (ti (ti trivial)) (an (an (an (nawake_ok k _ h1601) (ti trivial)) (an (not_f h1602) trivial)) (an (an e1605 (an (not_f h1606) trivial)) (an e1612 (an e1617 (an e1622 (an (ti (an e1625 (ti trivial))) (an (an e1630 (an (not_f (decide_eq_true h1631)) trivial)) (an (an (ti (ti trivial)) (an (not_f (decide_eq_true h1632)) trivial)) (an e1651 trivial)))))))))) (ti trivial)) (Wv.refl _)
       ·have e1652 := (ti (ti (ti (an (an (decide_eq_true h1633) trivial) (an (an (decide_eq_true h1633) trivial) (an e1636 (an (an (decide_eq_true h1633) trivial) (an (decide_eq_true h1633) (ti (an (an (decide_eq_true h1637) trivial) (an (an (decide_eq_true h1637) trivial) (an (decide_eq_true h1637) (ti (an (decide_eq_false h1638) (an (decide_eq_false h1638) (an (decide_eq_false h1638) (an (decide_eq_false h1638) (an (decide_eq_false h1638) (ti (an rf (an rf (an rf (ti (an rf (an rf (an rf (an rf (an rf (ti trivial)))))))))))))))))))))))))))))
        injection h with h; subst h
        exact fun_ok pm pn Go.Proofs.Try.func3 (r0 := vb false) (ans := [.reg (.n :: .n :: []), .reg (.call (vb r1600) :: .n :: []), .br false, .reg (.n :: .call (vb r1603) :: .n :: []), .br false, .reg (arG2_1 r1607 r1610), .reg (arG2_2 r1607 r1615), .reg (arG2_2 r1607 r1620), .reg (.n :: .call (vi r1623) :: .n :: []), .reg (.n :: .call (VV.ag (g_SGlass r1607)) :: .call (vi r1628) :: .n :: .n :: []), .br false, .reg (.n :: .n :: []), .br false, .reg (arG2_6 r1634)]) (fr := true) (by kernel_rfl) (an (an (ti (ti trivial)) (an (an (an (nawake_ok k _ h1601) (ti trivial)) (an (not_f h1602) trivial)) (an (an e1605 (an (not_f h1606) trivial)) (an e1612 (an e1617 (an e1622 (an (ti (an e1625 (ti trivial))) (an (an e1630 (an (not_f (decide_eq_true h1631)) trivial)) (an (an (ti (ti trivial)) (an (not_f (decide_eq_true h1632)) trivial)) (an e1652 trivial)))))))))) (ti trivial)) (Wv.refl _)
      ·have e1653 := (ti (ti (ti (an (an (decide_eq_true h1633) trivial) (an (an (decide_eq_true h1633) trivial) (an e1636 (an (an (decide_eq_true h1633) trivial) (an (decide_eq_true h1633) (ti (an (decide_eq_false h1637) (an (decide_eq_false h1637) (an (decide_eq_false h1637) (ti (an rf (an rf (an rf (an rf (an rf (ti (an rf (an rf (an rf (ti (an rf (an rf (an rf (an rf (an rf (ti trivial)))))))))))))))))))))))))))))
       injection h with h; subst h
       exact fun_ok pm pn Go.Proofs.Try.func3 (r0 := vb false) (ans := [.reg (.n :: .n :: []), .reg (.call (vb r1600) :: .n :: []), .br false, .reg (.n :: .call (vb r1603) :: .n :: []), .br false, .reg (arG2_1 r1607 r1610), .reg (arG2_2 r1607 r1615), .reg (arG2_2 r1607 r1620), .reg (.n :: .call (vi r1623) :: .n :: []), .reg (.n :: .call (VV.ag (g_SGlass r1607)) :: .call (vi r1628) :: .n :: .n :: []), .br false, .reg (.n :: .n :: []), .br false, .reg (arG2_7 r1634)]) (fr := true) (by kernel_rfl) (an (an (ti (ti trivial)) (an (an (an (nawake_ok k _ h1601) (ti trivial)) (an (not_f h1602) trivial)) (an (an e1605 (an (not_f h1606) trivial)) (an e1612 (an e1617 (an e1622 (an (ti (an e1625 (ti trivial))) (an (an e1630 (an (not_f (decide_eq_true h1631)) trivial)) (an (an (ti (ti trivial)) (an (not_f (decide_eq_true h1632)) trivial)) (an e1653 trivial)))))))))) (ti trivial)) (Wv.refl _)
     ·have e1654 := (ti (ti (ti (an (decide_eq_false h1633) (an (decide_eq_false h1633) (an (decide_eq_false h1633) (an (decide_eq_false h1633) (an (decide_eq_false h1633) (ti (an rf (an rf (an rf (ti (an rf (an rf (an rf (an rf (an rf (ti (an rf (an rf (an rf (ti (an rf (an rf (an rf (an rf (an rf (ti trivial)))))))))))))))))))))))))))))
      injection h with h; subst h
      exact fun_ok pm pn Go.Proofs.Try.func3 (r0 := vb false) (ans := [.reg (.n :: .n :: []), .reg (.call (vb r1600) :: .n :: []), .br false, .reg (.n :: .call (vb r1603) :: .n :: []), .br false, .reg (arG2_1 r1607 r1610), .reg (arG2_2 r1607 r1615), .reg (arG2_2 r1607 r1620), .reg (.n :: .call (vi r1623) :: .n :: []), .reg (.n :: .call (VV.ag (g_SGlass r1607)) :: .call (vi r1628) :: .n :: .n :: []), .br false, .reg (.n :: .n :: []), .br false, .reg arG2_8]) (fr := true) (by kernel_rfl) (an (an (ti (ti trivial)) (an (an (an (nawake_ok k _ h1601) (ti trivial)) (an (not_f h1602) trivial)) (an (an e1605 (an (not_f h1606) trivial)) (an e1612 (an e1617 (an e1622 (an (ti (an e1625 (ti trivial))) (an (an e1630 (an (not_f (decide_eq_true h1631)) trivial)) (an (an (ti (ti trivial)) (an (not_f (decide_eq_true h1632)) trivial)) (an e1654 trivial)))))))))) (ti trivial)) (Wv.refl _)
    ·rcases ifs h with ⟨h1655, h⟩ | ⟨h1655, h⟩
     ·rcases ifs h with ⟨h1656, h⟩ | ⟨h1656, h⟩
      ·rcases ifs h with ⟨h1657, h⟩ | ⟨h1657, h⟩
       ·rcases ifs h with ⟨h1658, h⟩ | ⟨h1658, h⟩
        ·have e1659 := (an (decide_eq_true h1658) (show List.map kdV [Value.int .i64 r1615.1.Lo, Value.int .i64 r1615.1.Hi] = List.map kdV [Value.int .i64 0, Value.int .i64 0] ∧ EqOK Go.Proofs.Try.prog 33 (List.map kdV [Value.int .i64 0, Value.int .i64 0]) from ⟨rfl, eqok33⟩))
         rcases ifs h with ⟨h1660, h⟩ | ⟨h1660, h⟩
         ·have e1661 := (an h1660 (show List.map kdV [Value.int .i64 r1620.1.Lo, Value.int .i64 r1620.1.Hi] = List.map kdV [Value.int .i64 0, Value.int .i64 0] ∧ EqOK Go.Proofs.Try.prog 33 (List.map kdV [Value.int .i64 0, Value.int .i64 0]) from ⟨rfl, eqok33⟩))
          have e1662 := (ti (ti (ti (ti (an (an (decide_eq_true h1655) trivial) (an (an (decide_eq_true h1655) trivial) (an (an (decide_eq_true h1655) trivial) (an (decide_eq_true h1655) (ti (an (an (decide_eq_true h1656) trivial) (an (an (decide_eq_true h1656) trivial) (an (an (decide_eq_true h1656) trivial) (an (decide_eq_true h1656) (ti (an (an (decide_eq_true h1657) trivial) (an (an (decide_eq_true h1657) trivial) (an (decide_eq_true h1657) (ti (an (an (decide_eq_true h1658) trivial) (an (an (decide_eq_true h1658) trivial) (an e1659 (an (decide_eq_true h1658) (ti (an (an h1660 trivial) (an (an h1660 trivial) (an e1661 (an h1660 (ti trivial))))))))))))))))))))))))))))
          injection h with h; subst h
          exact fun_ok pm pn Go.Proofs.Try.func3 (r0 := vb ((r1620.1.Lo : Int) == 0 && ((r1620.1.Hi : Int) == 0 && true))) (ans := [.reg (.n :: .n :: []), .reg (.call (vb r1600) :: .n :: []), .br false, .reg (.n :: .call (vb r1603) :: .n :: []), .br false, .reg (arG2_1 r1607 r1610), .reg (arG2_2 r1607 r1615), .reg (arG2_2 r1607 r1620), .reg (.n :: .call (vi r1623) :: .n :: []), .reg (.n :: .call (VV.ag (g_SGlass r1607)) :: .call (vi r1628) :: .n :: .n :: []), .br false, .reg (.n :: .n :: []), .br true, .reg arG2_9]) (fr := true) (by kernel_rfl) (an (an (ti (ti trivial)) (an (an (an (nawake_ok k _ h1601) (ti trivial)) (an (not_f h1602) trivial)) (an (an e1605 (an (not_f h1606) trivial)) (an e1612 (an e1617 (an e1622 (an (ti (an e1625 (ti trivial))) (an (an e1630 (an (not_f (decide_eq_true h1631)) trivial)) (an (ti (ti trivial)) (an (not_t (decide_eq_false h1632)) (an e1662 trivial))))))))))) (ti trivial)) (Wv.refl _)
         ·have e1663 := (ti (ti (ti (ti (an (an (decide_eq_true h1655) trivial) (an (an (decide_eq_true h1655) trivial) (an (an (decide_eq_true h1655) trivial) (an (decide_eq_true h1655) (ti (an (an (decide_eq_true h1656) trivial) (an (an (decide_eq_true h1656) trivial) (an (an (decide_eq_true h1656) trivial) (an (decide_eq_true h1656) (ti (an (an (decide_eq_true h1657) trivial) (an (an (decide_eq_true h1657) trivial) (an (decide_eq_true h1657) (ti (an (an (decide_eq_true h1658) trivial) (an (an (decide_eq_true h1658) trivial) (an e1659 (an (decide_eq_true h1658) (ti (an (bool_f h1660) (an (bool_f h1660) (an (bool_f h1660) (an (bool_f h1660) (ti trivial))))))))))))))))))))))))))))
          injection h with h; subst h
          exact fun_ok pm pn Go.Proofs.Try.func3 (r0 := vb false) (ans := [.reg (.n :: .n :: []), .reg (.call (vb r1600) :: .n :: []), .br false, .reg (.n :: .call (vb r1603) :: .n :: []), .br false, .reg (arG2_1 r1607 r1610), .reg (arG2_2 r1607 r1615), .reg (arG2_2 r1607 r1620), .reg (.n :: .call (vi r1623) :: .n :: []), .reg (.n :: .call (VV.ag (g_SGlass r1607)) :: .call (vi r1628) :: .n :: .n :: []), .br false, .reg (.n :: .n :: []), .br true, .reg arG2_10]) (fr := true) (by kernel_rfl) (an (an (ti (ti trivial)) (an (an (an (nawake_ok k _ h1601) (ti trivial)) (an (not_f h1602) trivial)) (an (an e1605 (an (not_f h1606) trivial)) (an e1612 (an e1617 (an e1622 (an (ti (an e1625 (ti trivial))) (an (an e1630 (an (not_f (decide_eq_true h1631)) trivial)) (an (ti (ti trivial)) (an (not_t (decide_eq_false h1632)) (an e1663 trivial))))))))))) (ti trivial)) (Wv.refl _)
        ·have e1664 := (ti (ti (ti (ti (an (an (decide_eq_true h1655) trivial) (an (an (decide_eq_true h1655) trivial) (an (an (decide_eq_true h1655) trivial) (an (decide_eq_true h1655) (ti (an (an (decide_eq_true h1656) trivial) (an (an (decide_eq_true h1656) trivial) (an (an (decide_eq_true h1656) trivial) (an (decide_eq_true h1656) (ti (an (an (decide_eq_true h1657) trivial) (an (an (decide_eq_true h1657) trivial) (an (decide_eq_true h1657) (ti (an (decide_eq_false h1658) (an (decide_eq_false h1658) (an (decide_eq_false h1658) (an (decide_eq_false h1658) (ti (an rf (an rf (an rf (an rf (ti trivial))))))))))))))))))))))))))))
         injection h with h; subst h
         exact fun_ok pm pn Go.Proofs.Try.func3 (r0 := vb false) (ans := [.reg (.n :: .n :: []), .reg (.call (vb r1600) :: .n :: []), .br false, .reg (.n :: .call (vb r1603) :: .n :: []), .br false, .reg (arG2_1 r1607 r1610), .reg (arG2_2 r1607 r1615), .reg (arG2_2 r1607 r1620), .reg (.n :: .call (vi r1623) :: .n :: []), .reg (.n :: .call (VV.ag (g_SGlass r1607)) :: .call (vi r1628) :: .n :: .n :: []), .br false, .reg (.n :: .n :: []), .br true, .reg arG2_11]) (fr := true) (by kernel_rfl) (an (an (ti (ti trivial)) (an (an (an (nawake_ok k _ h1601) (ti trivial)) (an (not_f h1602) trivial)) (an (an e1605 (an (not_f h1606) trivial)) (an e1612 (an e1617 (an e1622 (an (ti (an e1625 (ti trivial))) (an (an e1630 (an (not_f (decide_eq_true h1631)) trivial)) (an (ti (ti trivial)) (an (not_t (decide_eq_false h1632)) (an e1664 trivial))))))))))) (ti trivial)) (Wv.refl _)
       ·have e1665 := (ti (ti (ti (ti (an (an (decide_eq_true h1655) trivial) (an (an (decide_eq_true h1655) trivial) (an (an (decide_eq_true h1655) trivial) (an (decide_eq_true h1655) (ti (an (an (decide_eq_true h1656) trivial) (an (an (decide_eq_true h1656) trivial) (an (an (decide_eq_true h1656) trivial) (an (decide_eq_true h1656) (ti (an (decide_eq_false h1657) (an (decide_eq_false h1657) (an (decide_eq_false h1657) (ti (an rf (an rf (an rf (an rf (ti (an rf (an rf (an rf (an rf (ti trivial))))))))))))))))))))))))))))
        injection h with h; subst h
        exact fun_ok pm pn Go.Proofs.Try.func3 (r0 := vb false) (ans := [.reg (.n :: .n :: []), .reg (.call (vb r1600) :: .n :: []), .br false, .reg (.n :: .call (vb r1603) :: .n :: []), .br false, .reg (arG2_1 r1607 r1610), .reg (arG2_2 r1607 r1615), .reg (arG2_2 r1607 r1620), .reg (.n :: .call (vi r1623) :: .n :: []), .reg (.n :: .call (VV.ag (g_SGlass r1607)) :: .call (vi r1628) :: .n :: .n :: []), .br false, .reg (.n :: .n :: []), .br true, .reg arG2_12]) (fr := true) (by kernel_rfl) (an (an (ti (ti trivial)) (an (an (an (nawake_ok k _ h1601) (ti trivial)) (an (not_f h1602) trivial)) (an (an e1605 (an (not_f h1606) trivial)) (an e1612 (an e1617 (an e1622 (an (ti (an e1625 (ti trivial))) (an (an e1630 (an (not_f (decide_eq_true h1631)) trivial)) (an (ti (ti trivial)) (an (not_t (decide_eq_false h1632)) (an e1665 trivial))))))))))) (ti trivial)) (Wv.refl _)
      ·have e1666 := (ti (ti (ti (ti (an (an (decide_eq_true h1655) trivial) (an (an (decide_eq_true h1655) trivial) (an (an (decide_eq_true h1655) trivial) (an (decide_eq_true h1655) (ti (an (decide_eq_false h1656) (an (decide_eq_false h1656) (an (decide_eq_false h1656) (an (decide_eq_false h1656) (ti (an rf (an rf (an rf (ti (an rf (an rf (an rf (an rf (ti (an rf (an rf (an rf (an rf (ti trivial))))))))))))))))))))))))))))
       injection h with h; subst h
       exact fun_ok pm pn Go.Proofs.Try.func3 (r0 := vb false) (ans := [.reg (.n :: .n :: []), .reg (.call (vb r1600) :: .n :: []), .br false, .reg (.n :: .call (vb r1603) :: .n :: []), .br false, .reg (arG2_1 r1607 r1610), .reg (arG2_2 r1607 r1615), .reg (arG2_2 r1607 r1620), .reg (.n :: .call (vi r1623) :: .n :: []), .reg (.n :: .call (VV.ag (g_SGlass r1607)) :: .call (vi r1628) :: .n :: .n :: []), .br false, .reg (.n :: .n :: []), .br true, .reg arG2_13]) (fr := true) (by kernel_rfl) (an (an (ti (ti trivial)) (an (an (an (nawake_ok k _ h1601) (ti trivial)) (an (not_f h1602) trivial)) (an (an e1605 (an (not_f h1606) trivial)) (an e1612 (an e1617 (an e1622 (an (ti (an e1625 (ti trivial))) (an (an e1630 (an (not_f (decide_eq_true h1631)) trivial)) (an (ti (ti trivial)) (an (not_t (decide_eq_false h1632)) (an e1666 trivial))))))))))) (ti trivial)) (Wv.refl _)
     ·have e1667 := (ti (ti (ti (ti (an (decide_eq_false h1655) (an (decide_eq_false h1655) (an (decide_eq_false h1655) (an (decide_eq_false h1655) (ti (an rf (an rf (an rf (an rf (ti (an rf (an rf (an rf (ti (an rf (an rf (an rf (an rf (ti (an rf (an rf (an rf (an rf (ti trivial))))))))))))))))))))))))))))
      injection h with h; subst h
      exact fun_ok pm pn Go.Proofs.Try.func3 (r0 := vb false) (ans := [.reg (.n :: .n :: []), .reg (.call (vb r1600) :: .n :: []), .br false, .reg (.n :: .call (vb r1603) :: .n :: []), .br false, .reg (arG2_1 r1607 r1610), .reg (arG2_2 r1607 r1615), .reg (arG2_2 r1607 r1620), .reg (.n :: .call (vi r1623) :: .n :: []), .reg (.n :: .call (VV.ag (g_SGlass r1607)) :: .call (vi r1628) :: .n :: .n :: []), .br false, .reg (.n :: .n :: []), .br true, .reg arG2_14]) (fr := true) (by kernel_rfl) (an (an (ti (ti trivial)) (an (an (an (nawake_ok k _ h1601) (ti trivial)) (an (not_f h1602) trivial)) (an (an e1605 (an (not_f h1606) trivial)) (an e1612 (an e1617 (an e1622 (an (ti (an e1625 (ti trivial))) (an (an e1630 (an (not_f (decide_eq_true h1631)) trivial)) (an (ti (ti trivial)) (an (not_t (decide_eq_false h1632)) (an e1667 trivial))))))))))) (ti trivial)) (Wv.refl _)
   ·injection h with h; subst h
    exact fun_ok pm pn Go.Proofs.Try.func3 (r0 := vb false) (ans := [.reg (.n :: .n :: []), .reg (.call (vb r1600) :: .n :: []), .br false, .reg (.n :: .call (vb r1603) :: .n :: []), .br false, .reg (arG2_1 r1607 r1610), .reg (arG2_2 r1607 r1615), .reg (arG2_2 r1607 r1620), .reg (.n :: .call (vi r1623) :: .n :: []), .reg (.n :: .call (VV.ag (g_SGlass r1607)) :: .call (vi r1628) :: .n :: .n :: []), .br true, .reg (.n :: [])]) (fr := true) (by kernel_rfl) (an (an (ti (ti trivial)) (an (an (an (nawake_ok k _ h1601) (ti trivial)) (an (not_f h1602) trivial)) (an (an e1605 (an (not_f h1606) trivial)) (an e1612 (an e1617 (an e1622 (an (ti (an e1625 (ti trivial))) (an e1630 (an (not_t (decide_eq_false h1631)) (an (ti trivial) trivial)))))))))) (ti trivial)) (Wv.refl _)
  ·injection h with h; subst h
   exact fun_ok pm pn Go.Proofs.Try.func3 (r0 := vb true) (ans := [.reg (.n :: .n :: []), .reg (.call (vb r1600) :: .n :: []), .br false, .reg (.n :: .call (vb r1603) :: .n :: []), .br true, .reg (.n :: [])]) (fr := true) (by kernel_rfl) (an (an (ti (ti trivial)) (an (an (an (nawake_ok k _ h1601) (ti trivial)) (an (not_f h1602) trivial)) (an e1605 (an (not_t (bool_f h1606)) (an (ti trivial) trivial))))) (ti trivial)) (Wv.refl _)
 ·injection h with h; subst h
  exact fun_ok pm pn Go.Proofs.Try.func3 (r0 := vb false) (ans := [.reg (.n :: .n :: []), .reg (.call (vb r1600) :: .n :: []), .br true, .reg (.n :: [])]) (fr := true) (by kernel_rfl) (an (an (ti (ti trivial)) (an (an (nawake_ok k _ h1601) (ti trivial)) (an (not_t (bool_f h1602)) (an (ti trivial) trivial)))) (ti trivial)) (Wv.refl _)
end Go.Proofs.Ytclabanknlmneaa.Vg

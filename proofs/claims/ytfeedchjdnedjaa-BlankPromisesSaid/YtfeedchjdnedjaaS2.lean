import Derived.Test.YtfeedchjdnedjaaS1
namespace Go.Proofs.Ytfeedchjdnedjaa.Vg
set_option maxRecDepth 100000
set_option maxHeartbeats 4000000
set_option linter.unusedVariables false
set_option linter.unusedSimpArgs false
open Go Go.Proofs.Ytfeedchjdnedjaa.Ev Go.Proofs.Ytfeedchjdnedjaa.Vv
open List (flatMap length_cons length_nil length_map length_append map_cons map_nil length_replicate)
theorem ag25 : Qaq Try.prog 25 = some true := by kernel_rfl
theorem sz25 : szOf Try.prog 25 = some 2 := by kernel_rfl
def Qi (k : Nat) (a0 : ((Bool × Int) × (Bool × Int) × (Bool × Int) × (Bool × Int))) : Option Int :=
 (Xl k a0.1.1 a0.1.2).bind fun r1644 => (if r1644 = 0 then ((Xl k a0.2.1.1 a0.2.1.2).bind fun r1650 => (if r1650 = 0 then ((Xl k a0.2.2.1.1 a0.2.2.1.2).bind fun r1656 => (if r1656 = 0 then ((Xl k a0.2.2.2.1 a0.2.2.2.2).bind fun r1662 => (if r1662 = 0 then (some 0) else (some r1662))) else (some r1656))) else (some r1650))) else (some r1644))
theorem Qr (k : Nat) (a0 : ((Bool × Int) × (Bool × Int) × (Bool × Int) × (Bool × Int))) (r : Int) (h : Qi k a0 = some r) : VC Try.prog 47 [VV.tr ([VV.fn 71 [VV.tp [vb a0.1.1] 0, VV.tp [vi a0.1.2] 0], VV.fn 71 [VV.tp [vb a0.2.1.1] 0, VV.tp [vi a0.2.1.2] 0], VV.fn 71 [VV.tp [vb a0.2.2.1.1] 0, VV.tp [vi a0.2.2.1.2] 0], VV.fn 71 [VV.tp [vb a0.2.2.2.1] 0, VV.tp [vi a0.2.2.2.2] 0]]) 4] (vi r) := by
 unfold Qi at h
 have e1642 := (show (0 : Int) <= 0 /\ (0 : Int) < ((4 : Nat) : Int) from ⟨by decide, by decide⟩)
 have e1643 := (show Jw Try.prog 106 ((0 : Int).toNat * 1) ([VV.fn 71 [VV.tp [vb a0.1.1] 0, VV.tp [vi a0.1.2] 0], VV.fn 71 [VV.tp [vb a0.2.1.1] 0, VV.tp [vi a0.2.1.2] 0], VV.fn 71 [VV.tp [vb a0.2.2.1.1] 0, VV.tp [vi a0.2.2.1.2] 0], VV.fn 71 [VV.tp [vb a0.2.2.2.1] 0, VV.tp [vi a0.2.2.2.2] 0]]) = some (VV.fn 71 [VV.tp [vb a0.1.1] 0, VV.tp [vi a0.1.2] 0]) from (Qee Qkn rfl))
 obtain ⟨r1644, h1645, h⟩ := bs h
 have e1646 := (Xr k a0.1.1 a0.1.2 _ h1645)
 rcases ifs h with ⟨h1647, h⟩ | ⟨h1647, h⟩
 ·have e1648 := (show (0 : Int) <= 1 /\ (1 : Int) < ((4 : Nat) : Int) from ⟨by decide, by decide⟩)
  have e1649 := (show Jw Try.prog 106 ((1 : Int).toNat * 1) ([VV.fn 71 [VV.tp [vb a0.1.1] 0, VV.tp [vi a0.1.2] 0], VV.fn 71 [VV.tp [vb a0.2.1.1] 0, VV.tp [vi a0.2.1.2] 0], VV.fn 71 [VV.tp [vb a0.2.2.1.1] 0, VV.tp [vi a0.2.2.1.2] 0], VV.fn 71 [VV.tp [vb a0.2.2.2.1] 0, VV.tp [vi a0.2.2.2.2] 0]]) = some (VV.fn 71 [VV.tp [vb a0.2.1.1] 0, VV.tp [vi a0.2.1.2] 0]) from (Qee Qkn rfl))
  obtain ⟨r1650, h1651, h⟩ := bs h
  have e1652 := (Xr k a0.2.1.1 a0.2.1.2 _ h1651)
  rcases ifs h with ⟨h1653, h⟩ | ⟨h1653, h⟩
  ·have e1654 := (show (0 : Int) <= 2 /\ (2 : Int) < ((4 : Nat) : Int) from ⟨by decide, by decide⟩)
   have e1655 := (show Jw Try.prog 106 ((2 : Int).toNat * 1) ([VV.fn 71 [VV.tp [vb a0.1.1] 0, VV.tp [vi a0.1.2] 0], VV.fn 71 [VV.tp [vb a0.2.1.1] 0, VV.tp [vi a0.2.1.2] 0], VV.fn 71 [VV.tp [vb a0.2.2.1.1] 0, VV.tp [vi a0.2.2.1.2] 0], VV.fn 71 [VV.tp [vb a0.2.2.2.1] 0, VV.tp [vi a0.2.2.2.2] 0]]) = some (VV.fn 71 [VV.tp [vb a0.2.2.1.1] 0, VV.tp [vi a0.2.2.1.2] 0]) from (Qee Qkn rfl))
   obtain ⟨r1656, h1657, h⟩ := bs h
   have e1658 := (Xr k a0.2.2.1.1 a0.2.2.1.2 _ h1657)
   rcases ifs h with ⟨h1659, h⟩ | ⟨h1659, h⟩
   ·have e1660 := (show (0 : Int) <= 3 /\ (3 : Int) < ((4 : Nat) : Int) from ⟨by decide, by decide⟩)
    have e1661 := (show Jw Try.prog 106 ((3 : Int).toNat * 1) ([VV.fn 71 [VV.tp [vb a0.1.1] 0, VV.tp [vi a0.1.2] 0], VV.fn 71 [VV.tp [vb a0.2.1.1] 0, VV.tp [vi a0.2.1.2] 0], VV.fn 71 [VV.tp [vb a0.2.2.1.1] 0, VV.tp [vi a0.2.2.1.2] 0], VV.fn 71 [VV.tp [vb a0.2.2.2.1] 0, VV.tp [vi a0.2.2.2.2] 0]]) = some (VV.fn 71 [VV.tp [vb a0.2.2.2.1] 0, VV.tp [vi a0.2.2.2.2] 0]) from (Qee Qkn rfl))
    obtain ⟨r1662, h1663, h⟩ := bs h
    have e1664 := (Xr k a0.2.2.2.1 a0.2.2.2.2 _ h1663)
    rcases ifs h with ⟨h1665, h⟩ | ⟨h1665, h⟩
    ·injection h with h; subst h
     exact Qo pm pn Try.func47 (r0 := vi 0) (ans := [.reg (.n :: []), .reg (nN 3 []), .unr 6, .reg (.n :: []), .br true, .reg (.n :: .v (VV.fn 71 [VV.tp [vb a0.1.1] 0, VV.tp [vi a0.1.2] 0]) :: .n :: []), .reg (.n :: .call (vi r1644) :: .n :: []), .reg (.n :: .n :: []), .br false, .reg (.n :: .n :: []), .reg (.n :: []), .br true, .reg (.n :: .v (VV.fn 71 [VV.tp [vb a0.2.1.1] 0, VV.tp [vi a0.2.1.2] 0]) :: .n :: []), .reg (.n :: .call (vi r1650) :: .n :: []), .reg (.n :: .n :: []), .br false, .reg (.n :: .n :: []), .reg (.n :: []), .br true, .reg (.n :: .v (VV.fn 71 [VV.tp [vb a0.2.2.1.1] 0, VV.tp [vi a0.2.2.1.2] 0]) :: .n :: []), .reg (.n :: .call (vi r1656) :: .n :: []), .reg (.n :: .n :: []), .br false, .reg (.n :: .n :: []), .reg (.n :: []), .br true, .reg (.n :: .v (VV.fn 71 [VV.tp [vb a0.2.2.2.1] 0, VV.tp [vi a0.2.2.2.2] 0]) :: .n :: []), .reg (.n :: .call (vi r1662) :: .n :: []), .reg (.n :: .n :: []), .br false, .reg (.n :: .n :: []), .reg (.n :: []), .br false, .reg (.n :: [])]) (fr := true) (by kernel_rfl) (an (an (ti tt) (an (an (ti (ti (ti tt))) (an (an (ti tt) (an (an (show (decide ((0 : Int) < 4)) = true from (dt (by decide))) tt) (an (an (an e1642 (an e1643 (ti tt))) (an (ti (an e1646 (ti tt))) (an (ti (ti tt)) (an (Ql (dt h1647)) tt)))) (ti (ti tt))))) (an (an (ti tt) (an (an (show (decide ((1 : Int) < 4)) = true from (dt (by decide))) tt) (an (an (an e1648 (an e1649 (ti tt))) (an (ti (an e1652 (ti tt))) (an (ti (ti tt)) (an (Ql (dt h1653)) tt)))) (ti (ti tt))))) (an (an (ti tt) (an (an (show (decide ((2 : Int) < 4)) = true from (dt (by decide))) tt) (an (an (an e1654 (an e1655 (ti tt))) (an (ti (an e1658 (ti tt))) (an (ti (ti tt)) (an (Ql (dt h1659)) tt)))) (ti (ti tt))))) (an (an (ti tt) (an (an (show (decide ((3 : Int) < 4)) = true from (dt (by decide))) tt) (an (an (an e1660 (an e1661 (ti tt))) (an (ti (an e1664 (ti tt))) (an (ti (ti tt)) (an (Ql (dt h1665)) tt)))) (ti (ti tt))))) (an (ti tt) (an (show (decide ((4 : Int) < 4)) = false from (df (by decide))) tt))))))) (an (ti tt) tt))) (ti tt)) (Wv.refl _)
    ·injection h with h; subst h
     exact Qo pm pn Try.func47 (r0 := vi r1662) (ans := [.reg (.n :: []), .reg (nN 3 []), .unr 5, .reg (.n :: []), .br true, .reg (.n :: .v (VV.fn 71 [VV.tp [vb a0.1.1] 0, VV.tp [vi a0.1.2] 0]) :: .n :: []), .reg (.n :: .call (vi r1644) :: .n :: []), .reg (.n :: .n :: []), .br false, .reg (.n :: .n :: []), .reg (.n :: []), .br true, .reg (.n :: .v (VV.fn 71 [VV.tp [vb a0.2.1.1] 0, VV.tp [vi a0.2.1.2] 0]) :: .n :: []), .reg (.n :: .call (vi r1650) :: .n :: []), .reg (.n :: .n :: []), .br false, .reg (.n :: .n :: []), .reg (.n :: []), .br true, .reg (.n :: .v (VV.fn 71 [VV.tp [vb a0.2.2.1.1] 0, VV.tp [vi a0.2.2.1.2] 0]) :: .n :: []), .reg (.n :: .call (vi r1656) :: .n :: []), .reg (.n :: .n :: []), .br false, .reg (.n :: .n :: []), .reg (.n :: []), .br true, .reg (.n :: .v (VV.fn 71 [VV.tp [vb a0.2.2.2.1] 0, VV.tp [vi a0.2.2.2.2] 0]) :: .n :: []), .reg (.n :: .call (vi r1662) :: .n :: []), .reg (.n :: .n :: []), .br true, .reg (.n :: .n :: [])]) (fr := true) (by kernel_rfl) (an (an (ti tt) (an (ti (ti (ti tt))) (an (an (ti tt) (an (an (show (decide ((0 : Int) < 4)) = true from (dt (by decide))) tt) (an (an (an e1642 (an e1643 (ti tt))) (an (ti (an e1646 (ti tt))) (an (ti (ti tt)) (an (Ql (dt h1647)) tt)))) (ti (ti tt))))) (an (an (ti tt) (an (an (show (decide ((1 : Int) < 4)) = true from (dt (by decide))) tt) (an (an (an e1648 (an e1649 (ti tt))) (an (ti (an e1652 (ti tt))) (an (ti (ti tt)) (an (Ql (dt h1653)) tt)))) (ti (ti tt))))) (an (an (ti tt) (an (an (show (decide ((2 : Int) < 4)) = true from (dt (by decide))) tt) (an (an (an e1654 (an e1655 (ti tt))) (an (ti (an e1658 (ti tt))) (an (ti (ti tt)) (an (Ql (dt h1659)) tt)))) (ti (ti tt))))) (an (ti tt) (an (an (show (decide ((3 : Int) < 4)) = true from (dt (by decide))) tt) (an (an e1660 (an e1661 (ti tt))) (an (ti (an e1664 (ti tt))) (an (ti (ti tt)) (an (Zd (df h1665)) (an (ti (ti tt)) tt)))))))))))) (ti tt)) (Wv.refl _)
   ·injection h with h; subst h
    exact Qo pm pn Try.func47 (r0 := vi r1656) (ans := [.reg (.n :: []), .reg (nN 3 []), .unr 4, .reg (.n :: []), .br true, .reg (.n :: .v (VV.fn 71 [VV.tp [vb a0.1.1] 0, VV.tp [vi a0.1.2] 0]) :: .n :: []), .reg (.n :: .call (vi r1644) :: .n :: []), .reg (.n :: .n :: []), .br false, .reg (.n :: .n :: []), .reg (.n :: []), .br true, .reg (.n :: .v (VV.fn 71 [VV.tp [vb a0.2.1.1] 0, VV.tp [vi a0.2.1.2] 0]) :: .n :: []), .reg (.n :: .call (vi r1650) :: .n :: []), .reg (.n :: .n :: []), .br false, .reg (.n :: .n :: []), .reg (.n :: []), .br true, .reg (.n :: .v (VV.fn 71 [VV.tp [vb a0.2.2.1.1] 0, VV.tp [vi a0.2.2.1.2] 0]) :: .n :: []), .reg (.n :: .call (vi r1656) :: .n :: []), .reg (.n :: .n :: []), .br true, .reg (.n :: .n :: [])]) (fr := true) (by kernel_rfl) (an (an (ti tt) (an (ti (ti (ti tt))) (an (an (ti tt) (an (an (show (decide ((0 : Int) < 4)) = true from (dt (by decide))) tt) (an (an (an e1642 (an e1643 (ti tt))) (an (ti (an e1646 (ti tt))) (an (ti (ti tt)) (an (Ql (dt h1647)) tt)))) (ti (ti tt))))) (an (an (ti tt) (an (an (show (decide ((1 : Int) < 4)) = true from (dt (by decide))) tt) (an (an (an e1648 (an e1649 (ti tt))) (an (ti (an e1652 (ti tt))) (an (ti (ti tt)) (an (Ql (dt h1653)) tt)))) (ti (ti tt))))) (an (ti tt) (an (an (show (decide ((2 : Int) < 4)) = true from (dt (by decide))) tt) (an (an e1654 (an e1655 (ti tt))) (an (ti (an e1658 (ti tt))) (an (ti (ti tt)) (an (Zd (df h1659)) (an (ti (ti tt)) tt))))))))))) (ti tt)) (Wv.refl _)
  ·injection h with h; subst h
   exact Qo pm pn Try.func47 (r0 := vi r1650) (ans := [.reg (.n :: []), .reg (nN 3 []), .unr 3, .reg (.n :: []), .br true, .reg (.n :: .v (VV.fn 71 [VV.tp [vb a0.1.1] 0, VV.tp [vi a0.1.2] 0]) :: .n :: []), .reg (.n :: .call (vi r1644) :: .n :: []), .reg (.n :: .n :: []), .br false, .reg (.n :: .n :: []), .reg (.n :: []), .br true, .reg (.n :: .v (VV.fn 71 [VV.tp [vb a0.2.1.1] 0, VV.tp [vi a0.2.1.2] 0]) :: .n :: []), .reg (.n :: .call (vi r1650) :: .n :: []), .reg (.n :: .n :: []), .br true, .reg (.n :: .n :: [])]) (fr := true) (by kernel_rfl) (an (an (ti tt) (an (ti (ti (ti tt))) (an (an (ti tt) (an (an (show (decide ((0 : Int) < 4)) = true from (dt (by decide))) tt) (an (an (an e1642 (an e1643 (ti tt))) (an (ti (an e1646 (ti tt))) (an (ti (ti tt)) (an (Ql (dt h1647)) tt)))) (ti (ti tt))))) (an (ti tt) (an (an (show (decide ((1 : Int) < 4)) = true from (dt (by decide))) tt) (an (an e1648 (an e1649 (ti tt))) (an (ti (an e1652 (ti tt))) (an (ti (ti tt)) (an (Zd (df h1653)) (an (ti (ti tt)) tt)))))))))) (ti tt)) (Wv.refl _)
 ·injection h with h; subst h
  exact Qo pm pn Try.func47 (r0 := vi r1644) (ans := [.reg (.n :: []), .reg (nN 3 []), .unr 2, .reg (.n :: []), .br true, .reg (.n :: .v (VV.fn 71 [VV.tp [vb a0.1.1] 0, VV.tp [vi a0.1.2] 0]) :: .n :: []), .reg (.n :: .call (vi r1644) :: .n :: []), .reg (.n :: .n :: []), .br true, .reg (.n :: .n :: [])]) (fr := true) (by kernel_rfl) (an (an (ti tt) (an (ti (ti (ti tt))) (an (ti tt) (an (an (show (decide ((0 : Int) < 4)) = true from (dt (by decide))) tt) (an (an e1642 (an e1643 (ti tt))) (an (ti (an e1646 (ti tt))) (an (ti (ti tt)) (an (Zd (df h1647)) (an (ti (ti tt)) tt))))))))) (ti tt)) (Wv.refl _)
theorem Qor (z0 : (Bool × Int)) (z1 : (Bool × Int)) (z2 : (Bool × Int)) (z3 : (Bool × Int)) : [VV.tr ([VV.fn 71 [VV.tp [vb (((z0, z1, z2, z3).1).1)] 0, VV.tp [vi (((z0, z1, z2, z3).1).2)] 0], VV.fn 71 [VV.tp [vb (((z0, z1, z2, z3).2.1).1)] 0, VV.tp [vi (((z0, z1, z2, z3).2.1).2)] 0], VV.fn 71 [VV.tp [vb (((z0, z1, z2, z3).2.2.1).1)] 0, VV.tp [vi (((z0, z1, z2, z3).2.2.1).2)] 0], VV.fn 71 [VV.tp [vb (((z0, z1, z2, z3).2.2.2).1)] 0, VV.tp [vi (((z0, z1, z2, z3).2.2.2).2)] 0]]) 4] = [VV.tr (List.drop 0 (List.map unfr [VV.fn 71 [VV.tp [vb z0.1] 0, VV.tp [vi z0.2] 0], VV.fn 71 [VV.tp [vb z1.1] 0, VV.tp [vi z1.2] 0], VV.fn 71 [VV.tp [vb z2.1] 0, VV.tp [vi z2.2] 0], VV.fn 71 [VV.tp [vb z3.1] 0, VV.tp [vi z3.2] 0]])) 4] := by first | rfl | (simp only [Qcc, X5, Wi, map_cons, map_nil, un_i, un_b, Qcd]; done) | (simp only [Qcc, X5, Wi, map_cons, map_nil, un_i, un_b, Qcd]; rfl) | (simp only [Qcc, X5, Wi, map_cons, map_nil, un_i, un_b, Qcd, length_cons, length_nil, length_append]; done)
def Qos (z0 : Bool) (z1 : (Bool × Int)) (z2 : (Bool × Int)) (z3 : (Bool × Int)) (z4 : (Bool × Int)) (z5 : Int) : List Ans := (.n :: .n :: .call (vb z0) :: .call (VV.fn 71 [VV.tp [vb z1.1] 0, VV.tp [vi z1.2] 0]) :: nN 3 (.b false :: .n :: .call (VV.fn 71 [VV.tp [vb z2.1] 0, VV.tp [vi z2.2] 0]) :: .n :: .call (VV.fn 71 [VV.tp [vb z3.1] 0, VV.tp [vi z3.2] 0]) :: .n :: .n :: .call (VV.fn 71 [VV.tp [vb z4.1] 0, VV.tp [vi z4.2] 0]) :: .n :: .call (vi z5) :: .n :: []))
def Qot (z0 : Bool) (z1 : (Bool × Int)) (z2 : List (ByteArray × Bool)) (z3 : (List Qb)) (z4 : Int) (z5 : (Bool × Int)) (z6 : (Bool × Int)) (z7 : (Bool × Int)) (z8 : Int) : List Ans := (.n :: .n :: .call (vb z0) :: .call (VV.fn 71 [VV.tp [vb z1.1] 0, VV.tp [vi z1.2] 0]) :: nN 3 (.v (vb (mget z2 ((z3.getD z4.toNat default).Mirror))) :: .n :: .call (VV.fn 71 [VV.tp [vb z5.1] 0, VV.tp [vi z5.2] 0]) :: .n :: .call (VV.fn 71 [VV.tp [vb z6.1] 0, VV.tp [vi z6.2] 0]) :: .n :: .n :: .call (VV.fn 71 [VV.tp [vb z7.1] 0, VV.tp [vi z7.2] 0]) :: .n :: .call (vi z8) :: .n :: []))
noncomputable def Qyl (z0 : List (ByteArray × Int)) (z1 : (List Qb)) (z2 : Int) (z3 : Bool) (z4 : (Bool × Int)) (z5 : List (ByteArray × Bool)) (z6 : (Bool × Int)) (z7 : (Bool × Int)) (z8 : (Bool × Int)) (z9 : Int) : List Ans := (nN 3 (.inl (inlF Try.f64 [.reg (.n :: .n :: []), .reg (nN 3 (.v (vi (mget z0 ((z1.getD z2.toNat default).Batch))) :: nN 5 [])), .reg (Qot z3 z4 z5 z1 z2 z6 z7 z8 z9), .reg (.n :: .n :: []), .br true, .reg (nN 4 []), .reg (nN 6 []), .reg (.n :: .n :: [])]) :: .n :: []))
noncomputable def Qym (z0 : List (ByteArray × Int)) (z1 : (List Qb)) (z2 : Int) (z3 : Bool) (z4 : (Bool × Int)) (z5 : List (ByteArray × Bool)) (z6 : (Bool × Int)) (z7 : (Bool × Int)) (z8 : (Bool × Int)) (z9 : Int) : List Ans := (nN 3 (.inl (inlF Try.f64 [.reg (.n :: .n :: []), .reg (nN 3 (.v (vi (mget z0 ((z1.getD z2.toNat default).Batch))) :: nN 5 [])), .reg (Qot z3 z4 z5 z1 z2 z6 z7 z8 z9), .reg (.n :: .n :: []), .br false, .reg (.n :: .n :: [])]) :: .n :: []))
noncomputable def Qyn (z0 : List (ByteArray × Int)) (z1 : (List Qb)) (z2 : Int) (z3 : Bool) (z4 : (Bool × Int)) (z5 : (Bool × Int)) (z6 : (Bool × Int)) (z7 : (Bool × Int)) (z8 : Int) : List Ans := (nN 3 (.inl (inlF Try.f64 [.reg (.n :: .n :: []), .reg (nN 3 (.v (vi (mget z0 ((z1.getD z2.toNat default).Batch))) :: nN 5 [])), .reg (Qos z3 z4 z5 z6 z7 z8), .reg (.n :: .n :: []), .br true, .reg (nN 4 []), .reg (nN 6 []), .reg (.n :: .n :: [])]) :: .n :: []))
noncomputable def Qyo (z0 : List (ByteArray × Int)) (z1 : (List Qb)) (z2 : Int) (z3 : Bool) (z4 : (Bool × Int)) (z5 : (Bool × Int)) (z6 : (Bool × Int)) (z7 : (Bool × Int)) (z8 : Int) : List Ans := (nN 3 (.inl (inlF Try.f64 [.reg (.n :: .n :: []), .reg (nN 3 (.v (vi (mget z0 ((z1.getD z2.toNat default).Batch))) :: nN 5 [])), .reg (Qos z3 z4 z5 z6 z7 z8), .reg (.n :: .n :: []), .br false, .reg (.n :: .n :: [])]) :: .n :: []))
noncomputable def Qyp (z0 : Bool) (z1 : (Bool × Int)) (z2 : List (ByteArray × Bool)) (z3 : (List Qb)) (z4 : Int) (z5 : (Bool × Int)) (z6 : (Bool × Int)) (z7 : (Bool × Int)) (z8 : Int) : List Ans := (nN 3 (.inl (inlF Try.f64 [.reg (.n :: .n :: []), .reg (nN 3 (.b false :: nN 5 [])), .reg (Qot z0 z1 z2 z3 z4 z5 z6 z7 z8), .reg (.n :: .n :: []), .br true, .reg (nN 4 []), .reg (nN 6 []), .reg (.n :: .n :: [])]) :: .n :: []))
noncomputable def Qyq (z0 : Bool) (z1 : (Bool × Int)) (z2 : List (ByteArray × Bool)) (z3 : (List Qb)) (z4 : Int) (z5 : (Bool × Int)) (z6 : (Bool × Int)) (z7 : (Bool × Int)) (z8 : Int) : List Ans := (nN 3 (.inl (inlF Try.f64 [.reg (.n :: .n :: []), .reg (nN 3 (.b false :: nN 5 [])), .reg (Qot z0 z1 z2 z3 z4 z5 z6 z7 z8), .reg (.n :: .n :: []), .br false, .reg (.n :: .n :: [])]) :: .n :: []))
noncomputable def Qyr (z0 : Bool) (z1 : (Bool × Int)) (z2 : (Bool × Int)) (z3 : (Bool × Int)) (z4 : (Bool × Int)) (z5 : Int) : List Ans := (nN 3 (.inl (inlF Try.f64 [.reg (.n :: .n :: []), .reg (nN 3 (.b false :: nN 5 [])), .reg (Qos z0 z1 z2 z3 z4 z5), .reg (.n :: .n :: []), .br true, .reg (nN 4 []), .reg (nN 6 []), .reg (.n :: .n :: [])]) :: .n :: []))
noncomputable def Qwm (z0 : Bool) (z1 : (Bool × Int)) (z2 : (Bool × Int)) (z3 : (Bool × Int)) (z4 : (Bool × Int)) (z5 : Int) : List Ans := (nN 3 (.inl (inlF Try.f64 [.reg (.n :: .n :: []), .reg (nN 3 (.b false :: nN 5 [])), .reg (Qos z0 z1 z2 z3 z4 z5), .reg (.n :: .n :: []), .br false, .reg (.n :: .n :: [])]) :: .n :: []))
noncomputable def Qwn (z0 : Int) : List Ans := (.n :: .n :: .inl (inlF Try.f39 [.reg (.n :: .n :: []), .reg (.n :: .call (vi z0) :: .n :: []), .reg (.n :: .n :: []), .br false, .reg (nN 3 []), .br true, .reg (.n :: .n :: [])]) :: nN 5 [])
def J3 (a0 : (List Qd)) (a1 : (List Qb)) (y0 : List (ByteArray × Int)) (x26 : Int) : VS := ⟨mkA [(1, VV.tr (flatMap Qa a1) a1.length), (7, VV.mp 0), (8, VV.mp 1), (24, VV.tr (flatMap Qc a0) a0.length), (25, vi (a0.length : Int)), (26, vi x26)], [some ⟨true, bigX + 1, flatMap (mpE vi) y0⟩, some ⟨true, bigX + 1, []⟩], (.node none (mkA [(0, VV.tr (flatMap Qc a0) a0.length), (1, VV.tr (flatMap Qa a1) a1.length), (4, vi 0), (8, VV.tr (flatMap Qc a0) a0.length), (9, VV.tr (flatMap Qa a1) a1.length)]) .nil)⟩
def Xo (a0 : (List Qd)) (a1 : (List Qb)) (r : (List (ByteArray × Int))) : VS := ⟨mkA [(1, VV.tr (flatMap Qa a1) a1.length), (7, VV.mp 0), (8, VV.mp 1)], [some ⟨true, bigX + 1, flatMap (mpE vi) r⟩, some ⟨true, bigX + 1, []⟩], (.node none (mkA [(0, VV.tr (flatMap Qc a0) a0.length), (1, VV.tr (flatMap Qa a1) a1.length), (4, vi 0), (8, VV.tr (flatMap Qc a0) a0.length), (9, VV.tr (flatMap Qa a1) a1.length)]) .nil)⟩
def Q9 (k : Nat) (a0 : (List Qd)) (a1 : (List Qb)) : Nat -> (List (ByteArray × Int)) -> Int -> Option ((List (ByteArray × Int)))
 | 0, _, _ => none
 | fuel + 1, y0, x26 => if x26 < (a0.length : Int) then (if 0 <= x26 /\ x26 < (a0.length : Int) then (Q9 k a0 a1 fuel (mset y0 ((a0.getD x26.toNat default).Name) ((a0.getD x26.toNat default).Count)) (w64 (x26 + 1))) else none) else (some y0)
theorem Qbj (k : Nat) (a0 : (List Qd)) (a1 : (List Qb)) : ∀ (fuel : Nat) (y0 : List (ByteArray × Int)) (x26 : Int) (r : (List (ByteArray × Int))), Q9 k a0 a1 fuel y0 x26 = some r -> (Ya none Try.prog (szF Try.f39) (X9 Try.f39 0) (J3 a0 a1 y0 x26) (.exit 0) (Xo a0 a1 r)) := by
 intro fuel
 induction fuel with
 | zero => intro y0 x26 r h; rw [Q9.eq_1] at h; cases h
 | succ fuel ih =>
  intro y0 x26 r h
  rw [Q9.eq_2] at h
  rcases ifs h with ⟨h1942, h⟩ | ⟨h1942, h⟩
  ·obtain ⟨h1943, h⟩ := ifn h
   have e1944 := (show Jw Try.prog 67 (x26.toNat * 4) (flatMap Qc a0) = some (VV.ag (Qc (a0.getD x26.toNat default))) from Qfw ag67 Qc 4 sz67 Zg a0 default h1943 (by omega))
   have e1945 := (show Qbo (kdV (.string ((a0.getD x26.toNat default).Name))) (flatMap (mpE vi) y0) = true from (Yg vi ((a0.getD x26.toNat default).Name) y0))
   have h2 := ih _ _ _ h
   obtain ⟨q, hv, hq⟩ := pkR (rd := none) (P := Try.prog) (fn := Try.f39) (k := 0) (s := (J3 a0 a1 y0 x26)) (ans := [.reg (.n :: []), .br true, .reg (.n :: .v (VV.ag (Qc (a0.getD x26.toNat default))) :: .n :: .n :: []), .reg (nN 6 []), .reg (.n :: .n :: [])]) (c := ⟨[(1, none), (7, none), (8, none), (24, none), (25, none), (26, none)], [some (flatMap (mpE vi) (mset y0 ((a0.getD x26.toNat default).Name) ((a0.getD x26.toNat default).Count))), none], []⟩) (e := .normal) (s1 := (J3 a0 a1 (mset y0 ((a0.getD x26.toNat default).Name) ((a0.getD x26.toNat default).Count)) (w64 (x26 + 1)))) (an (an (ti tt) (an (an (dt h1942) tt) (an (an (an h1943 (an e1944 (ti (ti tt)))) (ti (ti (ti (ti (ti (an e1945 tt))))))) (ti (ti tt))))) (ti (an (show upM (.string ((a0.getD x26.toNat default).Name)) (vi ((a0.getD x26.toNat default).Count)) (flatMap (mpE vi) y0) = flatMap (mpE vi) (mset y0 ((a0.getD x26.toNat default).Name) ((a0.getD x26.toNat default).Count)) from (by exact Qda vi ((a0.getD x26.toNat default).Name) ((a0.getD x26.toNat default).Count) y0)) tt))) (by kernel_rfl)
   exact Qp pm pn hv hq h2
  ·injection h with h; subst h
   exact Qq (c := ⟨[(1, none), (7, none), (8, none)], [none, none], []⟩) (s1 := (Xo a0 a1 y0)) pm pn (ans := [.reg (.n :: []), .br false]) (by kernel_rfl) (by intro e; cases e) (an (an (ti tt) (an (df h1942) tt)) (ti tt))
def Qv (a0 : (List Qd)) (a1 : (List Qb)) (y0 : List (ByteArray × Int)) (y1 : List (ByteArray × Bool)) (x38 : Int) : VS := ⟨mkA [(7, VV.mp 0), (8, VV.mp 1), (36, VV.tr (flatMap Qa a1) a1.length), (37, vi (a1.length : Int)), (38, vi x38)], [some ⟨true, bigX + 1, flatMap (mpE vi) y0⟩, some ⟨true, bigX + 1, flatMap (mpE vb) y1⟩], (.node none (mkA [(0, VV.tr (flatMap Qc a0) a0.length), (1, VV.tr (flatMap Qa a1) a1.length), (4, vi 0), (8, VV.tr (flatMap Qc a0) a0.length), (9, VV.tr (flatMap Qa a1) a1.length)]) .nil)⟩
def Zp (a0 : (List Qd)) (a1 : (List Qb)) (r : Int) : VS := ⟨mkA [(4, VV.c (.map none)), (5, vi r)], [], (.node none (mkA [(0, VV.tr (flatMap Qc a0) a0.length), (1, VV.tr (flatMap Qa a1) a1.length), (4, vi 0), (8, VV.tr (flatMap Qc a0) a0.length), (9, VV.tr (flatMap Qa a1) a1.length)]) .nil)⟩
def Jy (a0 : (List Qd)) (a1 : (List Qb)) (r : (List (ByteArray × Int))) : VS := ⟨mkA [(7, VV.mp 0)], [some ⟨true, bigX + 1, flatMap (mpE vi) r⟩], (.node none (mkA [(0, VV.tr (flatMap Qc a0) a0.length), (1, VV.tr (flatMap Qa a1) a1.length), (4, vi 0), (8, VV.tr (flatMap Qc a0) a0.length), (9, VV.tr (flatMap Qa a1) a1.length)]) .nil)⟩
def Qm (k : Nat) (a0 : (List Qd)) (a1 : (List Qb)) : Nat -> (List (ByteArray × Int)) -> (List (ByteArray × Bool)) -> Int -> Option (Sum Int (List (ByteArray × Int)))
 | 0, _, _, _ => none
 | fuel + 1, y0, y1, x38 => if x38 < (a1.length : Int) then (if 0 <= x38 /\ x38 < (a1.length : Int) then (if mhas y0 ((a1.getD x38.toNat default).Batch) = true then ((Ym k ((a1.getD x38.toNat default).Mirror)).bind fun r2135 => ((Zh k r2135 4).bind fun r2138 => (if mhas y1 ((a1.getD x38.toNat default).Mirror) = true then ((Zh k (!(mget y1 ((a1.getD x38.toNat default).Mirror))) 5).bind fun r2142 => ((Zh k true 6).bind fun r2145 => ((Zh k (decide (0 < (mget y0 ((a1.getD x38.toNat default).Batch)))) 20).bind fun r2147 => ((Qi k (r2138, r2142, r2145, r2147)).bind fun r2150 => (if r2150 = 0 then (Qm k a0 a1 fuel (mset y0 ((a1.getD x38.toNat default).Batch) (w64 ((mget y0 ((a1.getD x38.toNat default).Batch)) - 1))) (mset y1 ((a1.getD x38.toNat default).Mirror) true) (w64 (x38 + 1))) else (some (.inl r2150))))))) else ((Zh k (!false) 5).bind fun r2160 => ((Zh k true 6).bind fun r2162 => ((Zh k (decide (0 < (mget y0 ((a1.getD x38.toNat default).Batch)))) 20).bind fun r2164 => ((Qi k (r2138, r2160, r2162, r2164)).bind fun r2167 => (if r2167 = 0 then (Qm k a0 a1 fuel (mset y0 ((a1.getD x38.toNat default).Batch) (w64 ((mget y0 ((a1.getD x38.toNat default).Batch)) - 1))) (mset y1 ((a1.getD x38.toNat default).Mirror) true) (w64 (x38 + 1))) else (some (.inl r2167)))))))))) else ((Ym k ((a1.getD x38.toNat default).Mirror)).bind fun r2178 => ((Zh k r2178 4).bind fun r2181 => (if mhas y1 ((a1.getD x38.toNat default).Mirror) = true then ((Zh k (!(mget y1 ((a1.getD x38.toNat default).Mirror))) 5).bind fun r2185 => ((Zh k false 6).bind fun r2188 => ((Zh k (decide ((0 : Int) < 0)) 20).bind fun r2190 => ((Qi k (r2181, r2185, r2188, r2190)).bind fun r2193 => (if r2193 = 0 then (Qm k a0 a1 fuel (mset y0 ((a1.getD x38.toNat default).Batch) (-1)) (mset y1 ((a1.getD x38.toNat default).Mirror) true) (w64 (x38 + 1))) else (some (.inl r2193))))))) else ((Zh k (!false) 5).bind fun r2203 => ((Zh k false 6).bind fun r2205 => ((Zh k (decide ((0 : Int) < 0)) 20).bind fun r2207 => ((Qi k (r2181, r2203, r2205, r2207)).bind fun r2210 => (if r2210 = 0 then (Qm k a0 a1 fuel (mset y0 ((a1.getD x38.toNat default).Batch) (-1)) (mset y1 ((a1.getD x38.toNat default).Mirror) true) (w64 (x38 + 1))) else (some (.inl r2210))))))))))) else none) else (some (.inr y0))
theorem Qbk (k : Nat) (a0 : (List Qd)) (a1 : (List Qb)) : ∀ (fuel : Nat) (y0 : List (ByteArray × Int)) (y1 : List (ByteArray × Bool)) (x38 : Int) (r : Sum Int (List (ByteArray × Int))), Qm k a0 a1 fuel y0 y1 x38 = some r -> (match r with | .inl r => Ya none Try.prog (szF Try.f39) (X9 Try.f39 1) (Qv a0 a1 y0 y1 x38) .ret (Zp a0 a1 r) | .inr r => Ya none Try.prog (szF Try.f39) (X9 Try.f39 1) (Qv a0 a1 y0 y1 x38) (.exit 2) (Jy a0 a1 r)) := by
 intro fuel
 induction fuel with
 | zero => intro y0 y1 x38 r h; rw [Qm.eq_1] at h; cases h
 | succ fuel ih =>
  intro y0 y1 x38 r h
  rw [Qm.eq_2] at h
  rcases ifs h with ⟨h2129, h⟩ | ⟨h2129, h⟩
  ·obtain ⟨h2130, h⟩ := ifn h
   have e2131 := (show Jw Try.prog 25 (x38.toNat * 2) (flatMap Qa a1) = some (VV.ag (Qa (a1.getD x38.toNat default))) from Qfw ag25 Qa 2 sz25 Qj a1 default h2130 (by omega))
   rcases ifs h with ⟨h2132, h⟩ | ⟨h2132, h⟩
   ·have e2133 := (show Qbo (kdV (.string ((a1.getD x38.toNat default).Batch))) (flatMap (mpE vi) y0) = true /\ lkM (.string ((a1.getD x38.toNat default).Batch)) (flatMap (mpE vi) y0) = some (vi (mget y0 ((a1.getD x38.toNat default).Batch))) from ⟨(Yg vi ((a1.getD x38.toNat default).Batch) y0), (Qh4 vi ((a1.getD x38.toNat default).Batch) y0 h2132)⟩)
    have e2134 := (ti (ti (ti (an e2133 (ti (ti (ti (ti (ti tt)))))))))
    obtain ⟨r2135, h2136, h⟩ := bs h
    have e2137 := (Qa4 k ((a1.getD x38.toNat default).Mirror) _ h2136)
    obtain ⟨r2138, h2139, h⟩ := bs h
    rcases ifs h with ⟨h2140, h⟩ | ⟨h2140, h⟩
    ·have e2141 := (show Qbo (kdV (.string ((a1.getD x38.toNat default).Mirror))) (flatMap (mpE vb) y1) = true /\ lkM (.string ((a1.getD x38.toNat default).Mirror)) (flatMap (mpE vb) y1) = some (vb (mget y1 ((a1.getD x38.toNat default).Mirror))) from ⟨(Yg vb ((a1.getD x38.toNat default).Mirror) y1), (Qh4 vb ((a1.getD x38.toNat default).Mirror) y1 h2140)⟩)
     obtain ⟨r2142, h2143, h⟩ := bs h
     have e2144 := (Zc k (!(mget y1 ((a1.getD x38.toNat default).Mirror))) 5 _ h2143)
     obtain ⟨r2145, h2146, h⟩ := bs h
     obtain ⟨r2147, h2148, h⟩ := bs h
     have e2149 := (Zc k (decide (0 < (mget y0 ((a1.getD x38.toNat default).Batch)))) 20 _ h2148)
     obtain ⟨r2150, h2151, h⟩ := bs h
     have e2152 := (VC.args (Qr k (r2138, r2142, r2145, r2147) _ h2151) (Qor r2138 r2142 r2145 r2147))
     have e2153 := (ti (ti (an e2137 (an (Zc k r2135 4 _ h2139) (ti (ti (ti (an e2141 (ti (an e2144 (ti (an (Zc k true 6 _ h2146) (ti (ti (an e2149 (ti (an e2152 (ti tt))))))))))))))))))
     rcases ifs h with ⟨h2154, h⟩ | ⟨h2154, h⟩
     ·have e2155 := (show Qbo (kdV (.string ((a1.getD x38.toNat default).Mirror))) (flatMap (mpE vb) y1) = true from (Yg vb ((a1.getD x38.toNat default).Mirror) y1))
      have e2156 := (show Qbo (kdV (.string ((a1.getD x38.toNat default).Batch))) (flatMap (mpE vi) y0) = true from (Yg vi ((a1.getD x38.toNat default).Batch) y0))
      have e2157 := (an (an Try.func64 (an (ti (ti tt)) (an e2134 (an e2153 (an (an (ti (ti tt)) (an (dt h2154) (an (ti (ti (ti (an e2155 tt)))) (ti (ti (ti (ti (ti (an e2156 tt))))))))) (an (ti (ti tt)) tt)))))) (ti tt))
      have h2 := ih _ _ _ _ h
      obtain ⟨q, hv, hq⟩ := pkR (rd := none) (P := Try.prog) (fn := Try.f39) (k := 1) (s := (Qv a0 a1 y0 y1 x38)) (ans := [.reg (.n :: []), .br true, .reg (.n :: .v (VV.ag (Qa (a1.getD x38.toNat default))) :: .n :: .n :: []), .reg (Qyl y0 a1 x38 r2135 r2138 y1 r2142 r2145 r2147 r2150), .reg (.n :: .n :: []), .br false, .reg (.n :: .n :: [])]) (c := ⟨[(7, none), (8, none), (36, none), (37, none), (38, none)], [some (flatMap (mpE vi) (mset y0 ((a1.getD x38.toNat default).Batch) (w64 ((mget y0 ((a1.getD x38.toNat default).Batch)) - 1)))), some (flatMap (mpE vb) (mset y1 ((a1.getD x38.toNat default).Mirror) true))], []⟩) (e := .normal) (s1 := (Qv a0 a1 (mset y0 ((a1.getD x38.toNat default).Batch) (w64 ((mget y0 ((a1.getD x38.toNat default).Batch)) - 1))) (mset y1 ((a1.getD x38.toNat default).Mirror) true) (w64 (x38 + 1)))) (an (an (ti tt) (an (an (dt h2129) tt) (an (an (an h2130 (an e2131 (ti (ti tt)))) (an (ti (ti (ti (an e2157 (ti tt))))) (an (ti (ti tt)) (an (Ql (dt h2154)) tt)))) (ti (ti tt))))) (ti (an (show upM (.string ((a1.getD x38.toNat default).Batch)) (vi (w64 ((mget y0 ((a1.getD x38.toNat default).Batch)) - 1))) (flatMap (mpE vi) y0) = flatMap (mpE vi) (mset y0 ((a1.getD x38.toNat default).Batch) (w64 ((mget y0 ((a1.getD x38.toNat default).Batch)) - 1))) from (by exact Qda vi ((a1.getD x38.toNat default).Batch) (w64 ((mget y0 ((a1.getD x38.toNat default).Batch)) - 1)) y0)) (an (show upM (.string ((a1.getD x38.toNat default).Mirror)) (vb true) (flatMap (mpE vb) y1) = flatMap (mpE vb) (mset y1 ((a1.getD x38.toNat default).Mirror) true) from (by exact Qda vb ((a1.getD x38.toNat default).Mirror) true y1)) tt)))) (by kernel_rfl)
      cases r with
      | inl r => exact Qp pm pn hv hq h2
      | inr r =>
       exact Qp pm pn hv hq h2
     ·have e2158 := (an (an Try.func64 (an (ti (ti tt)) (an e2134 (an e2153 (an (an (ti (ti tt)) (an (df h2154) tt)) (an (ti (ti tt)) tt)))))) (ti tt))
      injection h with h; subst h
      exact Qq (c := ⟨[(4, none), (5, none)], [], []⟩) (s1 := (Zp a0 a1 r2150)) pm pn (ans := [.reg (.n :: []), .br true, .reg (.n :: .v (VV.ag (Qa (a1.getD x38.toNat default))) :: .n :: .n :: []), .reg (Qym y0 a1 x38 r2135 r2138 y1 r2142 r2145 r2147 r2150), .reg (.n :: .n :: []), .br true, .reg (nN 3 [])]) (by kernel_rfl) (by intro e; cases e) (an (an (ti tt) (an (an (dt h2129) tt) (an (an h2130 (an e2131 (ti (ti tt)))) (an (ti (ti (ti (an e2158 (ti tt))))) (an (ti (ti tt)) (an (Zd (df h2154)) (an (ti (ti (ti tt))) tt))))))) (ti tt))
    ·have e2159 := (show Qbo (kdV (.string ((a1.getD x38.toNat default).Mirror))) (flatMap (mpE vb) y1) = true /\ lkM (.string ((a1.getD x38.toNat default).Mirror)) (flatMap (mpE vb) y1) = none from ⟨(Yg vb ((a1.getD x38.toNat default).Mirror) y1), (Ql3 vb ((a1.getD x38.toNat default).Mirror) y1 (Qz h2140))⟩)
     obtain ⟨r2160, h2161, h⟩ := bs h
     obtain ⟨r2162, h2163, h⟩ := bs h
     obtain ⟨r2164, h2165, h⟩ := bs h
     have e2166 := (Zc k (decide (0 < (mget y0 ((a1.getD x38.toNat default).Batch)))) 20 _ h2165)
     obtain ⟨r2167, h2168, h⟩ := bs h
     have e2169 := (VC.args (Qr k (r2138, r2160, r2162, r2164) _ h2168) (Qor r2138 r2160 r2162 r2164))
     have e2170 := (ti (ti (an e2137 (an (Zc k r2135 4 _ h2139) (ti (ti (ti (an e2159 (ti (an (Zc k (!false) 5 _ h2161) (ti (an (Zc k true 6 _ h2163) (ti (ti (an e2166 (ti (an e2169 (ti tt))))))))))))))))))
     rcases ifs h with ⟨h2171, h⟩ | ⟨h2171, h⟩
     ·have e2172 := (show Qbo (kdV (.string ((a1.getD x38.toNat default).Mirror))) (flatMap (mpE vb) y1) = true from (Yg vb ((a1.getD x38.toNat default).Mirror) y1))
      have e2173 := (show Qbo (kdV (.string ((a1.getD x38.toNat default).Batch))) (flatMap (mpE vi) y0) = true from (Yg vi ((a1.getD x38.toNat default).Batch) y0))
      have e2174 := (an (an Try.func64 (an (ti (ti tt)) (an e2134 (an e2170 (an (an (ti (ti tt)) (an (dt h2171) (an (ti (ti (ti (an e2172 tt)))) (ti (ti (ti (ti (ti (an e2173 tt))))))))) (an (ti (ti tt)) tt)))))) (ti tt))
      have h2 := ih _ _ _ _ h
      obtain ⟨q, hv, hq⟩ := pkR (rd := none) (P := Try.prog) (fn := Try.f39) (k := 1) (s := (Qv a0 a1 y0 y1 x38)) (ans := [.reg (.n :: []), .br true, .reg (.n :: .v (VV.ag (Qa (a1.getD x38.toNat default))) :: .n :: .n :: []), .reg (Qyn y0 a1 x38 r2135 r2138 r2160 r2162 r2164 r2167), .reg (.n :: .n :: []), .br false, .reg (.n :: .n :: [])]) (c := ⟨[(7, none), (8, none), (36, none), (37, none), (38, none)], [some (flatMap (mpE vi) (mset y0 ((a1.getD x38.toNat default).Batch) (w64 ((mget y0 ((a1.getD x38.toNat default).Batch)) - 1)))), some (flatMap (mpE vb) (mset y1 ((a1.getD x38.toNat default).Mirror) true))], []⟩) (e := .normal) (s1 := (Qv a0 a1 (mset y0 ((a1.getD x38.toNat default).Batch) (w64 ((mget y0 ((a1.getD x38.toNat default).Batch)) - 1))) (mset y1 ((a1.getD x38.toNat default).Mirror) true) (w64 (x38 + 1)))) (an (an (ti tt) (an (an (dt h2129) tt) (an (an (an h2130 (an e2131 (ti (ti tt)))) (an (ti (ti (ti (an e2174 (ti tt))))) (an (ti (ti tt)) (an (Ql (dt h2171)) tt)))) (ti (ti tt))))) (ti (an (show upM (.string ((a1.getD x38.toNat default).Batch)) (vi (w64 ((mget y0 ((a1.getD x38.toNat default).Batch)) - 1))) (flatMap (mpE vi) y0) = flatMap (mpE vi) (mset y0 ((a1.getD x38.toNat default).Batch) (w64 ((mget y0 ((a1.getD x38.toNat default).Batch)) - 1))) from (by exact Qda vi ((a1.getD x38.toNat default).Batch) (w64 ((mget y0 ((a1.getD x38.toNat default).Batch)) - 1)) y0)) (an (show upM (.string ((a1.getD x38.toNat default).Mirror)) (vb true) (flatMap (mpE vb) y1) = flatMap (mpE vb) (mset y1 ((a1.getD x38.toNat default).Mirror) true) from (by exact Qda vb ((a1.getD x38.toNat default).Mirror) true y1)) tt)))) (by kernel_rfl)
      cases r with
      | inl r => exact Qp pm pn hv hq h2
      | inr r =>
       exact Qp pm pn hv hq h2
     ·have e2175 := (an (an Try.func64 (an (ti (ti tt)) (an e2134 (an e2170 (an (an (ti (ti tt)) (an (df h2171) tt)) (an (ti (ti tt)) tt)))))) (ti tt))
      injection h with h; subst h
      exact Qq (c := ⟨[(4, none), (5, none)], [], []⟩) (s1 := (Zp a0 a1 r2167)) pm pn (ans := [.reg (.n :: []), .br true, .reg (.n :: .v (VV.ag (Qa (a1.getD x38.toNat default))) :: .n :: .n :: []), .reg (Qyo y0 a1 x38 r2135 r2138 r2160 r2162 r2164 r2167), .reg (.n :: .n :: []), .br true, .reg (nN 3 [])]) (by kernel_rfl) (by intro e; cases e) (an (an (ti tt) (an (an (dt h2129) tt) (an (an h2130 (an e2131 (ti (ti tt)))) (an (ti (ti (ti (an e2175 (ti tt))))) (an (ti (ti tt)) (an (Zd (df h2171)) (an (ti (ti (ti tt))) tt))))))) (ti tt))
   ·have e2176 := (show Qbo (kdV (.string ((a1.getD x38.toNat default).Batch))) (flatMap (mpE vi) y0) = true /\ lkM (.string ((a1.getD x38.toNat default).Batch)) (flatMap (mpE vi) y0) = none from ⟨(Yg vi ((a1.getD x38.toNat default).Batch) y0), (Ql3 vi ((a1.getD x38.toNat default).Batch) y0 (Qz h2132))⟩)
    have e2177 := (ti (ti (ti (an e2176 (ti (ti (ti (ti (ti tt)))))))))
    obtain ⟨r2178, h2179, h⟩ := bs h
    have e2180 := (Qa4 k ((a1.getD x38.toNat default).Mirror) _ h2179)
    obtain ⟨r2181, h2182, h⟩ := bs h
    rcases ifs h with ⟨h2183, h⟩ | ⟨h2183, h⟩
    ·have e2184 := (show Qbo (kdV (.string ((a1.getD x38.toNat default).Mirror))) (flatMap (mpE vb) y1) = true /\ lkM (.string ((a1.getD x38.toNat default).Mirror)) (flatMap (mpE vb) y1) = some (vb (mget y1 ((a1.getD x38.toNat default).Mirror))) from ⟨(Yg vb ((a1.getD x38.toNat default).Mirror) y1), (Qh4 vb ((a1.getD x38.toNat default).Mirror) y1 h2183)⟩)
     obtain ⟨r2185, h2186, h⟩ := bs h
     have e2187 := (Zc k (!(mget y1 ((a1.getD x38.toNat default).Mirror))) 5 _ h2186)
     obtain ⟨r2188, h2189, h⟩ := bs h
     obtain ⟨r2190, h2191, h⟩ := bs h
     have e2192 := (Zc k (decide ((0 : Int) < 0)) 20 _ h2191)
     obtain ⟨r2193, h2194, h⟩ := bs h
     have e2195 := (VC.args (Qr k (r2181, r2185, r2188, r2190) _ h2194) (Qor r2181 r2185 r2188 r2190))
     have e2196 := (ti (ti (an e2180 (an (Zc k r2178 4 _ h2182) (ti (ti (ti (an e2184 (ti (an e2187 (ti (an (Zc k false 6 _ h2189) (ti (ti (an e2192 (ti (an e2195 (ti tt))))))))))))))))))
     rcases ifs h with ⟨h2197, h⟩ | ⟨h2197, h⟩
     ·have e2198 := (show Qbo (kdV (.string ((a1.getD x38.toNat default).Mirror))) (flatMap (mpE vb) y1) = true from (Yg vb ((a1.getD x38.toNat default).Mirror) y1))
      have e2199 := (show Qbo (kdV (.string ((a1.getD x38.toNat default).Batch))) (flatMap (mpE vi) y0) = true from (Yg vi ((a1.getD x38.toNat default).Batch) y0))
      have e2200 := (an (an Try.func64 (an (ti (ti tt)) (an e2177 (an e2196 (an (an (ti (ti tt)) (an (dt h2197) (an (ti (ti (ti (an e2198 tt)))) (ti (ti (ti (ti (ti (an e2199 tt))))))))) (an (ti (ti tt)) tt)))))) (ti tt))
      have h2 := ih _ _ _ _ h
      obtain ⟨q, hv, hq⟩ := pkR (rd := none) (P := Try.prog) (fn := Try.f39) (k := 1) (s := (Qv a0 a1 y0 y1 x38)) (ans := [.reg (.n :: []), .br true, .reg (.n :: .v (VV.ag (Qa (a1.getD x38.toNat default))) :: .n :: .n :: []), .reg (Qyp r2178 r2181 y1 a1 x38 r2185 r2188 r2190 r2193), .reg (.n :: .n :: []), .br false, .reg (.n :: .n :: [])]) (c := ⟨[(7, none), (8, none), (36, none), (37, none), (38, none)], [some (flatMap (mpE vi) (mset y0 ((a1.getD x38.toNat default).Batch) (-1))), some (flatMap (mpE vb) (mset y1 ((a1.getD x38.toNat default).Mirror) true))], []⟩) (e := .normal) (s1 := (Qv a0 a1 (mset y0 ((a1.getD x38.toNat default).Batch) (-1)) (mset y1 ((a1.getD x38.toNat default).Mirror) true) (w64 (x38 + 1)))) (an (an (ti tt) (an (an (dt h2129) tt) (an (an (an h2130 (an e2131 (ti (ti tt)))) (an (ti (ti (ti (an e2200 (ti tt))))) (an (ti (ti tt)) (an (Ql (dt h2197)) tt)))) (ti (ti tt))))) (ti (an (show upM (.string ((a1.getD x38.toNat default).Batch)) (vi (-1)) (flatMap (mpE vi) y0) = flatMap (mpE vi) (mset y0 ((a1.getD x38.toNat default).Batch) (-1)) from (by exact Qda vi ((a1.getD x38.toNat default).Batch) (-1) y0)) (an (show upM (.string ((a1.getD x38.toNat default).Mirror)) (vb true) (flatMap (mpE vb) y1) = flatMap (mpE vb) (mset y1 ((a1.getD x38.toNat default).Mirror) true) from (by exact Qda vb ((a1.getD x38.toNat default).Mirror) true y1)) tt)))) (by kernel_rfl)
      cases r with
      | inl r => exact Qp pm pn hv hq h2
      | inr r =>
       exact Qp pm pn hv hq h2
     ·have e2201 := (an (an Try.func64 (an (ti (ti tt)) (an e2177 (an e2196 (an (an (ti (ti tt)) (an (df h2197) tt)) (an (ti (ti tt)) tt)))))) (ti tt))
      injection h with h; subst h
      exact Qq (c := ⟨[(4, none), (5, none)], [], []⟩) (s1 := (Zp a0 a1 r2193)) pm pn (ans := [.reg (.n :: []), .br true, .reg (.n :: .v (VV.ag (Qa (a1.getD x38.toNat default))) :: .n :: .n :: []), .reg (Qyq r2178 r2181 y1 a1 x38 r2185 r2188 r2190 r2193), .reg (.n :: .n :: []), .br true, .reg (nN 3 [])]) (by kernel_rfl) (by intro e; cases e) (an (an (ti tt) (an (an (dt h2129) tt) (an (an h2130 (an e2131 (ti (ti tt)))) (an (ti (ti (ti (an e2201 (ti tt))))) (an (ti (ti tt)) (an (Zd (df h2197)) (an (ti (ti (ti tt))) tt))))))) (ti tt))
    ·have e2202 := (show Qbo (kdV (.string ((a1.getD x38.toNat default).Mirror))) (flatMap (mpE vb) y1) = true /\ lkM (.string ((a1.getD x38.toNat default).Mirror)) (flatMap (mpE vb) y1) = none from ⟨(Yg vb ((a1.getD x38.toNat default).Mirror) y1), (Ql3 vb ((a1.getD x38.toNat default).Mirror) y1 (Qz h2183))⟩)
     obtain ⟨r2203, h2204, h⟩ := bs h
     obtain ⟨r2205, h2206, h⟩ := bs h
     obtain ⟨r2207, h2208, h⟩ := bs h
     have e2209 := (Zc k (decide ((0 : Int) < 0)) 20 _ h2208)
     obtain ⟨r2210, h2211, h⟩ := bs h
     have e2212 := (VC.args (Qr k (r2181, r2203, r2205, r2207) _ h2211) (Qor r2181 r2203 r2205 r2207))
     have e2213 := (ti (ti (an e2180 (an (Zc k r2178 4 _ h2182) (ti (ti (ti (an e2202 (ti (an (Zc k (!false) 5 _ h2204) (ti (an (Zc k false 6 _ h2206) (ti (ti (an e2209 (ti (an e2212 (ti tt))))))))))))))))))
     rcases ifs h with ⟨h2214, h⟩ | ⟨h2214, h⟩
     ·have e2215 := (show Qbo (kdV (.string ((a1.getD x38.toNat default).Mirror))) (flatMap (mpE vb) y1) = true from (Yg vb ((a1.getD x38.toNat default).Mirror) y1))
      have e2216 := (show Qbo (kdV (.string ((a1.getD x38.toNat default).Batch))) (flatMap (mpE vi) y0) = true from (Yg vi ((a1.getD x38.toNat default).Batch) y0))
      have e2217 := (an (an Try.func64 (an (ti (ti tt)) (an e2177 (an e2213 (an (an (ti (ti tt)) (an (dt h2214) (an (ti (ti (ti (an e2215 tt)))) (ti (ti (ti (ti (ti (an e2216 tt))))))))) (an (ti (ti tt)) tt)))))) (ti tt))
      have h2 := ih _ _ _ _ h
      obtain ⟨q, hv, hq⟩ := pkR (rd := none) (P := Try.prog) (fn := Try.f39) (k := 1) (s := (Qv a0 a1 y0 y1 x38)) (ans := [.reg (.n :: []), .br true, .reg (.n :: .v (VV.ag (Qa (a1.getD x38.toNat default))) :: .n :: .n :: []), .reg (Qyr r2178 r2181 r2203 r2205 r2207 r2210), .reg (.n :: .n :: []), .br false, .reg (.n :: .n :: [])]) (c := ⟨[(7, none), (8, none), (36, none), (37, none), (38, none)], [some (flatMap (mpE vi) (mset y0 ((a1.getD x38.toNat default).Batch) (-1))), some (flatMap (mpE vb) (mset y1 ((a1.getD x38.toNat default).Mirror) true))], []⟩) (e := .normal) (s1 := (Qv a0 a1 (mset y0 ((a1.getD x38.toNat default).Batch) (-1)) (mset y1 ((a1.getD x38.toNat default).Mirror) true) (w64 (x38 + 1)))) (an (an (ti tt) (an (an (dt h2129) tt) (an (an (an h2130 (an e2131 (ti (ti tt)))) (an (ti (ti (ti (an e2217 (ti tt))))) (an (ti (ti tt)) (an (Ql (dt h2214)) tt)))) (ti (ti tt))))) (ti (an (show upM (.string ((a1.getD x38.toNat default).Batch)) (vi (-1)) (flatMap (mpE vi) y0) = flatMap (mpE vi) (mset y0 ((a1.getD x38.toNat default).Batch) (-1)) from (by exact Qda vi ((a1.getD x38.toNat default).Batch) (-1) y0)) (an (show upM (.string ((a1.getD x38.toNat default).Mirror)) (vb true) (flatMap (mpE vb) y1) = flatMap (mpE vb) (mset y1 ((a1.getD x38.toNat default).Mirror) true) from (by exact Qda vb ((a1.getD x38.toNat default).Mirror) true y1)) tt)))) (by kernel_rfl)
      cases r with
      | inl r => exact Qp pm pn hv hq h2
      | inr r =>
       exact Qp pm pn hv hq h2
     ·have e2218 := (an (an Try.func64 (an (ti (ti tt)) (an e2177 (an e2213 (an (an (ti (ti tt)) (an (df h2214) tt)) (an (ti (ti tt)) tt)))))) (ti tt))
      injection h with h; subst h
      exact Qq (c := ⟨[(4, none), (5, none)], [], []⟩) (s1 := (Zp a0 a1 r2210)) pm pn (ans := [.reg (.n :: []), .br true, .reg (.n :: .v (VV.ag (Qa (a1.getD x38.toNat default))) :: .n :: .n :: []), .reg (Qwm r2178 r2181 r2203 r2205 r2207 r2210), .reg (.n :: .n :: []), .br true, .reg (nN 3 [])]) (by kernel_rfl) (by intro e; cases e) (an (an (ti tt) (an (an (dt h2129) tt) (an (an h2130 (an e2131 (ti (ti tt)))) (an (ti (ti (ti (an e2218 (ti tt))))) (an (ti (ti tt)) (an (Zd (df h2214)) (an (ti (ti (ti tt))) tt))))))) (ti tt))
  ·injection h with h; subst h
   exact Qq (c := ⟨[(7, none)], [none], []⟩) (s1 := (Jy a0 a1 y0)) pm pn (ans := [.reg (.n :: []), .br false]) (by kernel_rfl) (by intro e; cases e) (an (an (ti tt) (an (df h2129) tt)) (ti tt))
noncomputable def Qwo (z0 : Int) : List Ans := (.n :: .n :: .inl (inlF Try.f39 [.reg (.n :: .n :: []), .reg (.n :: .call (vi z0) :: .n :: []), .reg (.n :: .n :: []), .br true, .reg (nN 3 [])]) :: nN 5 [])
def Jv (k : Nat) (a0 : (List Qd)) (a1 : (List Qb)) : Option Int :=
 (Y4 k a0).bind fun r1927 => (if r1927 = 0 then (if 200 < (a1.length : Int) then (some 8) else ((Q9 k a0 a1 k ([] : List (ByteArray × Int)) 0).bind fun r1947 => ((Qm k a0 a1 k r1947 ([] : List (ByteArray × Bool)) 0).bind fun r2220 => (match r2220 with | .inl r2221 => (some r2221) | .inr r2222 => (some 0))))) else (some r1927))
theorem Qbf (k : Nat) (a0 : (List Qd)) (a1 : (List Qb)) (r : Int) (h : Jv k a0 a1 = some r) : VC Try.prog 21 [VV.tr (flatMap Qc a0) a0.length, VV.tr (flatMap Qa a1) a1.length] (vi r) := by
 unfold Jv at h
 obtain ⟨r1927, h1928, h⟩ := bs h
 have e1929 := (ti (an (Qei k a0 _ h1928) (ti tt)))
 rcases ifs h with ⟨h1930, h⟩ | ⟨h1930, h⟩
 ·rcases ifs h with ⟨h1931, h⟩ | ⟨h1931, h⟩
  ·have e1932 := (an (an Try.func39 (an (ti (ti tt)) (an (an e1929 (an (ti (ti tt)) (an (Ql (dt h1930)) tt))) (an (ti (ti (ti tt))) (an (dt h1931) (an (ti (ti tt)) tt)))))) (ti (ti tt)))
   have e1933 := (ti (ti (an e1932 (ti (ti (ti (ti (ti tt))))))))
   injection h with h; subst h
   exact Qo pm pn Try.func21 (r0 := vi 8) (ans := [.reg (.n :: []), .reg (Qwn r1927), .reg (.n :: .n :: [])]) (fr := true) (by kernel_rfl) (an (an (ti tt) (an e1933 (an (ti (ti tt)) tt))) (ti tt)) (Wv.refl _)
  ·obtain ⟨r1947, h1946, h⟩ := bs h
   have hph1946 := Qbj k a0 a1 _ _ _ _ h1946
   have e1948 := (an (ti (an (show [] = flatMap (mpE vi) ([] : List (ByteArray × Int)) from rfl) tt)) (VRun.loop hph1946))
   obtain ⟨r2220, h2219, h⟩ := bs h
   have hph2219 := Qbk k a0 a1 _ _ _ _ _ h2219
   cases r2220 with
   | inl r2221 =>
    dsimp only at h
    have e2223 := (an (ti (an (show [] = flatMap (mpE vb) ([] : List (ByteArray × Bool)) from rfl) tt)) (VRun.loop hph2219))
    have e2224 := (an (an Try.func39 (an (ti (ti tt)) (an (an e1929 (an (ti (ti tt)) (an (Ql (dt h1930)) tt))) (an (an (ti (ti (ti tt))) (an (df h1931) tt)) (an (ti (ti (ti (ti tt)))) (an (an (ti (ti (ti tt))) e1948) (an (ti (ti (ti tt))) e2223))))))) (ti (ti tt)))
    have e2225 := (ti (ti (an e2224 (ti (ti (ti (ti (ti tt))))))))
    injection h with h; subst h
    exact Qo pm pn Try.func21 (r0 := vi r2221) (ans := [.reg (.n :: []), .reg (.n :: .n :: .inl (inlF Try.f39 [.reg (.n :: .n :: []), .reg (.n :: .call (vi r1927) :: .n :: []), .reg (.n :: .n :: []), .br false, .reg (nN 3 []), .br false, .reg (nN 4 []), .reg (nN 3 []), .sub ⟨[(1, none), (7, none), (8, none), (24, none), (25, none), (26, none)], [some (flatMap (mpE vi) ([] : List (ByteArray × Int))), none], []⟩ (.exit 0) (Xo a0 a1 r1947), .reg (nN 3 []), .sub ⟨[(7, none), (8, none), (36, none), (37, none), (38, none)], [none, some (flatMap (mpE vb) ([] : List (ByteArray × Bool)))], []⟩ .ret (Zp a0 a1 r2221)]) :: nN 5 []), .reg (.n :: .n :: [])]) (fr := true) (by kernel_rfl) (an (an (ti tt) (an e2225 (an (ti (ti tt)) tt))) (ti tt)) (Wv.refl _)
   | inr r2222 =>
    dsimp only at h
    have e2226 := (an (ti (an (show [] = flatMap (mpE vb) ([] : List (ByteArray × Bool)) from rfl) tt)) (VRun.loop hph2219))
    have e2227 := (an (an Try.func39 (an (ti (ti tt)) (an (an e1929 (an (ti (ti tt)) (an (Ql (dt h1930)) tt))) (an (an (ti (ti (ti tt))) (an (df h1931) tt)) (an (ti (ti (ti (ti tt)))) (an (an (ti (ti (ti tt))) e1948) (an (an (ti (ti (ti tt))) e2226) (an (ti (ti (ti tt))) tt)))))))) (ti (ti tt)))
    have e2228 := (ti (ti (an e2227 (ti (ti (ti (ti (ti tt))))))))
    injection h with h; subst h
    exact Qo pm pn Try.func21 (r0 := vi 0) (ans := [.reg (.n :: []), .reg (.n :: .n :: .inl (inlF Try.f39 [.reg (.n :: .n :: []), .reg (.n :: .call (vi r1927) :: .n :: []), .reg (.n :: .n :: []), .br false, .reg (nN 3 []), .br false, .reg (nN 4 []), .reg (nN 3 []), .sub ⟨[(1, none), (7, none), (8, none), (24, none), (25, none), (26, none)], [some (flatMap (mpE vi) ([] : List (ByteArray × Int))), none], []⟩ (.exit 0) (Xo a0 a1 r1947), .reg (nN 3 []), .sub ⟨[(7, none), (8, none), (36, none), (37, none), (38, none)], [none, some (flatMap (mpE vb) ([] : List (ByteArray × Bool)))], []⟩ (.exit 2) (Jy a0 a1 r2222), .reg (nN 3 [])]) :: nN 5 []), .reg (.n :: .n :: [])]) (fr := true) (by kernel_rfl) (an (an (ti tt) (an e2228 (an (ti (ti tt)) tt))) (ti tt)) (Wv.refl _)
 ·have e2229 := (an (an Try.func39 (an (ti (ti tt)) (an e1929 (an (ti (ti tt)) (an (Zd (df h1930)) (an (ti (ti (ti tt))) tt)))))) (ti (ti tt)))
  have e2230 := (ti (ti (an e2229 (ti (ti (ti (ti (ti tt))))))))
  injection h with h; subst h
  exact Qo pm pn Try.func21 (r0 := vi r1927) (ans := [.reg (.n :: []), .reg (Qwo r1927), .reg (.n :: .n :: [])]) (fr := true) (by kernel_rfl) (an (an (ti tt) (an e2230 (an (ti (ti tt)) tt))) (ti tt)) (Wv.refl _)
def Qru (z0 : (List Qb)) (z1 : Int) (z2 : (List Qd)) (z3 : Int) : List Ans := (nN 4 (.v (vs ((z0.getD z1.toNat default).Batch)) :: nN 4 (.v (vs ((z2.getD z3.toNat default).Name)) :: .n :: [])))
def Xv (a0 : (List Qd)) (a1 : (List Qb)) (a2 : Int) (x7 : Int) (x8 : Int) : VS := ⟨mkA [(0, VV.tr (flatMap Qc a0) a0.length), (1, VV.tr (flatMap Qa a1) a1.length), (2, vi a2), (7, vi x7), (8, vi x8)], [], .nil⟩
def Y5 (a0 : (List Qd)) (a1 : (List Qb)) (a2 : Int) (r : Int) : VS := ⟨mkA [(7, vi r)], [], .nil⟩
def Zi (k : Nat) (a0 : (List Qd)) (a1 : (List Qb)) (a2 : Int) : Nat -> Int -> Int -> Option (Int)
 | 0, _, _ => none
 | fuel + 1, x7, x8 => if x8 < (a1.length : Int) then (if 0 <= x8 /\ x8 < (a1.length : Int) then (if 0 <= a2 /\ a2 < (a0.length : Int) then (if ((a1.getD x8.toNat default).Batch) = ((a0.getD a2.toNat default).Name) then (Zi k a0 a1 a2 fuel (w64 (x7 - 1)) (w64 (x8 + 1))) else (Zi k a0 a1 a2 fuel x7 (w64 (x8 + 1)))) else none) else none) else (some x7)
theorem Qcx (k : Nat) (a0 : (List Qd)) (a1 : (List Qb)) (a2 : Int) : ∀ (fuel : Nat) (x7 : Int) (x8 : Int) (r : Int), Zi k a0 a1 a2 fuel x7 x8 = some r -> (Ya none Try.prog (szF Try.f42) (X9 Try.f42 0) (Xv a0 a1 a2 x7 x8) (.exit 0) (Y5 a0 a1 a2 r)) := by
 intro fuel
 induction fuel with
 | zero => intro x7 x8 r h; rw [Zi.eq_1] at h; cases h
 | succ fuel ih =>
  intro x7 x8 r h
  rw [Zi.eq_2] at h
  rcases ifs h with ⟨h2297, h⟩ | ⟨h2297, h⟩
  ·obtain ⟨h2298, h⟩ := ifn h
   have e2299 := (show Jw Try.prog 9 (x8.toNat * 2 + 1) (flatMap Qa a1) = some (vs ((a1.getD x8.toNat default).Batch)) from (Yh ag9 Qa 2 1 Qj (by omega) a1 default h2298 (by omega)).trans rfl)
   obtain ⟨h2300, h⟩ := ifn h
   have e2301 := (show Jw Try.prog 9 (a2.toNat * 4 + 0) (flatMap Qc a0) = some (vs ((a0.getD a2.toNat default).Name)) from (Yh ag9 Qc 4 0 Zg (by omega) a0 default h2300 (by omega)).trans rfl)
   have e2302 := (ti (ti (an h2298 (ti (an e2299 (ti (ti (an h2300 (ti (an e2301 (ti tt)))))))))))
   rcases ifs h with ⟨h2303, h⟩ | ⟨h2303, h⟩
   ·have h2 := ih _ _ _ h
    obtain ⟨q, hv, hq⟩ := pkR (rd := none) (P := Try.prog) (fn := Try.f42) (k := 0) (s := (Xv a0 a1 a2 x7 x8)) (ans := [.reg (nN 4 []), .br true, .reg (Qru a1 x8 a0 a2), .br true, .reg (nN 3 []), .reg (nN 3 [])]) (c := ⟨[(0, none), (1, none), (2, none), (7, none), (8, none)], [], []⟩) (e := .normal) (s1 := (Xv a0 a1 a2 (w64 (x7 - 1)) (w64 (x8 + 1)))) (an (an (an (ti (ti (ti (ti tt)))) (an (dt h2297) tt)) (an (an e2302 (an (dt h2303) (ti (ti (ti tt))))) (ti (ti (ti tt))))) (ti tt)) (by kernel_rfl)
    exact Qp pm pn hv hq h2
   ·have h2 := ih _ _ _ h
    obtain ⟨q, hv, hq⟩ := pkR (rd := none) (P := Try.prog) (fn := Try.f42) (k := 0) (s := (Xv a0 a1 a2 x7 x8)) (ans := [.reg (nN 4 []), .br true, .reg (Qru a1 x8 a0 a2), .br false, .reg (nN 3 [])]) (c := ⟨[(0, none), (1, none), (2, none), (7, none), (8, none)], [], []⟩) (e := .normal) (s1 := (Xv a0 a1 a2 x7 (w64 (x8 + 1)))) (an (an (an (ti (ti (ti (ti tt)))) (an (dt h2297) tt)) (an (an e2302 (an (df h2303) tt)) (ti (ti (ti tt))))) (ti tt)) (by kernel_rfl)
    exact Qp pm pn hv hq h2
  ·injection h with h; subst h
   exact Qq (c := ⟨[(7, none)], [], []⟩) (s1 := (Y5 a0 a1 a2 x7)) pm pn (ans := [.reg (nN 4 []), .br false]) (by kernel_rfl) (by intro e; cases e) (an (an (ti (ti (ti (ti tt)))) (an (df h2297) tt)) (ti tt))
def Y6 (k : Nat) (a0 : (List Qd)) (a1 : (List Qb)) (a2 : Int) : Option Int :=
 if 0 <= a2 /\ a2 < (a0.length : Int) then ((Zi k a0 a1 a2 k ((a0.getD a2.toNat default).Count) 0).bind fun r2305 => (some r2305)) else none
theorem Qej (k : Nat) (a0 : (List Qd)) (a1 : (List Qb)) (a2 : Int) (r : Int) (h : Y6 k a0 a1 a2 = some r) : VC Try.prog 42 [VV.tr (flatMap Qc a0) a0.length, VV.tr (flatMap Qa a1) a1.length, vi a2] (vi r) := by
 unfold Y6 at h
 obtain ⟨h2281, h⟩ := ifn h
 have e2282 := (show Jw Try.prog 3 (a2.toNat * 4 + 3) (flatMap Qc a0) = some (vi ((a0.getD a2.toNat default).Count)) from (Yh ag3 Qc 4 3 Zg (by omega) a0 default h2281 (by omega)).trans rfl)
 obtain ⟨r2305, h2304, h⟩ := bs h
 have hph2304 := Qcx k a0 a1 a2 _ _ _ _ h2304
 have e2306 := (an (ti tt) (VRun.loop hph2304))
 injection h with h; subst h
 exact Qo pm pn Try.func42 (r0 := vi r2305) (ans := [.reg (.n :: []), .reg (nN 4 (.v (vi ((a0.getD a2.toNat default).Count)) :: .n :: [])), .reg (.n :: []), .sub ⟨[(0, none), (1, none), (2, none), (7, none), (8, none)], [], []⟩ (.exit 0) (Y5 a0 a1 a2 r2305), .reg (.n :: .n :: [])]) (fr := true) (by kernel_rfl) (an (an (ti tt) (an (ti (ti (an h2281 (ti (an e2282 (ti tt)))))) (an (an (ti tt) e2306) (an (ti (ti tt)) tt)))) (ti tt)) (Wv.refl _)
def Qrv (z0 : (List Qb)) (z1 : Int) (z2 : Int) : List Ans := (nN 4 (.v (vs ((z0.getD z1.toNat default).Mirror)) :: nN 4 (.v (vs ((z0.getD z2.toNat default).Mirror)) :: .n :: [])))
def Qrw (z0 : (List Qb)) (z1 : Int) (z2 : Int) : List Ans := (nN 3 (.v (VV.tr (flatMap Qa (sl z0 0 ((z1).toNat))) ((sl z0 0 ((z1).toNat)).length)) :: .n :: .call (vi z2) :: .n :: []))
def Xg (a0 : (List Qd)) (a1 : (List Qb)) (x6 : Int) (x7 : Int) : VS := ⟨mkA [(0, VV.tr (flatMap Qc a0) a0.length), (1, VV.tr (flatMap Qa a1) a1.length), (6, vi x6), (7, vi x7)], [], .nil⟩
def Xy (a0 : (List Qd)) (a1 : (List Qb)) (x6 : Int) (r : Unit) : VS := ⟨mkA [(4, vi 5)], [], .nil⟩
def Zq (a0 : (List Qd)) (a1 : (List Qb)) (x6 : Int) (r : Unit) : VS := ⟨mkA [(0, VV.tr (flatMap Qc a0) a0.length), (1, VV.tr (flatMap Qa a1) a1.length), (6, vi x6)], [], .nil⟩
def Qw (k : Nat) (a0 : (List Qd)) (a1 : (List Qb)) (x6 : Int) : Nat -> Int -> Option (Sum Unit Unit)
 | 0, _ => none
 | fuel + 1, x7 => if x7 < x6 then (if 0 <= x7 /\ x7 < (a1.length : Int) then (if 0 <= x6 /\ x6 < (a1.length : Int) then (if ((a1.getD x7.toNat default).Mirror) = ((a1.getD x6.toNat default).Mirror) then (some (.inl ())) else (Qw k a0 a1 x6 fuel (w64 (x7 + 1)))) else none) else none) else (some (.inr ()))
theorem Qaw (k : Nat) (a0 : (List Qd)) (a1 : (List Qb)) (x6 : Int) : ∀ (fuel : Nat) (x7 : Int) (r : Sum Unit Unit), Qw k a0 a1 x6 fuel x7 = some r -> (match r with | .inl r => Ya none Try.prog (szF Try.f23) (X9 Try.f23 1) (Xg a0 a1 x6 x7) .ret (Xy a0 a1 x6 r) | .inr r => Ya none Try.prog (szF Try.f23) (X9 Try.f23 1) (Xg a0 a1 x6 x7) (.exit 2) (Zq a0 a1 x6 r)) := by
 intro fuel
 induction fuel with
 | zero => intro x7 r h; rw [Qw.eq_1] at h; cases h
 | succ fuel ih =>
  intro x7 r h
  rw [Qw.eq_2] at h
  rcases ifs h with ⟨h2513, h⟩ | ⟨h2513, h⟩
  ·obtain ⟨h2514, h⟩ := ifn h
   have e2515 := (show Jw Try.prog 9 (x7.toNat * 2 + 0) (flatMap Qa a1) = some (vs ((a1.getD x7.toNat default).Mirror)) from (Yh ag9 Qa 2 0 Qj (by omega) a1 default h2514 (by omega)).trans rfl)
   obtain ⟨h2516, h⟩ := ifn h
   have e2517 := (show Jw Try.prog 9 (x6.toNat * 2 + 0) (flatMap Qa a1) = some (vs ((a1.getD x6.toNat default).Mirror)) from (Yh ag9 Qa 2 0 Qj (by omega) a1 default h2516 (by omega)).trans rfl)
   have e2518 := (ti (ti (an h2514 (ti (an e2515 (ti (ti (an h2516 (ti (an e2517 (ti tt)))))))))))
   rcases ifs h with ⟨h2519, h⟩ | ⟨h2519, h⟩
   ·injection h with h; subst h
    exact Qq (c := ⟨[(4, none)], [], []⟩) (s1 := (Xy a0 a1 x6 ())) pm pn (ans := [.reg (nN 3 []), .br true, .reg (Qrv a1 x7 x6), .br true, .reg (.n :: [])]) (by kernel_rfl) (by intro e; cases e) (an (an (an (ti (ti (ti tt))) (an (dt h2513) tt)) (an e2518 (an (dt h2519) (an (ti tt) tt)))) (ti tt))
   ·have h2 := ih _ _ h
    obtain ⟨q, hv, hq⟩ := pkR (rd := none) (P := Try.prog) (fn := Try.f23) (k := 1) (s := (Xg a0 a1 x6 x7)) (ans := [.reg (nN 3 []), .br true, .reg (Qrv a1 x7 x6), .br false, .reg (nN 3 [])]) (c := ⟨[(0, none), (1, none), (6, none), (7, none)], [], []⟩) (e := .normal) (s1 := (Xg a0 a1 x6 (w64 (x7 + 1)))) (an (an (an (ti (ti (ti tt))) (an (dt h2513) tt)) (an (an e2518 (an (df h2519) tt)) (ti (ti (ti tt))))) (ti tt)) (by kernel_rfl)
    cases r with
    | inl r => exact Qp pm pn hv hq h2
    | inr r =>
     exact Qp pm pn hv hq h2
  ·injection h with h; subst h
   exact Qq (c := ⟨[(0, none), (1, none), (6, none)], [], []⟩) (s1 := (Zq a0 a1 x6 ())) pm pn (ans := [.reg (nN 3 []), .br false]) (by kernel_rfl) (by intro e; cases e) (an (an (ti (ti (ti tt))) (an (df h2513) tt)) (ti tt))
def Xh (a0 : (List Qd)) (a1 : (List Qb)) (x6 : Int) : VS := ⟨mkA [(0, VV.tr (flatMap Qc a0) a0.length), (1, VV.tr (flatMap Qa a1) a1.length), (6, vi x6)], [], .nil⟩
def Zj (a0 : (List Qd)) (a1 : (List Qb)) (r : Int) : VS := ⟨mkA [(4, vi r)], [], .nil⟩
def Xz (a0 : (List Qd)) (a1 : (List Qb)) (r : Unit) : VS := ⟨mkA [], [], .nil⟩
def Qx (k : Nat) (a0 : (List Qd)) (a1 : (List Qb)) : Nat -> Int -> Option (Sum Int Unit)
 | 0, _ => none
 | fuel + 1, x6 => if x6 < (a1.length : Int) then (if 0 <= x6 /\ x6 < (a1.length : Int) then ((Xk k ((a1.getD x6.toNat default).Mirror)).bind fun r2494 => (if r2494 = true then ((Qw k a0 a1 x6 k 0).bind fun r2521 => (match r2521 with | .inl r2522 => (some (.inl 5)) | .inr r2523 => ((Z9 k a0 ((a1.getD x6.toNat default).Batch)).bind fun r2527 => (if r2527 < 0 then (some (.inl 6)) else (if 0 <= (0 : Int) /\ (0 : Int) <= x6 /\ x6 <= (a1.length : Int) then ((Y6 k a0 (sl a1 0 ((x6).toNat)) r2527).bind fun r2534 => (if r2534 < 1 then (some (.inl 20)) else (Qx k a0 a1 fuel (w64 (x6 + 1))))) else none))))) else (some (.inl 4)))) else none) else (some (.inr ()))
theorem Qax (k : Nat) (a0 : (List Qd)) (a1 : (List Qb)) : ∀ (fuel : Nat) (x6 : Int) (r : Sum Int Unit), Qx k a0 a1 fuel x6 = some r -> (match r with | .inl r => Ya none Try.prog (szF Try.f23) (X9 Try.f23 0) (Xh a0 a1 x6) .ret (Zj a0 a1 r) | .inr r => Ya none Try.prog (szF Try.f23) (X9 Try.f23 0) (Xh a0 a1 x6) (.exit 0) (Xz a0 a1 r)) := by
 intro fuel
 induction fuel with
 | zero => intro x6 r h; rw [Qx.eq_1] at h; cases h
 | succ fuel ih =>
  intro x6 r h
  rw [Qx.eq_2] at h
  rcases ifs h with ⟨h2491, h⟩ | ⟨h2491, h⟩
  ·obtain ⟨h2492, h⟩ := ifn h
   have e2493 := (show Jw Try.prog 9 (x6.toNat * 2 + 0) (flatMap Qa a1) = some (vs ((a1.getD x6.toNat default).Mirror)) from (Yh ag9 Qa 2 0 Qj (by omega) a1 default h2492 (by omega)).trans rfl)
   obtain ⟨r2494, h2495, h⟩ := bs h
   have e2496 := (Yn k ((a1.getD x6.toNat default).Mirror) _ h2495)
   have e2497 := (ti (ti (an h2492 (ti (an e2493 (an e2496 (ti tt)))))))
   rcases ifs h with ⟨h2498, h⟩ | ⟨h2498, h⟩
   ·obtain ⟨r2521, h2520, h⟩ := bs h
    have hph2520 := Qaw k a0 a1 x6 _ _ _ h2520
    cases r2521 with
    | inl r2522 =>
     dsimp only at h
     have e2524 := (an (ti tt) (VRun.loop hph2520))
     injection h with h; subst h
     exact Qq (c := ⟨[(4, none)], [], []⟩) (s1 := (Zj a0 a1 5)) pm pn (ans := [.reg (nN 4 []), .br true, .reg (nN 4 (.v (vs ((a1.getD x6.toNat default).Mirror)) :: .call (vb r2494) :: .n :: [])), .br false, .reg (.n :: []), .sub ⟨[(0, none), (1, none), (6, none), (7, none)], [], []⟩ .ret (Xy a0 a1 x6 r2522)]) (by kernel_rfl) (by intro e; cases e) (an (an (an (ti (ti (ti (ti tt)))) (an (dt h2491) tt)) (an (an e2497 (an (Ql h2498) tt)) (an (ti tt) e2524))) (ti tt))
    | inr r2523 =>
     dsimp only at h
     have e2525 := (an (ti tt) (VRun.loop hph2520))
     have e2526 := (show Jw Try.prog 9 (x6.toNat * 2 + 1) (flatMap Qa a1) = some (vs ((a1.getD x6.toNat default).Batch)) from (Yh ag9 Qa 2 1 Qj (by omega) a1 default h2492 (by omega)).trans rfl)
     obtain ⟨r2527, h2528, h⟩ := bs h
     have e2529 := (Qay k a0 ((a1.getD x6.toNat default).Batch) _ h2528)
     have e2530 := (ti (ti (ti (an h2492 (ti (an e2526 (an e2529 (ti tt))))))))
     rcases ifs h with ⟨h2531, h⟩ | ⟨h2531, h⟩
     ·injection h with h; subst h
      exact Qq (c := ⟨[(4, none)], [], []⟩) (s1 := (Zj a0 a1 6)) pm pn (ans := [.reg (nN 4 []), .br true, .reg (nN 4 (.v (vs ((a1.getD x6.toNat default).Mirror)) :: .call (vb r2494) :: .n :: [])), .br false, .reg (.n :: []), .sub ⟨[(0, none), (1, none), (6, none), (7, none)], [], []⟩ (.exit 2) (Zq a0 a1 x6 r2523), .reg (nN 5 (.v (vs ((a1.getD x6.toNat default).Batch)) :: .call (vi r2527) :: .n :: [])), .reg (.n :: .n :: []), .br true, .reg (.n :: [])]) (by kernel_rfl) (by intro e; cases e) (an (an (an (ti (ti (ti (ti tt)))) (an (dt h2491) tt)) (an (an e2497 (an (Ql h2498) tt)) (an (an (ti tt) e2525) (an e2530 (an (ti (ti tt)) (an (dt h2531) (an (ti tt) tt))))))) (ti tt))
     ·obtain ⟨h2532, h⟩ := ifn h
      have e2533 := (show (True /\ 0 <= x6 /\ 0 <= (x6).toNat /\ (x6).toNat <= a1.length /\ (x6).toNat * 2 <= List.length (flatMap Qa a1)) /\ VV.tr (List.take (((x6).toNat - 0) * 2) (List.drop (0 * 2) (flatMap Qa a1))) ((x6).toNat - 0) = VV.tr (flatMap Qa (sl a1 0 ((x6).toNat))) ((sl a1 0 ((x6).toNat)).length) from ⟨⟨tt, (by have := h2532; omega), (by have := h2532; omega), (by have := h2532; omega), (by rw [J4 Qj]; have := h2532; omega)⟩, (by exact Qwp Qj a1 0 ((x6).toNat) (by have := h2532; omega) (by have := h2532; omega))⟩)
      obtain ⟨r2534, h2535, h⟩ := bs h
      have e2536 := (Qej k a0 (sl a1 0 ((x6).toNat)) r2527 _ h2535)
      have e2537 := (ti (ti (ti (an e2533 (ti (an e2536 (ti tt)))))))
      rcases ifs h with ⟨h2538, h⟩ | ⟨h2538, h⟩
      ·injection h with h; subst h
       exact Qq (c := ⟨[(4, none)], [], []⟩) (s1 := (Zj a0 a1 20)) pm pn (ans := [.reg (nN 4 []), .br true, .reg (nN 4 (.v (vs ((a1.getD x6.toNat default).Mirror)) :: .call (vb r2494) :: .n :: [])), .br false, .reg (.n :: []), .sub ⟨[(0, none), (1, none), (6, none), (7, none)], [], []⟩ (.exit 2) (Zq a0 a1 x6 r2523), .reg (nN 5 (.v (vs ((a1.getD x6.toNat default).Batch)) :: .call (vi r2527) :: .n :: [])), .reg (.n :: .n :: []), .br false, .reg (Qrw a1 x6 r2534), .br true, .reg (.n :: [])]) (by kernel_rfl) (by intro e; cases e) (an (an (an (ti (ti (ti (ti tt)))) (an (dt h2491) tt)) (an (an e2497 (an (Ql h2498) tt)) (an (an (ti tt) e2525) (an e2530 (an (an (ti (ti tt)) (an (df h2531) tt)) (an e2537 (an (dt h2538) (an (ti tt) tt)))))))) (ti tt))
      ·have h2 := ih _ _ h
       obtain ⟨q, hv, hq⟩ := pkR (rd := none) (P := Try.prog) (fn := Try.f23) (k := 0) (s := (Xh a0 a1 x6)) (ans := [.reg (nN 4 []), .br true, .reg (nN 4 (.v (vs ((a1.getD x6.toNat default).Mirror)) :: .call (vb r2494) :: .n :: [])), .br false, .reg (.n :: []), .sub ⟨[(0, none), (1, none), (6, none), (7, none)], [], []⟩ (.exit 2) (Zq a0 a1 x6 r2523), .reg (nN 5 (.v (vs ((a1.getD x6.toNat default).Batch)) :: .call (vi r2527) :: .n :: [])), .reg (.n :: .n :: []), .br false, .reg (Qrw a1 x6 r2534), .br false, .reg (nN 3 [])]) (c := ⟨[(0, none), (1, none), (6, none)], [], []⟩) (e := .normal) (s1 := (Xh a0 a1 (w64 (x6 + 1)))) (an (an (an (ti (ti (ti (ti tt)))) (an (dt h2491) tt)) (an (an (an e2497 (an (Ql h2498) tt)) (an (an (ti tt) e2525) (an e2530 (an (an (ti (ti tt)) (an (df h2531) tt)) (an e2537 (an (df h2538) tt)))))) (ti (ti (ti tt))))) (ti tt)) (by kernel_rfl)
       cases r with
       | inl r => exact Qp pm pn hv hq h2
       | inr r =>
        exact Qp pm pn hv hq h2
   ·injection h with h; subst h
    exact Qq (c := ⟨[(4, none)], [], []⟩) (s1 := (Zj a0 a1 4)) pm pn (ans := [.reg (nN 4 []), .br true, .reg (nN 4 (.v (vs ((a1.getD x6.toNat default).Mirror)) :: .call (vb r2494) :: .n :: [])), .br true, .reg (.n :: [])]) (by kernel_rfl) (by intro e; cases e) (an (an (an (ti (ti (ti (ti tt)))) (an (dt h2491) tt)) (an e2497 (an (Zd (Qz h2498)) (an (ti tt) tt)))) (ti tt))
  ·injection h with h; subst h
   exact Qq (c := ⟨[], [], []⟩) (s1 := (Xz a0 a1 ())) pm pn (ans := [.reg (nN 4 []), .br false]) (by kernel_rfl) (by intro e; cases e) (an (an (ti (ti (ti (ti tt)))) (an (df h2491) tt)) (ti tt))
def Z8 (k : Nat) (a0 : (List Qd)) (a1 : (List Qb)) : Option Int :=
 (Xp k a0).bind fun r2414 => (if r2414 = 0 then (if 200 < (a1.length : Int) then (some 8) else ((Qx k a0 a1 k 0).bind fun r2540 => (match r2540 with | .inl r2541 => (some r2541) | .inr r2542 => (some 0)))) else (some r2414))
theorem Wx (k : Nat) (a0 : (List Qd)) (a1 : (List Qb)) (r : Int) (h : Z8 k a0 a1 = some r) : VC Try.prog 23 [VV.tr (flatMap Qc a0) a0.length, VV.tr (flatMap Qa a1) a1.length] (vi r) := by
 unfold Z8 at h
 obtain ⟨r2414, h2415, h⟩ := bs h
 have e2416 := (Qb1 k a0 _ h2415)
 rcases ifs h with ⟨h2417, h⟩ | ⟨h2417, h⟩
 ·rcases ifs h with ⟨h2418, h⟩ | ⟨h2418, h⟩
  ·injection h with h; subst h
   exact Qo pm pn Try.func23 (r0 := vi 8) (ans := [.reg (.n :: []), .reg (.n :: .call (vi r2414) :: .n :: []), .reg (.n :: .n :: []), .br false, .reg (nN 3 []), .br true, .reg (.n :: [])]) (fr := true) (by kernel_rfl) (an (an (ti tt) (an (an (ti (an e2416 (ti tt))) (an (ti (ti tt)) (an (Ql (dt h2417)) tt))) (an (ti (ti (ti tt))) (an (dt h2418) (an (ti tt) tt))))) (ti tt)) (Wv.refl _)
  ·obtain ⟨r2540, h2539, h⟩ := bs h
   have hph2539 := Qax k a0 a1 _ _ _ h2539
   cases r2540 with
   | inl r2541 =>
    dsimp only at h
    have e2543 := (an (ti tt) (VRun.loop hph2539))
    injection h with h; subst h
    exact Qo pm pn Try.func23 (r0 := vi r2541) (ans := [.reg (.n :: []), .reg (.n :: .call (vi r2414) :: .n :: []), .reg (.n :: .n :: []), .br false, .reg (nN 3 []), .br false, .reg (.n :: []), .sub ⟨[(0, none), (1, none), (6, none)], [], []⟩ .ret (Zj a0 a1 r2541)]) (fr := true) (by kernel_rfl) (an (an (ti tt) (an (an (ti (an e2416 (ti tt))) (an (ti (ti tt)) (an (Ql (dt h2417)) tt))) (an (an (ti (ti (ti tt))) (an (df h2418) tt)) (an (ti tt) e2543)))) (ti tt)) (Wv.refl _)
   | inr r2542 =>
    dsimp only at h
    have e2544 := (an (ti tt) (VRun.loop hph2539))
    injection h with h; subst h
    exact Qo pm pn Try.func23 (r0 := vi 0) (ans := [.reg (.n :: []), .reg (.n :: .call (vi r2414) :: .n :: []), .reg (.n :: .n :: []), .br false, .reg (nN 3 []), .br false, .reg (.n :: []), .sub ⟨[(0, none), (1, none), (6, none)], [], []⟩ (.exit 0) (Xz a0 a1 r2542), .reg (.n :: [])]) (fr := true) (by kernel_rfl) (an (an (ti tt) (an (an (ti (an e2416 (ti tt))) (an (ti (ti tt)) (an (Ql (dt h2417)) tt))) (an (an (ti (ti (ti tt))) (an (df h2418) tt)) (an (an (ti tt) e2544) (an (ti tt) tt))))) (ti tt)) (Wv.refl _)
 ·injection h with h; subst h
  exact Qo pm pn Try.func23 (r0 := vi r2414) (ans := [.reg (.n :: []), .reg (.n :: .call (vi r2414) :: .n :: []), .reg (.n :: .n :: []), .br true, .reg (.n :: .n :: [])]) (fr := true) (by kernel_rfl) (an (an (ti tt) (an (ti (an e2416 (ti tt))) (an (ti (ti tt)) (an (Zd (df h2417)) (an (ti (ti tt)) tt))))) (ti tt)) (Wv.refl _)
end Go.Proofs.Ytfeedchjdnedjaa.Vg

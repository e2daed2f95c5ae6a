import Derived.Test.YtjomicmhnbmhoaaBL
namespace Go.Proofs.Ytjomicmhnbmhoaa.Vg
set_option maxRecDepth 100000
set_option maxHeartbeats 4000000
set_option linter.unusedVariables false
set_option linter.unusedSimpArgs false
open Go Go.Proofs.Ytjomicmhnbmhoaa.Ev Go.Proofs.Ytjomicmhnbmhoaa.Vv
open List (flatMap length_cons length_nil length_map length_append map_cons map_nil length_replicate)
theorem Q0s (z0 : Qc) (z1 : A26) (z2 : (List Qa)) (z3 : Qbs) : [VV.ag (Zt (⟨maxI (-25920000) (w64 (z0.Least - z1.e0)), minI 25920000 (w64 (z0.Most + z1.e1)), z0.Low, z0.High, z0.Speed, z0.Refraction, z0.Drift⟩ : Qc)), VV.tr (flatMap Qe z2) z2.length, VV.ag (Qbv z3.At)] = [VV.ag [vi (maxI (-25920000) (w64 (z0.Least - z1.e0))), vi (minI 25920000 (w64 (z0.Most + z1.e1))), vi z0.Low, vi z0.High, vi z0.Speed, VV.tr (flatMap Qi z0.Refraction) z0.Refraction.length, VV.tr (flatMap Qi z0.Drift) z0.Drift.length], VV.tr (flatMap Qe z2) z2.length, VV.ag (Qbv z3.At)] := by first | rfl | (simp only [Qk, map_cons, map_nil, un_i, Jd, length_cons, length_nil, X0, Yt, Xm, Yu]; done) | (simp only [Qk, map_cons, map_nil, un_i, Jd, length_cons, length_nil, X0, Yt, Xm, Yu]; rfl) | (simp only [Qk, map_cons, map_nil, un_i, Jd, length_cons, length_nil, X0, Yt, Xm, Yu, Zt, Qe, Qi, length_cons, length_nil, length_append]; done)
def Qau (k : Nat) (a0 : Qc) (a1 : Qa) (a2 : Int) : Option Int :=
 (Yd k a0).bind fun r6787 => (if r6787 = 0 then ((Jq k a1).bind fun r6791 => (if r6791 = 0 then ((Yi k a2).bind fun r6795 => (some r6795)) else (some r6791))) else (some r6787))
theorem Qf8 (k : Nat) (a0 : Qc) (a1 : Qa) (a2 : Int) (r : Int) (h : Qau k a0 a1 a2 = some r) : VC Try.prog 43 [VV.ag (Zt a0), VV.ag (Qe a1), vi a2] (vi r) := by
 unfold Qau at h
 obtain ⟨r6787, h6788, h⟩ := bs h
 have e6789 := (ti (an (Qcr k a0 _ h6788) (ti tt)))
 rcases ifs h with ⟨h6790, h⟩ | ⟨h6790, h⟩
 ·obtain ⟨r6791, h6792, h⟩ := bs h
  have e6793 := (ti (an (Qce k a1 _ h6792) (ti tt)))
  rcases ifs h with ⟨h6794, h⟩ | ⟨h6794, h⟩
  ·obtain ⟨r6795, h6796, h⟩ := bs h
   have e6797 := (ti (an (Qdn k a2 _ h6796) (ti tt)))
   injection h with h; subst h
   exact Qn pm pn Try.func43 (r0 := vi r6795) (ans := [.reg (nN 3 []), .reg (.n :: .call (vi r6787) :: .n :: []), .reg (.n :: .n :: []), .br false, .reg (.n :: .call (vi r6791) :: .n :: []), .reg (.n :: .n :: []), .br false, .reg (.n :: .call (vi r6795) :: .n :: [])]) (fr := true) (by kernel_rfl) (an (an (ti (ti (ti tt))) (an (an e6789 (an (ti (ti tt)) (an (Qu (dt h6790)) tt))) (an (an e6793 (an (ti (ti tt)) (an (Qu (dt h6794)) tt))) (an e6797 tt)))) (ti tt)) (Wv.refl _)
  ·injection h with h; subst h
   exact Qn pm pn Try.func43 (r0 := vi r6791) (ans := [.reg (nN 3 []), .reg (.n :: .call (vi r6787) :: .n :: []), .reg (.n :: .n :: []), .br false, .reg (.n :: .call (vi r6791) :: .n :: []), .reg (.n :: .n :: []), .br true, .reg (.n :: .n :: [])]) (fr := true) (by kernel_rfl) (an (an (ti (ti (ti tt))) (an (an e6789 (an (ti (ti tt)) (an (Qu (dt h6790)) tt))) (an e6793 (an (ti (ti tt)) (an (Zj (df h6794)) (an (ti (ti tt)) tt)))))) (ti tt)) (Wv.refl _)
 ·injection h with h; subst h
  exact Qn pm pn Try.func43 (r0 := vi r6787) (ans := [.reg (nN 3 []), .reg (.n :: .call (vi r6787) :: .n :: []), .reg (.n :: .n :: []), .br true, .reg (.n :: .n :: [])]) (fr := true) (by kernel_rfl) (an (an (ti (ti (ti tt))) (an e6789 (an (ti (ti tt)) (an (Zj (df h6790)) (an (ti (ti tt)) tt))))) (ti tt)) (Wv.refl _)
theorem Q0t (z0 : Int) : VV.tu [VV.ag [vi 0, vi 0], vi z0] = VV.tu [VV.ag (Qbv (⟨0, 0⟩ : A26)), vi z0] := by first | rfl | (simp only [Qk, map_cons, map_nil, un_i, Yu]; done) | (simp only [Qk, map_cons, map_nil, un_i, Yu]; rfl) | (simp only [Qk, map_cons, map_nil, un_i, Yu, length_cons, length_nil, length_append]; done)
def Qak (k : Nat) (a0 : Qc) (a1 : Qa) (a2 : Int) : Option (A26 × Int) :=
 (Qau k a0 a1 a2).bind fun r6805 => (if r6805 = 0 then ((Y7 k a0 a1 a2).bind fun r6809 => (some (r6809, 0))) else (some ((⟨0, 0⟩ : A26), r6805)))
theorem Qgv (k : Nat) (a0 : Qc) (a1 : Qa) (a2 : Int) (r : (A26 × Int)) (h : Qak k a0 a1 a2 = some r) : VC Try.prog 17 [VV.ag (Zt a0), VV.ag (Qe a1), vi a2] (VV.tu [VV.ag (Qbv r.1), vi r.2]) := by
 unfold Qak at h
 obtain ⟨r6805, h6806, h⟩ := bs h
 have e6807 := (Qf8 k a0 a1 a2 _ h6806)
 rcases ifs h with ⟨h6808, h⟩ | ⟨h6808, h⟩
 ·obtain ⟨r6809, h6810, h⟩ := bs h
  have e6811 := (ti (ti (ti (an (Qdo k a0 a1 a2 _ h6810) (ti (ti tt))))))
  injection h with h; subst h
  exact Qn pm pn Try.func17 (r0 := VV.tu [VV.ag (Qbv r6809), vi 0]) (ans := [.reg (nN 4 []), .reg (nN 3 (.call (vi r6805) :: .n :: [])), .reg (.n :: .n :: []), .br false, .reg (nN 3 (.call (VV.ag (Qbv r6809)) :: .n :: .n :: []))]) (fr := true) (by kernel_rfl) (an (an (ti (ti (ti (ti tt)))) (an (an (ti (ti (ti (an e6807 (ti tt))))) (an (ti (ti tt)) (an (Qu (dt h6808)) tt))) (an e6811 tt))) (an (ti (ti (ti tt))) (ti tt))) (Wv.refl _)
 ·injection h with h; subst h
  exact Qn pm pn Try.func17 (r0 := VV.tu [VV.ag [vi 0, vi 0], vi r6805]) (ans := [.reg (nN 4 []), .reg (nN 3 (.call (vi r6805) :: .n :: [])), .reg (.n :: .n :: []), .br true, .reg (nN 4 [])]) (fr := true) (by kernel_rfl) (an (an (ti (ti (ti (ti tt)))) (an (ti (ti (ti (an e6807 (ti tt))))) (an (ti (ti tt)) (an (Zj (df h6808)) (an (ti (ti (ti (ti tt)))) tt))))) (an (ti (ti (ti tt))) (ti tt))) (Wv.of_eq (Q0t r6805))
def Qnr (z0 : Qc) (z1 : Qbs) (z2 : Int) (z3 : (A26 × Int)) : List Ans := (.n :: .n :: .call (VV.ag (Y1 z0)) :: nN 4 (.v (VV.ag (Qe (z1.Targets.getD z2.toNat default))) :: nN 3 (.call (VV.tu [VV.ag (Qbv z3.1), vi z3.2]) :: nN 6 [])))
def Qqt (z0 : (Xw × Int × Int)) (z1 : Int) (z2 : Bool) : List Ans := (nN 7 (.v (vi (z0.1.Turns.getD z1.toNat 0)) :: .call (vb z2) :: .n :: .b false :: []))
def Qje (z0 : Bool) (z1 : Bool) (z2 : Bool) : List Ans := (.n :: .call (vb z0) :: nN 4 (.call (vb z1) :: .n :: .b false :: nN 3 (.call (vb z2) :: .n :: .b false :: [])))
def Qk9 (z0 : Qc) (z1 : (List Qa)) (z2 : (Xw × Int × Int)) : List Ans := (.n :: .n :: .call (VV.ag (Y1 z0)) :: .n :: .n :: .call (VV.fr (flatMap Qe z1) z1.length) :: .n :: .n :: .call (VV.tu [VV.ag (Qal z2.1), vi z2.2.1, vi z2.2.2]) :: nN 8 [])
def Qqu (z0 : (List Qa)) (z1 : (Xw × Int × Int)) : List Ans := (nN 3 (.call (VV.fr (flatMap Qe z0) z0.length) :: .n :: .n :: .call (VV.tu [VV.ag (Qal z1.1), vi z1.2.1, vi z1.2.2]) :: nN 8 []))
def Zo (a0 : Qbs) (a1 : A26) (r6943 : (Xw × Int × Int)) (x12 : Int) (x13 : Int) (x14 : Int) : VS := ⟨mkA [(2, VV.pt 0 0), (5, VV.pt 2 0), (6, vi r6943.2.1), (12, vi x12), (13, vi x13), (14, vi x14)], [some ⟨true, 1, Qdw a0⟩, some ⟨true, 1, Qbv a1⟩, some ⟨true, 1, Qal r6943.1⟩], .nil⟩
def Zw (a0 : Qbs) (a1 : A26) (r6943 : (Xw × Int × Int)) (r : Unit) : VS := ⟨mkA [(4, vb false)], [], .nil⟩
def X3 (a0 : Qbs) (a1 : A26) (r6943 : (Xw × Int × Int)) (r : Int) : VS := ⟨mkA [(6, vi r6943.2.1), (12, vi r)], [], .nil⟩
def Qs (k : Nat) (a0 : Qbs) (a1 : A26) (r6943 : (Xw × Int × Int)) : Nat -> Int -> Int -> Int -> Option (Sum Unit Int)
 | 0, _, _, _ => none
 | fuel + 1, x12, x13, x14 => if x14 < (a0.Targets.length : Int) then ((X6 k a0.Mount).bind fun r7044 => (if 0 <= x14 /\ x14 < (a0.Targets.length : Int) then ((Qak k r7044 (a0.Targets.getD x14.toNat default) a0.At.e0).bind fun r7050 => (if r7050.2 = 0 then (if 0 <= x14 /\ x14 < (r6943.1.Turns.length : Int) then ((Xo k (r6943.1.Turns.getD x14.toNat 0) (-30) 30).bind fun r7061 => (if r7061 = true then ((Qd5 k x13 (w64 (r7050.1.e0 + (w64 ((r6943.1.Turns.getD x14.toNat 0) * 1296000))))).bind fun r7070 => (if r7070.2.2 = 0 then (if r7070.2.1 = true then (Qs k a0 a1 r6943 fuel (w64 (x12 + 1)) (w64 (r7050.1.e0 + (w64 ((r6943.1.Turns.getD x14.toNat 0) * 1296000)))) (w64 (x14 + 1))) else (Qs k a0 a1 r6943 fuel x12 (w64 (r7050.1.e0 + (w64 ((r6943.1.Turns.getD x14.toNat 0) * 1296000)))) (w64 (x14 + 1)))) else (some (.inl ())))) else (some (.inl ())))) else none) else (some (.inl ())))) else none)) else (some (.inr x12))
theorem Qbl (k : Nat) (a0 : Qbs) (a1 : A26) (r6943 : (Xw × Int × Int)) : ∀ (fuel : Nat) (x12 : Int) (x13 : Int) (x14 : Int) (r : Sum Unit Int), Qs k a0 a1 r6943 fuel x12 x13 x14 = some r -> (match r with | .inl r => Y9 none Try.prog (szF Try.f4) (Yb Try.f4 0) (Zo a0 a1 r6943 x12 x13 x14) .ret (Zw a0 a1 r6943 r) | .inr r => Y9 none Try.prog (szF Try.f4) (Yb Try.f4 0) (Zo a0 a1 r6943 x12 x13 x14) (.exit 0) (X3 a0 a1 r6943 r)) := by
 intro fuel
 induction fuel with
 | zero => intro x12 x13 x14 r h; rw [Qs.eq_1] at h; cases h
 | succ fuel ih =>
  intro x12 x13 x14 r h
  rw [Qs.eq_2] at h
  rcases ifs h with ⟨h7043, h⟩ | ⟨h7043, h⟩
  ·obtain ⟨r7044, h7045, h⟩ := bs h
   have e7046 := (Wl k a0.Mount _ h7045)
   obtain ⟨h7047, h⟩ := ifn h
   have e7048 := (show Z4 Try.prog 52 (x14.toNat * 6) (flatMap Qe a0.Targets) = some (VV.ag (Qe (a0.Targets.getD x14.toNat default))) from Qdp ag52 Qe 6 sz52 X9 a0.Targets default h7047 (by omega))
   have e7049 := (show (0:Int) <= 0 /\ (0:Int) < ((2 : Nat) : Int) from ⟨by decide, by decide⟩)
   obtain ⟨r7050, h7051, h⟩ := bs h
   have e7052 := (Qgv k r7044 (a0.Targets.getD x14.toNat default) a0.At.e0 _ h7051)
   have e7053 := (ti (ti (an e7046 (ti (ti (ti (an h7047 (an e7048 (ti (an e7049 (ti (an e7052 (ti (ti (ti (ti (ti (ti tt))))))))))))))))))
   rcases ifs h with ⟨h7054, h⟩ | ⟨h7054, h⟩
   ·have e7055 := (an (Qu (dt h7054)) tt)
    have e7056 := (an (Qu (dt h7054)) tt)
    have e7057 := (an (Qu (dt h7054)) tt)
    obtain ⟨h7058, h⟩ := ifn h
    have e7059 := (an (Qu (dt h7054)) h7058)
    have e7060 := (an (Qu (dt h7054)) (show Z4 Try.prog 3 (x14.toNat * 1) (List.map vi r6943.1.Turns) = some (vi (r6943.1.Turns.getD x14.toNat 0)) from Yr ag3 vi r6943.1.Turns 0 h7058 (by omega)))
    obtain ⟨r7061, h7062, h⟩ := bs h
    have e7063 := (an (Qu (dt h7054)) (Wn k (r6943.1.Turns.getD x14.toNat 0) (-30) 30 _ h7062))
    have e7064 := (an (Qu (dt h7054)) tt)
    have e7065 := (ti (ti (ti (an e7055 (an e7056 (an e7057 (an e7059 (an e7060 (an e7063 (an e7064 (an (Qu (dt h7054)) tt)))))))))))
    rcases ifs h with ⟨h7066, h⟩ | ⟨h7066, h⟩
    ·have e7067 := (show (0:Int) <= 0 /\ (0:Int) < ((2 : Nat) : Int) from ⟨by decide, by decide⟩)
     have e7068 := (show Z4 Try.prog 3 (x14.toNat * 1) (List.map vi r6943.1.Turns) = some (vi (r6943.1.Turns.getD x14.toNat 0)) from Yr ag3 vi r6943.1.Turns 0 h7058 (by omega))
     have e7069 := (an e7067 (ti (ti (ti (ti (an h7058 (an e7068 (ti (ti (ti tt))))))))))
     obtain ⟨r7070, h7071, h⟩ := bs h
     have e7072 := (Ql6 k x13 (w64 (r7050.1.e0 + (w64 ((r6943.1.Turns.getD x14.toNat 0) * 1296000)))) _ h7071)
     have e7073 := (ti (ti (an e7072 (ti (ti (ti (ti (ti (ti (ti tt))))))))))
     rcases ifs h with ⟨h7074, h⟩ | ⟨h7074, h⟩
     ·rcases ifs h with ⟨h7075, h⟩ | ⟨h7075, h⟩
      ·have h2 := ih _ _ _ _ h
       obtain ⟨q, hv, hq⟩ := pkR (rd := none) (P := Try.prog) (fn := Try.f4) (k := 0) (s := (Zo a0 a1 r6943 x12 x13 x14)) (ans := [.reg (nN 5 []), .br true, .reg (Qnr r7044 a0 x14 r7050), .reg (Qqt r6943 x14 r7061), .br false, .reg (nN 6 (.v (vi (r6943.1.Turns.getD x14.toNat 0)) :: nN 3 [])), .reg (.n :: .n :: .call (VV.tu [vi r7070.1, vb r7070.2.1, vi r7070.2.2]) :: nN 7 []), .reg (.n :: .n :: []), .br false, .reg (.n :: []), .br true, .reg (nN 3 []), .reg (.n :: .n :: []), .reg (nN 3 [])]) (c := ⟨[(2, none), (5, none), (6, none), (12, none), (13, none), (14, none)], [none, none, none], []⟩) (e := .normal) (s1 := (Zo a0 a1 r6943 (w64 (x12 + 1)) (w64 (r7050.1.e0 + (w64 ((r6943.1.Turns.getD x14.toNat 0) * 1296000)))) (w64 (x14 + 1)))) (an (an (an (ti (ti (ti (ti (ti tt))))) (an (dt h7043) tt)) (an (an e7053 (an (an e7065 (an (Qu h7066) tt)) (an e7069 (an e7073 (an (an (ti (ti tt)) (an (Qu (dt h7074)) tt)) (an (an (ti tt) (an h7075 (ti (ti (ti tt))))) (ti (ti tt)))))))) (ti (ti (ti tt))))) (ti tt)) (by kernel_rfl)
       cases r with
       | inl r => exact Zc pm pn hv hq h2
       | inr r =>
        exact Zc pm pn hv hq h2
      ·have h2 := ih _ _ _ _ h
       obtain ⟨q, hv, hq⟩ := pkR (rd := none) (P := Try.prog) (fn := Try.f4) (k := 0) (s := (Zo a0 a1 r6943 x12 x13 x14)) (ans := [.reg (nN 5 []), .br true, .reg (Qnr r7044 a0 x14 r7050), .reg (Qqt r6943 x14 r7061), .br false, .reg (nN 6 (.v (vi (r6943.1.Turns.getD x14.toNat 0)) :: nN 3 [])), .reg (.n :: .n :: .call (VV.tu [vi r7070.1, vb r7070.2.1, vi r7070.2.2]) :: nN 7 []), .reg (.n :: .n :: []), .br false, .reg (.n :: []), .br false, .reg (.n :: .n :: []), .reg (nN 3 [])]) (c := ⟨[(2, none), (5, none), (6, none), (12, none), (13, none), (14, none)], [none, none, none], []⟩) (e := .normal) (s1 := (Zo a0 a1 r6943 x12 (w64 (r7050.1.e0 + (w64 ((r6943.1.Turns.getD x14.toNat 0) * 1296000)))) (w64 (x14 + 1)))) (an (an (an (ti (ti (ti (ti (ti tt))))) (an (dt h7043) tt)) (an (an e7053 (an (an e7065 (an (Qu h7066) tt)) (an e7069 (an e7073 (an (an (ti (ti tt)) (an (Qu (dt h7074)) tt)) (an (an (ti tt) (an (Qx h7075) tt)) (ti (ti tt)))))))) (ti (ti (ti tt))))) (ti tt)) (by kernel_rfl)
       cases r with
       | inl r => exact Zc pm pn hv hq h2
       | inr r =>
        exact Zc pm pn hv hq h2
     ·injection h with h; subst h
      exact Zi (c := ⟨[(4, none)], [], []⟩) (s1 := (Zw a0 a1 r6943 ())) pm pn (ans := [.reg (nN 5 []), .br true, .reg (Qnr r7044 a0 x14 r7050), .reg (Qqt r6943 x14 r7061), .br false, .reg (nN 6 (.v (vi (r6943.1.Turns.getD x14.toNat 0)) :: nN 3 [])), .reg (.n :: .n :: .call (VV.tu [vi r7070.1, vb r7070.2.1, vi r7070.2.2]) :: nN 7 []), .reg (.n :: .n :: []), .br true, .reg (.n :: [])]) (by kernel_rfl) (by intro e; cases e) (an (an (an (ti (ti (ti (ti (ti tt))))) (an (dt h7043) tt)) (an e7053 (an (an e7065 (an (Qu h7066) tt)) (an e7069 (an e7073 (an (ti (ti tt)) (an (Zj (df h7074)) (an (ti tt) tt)))))))) (ti tt))
    ·injection h with h; subst h
     exact Zi (c := ⟨[(4, none)], [], []⟩) (s1 := (Zw a0 a1 r6943 ())) pm pn (ans := [.reg (nN 5 []), .br true, .reg (Qnr r7044 a0 x14 r7050), .reg (Qqt r6943 x14 r7061), .br true, .reg (.n :: [])]) (by kernel_rfl) (by intro e; cases e) (an (an (an (ti (ti (ti (ti (ti tt))))) (an (dt h7043) tt)) (an e7053 (an e7065 (an (Zj (Qx h7066)) (an (ti tt) tt))))) (ti tt))
   ·have e7076 := (ti (ti (ti (an (Zj (df h7054)) (an (Zj (df h7054)) (an (Zj (df h7054)) (an (Zj (df h7054)) (an (Zj (df h7054)) (an (Zj (df h7054)) (an (Zj (df h7054)) (an (Zj (df h7054)) tt)))))))))))
    injection h with h; subst h
    exact Zi (c := ⟨[(4, none)], [], []⟩) (s1 := (Zw a0 a1 r6943 ())) pm pn (ans := [.reg (nN 5 []), .br true, .reg (Qnr r7044 a0 x14 r7050), .reg (nN 3 (nS 7 (.b true :: []))), .br true, .reg (.n :: [])]) (by kernel_rfl) (by intro e; cases e) (an (an (an (ti (ti (ti (ti (ti tt))))) (an (dt h7043) tt)) (an e7053 (an e7076 (an rt (an (ti tt) tt))))) (ti tt))
  ·injection h with h; subst h
   exact Zi (c := ⟨[(6, none), (12, none)], [], []⟩) (s1 := (X3 a0 a1 r6943 x12)) pm pn (ans := [.reg (nN 5 []), .br false]) (by kernel_rfl) (by intro e; cases e) (an (an (ti (ti (ti (ti (ti tt))))) (an (df h7043) tt)) (ti tt))
def Q0u (z0 : Bool) (z1 : Bool) : List Ans := (.n :: .call (vb z0) :: nN 4 (.call (vb z1) :: .n :: .b false :: .n :: nS 4 (.b true :: [])))
def Jh (k : Nat) (a0 : Qbs) (a1 : A26) : Option Bool :=
 (Qt8 k).bind fun r6920 => (if r6920 = true then ((Jv k a0).bind fun r6923 => (if r6923 = true then ((Xo k a1.e0 0 3000000).bind fun r6927 => (if r6927 = true then ((Xo k a1.e1 0 3000000).bind fun r6932 => (if r6932 = true then ((X6 k a0.Mount).bind fun r6937 => ((Jb k a0.Targets).bind fun r6940 => ((Wp k r6937 r6940 a0.At).bind fun r6943 => (if r6943.2.2 = 0 then (if (r6943.1.Turns.length : Int) = (a0.Targets.length : Int) then ((Wp k (⟨maxI (-25920000) (w64 (r6937.Least - a1.e0)), minI 25920000 (w64 (r6937.Most + a1.e1)), r6937.Low, r6937.High, r6937.Speed, r6937.Refraction, r6937.Drift⟩ : Qc) r6940 a0.At).bind fun r6964 => (if r6964.2.2 = 0 then (if r6943.2.1 < r6964.2.1 then (some false) else ((Qs k a0 a1 r6943 k 0 a0.At.e1 0).bind fun r7078 => (match r7078 with | .inl r7079 => (some false) | .inr r7080 => ((Wq k r6943.2.1 10000000000).bind fun r7083 => (some (decide (r7080 = r7083))))))) else (some false))) else (some (!(decide (r6943.2.2 = 0))))) else (some (!(decide (r6943.2.2 = 0)))))))) else (some true))) else (some true))) else (some true))) else (some false))
theorem Qcx (k : Nat) (a0 : Qbs) (a1 : A26) (r : Bool) (h : Jh k a0 a1 = some r) : VC Try.prog 4 [VV.ag (Qdw a0), VV.ag (Qbv a1)] (vb r) := by
 unfold Jh at h
 obtain ⟨r6920, h6921, h⟩ := bs h
 rcases ifs h with ⟨h6922, h⟩ | ⟨h6922, h⟩
 ·obtain ⟨r6923, h6924, h⟩ := bs h
  rcases ifs h with ⟨h6925, h⟩ | ⟨h6925, h⟩
  ·have e6926 := (an (Qu h6925) (show (0:Int) <= 0 /\ (0:Int) < ((2 : Nat) : Int) from ⟨by decide, by decide⟩))
   obtain ⟨r6927, h6928, h⟩ := bs h
   have e6929 := (an (Qu h6925) (Wn k a1.e0 0 3000000 _ h6928))
   rcases ifs h with ⟨h6930, h⟩ | ⟨h6930, h⟩
   ·have e6931 := (an (Qu h6930) (show (0:Int) <= 1 /\ (1:Int) < ((2 : Nat) : Int) from ⟨by decide, by decide⟩))
    obtain ⟨r6932, h6933, h⟩ := bs h
    have e6934 := (an (Qu h6930) (Wn k a1.e1 0 3000000 _ h6933))
    have e6935 := (ti (an (Ws k a0 _ h6924) (ti (ti (an e6926 (an (an (Qu h6925) tt) (an e6929 (an (an (Qu h6925) tt) (an (Qu h6925) (ti (an e6931 (an (an (Qu h6930) tt) (an e6934 (an (an (Qu h6930) tt) (an (Qu h6930) tt)))))))))))))))
    rcases ifs h with ⟨h6936, h⟩ | ⟨h6936, h⟩
    ·obtain ⟨r6937, h6938, h⟩ := bs h
     have e6939 := (Wl k a0.Mount _ h6938)
     obtain ⟨r6940, h6941, h⟩ := bs h
     have e6942 := (show VC Try.prog 9 [VV.tr (flatMap Qe a0.Targets) a0.Targets.length] (VV.fr (flatMap Qe r6940) r6940.length) from (VC.weak (Qaz k a0.Targets _ h6941) (Wv.fw rfl rfl)))
     obtain ⟨r6943, h6944, h⟩ := bs h
     have e6945 := (Qe0 k r6937 r6940 a0.At _ h6944)
     have e6946 := (ti (ti (an e6939 (ti (ti (an e6942 (ti (ti (an e6945 (ti (ti (ti (ti (ti (ti (ti (ti tt)))))))))))))))))
     rcases ifs h with ⟨h6947, h⟩ | ⟨h6947, h⟩
     ·have e6948 := (an (Qu (dt h6947)) tt)
      have e6949 := (an (Qu (dt h6947)) tt)
      have e6950 := (an (Qu (dt h6947)) tt)
      have e6951 := (an (Qu (dt h6947)) tt)
      have e6952 := (an (Qu (dt h6947)) tt)
      have e6953 := (an (Qu (dt h6947)) tt)
      have e6954 := (an (Qu (dt h6947)) tt)
      have e6955 := (ti (ti (ti (an e6948 (an e6949 (an e6950 (an e6951 (an e6952 (an e6953 (an e6954 (an (Qu (dt h6947)) tt)))))))))))
      rcases ifs h with ⟨h6956, h⟩ | ⟨h6956, h⟩
      ·have e6958 := (Wl k a0.Mount _ h6938)
       have e6959 := (show (0:Int) <= 0 /\ (0:Int) < ((2 : Nat) : Int) from ⟨by decide, by decide⟩)
       have e6960 := (show (0:Int) <= 1 /\ (1:Int) < ((2 : Nat) : Int) from ⟨by decide, by decide⟩)
       have e6961 := (ti (ti (an e6959 (ti (ti (ti (ti (ti (an e6960 (ti (ti (ti (ti (ti (ti (ti tt))))))))))))))))
       have e6963 := (show VC Try.prog 9 [VV.tr (flatMap Qe a0.Targets) a0.Targets.length] (VV.fr (flatMap Qe r6940) r6940.length) from (VC.weak (Qaz k a0.Targets _ h6941) (Wv.fw rfl rfl)))
       obtain ⟨r6964, h6965, h⟩ := bs h
       have e6966 := (VC.args (Qe0 k (⟨maxI (-25920000) (w64 (r6937.Least - a1.e0)), minI 25920000 (w64 (r6937.Most + a1.e1)), r6937.Low, r6937.High, r6937.Speed, r6937.Refraction, r6937.Drift⟩ : Qc) r6940 a0.At _ h6965) (Q0s r6937 a1 r6940 a0))
       have e6967 := (ti (ti (ti (an e6963 (ti (ti (an e6966 (ti (ti (ti (ti (ti (ti (ti (ti tt)))))))))))))))
       rcases ifs h with ⟨h6968, h⟩ | ⟨h6968, h⟩
       ·have e6969 := (an (Qu (dt h6968)) tt)
        have e6970 := (an (Qu (dt h6968)) tt)
        have e6971 := (an (Qu (dt h6968)) tt)
        have e6972 := (ti (ti (ti (an e6969 (an e6970 (an e6971 (an (Qu (dt h6968)) tt)))))))
        rcases ifs h with ⟨h6973, h⟩ | ⟨h6973, h⟩
        ·injection h with h; subst h
         exact Qn pm pn Try.func4 (r0 := vb false) (ans := [.reg (nN 3 []), .reg (.call (vb r6920) :: .n :: []), .br false, .reg (Qje r6923 r6927 r6932), .br false, .reg (Qk9 r6937 r6940 r6943), .reg (nN 10 (.b false :: [])), .br false, .reg (.n :: .n :: .call (VV.ag (Y1 r6937)) :: .n :: .n :: []), .reg (nN 16 []), .reg (Qqu r6940 r6964), .reg (nN 6 (.b false :: [])), .br true, .reg (.n :: [])]) (fr := true) (by kernel_rfl) (an (an (ti (ti (ti tt))) (an (an (an (Qa0 k _ h6921) (ti tt)) (an (Qu h6922) tt)) (an (an e6935 (an (Qu h6936) tt)) (an e6946 (an (an e6955 (an (Qu (dt h6956)) tt)) (an (ti (ti (an e6958 (ti (ti tt))))) (an e6961 (an e6967 (an e6972 (an (dt h6973) (an (ti tt) tt))))))))))) (ti tt)) (Wv.refl _)
        ·have e6974 := (show (0:Int) <= 1 /\ (1:Int) < ((2 : Nat) : Int) from ⟨by decide, by decide⟩)
         obtain ⟨r7078, h7077, h⟩ := bs h
         have hph7077 := Qbl k a0 a1 r6943 _ _ _ _ _ h7077
         cases r7078 with
         | inl r7079 =>
          dsimp only at h
          have e7081 := (an (ti tt) (VRun.loop hph7077))
          injection h with h; subst h
          exact Qn pm pn Try.func4 (r0 := vb false) (ans := [.reg (nN 3 []), .reg (.call (vb r6920) :: .n :: []), .br false, .reg (Qje r6923 r6927 r6932), .br false, .reg (Qk9 r6937 r6940 r6943), .reg (nN 10 (.b false :: [])), .br false, .reg (.n :: .n :: .call (VV.ag (Y1 r6937)) :: .n :: .n :: []), .reg (nN 16 []), .reg (Qqu r6940 r6964), .reg (nN 6 (.b false :: [])), .br false, .reg (nN 5 []), .reg (.n :: []), .sub ⟨[(2, none), (5, none), (6, none), (12, none), (13, none), (14, none)], [none, none, none], []⟩ .ret (Zw a0 a1 r6943 r7079)]) (fr := true) (by kernel_rfl) (an (an (ti (ti (ti tt))) (an (an (an (Qa0 k _ h6921) (ti tt)) (an (Qu h6922) tt)) (an (an e6935 (an (Qu h6936) tt)) (an e6946 (an (an e6955 (an (Qu (dt h6956)) tt)) (an (ti (ti (an e6958 (ti (ti tt))))) (an e6961 (an e6967 (an (an e6972 (an (df h6973) tt)) (an (ti (an e6974 (ti (ti (ti tt))))) (an (ti tt) e7081))))))))))) (ti tt)) (Wv.refl _)
         | inr r7080 =>
          dsimp only at h
          have e7082 := (an (ti tt) (VRun.loop hph7077))
          obtain ⟨r7083, h7084, h⟩ := bs h
          have e7085 := (Qe4 k r6943.2.1 10000000000 _ h7084)
          injection h with h; subst h
          exact Qn pm pn Try.func4 (r0 := vb (decide (r7080 = r7083))) (ans := [.reg (nN 3 []), .reg (.call (vb r6920) :: .n :: []), .br false, .reg (Qje r6923 r6927 r6932), .br false, .reg (Qk9 r6937 r6940 r6943), .reg (nN 10 (.b false :: [])), .br false, .reg (.n :: .n :: .call (VV.ag (Y1 r6937)) :: .n :: .n :: []), .reg (nN 16 []), .reg (Qqu r6940 r6964), .reg (nN 6 (.b false :: [])), .br false, .reg (nN 5 []), .reg (.n :: []), .sub ⟨[(2, none), (5, none), (6, none), (12, none), (13, none), (14, none)], [none, none, none], []⟩ (.exit 0) (X3 a0 a1 r6943 r7080), .reg (.n :: .n :: .call (vi r7083) :: .n :: .n :: [])]) (fr := true) (by kernel_rfl) (an (an (ti (ti (ti tt))) (an (an (an (Qa0 k _ h6921) (ti tt)) (an (Qu h6922) tt)) (an (an e6935 (an (Qu h6936) tt)) (an e6946 (an (an e6955 (an (Qu (dt h6956)) tt)) (an (ti (ti (an e6958 (ti (ti tt))))) (an e6961 (an e6967 (an (an e6972 (an (df h6973) tt)) (an (ti (an e6974 (ti (ti (ti tt))))) (an (an (ti tt) e7082) (an (ti (ti (an e7085 (ti (ti tt))))) tt)))))))))))) (ti tt)) (Wv.refl _)
       ·have e7086 := (ti (ti (ti (an (Zj (df h6968)) (an (Zj (df h6968)) (an (Zj (df h6968)) (an (Zj (df h6968)) tt)))))))
        injection h with h; subst h
        exact Qn pm pn Try.func4 (r0 := vb false) (ans := [.reg (nN 3 []), .reg (.call (vb r6920) :: .n :: []), .br false, .reg (Qje r6923 r6927 r6932), .br false, .reg (Qk9 r6937 r6940 r6943), .reg (nN 10 (.b false :: [])), .br false, .reg (.n :: .n :: .call (VV.ag (Y1 r6937)) :: .n :: .n :: []), .reg (nN 16 []), .reg (Qqu r6940 r6964), .reg (nN 3 (nS 3 (.b true :: []))), .br true, .reg (.n :: [])]) (fr := true) (by kernel_rfl) (an (an (ti (ti (ti tt))) (an (an (an (Qa0 k _ h6921) (ti tt)) (an (Qu h6922) tt)) (an (an e6935 (an (Qu h6936) tt)) (an e6946 (an (an e6955 (an (Qu (dt h6956)) tt)) (an (ti (ti (an e6958 (ti (ti tt))))) (an e6961 (an e6967 (an e7086 (an rt (an (ti tt) tt))))))))))) (ti tt)) (Wv.refl _)
      ·injection h with h; subst h
       exact Qn pm pn Try.func4 (r0 := vb (!(decide (r6943.2.2 = 0)))) (ans := [.reg (nN 3 []), .reg (.call (vb r6920) :: .n :: []), .br false, .reg (Qje r6923 r6927 r6932), .br false, .reg (Qk9 r6937 r6940 r6943), .reg (nN 10 (.b false :: [])), .br true, .reg (nN 3 [])]) (fr := true) (by kernel_rfl) (an (an (ti (ti (ti tt))) (an (an (an (Qa0 k _ h6921) (ti tt)) (an (Qu h6922) tt)) (an (an e6935 (an (Qu h6936) tt)) (an e6946 (an e6955 (an (Zj (df h6956)) (an (ti (ti (ti tt))) tt))))))) (ti tt)) (Wv.refl _)
     ·have e7087 := (ti (ti (ti (an (Zj (df h6947)) (an (Zj (df h6947)) (an (Zj (df h6947)) (an (Zj (df h6947)) (an (Zj (df h6947)) (an (Zj (df h6947)) (an (Zj (df h6947)) (an (Zj (df h6947)) tt)))))))))))
      injection h with h; subst h
      exact Qn pm pn Try.func4 (r0 := vb (!(decide (r6943.2.2 = 0)))) (ans := [.reg (nN 3 []), .reg (.call (vb r6920) :: .n :: []), .br false, .reg (Qje r6923 r6927 r6932), .br false, .reg (Qk9 r6937 r6940 r6943), .reg (nN 3 (nS 7 (.b true :: []))), .br true, .reg (nN 3 [])]) (fr := true) (by kernel_rfl) (an (an (ti (ti (ti tt))) (an (an (an (Qa0 k _ h6921) (ti tt)) (an (Qu h6922) tt)) (an (an e6935 (an (Qu h6936) tt)) (an e6946 (an e7087 (an rt (an (ti (ti (ti tt))) tt))))))) (ti tt)) (Wv.refl _)
    ·injection h with h; subst h
     exact Qn pm pn Try.func4 (r0 := vb true) (ans := [.reg (nN 3 []), .reg (.call (vb r6920) :: .n :: []), .br false, .reg (Qje r6923 r6927 r6932), .br true, .reg (.n :: [])]) (fr := true) (by kernel_rfl) (an (an (ti (ti (ti tt))) (an (an (an (Qa0 k _ h6921) (ti tt)) (an (Qu h6922) tt)) (an e6935 (an (Zj (Qx h6936)) (an (ti tt) tt))))) (ti tt)) (Wv.refl _)
   ·have e7088 := (ti (an (Ws k a0 _ h6924) (ti (ti (an e6926 (an (an (Qu h6925) tt) (an e6929 (an (an (Qu h6925) tt) (an (Qu h6925) (ti (an (Zj (Qx h6930)) (an (Zj (Qx h6930)) (an (Zj (Qx h6930)) (an (Zj (Qx h6930)) (an (Zj (Qx h6930)) tt)))))))))))))))
    injection h with h; subst h
    exact Qn pm pn Try.func4 (r0 := vb true) (ans := [.reg (nN 3 []), .reg (.call (vb r6920) :: .n :: []), .br false, .reg (Q0u r6923 r6927), .br true, .reg (.n :: [])]) (fr := true) (by kernel_rfl) (an (an (ti (ti (ti tt))) (an (an (an (Qa0 k _ h6921) (ti tt)) (an (Qu h6922) tt)) (an e7088 (an rt (an (ti tt) tt))))) (ti tt)) (Wv.refl _)
  ·have e7089 := (ti (an (Ws k a0 _ h6924) (ti (ti (an (Zj (Qx h6925)) (an (Zj (Qx h6925)) (an (Zj (Qx h6925)) (an (Zj (Qx h6925)) (an (Zj (Qx h6925)) (ti (an rt (an rt (an rt (an rt (an rt tt)))))))))))))))
   injection h with h; subst h
   exact Qn pm pn Try.func4 (r0 := vb true) (ans := [.reg (nN 3 []), .reg (.call (vb r6920) :: .n :: []), .br false, .reg (.n :: .call (vb r6923) :: .n :: .n :: nS 4 (.b true :: .n :: nS 4 (.b true :: []))), .br true, .reg (.n :: [])]) (fr := true) (by kernel_rfl) (an (an (ti (ti (ti tt))) (an (an (an (Qa0 k _ h6921) (ti tt)) (an (Qu h6922) tt)) (an e7089 (an rt (an (ti tt) tt))))) (ti tt)) (Wv.refl _)
 ·injection h with h; subst h
  exact Qn pm pn Try.func4 (r0 := vb false) (ans := [.reg (nN 3 []), .reg (.call (vb r6920) :: .n :: []), .br true, .reg (.n :: [])]) (fr := true) (by kernel_rfl) (an (an (ti (ti (ti tt))) (an (an (Qa0 k _ h6921) (ti tt)) (an (Zj (Qx h6922)) (an (ti tt) tt)))) (ti tt)) (Wv.refl _)
end Go.Proofs.Ytjomicmhnbmhoaa.Vg

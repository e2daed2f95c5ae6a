import Derived.Test.YtiekbdbedonnoaaK4
namespace Go.Proofs.Ytiekbdbedonnoaa.Vg
set_option maxRecDepth 100000
set_option maxHeartbeats 4000000
set_option linter.unusedVariables false
set_option linter.unusedSimpArgs false
open Go Go.Proofs.Ytiekbdbedonnoaa.Ev Go.Proofs.Ytiekbdbedonnoaa.Vv
open List (flatMap length_cons length_nil length_map length_append map_cons map_nil length_replicate)
structure Qg where
 Low : (List Int)
 High : (List Int)
 deriving Inhabited
def Ze (x : Qg) : List VV := [VV.tr (List.map vi x.Low) x.Low.length, VV.tr (List.map vi x.High) x.High.length]
def Jy (x : Qg) : List VV := [VV.fr (List.map vi x.Low) x.Low.length, VV.fr (List.map vi x.High) x.High.length]
theorem Qk (xs : List Qg) : (xs.flatMap Ze).map unfr = xs.flatMap Ze := Qd8 (fun _ => rfl) xs
theorem Qj (xs : List Qg) : (xs.flatMap Jy).map unfr = xs.flatMap Ze := Qd8 (fun _ => rfl) xs
structure Qgh where
 Minutes : (List Int)
 Den : Int
 deriving Inhabited
def Qhf (x : Qgh) : List VV := [VV.tr (List.map vi x.Minutes) x.Minutes.length, vi x.Den]
def Qph (x : Qgh) : List VV := [VV.fr (List.map vi x.Minutes) x.Minutes.length, vi x.Den]
theorem Qn (xs : List Qgh) : (xs.flatMap Qhf).map unfr = xs.flatMap Qhf := Qd8 (fun _ => rfl) xs
theorem Qo (xs : List Qgh) : (xs.flatMap Qph).map unfr = xs.flatMap Qhf := Qd8 (fun _ => rfl) xs
theorem Q2a : Qb2 Try.prog 117 = some false := by kernel_rfl
def Qbc (k : Nat) (a0 : Qg) : Option Bool :=
 if (a0.Low.length : Int) <= 43 then (some (decide ((a0.High.length : Int) <= 43))) else (some false)
theorem Qgx (k : Nat) (a0 : Qg) (r : Bool) (h : Qbc k a0 = some r) : VC Try.prog 7 [VV.ag (Ze a0)] (vb r) := by
 unfold Qbc at h
 rcases ifs h with ⟨h2100, h⟩ | ⟨h2100, h⟩
 ·have e2101 := (ti (ti (ti (ti (ti (an (an (dt h2100) tt) (an (an (dt h2100) tt) (an (an (dt h2100) tt) (an (an (dt h2100) tt) (an (dt h2100) (ti tt)))))))))))
  injection h with h; subst h
  exact Qq pm pn Try.func7 (r0 := vb (decide ((a0.High.length : Int) <= 43))) (ans := [.reg (.n :: .n :: []), .reg (nN 9 (.b true :: .n :: []))]) (fr := true) (by kernel_rfl) (an (an (ti (ti tt)) (an e2101 tt)) (ti tt)) (Wv.refl _)
 ·have e2102 := (ti (ti (ti (ti (ti (an (df h2100) (an (df h2100) (an (df h2100) (an (df h2100) (an (df h2100) (ti tt)))))))))))
  injection h with h; subst h
  exact Qq pm pn Try.func7 (r0 := vb false) (ans := [.reg (.n :: .n :: []), .reg (nN 5 (nS 4 (.b false :: .n :: [])))]) (fr := true) (by kernel_rfl) (an (an (ti (ti tt)) (an e2102 tt)) (ti tt)) (Wv.refl _)
def Q2m (z0 : (List Int)) (z1 : (List Int)) : List Ans := (.n :: .n :: .call (VV.fr (List.map vi z0) z0.length) :: .n :: .n :: .call (VV.fr (List.map vi z1) z1.length) :: .n :: .n :: [])
theorem Q2n (z0 : (List Int)) (z1 : (List Int)) : VV.ag [VV.fr (List.map vi z0) z0.length, VV.fr (List.map vi z1) z1.length] = VV.ag (Jy (⟨z0, z1⟩ : Qg)) := by first | rfl | (simp only [Zc, map_cons, map_nil, un_i, Qby, length_map, length_cons, length_nil, Qj]; done) | (simp only [Zc, map_cons, map_nil, un_i, Qby, length_map, length_cons, length_nil, Qj]; rfl) | (simp only [Zc, map_cons, map_nil, un_i, Qby, length_map, length_cons, length_nil, Qj, Jy, length_cons, length_nil, length_append]; done)
def Qah (k : Nat) (a0 : Qg) : Option Qg :=
 (J3 k a0.Low).bind fun r2110 => ((J3 k a0.High).bind fun r2113 => (some (⟨r2110, r2113⟩ : Qg)))
theorem Qdl (k : Nat) (a0 : Qg) (r : Qg) (h : Qah k a0 = some r) : VC Try.prog 10 [VV.ag (Ze a0)] (VV.ag (Jy r)) := by
 unfold Qah at h
 obtain ⟨r2110, h2111, h⟩ := bs h
 have e2112 := (show VC Try.prog 41 [VV.tr (List.map vi a0.Low) a0.Low.length] (VV.fr (List.map vi r2110) r2110.length) from (VC.weak (Qbx k a0.Low _ h2111) (Wv.fw rfl rfl)))
 obtain ⟨r2113, h2114, h⟩ := bs h
 have e2115 := (show VC Try.prog 41 [VV.tr (List.map vi a0.High) a0.High.length] (VV.fr (List.map vi r2113) r2113.length) from (VC.weak (Qbx k a0.High _ h2114) (Wv.fw rfl rfl)))
 have e2116 := (ti (ti (an e2112 (ti (ti (an e2115 (ti (ti tt))))))))
 injection h with h; subst h
 exact Qq pm pn Try.func10 (r0 := VV.ag [VV.fr (List.map vi r2110) r2110.length, VV.fr (List.map vi r2113) r2113.length]) (ans := [.reg (.n :: .n :: []), .reg (Q2m r2110 r2113)]) (fr := true) (by kernel_rfl) (an (an (ti (ti tt)) (an e2116 tt)) (an (ti (ti (ti tt))) tt)) (Wv.of_eq (Q2n r2110 r2113))
def Wx (k : Nat) (a0 : (List Qd)) : Option (List Qd) :=
 some a0
theorem Qd1 (k : Nat) (a0 : (List Qd)) (r : (List Qd)) (h : Wx k a0 = some r) : VC Try.prog 36 [VV.tr (flatMap Qc a0) a0.length] (VV.fn 64 [VV.tp [VV.tr (flatMap Qc r) r.length] 0]) := by
 unfold Wx at h
 injection h with h; subst h
 exact Qq pm pn Try.func36 (r0 := VV.fn 64 [VV.tp [VV.tr (flatMap Qc a0) a0.length] 0]) (ans := [.reg (.n :: .n :: []), .frz 0, .reg (.n :: .n :: [])]) (fr := false) (by kernel_rfl) (an (an (ti (ti tt)) (an (ti (ti tt)) tt)) (ti tt)) (Wv.refl _)
def Qap (k : Nat) (a0 : (List Qd)) (a1 : Qg) : Option ((List Int) × (List Int) × (List Qd)) :=
 some (a1.Low, a1.High, a0)
theorem Qer (k : Nat) (a0 : (List Qd)) (a1 : Qg) (r : ((List Int) × (List Int) × (List Qd))) (h : Qap k a0 a1 = some r) : VC Try.prog 37 [VV.tr (flatMap Qc a0) a0.length, VV.ag (Ze a1)] (VV.fn 66 [VV.tp [VV.tr (List.map vi r.1) r.1.length, VV.tr (List.map vi r.2.1) r.2.1.length] 0, VV.tp [VV.tr (flatMap Qc r.2.2) r.2.2.length] 0]) := by
 unfold Qap at h
 injection h with h; subst h
 exact Qq pm pn Try.func37 (r0 := VV.fn 66 [VV.tp [VV.tr (List.map vi a1.Low) a1.Low.length, VV.tr (List.map vi a1.High) a1.High.length] 0, VV.tp [VV.tr (flatMap Qc a0) a0.length] 0]) (ans := [.reg (nN 3 []), .frz 0, .frz 1, .reg (.n :: .n :: [])]) (fr := false) (by kernel_rfl) (an (an (ti (ti (ti tt))) (an (ti (ti tt)) tt)) (ti tt)) (Wv.of_eq rfl)
def Q2o (z0 : (List Qd)) (z1 : (Int × Int)) : List Ans := (.v (VV.tr (flatMap Qc z0) z0.length) :: .call (VV.tu [vi z1.1, vi z1.2]) :: nN 5 [])
def Yy (k : Nat) (q0_0 : (List Qd)) : Option Int :=
 (Qbg k q0_0).bind fun r2136 => (some r2136.2)
theorem Qdm (k : Nat) (q0_0 : (List Qd)) (r : Int) (h : Yy k q0_0 = some r) : VC Try.prog 64 [VV.tp [VV.tr (flatMap Qc q0_0) q0_0.length] 0] (vi r) := by
 unfold Yy at h
 have e2135 := (show Zg Try.prog 22 0 [VV.tr (flatMap Qc q0_0) q0_0.length] = some (VV.tr (flatMap Qc q0_0) q0_0.length) from (Xb ag22 rfl))
 obtain ⟨r2136, h2137, h⟩ := bs h
 have e2138 := (an e2135 (an (Qgy k q0_0 _ h2137) (ti (ti (ti (ti (ti tt)))))))
 injection h with h; subst h
 exact Qq pm pn Try.func64 (r0 := vi r2136.2) (ans := [.reg (.n :: []), .reg (Q2o q0_0 r2136), .reg (.n :: .n :: [])]) (fr := true) (by kernel_rfl) (an (an (ti tt) (an e2138 (an (ti (ti tt)) tt))) (ti tt)) (Wv.refl _)
def Xr (k : Nat) (a0 : Int) (a1 : ((List Int) × (List Int))) : Option (Int × ((List Int) × (List Int))) :=
 some (a0, a1)
theorem Qal (k : Nat) (a0 : Int) (a1 : ((List Int) × (List Int))) (r : (Int × ((List Int) × (List Int)))) (h : Xr k a0 a1 = some r) : VC Try.prog 68 [vi a0, VV.fn 69 [VV.tp [VV.tr (List.map vi a1.1) a1.1.length, VV.tr (List.map vi a1.2) a1.2.length] 0]] (VV.fn 86 [VV.tp [vi r.1] 0, VV.tp [VV.fn 69 [VV.tp [VV.tr (List.map vi r.2.1) r.2.1.length, VV.tr (List.map vi r.2.2) r.2.2.length] 0]] 0]) := by
 unfold Xr at h
 injection h with h; subst h
 exact Qq pm pn Try.func68 (r0 := VV.fn 86 [VV.tp [vi a0] 0, VV.tp [VV.fn 69 [VV.tp [VV.tr (List.map vi a1.1) a1.1.length, VV.tr (List.map vi a1.2) a1.2.length] 0]] 0]) (ans := [.reg (nN 3 []), .frz 0, .frz 1, .reg (.n :: .n :: [])]) (fr := false) (by kernel_rfl) (an (an (ti (ti (ti tt))) (an (ti (ti tt)) tt)) (ti tt)) (Wv.of_eq rfl)
theorem Qzc (z0 : Int) (z1 : (List Int)) (z2 : (List Int)) : [vi z0, VV.fn 69 [VV.tp [VV.tr (List.map vi ((z1, z2).1)) (((z1, z2).1).length), VV.tr (List.map vi ((z1, z2).2)) (((z1, z2).2).length)] 0]] = [vi z0, VV.fn 69 [VV.tp [VV.tr (List.map vi z1) z1.length, VV.tr (List.map vi z2) z2.length] 0]] := by first | rfl | (simp only [Zc, map_cons, map_nil, un_i, Jr, length_map, length_cons, length_nil]; done) | (simp only [Zc, map_cons, map_nil, un_i, Jr, length_map, length_cons, length_nil]; rfl) | (simp only [Zc, map_cons, map_nil, un_i, Jr, length_map, length_cons, length_nil, length_cons, length_nil, length_append]; done)
theorem Q2p (z0 : (List Int)) (z1 : Int) (z2 : (List Int)) : [vi 0, vi 10000, VV.tr (List.map vi ([(z0.getD z1.toNat 0), (z2.getD z1.toNat 0)] : List Int)) (([(z0.getD z1.toNat 0), (z2.getD z1.toNat 0)] : List Int).length)] = [vi 0, vi 10000, VV.tr [vi (z0.getD z1.toNat 0), vi (z2.getD z1.toNat 0)] 2] := by first | rfl | (simp only [Zc, map_cons, map_nil, un_i, Jr, length_map, length_cons, length_nil]; done) | (simp only [Zc, map_cons, map_nil, un_i, Jr, length_map, length_cons, length_nil]; rfl) | (simp only [Zc, map_cons, map_nil, un_i, Jr, length_map, length_cons, length_nil, length_cons, length_nil, length_append]; done)
def Qvs (z0 : (((List Int) × Int × Int) × (Bool × Int))) : List Ans := (.n :: .v (VV.fn 78 [VV.tp [VV.tr (List.map vi z0.1.1) z0.1.1.length] 0, VV.tp [vi z0.1.2.1] 0, VV.tp [vi z0.1.2.2] 0]) :: .n :: [])
def Zu (k : Nat) (a0 : (((List Int) × Int × Int) × (Bool × Int))) : Option Int :=
 (Qbf k a0.1.1 a0.1.2.1 a0.1.2.2).bind fun r2203 => (if r2203 = 0 then ((Jt k a0.2.1 a0.2.2).bind fun r2209 => (if r2209 = 0 then (some 0) else (some r2209))) else (some r2203))
theorem Qbu (k : Nat) (a0 : (((List Int) × Int × Int) × (Bool × Int))) (r : Int) (h : Zu k a0 = some r) : VC Try.prog 35 [VV.tr ([VV.fn 78 [VV.tp [VV.tr (List.map vi a0.1.1) a0.1.1.length] 0, VV.tp [vi a0.1.2.1] 0, VV.tp [vi a0.1.2.2] 0], VV.fn 85 [VV.tp [vb a0.2.1] 0, VV.tp [vi a0.2.2] 0]]) 2] (vi r) := by
 unfold Zu at h
 have e2201 := (show (0 : Int) <= 0 /\ (0 : Int) < ((2 : Nat) : Int) from ⟨by decide, by decide⟩)
 have e2202 := (show Zg Try.prog 86 ((0 : Int).toNat * 1) ([VV.fn 78 [VV.tp [VV.tr (List.map vi a0.1.1) a0.1.1.length] 0, VV.tp [vi a0.1.2.1] 0, VV.tp [vi a0.1.2.2] 0], VV.fn 85 [VV.tp [vb a0.2.1] 0, VV.tp [vi a0.2.2] 0]]) = some (VV.fn 78 [VV.tp [VV.tr (List.map vi a0.1.1) a0.1.1.length] 0, VV.tp [vi a0.1.2.1] 0, VV.tp [vi a0.1.2.2] 0]) from (Xb ag86 rfl))
 obtain ⟨r2203, h2204, h⟩ := bs h
 have e2205 := (Qds k a0.1.1 a0.1.2.1 a0.1.2.2 _ h2204)
 rcases ifs h with ⟨h2206, h⟩ | ⟨h2206, h⟩
 ·have e2207 := (show (0 : Int) <= 1 /\ (1 : Int) < ((2 : Nat) : Int) from ⟨by decide, by decide⟩)
  have e2208 := (show Zg Try.prog 86 ((1 : Int).toNat * 1) ([VV.fn 78 [VV.tp [VV.tr (List.map vi a0.1.1) a0.1.1.length] 0, VV.tp [vi a0.1.2.1] 0, VV.tp [vi a0.1.2.2] 0], VV.fn 85 [VV.tp [vb a0.2.1] 0, VV.tp [vi a0.2.2] 0]]) = some (VV.fn 85 [VV.tp [vb a0.2.1] 0, VV.tp [vi a0.2.2] 0]) from (Xb ag86 rfl))
  obtain ⟨r2209, h2210, h⟩ := bs h
  have e2211 := (Ju k a0.2.1 a0.2.2 _ h2210)
  rcases ifs h with ⟨h2212, h⟩ | ⟨h2212, h⟩
  ·injection h with h; subst h
   exact Qq pm pn Try.func35 (r0 := vi 0) (ans := [.reg (.n :: []), .reg (nN 3 []), .unr 4, .reg (.n :: []), .br true, .reg (Qvs a0), .reg (.n :: .call (vi r2203) :: .n :: []), .reg (.n :: .n :: []), .br false, .reg (.n :: .n :: []), .reg (.n :: []), .br true, .reg (.n :: .v (VV.fn 85 [VV.tp [vb a0.2.1] 0, VV.tp [vi a0.2.2] 0]) :: .n :: []), .reg (.n :: .call (vi r2209) :: .n :: []), .reg (.n :: .n :: []), .br false, .reg (.n :: .n :: []), .reg (.n :: []), .br false, .reg (.n :: [])]) (fr := true) (by kernel_rfl) (an (an (ti tt) (an (an (ti (ti (ti tt))) (an (an (ti tt) (an (an (show (decide ((0 : Int) < 2)) = true from (dt (by decide))) tt) (an (an (an e2201 (an e2202 (ti tt))) (an (ti (an e2205 (ti tt))) (an (ti (ti tt)) (an (Qs (dt h2206)) tt)))) (ti (ti tt))))) (an (an (ti tt) (an (an (show (decide ((1 : Int) < 2)) = true from (dt (by decide))) tt) (an (an (an e2207 (an e2208 (ti tt))) (an (ti (an e2211 (ti tt))) (an (ti (ti tt)) (an (Qs (dt h2212)) tt)))) (ti (ti tt))))) (an (ti tt) (an (show (decide ((2 : Int) < 2)) = false from (df (by decide))) tt))))) (an (ti tt) tt))) (ti tt)) (Wv.refl _)
  ·injection h with h; subst h
   exact Qq pm pn Try.func35 (r0 := vi r2209) (ans := [.reg (.n :: []), .reg (nN 3 []), .unr 3, .reg (.n :: []), .br true, .reg (Qvs a0), .reg (.n :: .call (vi r2203) :: .n :: []), .reg (.n :: .n :: []), .br false, .reg (.n :: .n :: []), .reg (.n :: []), .br true, .reg (.n :: .v (VV.fn 85 [VV.tp [vb a0.2.1] 0, VV.tp [vi a0.2.2] 0]) :: .n :: []), .reg (.n :: .call (vi r2209) :: .n :: []), .reg (.n :: .n :: []), .br true, .reg (.n :: .n :: [])]) (fr := true) (by kernel_rfl) (an (an (ti tt) (an (ti (ti (ti tt))) (an (an (ti tt) (an (an (show (decide ((0 : Int) < 2)) = true from (dt (by decide))) tt) (an (an (an e2201 (an e2202 (ti tt))) (an (ti (an e2205 (ti tt))) (an (ti (ti tt)) (an (Qs (dt h2206)) tt)))) (ti (ti tt))))) (an (ti tt) (an (an (show (decide ((1 : Int) < 2)) = true from (dt (by decide))) tt) (an (an e2207 (an e2208 (ti tt))) (an (ti (an e2211 (ti tt))) (an (ti (ti tt)) (an (Zj (df h2212)) (an (ti (ti tt)) tt)))))))))) (ti tt)) (Wv.refl _)
 ·injection h with h; subst h
  exact Qq pm pn Try.func35 (r0 := vi r2203) (ans := [.reg (.n :: []), .reg (nN 3 []), .unr 2, .reg (.n :: []), .br true, .reg (Qvs a0), .reg (.n :: .call (vi r2203) :: .n :: []), .reg (.n :: .n :: []), .br true, .reg (.n :: .n :: [])]) (fr := true) (by kernel_rfl) (an (an (ti tt) (an (ti (ti (ti tt))) (an (ti tt) (an (an (show (decide ((0 : Int) < 2)) = true from (dt (by decide))) tt) (an (an e2201 (an e2202 (ti tt))) (an (ti (an e2205 (ti tt))) (an (ti (ti tt)) (an (Zj (df h2206)) (an (ti (ti tt)) tt))))))))) (ti tt)) (Wv.refl _)
theorem Q2q (z0 : ((List Int) × Int × Int)) (z1 : (Bool × Int)) : [VV.tr ([VV.fn 78 [VV.tp [VV.tr (List.map vi (((z0, z1).1).1)) ((((z0, z1).1).1).length)] 0, VV.tp [vi (((z0, z1).1).2.1)] 0, VV.tp [vi (((z0, z1).1).2.2)] 0], VV.fn 85 [VV.tp [vb (((z0, z1).2).1)] 0, VV.tp [vi (((z0, z1).2).2)] 0]]) 2] = [VV.tr (List.drop 0 (List.map unfr [VV.fn 78 [VV.tp [VV.tr (List.map vi z0.1) z0.1.length] 0, VV.tp [vi z0.2.1] 0, VV.tp [vi z0.2.2] 0], VV.fn 85 [VV.tp [vb z1.1] 0, VV.tp [vi z1.2] 0]])) 2] := by first | rfl | (simp only [Jz, Zc, Zz, map_cons, map_nil, un_i, un_b, Jr, length_map, length_cons, length_nil]; done) | (simp only [Jz, Zc, Zz, map_cons, map_nil, un_i, un_b, Jr, length_map, length_cons, length_nil]; rfl) | (simp only [Jz, Zc, Zz, map_cons, map_nil, un_i, un_b, Jr, length_map, length_cons, length_nil, length_cons, length_nil, length_append]; done)
def Q2r (z0 : (List Int)) (z1 : Int) (z2 : (List Int)) (z3 : ((List Int) × Int × Int)) (z4 : (Bool × Int)) (z5 : Int) : List Ans := (.n :: .v (VV.tr (List.map vi z0) z0.length) :: .n :: .n :: .v (vi (z0.getD z1.toNat 0)) :: .n :: .v (VV.tr (List.map vi z2) z2.length) :: .n :: .n :: .v (vi (z2.getD z1.toNat 0)) :: .v VV.any :: .call (VV.fn 78 [VV.tp [VV.tr (List.map vi z3.1) z3.1.length] 0, VV.tp [vi z3.2.1] 0, VV.tp [vi z3.2.2] 0]) :: .n :: .v (VV.tr (List.map vi z2) z2.length) :: .n :: .n :: .v (vi (z2.getD z1.toNat 0)) :: .n :: .v (VV.tr (List.map vi z0) z0.length) :: .n :: .n :: .v (vi (z0.getD z1.toNat 0)) :: .n :: .call (VV.fn 85 [VV.tp [vb z4.1] 0, VV.tp [vi z4.2] 0]) :: .n :: .call (vi z5) :: .n :: [])
def Wp (k : Nat) (a0 : Int) (q0_0 : (List Int)) (q0_1 : (List Int)) : Option Int :=
 if 0 <= a0 /\ a0 < (q0_0.length : Int) then (if 0 <= a0 /\ a0 < (q0_1.length : Int) then ((J7 k 0 10000 ([(q0_0.getD a0.toNat 0), (q0_1.getD a0.toNat 0)] : List Int)).bind fun r2223 => ((Xd k (decide ((q0_0.getD a0.toNat 0) <= (q0_1.getD a0.toNat 0))) 9).bind fun r2230 => ((Zu k (r2223, r2230)).bind fun r2233 => (some r2233)))) else none) else none
theorem Qf4 (k : Nat) (a0 : Int) (q0_0 : (List Int)) (q0_1 : (List Int)) (r : Int) (h : Wp k a0 q0_0 q0_1 = some r) : VC Try.prog 69 [vi a0, VV.tp [VV.tr (List.map vi q0_0) q0_0.length, VV.tr (List.map vi q0_1) q0_1.length] 0] (vi r) := by
 unfold Wp at h
 have e2217 := (show Zg Try.prog 23 0 [VV.tr (List.map vi q0_0) q0_0.length, VV.tr (List.map vi q0_1) q0_1.length] = some (VV.tr (List.map vi q0_0) q0_0.length) from (Xb ag23 rfl))
 obtain ⟨h2218, h⟩ := ifn h
 have e2219 := (show Zg Try.prog 3 (a0.toNat * 1) (List.map vi q0_0) = some (vi (q0_0.getD a0.toNat 0)) from Qb4 ag3 vi q0_0 0 h2218 (by omega))
 have e2220 := (show Zg Try.prog 23 1 [VV.tr (List.map vi q0_0) q0_0.length, VV.tr (List.map vi q0_1) q0_1.length] = some (VV.tr (List.map vi q0_1) q0_1.length) from (Xb ag23 rfl))
 obtain ⟨h2221, h⟩ := ifn h
 have e2222 := (show Zg Try.prog 3 (a0.toNat * 1) (List.map vi q0_1) = some (vi (q0_1.getD a0.toNat 0)) from Qb4 ag3 vi q0_1 0 h2221 (by omega))
 obtain ⟨r2223, h2224, h⟩ := bs h
 have e2225 := (VC.args (Qas k 0 10000 ([(q0_0.getD a0.toNat 0), (q0_1.getD a0.toNat 0)] : List Int) _ h2224) (Q2p q0_0 a0 q0_1))
 have e2226 := (show Zg Try.prog 23 1 [VV.tr (List.map vi q0_0) q0_0.length, VV.tr (List.map vi q0_1) q0_1.length] = some (VV.tr (List.map vi q0_1) q0_1.length) from (Xb ag23 rfl))
 have e2227 := (show Zg Try.prog 3 (a0.toNat * 1) (List.map vi q0_1) = some (vi (q0_1.getD a0.toNat 0)) from Qb4 ag3 vi q0_1 0 h2221 (by omega))
 have e2228 := (show Zg Try.prog 23 0 [VV.tr (List.map vi q0_0) q0_0.length, VV.tr (List.map vi q0_1) q0_1.length] = some (VV.tr (List.map vi q0_0) q0_0.length) from (Xb ag23 rfl))
 have e2229 := (show Zg Try.prog 3 (a0.toNat * 1) (List.map vi q0_0) = some (vi (q0_0.getD a0.toNat 0)) from Qb4 ag3 vi q0_0 0 h2218 (by omega))
 obtain ⟨r2230, h2231, h⟩ := bs h
 have e2232 := (Xw k (decide ((q0_0.getD a0.toNat 0) <= (q0_1.getD a0.toNat 0))) 9 _ h2231)
 obtain ⟨r2233, h2234, h⟩ := bs h
 have e2235 := (VC.args (Qbu k (r2223, r2230) _ h2234) (Q2q r2223 r2230))
 have e2236 := (ti (an e2217 (ti (an h2218 (an e2219 (ti (an e2220 (ti (an h2221 (an e2222 (ti (an e2225 (ti (an e2226 (ti (an h2221 (an e2227 (ti (an e2228 (ti (an h2218 (an e2229 (ti (an e2232 (ti (an e2235 (ti tt)))))))))))))))))))))))))))
 injection h with h; subst h
 exact Qq pm pn Try.func69 (r0 := vi r2233) (ans := [.reg (.n :: []), .reg (Q2r q0_0 a0 q0_1 r2223 r2230 r2233)]) (fr := true) (by kernel_rfl) (an (an (ti tt) (an e2236 tt)) (ti tt)) (Wv.refl _)
def Qzd (z0 : ((List Int) × (List Int))) (z1 : Int) : List Ans := (.v (VV.fn 69 [VV.tp [VV.tr (List.map vi z0.1) z0.1.length, VV.tr (List.map vi z0.2) z0.2.length] 0]) :: .n :: .call (vi z1) :: .n :: [])
def Xm (q0_0 : Int) (q1_0 : ((List Int) × (List Int))) (x6 : Int) : VS := ⟨mkA [(1, VV.tp [VV.fn 69 [VV.tp [VV.tr (List.map vi q1_0.1) q1_0.1.length, VV.tr (List.map vi q1_0.2) q1_0.2.length] 0]] 0), (5, vi q0_0), (6, vi x6)], [], .nil⟩
def Jl (q0_0 : Int) (q1_0 : ((List Int) × (List Int))) (r : Int) : VS := ⟨mkA [(2, vi r)], [], .nil⟩
def Jm (q0_0 : Int) (q1_0 : ((List Int) × (List Int))) (r : Unit) : VS := ⟨mkA [], [], .nil⟩
def Q8 (k : Nat) (q0_0 : Int) (q1_0 : ((List Int) × (List Int))) : Nat -> Int -> Option (Sum Int Unit)
 | 0, _ => none
 | fuel + 1, x6 => if x6 < q0_0 then ((Wp k x6 q1_0.1 q1_0.2).bind fun r2274 => (if r2274 = 0 then (Q8 k q0_0 q1_0 fuel (w64 (x6 + 1))) else (some (.inl r2274)))) else (some (.inr ()))
theorem Qb9 (k : Nat) (q0_0 : Int) (q1_0 : ((List Int) × (List Int))) : ∀ (fuel : Nat) (x6 : Int) (r : Sum Int Unit), Q8 k q0_0 q1_0 fuel x6 = some r -> (match r with | .inl r => Y0 none Try.prog (szF Try.f86) (J5 Try.f86 0) (Xm q0_0 q1_0 x6) .ret (Jl q0_0 q1_0 r) | .inr r => Y0 none Try.prog (szF Try.f86) (J5 Try.f86 0) (Xm q0_0 q1_0 x6) (.exit 0) (Jm q0_0 q1_0 r)) := by
 intro fuel
 induction fuel with
 | zero => intro x6 r h; rw [Q8.eq_1] at h; cases h
 | succ fuel ih =>
  intro x6 r h
  rw [Q8.eq_2] at h
  rcases ifs h with ⟨h2272, h⟩ | ⟨h2272, h⟩
  ·have e2273 := (show Zg Try.prog 117 0 [VV.fn 69 [VV.tp [VV.tr (List.map vi q1_0.1) q1_0.1.length, VV.tr (List.map vi q1_0.2) q1_0.2.length] 0]] = some (VV.fn 69 [VV.tp [VV.tr (List.map vi q1_0.1) q1_0.1.length, VV.tr (List.map vi q1_0.2) q1_0.2.length] 0]) from (Xb Q2a rfl))
   obtain ⟨r2274, h2275, h⟩ := bs h
   have e2276 := (Qf4 k x6 q1_0.1 q1_0.2 _ h2275)
   rcases ifs h with ⟨h2277, h⟩ | ⟨h2277, h⟩
   ·have h2 := ih _ _ h
    obtain ⟨q, hv, hq⟩ := pkR (rd := none) (P := Try.prog) (fn := Try.f86) (k := 0) (s := (Xm q0_0 q1_0 x6)) (ans := [.reg (.n :: []), .br true, .reg (.n :: .n :: []), .reg (Qzd q1_0 r2274), .reg (.n :: .n :: []), .br false, .reg (.n :: .n :: [])]) (c := ⟨[(1, none), (5, none), (6, none)], [], []⟩) (e := .normal) (s1 := (Xm q0_0 q1_0 (w64 (x6 + 1)))) (an (an (ti tt) (an (an (dt h2272) tt) (an (an (ti (ti tt)) (an (an e2273 (ti (an e2276 (ti tt)))) (an (ti (ti tt)) (an (Qs (dt h2277)) tt)))) (ti (ti tt))))) (ti tt)) (by kernel_rfl)
    cases r with
    | inl r => exact Qw pm pn hv hq h2
    | inr r =>
     exact Qw pm pn hv hq h2
   ·injection h with h; subst h
    exact Qv (c := ⟨[(2, none)], [], []⟩) (s1 := (Jl q0_0 q1_0 r2274)) pm pn (ans := [.reg (.n :: []), .br true, .reg (.n :: .n :: []), .reg (Qzd q1_0 r2274), .reg (.n :: .n :: []), .br true, .reg (.n :: .n :: [])]) (by kernel_rfl) (by intro e; cases e) (an (an (ti tt) (an (an (dt h2272) tt) (an (ti (ti tt)) (an (an e2273 (ti (an e2276 (ti tt)))) (an (ti (ti tt)) (an (Zj (df h2277)) (an (ti (ti tt)) tt))))))) (ti tt))
  ·injection h with h; subst h
   exact Qv (c := ⟨[], [], []⟩) (s1 := (Jm q0_0 q1_0 ())) pm pn (ans := [.reg (.n :: []), .br false]) (by kernel_rfl) (by intro e; cases e) (an (an (ti tt) (an (df h2272) tt)) (ti tt))
def Je (k : Nat) (q0_0 : Int) (q1_0 : ((List Int) × (List Int))) : Option Int :=
 (Q8 k q0_0 q1_0 k 0).bind fun r2279 => (match r2279 with | .inl r2280 => (some r2280) | .inr r2281 => (some 0))
theorem Qct (k : Nat) (q0_0 : Int) (q1_0 : ((List Int) × (List Int))) (r : Int) (h : Je k q0_0 q1_0 = some r) : VC Try.prog 86 [VV.tp [vi q0_0] 0, VV.tp [VV.fn 69 [VV.tp [VV.tr (List.map vi q1_0.1) q1_0.1.length, VV.tr (List.map vi q1_0.2) q1_0.2.length] 0]] 0] (vi r) := by
 unfold Je at h
 have e2259 := (show Zg Try.prog 3 0 [vi q0_0] = some (vi q0_0) from (Xb ag3 rfl))
 obtain ⟨r2279, h2278, h⟩ := bs h
 have hph2278 := Qb9 k q0_0 q1_0 _ _ _ h2278
 cases r2279 with
 | inl r2280 =>
  dsimp only at h
  have e2282 := (an (ti tt) (VRun.loop hph2278))
  injection h with h; subst h
  exact Qq pm pn Try.func86 (r0 := vi r2280) (ans := [.reg (.n :: []), .reg (.v (vi q0_0) :: .n :: []), .sub ⟨[(1, none), (5, none), (6, none)], [], []⟩ .ret (Jl q0_0 q1_0 r2280)]) (fr := true) (by kernel_rfl) (an (an (ti tt) (an (an e2259 (ti tt)) e2282)) (ti tt)) (Wv.refl _)
 | inr r2281 =>
  dsimp only at h
  have e2283 := (an (ti tt) (VRun.loop hph2278))
  injection h with h; subst h
  exact Qq pm pn Try.func86 (r0 := vi 0) (ans := [.reg (.n :: []), .reg (.v (vi q0_0) :: .n :: []), .sub ⟨[(1, none), (5, none), (6, none)], [], []⟩ (.exit 0) (Jm q0_0 q1_0 r2281), .reg (.n :: [])]) (fr := true) (by kernel_rfl) (an (an (ti tt) (an (an (an e2259 (ti tt)) e2283) (an (ti tt) tt))) (ti tt)) (Wv.refl _)
def Qze (z0 : ((Bool × Int) × (Int × ((List Int) × (List Int))))) : List Ans := (.n :: .v (VV.fn 86 [VV.tp [vi z0.2.1] 0, VV.tp [VV.fn 69 [VV.tp [VV.tr (List.map vi z0.2.2.1) z0.2.2.1.length, VV.tr (List.map vi z0.2.2.2) z0.2.2.2.length] 0]] 0]) :: .n :: [])
def Q9 (k : Nat) (a0 : ((Bool × Int) × (Int × ((List Int) × (List Int))))) : Option Int :=
 (Jt k a0.1.1 a0.1.2).bind fun r2290 => (if r2290 = 0 then ((Je k a0.2.1 a0.2.2).bind fun r2296 => (if r2296 = 0 then (some 0) else (some r2296))) else (some r2290))
theorem Xt (k : Nat) (a0 : ((Bool × Int) × (Int × ((List Int) × (List Int))))) (r : Int) (h : Q9 k a0 = some r) : VC Try.prog 35 [VV.tr ([VV.fn 85 [VV.tp [vb a0.1.1] 0, VV.tp [vi a0.1.2] 0], VV.fn 86 [VV.tp [vi a0.2.1] 0, VV.tp [VV.fn 69 [VV.tp [VV.tr (List.map vi a0.2.2.1) a0.2.2.1.length, VV.tr (List.map vi a0.2.2.2) a0.2.2.2.length] 0]] 0]]) 2] (vi r) := by
 unfold Q9 at h
 have e2288 := (show (0 : Int) <= 0 /\ (0 : Int) < ((2 : Nat) : Int) from ⟨by decide, by decide⟩)
 have e2289 := (show Zg Try.prog 86 ((0 : Int).toNat * 1) ([VV.fn 85 [VV.tp [vb a0.1.1] 0, VV.tp [vi a0.1.2] 0], VV.fn 86 [VV.tp [vi a0.2.1] 0, VV.tp [VV.fn 69 [VV.tp [VV.tr (List.map vi a0.2.2.1) a0.2.2.1.length, VV.tr (List.map vi a0.2.2.2) a0.2.2.2.length] 0]] 0]]) = some (VV.fn 85 [VV.tp [vb a0.1.1] 0, VV.tp [vi a0.1.2] 0]) from (Xb ag86 rfl))
 obtain ⟨r2290, h2291, h⟩ := bs h
 have e2292 := (Ju k a0.1.1 a0.1.2 _ h2291)
 rcases ifs h with ⟨h2293, h⟩ | ⟨h2293, h⟩
 ·have e2294 := (show (0 : Int) <= 1 /\ (1 : Int) < ((2 : Nat) : Int) from ⟨by decide, by decide⟩)
  have e2295 := (show Zg Try.prog 86 ((1 : Int).toNat * 1) ([VV.fn 85 [VV.tp [vb a0.1.1] 0, VV.tp [vi a0.1.2] 0], VV.fn 86 [VV.tp [vi a0.2.1] 0, VV.tp [VV.fn 69 [VV.tp [VV.tr (List.map vi a0.2.2.1) a0.2.2.1.length, VV.tr (List.map vi a0.2.2.2) a0.2.2.2.length] 0]] 0]]) = some (VV.fn 86 [VV.tp [vi a0.2.1] 0, VV.tp [VV.fn 69 [VV.tp [VV.tr (List.map vi a0.2.2.1) a0.2.2.1.length, VV.tr (List.map vi a0.2.2.2) a0.2.2.2.length] 0]] 0]) from (Xb ag86 rfl))
  obtain ⟨r2296, h2297, h⟩ := bs h
  have e2298 := (Qct k a0.2.1 a0.2.2 _ h2297)
  rcases ifs h with ⟨h2299, h⟩ | ⟨h2299, h⟩
  ·injection h with h; subst h
   exact Qq pm pn Try.func35 (r0 := vi 0) (ans := [.reg (.n :: []), .reg (nN 3 []), .unr 4, .reg (.n :: []), .br true, .reg (.n :: .v (VV.fn 85 [VV.tp [vb a0.1.1] 0, VV.tp [vi a0.1.2] 0]) :: .n :: []), .reg (.n :: .call (vi r2290) :: .n :: []), .reg (.n :: .n :: []), .br false, .reg (.n :: .n :: []), .reg (.n :: []), .br true, .reg (Qze a0), .reg (.n :: .call (vi r2296) :: .n :: []), .reg (.n :: .n :: []), .br false, .reg (.n :: .n :: []), .reg (.n :: []), .br false, .reg (.n :: [])]) (fr := true) (by kernel_rfl) (an (an (ti tt) (an (an (ti (ti (ti tt))) (an (an (ti tt) (an (an (show (decide ((0 : Int) < 2)) = true from (dt (by decide))) tt) (an (an (an e2288 (an e2289 (ti tt))) (an (ti (an e2292 (ti tt))) (an (ti (ti tt)) (an (Qs (dt h2293)) tt)))) (ti (ti tt))))) (an (an (ti tt) (an (an (show (decide ((1 : Int) < 2)) = true from (dt (by decide))) tt) (an (an (an e2294 (an e2295 (ti tt))) (an (ti (an e2298 (ti tt))) (an (ti (ti tt)) (an (Qs (dt h2299)) tt)))) (ti (ti tt))))) (an (ti tt) (an (show (decide ((2 : Int) < 2)) = false from (df (by decide))) tt))))) (an (ti tt) tt))) (ti tt)) (Wv.refl _)
  ·injection h with h; subst h
   exact Qq pm pn Try.func35 (r0 := vi r2296) (ans := [.reg (.n :: []), .reg (nN 3 []), .unr 3, .reg (.n :: []), .br true, .reg (.n :: .v (VV.fn 85 [VV.tp [vb a0.1.1] 0, VV.tp [vi a0.1.2] 0]) :: .n :: []), .reg (.n :: .call (vi r2290) :: .n :: []), .reg (.n :: .n :: []), .br false, .reg (.n :: .n :: []), .reg (.n :: []), .br true, .reg (Qze a0), .reg (.n :: .call (vi r2296) :: .n :: []), .reg (.n :: .n :: []), .br true, .reg (.n :: .n :: [])]) (fr := true) (by kernel_rfl) (an (an (ti tt) (an (ti (ti (ti tt))) (an (an (ti tt) (an (an (show (decide ((0 : Int) < 2)) = true from (dt (by decide))) tt) (an (an (an e2288 (an e2289 (ti tt))) (an (ti (an e2292 (ti tt))) (an (ti (ti tt)) (an (Qs (dt h2293)) tt)))) (ti (ti tt))))) (an (ti tt) (an (an (show (decide ((1 : Int) < 2)) = true from (dt (by decide))) tt) (an (an e2294 (an e2295 (ti tt))) (an (ti (an e2298 (ti tt))) (an (ti (ti tt)) (an (Zj (df h2299)) (an (ti (ti tt)) tt)))))))))) (ti tt)) (Wv.refl _)
 ·injection h with h; subst h
  exact Qq pm pn Try.func35 (r0 := vi r2290) (ans := [.reg (.n :: []), .reg (nN 3 []), .unr 2, .reg (.n :: []), .br true, .reg (.n :: .v (VV.fn 85 [VV.tp [vb a0.1.1] 0, VV.tp [vi a0.1.2] 0]) :: .n :: []), .reg (.n :: .call (vi r2290) :: .n :: []), .reg (.n :: .n :: []), .br true, .reg (.n :: .n :: [])]) (fr := true) (by kernel_rfl) (an (an (ti tt) (an (ti (ti (ti tt))) (an (ti tt) (an (an (show (decide ((0 : Int) < 2)) = true from (dt (by decide))) tt) (an (an e2288 (an e2289 (ti tt))) (an (ti (an e2292 (ti tt))) (an (ti (ti tt)) (an (Zj (df h2293)) (an (ti (ti tt)) tt))))))))) (ti tt)) (Wv.refl _)
theorem Qzf (z0 : (Bool × Int)) (z1 : (Int × ((List Int) × (List Int)))) : [VV.tr ([VV.fn 85 [VV.tp [vb (((z0, z1).1).1)] 0, VV.tp [vi (((z0, z1).1).2)] 0], VV.fn 86 [VV.tp [vi (((z0, z1).2).1)] 0, VV.tp [VV.fn 69 [VV.tp [VV.tr (List.map vi ((((z0, z1).2).2).1)) (((((z0, z1).2).2).1).length), VV.tr (List.map vi ((((z0, z1).2).2).2)) (((((z0, z1).2).2).2).length)] 0]] 0]]) 2] = [VV.tr (List.drop 0 (List.map unfr [VV.fn 85 [VV.tp [vb z0.1] 0, VV.tp [vi z0.2] 0], VV.fn 86 [VV.tp [vi z1.1] 0, VV.tp [VV.fn 69 [VV.tp [VV.tr (List.map vi z1.2.1) z1.2.1.length, VV.tr (List.map vi z1.2.2) z1.2.2.length] 0]] 0]])) 2] := by first | rfl | (simp only [Jz, Zc, Zz, map_cons, map_nil, un_i, un_b, Jr, length_map, length_cons, length_nil]; done) | (simp only [Jz, Zc, Zz, map_cons, map_nil, un_i, un_b, Jr, length_map, length_cons, length_nil]; rfl) | (simp only [Jz, Zc, Zz, map_cons, map_nil, un_i, un_b, Jr, length_map, length_cons, length_nil, length_cons, length_nil, length_append]; done)
def Q2s (z0 : (List Int)) (z1 : (List Qd)) (z2 : Int) (z3 : (List Int)) (z4 : (Bool × Int)) (z5 : (Int × ((List Int) × (List Int)))) (z6 : Int) : List Ans := (.n :: .v (VV.tr (List.map vi z0) z0.length) :: .n :: .v (VV.tr (flatMap Qc z1) z1.length) :: .call (vi z2) :: nN 3 (.v (VV.tr (List.map vi z3) z3.length) :: .n :: .v (VV.tr (flatMap Qc z1) z1.length) :: .call (vi z2) :: .n :: .b true :: .call (VV.fn 85 [VV.tp [vb z4.1] 0, VV.tp [vi z4.2] 0]) :: .v (VV.tr (flatMap Qc z1) z1.length) :: .call (vi z2) :: .n :: .call (VV.fn 86 [VV.tp [vi z5.1] 0, VV.tp [VV.fn 69 [VV.tp [VV.tr (List.map vi z5.2.1) z5.2.1.length, VV.tr (List.map vi z5.2.2) z5.2.2.length] 0]] 0]) :: .n :: .call (vi z6) :: .n :: []))
def Q2t (z0 : (List Int)) (z1 : (List Qd)) (z2 : Int) (z3 : (Bool × Int)) (z4 : (Int × ((List Int) × (List Int)))) (z5 : Int) : List Ans := (.n :: .v (VV.tr (List.map vi z0) z0.length) :: .n :: .v (VV.tr (flatMap Qc z1) z1.length) :: .call (vi z2) :: .n :: .n :: nS 6 (.b false :: .call (VV.fn 85 [VV.tp [vb z3.1] 0, VV.tp [vi z3.2] 0]) :: .v (VV.tr (flatMap Qc z1) z1.length) :: .call (vi z2) :: .n :: .call (VV.fn 86 [VV.tp [vi z4.1] 0, VV.tp [VV.fn 69 [VV.tp [VV.tr (List.map vi z4.2.1) z4.2.1.length, VV.tr (List.map vi z4.2.2) z4.2.2.length] 0]] 0]) :: .n :: .call (vi z5) :: .n :: []))
def Y5 (k : Nat) (q0_0 : (List Int)) (q0_1 : (List Int)) (q1_0 : (List Qd)) : Option Int :=
 (Qae k q1_0).bind fun r2317 => (if (q0_0.length : Int) = r2317 then ((Xd k (decide ((q0_1.length : Int) = r2317)) 10).bind fun r2324 => ((Xr k r2317 (q0_0, q0_1)).bind fun r2329 => ((Q9 k (r2324, r2329)).bind fun r2332 => (some r2332)))) else ((Xd k false 10).bind fun r2336 => ((Xr k r2317 (q0_0, q0_1)).bind fun r2340 => ((Q9 k (r2336, r2340)).bind fun r2343 => (some r2343)))))
theorem Qdt (k : Nat) (q0_0 : (List Int)) (q0_1 : (List Int)) (q1_0 : (List Qd)) (r : Int) (h : Y5 k q0_0 q0_1 q1_0 = some r) : VC Try.prog 66 [VV.tp [VV.tr (List.map vi q0_0) q0_0.length, VV.tr (List.map vi q0_1) q0_1.length] 0, VV.tp [VV.tr (flatMap Qc q1_0) q1_0.length] 0] (vi r) := by
 unfold Y5 at h
 have e2315 := (show Zg Try.prog 23 0 [VV.tr (List.map vi q0_0) q0_0.length, VV.tr (List.map vi q0_1) q0_1.length] = some (VV.tr (List.map vi q0_0) q0_0.length) from (Xb ag23 rfl))
 have e2316 := (show Zg Try.prog 22 0 [VV.tr (flatMap Qc q1_0) q1_0.length] = some (VV.tr (flatMap Qc q1_0) q1_0.length) from (Xb ag22 rfl))
 obtain ⟨r2317, h2318, h⟩ := bs h
 rcases ifs h with ⟨h2319, h⟩ | ⟨h2319, h⟩
 ·have e2320 := (an (dt h2319) (show Zg Try.prog 23 1 [VV.tr (List.map vi q0_0) q0_0.length, VV.tr (List.map vi q0_1) q0_1.length] = some (VV.tr (List.map vi q0_1) q0_1.length) from (Xb ag23 rfl)))
  have e2321 := (an (dt h2319) (show Zg Try.prog 22 0 [VV.tr (flatMap Qc q1_0) q1_0.length] = some (VV.tr (flatMap Qc q1_0) q1_0.length) from (Xb ag22 rfl)))
  have e2323 := (an (dt h2319) (Yw k q1_0 _ h2318))
  obtain ⟨r2324, h2325, h⟩ := bs h
  have e2326 := (Xw k (decide ((q0_1.length : Int) = r2317)) 10 _ h2325)
  have e2327 := (show Zg Try.prog 22 0 [VV.tr (flatMap Qc q1_0) q1_0.length] = some (VV.tr (flatMap Qc q1_0) q1_0.length) from (Xb ag22 rfl))
  obtain ⟨r2329, h2330, h⟩ := bs h
  have e2331 := (VC.args (Qal k r2317 (q0_0, q0_1) _ h2330) (Qzc r2317 q0_0 q0_1))
  obtain ⟨r2332, h2333, h⟩ := bs h
  have e2334 := (VC.args (Xt k (r2324, r2329) _ h2333) (Qzf r2324 r2329))
  have e2335 := (ti (an e2315 (ti (an e2316 (an (Yw k q1_0 _ h2318) (ti (ti (an (an (dt h2319) tt) (an e2320 (an (an (dt h2319) tt) (an e2321 (an e2323 (an (an (dt h2319) tt) (an (dt h2319) (an e2326 (an e2327 (an (Yw k q1_0 _ h2318) (ti (an e2331 (ti (an e2334 (ti tt))))))))))))))))))))))
  injection h with h; subst h
  exact Qq pm pn Try.func66 (r0 := vi r2332) (ans := [.reg (.n :: []), .reg (Q2s q0_0 q1_0 r2317 q0_1 r2324 r2329 r2332)]) (fr := true) (by kernel_rfl) (an (an (ti tt) (an e2335 tt)) (ti tt)) (Wv.refl _)
 ·obtain ⟨r2336, h2337, h⟩ := bs h
  have e2338 := (show Zg Try.prog 22 0 [VV.tr (flatMap Qc q1_0) q1_0.length] = some (VV.tr (flatMap Qc q1_0) q1_0.length) from (Xb ag22 rfl))
  obtain ⟨r2340, h2341, h⟩ := bs h
  have e2342 := (VC.args (Qal k r2317 (q0_0, q0_1) _ h2341) (Qzc r2317 q0_0 q0_1))
  obtain ⟨r2343, h2344, h⟩ := bs h
  have e2345 := (VC.args (Xt k (r2336, r2340) _ h2344) (Qzf r2336 r2340))
  have e2346 := (ti (an e2315 (ti (an e2316 (an (Yw k q1_0 _ h2318) (ti (ti (an (df h2319) (an (df h2319) (an (df h2319) (an (df h2319) (an (df h2319) (an (df h2319) (an (df h2319) (an (Xw k false 10 _ h2337) (an e2338 (an (Yw k q1_0 _ h2318) (ti (an e2342 (ti (an e2345 (ti tt))))))))))))))))))))))
  injection h with h; subst h
  exact Qq pm pn Try.func66 (r0 := vi r2343) (ans := [.reg (.n :: []), .reg (Q2t q0_0 q1_0 r2317 r2336 r2340 r2343)]) (fr := true) (by kernel_rfl) (an (an (ti tt) (an e2346 tt)) (ti tt)) (Wv.refl _)
def Qq0 (z0 : Qg) (z1 : Int) (z2 : Bool) (z3 : Bool) : List Ans := (nN 4 (.v (vi (z0.Low.getD z1.toNat 0)) :: .call (vb z2) :: nN 6 (.v (vi (z0.High.getD z1.toNat 0)) :: .call (vb z3) :: .n :: .b false :: [])))
def Qvt (z0 : Qg) (z1 : Int) : List Ans := (nN 4 (.v (vi (z0.High.getD z1.toNat 0)) :: nN 4 (.v (vi (z0.Low.getD z1.toNat 0)) :: .n :: [])))
def Q0l (z0 : Qg) (z1 : Int) (z2 : Bool) : List Ans := (nN 4 (.v (vi (z0.Low.getD z1.toNat 0)) :: .call (vb z2) :: .n :: .n :: nS 7 (.b true :: [])))
def Ya (a1 : Qg) (r2957 : (Int × Int)) (x7 : Int) : VS := ⟨mkA [(3, VV.pt 0 0), (5, vi r2957.1), (7, vi x7)], [some ⟨true, 1, Ze a1⟩], .nil⟩
def Xx (a1 : Qg) (r2957 : (Int × Int)) (r : Int) : VS := ⟨mkA [(4, vi r)], [], .nil⟩
def Y1 (a1 : Qg) (r2957 : (Int × Int)) (r : Unit) : VS := ⟨mkA [], [], .nil⟩
def Zo (k : Nat) (a1 : Qg) (r2957 : (Int × Int)) : Nat -> Int -> Option (Sum Int Unit)
 | 0, _ => none
 | fuel + 1, x7 => if x7 < r2957.1 then (if 0 <= x7 /\ x7 < (a1.Low.length : Int) then ((Jc k (a1.Low.getD x7.toNat 0) 0 10000).bind fun r3010 => (if r3010 = true then (if 0 <= x7 /\ x7 < (a1.High.length : Int) then ((Jc k (a1.High.getD x7.toNat 0) 0 10000).bind fun r3016 => (if r3016 = true then (if (a1.High.getD x7.toNat 0) < (a1.Low.getD x7.toNat 0) then (some (.inl 9)) else (Zo k a1 r2957 fuel (w64 (x7 + 1)))) else (some (.inl 2)))) else none) else (some (.inl 2)))) else none) else (some (.inr ()))
theorem Qdp (k : Nat) (a1 : Qg) (r2957 : (Int × Int)) : ∀ (fuel : Nat) (x7 : Int) (r : Sum Int Unit), Zo k a1 r2957 fuel x7 = some r -> (match r with | .inl r => Y0 none Try.prog (szF Try.f17) (J5 Try.f17 0) (Ya a1 r2957 x7) .ret (Xx a1 r2957 r) | .inr r => Y0 none Try.prog (szF Try.f17) (J5 Try.f17 0) (Ya a1 r2957 x7) (.exit 0) (Y1 a1 r2957 r)) := by
 intro fuel
 induction fuel with
 | zero => intro x7 r h; rw [Zo.eq_1] at h; cases h
 | succ fuel ih =>
  intro x7 r h
  rw [Zo.eq_2] at h
  rcases ifs h with ⟨h3007, h⟩ | ⟨h3007, h⟩
  ·obtain ⟨h3008, h⟩ := ifn h
   have e3009 := (show Zg Try.prog 3 (x7.toNat * 1) (List.map vi a1.Low) = some (vi (a1.Low.getD x7.toNat 0)) from Qb4 ag3 vi a1.Low 0 h3008 (by omega))
   obtain ⟨r3010, h3011, h⟩ := bs h
   have e3012 := (Y4 k (a1.Low.getD x7.toNat 0) 0 10000 _ h3011)
   rcases ifs h with ⟨h3013, h⟩ | ⟨h3013, h⟩
   ·obtain ⟨h3014, h⟩ := ifn h
    have e3015 := (an (Qs h3013) (show Zg Try.prog 3 (x7.toNat * 1) (List.map vi a1.High) = some (vi (a1.High.getD x7.toNat 0)) from Qb4 ag3 vi a1.High 0 h3014 (by omega)))
    obtain ⟨r3016, h3017, h⟩ := bs h
    have e3018 := (an (Qs h3013) (Y4 k (a1.High.getD x7.toNat 0) 0 10000 _ h3017))
    have e3019 := (ti (ti (ti (an h3008 (an e3009 (an e3012 (ti (ti (an (an (Qs h3013) tt) (an (an (Qs h3013) tt) (an (an (Qs h3013) tt) (an (an (Qs h3013) h3014) (an e3015 (an e3018 (an (an (Qs h3013) tt) (an (Qs h3013) tt))))))))))))))))
    rcases ifs h with ⟨h3020, h⟩ | ⟨h3020, h⟩
    ·have e3021 := (show Zg Try.prog 3 (x7.toNat * 1) (List.map vi a1.High) = some (vi (a1.High.getD x7.toNat 0)) from Qb4 ag3 vi a1.High 0 h3014 (by omega))
     have e3022 := (show Zg Try.prog 3 (x7.toNat * 1) (List.map vi a1.Low) = some (vi (a1.Low.getD x7.toNat 0)) from Qb4 ag3 vi a1.Low 0 h3008 (by omega))
     have e3023 := (ti (ti (ti (an h3014 (an e3021 (ti (ti (ti (an h3008 (an e3022 (ti tt)))))))))))
     rcases ifs h with ⟨h3024, h⟩ | ⟨h3024, h⟩
     ·injection h with h; subst h
      exact Qv (c := ⟨[(4, none)], [], []⟩) (s1 := (Xx a1 r2957 9)) pm pn (ans := [.reg (nN 3 []), .br true, .reg (Qq0 a1 x7 r3010 r3016), .br false, .reg (Qvt a1 x7), .br true, .reg (.n :: [])]) (by kernel_rfl) (by intro e; cases e) (an (an (an (ti (ti (ti tt))) (an (dt h3007) tt)) (an (an e3019 (an (Qs h3020) tt)) (an e3023 (an (dt h3024) (an (ti tt) tt))))) (ti tt))
     ·have h2 := ih _ _ h
      obtain ⟨q, hv, hq⟩ := pkR (rd := none) (P := Try.prog) (fn := Try.f17) (k := 0) (s := (Ya a1 r2957 x7)) (ans := [.reg (nN 3 []), .br true, .reg (Qq0 a1 x7 r3010 r3016), .br false, .reg (Qvt a1 x7), .br false, .reg (nN 3 [])]) (c := ⟨[(3, none), (5, none), (7, none)], [none], []⟩) (e := .normal) (s1 := (Ya a1 r2957 (w64 (x7 + 1)))) (an (an (an (ti (ti (ti tt))) (an (dt h3007) tt)) (an (an (an e3019 (an (Qs h3020) tt)) (an e3023 (an (df h3024) tt))) (ti (ti (ti tt))))) (ti tt)) (by kernel_rfl)
      cases r with
      | inl r => exact Qw pm pn hv hq h2
      | inr r =>
       exact Qw pm pn hv hq h2
    ·injection h with h; subst h
     exact Qv (c := ⟨[(4, none)], [], []⟩) (s1 := (Xx a1 r2957 2)) pm pn (ans := [.reg (nN 3 []), .br true, .reg (Qq0 a1 x7 r3010 r3016), .br true, .reg (.n :: [])]) (by kernel_rfl) (by intro e; cases e) (an (an (an (ti (ti (ti tt))) (an (dt h3007) tt)) (an e3019 (an (Zj (Zm h3020)) (an (ti tt) tt)))) (ti tt))
   ·have e3025 := (ti (ti (ti (an h3008 (an e3009 (an e3012 (ti (ti (an (Zj (Zm h3013)) (an (Zj (Zm h3013)) (an (Zj (Zm h3013)) (an (Zj (Zm h3013)) (an (Zj (Zm h3013)) (an (Zj (Zm h3013)) (an (Zj (Zm h3013)) (an (Zj (Zm h3013)) tt))))))))))))))))
    injection h with h; subst h
    exact Qv (c := ⟨[(4, none)], [], []⟩) (s1 := (Xx a1 r2957 2)) pm pn (ans := [.reg (nN 3 []), .br true, .reg (Q0l a1 x7 r3010), .br true, .reg (.n :: [])]) (by kernel_rfl) (by intro e; cases e) (an (an (an (ti (ti (ti tt))) (an (dt h3007) tt)) (an e3025 (an rt (an (ti tt) tt)))) (ti tt))
  ·injection h with h; subst h
   exact Qv (c := ⟨[], [], []⟩) (s1 := (Y1 a1 r2957 ())) pm pn (ans := [.reg (nN 3 []), .br false]) (by kernel_rfl) (by intro e; cases e) (an (an (ti (ti (ti tt))) (an (df h3007) tt)) (ti tt))
def Jq (k : Nat) (a0 : (List Qd)) (a1 : Qg) : Option Int :=
 (Yc k a0).bind fun r2957 => (if r2957.2 = 0 then (if (a1.Low.length : Int) = r2957.1 then (if (a1.High.length : Int) = r2957.1 then ((Zo k a1 r2957 k 0).bind fun r3027 => (match r3027 with | .inl r3028 => (some r3028) | .inr r3029 => (some 0))) else (some 10)) else (some 10)) else (some r2957.2))
theorem Qck (k : Nat) (a0 : (List Qd)) (a1 : Qg) (r : Int) (h : Jq k a0 a1 = some r) : VC Try.prog 17 [VV.tr (flatMap Qc a0) a0.length, VV.ag (Ze a1)] (vi r) := by
 unfold Jq at h
 obtain ⟨r2957, h2958, h⟩ := bs h
 have e2959 := (Qeq k a0 _ h2958)
 rcases ifs h with ⟨h2960, h⟩ | ⟨h2960, h⟩
 ·rcases ifs h with ⟨h2961, h⟩ | ⟨h2961, h⟩
  ·have e2962 := (an (Qs (dt h2961)) tt)
   have e2963 := (an (Qs (dt h2961)) tt)
   have e2964 := (an (Qs (dt h2961)) tt)
   have e2965 := (an (Qs (dt h2961)) tt)
   have e2966 := (an (Qs (dt h2961)) tt)
   have e2967 := (ti (ti (ti (ti (ti (ti (an e2962 (an e2963 (an e2964 (an e2965 (an e2966 (an (Qs (dt h2961)) tt))))))))))))
   rcases ifs h with ⟨h2968, h⟩ | ⟨h2968, h⟩
   ·obtain ⟨r3027, h3026, h⟩ := bs h
    have hph3026 := Qdp k a1 r2957 _ _ _ h3026
    cases r3027 with
    | inl r3028 =>
     dsimp only at h
     have e3030 := (an (ti tt) (VRun.loop hph3026))
     injection h with h; subst h
     exact Qq pm pn Try.func17 (r0 := vi r3028) (ans := [.reg (.n :: .n :: []), .reg (.n :: .call (VV.tu [vi r2957.1, vi r2957.2]) :: nN 5 []), .reg (.n :: .n :: []), .br false, .reg (nN 11 (.b false :: [])), .br false, .reg (.n :: []), .sub ⟨[(3, none), (5, none), (7, none)], [none], []⟩ .ret (Xx a1 r2957 r3028)]) (fr := true) (by kernel_rfl) (an (an (ti (ti tt)) (an (ti (an e2959 (ti (ti (ti (ti (ti tt))))))) (an (an (ti (ti tt)) (an (Qs (dt h2960)) tt)) (an (an e2967 (an (Qs (dt h2968)) tt)) (an (ti tt) e3030))))) (ti tt)) (Wv.refl _)
    | inr r3029 =>
     dsimp only at h
     have e3031 := (an (ti tt) (VRun.loop hph3026))
     injection h with h; subst h
     exact Qq pm pn Try.func17 (r0 := vi 0) (ans := [.reg (.n :: .n :: []), .reg (.n :: .call (VV.tu [vi r2957.1, vi r2957.2]) :: nN 5 []), .reg (.n :: .n :: []), .br false, .reg (nN 11 (.b false :: [])), .br false, .reg (.n :: []), .sub ⟨[(3, none), (5, none), (7, none)], [none], []⟩ (.exit 0) (Y1 a1 r2957 r3029), .reg (.n :: [])]) (fr := true) (by kernel_rfl) (an (an (ti (ti tt)) (an (ti (an e2959 (ti (ti (ti (ti (ti tt))))))) (an (an (ti (ti tt)) (an (Qs (dt h2960)) tt)) (an (an e2967 (an (Qs (dt h2968)) tt)) (an (an (ti tt) e3031) (an (ti tt) tt)))))) (ti tt)) (Wv.refl _)
   ·injection h with h; subst h
    exact Qq pm pn Try.func17 (r0 := vi 10) (ans := [.reg (.n :: .n :: []), .reg (.n :: .call (VV.tu [vi r2957.1, vi r2957.2]) :: nN 5 []), .reg (.n :: .n :: []), .br false, .reg (nN 11 (.b false :: [])), .br true, .reg (.n :: [])]) (fr := true) (by kernel_rfl) (an (an (ti (ti tt)) (an (ti (an e2959 (ti (ti (ti (ti (ti tt))))))) (an (an (ti (ti tt)) (an (Qs (dt h2960)) tt)) (an e2967 (an (Zj (df h2968)) (an (ti tt) tt)))))) (ti tt)) (Wv.refl _)
  ·have e3032 := (ti (ti (ti (ti (ti (ti (an (Zj (df h2961)) (an (Zj (df h2961)) (an (Zj (df h2961)) (an (Zj (df h2961)) (an (Zj (df h2961)) (an (Zj (df h2961)) tt))))))))))))
   injection h with h; subst h
   exact Qq pm pn Try.func17 (r0 := vi 10) (ans := [.reg (.n :: .n :: []), .reg (.n :: .call (VV.tu [vi r2957.1, vi r2957.2]) :: nN 5 []), .reg (.n :: .n :: []), .br false, .reg (nN 6 (nS 5 (.b true :: []))), .br true, .reg (.n :: [])]) (fr := true) (by kernel_rfl) (an (an (ti (ti tt)) (an (ti (an e2959 (ti (ti (ti (ti (ti tt))))))) (an (an (ti (ti tt)) (an (Qs (dt h2960)) tt)) (an e3032 (an rt (an (ti tt) tt)))))) (ti tt)) (Wv.refl _)
 ·injection h with h; subst h
  exact Qq pm pn Try.func17 (r0 := vi r2957.2) (ans := [.reg (.n :: .n :: []), .reg (.n :: .call (VV.tu [vi r2957.1, vi r2957.2]) :: nN 5 []), .reg (.n :: .n :: []), .br true, .reg (.n :: .n :: [])]) (fr := true) (by kernel_rfl) (an (an (ti (ti tt)) (an (ti (an e2959 (ti (ti (ti (ti (ti tt))))))) (an (ti (ti tt)) (an (Zj (df h2960)) (an (ti (ti tt)) tt))))) (ti tt)) (Wv.refl _)
end Go.Proofs.Ytiekbdbedonnoaa.Vg

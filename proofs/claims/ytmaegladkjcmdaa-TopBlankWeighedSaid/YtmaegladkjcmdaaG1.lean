import Derived.Test.YtmaegladkjcmdaaWa
namespace Go.Proofs.Ytmaegladkjcmdaa.Vg
set_option maxRecDepth 100000
set_option maxHeartbeats 4000000
set_option linter.unusedVariables false
set_option linter.unusedSimpArgs false
open Go Go.Proofs.Ytmaegladkjcmdaa.Ev Go.Proofs.Ytmaegladkjcmdaa.Vv
open List (flatMap length_cons length_nil length_map length_append map_cons map_nil length_replicate)
structure Qk where
 Outer : Int
 Inner : Int
 From : Int
 To : Int
 Count : Int
 Cut : Bool
 deriving Inhabited
def Qb (x : Qk) : List VV := [vi x.Outer, vi x.Inner, vi x.From, vi x.To, vi x.Count, vb x.Cut]
theorem Qa3 (x : Qk) : (Qb x).length = 6 := rfl
theorem Zo (xs : List Qk) : (xs.flatMap Qb).map unfr = xs.flatMap Qb := Qec (fun _ => rfl) xs
structure Qr where
 Radius : Int
 Height : Int
 At : Int
 Up : Bool
 Cut : Bool
 deriving Inhabited
def Qg (x : Qr) : List VV := [vi x.Radius, vi x.Height, vi x.At, vb x.Up, vb x.Cut]
theorem Qcn (x : Qr) : (Qg x).length = 5 := rfl
theorem Xf (xs : List Qr) : (xs.flatMap Qg).map unfr = xs.flatMap Qg := Qec (fun _ => rfl) xs
structure Zd where
 Density : Int
 Thick : Int
 Parts : (List Qk)
 Caps : (List Qr)
 deriving Inhabited
def Yh (x : Zd) : List VV := [vi x.Density, vi x.Thick, VV.tr (flatMap Qb x.Parts) x.Parts.length, VV.tr (flatMap Qg x.Caps) x.Caps.length]
def Qwk (x : Zd) : List VV := [vi x.Density, vi x.Thick, VV.fr (flatMap Qb x.Parts) x.Parts.length, VV.fr (flatMap Qg x.Caps) x.Caps.length]
theorem Wi (xs : List Zd) : (xs.flatMap Yh).map unfr = xs.flatMap Yh := Qfn (fun _ => rfl) xs
theorem Qb5 (xs : List Zd) : (xs.flatMap Qwk).map unfr = xs.flatMap Yh := Qfn (fun _ => rfl) xs
structure Qct where
 Lo : Int
 Hi : Int
 deriving Inhabited
def Xx (x : Qct) : List VV := [vi x.Lo, vi x.Hi]
theorem Xr (xs : List Qct) : (xs.flatMap Xx).map unfr = xs.flatMap Xx := Qec (fun _ => rfl) xs
theorem ag3 : Qa1 Try.prog 3 = some false := by kernel_rfl
theorem ag4 : Qa1 Try.prog 4 = some false := by kernel_rfl
theorem ag22 : Qa1 Try.prog 22 = some false := by kernel_rfl
theorem ag23 : Qa1 Try.prog 23 = some false := by kernel_rfl
theorem ag25 : Qa1 Try.prog 25 = some true := by kernel_rfl
theorem sz25 : szOf Try.prog 25 = some 4 := by kernel_rfl
theorem ag30 : Qa1 Try.prog 30 = some false := by kernel_rfl
theorem ag38 : Qa1 Try.prog 38 = some true := by kernel_rfl
theorem sz38 : szOf Try.prog 38 = some 6 := by kernel_rfl
theorem ag65 : Qa1 Try.prog 65 = some true := by kernel_rfl
theorem sz65 : szOf Try.prog 65 = some 5 := by kernel_rfl
theorem ag89 : Qa1 Try.prog 89 = some false := by kernel_rfl
theorem ag94 : Qa1 Try.prog 94 = some false := by kernel_rfl
theorem ag97 : Qa1 Try.prog 97 = some false := by kernel_rfl
def Jt (k : Nat) (a0 : Int) (a1 : Int) (a2 : Int) : Option Bool :=
 if a1 <= a0 then (some (decide (a0 <= a2))) else (some false)
theorem Yv (k : Nat) (a0 : Int) (a1 : Int) (a2 : Int) (r : Bool) (h : Jt k a0 a1 a2 = some r) : VC Try.prog 25 [vi a0, vi a1, vi a2] (vb r) := by
 unfold Jt at h
 rcases ifs h with ⟨h105, h⟩ | ⟨h105, h⟩
 ·have e106 := (ti (ti (ti (ti (an (an (dt h105) tt) (an (an (dt h105) tt) (an (an (dt h105) tt) (an (dt h105) (ti tt)))))))))
  injection h with h; subst h
  exact Qw pm pn Try.func25 (r0 := vb (decide (a0 <= a2))) (ans := [.reg (.n :: []), .reg (nN 7 (.b true :: .n :: []))]) (fr := true) (by kernel_rfl) (an (an (ti tt) (an e106 tt)) (ti tt)) (Wv.refl _)
 ·have e107 := (ti (ti (ti (ti (an (df h105) (an (df h105) (an (df h105) (an (df h105) (ti tt)))))))))
  injection h with h; subst h
  exact Qw pm pn Try.func25 (r0 := vb false) (ans := [.reg (.n :: []), .reg (nN 4 (nS 3 (.b false :: .n :: [])))]) (fr := true) (by kernel_rfl) (an (an (ti tt) (an e107 tt)) (ti tt)) (Wv.refl _)
def Qy (k : Nat) (a0 : Bool) (a1 : Int) : Option (Bool × Int) :=
 some (a0, a1)
theorem Qp (k : Nat) (a0 : Bool) (a1 : Int) (r : (Bool × Int)) (h : Qy k a0 a1 = some r) : VC Try.prog 37 [vb a0, vi a1] (VV.fn 53 [VV.tp [vb r.1] 0, VV.tp [vi r.2] 0]) := by
 unfold Qy at h
 injection h with h; subst h
 exact Qw pm pn Try.func37 (r0 := VV.fn 53 [VV.tp [vb a0] 0, VV.tp [vi a1] 0]) (ans := [.reg (nN 3 []), .frz 0, .frz 1, .reg (.n :: .n :: [])]) (fr := false) (by kernel_rfl) (an (an (ti (ti (ti tt))) (an (ti (ti tt)) tt)) (ti tt)) (Wv.of_eq rfl)
def Q0r (z0 : Bool) (z1 : (Bool × Int)) : List Ans := (nN 3 (.call (vb z0) :: .call (VV.fn 53 [VV.tp [vb z1.1] 0, VV.tp [vi z1.2] 0]) :: .n :: []))
def Zl (k : Nat) (a0 : Int) (a1 : Int) (a2 : Int) : Option (Bool × Int) :=
 (Jt k a0 a1 a2).bind fun r113 => ((Qy k r113 2).bind fun r115 => (some r115))
theorem Zm (k : Nat) (a0 : Int) (a1 : Int) (a2 : Int) (r : (Bool × Int)) (h : Zl k a0 a1 a2 = some r) : VC Try.prog 36 [vi a0, vi a1, vi a2] (VV.fn 53 [VV.tp [vb r.1] 0, VV.tp [vi r.2] 0]) := by
 unfold Zl at h
 obtain ⟨r113, h114, h⟩ := bs h
 obtain ⟨r115, h116, h⟩ := bs h
 have e117 := (ti (ti (ti (an (Yv k a0 a1 a2 _ h114) (an (Qp k r113 2 _ h116) (ti tt))))))
 injection h with h; subst h
 exact Qw pm pn Try.func36 (r0 := VV.fn 53 [VV.tp [vb r115.1] 0, VV.tp [vi r115.2] 0]) (ans := [.reg (.n :: []), .reg (Q0r r113 r115)]) (fr := false) (by kernel_rfl) (an (an (ti tt) (an e117 tt)) (ti tt)) (Wv.refl _)
def X4 (k : Nat) (a0 : (List Qk)) (a1 : (Int × Int × (List Qk) × (List Qr))) : Option ((List Qk) × (Int × Int × (List Qk) × (List Qr))) :=
 some (a0, a1)
theorem Qbp (k : Nat) (a0 : (List Qk)) (a1 : (Int × Int × (List Qk) × (List Qr))) (r : ((List Qk) × (Int × Int × (List Qk) × (List Qr)))) (h : X4 k a0 a1 = some r) : VC Try.prog 38 [VV.tr (flatMap Qb a0) a0.length, VV.fn 39 [VV.tp [vi a1.1, vi a1.2.1, VV.tr (flatMap Qb a1.2.2.1) a1.2.2.1.length, VV.tr (flatMap Qg a1.2.2.2) a1.2.2.2.length] 0]] (VV.fn 54 [VV.tp [VV.tr (flatMap Qb r.1) r.1.length] 0, VV.tp [VV.fn 39 [VV.tp [vi r.2.1, vi r.2.2.1, VV.tr (flatMap Qb r.2.2.2.1) r.2.2.2.1.length, VV.tr (flatMap Qg r.2.2.2.2) r.2.2.2.2.length] 0]] 0]) := by
 unfold X4 at h
 injection h with h; subst h
 exact Qw pm pn Try.func38 (r0 := VV.fn 54 [VV.tp [VV.tr (flatMap Qb a0) a0.length] 0, VV.tp [VV.fn 39 [VV.tp [vi a1.1, vi a1.2.1, VV.tr (flatMap Qb a1.2.2.1) a1.2.2.1.length, VV.tr (flatMap Qg a1.2.2.2) a1.2.2.2.length] 0]] 0]) (ans := [.reg (nN 3 []), .frz 0, .frz 1, .reg (.n :: .n :: [])]) (fr := false) (by kernel_rfl) (an (an (ti (ti (ti tt))) (an (ti (ti tt)) tt)) (ti tt)) (Wv.of_eq rfl)
theorem Q0s (z0 : Zd) : [VV.tr (flatMap Qb z0.Parts) z0.Parts.length, VV.fn 39 [VV.tp [vi ((z0.Density, z0.Thick, z0.Parts, z0.Caps).1), vi ((z0.Density, z0.Thick, z0.Parts, z0.Caps).2.1), VV.tr (flatMap Qb ((z0.Density, z0.Thick, z0.Parts, z0.Caps).2.2.1)) (((z0.Density, z0.Thick, z0.Parts, z0.Caps).2.2.1).length), VV.tr (flatMap Qg ((z0.Density, z0.Thick, z0.Parts, z0.Caps).2.2.2)) (((z0.Density, z0.Thick, z0.Parts, z0.Caps).2.2.2).length)] 0]] = [VV.tr (flatMap Qb z0.Parts) z0.Parts.length, VV.fn 39 [VV.tp [vi z0.Density, vi z0.Thick, VV.tr (flatMap Qb z0.Parts) z0.Parts.length, VV.tr (flatMap Qg z0.Caps) z0.Caps.length] 0]] := by first | rfl | (simp only [Zi, map_cons, map_nil, un_i, Qae, length_cons, length_nil, Zo, Xf]; done) | (simp only [Zi, map_cons, map_nil, un_i, Qae, length_cons, length_nil, Zo, Xf]; rfl) | (simp only [Zi, map_cons, map_nil, un_i, Qae, length_cons, length_nil, Zo, Xf, Qb, Qg, length_cons, length_nil, length_append]; done)
def X8 (k : Nat) (a0 : (List Qr)) (a1 : (Int × Int × (List Qk) × (List Qr))) : Option ((List Qr) × (Int × Int × (List Qk) × (List Qr))) :=
 some (a0, a1)
theorem Qbx (k : Nat) (a0 : (List Qr)) (a1 : (Int × Int × (List Qk) × (List Qr))) (r : ((List Qr) × (Int × Int × (List Qk) × (List Qr)))) (h : X8 k a0 a1 = some r) : VC Try.prog 41 [VV.tr (flatMap Qg a0) a0.length, VV.fn 42 [VV.tp [vi a1.1, vi a1.2.1, VV.tr (flatMap Qb a1.2.2.1) a1.2.2.1.length, VV.tr (flatMap Qg a1.2.2.2) a1.2.2.2.length] 0]] (VV.fn 55 [VV.tp [VV.tr (flatMap Qg r.1) r.1.length] 0, VV.tp [VV.fn 42 [VV.tp [vi r.2.1, vi r.2.2.1, VV.tr (flatMap Qb r.2.2.2.1) r.2.2.2.1.length, VV.tr (flatMap Qg r.2.2.2.2) r.2.2.2.2.length] 0]] 0]) := by
 unfold X8 at h
 injection h with h; subst h
 exact Qw pm pn Try.func41 (r0 := VV.fn 55 [VV.tp [VV.tr (flatMap Qg a0) a0.length] 0, VV.tp [VV.fn 42 [VV.tp [vi a1.1, vi a1.2.1, VV.tr (flatMap Qb a1.2.2.1) a1.2.2.1.length, VV.tr (flatMap Qg a1.2.2.2) a1.2.2.2.length] 0]] 0]) (ans := [.reg (nN 3 []), .frz 0, .frz 1, .reg (.n :: .n :: [])]) (fr := false) (by kernel_rfl) (an (an (ti (ti (ti tt))) (an (ti (ti tt)) tt)) (ti tt)) (Wv.of_eq rfl)
theorem Q0t (z0 : Zd) : [VV.tr (flatMap Qg z0.Caps) z0.Caps.length, VV.fn 42 [VV.tp [vi ((z0.Density, z0.Thick, z0.Parts, z0.Caps).1), vi ((z0.Density, z0.Thick, z0.Parts, z0.Caps).2.1), VV.tr (flatMap Qb ((z0.Density, z0.Thick, z0.Parts, z0.Caps).2.2.1)) (((z0.Density, z0.Thick, z0.Parts, z0.Caps).2.2.1).length), VV.tr (flatMap Qg ((z0.Density, z0.Thick, z0.Parts, z0.Caps).2.2.2)) (((z0.Density, z0.Thick, z0.Parts, z0.Caps).2.2.2).length)] 0]] = [VV.tr (flatMap Qg z0.Caps) z0.Caps.length, VV.fn 42 [VV.tp [vi z0.Density, vi z0.Thick, VV.tr (flatMap Qb z0.Parts) z0.Parts.length, VV.tr (flatMap Qg z0.Caps) z0.Caps.length] 0]] := by first | rfl | (simp only [Zi, map_cons, map_nil, un_i, Qae, length_cons, length_nil, Zo, Xf]; done) | (simp only [Zi, map_cons, map_nil, un_i, Qae, length_cons, length_nil, Zo, Xf]; rfl) | (simp only [Zi, map_cons, map_nil, un_i, Qae, length_cons, length_nil, Zo, Xf, Qg, Qb, length_cons, length_nil, length_append]; done)
def Zj (k : Nat) (q0_0 : Bool) (q1_0 : Int) : Option Int :=
 if q0_0 = true then (some 0) else (some q1_0)
theorem Zf (k : Nat) (q0_0 : Bool) (q1_0 : Int) (r : Int) (h : Zj k q0_0 q1_0 = some r) : VC Try.prog 53 [VV.tp [vb q0_0] 0, VV.tp [vi q1_0] 0] (vi r) := by
 unfold Zj at h
 have e146 := (show Xt Try.prog 4 0 [vb q0_0] = some (vb q0_0) from (Ju ag4 rfl))
 rcases ifs h with ⟨h147, h⟩ | ⟨h147, h⟩
 ·injection h with h; subst h
  exact Qw pm pn Try.func53 (r0 := vi 0) (ans := [.reg (.n :: []), .reg (.v (vb q0_0) :: []), .br true, .reg (.n :: [])]) (fr := true) (by kernel_rfl) (an (an (ti tt) (an (an e146 tt) (an h147 (an (ti tt) tt)))) (ti tt)) (Wv.refl _)
 ·have e148 := (show Xt Try.prog 30 0 [vi q1_0] = some (vi q1_0) from (Ju ag30 rfl))
  injection h with h; subst h
  exact Qw pm pn Try.func53 (r0 := vi q1_0) (ans := [.reg (.n :: []), .reg (.v (vb q0_0) :: []), .br false, .reg (.v (vi q1_0) :: .n :: [])]) (fr := true) (by kernel_rfl) (an (an (ti tt) (an (an (an e146 tt) (an (Zk h147) tt)) (an (an e148 (ti tt)) tt))) (ti tt)) (Wv.refl _)
def Qrh (z0 : ((Bool × Int) × (Bool × Int) × (Bool × Int) × (Bool × Int) × (Bool × Int) × (Bool × Int) × (Bool × Int))) : List Ans := (.n :: .v (VV.fn 53 [VV.tp [vb z0.2.2.2.2.1.1] 0, VV.tp [vi z0.2.2.2.2.1.2] 0]) :: .n :: [])
def Qum (z0 : ((Bool × Int) × (Bool × Int) × (Bool × Int) × (Bool × Int) × (Bool × Int) × (Bool × Int) × (Bool × Int))) : List Ans := (.n :: .v (VV.fn 53 [VV.tp [vb z0.2.2.2.2.2.1.1] 0, VV.tp [vi z0.2.2.2.2.2.1.2] 0]) :: .n :: [])
def Qxh (z0 : ((Bool × Int) × (Bool × Int) × (Bool × Int) × (Bool × Int) × (Bool × Int) × (Bool × Int) × (Bool × Int))) : List Ans := (.n :: .v (VV.fn 53 [VV.tp [vb z0.2.2.2.2.2.2.1] 0, VV.tp [vi z0.2.2.2.2.2.2.2] 0]) :: .n :: [])
def Qu (k : Nat) (a0 : ((Bool × Int) × (Bool × Int) × (Bool × Int) × (Bool × Int) × (Bool × Int) × (Bool × Int) × (Bool × Int))) : Option Int :=
 (Zj k a0.1.1 a0.1.2).bind fun r237 => (if r237 = 0 then ((Zj k a0.2.1.1 a0.2.1.2).bind fun r243 => (if r243 = 0 then ((Zj k a0.2.2.1.1 a0.2.2.1.2).bind fun r249 => (if r249 = 0 then ((Zj k a0.2.2.2.1.1 a0.2.2.2.1.2).bind fun r255 => (if r255 = 0 then ((Zj k a0.2.2.2.2.1.1 a0.2.2.2.2.1.2).bind fun r261 => (if r261 = 0 then ((Zj k a0.2.2.2.2.2.1.1 a0.2.2.2.2.2.1.2).bind fun r267 => (if r267 = 0 then ((Zj k a0.2.2.2.2.2.2.1 a0.2.2.2.2.2.2.2).bind fun r273 => (if r273 = 0 then (some 0) else (some r273))) else (some r267))) else (some r261))) else (some r255))) else (some r249))) else (some r243))) else (some r237))
theorem Zu (k : Nat) (a0 : ((Bool × Int) × (Bool × Int) × (Bool × Int) × (Bool × Int) × (Bool × Int) × (Bool × Int) × (Bool × Int))) (r : Int) (h : Qu k a0 = some r) : VC Try.prog 35 [VV.tr ([VV.fn 53 [VV.tp [vb a0.1.1] 0, VV.tp [vi a0.1.2] 0], VV.fn 53 [VV.tp [vb a0.2.1.1] 0, VV.tp [vi a0.2.1.2] 0], VV.fn 53 [VV.tp [vb a0.2.2.1.1] 0, VV.tp [vi a0.2.2.1.2] 0], VV.fn 53 [VV.tp [vb a0.2.2.2.1.1] 0, VV.tp [vi a0.2.2.2.1.2] 0], VV.fn 53 [VV.tp [vb a0.2.2.2.2.1.1] 0, VV.tp [vi a0.2.2.2.2.1.2] 0], VV.fn 53 [VV.tp [vb a0.2.2.2.2.2.1.1] 0, VV.tp [vi a0.2.2.2.2.2.1.2] 0], VV.fn 53 [VV.tp [vb a0.2.2.2.2.2.2.1] 0, VV.tp [vi a0.2.2.2.2.2.2.2] 0]]) 7] (vi r) := by
 unfold Qu at h
 have e235 := (show (0 : Int) <= 0 /\ (0 : Int) < ((7 : Nat) : Int) from ⟨by decide, by decide⟩)
 have e236 := (show Xt Try.prog 89 ((0 : Int).toNat * 1) ([VV.fn 53 [VV.tp [vb a0.1.1] 0, VV.tp [vi a0.1.2] 0], VV.fn 53 [VV.tp [vb a0.2.1.1] 0, VV.tp [vi a0.2.1.2] 0], VV.fn 53 [VV.tp [vb a0.2.2.1.1] 0, VV.tp [vi a0.2.2.1.2] 0], VV.fn 53 [VV.tp [vb a0.2.2.2.1.1] 0, VV.tp [vi a0.2.2.2.1.2] 0], VV.fn 53 [VV.tp [vb a0.2.2.2.2.1.1] 0, VV.tp [vi a0.2.2.2.2.1.2] 0], VV.fn 53 [VV.tp [vb a0.2.2.2.2.2.1.1] 0, VV.tp [vi a0.2.2.2.2.2.1.2] 0], VV.fn 53 [VV.tp [vb a0.2.2.2.2.2.2.1] 0, VV.tp [vi a0.2.2.2.2.2.2.2] 0]]) = some (VV.fn 53 [VV.tp [vb a0.1.1] 0, VV.tp [vi a0.1.2] 0]) from (Ju ag89 rfl))
 obtain ⟨r237, h238, h⟩ := bs h
 have e239 := (Zf k a0.1.1 a0.1.2 _ h238)
 rcases ifs h with ⟨h240, h⟩ | ⟨h240, h⟩
 ·have e241 := (show (0 : Int) <= 1 /\ (1 : Int) < ((7 : Nat) : Int) from ⟨by decide, by decide⟩)
  have e242 := (show Xt Try.prog 89 ((1 : Int).toNat * 1) ([VV.fn 53 [VV.tp [vb a0.1.1] 0, VV.tp [vi a0.1.2] 0], VV.fn 53 [VV.tp [vb a0.2.1.1] 0, VV.tp [vi a0.2.1.2] 0], VV.fn 53 [VV.tp [vb a0.2.2.1.1] 0, VV.tp [vi a0.2.2.1.2] 0], VV.fn 53 [VV.tp [vb a0.2.2.2.1.1] 0, VV.tp [vi a0.2.2.2.1.2] 0], VV.fn 53 [VV.tp [vb a0.2.2.2.2.1.1] 0, VV.tp [vi a0.2.2.2.2.1.2] 0], VV.fn 53 [VV.tp [vb a0.2.2.2.2.2.1.1] 0, VV.tp [vi a0.2.2.2.2.2.1.2] 0], VV.fn 53 [VV.tp [vb a0.2.2.2.2.2.2.1] 0, VV.tp [vi a0.2.2.2.2.2.2.2] 0]]) = some (VV.fn 53 [VV.tp [vb a0.2.1.1] 0, VV.tp [vi a0.2.1.2] 0]) from (Ju ag89 rfl))
  obtain ⟨r243, h244, h⟩ := bs h
  have e245 := (Zf k a0.2.1.1 a0.2.1.2 _ h244)
  rcases ifs h with ⟨h246, h⟩ | ⟨h246, h⟩
  ·have e247 := (show (0 : Int) <= 2 /\ (2 : Int) < ((7 : Nat) : Int) from ⟨by decide, by decide⟩)
   have e248 := (show Xt Try.prog 89 ((2 : Int).toNat * 1) ([VV.fn 53 [VV.tp [vb a0.1.1] 0, VV.tp [vi a0.1.2] 0], VV.fn 53 [VV.tp [vb a0.2.1.1] 0, VV.tp [vi a0.2.1.2] 0], VV.fn 53 [VV.tp [vb a0.2.2.1.1] 0, VV.tp [vi a0.2.2.1.2] 0], VV.fn 53 [VV.tp [vb a0.2.2.2.1.1] 0, VV.tp [vi a0.2.2.2.1.2] 0], VV.fn 53 [VV.tp [vb a0.2.2.2.2.1.1] 0, VV.tp [vi a0.2.2.2.2.1.2] 0], VV.fn 53 [VV.tp [vb a0.2.2.2.2.2.1.1] 0, VV.tp [vi a0.2.2.2.2.2.1.2] 0], VV.fn 53 [VV.tp [vb a0.2.2.2.2.2.2.1] 0, VV.tp [vi a0.2.2.2.2.2.2.2] 0]]) = some (VV.fn 53 [VV.tp [vb a0.2.2.1.1] 0, VV.tp [vi a0.2.2.1.2] 0]) from (Ju ag89 rfl))
   obtain ⟨r249, h250, h⟩ := bs h
   have e251 := (Zf k a0.2.2.1.1 a0.2.2.1.2 _ h250)
   rcases ifs h with ⟨h252, h⟩ | ⟨h252, h⟩
   ·have e253 := (show (0 : Int) <= 3 /\ (3 : Int) < ((7 : Nat) : Int) from ⟨by decide, by decide⟩)
    have e254 := (show Xt Try.prog 89 ((3 : Int).toNat * 1) ([VV.fn 53 [VV.tp [vb a0.1.1] 0, VV.tp [vi a0.1.2] 0], VV.fn 53 [VV.tp [vb a0.2.1.1] 0, VV.tp [vi a0.2.1.2] 0], VV.fn 53 [VV.tp [vb a0.2.2.1.1] 0, VV.tp [vi a0.2.2.1.2] 0], VV.fn 53 [VV.tp [vb a0.2.2.2.1.1] 0, VV.tp [vi a0.2.2.2.1.2] 0], VV.fn 53 [VV.tp [vb a0.2.2.2.2.1.1] 0, VV.tp [vi a0.2.2.2.2.1.2] 0], VV.fn 53 [VV.tp [vb a0.2.2.2.2.2.1.1] 0, VV.tp [vi a0.2.2.2.2.2.1.2] 0], VV.fn 53 [VV.tp [vb a0.2.2.2.2.2.2.1] 0, VV.tp [vi a0.2.2.2.2.2.2.2] 0]]) = some (VV.fn 53 [VV.tp [vb a0.2.2.2.1.1] 0, VV.tp [vi a0.2.2.2.1.2] 0]) from (Ju ag89 rfl))
    obtain ⟨r255, h256, h⟩ := bs h
    have e257 := (Zf k a0.2.2.2.1.1 a0.2.2.2.1.2 _ h256)
    rcases ifs h with ⟨h258, h⟩ | ⟨h258, h⟩
    ·have e259 := (show (0 : Int) <= 4 /\ (4 : Int) < ((7 : Nat) : Int) from ⟨by decide, by decide⟩)
     have e260 := (show Xt Try.prog 89 ((4 : Int).toNat * 1) ([VV.fn 53 [VV.tp [vb a0.1.1] 0, VV.tp [vi a0.1.2] 0], VV.fn 53 [VV.tp [vb a0.2.1.1] 0, VV.tp [vi a0.2.1.2] 0], VV.fn 53 [VV.tp [vb a0.2.2.1.1] 0, VV.tp [vi a0.2.2.1.2] 0], VV.fn 53 [VV.tp [vb a0.2.2.2.1.1] 0, VV.tp [vi a0.2.2.2.1.2] 0], VV.fn 53 [VV.tp [vb a0.2.2.2.2.1.1] 0, VV.tp [vi a0.2.2.2.2.1.2] 0], VV.fn 53 [VV.tp [vb a0.2.2.2.2.2.1.1] 0, VV.tp [vi a0.2.2.2.2.2.1.2] 0], VV.fn 53 [VV.tp [vb a0.2.2.2.2.2.2.1] 0, VV.tp [vi a0.2.2.2.2.2.2.2] 0]]) = some (VV.fn 53 [VV.tp [vb a0.2.2.2.2.1.1] 0, VV.tp [vi a0.2.2.2.2.1.2] 0]) from (Ju ag89 rfl))
     obtain ⟨r261, h262, h⟩ := bs h
     have e263 := (Zf k a0.2.2.2.2.1.1 a0.2.2.2.2.1.2 _ h262)
     rcases ifs h with ⟨h264, h⟩ | ⟨h264, h⟩
     ·have e265 := (show (0 : Int) <= 5 /\ (5 : Int) < ((7 : Nat) : Int) from ⟨by decide, by decide⟩)
      have e266 := (show Xt Try.prog 89 ((5 : Int).toNat * 1) ([VV.fn 53 [VV.tp [vb a0.1.1] 0, VV.tp [vi a0.1.2] 0], VV.fn 53 [VV.tp [vb a0.2.1.1] 0, VV.tp [vi a0.2.1.2] 0], VV.fn 53 [VV.tp [vb a0.2.2.1.1] 0, VV.tp [vi a0.2.2.1.2] 0], VV.fn 53 [VV.tp [vb a0.2.2.2.1.1] 0, VV.tp [vi a0.2.2.2.1.2] 0], VV.fn 53 [VV.tp [vb a0.2.2.2.2.1.1] 0, VV.tp [vi a0.2.2.2.2.1.2] 0], VV.fn 53 [VV.tp [vb a0.2.2.2.2.2.1.1] 0, VV.tp [vi a0.2.2.2.2.2.1.2] 0], VV.fn 53 [VV.tp [vb a0.2.2.2.2.2.2.1] 0, VV.tp [vi a0.2.2.2.2.2.2.2] 0]]) = some (VV.fn 53 [VV.tp [vb a0.2.2.2.2.2.1.1] 0, VV.tp [vi a0.2.2.2.2.2.1.2] 0]) from (Ju ag89 rfl))
      obtain ⟨r267, h268, h⟩ := bs h
      have e269 := (Zf k a0.2.2.2.2.2.1.1 a0.2.2.2.2.2.1.2 _ h268)
      rcases ifs h with ⟨h270, h⟩ | ⟨h270, h⟩
      ·have e271 := (show (0 : Int) <= 6 /\ (6 : Int) < ((7 : Nat) : Int) from ⟨by decide, by decide⟩)
       have e272 := (show Xt Try.prog 89 ((6 : Int).toNat * 1) ([VV.fn 53 [VV.tp [vb a0.1.1] 0, VV.tp [vi a0.1.2] 0], VV.fn 53 [VV.tp [vb a0.2.1.1] 0, VV.tp [vi a0.2.1.2] 0], VV.fn 53 [VV.tp [vb a0.2.2.1.1] 0, VV.tp [vi a0.2.2.1.2] 0], VV.fn 53 [VV.tp [vb a0.2.2.2.1.1] 0, VV.tp [vi a0.2.2.2.1.2] 0], VV.fn 53 [VV.tp [vb a0.2.2.2.2.1.1] 0, VV.tp [vi a0.2.2.2.2.1.2] 0], VV.fn 53 [VV.tp [vb a0.2.2.2.2.2.1.1] 0, VV.tp [vi a0.2.2.2.2.2.1.2] 0], VV.fn 53 [VV.tp [vb a0.2.2.2.2.2.2.1] 0, VV.tp [vi a0.2.2.2.2.2.2.2] 0]]) = some (VV.fn 53 [VV.tp [vb a0.2.2.2.2.2.2.1] 0, VV.tp [vi a0.2.2.2.2.2.2.2] 0]) from (Ju ag89 rfl))
       obtain ⟨r273, h274, h⟩ := bs h
       have e275 := (Zf k a0.2.2.2.2.2.2.1 a0.2.2.2.2.2.2.2 _ h274)
       rcases ifs h with ⟨h276, h⟩ | ⟨h276, h⟩
       ·injection h with h; subst h
        exact Qw pm pn Try.func35 (r0 := vi 0) (ans := [.reg (.n :: []), .reg (nN 3 []), .unr 9, .reg (.n :: []), .br true, .reg (.n :: .v (VV.fn 53 [VV.tp [vb a0.1.1] 0, VV.tp [vi a0.1.2] 0]) :: .n :: []), .reg (.n :: .call (vi r237) :: .n :: []), .reg (.n :: .n :: []), .br false, .reg (.n :: .n :: []), .reg (.n :: []), .br true, .reg (.n :: .v (VV.fn 53 [VV.tp [vb a0.2.1.1] 0, VV.tp [vi a0.2.1.2] 0]) :: .n :: []), .reg (.n :: .call (vi r243) :: .n :: []), .reg (.n :: .n :: []), .br false, .reg (.n :: .n :: []), .reg (.n :: []), .br true, .reg (.n :: .v (VV.fn 53 [VV.tp [vb a0.2.2.1.1] 0, VV.tp [vi a0.2.2.1.2] 0]) :: .n :: []), .reg (.n :: .call (vi r249) :: .n :: []), .reg (.n :: .n :: []), .br false, .reg (.n :: .n :: []), .reg (.n :: []), .br true, .reg (.n :: .v (VV.fn 53 [VV.tp [vb a0.2.2.2.1.1] 0, VV.tp [vi a0.2.2.2.1.2] 0]) :: .n :: []), .reg (.n :: .call (vi r255) :: .n :: []), .reg (.n :: .n :: []), .br false, .reg (.n :: .n :: []), .reg (.n :: []), .br true, .reg (Qrh a0), .reg (.n :: .call (vi r261) :: .n :: []), .reg (.n :: .n :: []), .br false, .reg (.n :: .n :: []), .reg (.n :: []), .br true, .reg (Qum a0), .reg (.n :: .call (vi r267) :: .n :: []), .reg (.n :: .n :: []), .br false, .reg (.n :: .n :: []), .reg (.n :: []), .br true, .reg (Qxh a0), .reg (.n :: .call (vi r273) :: .n :: []), .reg (.n :: .n :: []), .br false, .reg (.n :: .n :: []), .reg (.n :: []), .br false, .reg (.n :: [])]) (fr := true) (by kernel_rfl) (an (an (ti tt) (an (an (ti (ti (ti tt))) (an (an (ti tt) (an (an (show (decide ((0 : Int) < 7)) = true from (dt (by decide))) tt) (an (an (an e235 (an e236 (ti tt))) (an (ti (an e239 (ti tt))) (an (ti (ti tt)) (an (Qm (dt h240)) tt)))) (ti (ti tt))))) (an (an (ti tt) (an (an (show (decide ((1 : Int) < 7)) = true from (dt (by decide))) tt) (an (an (an e241 (an e242 (ti tt))) (an (ti (an e245 (ti tt))) (an (ti (ti tt)) (an (Qm (dt h246)) tt)))) (ti (ti tt))))) (an (an (ti tt) (an (an (show (decide ((2 : Int) < 7)) = true from (dt (by decide))) tt) (an (an (an e247 (an e248 (ti tt))) (an (ti (an e251 (ti tt))) (an (ti (ti tt)) (an (Qm (dt h252)) tt)))) (ti (ti tt))))) (an (an (ti tt) (an (an (show (decide ((3 : Int) < 7)) = true from (dt (by decide))) tt) (an (an (an e253 (an e254 (ti tt))) (an (ti (an e257 (ti tt))) (an (ti (ti tt)) (an (Qm (dt h258)) tt)))) (ti (ti tt))))) (an (an (ti tt) (an (an (show (decide ((4 : Int) < 7)) = true from (dt (by decide))) tt) (an (an (an e259 (an e260 (ti tt))) (an (ti (an e263 (ti tt))) (an (ti (ti tt)) (an (Qm (dt h264)) tt)))) (ti (ti tt))))) (an (an (ti tt) (an (an (show (decide ((5 : Int) < 7)) = true from (dt (by decide))) tt) (an (an (an e265 (an e266 (ti tt))) (an (ti (an e269 (ti tt))) (an (ti (ti tt)) (an (Qm (dt h270)) tt)))) (ti (ti tt))))) (an (an (ti tt) (an (an (show (decide ((6 : Int) < 7)) = true from (dt (by decide))) tt) (an (an (an e271 (an e272 (ti tt))) (an (ti (an e275 (ti tt))) (an (ti (ti tt)) (an (Qm (dt h276)) tt)))) (ti (ti tt))))) (an (ti tt) (an (show (decide ((7 : Int) < 7)) = false from (df (by decide))) tt)))))))))) (an (ti tt) tt))) (ti tt)) (Wv.refl _)
       ·injection h with h; subst h
        exact Qw pm pn Try.func35 (r0 := vi r273) (ans := [.reg (.n :: []), .reg (nN 3 []), .unr 8, .reg (.n :: []), .br true, .reg (.n :: .v (VV.fn 53 [VV.tp [vb a0.1.1] 0, VV.tp [vi a0.1.2] 0]) :: .n :: []), .reg (.n :: .call (vi r237) :: .n :: []), .reg (.n :: .n :: []), .br false, .reg (.n :: .n :: []), .reg (.n :: []), .br true, .reg (.n :: .v (VV.fn 53 [VV.tp [vb a0.2.1.1] 0, VV.tp [vi a0.2.1.2] 0]) :: .n :: []), .reg (.n :: .call (vi r243) :: .n :: []), .reg (.n :: .n :: []), .br false, .reg (.n :: .n :: []), .reg (.n :: []), .br true, .reg (.n :: .v (VV.fn 53 [VV.tp [vb a0.2.2.1.1] 0, VV.tp [vi a0.2.2.1.2] 0]) :: .n :: []), .reg (.n :: .call (vi r249) :: .n :: []), .reg (.n :: .n :: []), .br false, .reg (.n :: .n :: []), .reg (.n :: []), .br true, .reg (.n :: .v (VV.fn 53 [VV.tp [vb a0.2.2.2.1.1] 0, VV.tp [vi a0.2.2.2.1.2] 0]) :: .n :: []), .reg (.n :: .call (vi r255) :: .n :: []), .reg (.n :: .n :: []), .br false, .reg (.n :: .n :: []), .reg (.n :: []), .br true, .reg (Qrh a0), .reg (.n :: .call (vi r261) :: .n :: []), .reg (.n :: .n :: []), .br false, .reg (.n :: .n :: []), .reg (.n :: []), .br true, .reg (Qum a0), .reg (.n :: .call (vi r267) :: .n :: []), .reg (.n :: .n :: []), .br false, .reg (.n :: .n :: []), .reg (.n :: []), .br true, .reg (Qxh a0), .reg (.n :: .call (vi r273) :: .n :: []), .reg (.n :: .n :: []), .br true, .reg (.n :: .n :: [])]) (fr := true) (by kernel_rfl) (an (an (ti tt) (an (ti (ti (ti tt))) (an (an (ti tt) (an (an (show (decide ((0 : Int) < 7)) = true from (dt (by decide))) tt) (an (an (an e235 (an e236 (ti tt))) (an (ti (an e239 (ti tt))) (an (ti (ti tt)) (an (Qm (dt h240)) tt)))) (ti (ti tt))))) (an (an (ti tt) (an (an (show (decide ((1 : Int) < 7)) = true from (dt (by decide))) tt) (an (an (an e241 (an e242 (ti tt))) (an (ti (an e245 (ti tt))) (an (ti (ti tt)) (an (Qm (dt h246)) tt)))) (ti (ti tt))))) (an (an (ti tt) (an (an (show (decide ((2 : Int) < 7)) = true from (dt (by decide))) tt) (an (an (an e247 (an e248 (ti tt))) (an (ti (an e251 (ti tt))) (an (ti (ti tt)) (an (Qm (dt h252)) tt)))) (ti (ti tt))))) (an (an (ti tt) (an (an (show (decide ((3 : Int) < 7)) = true from (dt (by decide))) tt) (an (an (an e253 (an e254 (ti tt))) (an (ti (an e257 (ti tt))) (an (ti (ti tt)) (an (Qm (dt h258)) tt)))) (ti (ti tt))))) (an (an (ti tt) (an (an (show (decide ((4 : Int) < 7)) = true from (dt (by decide))) tt) (an (an (an e259 (an e260 (ti tt))) (an (ti (an e263 (ti tt))) (an (ti (ti tt)) (an (Qm (dt h264)) tt)))) (ti (ti tt))))) (an (an (ti tt) (an (an (show (decide ((5 : Int) < 7)) = true from (dt (by decide))) tt) (an (an (an e265 (an e266 (ti tt))) (an (ti (an e269 (ti tt))) (an (ti (ti tt)) (an (Qm (dt h270)) tt)))) (ti (ti tt))))) (an (ti tt) (an (an (show (decide ((6 : Int) < 7)) = true from (dt (by decide))) tt) (an (an e271 (an e272 (ti tt))) (an (ti (an e275 (ti tt))) (an (ti (ti tt)) (an (Za (df h276)) (an (ti (ti tt)) tt))))))))))))))) (ti tt)) (Wv.refl _)
      ·injection h with h; subst h
       exact Qw pm pn Try.func35 (r0 := vi r267) (ans := [.reg (.n :: []), .reg (nN 3 []), .unr 7, .reg (.n :: []), .br true, .reg (.n :: .v (VV.fn 53 [VV.tp [vb a0.1.1] 0, VV.tp [vi a0.1.2] 0]) :: .n :: []), .reg (.n :: .call (vi r237) :: .n :: []), .reg (.n :: .n :: []), .br false, .reg (.n :: .n :: []), .reg (.n :: []), .br true, .reg (.n :: .v (VV.fn 53 [VV.tp [vb a0.2.1.1] 0, VV.tp [vi a0.2.1.2] 0]) :: .n :: []), .reg (.n :: .call (vi r243) :: .n :: []), .reg (.n :: .n :: []), .br false, .reg (.n :: .n :: []), .reg (.n :: []), .br true, .reg (.n :: .v (VV.fn 53 [VV.tp [vb a0.2.2.1.1] 0, VV.tp [vi a0.2.2.1.2] 0]) :: .n :: []), .reg (.n :: .call (vi r249) :: .n :: []), .reg (.n :: .n :: []), .br false, .reg (.n :: .n :: []), .reg (.n :: []), .br true, .reg (.n :: .v (VV.fn 53 [VV.tp [vb a0.2.2.2.1.1] 0, VV.tp [vi a0.2.2.2.1.2] 0]) :: .n :: []), .reg (.n :: .call (vi r255) :: .n :: []), .reg (.n :: .n :: []), .br false, .reg (.n :: .n :: []), .reg (.n :: []), .br true, .reg (Qrh a0), .reg (.n :: .call (vi r261) :: .n :: []), .reg (.n :: .n :: []), .br false, .reg (.n :: .n :: []), .reg (.n :: []), .br true, .reg (Qum a0), .reg (.n :: .call (vi r267) :: .n :: []), .reg (.n :: .n :: []), .br true, .reg (.n :: .n :: [])]) (fr := true) (by kernel_rfl) (an (an (ti tt) (an (ti (ti (ti tt))) (an (an (ti tt) (an (an (show (decide ((0 : Int) < 7)) = true from (dt (by decide))) tt) (an (an (an e235 (an e236 (ti tt))) (an (ti (an e239 (ti tt))) (an (ti (ti tt)) (an (Qm (dt h240)) tt)))) (ti (ti tt))))) (an (an (ti tt) (an (an (show (decide ((1 : Int) < 7)) = true from (dt (by decide))) tt) (an (an (an e241 (an e242 (ti tt))) (an (ti (an e245 (ti tt))) (an (ti (ti tt)) (an (Qm (dt h246)) tt)))) (ti (ti tt))))) (an (an (ti tt) (an (an (show (decide ((2 : Int) < 7)) = true from (dt (by decide))) tt) (an (an (an e247 (an e248 (ti tt))) (an (ti (an e251 (ti tt))) (an (ti (ti tt)) (an (Qm (dt h252)) tt)))) (ti (ti tt))))) (an (an (ti tt) (an (an (show (decide ((3 : Int) < 7)) = true from (dt (by decide))) tt) (an (an (an e253 (an e254 (ti tt))) (an (ti (an e257 (ti tt))) (an (ti (ti tt)) (an (Qm (dt h258)) tt)))) (ti (ti tt))))) (an (an (ti tt) (an (an (show (decide ((4 : Int) < 7)) = true from (dt (by decide))) tt) (an (an (an e259 (an e260 (ti tt))) (an (ti (an e263 (ti tt))) (an (ti (ti tt)) (an (Qm (dt h264)) tt)))) (ti (ti tt))))) (an (ti tt) (an (an (show (decide ((5 : Int) < 7)) = true from (dt (by decide))) tt) (an (an e265 (an e266 (ti tt))) (an (ti (an e269 (ti tt))) (an (ti (ti tt)) (an (Za (df h270)) (an (ti (ti tt)) tt)))))))))))))) (ti tt)) (Wv.refl _)
     ·injection h with h; subst h
      exact Qw pm pn Try.func35 (r0 := vi r261) (ans := [.reg (.n :: []), .reg (nN 3 []), .unr 6, .reg (.n :: []), .br true, .reg (.n :: .v (VV.fn 53 [VV.tp [vb a0.1.1] 0, VV.tp [vi a0.1.2] 0]) :: .n :: []), .reg (.n :: .call (vi r237) :: .n :: []), .reg (.n :: .n :: []), .br false, .reg (.n :: .n :: []), .reg (.n :: []), .br true, .reg (.n :: .v (VV.fn 53 [VV.tp [vb a0.2.1.1] 0, VV.tp [vi a0.2.1.2] 0]) :: .n :: []), .reg (.n :: .call (vi r243) :: .n :: []), .reg (.n :: .n :: []), .br false, .reg (.n :: .n :: []), .reg (.n :: []), .br true, .reg (.n :: .v (VV.fn 53 [VV.tp [vb a0.2.2.1.1] 0, VV.tp [vi a0.2.2.1.2] 0]) :: .n :: []), .reg (.n :: .call (vi r249) :: .n :: []), .reg (.n :: .n :: []), .br false, .reg (.n :: .n :: []), .reg (.n :: []), .br true, .reg (.n :: .v (VV.fn 53 [VV.tp [vb a0.2.2.2.1.1] 0, VV.tp [vi a0.2.2.2.1.2] 0]) :: .n :: []), .reg (.n :: .call (vi r255) :: .n :: []), .reg (.n :: .n :: []), .br false, .reg (.n :: .n :: []), .reg (.n :: []), .br true, .reg (Qrh a0), .reg (.n :: .call (vi r261) :: .n :: []), .reg (.n :: .n :: []), .br true, .reg (.n :: .n :: [])]) (fr := true) (by kernel_rfl) (an (an (ti tt) (an (ti (ti (ti tt))) (an (an (ti tt) (an (an (show (decide ((0 : Int) < 7)) = true from (dt (by decide))) tt) (an (an (an e235 (an e236 (ti tt))) (an (ti (an e239 (ti tt))) (an (ti (ti tt)) (an (Qm (dt h240)) tt)))) (ti (ti tt))))) (an (an (ti tt) (an (an (show (decide ((1 : Int) < 7)) = true from (dt (by decide))) tt) (an (an (an e241 (an e242 (ti tt))) (an (ti (an e245 (ti tt))) (an (ti (ti tt)) (an (Qm (dt h246)) tt)))) (ti (ti tt))))) (an (an (ti tt) (an (an (show (decide ((2 : Int) < 7)) = true from (dt (by decide))) tt) (an (an (an e247 (an e248 (ti tt))) (an (ti (an e251 (ti tt))) (an (ti (ti tt)) (an (Qm (dt h252)) tt)))) (ti (ti tt))))) (an (an (ti tt) (an (an (show (decide ((3 : Int) < 7)) = true from (dt (by decide))) tt) (an (an (an e253 (an e254 (ti tt))) (an (ti (an e257 (ti tt))) (an (ti (ti tt)) (an (Qm (dt h258)) tt)))) (ti (ti tt))))) (an (ti tt) (an (an (show (decide ((4 : Int) < 7)) = true from (dt (by decide))) tt) (an (an e259 (an e260 (ti tt))) (an (ti (an e263 (ti tt))) (an (ti (ti tt)) (an (Za (df h264)) (an (ti (ti tt)) tt))))))))))))) (ti tt)) (Wv.refl _)
    ·injection h with h; subst h
     exact Qw pm pn Try.func35 (r0 := vi r255) (ans := [.reg (.n :: []), .reg (nN 3 []), .unr 5, .reg (.n :: []), .br true, .reg (.n :: .v (VV.fn 53 [VV.tp [vb a0.1.1] 0, VV.tp [vi a0.1.2] 0]) :: .n :: []), .reg (.n :: .call (vi r237) :: .n :: []), .reg (.n :: .n :: []), .br false, .reg (.n :: .n :: []), .reg (.n :: []), .br true, .reg (.n :: .v (VV.fn 53 [VV.tp [vb a0.2.1.1] 0, VV.tp [vi a0.2.1.2] 0]) :: .n :: []), .reg (.n :: .call (vi r243) :: .n :: []), .reg (.n :: .n :: []), .br false, .reg (.n :: .n :: []), .reg (.n :: []), .br true, .reg (.n :: .v (VV.fn 53 [VV.tp [vb a0.2.2.1.1] 0, VV.tp [vi a0.2.2.1.2] 0]) :: .n :: []), .reg (.n :: .call (vi r249) :: .n :: []), .reg (.n :: .n :: []), .br false, .reg (.n :: .n :: []), .reg (.n :: []), .br true, .reg (.n :: .v (VV.fn 53 [VV.tp [vb a0.2.2.2.1.1] 0, VV.tp [vi a0.2.2.2.1.2] 0]) :: .n :: []), .reg (.n :: .call (vi r255) :: .n :: []), .reg (.n :: .n :: []), .br true, .reg (.n :: .n :: [])]) (fr := true) (by kernel_rfl) (an (an (ti tt) (an (ti (ti (ti tt))) (an (an (ti tt) (an (an (show (decide ((0 : Int) < 7)) = true from (dt (by decide))) tt) (an (an (an e235 (an e236 (ti tt))) (an (ti (an e239 (ti tt))) (an (ti (ti tt)) (an (Qm (dt h240)) tt)))) (ti (ti tt))))) (an (an (ti tt) (an (an (show (decide ((1 : Int) < 7)) = true from (dt (by decide))) tt) (an (an (an e241 (an e242 (ti tt))) (an (ti (an e245 (ti tt))) (an (ti (ti tt)) (an (Qm (dt h246)) tt)))) (ti (ti tt))))) (an (an (ti tt) (an (an (show (decide ((2 : Int) < 7)) = true from (dt (by decide))) tt) (an (an (an e247 (an e248 (ti tt))) (an (ti (an e251 (ti tt))) (an (ti (ti tt)) (an (Qm (dt h252)) tt)))) (ti (ti tt))))) (an (ti tt) (an (an (show (decide ((3 : Int) < 7)) = true from (dt (by decide))) tt) (an (an e253 (an e254 (ti tt))) (an (ti (an e257 (ti tt))) (an (ti (ti tt)) (an (Za (df h258)) (an (ti (ti tt)) tt)))))))))))) (ti tt)) (Wv.refl _)
   ·injection h with h; subst h
    exact Qw pm pn Try.func35 (r0 := vi r249) (ans := [.reg (.n :: []), .reg (nN 3 []), .unr 4, .reg (.n :: []), .br true, .reg (.n :: .v (VV.fn 53 [VV.tp [vb a0.1.1] 0, VV.tp [vi a0.1.2] 0]) :: .n :: []), .reg (.n :: .call (vi r237) :: .n :: []), .reg (.n :: .n :: []), .br false, .reg (.n :: .n :: []), .reg (.n :: []), .br true, .reg (.n :: .v (VV.fn 53 [VV.tp [vb a0.2.1.1] 0, VV.tp [vi a0.2.1.2] 0]) :: .n :: []), .reg (.n :: .call (vi r243) :: .n :: []), .reg (.n :: .n :: []), .br false, .reg (.n :: .n :: []), .reg (.n :: []), .br true, .reg (.n :: .v (VV.fn 53 [VV.tp [vb a0.2.2.1.1] 0, VV.tp [vi a0.2.2.1.2] 0]) :: .n :: []), .reg (.n :: .call (vi r249) :: .n :: []), .reg (.n :: .n :: []), .br true, .reg (.n :: .n :: [])]) (fr := true) (by kernel_rfl) (an (an (ti tt) (an (ti (ti (ti tt))) (an (an (ti tt) (an (an (show (decide ((0 : Int) < 7)) = true from (dt (by decide))) tt) (an (an (an e235 (an e236 (ti tt))) (an (ti (an e239 (ti tt))) (an (ti (ti tt)) (an (Qm (dt h240)) tt)))) (ti (ti tt))))) (an (an (ti tt) (an (an (show (decide ((1 : Int) < 7)) = true from (dt (by decide))) tt) (an (an (an e241 (an e242 (ti tt))) (an (ti (an e245 (ti tt))) (an (ti (ti tt)) (an (Qm (dt h246)) tt)))) (ti (ti tt))))) (an (ti tt) (an (an (show (decide ((2 : Int) < 7)) = true from (dt (by decide))) tt) (an (an e247 (an e248 (ti tt))) (an (ti (an e251 (ti tt))) (an (ti (ti tt)) (an (Za (df h252)) (an (ti (ti tt)) tt))))))))))) (ti tt)) (Wv.refl _)
  ·injection h with h; subst h
   exact Qw pm pn Try.func35 (r0 := vi r243) (ans := [.reg (.n :: []), .reg (nN 3 []), .unr 3, .reg (.n :: []), .br true, .reg (.n :: .v (VV.fn 53 [VV.tp [vb a0.1.1] 0, VV.tp [vi a0.1.2] 0]) :: .n :: []), .reg (.n :: .call (vi r237) :: .n :: []), .reg (.n :: .n :: []), .br false, .reg (.n :: .n :: []), .reg (.n :: []), .br true, .reg (.n :: .v (VV.fn 53 [VV.tp [vb a0.2.1.1] 0, VV.tp [vi a0.2.1.2] 0]) :: .n :: []), .reg (.n :: .call (vi r243) :: .n :: []), .reg (.n :: .n :: []), .br true, .reg (.n :: .n :: [])]) (fr := true) (by kernel_rfl) (an (an (ti tt) (an (ti (ti (ti tt))) (an (an (ti tt) (an (an (show (decide ((0 : Int) < 7)) = true from (dt (by decide))) tt) (an (an (an e235 (an e236 (ti tt))) (an (ti (an e239 (ti tt))) (an (ti (ti tt)) (an (Qm (dt h240)) tt)))) (ti (ti tt))))) (an (ti tt) (an (an (show (decide ((1 : Int) < 7)) = true from (dt (by decide))) tt) (an (an e241 (an e242 (ti tt))) (an (ti (an e245 (ti tt))) (an (ti (ti tt)) (an (Za (df h246)) (an (ti (ti tt)) tt)))))))))) (ti tt)) (Wv.refl _)
 ·injection h with h; subst h
  exact Qw pm pn Try.func35 (r0 := vi r237) (ans := [.reg (.n :: []), .reg (nN 3 []), .unr 2, .reg (.n :: []), .br true, .reg (.n :: .v (VV.fn 53 [VV.tp [vb a0.1.1] 0, VV.tp [vi a0.1.2] 0]) :: .n :: []), .reg (.n :: .call (vi r237) :: .n :: []), .reg (.n :: .n :: []), .br true, .reg (.n :: .n :: [])]) (fr := true) (by kernel_rfl) (an (an (ti tt) (an (ti (ti (ti tt))) (an (ti tt) (an (an (show (decide ((0 : Int) < 7)) = true from (dt (by decide))) tt) (an (an e235 (an e236 (ti tt))) (an (ti (an e239 (ti tt))) (an (ti (ti tt)) (an (Za (df h240)) (an (ti (ti tt)) tt))))))))) (ti tt)) (Wv.refl _)
theorem Qxi (z0 : (Bool × Int)) (z1 : (Bool × Int)) (z2 : (Bool × Int)) (z3 : (Bool × Int)) (z4 : (Bool × Int)) (z5 : (Bool × Int)) (z6 : (Bool × Int)) : [VV.tr ([VV.fn 53 [VV.tp [vb (((z0, z1, z2, z3, z4, z5, z6).1).1)] 0, VV.tp [vi (((z0, z1, z2, z3, z4, z5, z6).1).2)] 0], VV.fn 53 [VV.tp [vb (((z0, z1, z2, z3, z4, z5, z6).2.1).1)] 0, VV.tp [vi (((z0, z1, z2, z3, z4, z5, z6).2.1).2)] 0], VV.fn 53 [VV.tp [vb (((z0, z1, z2, z3, z4, z5, z6).2.2.1).1)] 0, VV.tp [vi (((z0, z1, z2, z3, z4, z5, z6).2.2.1).2)] 0], VV.fn 53 [VV.tp [vb (((z0, z1, z2, z3, z4, z5, z6).2.2.2.1).1)] 0, VV.tp [vi (((z0, z1, z2, z3, z4, z5, z6).2.2.2.1).2)] 0], VV.fn 53 [VV.tp [vb (((z0, z1, z2, z3, z4, z5, z6).2.2.2.2.1).1)] 0, VV.tp [vi (((z0, z1, z2, z3, z4, z5, z6).2.2.2.2.1).2)] 0], VV.fn 53 [VV.tp [vb (((z0, z1, z2, z3, z4, z5, z6).2.2.2.2.2.1).1)] 0, VV.tp [vi (((z0, z1, z2, z3, z4, z5, z6).2.2.2.2.2.1).2)] 0], VV.fn 53 [VV.tp [vb (((z0, z1, z2, z3, z4, z5, z6).2.2.2.2.2.2).1)] 0, VV.tp [vi (((z0, z1, z2, z3, z4, z5, z6).2.2.2.2.2.2).2)] 0]]) 7] = [VV.tr (List.drop 0 (List.map unfr [VV.fn 53 [VV.tp [vb z0.1] 0, VV.tp [vi z0.2] 0], VV.fn 53 [VV.tp [vb z1.1] 0, VV.tp [vi z1.2] 0], VV.fn 53 [VV.tp [vb z2.1] 0, VV.tp [vi z2.2] 0], VV.fn 53 [VV.tp [vb z3.1] 0, VV.tp [vi z3.2] 0], VV.fn 53 [VV.tp [vb z4.1] 0, VV.tp [vi z4.2] 0], VV.fn 53 [VV.tp [vb z5.1] 0, VV.tp [vi z5.2] 0], VV.fn 53 [VV.tp [vb z6.1] 0, VV.tp [vi z6.2] 0]])) 7] := by first | rfl | (simp only [Qa7, Zi, Yd, map_cons, map_nil, un_i, un_b, Qae]; done) | (simp only [Qa7, Zi, Yd, map_cons, map_nil, un_i, un_b, Qae]; rfl) | (simp only [Qa7, Zi, Yd, map_cons, map_nil, un_i, un_b, Qae, length_cons, length_nil, length_append]; done)
def Q0u (z0 : (Bool × Int)) (z1 : (Bool × Int)) (z2 : (Bool × Int)) (z3 : (Bool × Int)) (z4 : (Bool × Int)) (z5 : (Bool × Int)) (z6 : (Bool × Int)) (z7 : Int) : List Ans := (.n :: .n :: .call (VV.fn 53 [VV.tp [vb z0.1] 0, VV.tp [vi z0.2] 0]) :: nN 5 (.call (VV.fn 53 [VV.tp [vb z1.1] 0, VV.tp [vi z1.2] 0]) :: nN 3 (.call (VV.fn 53 [VV.tp [vb z2.1] 0, VV.tp [vi z2.2] 0]) :: nN 3 (.call (VV.fn 53 [VV.tp [vb z3.1] 0, VV.tp [vi z3.2] 0]) :: .n :: .n :: .call (VV.fn 53 [VV.tp [vb z4.1] 0, VV.tp [vi z4.2] 0]) :: nN 5 (.call (VV.fn 53 [VV.tp [vb z5.1] 0, VV.tp [vi z5.2] 0]) :: nN 4 (nS 3 (.b true :: .call (VV.fn 53 [VV.tp [vb z6.1] 0, VV.tp [vi z6.2] 0]) :: .n :: .call (vi z7) :: .n :: [])))))))
def Q0v (z0 : (Bool × Int)) (z1 : (Bool × Int)) (z2 : (Bool × Int)) (z3 : (Bool × Int)) (z4 : (Bool × Int)) (z5 : (Bool × Int)) (z6 : (Bool × Int)) (z7 : Int) : List Ans := (.n :: .n :: .call (VV.fn 53 [VV.tp [vb z0.1] 0, VV.tp [vi z0.2] 0]) :: nN 5 (.call (VV.fn 53 [VV.tp [vb z1.1] 0, VV.tp [vi z1.2] 0]) :: nN 3 (.call (VV.fn 53 [VV.tp [vb z2.1] 0, VV.tp [vi z2.2] 0]) :: nN 3 (.call (VV.fn 53 [VV.tp [vb z3.1] 0, VV.tp [vi z3.2] 0]) :: .n :: .n :: .call (VV.fn 53 [VV.tp [vb z4.1] 0, VV.tp [vi z4.2] 0]) :: nN 5 (.call (VV.fn 53 [VV.tp [vb z5.1] 0, VV.tp [vi z5.2] 0]) :: nN 7 (.b false :: .call (VV.fn 53 [VV.tp [vb z6.1] 0, VV.tp [vi z6.2] 0]) :: .n :: .call (vi z7) :: .n :: []))))))
def Qc8 (k : Nat) (a0 : Qk) (a1 : Int) : Option Int :=
 (Zl k a0.Outer 1 1000).bind fun r288 => ((Zl k a0.Inner 0 (w64 (a0.Outer - 1))).bind fun r291 => ((Zl k a0.From 0 a1).bind fun r294 => ((Zl k a0.To 0 a1).bind fun r297 => ((Zl k a0.Count 0 100).bind fun r299 => ((Qy k (decide (a0.From < a0.To)) 9).bind fun r302 => (if a0.Count = 0 then ((Qy k true 3).bind fun r306 => ((Qu k (r288, r291, r294, r297, r299, r302, r306)).bind fun r308 => (some r308))) else ((Qy k (decide (a0.Inner = 0)) 3).bind fun r312 => ((Qu k (r288, r291, r294, r297, r299, r302, r312)).bind fun r315 => (some r315)))))))))
theorem Qiy (k : Nat) (a0 : Qk) (a1 : Int) (r : Int) (h : Qc8 k a0 a1 = some r) : VC Try.prog 40 [VV.ag (Qb a0), vi a1] (vi r) := by
 unfold Qc8 at h
 obtain ⟨r288, h289, h⟩ := bs h
 have e290 := (Zm k a0.Outer 1 1000 _ h289)
 obtain ⟨r291, h292, h⟩ := bs h
 have e293 := (Zm k a0.Inner 0 (w64 (a0.Outer - 1)) _ h292)
 obtain ⟨r294, h295, h⟩ := bs h
 have e296 := (Zm k a0.From 0 a1 _ h295)
 obtain ⟨r297, h298, h⟩ := bs h
 obtain ⟨r299, h300, h⟩ := bs h
 have e301 := (Zm k a0.Count 0 100 _ h300)
 obtain ⟨r302, h303, h⟩ := bs h
 have e304 := (Qp k (decide (a0.From < a0.To)) 9 _ h303)
 rcases ifs h with ⟨h305, h⟩ | ⟨h305, h⟩
 ·obtain ⟨r306, h307, h⟩ := bs h
  obtain ⟨r308, h309, h⟩ := bs h
  have e310 := (VC.args (Zu k (r288, r291, r294, r297, r299, r302, r306) _ h309) (Qxi r288 r291 r294 r297 r299 r302 r306))
  have e311 := (ti (ti (an e290 (ti (ti (ti (ti (ti (an e293 (ti (ti (ti (an e296 (ti (ti (ti (an (Zm k a0.To 0 a1 _ h298) (ti (ti (an e301 (ti (ti (ti (ti (ti (an e304 (ti (ti (ti (ti (an (dt h305) (an (dt h305) (an (dt h305) (an (dt h305) (an (Qp k true 3 _ h307) (ti (an e310 (ti tt))))))))))))))))))))))))))))))))))))))
  injection h with h; subst h
  exact Qw pm pn Try.func40 (r0 := vi r308) (ans := [.reg (.n :: .n :: []), .reg (Q0u r288 r291 r294 r297 r299 r302 r306 r308)]) (fr := true) (by kernel_rfl) (an (an (ti (ti tt)) (an e311 tt)) (ti tt)) (Wv.refl _)
 ·obtain ⟨r312, h313, h⟩ := bs h
  have e314 := (Qp k (decide (a0.Inner = 0)) 3 _ h313)
  obtain ⟨r315, h316, h⟩ := bs h
  have e317 := (VC.args (Zu k (r288, r291, r294, r297, r299, r302, r312) _ h316) (Qxi r288 r291 r294 r297 r299 r302 r312))
  have e318 := (ti (ti (an e290 (ti (ti (ti (ti (ti (an e293 (ti (ti (ti (an e296 (ti (ti (ti (an (Zm k a0.To 0 a1 _ h298) (ti (ti (an e301 (ti (ti (ti (ti (ti (an e304 (ti (ti (ti (ti (an (an (df h305) tt) (an (an (df h305) tt) (an (an (df h305) tt) (an (df h305) (an e314 (ti (an e317 (ti tt))))))))))))))))))))))))))))))))))))))
  injection h with h; subst h
  exact Qw pm pn Try.func40 (r0 := vi r315) (ans := [.reg (.n :: .n :: []), .reg (Q0v r288 r291 r294 r297 r299 r302 r312 r315)]) (fr := true) (by kernel_rfl) (an (an (ti (ti tt)) (an e318 tt)) (ti tt)) (Wv.refl _)
def Qbq (k : Nat) (a0 : Qk) (q0_0 : Int) (q0_1 : Int) (q0_2 : (List Qk)) (q0_3 : (List Qr)) : Option Int :=
 (Qc8 k a0 q0_1).bind fun r323 => (some r323)
theorem Qho (k : Nat) (a0 : Qk) (q0_0 : Int) (q0_1 : Int) (q0_2 : (List Qk)) (q0_3 : (List Qr)) (r : Int) (h : Qbq k a0 q0_0 q0_1 q0_2 q0_3 = some r) : VC Try.prog 39 [VV.ag (Qb a0), VV.tp [vi q0_0, vi q0_1, VV.tr (flatMap Qb q0_2) q0_2.length, VV.tr (flatMap Qg q0_3) q0_3.length] 0] (vi r) := by
 unfold Qbq at h
 have e322 := (show Xt Try.prog 3 1 [vi q0_0, vi q0_1, VV.tr (flatMap Qb q0_2) q0_2.length, VV.tr (flatMap Qg q0_3) q0_3.length] = some (vi q0_1) from (Ju ag3 rfl))
 obtain ⟨r323, h324, h⟩ := bs h
 have e325 := (ti (ti (an e322 (an (Qiy k a0 q0_1 _ h324) (ti tt)))))
 injection h with h; subst h
 exact Qw pm pn Try.func39 (r0 := vi r323) (ans := [.reg (.n :: .n :: []), .reg (.n :: .n :: .v (vi q0_1) :: .call (vi r323) :: .n :: [])]) (fr := true) (by kernel_rfl) (an (an (ti (ti tt)) (an e325 tt)) (ti tt)) (Wv.refl _)
def Qxj (z0 : (Int × Int × (List Qk) × (List Qr))) (z1 : Int) : List Ans := (.v (VV.fn 39 [VV.tp [vi z0.1, vi z0.2.1, VV.tr (flatMap Qb z0.2.2.1) z0.2.2.1.length, VV.tr (flatMap Qg z0.2.2.2) z0.2.2.2.length] 0]) :: .n :: .call (vi z1) :: .n :: [])
def Xl (q0_0 : (List Qk)) (q1_0 : (Int × Int × (List Qk) × (List Qr))) (x8 : Int) : VS := ⟨mkA [(1, VV.tp [VV.fn 39 [VV.tp [vi q1_0.1, vi q1_0.2.1, VV.tr (flatMap Qb q1_0.2.2.1) q1_0.2.2.1.length, VV.tr (flatMap Qg q1_0.2.2.2) q1_0.2.2.2.length] 0]] 0), (6, VV.tr (flatMap Qb q0_0) q0_0.length), (7, vi (q0_0.length : Int)), (8, vi x8)], [], .nil⟩
def Jb (q0_0 : (List Qk)) (q1_0 : (Int × Int × (List Qk) × (List Qr))) (r : Int) : VS := ⟨mkA [(2, vi r)], [], .nil⟩
def Jc (q0_0 : (List Qk)) (q1_0 : (Int × Int × (List Qk) × (List Qr))) (r : Unit) : VS := ⟨mkA [], [], .nil⟩
def Q8 (k : Nat) (q0_0 : (List Qk)) (q1_0 : (Int × Int × (List Qk) × (List Qr))) : Nat -> Int -> Option (Sum Int Unit)
 | 0, _ => none
 | fuel + 1, x8 => if x8 < (q0_0.length : Int) then (if 0 <= x8 /\ x8 < (q0_0.length : Int) then ((Qbq k (q0_0.getD x8.toNat default) q1_0.1 q1_0.2.1 q1_0.2.2.1 q1_0.2.2.2).bind fun r373 => (if r373 = 0 then (Q8 k q0_0 q1_0 fuel (w64 (x8 + 1))) else (some (.inl r373)))) else none) else (some (.inr ()))
theorem Qa0 (k : Nat) (q0_0 : (List Qk)) (q1_0 : (Int × Int × (List Qk) × (List Qr))) : ∀ (fuel : Nat) (x8 : Int) (r : Sum Int Unit), Q8 k q0_0 q1_0 fuel x8 = some r -> (match r with | .inl r => Yw none Try.prog (szF Try.f54) (Ya Try.f54 0) (Xl q0_0 q1_0 x8) .ret (Jb q0_0 q1_0 r) | .inr r => Yw none Try.prog (szF Try.f54) (Ya Try.f54 0) (Xl q0_0 q1_0 x8) (.exit 0) (Jc q0_0 q1_0 r)) := by
 intro fuel
 induction fuel with
 | zero => intro x8 r h; rw [Q8.eq_1] at h; cases h
 | succ fuel ih =>
  intro x8 r h
  rw [Q8.eq_2] at h
  rcases ifs h with ⟨h369, h⟩ | ⟨h369, h⟩
  ·obtain ⟨h370, h⟩ := ifn h
   have e371 := (show Xt Try.prog 38 (x8.toNat * 6) (flatMap Qb q0_0) = some (VV.ag (Qb (q0_0.getD x8.toNat default))) from Yo ag38 Qb 6 sz38 Qa3 q0_0 default h370 (by omega))
   have e372 := (show Xt Try.prog 94 0 [VV.fn 39 [VV.tp [vi q1_0.1, vi q1_0.2.1, VV.tr (flatMap Qb q1_0.2.2.1) q1_0.2.2.1.length, VV.tr (flatMap Qg q1_0.2.2.2) q1_0.2.2.2.length] 0]] = some (VV.fn 39 [VV.tp [vi q1_0.1, vi q1_0.2.1, VV.tr (flatMap Qb q1_0.2.2.1) q1_0.2.2.1.length, VV.tr (flatMap Qg q1_0.2.2.2) q1_0.2.2.2.length] 0]) from (Ju ag94 rfl))
   obtain ⟨r373, h374, h⟩ := bs h
   have e375 := (Qho k (q0_0.getD x8.toNat default) q1_0.1 q1_0.2.1 q1_0.2.2.1 q1_0.2.2.2 _ h374)
   rcases ifs h with ⟨h376, h⟩ | ⟨h376, h⟩
   ·have h2 := ih _ _ h
    obtain ⟨q, hv, hq⟩ := pkR (rd := none) (P := Try.prog) (fn := Try.f54) (k := 0) (s := (Xl q0_0 q1_0 x8)) (ans := [.reg (.n :: []), .br true, .reg (.n :: .v (VV.ag (Qb (q0_0.getD x8.toNat default))) :: .n :: .n :: []), .reg (Qxj q1_0 r373), .reg (.n :: .n :: []), .br false, .reg (.n :: .n :: [])]) (c := ⟨[(1, none), (6, none), (7, none), (8, none)], [], []⟩) (e := .normal) (s1 := (Xl q0_0 q1_0 (w64 (x8 + 1)))) (an (an (ti tt) (an (an (dt h369) tt) (an (an (an h370 (an e371 (ti (ti tt)))) (an (an e372 (ti (an e375 (ti tt)))) (an (ti (ti tt)) (an (Qm (dt h376)) tt)))) (ti (ti tt))))) (ti tt)) (by kernel_rfl)
    cases r with
    | inl r => exact Qz pm pn hv hq h2
    | inr r =>
     exact Qz pm pn hv hq h2
   ·injection h with h; subst h
    exact Q5 (c := ⟨[(2, none)], [], []⟩) (s1 := (Jb q0_0 q1_0 r373)) pm pn (ans := [.reg (.n :: []), .br true, .reg (.n :: .v (VV.ag (Qb (q0_0.getD x8.toNat default))) :: .n :: .n :: []), .reg (Qxj q1_0 r373), .reg (.n :: .n :: []), .br true, .reg (.n :: .n :: [])]) (by kernel_rfl) (by intro e; cases e) (an (an (ti tt) (an (an (dt h369) tt) (an (an h370 (an e371 (ti (ti tt)))) (an (an e372 (ti (an e375 (ti tt)))) (an (ti (ti tt)) (an (Za (df h376)) (an (ti (ti tt)) tt))))))) (ti tt))
  ·injection h with h; subst h
   exact Q5 (c := ⟨[], [], []⟩) (s1 := (Jc q0_0 q1_0 ())) pm pn (ans := [.reg (.n :: []), .br false]) (by kernel_rfl) (by intro e; cases e) (an (an (ti tt) (an (df h369) tt)) (ti tt))
def Xh (k : Nat) (q0_0 : (List Qk)) (q1_0 : (Int × Int × (List Qk) × (List Qr))) : Option Int :=
 (Q8 k q0_0 q1_0 k 0).bind fun r378 => (match r378 with | .inl r379 => (some r379) | .inr r380 => (some 0))
theorem Qbr (k : Nat) (q0_0 : (List Qk)) (q1_0 : (Int × Int × (List Qk) × (List Qr))) (r : Int) (h : Xh k q0_0 q1_0 = some r) : VC Try.prog 54 [VV.tp [VV.tr (flatMap Qb q0_0) q0_0.length] 0, VV.tp [VV.fn 39 [VV.tp [vi q1_0.1, vi q1_0.2.1, VV.tr (flatMap Qb q1_0.2.2.1) q1_0.2.2.1.length, VV.tr (flatMap Qg q1_0.2.2.2) q1_0.2.2.2.length] 0]] 0] (vi r) := by
 unfold Xh at h
 have e352 := (show Xt Try.prog 22 0 [VV.tr (flatMap Qb q0_0) q0_0.length] = some (VV.tr (flatMap Qb q0_0) q0_0.length) from (Ju ag22 rfl))
 obtain ⟨r378, h377, h⟩ := bs h
 have hph377 := Qa0 k q0_0 q1_0 _ _ _ h377
 cases r378 with
 | inl r379 =>
  dsimp only at h
  have e381 := (an (ti tt) (VRun.loop hph377))
  injection h with h; subst h
  exact Qw pm pn Try.func54 (r0 := vi r379) (ans := [.reg (.n :: []), .reg (.v (VV.tr (flatMap Qb q0_0) q0_0.length) :: .n :: .n :: []), .sub ⟨[(1, none), (6, none), (7, none), (8, none)], [], []⟩ .ret (Jb q0_0 q1_0 r379)]) (fr := true) (by kernel_rfl) (an (an (ti tt) (an (an e352 (ti (ti tt))) e381)) (ti tt)) (Wv.refl _)
 | inr r380 =>
  dsimp only at h
  have e382 := (an (ti tt) (VRun.loop hph377))
  injection h with h; subst h
  exact Qw pm pn Try.func54 (r0 := vi 0) (ans := [.reg (.n :: []), .reg (.v (VV.tr (flatMap Qb q0_0) q0_0.length) :: .n :: .n :: []), .sub ⟨[(1, none), (6, none), (7, none), (8, none)], [], []⟩ (.exit 0) (Jc q0_0 q1_0 r380), .reg (.n :: [])]) (fr := true) (by kernel_rfl) (an (an (ti tt) (an (an (an e352 (ti (ti tt))) e382) (an (ti tt) tt))) (ti tt)) (Wv.refl _)
def Qg4 (k : Nat) (a0 : Qr) : Option Int :=
 if a0.Up = true then (some (w64 (a0.At + a0.Height))) else (some (w64 (a0.At - a0.Height)))
theorem Qnx (k : Nat) (a0 : Qr) (r : Int) (h : Qg4 k a0 = some r) : VC Try.prog 56 [VV.ag (Qg a0)] (vi r) := by
 unfold Qg4 at h
 rcases ifs h with ⟨h410, h⟩ | ⟨h410, h⟩
 ·injection h with h; subst h
  exact Qw pm pn Try.func56 (r0 := vi (w64 (a0.At + a0.Height))) (ans := [.reg (.n :: .n :: []), .reg (.n :: .n :: []), .br true, .reg (nN 6 [])]) (fr := true) (by kernel_rfl) (an (an (ti (ti tt)) (an (ti (ti tt)) (an h410 (an (ti (ti (ti (ti (ti (ti tt)))))) tt)))) (ti tt)) (Wv.refl _)
 ·injection h with h; subst h
  exact Qw pm pn Try.func56 (r0 := vi (w64 (a0.At - a0.Height))) (ans := [.reg (.n :: .n :: []), .reg (.n :: .n :: []), .br false, .reg (nN 6 [])]) (fr := true) (by kernel_rfl) (an (an (ti (ti tt)) (an (an (ti (ti tt)) (an (Zk h410) tt)) (an (ti (ti (ti (ti (ti (ti tt)))))) tt))) (ti tt)) (Wv.refl _)
def Qd (k : Nat) (a0 : ((Bool × Int) × (Bool × Int) × (Bool × Int) × (Bool × Int))) : Option Int :=
 (Zj k a0.1.1 a0.1.2).bind fun r441 => (if r441 = 0 then ((Zj k a0.2.1.1 a0.2.1.2).bind fun r447 => (if r447 = 0 then ((Zj k a0.2.2.1.1 a0.2.2.1.2).bind fun r453 => (if r453 = 0 then ((Zj k a0.2.2.2.1 a0.2.2.2.2).bind fun r459 => (if r459 = 0 then (some 0) else (some r459))) else (some r453))) else (some r447))) else (some r441))
theorem Qi (k : Nat) (a0 : ((Bool × Int) × (Bool × Int) × (Bool × Int) × (Bool × Int))) (r : Int) (h : Qd k a0 = some r) : VC Try.prog 35 [VV.tr ([VV.fn 53 [VV.tp [vb a0.1.1] 0, VV.tp [vi a0.1.2] 0], VV.fn 53 [VV.tp [vb a0.2.1.1] 0, VV.tp [vi a0.2.1.2] 0], VV.fn 53 [VV.tp [vb a0.2.2.1.1] 0, VV.tp [vi a0.2.2.1.2] 0], VV.fn 53 [VV.tp [vb a0.2.2.2.1] 0, VV.tp [vi a0.2.2.2.2] 0]]) 4] (vi r) := by
 unfold Qd at h
 have e439 := (show (0 : Int) <= 0 /\ (0 : Int) < ((4 : Nat) : Int) from ⟨by decide, by decide⟩)
 have e440 := (show Xt Try.prog 89 ((0 : Int).toNat * 1) ([VV.fn 53 [VV.tp [vb a0.1.1] 0, VV.tp [vi a0.1.2] 0], VV.fn 53 [VV.tp [vb a0.2.1.1] 0, VV.tp [vi a0.2.1.2] 0], VV.fn 53 [VV.tp [vb a0.2.2.1.1] 0, VV.tp [vi a0.2.2.1.2] 0], VV.fn 53 [VV.tp [vb a0.2.2.2.1] 0, VV.tp [vi a0.2.2.2.2] 0]]) = some (VV.fn 53 [VV.tp [vb a0.1.1] 0, VV.tp [vi a0.1.2] 0]) from (Ju ag89 rfl))
 obtain ⟨r441, h442, h⟩ := bs h
 have e443 := (Zf k a0.1.1 a0.1.2 _ h442)
 rcases ifs h with ⟨h444, h⟩ | ⟨h444, h⟩
 ·have e445 := (show (0 : Int) <= 1 /\ (1 : Int) < ((4 : Nat) : Int) from ⟨by decide, by decide⟩)
  have e446 := (show Xt Try.prog 89 ((1 : Int).toNat * 1) ([VV.fn 53 [VV.tp [vb a0.1.1] 0, VV.tp [vi a0.1.2] 0], VV.fn 53 [VV.tp [vb a0.2.1.1] 0, VV.tp [vi a0.2.1.2] 0], VV.fn 53 [VV.tp [vb a0.2.2.1.1] 0, VV.tp [vi a0.2.2.1.2] 0], VV.fn 53 [VV.tp [vb a0.2.2.2.1] 0, VV.tp [vi a0.2.2.2.2] 0]]) = some (VV.fn 53 [VV.tp [vb a0.2.1.1] 0, VV.tp [vi a0.2.1.2] 0]) from (Ju ag89 rfl))
  obtain ⟨r447, h448, h⟩ := bs h
  have e449 := (Zf k a0.2.1.1 a0.2.1.2 _ h448)
  rcases ifs h with ⟨h450, h⟩ | ⟨h450, h⟩
  ·have e451 := (show (0 : Int) <= 2 /\ (2 : Int) < ((4 : Nat) : Int) from ⟨by decide, by decide⟩)
   have e452 := (show Xt Try.prog 89 ((2 : Int).toNat * 1) ([VV.fn 53 [VV.tp [vb a0.1.1] 0, VV.tp [vi a0.1.2] 0], VV.fn 53 [VV.tp [vb a0.2.1.1] 0, VV.tp [vi a0.2.1.2] 0], VV.fn 53 [VV.tp [vb a0.2.2.1.1] 0, VV.tp [vi a0.2.2.1.2] 0], VV.fn 53 [VV.tp [vb a0.2.2.2.1] 0, VV.tp [vi a0.2.2.2.2] 0]]) = some (VV.fn 53 [VV.tp [vb a0.2.2.1.1] 0, VV.tp [vi a0.2.2.1.2] 0]) from (Ju ag89 rfl))
   obtain ⟨r453, h454, h⟩ := bs h
   have e455 := (Zf k a0.2.2.1.1 a0.2.2.1.2 _ h454)
   rcases ifs h with ⟨h456, h⟩ | ⟨h456, h⟩
   ·have e457 := (show (0 : Int) <= 3 /\ (3 : Int) < ((4 : Nat) : Int) from ⟨by decide, by decide⟩)
    have e458 := (show Xt Try.prog 89 ((3 : Int).toNat * 1) ([VV.fn 53 [VV.tp [vb a0.1.1] 0, VV.tp [vi a0.1.2] 0], VV.fn 53 [VV.tp [vb a0.2.1.1] 0, VV.tp [vi a0.2.1.2] 0], VV.fn 53 [VV.tp [vb a0.2.2.1.1] 0, VV.tp [vi a0.2.2.1.2] 0], VV.fn 53 [VV.tp [vb a0.2.2.2.1] 0, VV.tp [vi a0.2.2.2.2] 0]]) = some (VV.fn 53 [VV.tp [vb a0.2.2.2.1] 0, VV.tp [vi a0.2.2.2.2] 0]) from (Ju ag89 rfl))
    obtain ⟨r459, h460, h⟩ := bs h
    have e461 := (Zf k a0.2.2.2.1 a0.2.2.2.2 _ h460)
    rcases ifs h with ⟨h462, h⟩ | ⟨h462, h⟩
    ·injection h with h; subst h
     exact Qw pm pn Try.func35 (r0 := vi 0) (ans := [.reg (.n :: []), .reg (nN 3 []), .unr 6, .reg (.n :: []), .br true, .reg (.n :: .v (VV.fn 53 [VV.tp [vb a0.1.1] 0, VV.tp [vi a0.1.2] 0]) :: .n :: []), .reg (.n :: .call (vi r441) :: .n :: []), .reg (.n :: .n :: []), .br false, .reg (.n :: .n :: []), .reg (.n :: []), .br true, .reg (.n :: .v (VV.fn 53 [VV.tp [vb a0.2.1.1] 0, VV.tp [vi a0.2.1.2] 0]) :: .n :: []), .reg (.n :: .call (vi r447) :: .n :: []), .reg (.n :: .n :: []), .br false, .reg (.n :: .n :: []), .reg (.n :: []), .br true, .reg (.n :: .v (VV.fn 53 [VV.tp [vb a0.2.2.1.1] 0, VV.tp [vi a0.2.2.1.2] 0]) :: .n :: []), .reg (.n :: .call (vi r453) :: .n :: []), .reg (.n :: .n :: []), .br false, .reg (.n :: .n :: []), .reg (.n :: []), .br true, .reg (.n :: .v (VV.fn 53 [VV.tp [vb a0.2.2.2.1] 0, VV.tp [vi a0.2.2.2.2] 0]) :: .n :: []), .reg (.n :: .call (vi r459) :: .n :: []), .reg (.n :: .n :: []), .br false, .reg (.n :: .n :: []), .reg (.n :: []), .br false, .reg (.n :: [])]) (fr := true) (by kernel_rfl) (an (an (ti tt) (an (an (ti (ti (ti tt))) (an (an (ti tt) (an (an (show (decide ((0 : Int) < 4)) = true from (dt (by decide))) tt) (an (an (an e439 (an e440 (ti tt))) (an (ti (an e443 (ti tt))) (an (ti (ti tt)) (an (Qm (dt h444)) tt)))) (ti (ti tt))))) (an (an (ti tt) (an (an (show (decide ((1 : Int) < 4)) = true from (dt (by decide))) tt) (an (an (an e445 (an e446 (ti tt))) (an (ti (an e449 (ti tt))) (an (ti (ti tt)) (an (Qm (dt h450)) tt)))) (ti (ti tt))))) (an (an (ti tt) (an (an (show (decide ((2 : Int) < 4)) = true from (dt (by decide))) tt) (an (an (an e451 (an e452 (ti tt))) (an (ti (an e455 (ti tt))) (an (ti (ti tt)) (an (Qm (dt h456)) tt)))) (ti (ti tt))))) (an (an (ti tt) (an (an (show (decide ((3 : Int) < 4)) = true from (dt (by decide))) tt) (an (an (an e457 (an e458 (ti tt))) (an (ti (an e461 (ti tt))) (an (ti (ti tt)) (an (Qm (dt h462)) tt)))) (ti (ti tt))))) (an (ti tt) (an (show (decide ((4 : Int) < 4)) = false from (df (by decide))) tt))))))) (an (ti tt) tt))) (ti tt)) (Wv.refl _)
    ·injection h with h; subst h
     exact Qw pm pn Try.func35 (r0 := vi r459) (ans := [.reg (.n :: []), .reg (nN 3 []), .unr 5, .reg (.n :: []), .br true, .reg (.n :: .v (VV.fn 53 [VV.tp [vb a0.1.1] 0, VV.tp [vi a0.1.2] 0]) :: .n :: []), .reg (.n :: .call (vi r441) :: .n :: []), .reg (.n :: .n :: []), .br false, .reg (.n :: .n :: []), .reg (.n :: []), .br true, .reg (.n :: .v (VV.fn 53 [VV.tp [vb a0.2.1.1] 0, VV.tp [vi a0.2.1.2] 0]) :: .n :: []), .reg (.n :: .call (vi r447) :: .n :: []), .reg (.n :: .n :: []), .br false, .reg (.n :: .n :: []), .reg (.n :: []), .br true, .reg (.n :: .v (VV.fn 53 [VV.tp [vb a0.2.2.1.1] 0, VV.tp [vi a0.2.2.1.2] 0]) :: .n :: []), .reg (.n :: .call (vi r453) :: .n :: []), .reg (.n :: .n :: []), .br false, .reg (.n :: .n :: []), .reg (.n :: []), .br true, .reg (.n :: .v (VV.fn 53 [VV.tp [vb a0.2.2.2.1] 0, VV.tp [vi a0.2.2.2.2] 0]) :: .n :: []), .reg (.n :: .call (vi r459) :: .n :: []), .reg (.n :: .n :: []), .br true, .reg (.n :: .n :: [])]) (fr := true) (by kernel_rfl) (an (an (ti tt) (an (ti (ti (ti tt))) (an (an (ti tt) (an (an (show (decide ((0 : Int) < 4)) = true from (dt (by decide))) tt) (an (an (an e439 (an e440 (ti tt))) (an (ti (an e443 (ti tt))) (an (ti (ti tt)) (an (Qm (dt h444)) tt)))) (ti (ti tt))))) (an (an (ti tt) (an (an (show (decide ((1 : Int) < 4)) = true from (dt (by decide))) tt) (an (an (an e445 (an e446 (ti tt))) (an (ti (an e449 (ti tt))) (an (ti (ti tt)) (an (Qm (dt h450)) tt)))) (ti (ti tt))))) (an (an (ti tt) (an (an (show (decide ((2 : Int) < 4)) = true from (dt (by decide))) tt) (an (an (an e451 (an e452 (ti tt))) (an (ti (an e455 (ti tt))) (an (ti (ti tt)) (an (Qm (dt h456)) tt)))) (ti (ti tt))))) (an (ti tt) (an (an (show (decide ((3 : Int) < 4)) = true from (dt (by decide))) tt) (an (an e457 (an e458 (ti tt))) (an (ti (an e461 (ti tt))) (an (ti (ti tt)) (an (Za (df h462)) (an (ti (ti tt)) tt)))))))))))) (ti tt)) (Wv.refl _)
   ·injection h with h; subst h
    exact Qw pm pn Try.func35 (r0 := vi r453) (ans := [.reg (.n :: []), .reg (nN 3 []), .unr 4, .reg (.n :: []), .br true, .reg (.n :: .v (VV.fn 53 [VV.tp [vb a0.1.1] 0, VV.tp [vi a0.1.2] 0]) :: .n :: []), .reg (.n :: .call (vi r441) :: .n :: []), .reg (.n :: .n :: []), .br false, .reg (.n :: .n :: []), .reg (.n :: []), .br true, .reg (.n :: .v (VV.fn 53 [VV.tp [vb a0.2.1.1] 0, VV.tp [vi a0.2.1.2] 0]) :: .n :: []), .reg (.n :: .call (vi r447) :: .n :: []), .reg (.n :: .n :: []), .br false, .reg (.n :: .n :: []), .reg (.n :: []), .br true, .reg (.n :: .v (VV.fn 53 [VV.tp [vb a0.2.2.1.1] 0, VV.tp [vi a0.2.2.1.2] 0]) :: .n :: []), .reg (.n :: .call (vi r453) :: .n :: []), .reg (.n :: .n :: []), .br true, .reg (.n :: .n :: [])]) (fr := true) (by kernel_rfl) (an (an (ti tt) (an (ti (ti (ti tt))) (an (an (ti tt) (an (an (show (decide ((0 : Int) < 4)) = true from (dt (by decide))) tt) (an (an (an e439 (an e440 (ti tt))) (an (ti (an e443 (ti tt))) (an (ti (ti tt)) (an (Qm (dt h444)) tt)))) (ti (ti tt))))) (an (an (ti tt) (an (an (show (decide ((1 : Int) < 4)) = true from (dt (by decide))) tt) (an (an (an e445 (an e446 (ti tt))) (an (ti (an e449 (ti tt))) (an (ti (ti tt)) (an (Qm (dt h450)) tt)))) (ti (ti tt))))) (an (ti tt) (an (an (show (decide ((2 : Int) < 4)) = true from (dt (by decide))) tt) (an (an e451 (an e452 (ti tt))) (an (ti (an e455 (ti tt))) (an (ti (ti tt)) (an (Za (df h456)) (an (ti (ti tt)) tt))))))))))) (ti tt)) (Wv.refl _)
  ·injection h with h; subst h
   exact Qw pm pn Try.func35 (r0 := vi r447) (ans := [.reg (.n :: []), .reg (nN 3 []), .unr 3, .reg (.n :: []), .br true, .reg (.n :: .v (VV.fn 53 [VV.tp [vb a0.1.1] 0, VV.tp [vi a0.1.2] 0]) :: .n :: []), .reg (.n :: .call (vi r441) :: .n :: []), .reg (.n :: .n :: []), .br false, .reg (.n :: .n :: []), .reg (.n :: []), .br true, .reg (.n :: .v (VV.fn 53 [VV.tp [vb a0.2.1.1] 0, VV.tp [vi a0.2.1.2] 0]) :: .n :: []), .reg (.n :: .call (vi r447) :: .n :: []), .reg (.n :: .n :: []), .br true, .reg (.n :: .n :: [])]) (fr := true) (by kernel_rfl) (an (an (ti tt) (an (ti (ti (ti tt))) (an (an (ti tt) (an (an (show (decide ((0 : Int) < 4)) = true from (dt (by decide))) tt) (an (an (an e439 (an e440 (ti tt))) (an (ti (an e443 (ti tt))) (an (ti (ti tt)) (an (Qm (dt h444)) tt)))) (ti (ti tt))))) (an (ti tt) (an (an (show (decide ((1 : Int) < 4)) = true from (dt (by decide))) tt) (an (an e445 (an e446 (ti tt))) (an (ti (an e449 (ti tt))) (an (ti (ti tt)) (an (Za (df h450)) (an (ti (ti tt)) tt)))))))))) (ti tt)) (Wv.refl _)
 ·injection h with h; subst h
  exact Qw pm pn Try.func35 (r0 := vi r441) (ans := [.reg (.n :: []), .reg (nN 3 []), .unr 2, .reg (.n :: []), .br true, .reg (.n :: .v (VV.fn 53 [VV.tp [vb a0.1.1] 0, VV.tp [vi a0.1.2] 0]) :: .n :: []), .reg (.n :: .call (vi r441) :: .n :: []), .reg (.n :: .n :: []), .br true, .reg (.n :: .n :: [])]) (fr := true) (by kernel_rfl) (an (an (ti tt) (an (ti (ti (ti tt))) (an (ti tt) (an (an (show (decide ((0 : Int) < 4)) = true from (dt (by decide))) tt) (an (an e439 (an e440 (ti tt))) (an (ti (an e443 (ti tt))) (an (ti (ti tt)) (an (Za (df h444)) (an (ti (ti tt)) tt))))))))) (ti tt)) (Wv.refl _)
theorem Q0w (z0 : (Bool × Int)) (z1 : (Bool × Int)) (z2 : (Bool × Int)) (z3 : (Bool × Int)) : [VV.tr ([VV.fn 53 [VV.tp [vb (((z0, z1, z2, z3).1).1)] 0, VV.tp [vi (((z0, z1, z2, z3).1).2)] 0], VV.fn 53 [VV.tp [vb (((z0, z1, z2, z3).2.1).1)] 0, VV.tp [vi (((z0, z1, z2, z3).2.1).2)] 0], VV.fn 53 [VV.tp [vb (((z0, z1, z2, z3).2.2.1).1)] 0, VV.tp [vi (((z0, z1, z2, z3).2.2.1).2)] 0], VV.fn 53 [VV.tp [vb (((z0, z1, z2, z3).2.2.2).1)] 0, VV.tp [vi (((z0, z1, z2, z3).2.2.2).2)] 0]]) 4] = [VV.tr (List.drop 0 (List.map unfr [VV.fn 53 [VV.tp [vb z0.1] 0, VV.tp [vi z0.2] 0], VV.fn 53 [VV.tp [vb z1.1] 0, VV.tp [vi z1.2] 0], VV.fn 53 [VV.tp [vb z2.1] 0, VV.tp [vi z2.2] 0], VV.fn 53 [VV.tp [vb z3.1] 0, VV.tp [vi z3.2] 0]])) 4] := by first | rfl | (simp only [Qa7, Zi, Yd, map_cons, map_nil, un_i, un_b, Qae]; done) | (simp only [Qa7, Zi, Yd, map_cons, map_nil, un_i, un_b, Qae]; rfl) | (simp only [Qa7, Zi, Yd, map_cons, map_nil, un_i, un_b, Qae, length_cons, length_nil, length_append]; done)
def Q0x (z0 : (Bool × Int)) (z1 : (Bool × Int)) (z2 : (Bool × Int)) (z3 : Int) (z4 : (Bool × Int)) (z5 : Int) : List Ans := (.n :: .n :: .call (VV.fn 53 [VV.tp [vb z0.1] 0, VV.tp [vi z0.2] 0]) :: nN 5 (.call (VV.fn 53 [VV.tp [vb z1.1] 0, VV.tp [vi z1.2] 0]) :: nN 3 (.call (VV.fn 53 [VV.tp [vb z2.1] 0, VV.tp [vi z2.2] 0]) :: .n :: .call (vi z3) :: .n :: .call (VV.fn 53 [VV.tp [vb z4.1] 0, VV.tp [vi z4.2] 0]) :: .n :: .call (vi z5) :: .n :: [])))
def Qdn (k : Nat) (a0 : Qr) (a1 : Int) : Option Int :=
 (Zl k a0.Radius 1 100000).bind fun r467 => ((Zl k a0.Height 1 (minI a0.Radius 500)).bind fun r470 => ((Zl k a0.At 0 a1).bind fun r473 => ((Qg4 k a0).bind fun r475 => ((Zl k r475 0 a1).bind fun r477 => ((Qd k (r467, r470, r473, r477)).bind fun r479 => (some r479))))))
theorem Qjl (k : Nat) (a0 : Qr) (a1 : Int) (r : Int) (h : Qdn k a0 a1 = some r) : VC Try.prog 43 [VV.ag (Qg a0), vi a1] (vi r) := by
 unfold Qdn at h
 obtain ⟨r467, h468, h⟩ := bs h
 have e469 := (Zm k a0.Radius 1 100000 _ h468)
 obtain ⟨r470, h471, h⟩ := bs h
 have e472 := (Zm k a0.Height 1 (minI a0.Radius 500) _ h471)
 obtain ⟨r473, h474, h⟩ := bs h
 obtain ⟨r475, h476, h⟩ := bs h
 obtain ⟨r477, h478, h⟩ := bs h
 obtain ⟨r479, h480, h⟩ := bs h
 have e481 := (VC.args (Qi k (r467, r470, r473, r477) _ h480) (Q0w r467 r470 r473 r477))
 have e482 := (ti (ti (an e469 (ti (ti (ti (ti (ti (an e472 (ti (ti (ti (an (Zm k a0.At 0 a1 _ h474) (ti (an (Qnx k a0 _ h476) (ti (an (Zm k r475 0 a1 _ h478) (ti (an e481 (ti tt))))))))))))))))))))
 injection h with h; subst h
 exact Qw pm pn Try.func43 (r0 := vi r479) (ans := [.reg (.n :: .n :: []), .reg (Q0x r467 r470 r473 r475 r477 r479)]) (fr := true) (by kernel_rfl) (an (an (ti (ti tt)) (an e482 tt)) (ti tt)) (Wv.refl _)
def Qbs (k : Nat) (a0 : Qr) (q0_0 : Int) (q0_1 : Int) (q0_2 : (List Qk)) (q0_3 : (List Qr)) : Option Int :=
 (Qdn k a0 q0_1).bind fun r487 => (some r487)
theorem Qhp (k : Nat) (a0 : Qr) (q0_0 : Int) (q0_1 : Int) (q0_2 : (List Qk)) (q0_3 : (List Qr)) (r : Int) (h : Qbs k a0 q0_0 q0_1 q0_2 q0_3 = some r) : VC Try.prog 42 [VV.ag (Qg a0), VV.tp [vi q0_0, vi q0_1, VV.tr (flatMap Qb q0_2) q0_2.length, VV.tr (flatMap Qg q0_3) q0_3.length] 0] (vi r) := by
 unfold Qbs at h
 have e486 := (show Xt Try.prog 3 1 [vi q0_0, vi q0_1, VV.tr (flatMap Qb q0_2) q0_2.length, VV.tr (flatMap Qg q0_3) q0_3.length] = some (vi q0_1) from (Ju ag3 rfl))
 obtain ⟨r487, h488, h⟩ := bs h
 have e489 := (ti (ti (an e486 (an (Qjl k a0 q0_1 _ h488) (ti tt)))))
 injection h with h; subst h
 exact Qw pm pn Try.func42 (r0 := vi r487) (ans := [.reg (.n :: .n :: []), .reg (.n :: .n :: .v (vi q0_1) :: .call (vi r487) :: .n :: [])]) (fr := true) (by kernel_rfl) (an (an (ti (ti tt)) (an e489 tt)) (ti tt)) (Wv.refl _)
def Qxk (z0 : (Int × Int × (List Qk) × (List Qr))) (z1 : Int) : List Ans := (.v (VV.fn 42 [VV.tp [vi z0.1, vi z0.2.1, VV.tr (flatMap Qb z0.2.2.1) z0.2.2.1.length, VV.tr (flatMap Qg z0.2.2.2) z0.2.2.2.length] 0]) :: .n :: .call (vi z1) :: .n :: [])
def Xn (q0_0 : (List Qr)) (q1_0 : (Int × Int × (List Qk) × (List Qr))) (x8 : Int) : VS := ⟨mkA [(1, VV.tp [VV.fn 42 [VV.tp [vi q1_0.1, vi q1_0.2.1, VV.tr (flatMap Qb q1_0.2.2.1) q1_0.2.2.1.length, VV.tr (flatMap Qg q1_0.2.2.2) q1_0.2.2.2.length] 0]] 0), (6, VV.tr (flatMap Qg q0_0) q0_0.length), (7, vi (q0_0.length : Int)), (8, vi x8)], [], .nil⟩
def Je (q0_0 : (List Qr)) (q1_0 : (Int × Int × (List Qk) × (List Qr))) (r : Int) : VS := ⟨mkA [(2, vi r)], [], .nil⟩
def Jf (q0_0 : (List Qr)) (q1_0 : (Int × Int × (List Qk) × (List Qr))) (r : Unit) : VS := ⟨mkA [], [], .nil⟩
def Q9 (k : Nat) (q0_0 : (List Qr)) (q1_0 : (Int × Int × (List Qk) × (List Qr))) : Nat -> Int -> Option (Sum Int Unit)
 | 0, _ => none
 | fuel + 1, x8 => if x8 < (q0_0.length : Int) then (if 0 <= x8 /\ x8 < (q0_0.length : Int) then ((Qbs k (q0_0.getD x8.toNat default) q1_0.1 q1_0.2.1 q1_0.2.2.1 q1_0.2.2.2).bind fun r537 => (if r537 = 0 then (Q9 k q0_0 q1_0 fuel (w64 (x8 + 1))) else (some (.inl r537)))) else none) else (some (.inr ()))
theorem Qa4 (k : Nat) (q0_0 : (List Qr)) (q1_0 : (Int × Int × (List Qk) × (List Qr))) : ∀ (fuel : Nat) (x8 : Int) (r : Sum Int Unit), Q9 k q0_0 q1_0 fuel x8 = some r -> (match r with | .inl r => Yw none Try.prog (szF Try.f55) (Ya Try.f55 0) (Xn q0_0 q1_0 x8) .ret (Je q0_0 q1_0 r) | .inr r => Yw none Try.prog (szF Try.f55) (Ya Try.f55 0) (Xn q0_0 q1_0 x8) (.exit 0) (Jf q0_0 q1_0 r)) := by
 intro fuel
 induction fuel with
 | zero => intro x8 r h; rw [Q9.eq_1] at h; cases h
 | succ fuel ih =>
  intro x8 r h
  rw [Q9.eq_2] at h
  rcases ifs h with ⟨h533, h⟩ | ⟨h533, h⟩
  ·obtain ⟨h534, h⟩ := ifn h
   have e535 := (show Xt Try.prog 65 (x8.toNat * 5) (flatMap Qg q0_0) = some (VV.ag (Qg (q0_0.getD x8.toNat default))) from Yo ag65 Qg 5 sz65 Qcn q0_0 default h534 (by omega))
   have e536 := (show Xt Try.prog 97 0 [VV.fn 42 [VV.tp [vi q1_0.1, vi q1_0.2.1, VV.tr (flatMap Qb q1_0.2.2.1) q1_0.2.2.1.length, VV.tr (flatMap Qg q1_0.2.2.2) q1_0.2.2.2.length] 0]] = some (VV.fn 42 [VV.tp [vi q1_0.1, vi q1_0.2.1, VV.tr (flatMap Qb q1_0.2.2.1) q1_0.2.2.1.length, VV.tr (flatMap Qg q1_0.2.2.2) q1_0.2.2.2.length] 0]) from (Ju ag97 rfl))
   obtain ⟨r537, h538, h⟩ := bs h
   have e539 := (Qhp k (q0_0.getD x8.toNat default) q1_0.1 q1_0.2.1 q1_0.2.2.1 q1_0.2.2.2 _ h538)
   rcases ifs h with ⟨h540, h⟩ | ⟨h540, h⟩
   ·have h2 := ih _ _ h
    obtain ⟨q, hv, hq⟩ := pkR (rd := none) (P := Try.prog) (fn := Try.f55) (k := 0) (s := (Xn q0_0 q1_0 x8)) (ans := [.reg (.n :: []), .br true, .reg (.n :: .v (VV.ag (Qg (q0_0.getD x8.toNat default))) :: .n :: .n :: []), .reg (Qxk q1_0 r537), .reg (.n :: .n :: []), .br false, .reg (.n :: .n :: [])]) (c := ⟨[(1, none), (6, none), (7, none), (8, none)], [], []⟩) (e := .normal) (s1 := (Xn q0_0 q1_0 (w64 (x8 + 1)))) (an (an (ti tt) (an (an (dt h533) tt) (an (an (an h534 (an e535 (ti (ti tt)))) (an (an e536 (ti (an e539 (ti tt)))) (an (ti (ti tt)) (an (Qm (dt h540)) tt)))) (ti (ti tt))))) (ti tt)) (by kernel_rfl)
    cases r with
    | inl r => exact Qz pm pn hv hq h2
    | inr r =>
     exact Qz pm pn hv hq h2
   ·injection h with h; subst h
    exact Q5 (c := ⟨[(2, none)], [], []⟩) (s1 := (Je q0_0 q1_0 r537)) pm pn (ans := [.reg (.n :: []), .br true, .reg (.n :: .v (VV.ag (Qg (q0_0.getD x8.toNat default))) :: .n :: .n :: []), .reg (Qxk q1_0 r537), .reg (.n :: .n :: []), .br true, .reg (.n :: .n :: [])]) (by kernel_rfl) (by intro e; cases e) (an (an (ti tt) (an (an (dt h533) tt) (an (an h534 (an e535 (ti (ti tt)))) (an (an e536 (ti (an e539 (ti tt)))) (an (ti (ti tt)) (an (Za (df h540)) (an (ti (ti tt)) tt))))))) (ti tt))
  ·injection h with h; subst h
   exact Q5 (c := ⟨[], [], []⟩) (s1 := (Jf q0_0 q1_0 ())) pm pn (ans := [.reg (.n :: []), .br false]) (by kernel_rfl) (by intro e; cases e) (an (an (ti tt) (an (df h533) tt)) (ti tt))
def Xj (k : Nat) (q0_0 : (List Qr)) (q1_0 : (Int × Int × (List Qk) × (List Qr))) : Option Int :=
 (Q9 k q0_0 q1_0 k 0).bind fun r542 => (match r542 with | .inl r543 => (some r543) | .inr r544 => (some 0))
theorem Qby (k : Nat) (q0_0 : (List Qr)) (q1_0 : (Int × Int × (List Qk) × (List Qr))) (r : Int) (h : Xj k q0_0 q1_0 = some r) : VC Try.prog 55 [VV.tp [VV.tr (flatMap Qg q0_0) q0_0.length] 0, VV.tp [VV.fn 42 [VV.tp [vi q1_0.1, vi q1_0.2.1, VV.tr (flatMap Qb q1_0.2.2.1) q1_0.2.2.1.length, VV.tr (flatMap Qg q1_0.2.2.2) q1_0.2.2.2.length] 0]] 0] (vi r) := by
 unfold Xj at h
 have e516 := (show Xt Try.prog 23 0 [VV.tr (flatMap Qg q0_0) q0_0.length] = some (VV.tr (flatMap Qg q0_0) q0_0.length) from (Ju ag23 rfl))
 obtain ⟨r542, h541, h⟩ := bs h
 have hph541 := Qa4 k q0_0 q1_0 _ _ _ h541
 cases r542 with
 | inl r543 =>
  dsimp only at h
  have e545 := (an (ti tt) (VRun.loop hph541))
  injection h with h; subst h
  exact Qw pm pn Try.func55 (r0 := vi r543) (ans := [.reg (.n :: []), .reg (.v (VV.tr (flatMap Qg q0_0) q0_0.length) :: .n :: .n :: []), .sub ⟨[(1, none), (6, none), (7, none), (8, none)], [], []⟩ .ret (Je q0_0 q1_0 r543)]) (fr := true) (by kernel_rfl) (an (an (ti tt) (an (an e516 (ti (ti tt))) e545)) (ti tt)) (Wv.refl _)
 | inr r544 =>
  dsimp only at h
  have e546 := (an (ti tt) (VRun.loop hph541))
  injection h with h; subst h
  exact Qw pm pn Try.func55 (r0 := vi 0) (ans := [.reg (.n :: []), .reg (.v (VV.tr (flatMap Qg q0_0) q0_0.length) :: .n :: .n :: []), .sub ⟨[(1, none), (6, none), (7, none), (8, none)], [], []⟩ (.exit 0) (Jf q0_0 q1_0 r544), .reg (.n :: [])]) (fr := true) (by kernel_rfl) (an (an (ti tt) (an (an (an e516 (ti (ti tt))) e546) (an (ti tt) tt))) (ti tt)) (Wv.refl _)
def Qb6 (k : Nat) (a0 : Int) (a1 : Bool) : Option Int :=
 if a1 = true then (some (w64 (0 - a0))) else (some a0)
theorem Qdx (k : Nat) (a0 : Int) (a1 : Bool) (r : Int) (h : Qb6 k a0 a1 = some r) : VC Try.prog 57 [vi a0, vb a1] (vi r) := by
 unfold Qb6 at h
 rcases ifs h with ⟨h559, h⟩ | ⟨h559, h⟩
 ·injection h with h; subst h
  exact Qw pm pn Try.func57 (r0 := vi (w64 (0 - a0))) (ans := [.reg (.n :: []), .reg (.n :: []), .br true, .reg (nN 3 [])]) (fr := true) (by kernel_rfl) (an (an (ti tt) (an (ti tt) (an h559 (an (ti (ti (ti tt))) tt)))) (ti tt)) (Wv.refl _)
 ·injection h with h; subst h
  exact Qw pm pn Try.func57 (r0 := vi a0) (ans := [.reg (.n :: []), .reg (.n :: []), .br false, .reg (.n :: .n :: [])]) (fr := true) (by kernel_rfl) (an (an (ti tt) (an (an (ti tt) (an (Zk h559) tt)) (an (ti (ti tt)) tt))) (ti tt)) (Wv.refl _)
def Qbj (k : Nat) (a0 : Qk) : Option Int :=
 (Qb6 k (w64 ((w64 ((w64 (3 * (w64 ((w64 (a0.Outer * a0.Outer)) - (w64 (a0.Inner * a0.Inner)))))) * (w64 (a0.To - a0.From)))) * (maxI a0.Count 1))) a0.Cut).bind fun r565 => (some r565)
theorem Qfg (k : Nat) (a0 : Qk) (r : Int) (h : Qbj k a0 = some r) : VC Try.prog 45 [VV.ag (Qb a0)] (vi r) := by
 unfold Qbj at h
 have e564 := (ti (ti (ti (ti (ti (ti (ti (ti (ti (ti (ti (ti (ti (ti (ti (ti (ti (ti (ti tt)))))))))))))))))))
 obtain ⟨r565, h566, h⟩ := bs h
 have e567 := (Qdx k (w64 ((w64 ((w64 (3 * (w64 ((w64 (a0.Outer * a0.Outer)) - (w64 (a0.Inner * a0.Inner)))))) * (w64 (a0.To - a0.From)))) * (maxI a0.Count 1))) a0.Cut _ h566)
 have e568 := (ti (ti (ti (ti (ti (ti (ti (an e567 (ti tt)))))))))
 injection h with h; subst h
 exact Qw pm pn Try.func45 (r0 := vi r565) (ans := [.reg (.n :: .n :: []), .reg (nN 19 []), .reg (nN 7 (.call (vi r565) :: .n :: []))]) (fr := true) (by kernel_rfl) (an (an (ti (ti tt)) (an e564 (an e568 tt))) (ti tt)) (Wv.refl _)
def Qb3 (k : Nat) (a0 : Qr) : Option Int :=
 (Qb6 k (w64 ((w64 ((w64 (4 * a0.Height)) * a0.Height)) * (w64 ((w64 (3 * a0.Radius)) - a0.Height)))) a0.Cut).bind fun r594 => (some r594)
theorem Qfw (k : Nat) (a0 : Qr) (r : Int) (h : Qb3 k a0 = some r) : VC Try.prog 46 [VV.ag (Qg a0)] (vi r) := by
 unfold Qb3 at h
 obtain ⟨r594, h595, h⟩ := bs h
 have e596 := (Qdx k (w64 ((w64 ((w64 (4 * a0.Height)) * a0.Height)) * (w64 ((w64 (3 * a0.Radius)) - a0.Height)))) a0.Cut _ h595)
 have e597 := (ti (ti (ti (ti (ti (ti (ti (ti (ti (ti (ti (ti (ti (ti (ti (an e596 (ti tt)))))))))))))))))
 injection h with h; subst h
 exact Qw pm pn Try.func46 (r0 := vi r594) (ans := [.reg (.n :: .n :: []), .reg (nN 15 (.call (vi r594) :: .n :: []))]) (fr := true) (by kernel_rfl) (an (an (ti (ti tt)) (an e597 tt)) (ti tt)) (Wv.refl _)
def Qdc (a0 : Zd) (x11 : Int) (x3 : Int) : VS := ⟨mkA [(1, VV.pt 0 0), (3, vi x3), (9, VV.tr (flatMap Qb a0.Parts) a0.Parts.length), (10, vi (a0.Parts.length : Int)), (11, vi x11)], [some ⟨true, 1, Yh a0⟩], .nil⟩
def Qc1 (a0 : Zd) (r : Int) : VS := ⟨mkA [(1, VV.pt 0 0), (3, vi r)], [some ⟨true, 1, Yh a0⟩], .nil⟩
def J4 (k : Nat) (a0 : Zd) : Nat -> Int -> Int -> Option (Int)
 | 0, _, _ => none
 | fuel + 1, x11, x3 => if x11 < (a0.Parts.length : Int) then (if 0 <= x11 /\ x11 < (a0.Parts.length : Int) then ((Qbj k (a0.Parts.getD x11.toNat default)).bind fun r631 => (J4 k a0 fuel (w64 (x11 + 1)) (w64 (x3 + r631)))) else none) else (some x3)
theorem Qhd (k : Nat) (a0 : Zd) : ∀ (fuel : Nat) (x11 : Int) (x3 : Int) (r : Int), J4 k a0 fuel x11 x3 = some r -> (Yw none Try.prog (szF Try.f21) (Ya Try.f21 0) (Qdc a0 x11 x3) (.exit 0) (Qc1 a0 r)) := by
 intro fuel
 induction fuel with
 | zero => intro x11 x3 r h; rw [J4.eq_1] at h; cases h
 | succ fuel ih =>
  intro x11 x3 r h
  rw [J4.eq_2] at h
  rcases ifs h with ⟨h628, h⟩ | ⟨h628, h⟩
  ·obtain ⟨h629, h⟩ := ifn h
   have e630 := (show Xt Try.prog 38 (x11.toNat * 6) (flatMap Qb a0.Parts) = some (VV.ag (Qb (a0.Parts.getD x11.toNat default))) from Yo ag38 Qb 6 sz38 Qa3 a0.Parts default h629 (by omega))
   obtain ⟨r631, h632, h⟩ := bs h
   have e633 := (Qfg k (a0.Parts.getD x11.toNat default) _ h632)
   have h2 := ih _ _ _ h
   obtain ⟨q, hv, hq⟩ := pkR (rd := none) (P := Try.prog) (fn := Try.f21) (k := 0) (s := (Qdc a0 x11 x3)) (ans := [.reg (.n :: []), .br true, .reg (.n :: .v (VV.ag (Qb (a0.Parts.getD x11.toNat default))) :: .n :: .n :: []), .reg (.n :: .n :: .call (vi r631) :: .n :: .n :: []), .reg (.n :: .n :: [])]) (c := ⟨[(1, none), (3, none), (9, none), (10, none), (11, none)], [none], []⟩) (e := .normal) (s1 := (Qdc a0 (w64 (x11 + 1)) (w64 (x3 + r631)))) (an (an (ti tt) (an (an (dt h628) tt) (an (an (an h629 (an e630 (ti (ti tt)))) (ti (ti (an e633 (ti (ti tt)))))) (ti (ti tt))))) (ti tt)) (by kernel_rfl)
   exact Qz pm pn hv hq h2
  ·injection h with h; subst h
   exact Q5 (c := ⟨[(1, none), (3, none)], [none], []⟩) (s1 := (Qc1 a0 x3)) pm pn (ans := [.reg (.n :: []), .br false]) (by kernel_rfl) (by intro e; cases e) (an (an (ti tt) (an (df h628) tt)) (ti tt))
def Qdd (a0 : Zd) (x23 : Int) (x3 : Int) : VS := ⟨mkA [(3, vi x3), (21, VV.tr (flatMap Qg a0.Caps) a0.Caps.length), (22, vi (a0.Caps.length : Int)), (23, vi x23)], [], .nil⟩
def Qc2 (a0 : Zd) (r : Int) : VS := ⟨mkA [(3, vi r)], [], .nil⟩
def J5 (k : Nat) (a0 : Zd) : Nat -> Int -> Int -> Option (Int)
 | 0, _, _ => none
 | fuel + 1, x23, x3 => if x23 < (a0.Caps.length : Int) then (if 0 <= x23 /\ x23 < (a0.Caps.length : Int) then ((Qb3 k (a0.Caps.getD x23.toNat default)).bind fun r652 => (J5 k a0 fuel (w64 (x23 + 1)) (w64 (x3 + r652)))) else none) else (some x3)
theorem Qhe (k : Nat) (a0 : Zd) : ∀ (fuel : Nat) (x23 : Int) (x3 : Int) (r : Int), J5 k a0 fuel x23 x3 = some r -> (Yw none Try.prog (szF Try.f21) (Ya Try.f21 1) (Qdd a0 x23 x3) (.exit 2) (Qc2 a0 r)) := by
 intro fuel
 induction fuel with
 | zero => intro x23 x3 r h; rw [J5.eq_1] at h; cases h
 | succ fuel ih =>
  intro x23 x3 r h
  rw [J5.eq_2] at h
  rcases ifs h with ⟨h649, h⟩ | ⟨h649, h⟩
  ·obtain ⟨h650, h⟩ := ifn h
   have e651 := (show Xt Try.prog 65 (x23.toNat * 5) (flatMap Qg a0.Caps) = some (VV.ag (Qg (a0.Caps.getD x23.toNat default))) from Yo ag65 Qg 5 sz65 Qcn a0.Caps default h650 (by omega))
   obtain ⟨r652, h653, h⟩ := bs h
   have e654 := (Qfw k (a0.Caps.getD x23.toNat default) _ h653)
   have h2 := ih _ _ _ h
   obtain ⟨q, hv, hq⟩ := pkR (rd := none) (P := Try.prog) (fn := Try.f21) (k := 1) (s := (Qdd a0 x23 x3)) (ans := [.reg (.n :: []), .br true, .reg (.n :: .v (VV.ag (Qg (a0.Caps.getD x23.toNat default))) :: .n :: .n :: []), .reg (.n :: .n :: .call (vi r652) :: .n :: .n :: []), .reg (.n :: .n :: [])]) (c := ⟨[(3, none), (21, none), (22, none), (23, none)], [], []⟩) (e := .normal) (s1 := (Qdd a0 (w64 (x23 + 1)) (w64 (x3 + r652)))) (an (an (ti tt) (an (an (dt h649) tt) (an (an (an h650 (an e651 (ti (ti tt)))) (ti (ti (an e654 (ti (ti tt)))))) (ti (ti tt))))) (ti tt)) (by kernel_rfl)
   exact Qz pm pn hv hq h2
  ·injection h with h; subst h
   exact Q5 (c := ⟨[(3, none)], [], []⟩) (s1 := (Qc2 a0 x3)) pm pn (ans := [.reg (.n :: []), .br false]) (by kernel_rfl) (by intro e; cases e) (an (an (ti tt) (an (df h649) tt)) (ti tt))
def Qbt (k : Nat) (a0 : Zd) : Option Int :=
 (J4 k a0 k 0 0).bind fun r635 => ((J5 k a0 k 0 r635).bind fun r656 => (some r656))
theorem Qei (k : Nat) (a0 : Zd) (r : Int) (h : Qbt k a0 = some r) : VC Try.prog 21 [VV.ag (Yh a0)] (vi r) := by
 unfold Qbt at h
 obtain ⟨r635, h634, h⟩ := bs h
 have hph634 := Qhd k a0 _ _ _ _ h634
 have e636 := (an (ti tt) (VRun.loop hph634))
 obtain ⟨r656, h655, h⟩ := bs h
 have hph655 := Qhe k a0 _ _ _ _ h655
 have e657 := (an (ti tt) (VRun.loop hph655))
 injection h with h; subst h
 exact Qw pm pn Try.func21 (r0 := vi r656) (ans := [.reg (.n :: .n :: []), .reg (.n :: []), .reg (nN 4 []), .sub ⟨[(1, none), (3, none), (9, none), (10, none), (11, none)], [none], []⟩ (.exit 0) (Qc1 a0 r635), .reg (nN 4 []), .sub ⟨[(3, none), (21, none), (22, none), (23, none)], [], []⟩ (.exit 2) (Qc2 a0 r656), .reg (.n :: .n :: [])]) (fr := true) (by kernel_rfl) (an (an (ti (ti tt)) (an (ti tt) (an (an (ti (ti (ti (ti tt)))) e636) (an (an (ti (ti (ti (ti tt)))) e657) (an (ti (ti tt)) tt))))) (ti tt)) (Wv.refl _)
theorem Q0y (z0 : Int) (z1 : Int) (z2 : (List Qk)) (z3 : (List Qr)) : [VV.ag (Yh (⟨z0, z1, z2, z3⟩ : Zd))] = [VV.ag [vi z0, vi z1, VV.tr (flatMap Qb z2) z2.length, VV.tr (flatMap Qg z3) z3.length]] := by first | rfl | (simp only [Zi, map_cons, map_nil, un_i, Qae, length_cons, length_nil, Wi, Zo, Xf]; done) | (simp only [Zi, map_cons, map_nil, un_i, Qae, length_cons, length_nil, Wi, Zo, Xf]; rfl) | (simp only [Zi, map_cons, map_nil, un_i, Qae, length_cons, length_nil, Wi, Zo, Xf, Yh, Qb, Qg, length_cons, length_nil, length_append]; done)
def Q0z (z0 : Int) (z1 : Int) (z2 : (List Qk)) (z3 : (List Qr)) (z4 : Int) (z5 : (Bool × Int)) (z6 : Int) : List Ans := (.v (VV.ag [vi z0, vi z1, VV.tr (flatMap Qb z2) z2.length, VV.tr (flatMap Qg z3) z3.length]) :: .call (vi z4) :: .n :: .call (VV.fn 53 [VV.tp [vb z5.1] 0, VV.tp [vi z5.2] 0]) :: .call (vi z6) :: .n :: [])
def Qbu (k : Nat) (q0_0 : Int) (q0_1 : Int) (q0_2 : (List Qk)) (q0_3 : (List Qr)) : Option Int :=
 (Qbt k (⟨q0_0, q0_1, q0_2, q0_3⟩ : Zd)).bind fun r669 => ((Qy k (decide (0 < r669)) 11).bind fun r672 => ((Zj k r672.1 r672.2).bind fun r675 => (some r675)))
theorem Qhq (k : Nat) (q0_0 : Int) (q0_1 : Int) (q0_2 : (List Qk)) (q0_3 : (List Qr)) (r : Int) (h : Qbu k q0_0 q0_1 q0_2 q0_3 = some r) : VC Try.prog 44 [VV.tp [vi q0_0, vi q0_1, VV.tr (flatMap Qb q0_2) q0_2.length, VV.tr (flatMap Qg q0_3) q0_3.length] 0] (vi r) := by
 unfold Qbu at h
 have e668 := (show Xt Try.prog 25 0 [vi q0_0, vi q0_1, VV.tr (flatMap Qb q0_2) q0_2.length, VV.tr (flatMap Qg q0_3) q0_3.length] = some (VV.ag [vi q0_0, vi q0_1, VV.tr (flatMap Qb q0_2) q0_2.length, VV.tr (flatMap Qg q0_3) q0_3.length]) from (Qz8 ag25 sz25 rfl))
 obtain ⟨r669, h670, h⟩ := bs h
 have e671 := (VC.args (Qei k (⟨q0_0, q0_1, q0_2, q0_3⟩ : Zd) _ h670) (Q0y q0_0 q0_1 q0_2 q0_3))
 obtain ⟨r672, h673, h⟩ := bs h
 have e674 := (Qp k (decide (0 < r669)) 11 _ h673)
 obtain ⟨r675, h676, h⟩ := bs h
 have e677 := (Zf k r672.1 r672.2 _ h676)
 have e678 := (an e668 (an e671 (ti (an e674 (an e677 (ti tt))))))
 injection h with h; subst h
 exact Qw pm pn Try.func44 (r0 := vi r675) (ans := [.reg (.n :: []), .reg (Q0z q0_0 q0_1 q0_2 q0_3 r669 r672 r675)]) (fr := true) (by kernel_rfl) (an (an (ti tt) (an e678 tt)) (ti tt)) (Wv.refl _)
def Qls (z0 : ((Bool × Int) × (Bool × Int) × (Bool × Int) × ((List Qk) × (Int × Int × (List Qk) × (List Qr))) × (Bool × Int) × ((List Qr) × (Int × Int × (List Qk) × (List Qr))) × (Int × Int × (List Qk) × (List Qr)))) : List Ans := (.n :: .v (VV.fn 54 [VV.tp [VV.tr (flatMap Qb z0.2.2.2.1.1) z0.2.2.2.1.1.length] 0, VV.tp [VV.fn 39 [VV.tp [vi z0.2.2.2.1.2.1, vi z0.2.2.2.1.2.2.1, VV.tr (flatMap Qb z0.2.2.2.1.2.2.2.1) z0.2.2.2.1.2.2.2.1.length, VV.tr (flatMap Qg z0.2.2.2.1.2.2.2.2) z0.2.2.2.1.2.2.2.2.length] 0]] 0]) :: .n :: [])
def Qny (z0 : ((Bool × Int) × (Bool × Int) × (Bool × Int) × ((List Qk) × (Int × Int × (List Qk) × (List Qr))) × (Bool × Int) × ((List Qr) × (Int × Int × (List Qk) × (List Qr))) × (Int × Int × (List Qk) × (List Qr)))) : List Ans := (.n :: .v (VV.fn 53 [VV.tp [vb z0.2.2.2.2.1.1] 0, VV.tp [vi z0.2.2.2.2.1.2] 0]) :: .n :: [])
def Qqd (z0 : ((Bool × Int) × (Bool × Int) × (Bool × Int) × ((List Qk) × (Int × Int × (List Qk) × (List Qr))) × (Bool × Int) × ((List Qr) × (Int × Int × (List Qk) × (List Qr))) × (Int × Int × (List Qk) × (List Qr)))) : List Ans := (.n :: .v (VV.fn 55 [VV.tp [VV.tr (flatMap Qg z0.2.2.2.2.2.1.1) z0.2.2.2.2.2.1.1.length] 0, VV.tp [VV.fn 42 [VV.tp [vi z0.2.2.2.2.2.1.2.1, vi z0.2.2.2.2.2.1.2.2.1, VV.tr (flatMap Qb z0.2.2.2.2.2.1.2.2.2.1) z0.2.2.2.2.2.1.2.2.2.1.length, VV.tr (flatMap Qg z0.2.2.2.2.2.1.2.2.2.2) z0.2.2.2.2.2.1.2.2.2.2.length] 0]] 0]) :: .n :: [])
def Qun (z0 : ((Bool × Int) × (Bool × Int) × (Bool × Int) × ((List Qk) × (Int × Int × (List Qk) × (List Qr))) × (Bool × Int) × ((List Qr) × (Int × Int × (List Qk) × (List Qr))) × (Int × Int × (List Qk) × (List Qr)))) : List Ans := (.n :: .v (VV.fn 44 [VV.tp [vi z0.2.2.2.2.2.2.1, vi z0.2.2.2.2.2.2.2.1, VV.tr (flatMap Qb z0.2.2.2.2.2.2.2.2.1) z0.2.2.2.2.2.2.2.2.1.length, VV.tr (flatMap Qg z0.2.2.2.2.2.2.2.2.2) z0.2.2.2.2.2.2.2.2.2.length] 0]) :: .n :: [])
def Qo (k : Nat) (a0 : ((Bool × Int) × (Bool × Int) × (Bool × Int) × ((List Qk) × (Int × Int × (List Qk) × (List Qr))) × (Bool × Int) × ((List Qr) × (Int × Int × (List Qk) × (List Qr))) × (Int × Int × (List Qk) × (List Qr)))) : Option Int :=
 (Zj k a0.1.1 a0.1.2).bind fun r685 => (if r685 = 0 then ((Zj k a0.2.1.1 a0.2.1.2).bind fun r691 => (if r691 = 0 then ((Zj k a0.2.2.1.1 a0.2.2.1.2).bind fun r697 => (if r697 = 0 then ((Xh k a0.2.2.2.1.1 a0.2.2.2.1.2).bind fun r703 => (if r703 = 0 then ((Zj k a0.2.2.2.2.1.1 a0.2.2.2.2.1.2).bind fun r709 => (if r709 = 0 then ((Xj k a0.2.2.2.2.2.1.1 a0.2.2.2.2.2.1.2).bind fun r715 => (if r715 = 0 then ((Qbu k a0.2.2.2.2.2.2.1 a0.2.2.2.2.2.2.2.1 a0.2.2.2.2.2.2.2.2.1 a0.2.2.2.2.2.2.2.2.2).bind fun r721 => (if r721 = 0 then (some 0) else (some r721))) else (some r715))) else (some r709))) else (some r703))) else (some r697))) else (some r691))) else (some r685))
theorem Zy (k : Nat) (a0 : ((Bool × Int) × (Bool × Int) × (Bool × Int) × ((List Qk) × (Int × Int × (List Qk) × (List Qr))) × (Bool × Int) × ((List Qr) × (Int × Int × (List Qk) × (List Qr))) × (Int × Int × (List Qk) × (List Qr)))) (r : Int) (h : Qo k a0 = some r) : VC Try.prog 35 [VV.tr ([VV.fn 53 [VV.tp [vb a0.1.1] 0, VV.tp [vi a0.1.2] 0], VV.fn 53 [VV.tp [vb a0.2.1.1] 0, VV.tp [vi a0.2.1.2] 0], VV.fn 53 [VV.tp [vb a0.2.2.1.1] 0, VV.tp [vi a0.2.2.1.2] 0], VV.fn 54 [VV.tp [VV.tr (flatMap Qb a0.2.2.2.1.1) a0.2.2.2.1.1.length] 0, VV.tp [VV.fn 39 [VV.tp [vi a0.2.2.2.1.2.1, vi a0.2.2.2.1.2.2.1, VV.tr (flatMap Qb a0.2.2.2.1.2.2.2.1) a0.2.2.2.1.2.2.2.1.length, VV.tr (flatMap Qg a0.2.2.2.1.2.2.2.2) a0.2.2.2.1.2.2.2.2.length] 0]] 0], VV.fn 53 [VV.tp [vb a0.2.2.2.2.1.1] 0, VV.tp [vi a0.2.2.2.2.1.2] 0], VV.fn 55 [VV.tp [VV.tr (flatMap Qg a0.2.2.2.2.2.1.1) a0.2.2.2.2.2.1.1.length] 0, VV.tp [VV.fn 42 [VV.tp [vi a0.2.2.2.2.2.1.2.1, vi a0.2.2.2.2.2.1.2.2.1, VV.tr (flatMap Qb a0.2.2.2.2.2.1.2.2.2.1) a0.2.2.2.2.2.1.2.2.2.1.length, VV.tr (flatMap Qg a0.2.2.2.2.2.1.2.2.2.2) a0.2.2.2.2.2.1.2.2.2.2.length] 0]] 0], VV.fn 44 [VV.tp [vi a0.2.2.2.2.2.2.1, vi a0.2.2.2.2.2.2.2.1, VV.tr (flatMap Qb a0.2.2.2.2.2.2.2.2.1) a0.2.2.2.2.2.2.2.2.1.length, VV.tr (flatMap Qg a0.2.2.2.2.2.2.2.2.2) a0.2.2.2.2.2.2.2.2.2.length] 0]]) 7] (vi r) := by
 unfold Qo at h
 have e683 := (show (0 : Int) <= 0 /\ (0 : Int) < ((7 : Nat) : Int) from ⟨by decide, by decide⟩)
 have e684 := (show Xt Try.prog 89 ((0 : Int).toNat * 1) ([VV.fn 53 [VV.tp [vb a0.1.1] 0, VV.tp [vi a0.1.2] 0], VV.fn 53 [VV.tp [vb a0.2.1.1] 0, VV.tp [vi a0.2.1.2] 0], VV.fn 53 [VV.tp [vb a0.2.2.1.1] 0, VV.tp [vi a0.2.2.1.2] 0], VV.fn 54 [VV.tp [VV.tr (flatMap Qb a0.2.2.2.1.1) a0.2.2.2.1.1.length] 0, VV.tp [VV.fn 39 [VV.tp [vi a0.2.2.2.1.2.1, vi a0.2.2.2.1.2.2.1, VV.tr (flatMap Qb a0.2.2.2.1.2.2.2.1) a0.2.2.2.1.2.2.2.1.length, VV.tr (flatMap Qg a0.2.2.2.1.2.2.2.2) a0.2.2.2.1.2.2.2.2.length] 0]] 0], VV.fn 53 [VV.tp [vb a0.2.2.2.2.1.1] 0, VV.tp [vi a0.2.2.2.2.1.2] 0], VV.fn 55 [VV.tp [VV.tr (flatMap Qg a0.2.2.2.2.2.1.1) a0.2.2.2.2.2.1.1.length] 0, VV.tp [VV.fn 42 [VV.tp [vi a0.2.2.2.2.2.1.2.1, vi a0.2.2.2.2.2.1.2.2.1, VV.tr (flatMap Qb a0.2.2.2.2.2.1.2.2.2.1) a0.2.2.2.2.2.1.2.2.2.1.length, VV.tr (flatMap Qg a0.2.2.2.2.2.1.2.2.2.2) a0.2.2.2.2.2.1.2.2.2.2.length] 0]] 0], VV.fn 44 [VV.tp [vi a0.2.2.2.2.2.2.1, vi a0.2.2.2.2.2.2.2.1, VV.tr (flatMap Qb a0.2.2.2.2.2.2.2.2.1) a0.2.2.2.2.2.2.2.2.1.length, VV.tr (flatMap Qg a0.2.2.2.2.2.2.2.2.2) a0.2.2.2.2.2.2.2.2.2.length] 0]]) = some (VV.fn 53 [VV.tp [vb a0.1.1] 0, VV.tp [vi a0.1.2] 0]) from (Ju ag89 rfl))
 obtain ⟨r685, h686, h⟩ := bs h
 have e687 := (Zf k a0.1.1 a0.1.2 _ h686)
 rcases ifs h with ⟨h688, h⟩ | ⟨h688, h⟩
 ·have e689 := (show (0 : Int) <= 1 /\ (1 : Int) < ((7 : Nat) : Int) from ⟨by decide, by decide⟩)
  have e690 := (show Xt Try.prog 89 ((1 : Int).toNat * 1) ([VV.fn 53 [VV.tp [vb a0.1.1] 0, VV.tp [vi a0.1.2] 0], VV.fn 53 [VV.tp [vb a0.2.1.1] 0, VV.tp [vi a0.2.1.2] 0], VV.fn 53 [VV.tp [vb a0.2.2.1.1] 0, VV.tp [vi a0.2.2.1.2] 0], VV.fn 54 [VV.tp [VV.tr (flatMap Qb a0.2.2.2.1.1) a0.2.2.2.1.1.length] 0, VV.tp [VV.fn 39 [VV.tp [vi a0.2.2.2.1.2.1, vi a0.2.2.2.1.2.2.1, VV.tr (flatMap Qb a0.2.2.2.1.2.2.2.1) a0.2.2.2.1.2.2.2.1.length, VV.tr (flatMap Qg a0.2.2.2.1.2.2.2.2) a0.2.2.2.1.2.2.2.2.length] 0]] 0], VV.fn 53 [VV.tp [vb a0.2.2.2.2.1.1] 0, VV.tp [vi a0.2.2.2.2.1.2] 0], VV.fn 55 [VV.tp [VV.tr (flatMap Qg a0.2.2.2.2.2.1.1) a0.2.2.2.2.2.1.1.length] 0, VV.tp [VV.fn 42 [VV.tp [vi a0.2.2.2.2.2.1.2.1, vi a0.2.2.2.2.2.1.2.2.1, VV.tr (flatMap Qb a0.2.2.2.2.2.1.2.2.2.1) a0.2.2.2.2.2.1.2.2.2.1.length, VV.tr (flatMap Qg a0.2.2.2.2.2.1.2.2.2.2) a0.2.2.2.2.2.1.2.2.2.2.length] 0]] 0], VV.fn 44 [VV.tp [vi a0.2.2.2.2.2.2.1, vi a0.2.2.2.2.2.2.2.1, VV.tr (flatMap Qb a0.2.2.2.2.2.2.2.2.1) a0.2.2.2.2.2.2.2.2.1.length, VV.tr (flatMap Qg a0.2.2.2.2.2.2.2.2.2) a0.2.2.2.2.2.2.2.2.2.length] 0]]) = some (VV.fn 53 [VV.tp [vb a0.2.1.1] 0, VV.tp [vi a0.2.1.2] 0]) from (Ju ag89 rfl))
  obtain ⟨r691, h692, h⟩ := bs h
  have e693 := (Zf k a0.2.1.1 a0.2.1.2 _ h692)
  rcases ifs h with ⟨h694, h⟩ | ⟨h694, h⟩
  ·have e695 := (show (0 : Int) <= 2 /\ (2 : Int) < ((7 : Nat) : Int) from ⟨by decide, by decide⟩)
   have e696 := (show Xt Try.prog 89 ((2 : Int).toNat * 1) ([VV.fn 53 [VV.tp [vb a0.1.1] 0, VV.tp [vi a0.1.2] 0], VV.fn 53 [VV.tp [vb a0.2.1.1] 0, VV.tp [vi a0.2.1.2] 0], VV.fn 53 [VV.tp [vb a0.2.2.1.1] 0, VV.tp [vi a0.2.2.1.2] 0], VV.fn 54 [VV.tp [VV.tr (flatMap Qb a0.2.2.2.1.1) a0.2.2.2.1.1.length] 0, VV.tp [VV.fn 39 [VV.tp [vi a0.2.2.2.1.2.1, vi a0.2.2.2.1.2.2.1, VV.tr (flatMap Qb a0.2.2.2.1.2.2.2.1) a0.2.2.2.1.2.2.2.1.length, VV.tr (flatMap Qg a0.2.2.2.1.2.2.2.2) a0.2.2.2.1.2.2.2.2.length] 0]] 0], VV.fn 53 [VV.tp [vb a0.2.2.2.2.1.1] 0, VV.tp [vi a0.2.2.2.2.1.2] 0], VV.fn 55 [VV.tp [VV.tr (flatMap Qg a0.2.2.2.2.2.1.1) a0.2.2.2.2.2.1.1.length] 0, VV.tp [VV.fn 42 [VV.tp [vi a0.2.2.2.2.2.1.2.1, vi a0.2.2.2.2.2.1.2.2.1, VV.tr (flatMap Qb a0.2.2.2.2.2.1.2.2.2.1) a0.2.2.2.2.2.1.2.2.2.1.length, VV.tr (flatMap Qg a0.2.2.2.2.2.1.2.2.2.2) a0.2.2.2.2.2.1.2.2.2.2.length] 0]] 0], VV.fn 44 [VV.tp [vi a0.2.2.2.2.2.2.1, vi a0.2.2.2.2.2.2.2.1, VV.tr (flatMap Qb a0.2.2.2.2.2.2.2.2.1) a0.2.2.2.2.2.2.2.2.1.length, VV.tr (flatMap Qg a0.2.2.2.2.2.2.2.2.2) a0.2.2.2.2.2.2.2.2.2.length] 0]]) = some (VV.fn 53 [VV.tp [vb a0.2.2.1.1] 0, VV.tp [vi a0.2.2.1.2] 0]) from (Ju ag89 rfl))
   obtain ⟨r697, h698, h⟩ := bs h
   have e699 := (Zf k a0.2.2.1.1 a0.2.2.1.2 _ h698)
   rcases ifs h with ⟨h700, h⟩ | ⟨h700, h⟩
   ·have e701 := (show (0 : Int) <= 3 /\ (3 : Int) < ((7 : Nat) : Int) from ⟨by decide, by decide⟩)
    have e702 := (show Xt Try.prog 89 ((3 : Int).toNat * 1) ([VV.fn 53 [VV.tp [vb a0.1.1] 0, VV.tp [vi a0.1.2] 0], VV.fn 53 [VV.tp [vb a0.2.1.1] 0, VV.tp [vi a0.2.1.2] 0], VV.fn 53 [VV.tp [vb a0.2.2.1.1] 0, VV.tp [vi a0.2.2.1.2] 0], VV.fn 54 [VV.tp [VV.tr (flatMap Qb a0.2.2.2.1.1) a0.2.2.2.1.1.length] 0, VV.tp [VV.fn 39 [VV.tp [vi a0.2.2.2.1.2.1, vi a0.2.2.2.1.2.2.1, VV.tr (flatMap Qb a0.2.2.2.1.2.2.2.1) a0.2.2.2.1.2.2.2.1.length, VV.tr (flatMap Qg a0.2.2.2.1.2.2.2.2) a0.2.2.2.1.2.2.2.2.length] 0]] 0], VV.fn 53 [VV.tp [vb a0.2.2.2.2.1.1] 0, VV.tp [vi a0.2.2.2.2.1.2] 0], VV.fn 55 [VV.tp [VV.tr (flatMap Qg a0.2.2.2.2.2.1.1) a0.2.2.2.2.2.1.1.length] 0, VV.tp [VV.fn 42 [VV.tp [vi a0.2.2.2.2.2.1.2.1, vi a0.2.2.2.2.2.1.2.2.1, VV.tr (flatMap Qb a0.2.2.2.2.2.1.2.2.2.1) a0.2.2.2.2.2.1.2.2.2.1.length, VV.tr (flatMap Qg a0.2.2.2.2.2.1.2.2.2.2) a0.2.2.2.2.2.1.2.2.2.2.length] 0]] 0], VV.fn 44 [VV.tp [vi a0.2.2.2.2.2.2.1, vi a0.2.2.2.2.2.2.2.1, VV.tr (flatMap Qb a0.2.2.2.2.2.2.2.2.1) a0.2.2.2.2.2.2.2.2.1.length, VV.tr (flatMap Qg a0.2.2.2.2.2.2.2.2.2) a0.2.2.2.2.2.2.2.2.2.length] 0]]) = some (VV.fn 54 [VV.tp [VV.tr (flatMap Qb a0.2.2.2.1.1) a0.2.2.2.1.1.length] 0, VV.tp [VV.fn 39 [VV.tp [vi a0.2.2.2.1.2.1, vi a0.2.2.2.1.2.2.1, VV.tr (flatMap Qb a0.2.2.2.1.2.2.2.1) a0.2.2.2.1.2.2.2.1.length, VV.tr (flatMap Qg a0.2.2.2.1.2.2.2.2) a0.2.2.2.1.2.2.2.2.length] 0]] 0]) from (Ju ag89 rfl))
    obtain ⟨r703, h704, h⟩ := bs h
    have e705 := (Qbr k a0.2.2.2.1.1 a0.2.2.2.1.2 _ h704)
    rcases ifs h with ⟨h706, h⟩ | ⟨h706, h⟩
    ·have e707 := (show (0 : Int) <= 4 /\ (4 : Int) < ((7 : Nat) : Int) from ⟨by decide, by decide⟩)
     have e708 := (show Xt Try.prog 89 ((4 : Int).toNat * 1) ([VV.fn 53 [VV.tp [vb a0.1.1] 0, VV.tp [vi a0.1.2] 0], VV.fn 53 [VV.tp [vb a0.2.1.1] 0, VV.tp [vi a0.2.1.2] 0], VV.fn 53 [VV.tp [vb a0.2.2.1.1] 0, VV.tp [vi a0.2.2.1.2] 0], VV.fn 54 [VV.tp [VV.tr (flatMap Qb a0.2.2.2.1.1) a0.2.2.2.1.1.length] 0, VV.tp [VV.fn 39 [VV.tp [vi a0.2.2.2.1.2.1, vi a0.2.2.2.1.2.2.1, VV.tr (flatMap Qb a0.2.2.2.1.2.2.2.1) a0.2.2.2.1.2.2.2.1.length, VV.tr (flatMap Qg a0.2.2.2.1.2.2.2.2) a0.2.2.2.1.2.2.2.2.length] 0]] 0], VV.fn 53 [VV.tp [vb a0.2.2.2.2.1.1] 0, VV.tp [vi a0.2.2.2.2.1.2] 0], VV.fn 55 [VV.tp [VV.tr (flatMap Qg a0.2.2.2.2.2.1.1) a0.2.2.2.2.2.1.1.length] 0, VV.tp [VV.fn 42 [VV.tp [vi a0.2.2.2.2.2.1.2.1, vi a0.2.2.2.2.2.1.2.2.1, VV.tr (flatMap Qb a0.2.2.2.2.2.1.2.2.2.1) a0.2.2.2.2.2.1.2.2.2.1.length, VV.tr (flatMap Qg a0.2.2.2.2.2.1.2.2.2.2) a0.2.2.2.2.2.1.2.2.2.2.length] 0]] 0], VV.fn 44 [VV.tp [vi a0.2.2.2.2.2.2.1, vi a0.2.2.2.2.2.2.2.1, VV.tr (flatMap Qb a0.2.2.2.2.2.2.2.2.1) a0.2.2.2.2.2.2.2.2.1.length, VV.tr (flatMap Qg a0.2.2.2.2.2.2.2.2.2) a0.2.2.2.2.2.2.2.2.2.length] 0]]) = some (VV.fn 53 [VV.tp [vb a0.2.2.2.2.1.1] 0, VV.tp [vi a0.2.2.2.2.1.2] 0]) from (Ju ag89 rfl))
     obtain ⟨r709, h710, h⟩ := bs h
     have e711 := (Zf k a0.2.2.2.2.1.1 a0.2.2.2.2.1.2 _ h710)
     rcases ifs h with ⟨h712, h⟩ | ⟨h712, h⟩
     ·have e713 := (show (0 : Int) <= 5 /\ (5 : Int) < ((7 : Nat) : Int) from ⟨by decide, by decide⟩)
      have e714 := (show Xt Try.prog 89 ((5 : Int).toNat * 1) ([VV.fn 53 [VV.tp [vb a0.1.1] 0, VV.tp [vi a0.1.2] 0], VV.fn 53 [VV.tp [vb a0.2.1.1] 0, VV.tp [vi a0.2.1.2] 0], VV.fn 53 [VV.tp [vb a0.2.2.1.1] 0, VV.tp [vi a0.2.2.1.2] 0], VV.fn 54 [VV.tp [VV.tr (flatMap Qb a0.2.2.2.1.1) a0.2.2.2.1.1.length] 0, VV.tp [VV.fn 39 [VV.tp [vi a0.2.2.2.1.2.1, vi a0.2.2.2.1.2.2.1, VV.tr (flatMap Qb a0.2.2.2.1.2.2.2.1) a0.2.2.2.1.2.2.2.1.length, VV.tr (flatMap Qg a0.2.2.2.1.2.2.2.2) a0.2.2.2.1.2.2.2.2.length] 0]] 0], VV.fn 53 [VV.tp [vb a0.2.2.2.2.1.1] 0, VV.tp [vi a0.2.2.2.2.1.2] 0], VV.fn 55 [VV.tp [VV.tr (flatMap Qg a0.2.2.2.2.2.1.1) a0.2.2.2.2.2.1.1.length] 0, VV.tp [VV.fn 42 [VV.tp [vi a0.2.2.2.2.2.1.2.1, vi a0.2.2.2.2.2.1.2.2.1, VV.tr (flatMap Qb a0.2.2.2.2.2.1.2.2.2.1) a0.2.2.2.2.2.1.2.2.2.1.length, VV.tr (flatMap Qg a0.2.2.2.2.2.1.2.2.2.2) a0.2.2.2.2.2.1.2.2.2.2.length] 0]] 0], VV.fn 44 [VV.tp [vi a0.2.2.2.2.2.2.1, vi a0.2.2.2.2.2.2.2.1, VV.tr (flatMap Qb a0.2.2.2.2.2.2.2.2.1) a0.2.2.2.2.2.2.2.2.1.length, VV.tr (flatMap Qg a0.2.2.2.2.2.2.2.2.2) a0.2.2.2.2.2.2.2.2.2.length] 0]]) = some (VV.fn 55 [VV.tp [VV.tr (flatMap Qg a0.2.2.2.2.2.1.1) a0.2.2.2.2.2.1.1.length] 0, VV.tp [VV.fn 42 [VV.tp [vi a0.2.2.2.2.2.1.2.1, vi a0.2.2.2.2.2.1.2.2.1, VV.tr (flatMap Qb a0.2.2.2.2.2.1.2.2.2.1) a0.2.2.2.2.2.1.2.2.2.1.length, VV.tr (flatMap Qg a0.2.2.2.2.2.1.2.2.2.2) a0.2.2.2.2.2.1.2.2.2.2.length] 0]] 0]) from (Ju ag89 rfl))
      obtain ⟨r715, h716, h⟩ := bs h
      have e717 := (Qby k a0.2.2.2.2.2.1.1 a0.2.2.2.2.2.1.2 _ h716)
      rcases ifs h with ⟨h718, h⟩ | ⟨h718, h⟩
      ·have e719 := (show (0 : Int) <= 6 /\ (6 : Int) < ((7 : Nat) : Int) from ⟨by decide, by decide⟩)
       have e720 := (show Xt Try.prog 89 ((6 : Int).toNat * 1) ([VV.fn 53 [VV.tp [vb a0.1.1] 0, VV.tp [vi a0.1.2] 0], VV.fn 53 [VV.tp [vb a0.2.1.1] 0, VV.tp [vi a0.2.1.2] 0], VV.fn 53 [VV.tp [vb a0.2.2.1.1] 0, VV.tp [vi a0.2.2.1.2] 0], VV.fn 54 [VV.tp [VV.tr (flatMap Qb a0.2.2.2.1.1) a0.2.2.2.1.1.length] 0, VV.tp [VV.fn 39 [VV.tp [vi a0.2.2.2.1.2.1, vi a0.2.2.2.1.2.2.1, VV.tr (flatMap Qb a0.2.2.2.1.2.2.2.1) a0.2.2.2.1.2.2.2.1.length, VV.tr (flatMap Qg a0.2.2.2.1.2.2.2.2) a0.2.2.2.1.2.2.2.2.length] 0]] 0], VV.fn 53 [VV.tp [vb a0.2.2.2.2.1.1] 0, VV.tp [vi a0.2.2.2.2.1.2] 0], VV.fn 55 [VV.tp [VV.tr (flatMap Qg a0.2.2.2.2.2.1.1) a0.2.2.2.2.2.1.1.length] 0, VV.tp [VV.fn 42 [VV.tp [vi a0.2.2.2.2.2.1.2.1, vi a0.2.2.2.2.2.1.2.2.1, VV.tr (flatMap Qb a0.2.2.2.2.2.1.2.2.2.1) a0.2.2.2.2.2.1.2.2.2.1.length, VV.tr (flatMap Qg a0.2.2.2.2.2.1.2.2.2.2) a0.2.2.2.2.2.1.2.2.2.2.length] 0]] 0], VV.fn 44 [VV.tp [vi a0.2.2.2.2.2.2.1, vi a0.2.2.2.2.2.2.2.1, VV.tr (flatMap Qb a0.2.2.2.2.2.2.2.2.1) a0.2.2.2.2.2.2.2.2.1.length, VV.tr (flatMap Qg a0.2.2.2.2.2.2.2.2.2) a0.2.2.2.2.2.2.2.2.2.length] 0]]) = some (VV.fn 44 [VV.tp [vi a0.2.2.2.2.2.2.1, vi a0.2.2.2.2.2.2.2.1, VV.tr (flatMap Qb a0.2.2.2.2.2.2.2.2.1) a0.2.2.2.2.2.2.2.2.1.length, VV.tr (flatMap Qg a0.2.2.2.2.2.2.2.2.2) a0.2.2.2.2.2.2.2.2.2.length] 0]) from (Ju ag89 rfl))
       obtain ⟨r721, h722, h⟩ := bs h
       have e723 := (Qhq k a0.2.2.2.2.2.2.1 a0.2.2.2.2.2.2.2.1 a0.2.2.2.2.2.2.2.2.1 a0.2.2.2.2.2.2.2.2.2 _ h722)
       rcases ifs h with ⟨h724, h⟩ | ⟨h724, h⟩
       ·injection h with h; subst h
        exact Qw pm pn Try.func35 (r0 := vi 0) (ans := [.reg (.n :: []), .reg (nN 3 []), .unr 9, .reg (.n :: []), .br true, .reg (.n :: .v (VV.fn 53 [VV.tp [vb a0.1.1] 0, VV.tp [vi a0.1.2] 0]) :: .n :: []), .reg (.n :: .call (vi r685) :: .n :: []), .reg (.n :: .n :: []), .br false, .reg (.n :: .n :: []), .reg (.n :: []), .br true, .reg (.n :: .v (VV.fn 53 [VV.tp [vb a0.2.1.1] 0, VV.tp [vi a0.2.1.2] 0]) :: .n :: []), .reg (.n :: .call (vi r691) :: .n :: []), .reg (.n :: .n :: []), .br false, .reg (.n :: .n :: []), .reg (.n :: []), .br true, .reg (.n :: .v (VV.fn 53 [VV.tp [vb a0.2.2.1.1] 0, VV.tp [vi a0.2.2.1.2] 0]) :: .n :: []), .reg (.n :: .call (vi r697) :: .n :: []), .reg (.n :: .n :: []), .br false, .reg (.n :: .n :: []), .reg (.n :: []), .br true, .reg (Qls a0), .reg (.n :: .call (vi r703) :: .n :: []), .reg (.n :: .n :: []), .br false, .reg (.n :: .n :: []), .reg (.n :: []), .br true, .reg (Qny a0), .reg (.n :: .call (vi r709) :: .n :: []), .reg (.n :: .n :: []), .br false, .reg (.n :: .n :: []), .reg (.n :: []), .br true, .reg (Qqd a0), .reg (.n :: .call (vi r715) :: .n :: []), .reg (.n :: .n :: []), .br false, .reg (.n :: .n :: []), .reg (.n :: []), .br true, .reg (Qun a0), .reg (.n :: .call (vi r721) :: .n :: []), .reg (.n :: .n :: []), .br false, .reg (.n :: .n :: []), .reg (.n :: []), .br false, .reg (.n :: [])]) (fr := true) (by kernel_rfl) (an (an (ti tt) (an (an (ti (ti (ti tt))) (an (an (ti tt) (an (an (show (decide ((0 : Int) < 7)) = true from (dt (by decide))) tt) (an (an (an e683 (an e684 (ti tt))) (an (ti (an e687 (ti tt))) (an (ti (ti tt)) (an (Qm (dt h688)) tt)))) (ti (ti tt))))) (an (an (ti tt) (an (an (show (decide ((1 : Int) < 7)) = true from (dt (by decide))) tt) (an (an (an e689 (an e690 (ti tt))) (an (ti (an e693 (ti tt))) (an (ti (ti tt)) (an (Qm (dt h694)) tt)))) (ti (ti tt))))) (an (an (ti tt) (an (an (show (decide ((2 : Int) < 7)) = true from (dt (by decide))) tt) (an (an (an e695 (an e696 (ti tt))) (an (ti (an e699 (ti tt))) (an (ti (ti tt)) (an (Qm (dt h700)) tt)))) (ti (ti tt))))) (an (an (ti tt) (an (an (show (decide ((3 : Int) < 7)) = true from (dt (by decide))) tt) (an (an (an e701 (an e702 (ti tt))) (an (ti (an e705 (ti tt))) (an (ti (ti tt)) (an (Qm (dt h706)) tt)))) (ti (ti tt))))) (an (an (ti tt) (an (an (show (decide ((4 : Int) < 7)) = true from (dt (by decide))) tt) (an (an (an e707 (an e708 (ti tt))) (an (ti (an e711 (ti tt))) (an (ti (ti tt)) (an (Qm (dt h712)) tt)))) (ti (ti tt))))) (an (an (ti tt) (an (an (show (decide ((5 : Int) < 7)) = true from (dt (by decide))) tt) (an (an (an e713 (an e714 (ti tt))) (an (ti (an e717 (ti tt))) (an (ti (ti tt)) (an (Qm (dt h718)) tt)))) (ti (ti tt))))) (an (an (ti tt) (an (an (show (decide ((6 : Int) < 7)) = true from (dt (by decide))) tt) (an (an (an e719 (an e720 (ti tt))) (an (ti (an e723 (ti tt))) (an (ti (ti tt)) (an (Qm (dt h724)) tt)))) (ti (ti tt))))) (an (ti tt) (an (show (decide ((7 : Int) < 7)) = false from (df (by decide))) tt)))))))))) (an (ti tt) tt))) (ti tt)) (Wv.refl _)
       ·injection h with h; subst h
        exact Qw pm pn Try.func35 (r0 := vi r721) (ans := [.reg (.n :: []), .reg (nN 3 []), .unr 8, .reg (.n :: []), .br true, .reg (.n :: .v (VV.fn 53 [VV.tp [vb a0.1.1] 0, VV.tp [vi a0.1.2] 0]) :: .n :: []), .reg (.n :: .call (vi r685) :: .n :: []), .reg (.n :: .n :: []), .br false, .reg (.n :: .n :: []), .reg (.n :: []), .br true, .reg (.n :: .v (VV.fn 53 [VV.tp [vb a0.2.1.1] 0, VV.tp [vi a0.2.1.2] 0]) :: .n :: []), .reg (.n :: .call (vi r691) :: .n :: []), .reg (.n :: .n :: []), .br false, .reg (.n :: .n :: []), .reg (.n :: []), .br true, .reg (.n :: .v (VV.fn 53 [VV.tp [vb a0.2.2.1.1] 0, VV.tp [vi a0.2.2.1.2] 0]) :: .n :: []), .reg (.n :: .call (vi r697) :: .n :: []), .reg (.n :: .n :: []), .br false, .reg (.n :: .n :: []), .reg (.n :: []), .br true, .reg (Qls a0), .reg (.n :: .call (vi r703) :: .n :: []), .reg (.n :: .n :: []), .br false, .reg (.n :: .n :: []), .reg (.n :: []), .br true, .reg (Qny a0), .reg (.n :: .call (vi r709) :: .n :: []), .reg (.n :: .n :: []), .br false, .reg (.n :: .n :: []), .reg (.n :: []), .br true, .reg (Qqd a0), .reg (.n :: .call (vi r715) :: .n :: []), .reg (.n :: .n :: []), .br false, .reg (.n :: .n :: []), .reg (.n :: []), .br true, .reg (Qun a0), .reg (.n :: .call (vi r721) :: .n :: []), .reg (.n :: .n :: []), .br true, .reg (.n :: .n :: [])]) (fr := true) (by kernel_rfl) (an (an (ti tt) (an (ti (ti (ti tt))) (an (an (ti tt) (an (an (show (decide ((0 : Int) < 7)) = true from (dt (by decide))) tt) (an (an (an e683 (an e684 (ti tt))) (an (ti (an e687 (ti tt))) (an (ti (ti tt)) (an (Qm (dt h688)) tt)))) (ti (ti tt))))) (an (an (ti tt) (an (an (show (decide ((1 : Int) < 7)) = true from (dt (by decide))) tt) (an (an (an e689 (an e690 (ti tt))) (an (ti (an e693 (ti tt))) (an (ti (ti tt)) (an (Qm (dt h694)) tt)))) (ti (ti tt))))) (an (an (ti tt) (an (an (show (decide ((2 : Int) < 7)) = true from (dt (by decide))) tt) (an (an (an e695 (an e696 (ti tt))) (an (ti (an e699 (ti tt))) (an (ti (ti tt)) (an (Qm (dt h700)) tt)))) (ti (ti tt))))) (an (an (ti tt) (an (an (show (decide ((3 : Int) < 7)) = true from (dt (by decide))) tt) (an (an (an e701 (an e702 (ti tt))) (an (ti (an e705 (ti tt))) (an (ti (ti tt)) (an (Qm (dt h706)) tt)))) (ti (ti tt))))) (an (an (ti tt) (an (an (show (decide ((4 : Int) < 7)) = true from (dt (by decide))) tt) (an (an (an e707 (an e708 (ti tt))) (an (ti (an e711 (ti tt))) (an (ti (ti tt)) (an (Qm (dt h712)) tt)))) (ti (ti tt))))) (an (an (ti tt) (an (an (show (decide ((5 : Int) < 7)) = true from (dt (by decide))) tt) (an (an (an e713 (an e714 (ti tt))) (an (ti (an e717 (ti tt))) (an (ti (ti tt)) (an (Qm (dt h718)) tt)))) (ti (ti tt))))) (an (ti tt) (an (an (show (decide ((6 : Int) < 7)) = true from (dt (by decide))) tt) (an (an e719 (an e720 (ti tt))) (an (ti (an e723 (ti tt))) (an (ti (ti tt)) (an (Za (df h724)) (an (ti (ti tt)) tt))))))))))))))) (ti tt)) (Wv.refl _)
      ·injection h with h; subst h
       exact Qw pm pn Try.func35 (r0 := vi r715) (ans := [.reg (.n :: []), .reg (nN 3 []), .unr 7, .reg (.n :: []), .br true, .reg (.n :: .v (VV.fn 53 [VV.tp [vb a0.1.1] 0, VV.tp [vi a0.1.2] 0]) :: .n :: []), .reg (.n :: .call (vi r685) :: .n :: []), .reg (.n :: .n :: []), .br false, .reg (.n :: .n :: []), .reg (.n :: []), .br true, .reg (.n :: .v (VV.fn 53 [VV.tp [vb a0.2.1.1] 0, VV.tp [vi a0.2.1.2] 0]) :: .n :: []), .reg (.n :: .call (vi r691) :: .n :: []), .reg (.n :: .n :: []), .br false, .reg (.n :: .n :: []), .reg (.n :: []), .br true, .reg (.n :: .v (VV.fn 53 [VV.tp [vb a0.2.2.1.1] 0, VV.tp [vi a0.2.2.1.2] 0]) :: .n :: []), .reg (.n :: .call (vi r697) :: .n :: []), .reg (.n :: .n :: []), .br false, .reg (.n :: .n :: []), .reg (.n :: []), .br true, .reg (Qls a0), .reg (.n :: .call (vi r703) :: .n :: []), .reg (.n :: .n :: []), .br false, .reg (.n :: .n :: []), .reg (.n :: []), .br true, .reg (Qny a0), .reg (.n :: .call (vi r709) :: .n :: []), .reg (.n :: .n :: []), .br false, .reg (.n :: .n :: []), .reg (.n :: []), .br true, .reg (Qqd a0), .reg (.n :: .call (vi r715) :: .n :: []), .reg (.n :: .n :: []), .br true, .reg (.n :: .n :: [])]) (fr := true) (by kernel_rfl) (an (an (ti tt) (an (ti (ti (ti tt))) (an (an (ti tt) (an (an (show (decide ((0 : Int) < 7)) = true from (dt (by decide))) tt) (an (an (an e683 (an e684 (ti tt))) (an (ti (an e687 (ti tt))) (an (ti (ti tt)) (an (Qm (dt h688)) tt)))) (ti (ti tt))))) (an (an (ti tt) (an (an (show (decide ((1 : Int) < 7)) = true from (dt (by decide))) tt) (an (an (an e689 (an e690 (ti tt))) (an (ti (an e693 (ti tt))) (an (ti (ti tt)) (an (Qm (dt h694)) tt)))) (ti (ti tt))))) (an (an (ti tt) (an (an (show (decide ((2 : Int) < 7)) = true from (dt (by decide))) tt) (an (an (an e695 (an e696 (ti tt))) (an (ti (an e699 (ti tt))) (an (ti (ti tt)) (an (Qm (dt h700)) tt)))) (ti (ti tt))))) (an (an (ti tt) (an (an (show (decide ((3 : Int) < 7)) = true from (dt (by decide))) tt) (an (an (an e701 (an e702 (ti tt))) (an (ti (an e705 (ti tt))) (an (ti (ti tt)) (an (Qm (dt h706)) tt)))) (ti (ti tt))))) (an (an (ti tt) (an (an (show (decide ((4 : Int) < 7)) = true from (dt (by decide))) tt) (an (an (an e707 (an e708 (ti tt))) (an (ti (an e711 (ti tt))) (an (ti (ti tt)) (an (Qm (dt h712)) tt)))) (ti (ti tt))))) (an (ti tt) (an (an (show (decide ((5 : Int) < 7)) = true from (dt (by decide))) tt) (an (an e713 (an e714 (ti tt))) (an (ti (an e717 (ti tt))) (an (ti (ti tt)) (an (Za (df h718)) (an (ti (ti tt)) tt)))))))))))))) (ti tt)) (Wv.refl _)
     ·injection h with h; subst h
      exact Qw pm pn Try.func35 (r0 := vi r709) (ans := [.reg (.n :: []), .reg (nN 3 []), .unr 6, .reg (.n :: []), .br true, .reg (.n :: .v (VV.fn 53 [VV.tp [vb a0.1.1] 0, VV.tp [vi a0.1.2] 0]) :: .n :: []), .reg (.n :: .call (vi r685) :: .n :: []), .reg (.n :: .n :: []), .br false, .reg (.n :: .n :: []), .reg (.n :: []), .br true, .reg (.n :: .v (VV.fn 53 [VV.tp [vb a0.2.1.1] 0, VV.tp [vi a0.2.1.2] 0]) :: .n :: []), .reg (.n :: .call (vi r691) :: .n :: []), .reg (.n :: .n :: []), .br false, .reg (.n :: .n :: []), .reg (.n :: []), .br true, .reg (.n :: .v (VV.fn 53 [VV.tp [vb a0.2.2.1.1] 0, VV.tp [vi a0.2.2.1.2] 0]) :: .n :: []), .reg (.n :: .call (vi r697) :: .n :: []), .reg (.n :: .n :: []), .br false, .reg (.n :: .n :: []), .reg (.n :: []), .br true, .reg (Qls a0), .reg (.n :: .call (vi r703) :: .n :: []), .reg (.n :: .n :: []), .br false, .reg (.n :: .n :: []), .reg (.n :: []), .br true, .reg (Qny a0), .reg (.n :: .call (vi r709) :: .n :: []), .reg (.n :: .n :: []), .br true, .reg (.n :: .n :: [])]) (fr := true) (by kernel_rfl) (an (an (ti tt) (an (ti (ti (ti tt))) (an (an (ti tt) (an (an (show (decide ((0 : Int) < 7)) = true from (dt (by decide))) tt) (an (an (an e683 (an e684 (ti tt))) (an (ti (an e687 (ti tt))) (an (ti (ti tt)) (an (Qm (dt h688)) tt)))) (ti (ti tt))))) (an (an (ti tt) (an (an (show (decide ((1 : Int) < 7)) = true from (dt (by decide))) tt) (an (an (an e689 (an e690 (ti tt))) (an (ti (an e693 (ti tt))) (an (ti (ti tt)) (an (Qm (dt h694)) tt)))) (ti (ti tt))))) (an (an (ti tt) (an (an (show (decide ((2 : Int) < 7)) = true from (dt (by decide))) tt) (an (an (an e695 (an e696 (ti tt))) (an (ti (an e699 (ti tt))) (an (ti (ti tt)) (an (Qm (dt h700)) tt)))) (ti (ti tt))))) (an (an (ti tt) (an (an (show (decide ((3 : Int) < 7)) = true from (dt (by decide))) tt) (an (an (an e701 (an e702 (ti tt))) (an (ti (an e705 (ti tt))) (an (ti (ti tt)) (an (Qm (dt h706)) tt)))) (ti (ti tt))))) (an (ti tt) (an (an (show (decide ((4 : Int) < 7)) = true from (dt (by decide))) tt) (an (an e707 (an e708 (ti tt))) (an (ti (an e711 (ti tt))) (an (ti (ti tt)) (an (Za (df h712)) (an (ti (ti tt)) tt))))))))))))) (ti tt)) (Wv.refl _)
    ·injection h with h; subst h
     exact Qw pm pn Try.func35 (r0 := vi r703) (ans := [.reg (.n :: []), .reg (nN 3 []), .unr 5, .reg (.n :: []), .br true, .reg (.n :: .v (VV.fn 53 [VV.tp [vb a0.1.1] 0, VV.tp [vi a0.1.2] 0]) :: .n :: []), .reg (.n :: .call (vi r685) :: .n :: []), .reg (.n :: .n :: []), .br false, .reg (.n :: .n :: []), .reg (.n :: []), .br true, .reg (.n :: .v (VV.fn 53 [VV.tp [vb a0.2.1.1] 0, VV.tp [vi a0.2.1.2] 0]) :: .n :: []), .reg (.n :: .call (vi r691) :: .n :: []), .reg (.n :: .n :: []), .br false, .reg (.n :: .n :: []), .reg (.n :: []), .br true, .reg (.n :: .v (VV.fn 53 [VV.tp [vb a0.2.2.1.1] 0, VV.tp [vi a0.2.2.1.2] 0]) :: .n :: []), .reg (.n :: .call (vi r697) :: .n :: []), .reg (.n :: .n :: []), .br false, .reg (.n :: .n :: []), .reg (.n :: []), .br true, .reg (Qls a0), .reg (.n :: .call (vi r703) :: .n :: []), .reg (.n :: .n :: []), .br true, .reg (.n :: .n :: [])]) (fr := true) (by kernel_rfl) (an (an (ti tt) (an (ti (ti (ti tt))) (an (an (ti tt) (an (an (show (decide ((0 : Int) < 7)) = true from (dt (by decide))) tt) (an (an (an e683 (an e684 (ti tt))) (an (ti (an e687 (ti tt))) (an (ti (ti tt)) (an (Qm (dt h688)) tt)))) (ti (ti tt))))) (an (an (ti tt) (an (an (show (decide ((1 : Int) < 7)) = true from (dt (by decide))) tt) (an (an (an e689 (an e690 (ti tt))) (an (ti (an e693 (ti tt))) (an (ti (ti tt)) (an (Qm (dt h694)) tt)))) (ti (ti tt))))) (an (an (ti tt) (an (an (show (decide ((2 : Int) < 7)) = true from (dt (by decide))) tt) (an (an (an e695 (an e696 (ti tt))) (an (ti (an e699 (ti tt))) (an (ti (ti tt)) (an (Qm (dt h700)) tt)))) (ti (ti tt))))) (an (ti tt) (an (an (show (decide ((3 : Int) < 7)) = true from (dt (by decide))) tt) (an (an e701 (an e702 (ti tt))) (an (ti (an e705 (ti tt))) (an (ti (ti tt)) (an (Za (df h706)) (an (ti (ti tt)) tt)))))))))))) (ti tt)) (Wv.refl _)
   ·injection h with h; subst h
    exact Qw pm pn Try.func35 (r0 := vi r697) (ans := [.reg (.n :: []), .reg (nN 3 []), .unr 4, .reg (.n :: []), .br true, .reg (.n :: .v (VV.fn 53 [VV.tp [vb a0.1.1] 0, VV.tp [vi a0.1.2] 0]) :: .n :: []), .reg (.n :: .call (vi r685) :: .n :: []), .reg (.n :: .n :: []), .br false, .reg (.n :: .n :: []), .reg (.n :: []), .br true, .reg (.n :: .v (VV.fn 53 [VV.tp [vb a0.2.1.1] 0, VV.tp [vi a0.2.1.2] 0]) :: .n :: []), .reg (.n :: .call (vi r691) :: .n :: []), .reg (.n :: .n :: []), .br false, .reg (.n :: .n :: []), .reg (.n :: []), .br true, .reg (.n :: .v (VV.fn 53 [VV.tp [vb a0.2.2.1.1] 0, VV.tp [vi a0.2.2.1.2] 0]) :: .n :: []), .reg (.n :: .call (vi r697) :: .n :: []), .reg (.n :: .n :: []), .br true, .reg (.n :: .n :: [])]) (fr := true) (by kernel_rfl) (an (an (ti tt) (an (ti (ti (ti tt))) (an (an (ti tt) (an (an (show (decide ((0 : Int) < 7)) = true from (dt (by decide))) tt) (an (an (an e683 (an e684 (ti tt))) (an (ti (an e687 (ti tt))) (an (ti (ti tt)) (an (Qm (dt h688)) tt)))) (ti (ti tt))))) (an (an (ti tt) (an (an (show (decide ((1 : Int) < 7)) = true from (dt (by decide))) tt) (an (an (an e689 (an e690 (ti tt))) (an (ti (an e693 (ti tt))) (an (ti (ti tt)) (an (Qm (dt h694)) tt)))) (ti (ti tt))))) (an (ti tt) (an (an (show (decide ((2 : Int) < 7)) = true from (dt (by decide))) tt) (an (an e695 (an e696 (ti tt))) (an (ti (an e699 (ti tt))) (an (ti (ti tt)) (an (Za (df h700)) (an (ti (ti tt)) tt))))))))))) (ti tt)) (Wv.refl _)
  ·injection h with h; subst h
   exact Qw pm pn Try.func35 (r0 := vi r691) (ans := [.reg (.n :: []), .reg (nN 3 []), .unr 3, .reg (.n :: []), .br true, .reg (.n :: .v (VV.fn 53 [VV.tp [vb a0.1.1] 0, VV.tp [vi a0.1.2] 0]) :: .n :: []), .reg (.n :: .call (vi r685) :: .n :: []), .reg (.n :: .n :: []), .br false, .reg (.n :: .n :: []), .reg (.n :: []), .br true, .reg (.n :: .v (VV.fn 53 [VV.tp [vb a0.2.1.1] 0, VV.tp [vi a0.2.1.2] 0]) :: .n :: []), .reg (.n :: .call (vi r691) :: .n :: []), .reg (.n :: .n :: []), .br true, .reg (.n :: .n :: [])]) (fr := true) (by kernel_rfl) (an (an (ti tt) (an (ti (ti (ti tt))) (an (an (ti tt) (an (an (show (decide ((0 : Int) < 7)) = true from (dt (by decide))) tt) (an (an (an e683 (an e684 (ti tt))) (an (ti (an e687 (ti tt))) (an (ti (ti tt)) (an (Qm (dt h688)) tt)))) (ti (ti tt))))) (an (ti tt) (an (an (show (decide ((1 : Int) < 7)) = true from (dt (by decide))) tt) (an (an e689 (an e690 (ti tt))) (an (ti (an e693 (ti tt))) (an (ti (ti tt)) (an (Za (df h694)) (an (ti (ti tt)) tt)))))))))) (ti tt)) (Wv.refl _)
 ·injection h with h; subst h
  exact Qw pm pn Try.func35 (r0 := vi r685) (ans := [.reg (.n :: []), .reg (nN 3 []), .unr 2, .reg (.n :: []), .br true, .reg (.n :: .v (VV.fn 53 [VV.tp [vb a0.1.1] 0, VV.tp [vi a0.1.2] 0]) :: .n :: []), .reg (.n :: .call (vi r685) :: .n :: []), .reg (.n :: .n :: []), .br true, .reg (.n :: .n :: [])]) (fr := true) (by kernel_rfl) (an (an (ti tt) (an (ti (ti (ti tt))) (an (ti tt) (an (an (show (decide ((0 : Int) < 7)) = true from (dt (by decide))) tt) (an (an e683 (an e684 (ti tt))) (an (ti (an e687 (ti tt))) (an (ti (ti tt)) (an (Za (df h688)) (an (ti (ti tt)) tt))))))))) (ti tt)) (Wv.refl _)
theorem Q00 (z0 : (Bool × Int)) (z1 : (Bool × Int)) (z2 : (Bool × Int)) (z3 : ((List Qk) × (Int × Int × (List Qk) × (List Qr)))) (z4 : (Bool × Int)) (z5 : ((List Qr) × (Int × Int × (List Qk) × (List Qr)))) (z6 : Zd) : [VV.tr ([VV.fn 53 [VV.tp [vb (((z0, z1, z2, z3, z4, z5, (z6.Density, z6.Thick, z6.Parts, z6.Caps)).1).1)] 0, VV.tp [vi (((z0, z1, z2, z3, z4, z5, (z6.Density, z6.Thick, z6.Parts, z6.Caps)).1).2)] 0], VV.fn 53 [VV.tp [vb (((z0, z1, z2, z3, z4, z5, (z6.Density, z6.Thick, z6.Parts, z6.Caps)).2.1).1)] 0, VV.tp [vi (((z0, z1, z2, z3, z4, z5, (z6.Density, z6.Thick, z6.Parts, z6.Caps)).2.1).2)] 0], VV.fn 53 [VV.tp [vb (((z0, z1, z2, z3, z4, z5, (z6.Density, z6.Thick, z6.Parts, z6.Caps)).2.2.1).1)] 0, VV.tp [vi (((z0, z1, z2, z3, z4, z5, (z6.Density, z6.Thick, z6.Parts, z6.Caps)).2.2.1).2)] 0], VV.fn 54 [VV.tp [VV.tr (flatMap Qb (((z0, z1, z2, z3, z4, z5, (z6.Density, z6.Thick, z6.Parts, z6.Caps)).2.2.2.1).1)) ((((z0, z1, z2, z3, z4, z5, (z6.Density, z6.Thick, z6.Parts, z6.Caps)).2.2.2.1).1).length)] 0, VV.tp [VV.fn 39 [VV.tp [vi ((((z0, z1, z2, z3, z4, z5, (z6.Density, z6.Thick, z6.Parts, z6.Caps)).2.2.2.1).2).1), vi ((((z0, z1, z2, z3, z4, z5, (z6.Density, z6.Thick, z6.Parts, z6.Caps)).2.2.2.1).2).2.1), VV.tr (flatMap Qb ((((z0, z1, z2, z3, z4, z5, (z6.Density, z6.Thick, z6.Parts, z6.Caps)).2.2.2.1).2).2.2.1)) (((((z0, z1, z2, z3, z4, z5, (z6.Density, z6.Thick, z6.Parts, z6.Caps)).2.2.2.1).2).2.2.1).length), VV.tr (flatMap Qg ((((z0, z1, z2, z3, z4, z5, (z6.Density, z6.Thick, z6.Parts, z6.Caps)).2.2.2.1).2).2.2.2)) (((((z0, z1, z2, z3, z4, z5, (z6.Density, z6.Thick, z6.Parts, z6.Caps)).2.2.2.1).2).2.2.2).length)] 0]] 0], VV.fn 53 [VV.tp [vb (((z0, z1, z2, z3, z4, z5, (z6.Density, z6.Thick, z6.Parts, z6.Caps)).2.2.2.2.1).1)] 0, VV.tp [vi (((z0, z1, z2, z3, z4, z5, (z6.Density, z6.Thick, z6.Parts, z6.Caps)).2.2.2.2.1).2)] 0], VV.fn 55 [VV.tp [VV.tr (flatMap Qg (((z0, z1, z2, z3, z4, z5, (z6.Density, z6.Thick, z6.Parts, z6.Caps)).2.2.2.2.2.1).1)) ((((z0, z1, z2, z3, z4, z5, (z6.Density, z6.Thick, z6.Parts, z6.Caps)).2.2.2.2.2.1).1).length)] 0, VV.tp [VV.fn 42 [VV.tp [vi ((((z0, z1, z2, z3, z4, z5, (z6.Density, z6.Thick, z6.Parts, z6.Caps)).2.2.2.2.2.1).2).1), vi ((((z0, z1, z2, z3, z4, z5, (z6.Density, z6.Thick, z6.Parts, z6.Caps)).2.2.2.2.2.1).2).2.1), VV.tr (flatMap Qb ((((z0, z1, z2, z3, z4, z5, (z6.Density, z6.Thick, z6.Parts, z6.Caps)).2.2.2.2.2.1).2).2.2.1)) (((((z0, z1, z2, z3, z4, z5, (z6.Density, z6.Thick, z6.Parts, z6.Caps)).2.2.2.2.2.1).2).2.2.1).length), VV.tr (flatMap Qg ((((z0, z1, z2, z3, z4, z5, (z6.Density, z6.Thick, z6.Parts, z6.Caps)).2.2.2.2.2.1).2).2.2.2)) (((((z0, z1, z2, z3, z4, z5, (z6.Density, z6.Thick, z6.Parts, z6.Caps)).2.2.2.2.2.1).2).2.2.2).length)] 0]] 0], VV.fn 44 [VV.tp [vi (((z0, z1, z2, z3, z4, z5, (z6.Density, z6.Thick, z6.Parts, z6.Caps)).2.2.2.2.2.2).1), vi (((z0, z1, z2, z3, z4, z5, (z6.Density, z6.Thick, z6.Parts, z6.Caps)).2.2.2.2.2.2).2.1), VV.tr (flatMap Qb (((z0, z1, z2, z3, z4, z5, (z6.Density, z6.Thick, z6.Parts, z6.Caps)).2.2.2.2.2.2).2.2.1)) ((((z0, z1, z2, z3, z4, z5, (z6.Density, z6.Thick, z6.Parts, z6.Caps)).2.2.2.2.2.2).2.2.1).length), VV.tr (flatMap Qg (((z0, z1, z2, z3, z4, z5, (z6.Density, z6.Thick, z6.Parts, z6.Caps)).2.2.2.2.2.2).2.2.2)) ((((z0, z1, z2, z3, z4, z5, (z6.Density, z6.Thick, z6.Parts, z6.Caps)).2.2.2.2.2.2).2.2.2).length)] 0]]) 7] = [VV.tr (List.drop 0 (List.map unfr [VV.fn 53 [VV.tp [vb z0.1] 0, VV.tp [vi z0.2] 0], VV.fn 53 [VV.tp [vb z1.1] 0, VV.tp [vi z1.2] 0], VV.fn 53 [VV.tp [vb z2.1] 0, VV.tp [vi z2.2] 0], VV.fn 54 [VV.tp [VV.tr (flatMap Qb z3.1) z3.1.length] 0, VV.tp [VV.fn 39 [VV.tp [vi z3.2.1, vi z3.2.2.1, VV.tr (flatMap Qb z3.2.2.2.1) z3.2.2.2.1.length, VV.tr (flatMap Qg z3.2.2.2.2) z3.2.2.2.2.length] 0]] 0], VV.fn 53 [VV.tp [vb z4.1] 0, VV.tp [vi z4.2] 0], VV.fn 55 [VV.tp [VV.tr (flatMap Qg z5.1) z5.1.length] 0, VV.tp [VV.fn 42 [VV.tp [vi z5.2.1, vi z5.2.2.1, VV.tr (flatMap Qb z5.2.2.2.1) z5.2.2.2.1.length, VV.tr (flatMap Qg z5.2.2.2.2) z5.2.2.2.2.length] 0]] 0], VV.fn 44 [VV.tp [vi z6.Density, vi z6.Thick, VV.tr (flatMap Qb z6.Parts) z6.Parts.length, VV.tr (flatMap Qg z6.Caps) z6.Caps.length] 0]])) 7] := by first | rfl | (simp only [Qa7, Zi, Yd, map_cons, map_nil, un_i, un_b, Qae, length_map, length_cons, length_nil, Zo, Xf]; done) | (simp only [Qa7, Zi, Yd, map_cons, map_nil, un_i, un_b, Qae, length_map, length_cons, length_nil, Zo, Xf]; rfl) | (simp only [Qa7, Zi, Yd, map_cons, map_nil, un_i, un_b, Qae, length_map, length_cons, length_nil, Zo, Xf, Qb, Qg, length_cons, length_nil, length_append]; done)
def Qyp (z0 : Zd) (z1 : (Bool × Int)) (z2 : (Bool × Int)) (z3 : (Bool × Int)) (z4 : ((List Qk) × (Int × Int × (List Qk) × (List Qr)))) (z5 : (Bool × Int)) (z6 : ((List Qr) × (Int × Int × (List Qk) × (List Qr)))) (z7 : Int) : List Ans := (.n :: .v (vi z0.Density) :: .call (VV.fn 53 [VV.tp [vb z1.1] 0, VV.tp [vi z1.2] 0]) :: .n :: .v (vi z0.Thick) :: .call (VV.fn 53 [VV.tp [vb z2.1] 0, VV.tp [vi z2.2] 0]) :: .n :: .v (VV.tr (flatMap Qb z0.Parts) z0.Parts.length) :: .n :: .n :: .call (VV.fn 53 [VV.tp [vb z3.1] 0, VV.tp [vi z3.2] 0]) :: .n :: .v (VV.tr (flatMap Qb z0.Parts) z0.Parts.length) :: .n :: .call (VV.fn 54 [VV.tp [VV.tr (flatMap Qb z4.1) z4.1.length] 0, VV.tp [VV.fn 39 [VV.tp [vi z4.2.1, vi z4.2.2.1, VV.tr (flatMap Qb z4.2.2.2.1) z4.2.2.2.1.length, VV.tr (flatMap Qg z4.2.2.2.2) z4.2.2.2.2.length] 0]] 0]) :: .n :: .v (VV.tr (flatMap Qg z0.Caps) z0.Caps.length) :: .n :: .n :: .call (VV.fn 53 [VV.tp [vb z5.1] 0, VV.tp [vi z5.2] 0]) :: .n :: .v (VV.tr (flatMap Qg z0.Caps) z0.Caps.length) :: .n :: .call (VV.fn 55 [VV.tp [VV.tr (flatMap Qg z6.1) z6.1.length] 0, VV.tp [VV.fn 42 [VV.tp [vi z6.2.1, vi z6.2.2.1, VV.tr (flatMap Qb z6.2.2.2.1) z6.2.2.2.1.length, VV.tr (flatMap Qg z6.2.2.2.2) z6.2.2.2.2.length] 0]] 0]) :: .n :: .n :: .call (vi z7) :: .n :: [])
def Qbk (k : Nat) (a0 : Zd) : Option Int :=
 (Zl k a0.Density 1 10000).bind fun r730 => ((Zl k a0.Thick 1 500).bind fun r734 => ((Qy k (decide ((a0.Parts.length : Int) <= 40)) 8).bind fun r738 => ((X4 k a0.Parts (a0.Density, a0.Thick, a0.Parts, a0.Caps)).bind fun r742 => ((Qy k (decide ((a0.Caps.length : Int) <= 4)) 8).bind fun r746 => ((X8 k a0.Caps (a0.Density, a0.Thick, a0.Parts, a0.Caps)).bind fun r750 => ((Qo k (r730, r734, r738, r742, r746, r750, (a0.Density, a0.Thick, a0.Parts, a0.Caps))).bind fun r753 => (some r753)))))))
theorem Qfh (k : Nat) (a0 : Zd) (r : Int) (h : Qbk k a0 = some r) : VC Try.prog 20 [VV.ag (Yh a0)] (vi r) := by
 unfold Qbk at h
 have e729 := (show Xt Try.prog 3 0 [vi a0.Density, vi a0.Thick, VV.tr (flatMap Qb a0.Parts) a0.Parts.length, VV.tr (flatMap Qg a0.Caps) a0.Caps.length] = some (vi a0.Density) from (Ju ag3 rfl))
 obtain ⟨r730, h731, h⟩ := bs h
 have e732 := (Zm k a0.Density 1 10000 _ h731)
 have e733 := (show Xt Try.prog 3 1 [vi a0.Density, vi a0.Thick, VV.tr (flatMap Qb a0.Parts) a0.Parts.length, VV.tr (flatMap Qg a0.Caps) a0.Caps.length] = some (vi a0.Thick) from (Ju ag3 rfl))
 obtain ⟨r734, h735, h⟩ := bs h
 have e736 := (Zm k a0.Thick 1 500 _ h735)
 have e737 := (show Xt Try.prog 22 2 [vi a0.Density, vi a0.Thick, VV.tr (flatMap Qb a0.Parts) a0.Parts.length, VV.tr (flatMap Qg a0.Caps) a0.Caps.length] = some (VV.tr (flatMap Qb a0.Parts) a0.Parts.length) from (Ju ag22 rfl))
 obtain ⟨r738, h739, h⟩ := bs h
 have e740 := (Qp k (decide ((a0.Parts.length : Int) <= 40)) 8 _ h739)
 have e741 := (show Xt Try.prog 22 2 [vi a0.Density, vi a0.Thick, VV.tr (flatMap Qb a0.Parts) a0.Parts.length, VV.tr (flatMap Qg a0.Caps) a0.Caps.length] = some (VV.tr (flatMap Qb a0.Parts) a0.Parts.length) from (Ju ag22 rfl))
 obtain ⟨r742, h743, h⟩ := bs h
 have e744 := (VC.args (Qbp k a0.Parts (a0.Density, a0.Thick, a0.Parts, a0.Caps) _ h743) (Q0s a0))
 have e745 := (show Xt Try.prog 23 3 [vi a0.Density, vi a0.Thick, VV.tr (flatMap Qb a0.Parts) a0.Parts.length, VV.tr (flatMap Qg a0.Caps) a0.Caps.length] = some (VV.tr (flatMap Qg a0.Caps) a0.Caps.length) from (Ju ag23 rfl))
 obtain ⟨r746, h747, h⟩ := bs h
 have e748 := (Qp k (decide ((a0.Caps.length : Int) <= 4)) 8 _ h747)
 have e749 := (show Xt Try.prog 23 3 [vi a0.Density, vi a0.Thick, VV.tr (flatMap Qb a0.Parts) a0.Parts.length, VV.tr (flatMap Qg a0.Caps) a0.Caps.length] = some (VV.tr (flatMap Qg a0.Caps) a0.Caps.length) from (Ju ag23 rfl))
 obtain ⟨r750, h751, h⟩ := bs h
 have e752 := (VC.args (Qbx k a0.Caps (a0.Density, a0.Thick, a0.Parts, a0.Caps) _ h751) (Q0t a0))
 obtain ⟨r753, h754, h⟩ := bs h
 have e755 := (VC.args (Zy k (r730, r734, r738, r742, r746, r750, (a0.Density, a0.Thick, a0.Parts, a0.Caps)) _ h754) (Q00 r730 r734 r738 r742 r746 r750 a0))
 have e756 := (ti (an e729 (an e732 (ti (an e733 (an e736 (ti (an e737 (ti (ti (an e740 (ti (an e741 (ti (an e744 (ti (an e745 (ti (ti (an e748 (ti (an e749 (ti (an e752 (ti (ti (an e755 (ti tt))))))))))))))))))))))))))))
 injection h with h; subst h
 exact Qw pm pn Try.func20 (r0 := vi r753) (ans := [.reg (.n :: .n :: []), .frz 0, .reg (Qyp a0 r730 r734 r738 r742 r746 r750 r753)]) (fr := true) (by kernel_rfl) (an (an (ti (ti tt)) (an e756 tt)) (ti tt)) (Wv.refl _)
def Qb7 (k : Nat) (a0 : Zd) : Option (Int × Int) :=
 (Qbk k a0).bind fun r764 => (if r764 = 0 then ((Qbt k a0).bind fun r768 => (some (r768, 0))) else (some (0, r764)))
theorem Qe8 (k : Nat) (a0 : Zd) (r : (Int × Int)) (h : Qb7 k a0 = some r) : VC Try.prog 6 [VV.ag (Yh a0)] (VV.tu [vi r.1, vi r.2]) := by
 unfold Qb7 at h
 obtain ⟨r764, h765, h⟩ := bs h
 have e766 := (ti (an (Qfh k a0 _ h765) (ti tt)))
 rcases ifs h with ⟨h767, h⟩ | ⟨h767, h⟩
 ·obtain ⟨r768, h769, h⟩ := bs h
  have e770 := (ti (an (Qei k a0 _ h769) (ti (ti tt))))
  injection h with h; subst h
  exact Qw pm pn Try.func6 (r0 := VV.tu [vi r768, vi 0]) (ans := [.reg (nN 3 []), .reg (.n :: .call (vi r764) :: .n :: []), .reg (.n :: .n :: []), .br false, .reg (.n :: .call (vi r768) :: .n :: .n :: [])]) (fr := true) (by kernel_rfl) (an (an (ti (ti (ti tt))) (an (an e766 (an (ti (ti tt)) (an (Qm (dt h767)) tt))) (an e770 tt))) (ti (ti tt))) (Wv.refl _)
 ·injection h with h; subst h
  exact Qw pm pn Try.func6 (r0 := VV.tu [vi 0, vi r764]) (ans := [.reg (nN 3 []), .reg (.n :: .call (vi r764) :: .n :: []), .reg (.n :: .n :: []), .br true, .reg (nN 3 [])]) (fr := true) (by kernel_rfl) (an (an (ti (ti (ti tt))) (an e766 (an (ti (ti tt)) (an (Za (df h767)) (an (ti (ti (ti tt))) tt))))) (ti (ti tt))) (Wv.refl _)
def Qc9 (k : Nat) (a0 : Qr) : Option Int :=
 (Qb6 k (w64 ((w64 ((w64 ((w64 (2 * a0.Height)) * a0.Height)) * a0.Height)) * (w64 ((w64 (8 * a0.Radius)) - (w64 (3 * a0.Height)))))) a0.Cut).bind fun r812 => ((Qb3 k a0).bind fun r816 => ((Qb6 k r812 (!a0.Up)).bind fun r818 => (some (w64 ((w64 ((w64 (2 * r816)) * a0.At)) + r818)))))
theorem Qiz (k : Nat) (a0 : Qr) (r : Int) (h : Qc9 k a0 = some r) : VC Try.prog 47 [VV.ag (Qg a0)] (vi r) := by
 unfold Qc9 at h
 obtain ⟨r812, h813, h⟩ := bs h
 have e814 := (Qdx k (w64 ((w64 ((w64 ((w64 (2 * a0.Height)) * a0.Height)) * a0.Height)) * (w64 ((w64 (8 * a0.Radius)) - (w64 (3 * a0.Height)))))) a0.Cut _ h813)
 have e815 := (ti (ti (ti (ti (ti (ti (ti (ti (ti (ti (ti (ti (ti (ti (ti (ti (ti (ti (ti (an e814 (ti tt)))))))))))))))))))))
 obtain ⟨r816, h817, h⟩ := bs h
 obtain ⟨r818, h819, h⟩ := bs h
 have e820 := (Qdx k r812 (!a0.Up) _ h819)
 have e821 := (ti (an (Qfw k a0 _ h817) (ti (ti (ti (ti (ti (ti (ti (ti (an e820 (ti (ti tt)))))))))))))
 injection h with h; subst h
 exact Qw pm pn Try.func47 (r0 := vi (w64 ((w64 ((w64 (2 * r816)) * a0.At)) + r818))) (ans := [.reg (.n :: .n :: []), .reg (nN 19 (.call (vi r812) :: .n :: [])), .reg (.n :: .call (vi r816) :: nN 8 (.call (vi r818) :: .n :: .n :: []))]) (fr := true) (by kernel_rfl) (an (an (ti (ti tt)) (an e815 (an e821 tt))) (ti tt)) (Wv.refl _)
def Qde (a0 : Zd) (x11 : Int) (x3 : Int) : VS := ⟨mkA [(1, VV.pt 0 0), (3, vi x3), (9, VV.tr (flatMap Qb a0.Parts) a0.Parts.length), (10, vi (a0.Parts.length : Int)), (11, vi x11)], [some ⟨true, 1, Yh a0⟩], .nil⟩
def Qc3 (a0 : Zd) (r : Int) : VS := ⟨mkA [(1, VV.pt 0 0), (3, vi r)], [some ⟨true, 1, Yh a0⟩], .nil⟩
def J6 (k : Nat) (a0 : Zd) : Nat -> Int -> Int -> Option (Int)
 | 0, _, _ => none
 | fuel + 1, x11, x3 => if x11 < (a0.Parts.length : Int) then (if 0 <= x11 /\ x11 < (a0.Parts.length : Int) then ((Qbj k (a0.Parts.getD x11.toNat default)).bind fun r857 => (J6 k a0 fuel (w64 (x11 + 1)) (w64 (x3 + (w64 (r857 * (w64 (((a0.Parts.getD x11.toNat default).From) + ((a0.Parts.getD x11.toNat default).To))))))))) else none) else (some x3)
theorem Qhf (k : Nat) (a0 : Zd) : ∀ (fuel : Nat) (x11 : Int) (x3 : Int) (r : Int), J6 k a0 fuel x11 x3 = some r -> (Yw none Try.prog (szF Try.f23) (Ya Try.f23 0) (Qde a0 x11 x3) (.exit 0) (Qc3 a0 r)) := by
 intro fuel
 induction fuel with
 | zero => intro x11 x3 r h; rw [J6.eq_1] at h; cases h
 | succ fuel ih =>
  intro x11 x3 r h
  rw [J6.eq_2] at h
  rcases ifs h with ⟨h854, h⟩ | ⟨h854, h⟩
  ·obtain ⟨h855, h⟩ := ifn h
   have e856 := (show Xt Try.prog 38 (x11.toNat * 6) (flatMap Qb a0.Parts) = some (VV.ag (Qb (a0.Parts.getD x11.toNat default))) from Yo ag38 Qb 6 sz38 Qa3 a0.Parts default h855 (by omega))
   obtain ⟨r857, h858, h⟩ := bs h
   have e859 := (Qfg k (a0.Parts.getD x11.toNat default) _ h858)
   have e860 := (ti (ti (an e859 (ti (ti (ti (ti (ti (ti (ti (ti tt)))))))))))
   have h2 := ih _ _ _ h
   obtain ⟨q, hv, hq⟩ := pkR (rd := none) (P := Try.prog) (fn := Try.f23) (k := 0) (s := (Qde a0 x11 x3)) (ans := [.reg (.n :: []), .br true, .reg (.n :: .v (VV.ag (Qb (a0.Parts.getD x11.toNat default))) :: .n :: .n :: []), .reg (.n :: .n :: .call (vi r857) :: nN 8 []), .reg (.n :: .n :: [])]) (c := ⟨[(1, none), (3, none), (9, none), (10, none), (11, none)], [none], []⟩) (e := .normal) (s1 := (Qde a0 (w64 (x11 + 1)) (w64 (x3 + (w64 (r857 * (w64 (((a0.Parts.getD x11.toNat default).From) + ((a0.Parts.getD x11.toNat default).To))))))))) (an (an (ti tt) (an (an (dt h854) tt) (an (an (an h855 (an e856 (ti (ti tt)))) e860) (ti (ti tt))))) (ti tt)) (by kernel_rfl)
   exact Qz pm pn hv hq h2
  ·injection h with h; subst h
   exact Q5 (c := ⟨[(1, none), (3, none)], [none], []⟩) (s1 := (Qc3 a0 x3)) pm pn (ans := [.reg (.n :: []), .br false]) (by kernel_rfl) (by intro e; cases e) (an (an (ti tt) (an (df h854) tt)) (ti tt))
def Qdf (a0 : Zd) (x29 : Int) (x3 : Int) : VS := ⟨mkA [(3, vi x3), (27, VV.tr (flatMap Qg a0.Caps) a0.Caps.length), (28, vi (a0.Caps.length : Int)), (29, vi x29)], [], .nil⟩
def Qc4 (a0 : Zd) (r : Int) : VS := ⟨mkA [(3, vi r)], [], .nil⟩
def J7 (k : Nat) (a0 : Zd) : Nat -> Int -> Int -> Option (Int)
 | 0, _, _ => none
 | fuel + 1, x29, x3 => if x29 < (a0.Caps.length : Int) then (if 0 <= x29 /\ x29 < (a0.Caps.length : Int) then ((Qc9 k (a0.Caps.getD x29.toNat default)).bind fun r879 => (J7 k a0 fuel (w64 (x29 + 1)) (w64 (x3 + r879)))) else none) else (some x3)
theorem Qhg (k : Nat) (a0 : Zd) : ∀ (fuel : Nat) (x29 : Int) (x3 : Int) (r : Int), J7 k a0 fuel x29 x3 = some r -> (Yw none Try.prog (szF Try.f23) (Ya Try.f23 1) (Qdf a0 x29 x3) (.exit 2) (Qc4 a0 r)) := by
 intro fuel
 induction fuel with
 | zero => intro x29 x3 r h; rw [J7.eq_1] at h; cases h
 | succ fuel ih =>
  intro x29 x3 r h
  rw [J7.eq_2] at h
  rcases ifs h with ⟨h876, h⟩ | ⟨h876, h⟩
  ·obtain ⟨h877, h⟩ := ifn h
   have e878 := (show Xt Try.prog 65 (x29.toNat * 5) (flatMap Qg a0.Caps) = some (VV.ag (Qg (a0.Caps.getD x29.toNat default))) from Yo ag65 Qg 5 sz65 Qcn a0.Caps default h877 (by omega))
   obtain ⟨r879, h880, h⟩ := bs h
   have e881 := (Qiz k (a0.Caps.getD x29.toNat default) _ h880)
   have h2 := ih _ _ _ h
   obtain ⟨q, hv, hq⟩ := pkR (rd := none) (P := Try.prog) (fn := Try.f23) (k := 1) (s := (Qdf a0 x29 x3)) (ans := [.reg (.n :: []), .br true, .reg (.n :: .v (VV.ag (Qg (a0.Caps.getD x29.toNat default))) :: .n :: .n :: []), .reg (.n :: .n :: .call (vi r879) :: .n :: .n :: []), .reg (.n :: .n :: [])]) (c := ⟨[(3, none), (27, none), (28, none), (29, none)], [], []⟩) (e := .normal) (s1 := (Qdf a0 (w64 (x29 + 1)) (w64 (x3 + r879)))) (an (an (ti tt) (an (an (dt h876) tt) (an (an (an h877 (an e878 (ti (ti tt)))) (ti (ti (an e881 (ti (ti tt)))))) (ti (ti tt))))) (ti tt)) (by kernel_rfl)
   exact Qz pm pn hv hq h2
  ·injection h with h; subst h
   exact Q5 (c := ⟨[(3, none)], [], []⟩) (s1 := (Qc4 a0 x3)) pm pn (ans := [.reg (.n :: []), .br false]) (by kernel_rfl) (by intro e; cases e) (an (an (ti tt) (an (df h876) tt)) (ti tt))
def Qdo (k : Nat) (a0 : Zd) : Option Int :=
 (J6 k a0 k 0 0).bind fun r862 => ((J7 k a0 k 0 r862).bind fun r883 => (some r883))
theorem Qjm (k : Nat) (a0 : Zd) (r : Int) (h : Qdo k a0 = some r) : VC Try.prog 23 [VV.ag (Yh a0)] (vi r) := by
 unfold Qdo at h
 obtain ⟨r862, h861, h⟩ := bs h
 have hph861 := Qhf k a0 _ _ _ _ h861
 have e863 := (an (ti tt) (VRun.loop hph861))
 obtain ⟨r883, h882, h⟩ := bs h
 have hph882 := Qhg k a0 _ _ _ _ h882
 have e884 := (an (ti tt) (VRun.loop hph882))
 injection h with h; subst h
 exact Qw pm pn Try.func23 (r0 := vi r883) (ans := [.reg (.n :: .n :: []), .reg (.n :: []), .reg (nN 4 []), .sub ⟨[(1, none), (3, none), (9, none), (10, none), (11, none)], [none], []⟩ (.exit 0) (Qc3 a0 r862), .reg (nN 4 []), .sub ⟨[(3, none), (27, none), (28, none), (29, none)], [], []⟩ (.exit 2) (Qc4 a0 r883), .reg (.n :: .n :: [])]) (fr := true) (by kernel_rfl) (an (an (ti (ti tt)) (an (ti tt) (an (an (ti (ti (ti (ti tt)))) e863) (an (an (ti (ti (ti (ti tt)))) e884) (an (ti (ti tt)) tt))))) (ti tt)) (Wv.refl _)
theorem Q01 (z0 : Int) (z1 : Int) : VV.ag [vi (w64 ((w64 (z0.tdiv z1)) - 1)), vi (w64 ((w64 (z0.tdiv z1)) + 1))] = VV.ag (Xx (⟨w64 ((w64 (z0.tdiv z1)) - 1), w64 ((w64 (z0.tdiv z1)) + 1)⟩ : Qct)) := by first | rfl | (simp only [Zi, map_cons, map_nil, un_i, Xr]; done) | (simp only [Zi, map_cons, map_nil, un_i, Xr]; rfl) | (simp only [Zi, map_cons, map_nil, un_i, Xr, Xx, length_cons, length_nil, length_append]; done)
theorem Q02 (z0 : Int) (z1 : Int) : VV.ag [vi (w64 ((w64 (z0.tdiv z1)) - 1)), vi (w64 (z0.tdiv z1))] = VV.ag (Xx (⟨w64 ((w64 (z0.tdiv z1)) - 1), w64 (z0.tdiv z1)⟩ : Qct)) := by first | rfl | (simp only [Zi, map_cons, map_nil, un_i, Xr]; done) | (simp only [Zi, map_cons, map_nil, un_i, Xr]; rfl) | (simp only [Zi, map_cons, map_nil, un_i, Xr, Xx, length_cons, length_nil, length_append]; done)
theorem Q03 (z0 : Int) (z1 : Int) : VV.ag [vi (w64 (z0.tdiv z1)), vi (w64 ((w64 (z0.tdiv z1)) + 1))] = VV.ag (Xx (⟨w64 (z0.tdiv z1), w64 ((w64 (z0.tdiv z1)) + 1)⟩ : Qct)) := by first | rfl | (simp only [Zi, map_cons, map_nil, un_i, Xr]; done) | (simp only [Zi, map_cons, map_nil, un_i, Xr]; rfl) | (simp only [Zi, map_cons, map_nil, un_i, Xr, Xx, length_cons, length_nil, length_append]; done)
theorem Q04 (z0 : Int) (z1 : Int) : VV.ag [vi (w64 (z0.tdiv z1)), vi (w64 (z0.tdiv z1))] = VV.ag (Xx (⟨w64 (z0.tdiv z1), w64 (z0.tdiv z1)⟩ : Qct)) := by first | rfl | (simp only [Zi, map_cons, map_nil, un_i, Xr]; done) | (simp only [Zi, map_cons, map_nil, un_i, Xr]; rfl) | (simp only [Zi, map_cons, map_nil, un_i, Xr, Xx, length_cons, length_nil, length_append]; done)
def Qda (k : Nat) (a0 : Int) (a1 : Int) : Option Qct :=
 if a1 ≠ 0 then (if (a0.tmod a1) < 0 then (if 0 < (a0.tmod a1) then (some (⟨w64 ((w64 (a0.tdiv a1)) - 1), w64 ((w64 (a0.tdiv a1)) + 1)⟩ : Qct)) else (some (⟨w64 ((w64 (a0.tdiv a1)) - 1), w64 (a0.tdiv a1)⟩ : Qct))) else (if 0 < (a0.tmod a1) then (some (⟨w64 (a0.tdiv a1), w64 ((w64 (a0.tdiv a1)) + 1)⟩ : Qct)) else (some (⟨w64 (a0.tdiv a1), w64 (a0.tdiv a1)⟩ : Qct)))) else none
theorem Qg2 (k : Nat) (a0 : Int) (a1 : Int) (r : Qct) (h : Qda k a0 a1 = some r) : VC Try.prog 22 [vi a0, vi a1] (VV.ag (Xx r)) := by
 unfold Qda at h
 obtain ⟨h894, h⟩ := ifn h
 have e895 := (ti (ti (an h894 (ti (ti (an h894 (ti (ti (ti tt)))))))))
 rcases ifs h with ⟨h896, h⟩ | ⟨h896, h⟩
 ·rcases ifs h with ⟨h897, h⟩ | ⟨h897, h⟩
  ·injection h with h; subst h
   exact Qw pm pn Try.func22 (r0 := VV.ag [vi (w64 ((w64 (a0.tdiv a1)) - 1)), vi (w64 ((w64 (a0.tdiv a1)) + 1))]) (ans := [.reg (.n :: []), .reg (nN 9 []), .reg (nN 4 []), .br true, .reg (nN 5 []), .reg (nN 4 []), .br true, .reg (nN 5 []), .reg (.n :: .n :: [])]) (fr := true) (by kernel_rfl) (an (an (ti tt) (an e895 (an (an (ti (ti (an h894 (ti tt)))) (an (dt h896) (ti (ti (ti (ti (ti tt))))))) (an (an (ti (ti (an h894 (ti tt)))) (an (dt h897) (ti (ti (ti (ti (ti tt))))))) (an (ti (ti tt)) tt))))) (an (ti (ti (ti tt))) tt)) (Wv.of_eq (Q01 a0 a1))
  ·injection h with h; subst h
   exact Qw pm pn Try.func22 (r0 := VV.ag [vi (w64 ((w64 (a0.tdiv a1)) - 1)), vi (w64 (a0.tdiv a1))]) (ans := [.reg (.n :: []), .reg (nN 9 []), .reg (nN 4 []), .br true, .reg (nN 5 []), .reg (nN 4 []), .br false, .reg (.n :: .n :: [])]) (fr := true) (by kernel_rfl) (an (an (ti tt) (an e895 (an (an (ti (ti (an h894 (ti tt)))) (an (dt h896) (ti (ti (ti (ti (ti tt))))))) (an (an (ti (ti (an h894 (ti tt)))) (an (df h897) tt)) (an (ti (ti tt)) tt))))) (an (ti (ti (ti tt))) tt)) (Wv.of_eq (Q02 a0 a1))
 ·rcases ifs h with ⟨h898, h⟩ | ⟨h898, h⟩
  ·injection h with h; subst h
   exact Qw pm pn Try.func22 (r0 := VV.ag [vi (w64 (a0.tdiv a1)), vi (w64 ((w64 (a0.tdiv a1)) + 1))]) (ans := [.reg (.n :: []), .reg (nN 9 []), .reg (nN 4 []), .br false, .reg (nN 4 []), .br true, .reg (nN 5 []), .reg (.n :: .n :: [])]) (fr := true) (by kernel_rfl) (an (an (ti tt) (an e895 (an (an (ti (ti (an h894 (ti tt)))) (an (df h896) tt)) (an (an (ti (ti (an h894 (ti tt)))) (an (dt h898) (ti (ti (ti (ti (ti tt))))))) (an (ti (ti tt)) tt))))) (an (ti (ti (ti tt))) tt)) (Wv.of_eq (Q03 a0 a1))
  ·injection h with h; subst h
   exact Qw pm pn Try.func22 (r0 := VV.ag [vi (w64 (a0.tdiv a1)), vi (w64 (a0.tdiv a1))]) (ans := [.reg (.n :: []), .reg (nN 9 []), .reg (nN 4 []), .br false, .reg (nN 4 []), .br false, .reg (.n :: .n :: [])]) (fr := true) (by kernel_rfl) (an (an (ti tt) (an e895 (an (an (ti (ti (an h894 (ti tt)))) (an (df h896) tt)) (an (an (ti (ti (an h894 (ti tt)))) (an (df h898) tt)) (an (ti (ti tt)) tt))))) (an (ti (ti (ti tt))) tt)) (Wv.of_eq (Q04 a0 a1))
def Qyq (z0 : Int) (z1 : Int) (z2 : Qct) : List Ans := (.n :: .call (vi z0) :: .n :: .n :: .call (vi z1) :: .n :: .call (VV.ag (Xx z2)) :: .n :: .n :: [])
theorem Qyr (z0 : Int) : VV.tu [VV.ag [vi 0, vi 0], vi z0] = VV.tu [VV.ag (Xx (⟨0, 0⟩ : Qct)), vi z0] := by first | rfl | (simp only [Zi, map_cons, map_nil, un_i, Xr]; done) | (simp only [Zi, map_cons, map_nil, un_i, Xr]; rfl) | (simp only [Zi, map_cons, map_nil, un_i, Xr, Xx, length_cons, length_nil, length_append]; done)
def Qb8 (k : Nat) (a0 : Zd) : Option (Qct × Int) :=
 (Qbk k a0).bind fun r903 => (if r903 = 0 then ((Qdo k a0).bind fun r907 => ((Qbt k a0).bind fun r909 => ((Qda k (w64 (1000 * r907)) (w64 (2 * r909))).bind fun r911 => (some (r911, 0))))) else (some ((⟨0, 0⟩ : Qct), r903)))
theorem Qe9 (k : Nat) (a0 : Zd) (r : (Qct × Int)) (h : Qb8 k a0 = some r) : VC Try.prog 7 [VV.ag (Yh a0)] (VV.tu [VV.ag (Xx r.1), vi r.2]) := by
 unfold Qb8 at h
 obtain ⟨r903, h904, h⟩ := bs h
 have e905 := (ti (an (Qfh k a0 _ h904) (ti tt)))
 rcases ifs h with ⟨h906, h⟩ | ⟨h906, h⟩
 ·obtain ⟨r907, h908, h⟩ := bs h
  obtain ⟨r909, h910, h⟩ := bs h
  obtain ⟨r911, h912, h⟩ := bs h
  have e913 := (Qg2 k (w64 (1000 * r907)) (w64 (2 * r909)) _ h912)
  have e914 := (ti (an (Qjm k a0 _ h908) (ti (ti (an (Qei k a0 _ h910) (ti (an e913 (ti (ti tt)))))))))
  injection h with h; subst h
  exact Qw pm pn Try.func7 (r0 := VV.tu [VV.ag (Xx r911), vi 0]) (ans := [.reg (nN 3 []), .reg (.n :: .call (vi r903) :: .n :: []), .reg (.n :: .n :: []), .br false, .reg (Qyq r907 r909 r911)]) (fr := true) (by kernel_rfl) (an (an (ti (ti (ti tt))) (an (an e905 (an (ti (ti tt)) (an (Qm (dt h906)) tt))) (an e914 tt))) (an (ti (ti (ti tt))) (ti tt))) (Wv.refl _)
 ·injection h with h; subst h
  exact Qw pm pn Try.func7 (r0 := VV.tu [VV.ag [vi 0, vi 0], vi r903]) (ans := [.reg (nN 3 []), .reg (.n :: .call (vi r903) :: .n :: []), .reg (.n :: .n :: []), .br true, .reg (nN 4 [])]) (fr := true) (by kernel_rfl) (an (an (ti (ti (ti tt))) (an e905 (an (ti (ti tt)) (an (Za (df h906)) (an (ti (ti (ti (ti tt)))) tt))))) (an (ti (ti (ti tt))) (ti tt))) (Wv.of_eq (Qyr r903))
def Z8 (k : Nat) (a0 : Int) (a1 : Int) (a2 : Int) : Option Bool :=
 if a1 <= a0 then (some (decide (a0 <= a2))) else (some false)
theorem Xm (k : Nat) (a0 : Int) (a1 : Int) (a2 : Int) (r : Bool) (h : Z8 k a0 a1 a2 = some r) : VC Try.prog 16 [vi a0, vi a1, vi a2] (vb r) := by
 unfold Z8 at h
 rcases ifs h with ⟨h918, h⟩ | ⟨h918, h⟩
 ·have e919 := (ti (ti (ti (ti (an (an (dt h918) tt) (an (an (dt h918) tt) (an (an (dt h918) tt) (an (dt h918) (ti tt)))))))))
  injection h with h; subst h
  exact Qw pm pn Try.func16 (r0 := vb (decide (a0 <= a2))) (ans := [.reg (.n :: []), .reg (nN 7 (.b true :: .n :: []))]) (fr := true) (by kernel_rfl) (an (an (ti tt) (an e919 tt)) (ti tt)) (Wv.refl _)
 ·have e920 := (ti (ti (ti (ti (an (df h918) (an (df h918) (an (df h918) (an (df h918) (ti tt)))))))))
  injection h with h; subst h
  exact Qw pm pn Try.func16 (r0 := vb false) (ans := [.reg (.n :: []), .reg (nN 4 (nS 3 (.b false :: .n :: [])))]) (fr := true) (by kernel_rfl) (an (an (ti tt) (an e920 tt)) (ti tt)) (Wv.refl _)
def Qlt (z0 : Bool) (z1 : Bool) (z2 : Bool) (z3 : Bool) (z4 : Bool) : List Ans := (.n :: .n :: .call (vb z0) :: nN 7 (.call (vb z1) :: .n :: .b false :: nN 4 (.call (vb z2) :: .n :: .b false :: nN 4 (.call (vb z3) :: .n :: .b false :: nN 3 (.call (vb z4) :: .n :: .b false :: [])))))
def Qys (z0 : Bool) (z1 : Bool) (z2 : Bool) (z3 : Bool) : List Ans := (.n :: .n :: .call (vb z0) :: nN 7 (.call (vb z1) :: .n :: .b false :: nN 4 (.call (vb z2) :: .n :: .b false :: nN 4 (.call (vb z3) :: .n :: .b false :: .n :: nS 4 (.b true :: [])))))
def Qyt (z0 : Bool) (z1 : Bool) (z2 : Bool) : List Ans := (.n :: .n :: .call (vb z0) :: nN 7 (.call (vb z1) :: .n :: .b false :: nN 4 (.call (vb z2) :: .n :: .b false :: .n :: nS 5 (.b true :: .n :: nS 4 (.b true :: [])))))
def Qyu (z0 : Bool) (z1 : Bool) : List Ans := (.n :: .n :: .call (vb z0) :: nN 7 (.call (vb z1) :: .n :: .b false :: .n :: nS 5 (.b true :: .n :: nS 5 (.b true :: .n :: nS 4 (.b true :: [])))))
def Qyv (z0 : Bool) : List Ans := (.n :: .n :: .call (vb z0) :: .n :: .n :: nS 7 (.b true :: .n :: nS 5 (.b true :: .n :: nS 5 (.b true :: .n :: nS 4 (.b true :: [])))))
def Y7 (k : Nat) (a0 : Qk) (a1 : Int) : Option Int :=
 (Z8 k a0.Outer 1 1000).bind fun r967 => (if r967 = true then ((Z8 k a0.Inner 0 (w64 (a0.Outer - 1))).bind fun r971 => (if r971 = true then ((Z8 k a0.From 0 a1).bind fun r975 => (if r975 = true then ((Z8 k a0.To 0 a1).bind fun r979 => (if r979 = true then ((Z8 k a0.Count 0 100).bind fun r983 => (if r983 = true then (if a0.To <= a0.From then (some 9) else (if a0.Count = 0 then (some 0) else (if a0.Inner = 0 then (some 0) else (some 3)))) else (some 2))) else (some 2))) else (some 2))) else (some 2))) else (some 2))
theorem Qfx (k : Nat) (a0 : Qk) (a1 : Int) (r : Int) (h : Y7 k a0 a1 = some r) : VC Try.prog 17 [VV.ag (Qb a0), vi a1] (vi r) := by
 unfold Y7 at h
 obtain ⟨r967, h968, h⟩ := bs h
 have e969 := (Xm k a0.Outer 1 1000 _ h968)
 rcases ifs h with ⟨h970, h⟩ | ⟨h970, h⟩
 ·obtain ⟨r971, h972, h⟩ := bs h
  have e973 := (an (Qm h970) (Xm k a0.Inner 0 (w64 (a0.Outer - 1)) _ h972))
  rcases ifs h with ⟨h974, h⟩ | ⟨h974, h⟩
  ·obtain ⟨r975, h976, h⟩ := bs h
   have e977 := (an (Qm h974) (Xm k a0.From 0 a1 _ h976))
   rcases ifs h with ⟨h978, h⟩ | ⟨h978, h⟩
   ·obtain ⟨r979, h980, h⟩ := bs h
    have e981 := (an (Qm h978) (Xm k a0.To 0 a1 _ h980))
    rcases ifs h with ⟨h982, h⟩ | ⟨h982, h⟩
    ·obtain ⟨r983, h984, h⟩ := bs h
     have e985 := (an (Qm h982) (Xm k a0.Count 0 100 _ h984))
     have e986 := (ti (ti (an e969 (ti (ti (an (an (Qm h970) tt) (an (an (Qm h970) tt) (an (an (Qm h970) tt) (an (an (Qm h970) tt) (an (an (Qm h970) tt) (an e973 (an (an (Qm h970) tt) (an (Qm h970) (ti (an (an (Qm h974) tt) (an (an (Qm h974) tt) (an (an (Qm h974) tt) (an e977 (an (an (Qm h974) tt) (an (Qm h974) (ti (an (an (Qm h978) tt) (an (an (Qm h978) tt) (an (an (Qm h978) tt) (an e981 (an (an (Qm h978) tt) (an (Qm h978) (ti (an (an (Qm h982) tt) (an (an (Qm h982) tt) (an e985 (an (an (Qm h982) tt) (an (Qm h982) tt)))))))))))))))))))))))))))))))))
     rcases ifs h with ⟨h987, h⟩ | ⟨h987, h⟩
     ·rcases ifs h with ⟨h988, h⟩ | ⟨h988, h⟩
      ·injection h with h; subst h
       exact Qw pm pn Try.func17 (r0 := vi 9) (ans := [.reg (.n :: .n :: []), .reg (Qlt r967 r971 r975 r979 r983), .br false, .reg (nN 5 []), .br true, .reg (.n :: [])]) (fr := true) (by kernel_rfl) (an (an (ti (ti tt)) (an (an e986 (an (Qm h987) tt)) (an (ti (ti (ti (ti (ti tt))))) (an (dt h988) (an (ti tt) tt))))) (ti tt)) (Wv.refl _)
      ·rcases ifs h with ⟨h989, h⟩ | ⟨h989, h⟩
       ·have e990 := (ti (ti (ti (ti (an (Qm (dt h989)) (an (Qm (dt h989)) (an (Qm (dt h989)) (an (Qm (dt h989)) tt))))))))
        injection h with h; subst h
        exact Qw pm pn Try.func17 (r0 := vi 0) (ans := [.reg (.n :: .n :: []), .reg (Qlt r967 r971 r975 r979 r983), .br false, .reg (nN 5 []), .br false, .reg (nN 4 (nS 3 (.b false :: []))), .br false, .reg (.n :: [])]) (fr := true) (by kernel_rfl) (an (an (ti (ti tt)) (an (an e986 (an (Qm h987) tt)) (an (an (ti (ti (ti (ti (ti tt))))) (an (df h988) tt)) (an (an e990 (an rf tt)) (an (ti tt) tt))))) (ti tt)) (Wv.refl _)
       ·have e991 := (an (Za (df h989)) tt)
        have e992 := (an (Za (df h989)) tt)
        have e993 := (an (Za (df h989)) tt)
        have e994 := (ti (ti (ti (ti (an e991 (an e992 (an e993 (an (Za (df h989)) tt))))))))
        rcases ifs h with ⟨h995, h⟩ | ⟨h995, h⟩
        ·injection h with h; subst h
         exact Qw pm pn Try.func17 (r0 := vi 0) (ans := [.reg (.n :: .n :: []), .reg (Qlt r967 r971 r975 r979 r983), .br false, .reg (nN 5 []), .br false, .reg (nN 7 (.b true :: [])), .br false, .reg (.n :: [])]) (fr := true) (by kernel_rfl) (an (an (ti (ti tt)) (an (an e986 (an (Qm h987) tt)) (an (an (ti (ti (ti (ti (ti tt))))) (an (df h988) tt)) (an (an e994 (an (Qm (dt h995)) tt)) (an (ti tt) tt))))) (ti tt)) (Wv.refl _)
        ·injection h with h; subst h
         exact Qw pm pn Try.func17 (r0 := vi 3) (ans := [.reg (.n :: .n :: []), .reg (Qlt r967 r971 r975 r979 r983), .br false, .reg (nN 5 []), .br false, .reg (nN 7 (.b true :: [])), .br true, .reg (.n :: [])]) (fr := true) (by kernel_rfl) (an (an (ti (ti tt)) (an (an e986 (an (Qm h987) tt)) (an (an (ti (ti (ti (ti (ti tt))))) (an (df h988) tt)) (an e994 (an (Za (df h995)) (an (ti tt) tt)))))) (ti tt)) (Wv.refl _)
     ·injection h with h; subst h
      exact Qw pm pn Try.func17 (r0 := vi 2) (ans := [.reg (.n :: .n :: []), .reg (Qlt r967 r971 r975 r979 r983), .br true, .reg (.n :: [])]) (fr := true) (by kernel_rfl) (an (an (ti (ti tt)) (an e986 (an (Za (Zk h987)) (an (ti tt) tt)))) (ti tt)) (Wv.refl _)
    ·have e996 := (ti (ti (an e969 (ti (ti (an (an (Qm h970) tt) (an (an (Qm h970) tt) (an (an (Qm h970) tt) (an (an (Qm h970) tt) (an (an (Qm h970) tt) (an e973 (an (an (Qm h970) tt) (an (Qm h970) (ti (an (an (Qm h974) tt) (an (an (Qm h974) tt) (an (an (Qm h974) tt) (an e977 (an (an (Qm h974) tt) (an (Qm h974) (ti (an (an (Qm h978) tt) (an (an (Qm h978) tt) (an (an (Qm h978) tt) (an e981 (an (an (Qm h978) tt) (an (Qm h978) (ti (an (Za (Zk h982)) (an (Za (Zk h982)) (an (Za (Zk h982)) (an (Za (Zk h982)) (an (Za (Zk h982)) tt)))))))))))))))))))))))))))))))))
     injection h with h; subst h
     exact Qw pm pn Try.func17 (r0 := vi 2) (ans := [.reg (.n :: .n :: []), .reg (Qys r967 r971 r975 r979), .br true, .reg (.n :: [])]) (fr := true) (by kernel_rfl) (an (an (ti (ti tt)) (an e996 (an rt (an (ti tt) tt)))) (ti tt)) (Wv.refl _)
   ·have e997 := (ti (ti (an e969 (ti (ti (an (an (Qm h970) tt) (an (an (Qm h970) tt) (an (an (Qm h970) tt) (an (an (Qm h970) tt) (an (an (Qm h970) tt) (an e973 (an (an (Qm h970) tt) (an (Qm h970) (ti (an (an (Qm h974) tt) (an (an (Qm h974) tt) (an (an (Qm h974) tt) (an e977 (an (an (Qm h974) tt) (an (Qm h974) (ti (an (Za (Zk h978)) (an (Za (Zk h978)) (an (Za (Zk h978)) (an (Za (Zk h978)) (an (Za (Zk h978)) (an (Za (Zk h978)) (ti (an rt (an rt (an rt (an rt (an rt tt)))))))))))))))))))))))))))))))))
    injection h with h; subst h
    exact Qw pm pn Try.func17 (r0 := vi 2) (ans := [.reg (.n :: .n :: []), .reg (Qyt r967 r971 r975), .br true, .reg (.n :: [])]) (fr := true) (by kernel_rfl) (an (an (ti (ti tt)) (an e997 (an rt (an (ti tt) tt)))) (ti tt)) (Wv.refl _)
  ·have e998 := (ti (ti (an e969 (ti (ti (an (an (Qm h970) tt) (an (an (Qm h970) tt) (an (an (Qm h970) tt) (an (an (Qm h970) tt) (an (an (Qm h970) tt) (an e973 (an (an (Qm h970) tt) (an (Qm h970) (ti (an (Za (Zk h974)) (an (Za (Zk h974)) (an (Za (Zk h974)) (an (Za (Zk h974)) (an (Za (Zk h974)) (an (Za (Zk h974)) (ti (an rt (an rt (an rt (an rt (an rt (an rt (ti (an rt (an rt (an rt (an rt (an rt tt)))))))))))))))))))))))))))))))))
   injection h with h; subst h
   exact Qw pm pn Try.func17 (r0 := vi 2) (ans := [.reg (.n :: .n :: []), .reg (Qyu r967 r971), .br true, .reg (.n :: [])]) (fr := true) (by kernel_rfl) (an (an (ti (ti tt)) (an e998 (an rt (an (ti tt) tt)))) (ti tt)) (Wv.refl _)
 ·have e999 := (ti (ti (an e969 (ti (ti (an (Za (Zk h970)) (an (Za (Zk h970)) (an (Za (Zk h970)) (an (Za (Zk h970)) (an (Za (Zk h970)) (an (Za (Zk h970)) (an (Za (Zk h970)) (an (Za (Zk h970)) (ti (an rt (an rt (an rt (an rt (an rt (an rt (ti (an rt (an rt (an rt (an rt (an rt (an rt (ti (an rt (an rt (an rt (an rt (an rt tt)))))))))))))))))))))))))))))))))
  injection h with h; subst h
  exact Qw pm pn Try.func17 (r0 := vi 2) (ans := [.reg (.n :: .n :: []), .reg (Qyv r967), .br true, .reg (.n :: [])]) (fr := true) (by kernel_rfl) (an (an (ti (ti tt)) (an e999 (an rt (an (ti tt) tt)))) (ti tt)) (Wv.refl _)
def Quo (z0 : Zd) (z1 : Int) (z2 : Int) : List Ans := (nN 4 (.v (VV.ag (Qb (z0.Parts.getD z1.toNat default))) :: .n :: .n :: .call (vi z2) :: .n :: []))
def Qlu (z0 : Bool) (z1 : Bool) (z2 : Bool) : List Ans := (.n :: .n :: .call (vb z0) :: nN 7 (.call (vb z1) :: .n :: .b false :: nN 4 (.call (vb z2) :: .n :: .b false :: [])))
def Qyw (z0 : Bool) (z1 : Bool) : List Ans := (.n :: .n :: .call (vb z0) :: nN 7 (.call (vb z1) :: .n :: .b false :: .n :: nS 5 (.b true :: [])))
def Qyx (z0 : Bool) : List Ans := (.n :: .n :: .call (vb z0) :: .n :: .n :: nS 7 (.b true :: .n :: nS 5 (.b true :: [])))
def Wq (k : Nat) (a0 : Qr) (a1 : Int) : Option Int :=
 (Z8 k a0.Radius 1 100000).bind fun r1055 => (if r1055 = true then ((Z8 k a0.Height 1 (minI a0.Radius 500)).bind fun r1059 => (if r1059 = true then ((Z8 k a0.At 0 a1).bind fun r1063 => (if r1063 = true then (if a0.Up = true then ((Z8 k (w64 (a0.At + a0.Height)) 0 a1).bind fun r1069 => (if r1069 = true then (some 0) else (some 2))) else ((Z8 k (w64 (a0.At - a0.Height)) 0 a1).bind fun r1073 => (if r1073 = true then (some 0) else (some 2)))) else (some 2))) else (some 2))) else (some 2))
theorem Qf6 (k : Nat) (a0 : Qr) (a1 : Int) (r : Int) (h : Wq k a0 a1 = some r) : VC Try.prog 18 [VV.ag (Qg a0), vi a1] (vi r) := by
 unfold Wq at h
 obtain ⟨r1055, h1056, h⟩ := bs h
 have e1057 := (Xm k a0.Radius 1 100000 _ h1056)
 rcases ifs h with ⟨h1058, h⟩ | ⟨h1058, h⟩
 ·obtain ⟨r1059, h1060, h⟩ := bs h
  have e1061 := (an (Qm h1058) (Xm k a0.Height 1 (minI a0.Radius 500) _ h1060))
  rcases ifs h with ⟨h1062, h⟩ | ⟨h1062, h⟩
  ·obtain ⟨r1063, h1064, h⟩ := bs h
   have e1065 := (an (Qm h1062) (Xm k a0.At 0 a1 _ h1064))
   have e1066 := (ti (ti (an e1057 (ti (ti (an (an (Qm h1058) tt) (an (an (Qm h1058) tt) (an (an (Qm h1058) tt) (an (an (Qm h1058) tt) (an (an (Qm h1058) tt) (an e1061 (an (an (Qm h1058) tt) (an (Qm h1058) (ti (an (an (Qm h1062) tt) (an (an (Qm h1062) tt) (an (an (Qm h1062) tt) (an e1065 (an (an (Qm h1062) tt) (an (Qm h1062) tt))))))))))))))))))))
   rcases ifs h with ⟨h1067, h⟩ | ⟨h1067, h⟩
   ·rcases ifs h with ⟨h1068, h⟩ | ⟨h1068, h⟩
    ·obtain ⟨r1069, h1070, h⟩ := bs h
     have e1071 := (Xm k (w64 (a0.At + a0.Height)) 0 a1 _ h1070)
     rcases ifs h with ⟨h1072, h⟩ | ⟨h1072, h⟩
     ·injection h with h; subst h
      exact Qw pm pn Try.func18 (r0 := vi 0) (ans := [.reg (.n :: .n :: []), .reg (Qlu r1055 r1059 r1063), .br false, .reg (nN 6 []), .reg (.n :: .n :: []), .br true, .reg (nN 6 []), .reg (.n :: .n :: .call (vb r1069) :: .n :: []), .br false, .reg (.n :: [])]) (fr := true) (by kernel_rfl) (an (an (ti (ti tt)) (an (an e1066 (an (Qm h1067) tt)) (an (ti (ti (ti (ti (ti (ti tt)))))) (an (an (ti (ti tt)) (an h1068 (ti (ti (ti (ti (ti (ti tt)))))))) (an (an (ti (ti (an e1071 (ti tt)))) (an (Qm h1072) tt)) (an (ti tt) tt)))))) (ti tt)) (Wv.refl _)
     ·injection h with h; subst h
      exact Qw pm pn Try.func18 (r0 := vi 2) (ans := [.reg (.n :: .n :: []), .reg (Qlu r1055 r1059 r1063), .br false, .reg (nN 6 []), .reg (.n :: .n :: []), .br true, .reg (nN 6 []), .reg (.n :: .n :: .call (vb r1069) :: .n :: []), .br true, .reg (.n :: [])]) (fr := true) (by kernel_rfl) (an (an (ti (ti tt)) (an (an e1066 (an (Qm h1067) tt)) (an (ti (ti (ti (ti (ti (ti tt)))))) (an (an (ti (ti tt)) (an h1068 (ti (ti (ti (ti (ti (ti tt)))))))) (an (ti (ti (an e1071 (ti tt)))) (an (Za (Zk h1072)) (an (ti tt) tt))))))) (ti tt)) (Wv.refl _)
    ·obtain ⟨r1073, h1074, h⟩ := bs h
     have e1075 := (Xm k (w64 (a0.At - a0.Height)) 0 a1 _ h1074)
     rcases ifs h with ⟨h1076, h⟩ | ⟨h1076, h⟩
     ·injection h with h; subst h
      exact Qw pm pn Try.func18 (r0 := vi 0) (ans := [.reg (.n :: .n :: []), .reg (Qlu r1055 r1059 r1063), .br false, .reg (nN 6 []), .reg (.n :: .n :: []), .br false, .reg (.n :: .n :: .call (vb r1073) :: .n :: []), .br false, .reg (.n :: [])]) (fr := true) (by kernel_rfl) (an (an (ti (ti tt)) (an (an e1066 (an (Qm h1067) tt)) (an (ti (ti (ti (ti (ti (ti tt)))))) (an (an (ti (ti tt)) (an (Zk h1068) tt)) (an (an (ti (ti (an e1075 (ti tt)))) (an (Qm h1076) tt)) (an (ti tt) tt)))))) (ti tt)) (Wv.refl _)
     ·injection h with h; subst h
      exact Qw pm pn Try.func18 (r0 := vi 2) (ans := [.reg (.n :: .n :: []), .reg (Qlu r1055 r1059 r1063), .br false, .reg (nN 6 []), .reg (.n :: .n :: []), .br false, .reg (.n :: .n :: .call (vb r1073) :: .n :: []), .br true, .reg (.n :: [])]) (fr := true) (by kernel_rfl) (an (an (ti (ti tt)) (an (an e1066 (an (Qm h1067) tt)) (an (ti (ti (ti (ti (ti (ti tt)))))) (an (an (ti (ti tt)) (an (Zk h1068) tt)) (an (ti (ti (an e1075 (ti tt)))) (an (Za (Zk h1076)) (an (ti tt) tt))))))) (ti tt)) (Wv.refl _)
   ·injection h with h; subst h
    exact Qw pm pn Try.func18 (r0 := vi 2) (ans := [.reg (.n :: .n :: []), .reg (Qlu r1055 r1059 r1063), .br true, .reg (.n :: [])]) (fr := true) (by kernel_rfl) (an (an (ti (ti tt)) (an e1066 (an (Za (Zk h1067)) (an (ti tt) tt)))) (ti tt)) (Wv.refl _)
  ·have e1077 := (ti (ti (an e1057 (ti (ti (an (an (Qm h1058) tt) (an (an (Qm h1058) tt) (an (an (Qm h1058) tt) (an (an (Qm h1058) tt) (an (an (Qm h1058) tt) (an e1061 (an (an (Qm h1058) tt) (an (Qm h1058) (ti (an (Za (Zk h1062)) (an (Za (Zk h1062)) (an (Za (Zk h1062)) (an (Za (Zk h1062)) (an (Za (Zk h1062)) (an (Za (Zk h1062)) tt))))))))))))))))))))
   injection h with h; subst h
   exact Qw pm pn Try.func18 (r0 := vi 2) (ans := [.reg (.n :: .n :: []), .reg (Qyw r1055 r1059), .br true, .reg (.n :: [])]) (fr := true) (by kernel_rfl) (an (an (ti (ti tt)) (an e1077 (an rt (an (ti tt) tt)))) (ti tt)) (Wv.refl _)
 ·have e1078 := (ti (ti (an e1057 (ti (ti (an (Za (Zk h1058)) (an (Za (Zk h1058)) (an (Za (Zk h1058)) (an (Za (Zk h1058)) (an (Za (Zk h1058)) (an (Za (Zk h1058)) (an (Za (Zk h1058)) (an (Za (Zk h1058)) (ti (an rt (an rt (an rt (an rt (an rt (an rt tt))))))))))))))))))))
  injection h with h; subst h
  exact Qw pm pn Try.func18 (r0 := vi 2) (ans := [.reg (.n :: .n :: []), .reg (Qyx r1055), .br true, .reg (.n :: [])]) (fr := true) (by kernel_rfl) (an (an (ti (ti tt)) (an e1078 (an rt (an (ti tt) tt)))) (ti tt)) (Wv.refl _)
def Qup (z0 : Zd) (z1 : Int) (z2 : Int) : List Ans := (nN 4 (.v (VV.ag (Qg (z0.Caps.getD z1.toNat default))) :: .n :: .n :: .call (vi z2) :: .n :: []))
def Yy (k : Nat) (a0 : Qk) : Option Int :=
 some (w64 ((w64 ((w64 (3 * (w64 ((w64 (a0.Outer * a0.Outer)) - (w64 (a0.Inner * a0.Inner)))))) * (w64 (a0.To - a0.From)))) * (maxI a0.Count 1)))
theorem Qfj (k : Nat) (a0 : Qk) (r : Int) (h : Yy k a0 = some r) : VC Try.prog 33 [VV.ag (Qb a0)] (vi r) := by
 unfold Yy at h
 have e1110 := (ti (ti (ti (ti (ti (ti (ti (ti (ti (ti (ti (ti (ti (ti (ti (ti (ti (ti (ti (ti (ti (ti (ti tt)))))))))))))))))))))))
 injection h with h; subst h
 exact Qw pm pn Try.func33 (r0 := vi (w64 ((w64 ((w64 (3 * (w64 ((w64 (a0.Outer * a0.Outer)) - (w64 (a0.Inner * a0.Inner)))))) * (w64 (a0.To - a0.From)))) * (maxI a0.Count 1)))) (ans := [.reg (.n :: .n :: []), .reg (nN 23 [])]) (fr := true) (by kernel_rfl) (an (an (ti (ti tt)) (an e1110 tt)) (ti tt)) (Wv.refl _)
def Qav (k : Nat) (a0 : Int) (a1 : Bool) : Option Int :=
 if a1 = true then (some (w64 (0 - a0))) else (some a0)
theorem Qd6 (k : Nat) (a0 : Int) (a1 : Bool) (r : Int) (h : Qav k a0 a1 = some r) : VC Try.prog 32 [vi a0, vb a1] (vi r) := by
 unfold Qav at h
 rcases ifs h with ⟨h1116, h⟩ | ⟨h1116, h⟩
 ·injection h with h; subst h
  exact Qw pm pn Try.func32 (r0 := vi (w64 (0 - a0))) (ans := [.reg (.n :: []), .reg (.n :: []), .br true, .reg (nN 3 [])]) (fr := true) (by kernel_rfl) (an (an (ti tt) (an (ti tt) (an h1116 (an (ti (ti (ti tt))) tt)))) (ti tt)) (Wv.refl _)
 ·injection h with h; subst h
  exact Qw pm pn Try.func32 (r0 := vi a0) (ans := [.reg (.n :: []), .reg (.n :: []), .br false, .reg (.n :: .n :: [])]) (fr := true) (by kernel_rfl) (an (an (ti tt) (an (an (ti tt) (an (Zk h1116) tt)) (an (ti (ti tt)) tt))) (ti tt)) (Wv.refl _)
def Qyy (z0 : Zd) (z1 : Int) (z2 : Int) (z3 : Int) : List Ans := (nN 5 (.v (VV.ag (Qb (z0.Parts.getD z1.toNat default))) :: .call (vi z2) :: nN 5 (.v (vb ((z0.Parts.getD z1.toNat default).Cut)) :: .call (vi z3) :: .n :: .n :: [])))
def Y8 (k : Nat) (a0 : Qr) : Option Int :=
 some (w64 ((w64 ((w64 (4 * a0.Height)) * a0.Height)) * (w64 ((w64 (3 * a0.Radius)) - a0.Height))))
theorem Qfy (k : Nat) (a0 : Qr) (r : Int) (h : Y8 k a0 = some r) : VC Try.prog 34 [VV.ag (Qg a0)] (vi r) := by
 unfold Y8 at h
 have e1150 := (ti (ti (ti (ti (ti (ti (ti (ti (ti (ti (ti (ti (ti (ti tt))))))))))))))
 injection h with h; subst h
 exact Qw pm pn Try.func34 (r0 := vi (w64 ((w64 ((w64 (4 * a0.Height)) * a0.Height)) * (w64 ((w64 (3 * a0.Radius)) - a0.Height))))) (ans := [.reg (.n :: .n :: []), .reg (nN 14 [])]) (fr := true) (by kernel_rfl) (an (an (ti (ti tt)) (an e1150 tt)) (ti tt)) (Wv.refl _)
def Qyz (z0 : Zd) (z1 : Int) (z2 : Int) (z3 : Int) : List Ans := (nN 5 (.v (VV.ag (Qg (z0.Caps.getD z1.toNat default))) :: .call (vi z2) :: nN 5 (.v (vb ((z0.Caps.getD z1.toNat default).Cut)) :: .call (vi z3) :: .n :: .n :: [])))
def Qbc (a0 : Zd) (x3 : Int) (x4 : Int) : VS := ⟨mkA [(1, VV.pt 0 0), (3, vi x3), (4, vi x4)], [some ⟨true, 1, Yh a0⟩], .nil⟩
def Qa5 (a0 : Zd) (r : Int) : VS := ⟨mkA [(1, VV.pt 0 0), (3, vi r)], [some ⟨true, 1, Yh a0⟩], .nil⟩
def Xz (k : Nat) (a0 : Zd) : Nat -> Int -> Int -> Option (Int)
 | 0, _, _ => none
 | fuel + 1, x3, x4 => if x4 < (a0.Parts.length : Int) then (if 0 <= x4 /\ x4 < (a0.Parts.length : Int) then ((Yy k (a0.Parts.getD x4.toNat default)).bind fun r1209 => ((Qav k r1209 ((a0.Parts.getD x4.toNat default).Cut)).bind fun r1213 => (Xz k a0 fuel (w64 (x3 + r1213)) (w64 (x4 + 1))))) else none) else (some x3)
theorem Qfa (k : Nat) (a0 : Zd) : ∀ (fuel : Nat) (x3 : Int) (x4 : Int) (r : Int), Xz k a0 fuel x3 x4 = some r -> (Yw none Try.prog (szF Try.f19) (Ya Try.f19 0) (Qbc a0 x3 x4) (.exit 0) (Qa5 a0 r)) := by
 intro fuel
 induction fuel with
 | zero => intro x3 x4 r h; rw [Xz.eq_1] at h; cases h
 | succ fuel ih =>
  intro x3 x4 r h
  rw [Xz.eq_2] at h
  rcases ifs h with ⟨h1206, h⟩ | ⟨h1206, h⟩
  ·obtain ⟨h1207, h⟩ := ifn h
   have e1208 := (show Xt Try.prog 38 (x4.toNat * 6) (flatMap Qb a0.Parts) = some (VV.ag (Qb (a0.Parts.getD x4.toNat default))) from Yo ag38 Qb 6 sz38 Qa3 a0.Parts default h1207 (by omega))
   obtain ⟨r1209, h1210, h⟩ := bs h
   have e1211 := (Qfj k (a0.Parts.getD x4.toNat default) _ h1210)
   have e1212 := (show Xt Try.prog 4 (x4.toNat * 6 + 5) (flatMap Qb a0.Parts) = some (vb ((a0.Parts.getD x4.toNat default).Cut)) from (Qhb ag4 Qb 6 5 Qa3 (by omega) a0.Parts default h1207 (by omega)).trans rfl)
   obtain ⟨r1213, h1214, h⟩ := bs h
   have e1215 := (Qd6 k r1209 ((a0.Parts.getD x4.toNat default).Cut) _ h1214)
   have e1216 := (ti (ti (ti (ti (an h1207 (an e1208 (an e1211 (ti (ti (ti (an h1207 (ti (an e1212 (an e1215 (ti (ti tt))))))))))))))))
   have h2 := ih _ _ _ h
   obtain ⟨q, hv, hq⟩ := pkR (rd := none) (P := Try.prog) (fn := Try.f19) (k := 0) (s := (Qbc a0 x3 x4)) (ans := [.reg (nN 5 []), .br true, .reg (Qyy a0 x4 r1209 r1213), .reg (nN 3 [])]) (c := ⟨[(1, none), (3, none), (4, none)], [none], []⟩) (e := .normal) (s1 := (Qbc a0 (w64 (x3 + r1213)) (w64 (x4 + 1)))) (an (an (an (ti (ti (ti (ti (ti tt))))) (an (dt h1206) tt)) (an e1216 (ti (ti (ti tt))))) (ti tt)) (by kernel_rfl)
   exact Qz pm pn hv hq h2
  ·injection h with h; subst h
   exact Q5 (c := ⟨[(1, none), (3, none)], [none], []⟩) (s1 := (Qa5 a0 x3)) pm pn (ans := [.reg (nN 5 []), .br false]) (by kernel_rfl) (by intro e; cases e) (an (an (ti (ti (ti (ti (ti tt))))) (an (df h1206) tt)) (ti tt))
def Qbd (a0 : Zd) (x3 : Int) (x5 : Int) : VS := ⟨mkA [(1, VV.pt 0 0), (3, vi x3), (5, vi x5)], [some ⟨true, 1, Yh a0⟩], .nil⟩
def Qa6 (a0 : Zd) (r : Int) : VS := ⟨mkA [(3, vi r)], [], .nil⟩
def X0 (k : Nat) (a0 : Zd) : Nat -> Int -> Int -> Option (Int)
 | 0, _, _ => none
 | fuel + 1, x3, x5 => if x5 < (a0.Caps.length : Int) then (if 0 <= x5 /\ x5 < (a0.Caps.length : Int) then ((Y8 k (a0.Caps.getD x5.toNat default)).bind fun r1245 => ((Qav k r1245 ((a0.Caps.getD x5.toNat default).Cut)).bind fun r1249 => (X0 k a0 fuel (w64 (x3 + r1249)) (w64 (x5 + 1))))) else none) else (some x3)
theorem Qfb (k : Nat) (a0 : Zd) : ∀ (fuel : Nat) (x3 : Int) (x5 : Int) (r : Int), X0 k a0 fuel x3 x5 = some r -> (Yw none Try.prog (szF Try.f19) (Ya Try.f19 1) (Qbd a0 x3 x5) (.exit 2) (Qa6 a0 r)) := by
 intro fuel
 induction fuel with
 | zero => intro x3 x5 r h; rw [X0.eq_1] at h; cases h
 | succ fuel ih =>
  intro x3 x5 r h
  rw [X0.eq_2] at h
  rcases ifs h with ⟨h1242, h⟩ | ⟨h1242, h⟩
  ·obtain ⟨h1243, h⟩ := ifn h
   have e1244 := (show Xt Try.prog 65 (x5.toNat * 5) (flatMap Qg a0.Caps) = some (VV.ag (Qg (a0.Caps.getD x5.toNat default))) from Yo ag65 Qg 5 sz65 Qcn a0.Caps default h1243 (by omega))
   obtain ⟨r1245, h1246, h⟩ := bs h
   have e1247 := (Qfy k (a0.Caps.getD x5.toNat default) _ h1246)
   have e1248 := (show Xt Try.prog 4 (x5.toNat * 5 + 4) (flatMap Qg a0.Caps) = some (vb ((a0.Caps.getD x5.toNat default).Cut)) from (Qhb ag4 Qg 5 4 Qcn (by omega) a0.Caps default h1243 (by omega)).trans rfl)
   obtain ⟨r1249, h1250, h⟩ := bs h
   have e1251 := (Qd6 k r1245 ((a0.Caps.getD x5.toNat default).Cut) _ h1250)
   have e1252 := (ti (ti (ti (ti (an h1243 (an e1244 (an e1247 (ti (ti (ti (an h1243 (ti (an e1248 (an e1251 (ti (ti tt))))))))))))))))
   have h2 := ih _ _ _ h
   obtain ⟨q, hv, hq⟩ := pkR (rd := none) (P := Try.prog) (fn := Try.f19) (k := 1) (s := (Qbd a0 x3 x5)) (ans := [.reg (nN 5 []), .br true, .reg (Qyz a0 x5 r1245 r1249), .reg (nN 3 [])]) (c := ⟨[(1, none), (3, none), (5, none)], [none], []⟩) (e := .normal) (s1 := (Qbd a0 (w64 (x3 + r1249)) (w64 (x5 + 1)))) (an (an (an (ti (ti (ti (ti (ti tt))))) (an (dt h1242) tt)) (an e1252 (ti (ti (ti tt))))) (ti tt)) (by kernel_rfl)
   exact Qz pm pn hv hq h2
  ·injection h with h; subst h
   exact Q5 (c := ⟨[(3, none)], [], []⟩) (s1 := (Qa6 a0 x3)) pm pn (ans := [.reg (nN 5 []), .br false]) (by kernel_rfl) (by intro e; cases e) (an (an (ti (ti (ti (ti (ti tt))))) (an (df h1242) tt)) (ti tt))
def Qaw (k : Nat) (a0 : Zd) : Option Int :=
 (Xz k a0 k 0 0).bind fun r1218 => ((X0 k a0 k r1218 0).bind fun r1254 => (some r1254))
theorem Qg5 (k : Nat) (a0 : Zd) (r : Int) (h : Qaw k a0 = some r) : VC Try.prog 19 [VV.ag (Yh a0)] (vi r) := by
 unfold Qaw at h
 obtain ⟨r1218, h1217, h⟩ := bs h
 have hph1217 := Qfa k a0 _ _ _ _ h1217
 have e1219 := (an (ti tt) (VRun.loop hph1217))
 obtain ⟨r1254, h1253, h⟩ := bs h
 have hph1253 := Qfb k a0 _ _ _ _ h1253
 have e1255 := (an (ti tt) (VRun.loop hph1253))
 injection h with h; subst h
 exact Qw pm pn Try.func19 (r0 := vi r1254) (ans := [.reg (.n :: .n :: []), .reg (.n :: []), .reg (.n :: []), .sub ⟨[(1, none), (3, none), (4, none)], [none], []⟩ (.exit 0) (Qa5 a0 r1218), .reg (.n :: []), .sub ⟨[(1, none), (3, none), (5, none)], [none], []⟩ (.exit 2) (Qa6 a0 r1254), .reg (.n :: .n :: [])]) (fr := true) (by kernel_rfl) (an (an (ti (ti tt)) (an (ti tt) (an (an (ti tt) e1219) (an (an (ti tt) e1255) (an (ti (ti tt)) tt))))) (ti tt)) (Wv.refl _)
def Yk (a0 : Zd) (x3 : Int) : VS := ⟨mkA [(1, VV.pt 0 0), (3, vi x3)], [some ⟨true, 1, Yh a0⟩], .nil⟩
def Ws (a0 : Zd) (r : Int) : VS := ⟨mkA [(2, vi r)], [], .nil⟩
def Jd (a0 : Zd) (r : Unit) : VS := ⟨mkA [(1, VV.pt 0 0)], [some ⟨true, 1, Yh a0⟩], .nil⟩
def Xp (k : Nat) (a0 : Zd) : Nat -> Int -> Option (Sum Int Unit)
 | 0, _ => none
 | fuel + 1, x3 => if x3 < (a0.Parts.length : Int) then (if 0 <= x3 /\ x3 < (a0.Parts.length : Int) then ((Y7 k (a0.Parts.getD x3.toNat default) a0.Thick).bind fun r1290 => (if r1290 = 0 then (Xp k a0 fuel (w64 (x3 + 1))) else (some (.inl r1290)))) else none) else (some (.inr ()))
theorem Qej (k : Nat) (a0 : Zd) : ∀ (fuel : Nat) (x3 : Int) (r : Sum Int Unit), Xp k a0 fuel x3 = some r -> (match r with | .inl r => Yw none Try.prog (szF Try.f5) (Ya Try.f5 0) (Yk a0 x3) .ret (Ws a0 r) | .inr r => Yw none Try.prog (szF Try.f5) (Ya Try.f5 0) (Yk a0 x3) (.exit 0) (Jd a0 r)) := by
 intro fuel
 induction fuel with
 | zero => intro x3 r h; rw [Xp.eq_1] at h; cases h
 | succ fuel ih =>
  intro x3 r h
  rw [Xp.eq_2] at h
  rcases ifs h with ⟨h1287, h⟩ | ⟨h1287, h⟩
  ·obtain ⟨h1288, h⟩ := ifn h
   have e1289 := (show Xt Try.prog 38 (x3.toNat * 6) (flatMap Qb a0.Parts) = some (VV.ag (Qb (a0.Parts.getD x3.toNat default))) from Yo ag38 Qb 6 sz38 Qa3 a0.Parts default h1288 (by omega))
   obtain ⟨r1290, h1291, h⟩ := bs h
   have e1292 := (Qfx k (a0.Parts.getD x3.toNat default) a0.Thick _ h1291)
   have e1293 := (ti (ti (ti (an h1288 (an e1289 (ti (ti (an e1292 (ti tt)))))))))
   rcases ifs h with ⟨h1294, h⟩ | ⟨h1294, h⟩
   ·have h2 := ih _ _ h
    obtain ⟨q, hv, hq⟩ := pkR (rd := none) (P := Try.prog) (fn := Try.f5) (k := 0) (s := (Yk a0 x3)) (ans := [.reg (nN 5 []), .br true, .reg (Quo a0 x3 r1290), .reg (.n :: .n :: []), .br false, .reg (nN 3 [])]) (c := ⟨[(1, none), (3, none)], [none], []⟩) (e := .normal) (s1 := (Yk a0 (w64 (x3 + 1)))) (an (an (an (ti (ti (ti (ti (ti tt))))) (an (dt h1287) tt)) (an (an e1293 (an (ti (ti tt)) (an (Qm (dt h1294)) tt))) (ti (ti (ti tt))))) (ti tt)) (by kernel_rfl)
    cases r with
    | inl r => exact Qz pm pn hv hq h2
    | inr r =>
     exact Qz pm pn hv hq h2
   ·injection h with h; subst h
    exact Q5 (c := ⟨[(2, none)], [], []⟩) (s1 := (Ws a0 r1290)) pm pn (ans := [.reg (nN 5 []), .br true, .reg (Quo a0 x3 r1290), .reg (.n :: .n :: []), .br true, .reg (.n :: .n :: [])]) (by kernel_rfl) (by intro e; cases e) (an (an (an (ti (ti (ti (ti (ti tt))))) (an (dt h1287) tt)) (an e1293 (an (ti (ti tt)) (an (Za (df h1294)) (an (ti (ti tt)) tt))))) (ti tt))
  ·injection h with h; subst h
   exact Q5 (c := ⟨[(1, none)], [none], []⟩) (s1 := (Jd a0 ())) pm pn (ans := [.reg (nN 5 []), .br false]) (by kernel_rfl) (by intro e; cases e) (an (an (ti (ti (ti (ti (ti tt))))) (an (df h1287) tt)) (ti tt))
def Yl (a0 : Zd) (x5 : Int) : VS := ⟨mkA [(1, VV.pt 0 0), (5, vi x5)], [some ⟨true, 1, Yh a0⟩], .nil⟩
def Wu (a0 : Zd) (r : Int) : VS := ⟨mkA [(2, vi r)], [], .nil⟩
def Yi (a0 : Zd) (r : Unit) : VS := ⟨mkA [(1, VV.pt 0 0)], [some ⟨true, 1, Yh a0⟩], .nil⟩
def Xq (k : Nat) (a0 : Zd) : Nat -> Int -> Option (Sum Int Unit)
 | 0, _ => none
 | fuel + 1, x5 => if x5 < (a0.Caps.length : Int) then (if 0 <= x5 /\ x5 < (a0.Caps.length : Int) then ((Wq k (a0.Caps.getD x5.toNat default) a0.Thick).bind fun r1321 => (if r1321 = 0 then (Xq k a0 fuel (w64 (x5 + 1))) else (some (.inl r1321)))) else none) else (some (.inr ()))
theorem Qek (k : Nat) (a0 : Zd) : ∀ (fuel : Nat) (x5 : Int) (r : Sum Int Unit), Xq k a0 fuel x5 = some r -> (match r with | .inl r => Yw none Try.prog (szF Try.f5) (Ya Try.f5 1) (Yl a0 x5) .ret (Wu a0 r) | .inr r => Yw none Try.prog (szF Try.f5) (Ya Try.f5 1) (Yl a0 x5) (.exit 2) (Yi a0 r)) := by
 intro fuel
 induction fuel with
 | zero => intro x5 r h; rw [Xq.eq_1] at h; cases h
 | succ fuel ih =>
  intro x5 r h
  rw [Xq.eq_2] at h
  rcases ifs h with ⟨h1318, h⟩ | ⟨h1318, h⟩
  ·obtain ⟨h1319, h⟩ := ifn h
   have e1320 := (show Xt Try.prog 65 (x5.toNat * 5) (flatMap Qg a0.Caps) = some (VV.ag (Qg (a0.Caps.getD x5.toNat default))) from Yo ag65 Qg 5 sz65 Qcn a0.Caps default h1319 (by omega))
   obtain ⟨r1321, h1322, h⟩ := bs h
   have e1323 := (Qf6 k (a0.Caps.getD x5.toNat default) a0.Thick _ h1322)
   have e1324 := (ti (ti (ti (an h1319 (an e1320 (ti (ti (an e1323 (ti tt)))))))))
   rcases ifs h with ⟨h1325, h⟩ | ⟨h1325, h⟩
   ·have h2 := ih _ _ h
    obtain ⟨q, hv, hq⟩ := pkR (rd := none) (P := Try.prog) (fn := Try.f5) (k := 1) (s := (Yl a0 x5)) (ans := [.reg (nN 5 []), .br true, .reg (Qup a0 x5 r1321), .reg (.n :: .n :: []), .br false, .reg (nN 3 [])]) (c := ⟨[(1, none), (5, none)], [none], []⟩) (e := .normal) (s1 := (Yl a0 (w64 (x5 + 1)))) (an (an (an (ti (ti (ti (ti (ti tt))))) (an (dt h1318) tt)) (an (an e1324 (an (ti (ti tt)) (an (Qm (dt h1325)) tt))) (ti (ti (ti tt))))) (ti tt)) (by kernel_rfl)
    cases r with
    | inl r => exact Qz pm pn hv hq h2
    | inr r =>
     exact Qz pm pn hv hq h2
   ·injection h with h; subst h
    exact Q5 (c := ⟨[(2, none)], [], []⟩) (s1 := (Wu a0 r1321)) pm pn (ans := [.reg (nN 5 []), .br true, .reg (Qup a0 x5 r1321), .reg (.n :: .n :: []), .br true, .reg (.n :: .n :: [])]) (by kernel_rfl) (by intro e; cases e) (an (an (an (ti (ti (ti (ti (ti tt))))) (an (dt h1318) tt)) (an e1324 (an (ti (ti tt)) (an (Za (df h1325)) (an (ti (ti tt)) tt))))) (ti tt))
  ·injection h with h; subst h
   exact Q5 (c := ⟨[(1, none)], [none], []⟩) (s1 := (Yi a0 ())) pm pn (ans := [.reg (nN 5 []), .br false]) (by kernel_rfl) (by intro e; cases e) (an (an (ti (ti (ti (ti (ti tt))))) (an (df h1318) tt)) (ti tt))
def Yz (k : Nat) (a0 : Zd) : Option Int :=
 (Z8 k a0.Density 1 10000).bind fun r1261 => (if r1261 = true then ((Z8 k a0.Thick 1 500).bind fun r1265 => (if r1265 = true then (if 40 < (a0.Parts.length : Int) then (some 8) else ((Xp k a0 k 0).bind fun r1296 => (match r1296 with | .inl r1297 => (some r1297) | .inr r1298 => (if 4 < (a0.Caps.length : Int) then (some 8) else ((Xq k a0 k 0).bind fun r1327 => (match r1327 with | .inl r1328 => (some r1328) | .inr r1329 => ((Qaw k a0).bind fun r1332 => (if r1332 <= 0 then (some 11) else (some 0))))))))) else (some 2))) else (some 2))
theorem Qfk (k : Nat) (a0 : Zd) (r : Int) (h : Yz k a0 = some r) : VC Try.prog 5 [VV.ag (Yh a0)] (vi r) := by
 unfold Yz at h
 obtain ⟨r1261, h1262, h⟩ := bs h
 have e1263 := (Xm k a0.Density 1 10000 _ h1262)
 rcases ifs h with ⟨h1264, h⟩ | ⟨h1264, h⟩
 ·obtain ⟨r1265, h1266, h⟩ := bs h
  have e1267 := (an (Qm h1264) (Xm k a0.Thick 1 500 _ h1266))
  have e1268 := (ti (ti (an e1263 (ti (ti (an (an (Qm h1264) tt) (an (an (Qm h1264) tt) (an e1267 (an (an (Qm h1264) tt) (an (Qm h1264) tt))))))))))
  rcases ifs h with ⟨h1269, h⟩ | ⟨h1269, h⟩
  ·rcases ifs h with ⟨h1270, h⟩ | ⟨h1270, h⟩
   ·injection h with h; subst h
    exact Qw pm pn Try.func5 (r0 := vi 8) (ans := [.reg (.n :: .n :: []), .reg (.n :: .n :: .call (vb r1261) :: nN 4 (.call (vb r1265) :: .n :: .b false :: [])), .br false, .reg (nN 4 []), .br true, .reg (.n :: [])]) (fr := true) (by kernel_rfl) (an (an (ti (ti tt)) (an (an e1268 (an (Qm h1269) tt)) (an (ti (ti (ti (ti tt)))) (an (dt h1270) (an (ti tt) tt))))) (ti tt)) (Wv.refl _)
   ·obtain ⟨r1296, h1295, h⟩ := bs h
    have hph1295 := Qej k a0 _ _ _ h1295
    cases r1296 with
    | inl r1297 =>
     dsimp only at h
     have e1299 := (an (ti tt) (VRun.loop hph1295))
     injection h with h; subst h
     exact Qw pm pn Try.func5 (r0 := vi r1297) (ans := [.reg (.n :: .n :: []), .reg (.n :: .n :: .call (vb r1261) :: nN 4 (.call (vb r1265) :: .n :: .b false :: [])), .br false, .reg (nN 4 []), .br false, .reg (.n :: []), .sub ⟨[(1, none), (3, none)], [none], []⟩ .ret (Ws a0 r1297)]) (fr := true) (by kernel_rfl) (an (an (ti (ti tt)) (an (an e1268 (an (Qm h1269) tt)) (an (an (ti (ti (ti (ti tt)))) (an (df h1270) tt)) (an (ti tt) e1299)))) (ti tt)) (Wv.refl _)
    | inr r1298 =>
     dsimp only at h
     have e1300 := (an (ti tt) (VRun.loop hph1295))
     rcases ifs h with ⟨h1301, h⟩ | ⟨h1301, h⟩
     ·injection h with h; subst h
      exact Qw pm pn Try.func5 (r0 := vi 8) (ans := [.reg (.n :: .n :: []), .reg (.n :: .n :: .call (vb r1261) :: nN 4 (.call (vb r1265) :: .n :: .b false :: [])), .br false, .reg (nN 4 []), .br false, .reg (.n :: []), .sub ⟨[(1, none), (3, none)], [none], []⟩ (.exit 0) (Jd a0 r1298), .reg (nN 4 []), .br true, .reg (.n :: [])]) (fr := true) (by kernel_rfl) (an (an (ti (ti tt)) (an (an e1268 (an (Qm h1269) tt)) (an (an (ti (ti (ti (ti tt)))) (an (df h1270) tt)) (an (an (ti tt) e1300) (an (ti (ti (ti (ti tt)))) (an (dt h1301) (an (ti tt) tt))))))) (ti tt)) (Wv.refl _)
     ·obtain ⟨r1327, h1326, h⟩ := bs h
      have hph1326 := Qek k a0 _ _ _ h1326
      cases r1327 with
      | inl r1328 =>
       dsimp only at h
       have e1330 := (an (ti tt) (VRun.loop hph1326))
       injection h with h; subst h
       exact Qw pm pn Try.func5 (r0 := vi r1328) (ans := [.reg (.n :: .n :: []), .reg (.n :: .n :: .call (vb r1261) :: nN 4 (.call (vb r1265) :: .n :: .b false :: [])), .br false, .reg (nN 4 []), .br false, .reg (.n :: []), .sub ⟨[(1, none), (3, none)], [none], []⟩ (.exit 0) (Jd a0 r1298), .reg (nN 4 []), .br false, .reg (.n :: []), .sub ⟨[(1, none), (5, none)], [none], []⟩ .ret (Wu a0 r1328)]) (fr := true) (by kernel_rfl) (an (an (ti (ti tt)) (an (an e1268 (an (Qm h1269) tt)) (an (an (ti (ti (ti (ti tt)))) (an (df h1270) tt)) (an (an (ti tt) e1300) (an (an (ti (ti (ti (ti tt)))) (an (df h1301) tt)) (an (ti tt) e1330)))))) (ti tt)) (Wv.refl _)
      | inr r1329 =>
       dsimp only at h
       have e1331 := (an (ti tt) (VRun.loop hph1326))
       obtain ⟨r1332, h1333, h⟩ := bs h
       have e1334 := (ti (an (Qg5 k a0 _ h1333) (ti tt)))
       rcases ifs h with ⟨h1335, h⟩ | ⟨h1335, h⟩
       ·injection h with h; subst h
        exact Qw pm pn Try.func5 (r0 := vi 11) (ans := [.reg (.n :: .n :: []), .reg (.n :: .n :: .call (vb r1261) :: nN 4 (.call (vb r1265) :: .n :: .b false :: [])), .br false, .reg (nN 4 []), .br false, .reg (.n :: []), .sub ⟨[(1, none), (3, none)], [none], []⟩ (.exit 0) (Jd a0 r1298), .reg (nN 4 []), .br false, .reg (.n :: []), .sub ⟨[(1, none), (5, none)], [none], []⟩ (.exit 2) (Yi a0 r1329), .reg (.n :: .call (vi r1332) :: .n :: []), .br true, .reg (.n :: [])]) (fr := true) (by kernel_rfl) (an (an (ti (ti tt)) (an (an e1268 (an (Qm h1269) tt)) (an (an (ti (ti (ti (ti tt)))) (an (df h1270) tt)) (an (an (ti tt) e1300) (an (an (ti (ti (ti (ti tt)))) (an (df h1301) tt)) (an (an (ti tt) e1331) (an e1334 (an (dt h1335) (an (ti tt) tt))))))))) (ti tt)) (Wv.refl _)
       ·injection h with h; subst h
        exact Qw pm pn Try.func5 (r0 := vi 0) (ans := [.reg (.n :: .n :: []), .reg (.n :: .n :: .call (vb r1261) :: nN 4 (.call (vb r1265) :: .n :: .b false :: [])), .br false, .reg (nN 4 []), .br false, .reg (.n :: []), .sub ⟨[(1, none), (3, none)], [none], []⟩ (.exit 0) (Jd a0 r1298), .reg (nN 4 []), .br false, .reg (.n :: []), .sub ⟨[(1, none), (5, none)], [none], []⟩ (.exit 2) (Yi a0 r1329), .reg (.n :: .call (vi r1332) :: .n :: []), .br false, .reg (.n :: [])]) (fr := true) (by kernel_rfl) (an (an (ti (ti tt)) (an (an e1268 (an (Qm h1269) tt)) (an (an (ti (ti (ti (ti tt)))) (an (df h1270) tt)) (an (an (ti tt) e1300) (an (an (ti (ti (ti (ti tt)))) (an (df h1301) tt)) (an (an (ti tt) e1331) (an (an e1334 (an (df h1335) tt)) (an (ti tt) tt)))))))) (ti tt)) (Wv.refl _)
  ·injection h with h; subst h
   exact Qw pm pn Try.func5 (r0 := vi 2) (ans := [.reg (.n :: .n :: []), .reg (.n :: .n :: .call (vb r1261) :: nN 4 (.call (vb r1265) :: .n :: .b false :: [])), .br true, .reg (.n :: [])]) (fr := true) (by kernel_rfl) (an (an (ti (ti tt)) (an e1268 (an (Za (Zk h1269)) (an (ti tt) tt)))) (ti tt)) (Wv.refl _)
 ·have e1336 := (ti (ti (an e1263 (ti (ti (an (Za (Zk h1264)) (an (Za (Zk h1264)) (an (Za (Zk h1264)) (an (Za (Zk h1264)) (an (Za (Zk h1264)) tt))))))))))
  injection h with h; subst h
  exact Qw pm pn Try.func5 (r0 := vi 2) (ans := [.reg (.n :: .n :: []), .reg (.n :: .n :: .call (vb r1261) :: .n :: .n :: nS 4 (.b true :: [])), .br true, .reg (.n :: [])]) (fr := true) (by kernel_rfl) (an (an (ti (ti tt)) (an e1336 (an rt (an (ti tt) tt)))) (ti tt)) (Wv.refl _)
def Qan (k : Nat) (a0 : Int) (a1 : Int) : Option Int :=
 if a1 ≠ 0 then (if (a0.tmod a1) < 0 then (some (w64 ((w64 (a0.tdiv a1)) - 1))) else (some (w64 (a0.tdiv a1)))) else none
theorem Qeo (k : Nat) (a0 : Int) (a1 : Int) (r : Int) (h : Qan k a0 a1 = some r) : VC Try.prog 8 [vi a0, vi a1] (vi r) := by
 unfold Qan at h
 obtain ⟨h1339, h⟩ := ifn h
 rcases ifs h with ⟨h1340, h⟩ | ⟨h1340, h⟩
 ·injection h with h; subst h
  exact Qw pm pn Try.func8 (r0 := vi (w64 ((w64 (a0.tdiv a1)) - 1))) (ans := [.reg (.n :: []), .reg (nN 4 []), .reg (nN 4 []), .br true, .reg (nN 3 []), .reg (.n :: .n :: [])]) (fr := true) (by kernel_rfl) (an (an (ti tt) (an (ti (ti (an h1339 (ti tt)))) (an (an (ti (ti (an h1339 (ti tt)))) (an (dt h1340) (ti (ti (ti tt))))) (an (ti (ti tt)) tt)))) (ti tt)) (Wv.refl _)
 ·injection h with h; subst h
  exact Qw pm pn Try.func8 (r0 := vi (w64 (a0.tdiv a1))) (ans := [.reg (.n :: []), .reg (nN 4 []), .reg (nN 4 []), .br false, .reg (.n :: .n :: [])]) (fr := true) (by kernel_rfl) (an (an (ti tt) (an (ti (ti (an h1339 (ti tt)))) (an (an (ti (ti (an h1339 (ti tt)))) (an (df h1340) tt)) (an (ti (ti tt)) tt)))) (ti tt)) (Wv.refl _)
def Qb9 (k : Nat) (a0 : Int) (a1 : Int) : Option Int :=
 (Qan k (w64 (0 - a0)) a1).bind fun r1344 => (some (w64 (0 - r1344)))
theorem Qhy (k : Nat) (a0 : Int) (a1 : Int) (r : Int) (h : Qb9 k a0 a1 = some r) : VC Try.prog 9 [vi a0, vi a1] (vi r) := by
 unfold Qb9 at h
 obtain ⟨r1344, h1345, h⟩ := bs h
 have e1346 := (Qeo k (w64 (0 - a0)) a1 _ h1345)
 injection h with h; subst h
 exact Qw pm pn Try.func9 (r0 := vi (w64 (0 - r1344))) (ans := [.reg (.n :: []), .reg (nN 3 (.call (vi r1344) :: .n :: .n :: []))]) (fr := true) (by kernel_rfl) (an (an (ti tt) (an (ti (ti (ti (an e1346 (ti (ti tt)))))) tt)) (ti tt)) (Wv.refl _)
end Go.Proofs.Ytmaegladkjcmdaa.Vg
